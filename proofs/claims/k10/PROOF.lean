import PyProof.Rows.All
import Wide.All
import OpenK.AllK
import Wide.FinOn
import PySem.Challenge.RW_twinsieve_k10_longer_shortest_rows
import HandS.Iter
import KE.GoesEnum
import HandS.Walk
import HandS.ForMost
import HandS.Wide
import HandS.Steps
import PyProof.StrBlock2
import PyProof.ReprRoads
import PyProof.StrLawsRepr
import PyProof.FitsInt
import HandS.ForSpec
import HandS.ExcIs
import HandS.IsInst
import HandS.ExcValue
import HandS.TryOnly
import HandS.SetFor
import HandS.GenList
import HandS.Gcd
import HandS.Rev
import HandS.Style
import PyProof.ListStr
import PyProof.SliceStr2
import HandS.StrMore
import HandS.DictComp
import HandS.NoneIn
import HandS.Replace
import HandS.GenYield
import HandS.GenCall
import HandS.Codes
import HandS.Property
import HandS.Star
import HandS.ClsMeth
import HandS.ExcOwn
import HandS.CallLocal
import HandS.List
import PyProof.Rows.SortShellAny
import PyProof.Rows.StrMeet
import HandS.SortInts
set_option linter.all false
namespace Tw
/-! the mathematics of runs: plain Lean -/
/-- the runs of c repeated n times (so far) and then l -/
def runsFrom (c n : Nat) : List Nat → List (Nat × Nat)
  | [] => [(c, n)]
  | d :: r => if d = c then runsFrom c (n + 1) r else (c, n) :: runsFrom d 1 r
def runs : List Nat → List (Nat × Nat)
  | [] => []
  | c :: r => runsFrom c 1 r
/-- one more letter behind the runs so far -/
def addRun (rs : List (Nat × Nat)) (d : Nat) : List (Nat × Nat) :=
  match rs.getLast? with
  | some (c, n) => if c = d then rs.dropLast ++ [(d, n + 1)] else rs ++ [(d, 1)]
  | none => [(d, 1)]
theorem addRun_snoc (acc : List (Nat × Nat)) (c n d : Nat) : addRun (acc ++ [(c, n)]) d = if c = d then acc ++ [(d, n + 1)] else acc ++ [(c, n)] ++ [(d, 1)] := by
  simp [addRun]
theorem foldl_addRun : ∀ (l : List Nat) (acc : List (Nat × Nat)) (c n : Nat), l.foldl addRun (acc ++ [(c, n)]) = acc ++ runsFrom c n l
  | [], acc, c, n => rfl
  | d :: r, acc, c, n => by
    rw [List.foldl_cons, addRun_snoc, runsFrom]
    by_cases h : d = c
    · subst h
      rw [if_pos rfl, if_pos rfl]
      exact foldl_addRun r acc d (n + 1)
    · rw [if_neg (Ne.symm h), if_neg h]
      rw [foldl_addRun r (acc ++ [(c, n)]) d 1, List.append_assoc]
      rfl
theorem runs_foldl (l : List Nat) : l.foldl addRun [] = runs l := by
  cases l with
  | nil => rfl
  | cons c r => exact foldl_addRun r [] c 1
theorem runs_take {l : List Nat} {i c : Nat} (h : l[i]? = some c) : runs (l.take (i + 1)) = addRun (runs (l.take i)) c := by
  have e : l.take (i + 1) = l.take i ++ [c] := by
    rw [List.take_add_one, h]; rfl
  rw [← runs_foldl, ← runs_foldl, e, List.foldl_append]
  rfl
/-- what is kept of the runs: t is true for the sieve T -/
def keepRun (t : Bool) (p : Nat × Nat) : Bool := if t then decide (1 < p.2) else decide (p.2 = 1)
def kept (t : Bool) (rs : List (Nat × Nat)) : List Nat := (rs.filter (keepRun t)).map Prod.fst
def once (t : Bool) (l : List Nat) : List Nat := kept t (runs l)
/-- the same place by place: b tells if the one before is the same -/
def pend (t : Bool) : Bool → Nat → List Nat → List Nat
  | b, c, [] => if b = t then [c] else []
  | b, c, d :: r => if d = c then pend t true c r else (if b = t then [c] else []) ++ pend t false d r
theorem kept_cons (t : Bool) (p : Nat × Nat) (rs : List (Nat × Nat)) : kept t (p :: rs) = (if keepRun t p = true then [p.1] else []) ++ kept t rs := by
  unfold kept
  rw [List.filter_cons]
  split <;> simp
theorem keepRun_is (t : Bool) (c n : Nat) (hn : 1 ≤ n) : (keepRun t (c, n) = true) = (decide (2 ≤ n) = t) := by
  unfold keepRun
  cases t
  · by_cases h : n = 1
    · subst h; simp
    · have : 2 ≤ n := by omega
      simp [h, this]
  · by_cases h : 2 ≤ n
    · have : 1 < n := h
      simp [this, h]
    · have : ¬ 1 < n := h
      simp [this, h]
theorem kept_from (t : Bool) : ∀ (l : List Nat) (c n : Nat), 1 ≤ n → kept t (runsFrom c n l) = pend t (decide (2 ≤ n)) c l
  | [], c, n, hn => by
    have e := keepRun_is t c n hn
    rw [runsFrom, kept_cons, pend]
    simp only [e]
    simp [kept]
  | d :: r, c, n, hn => by
    rw [runsFrom, pend]
    by_cases h : d = c
    · subst h
      rw [if_pos rfl, if_pos rfl, kept_from t r d (n + 1) (by omega)]
      have : 2 ≤ n + 1 := by omega
      rw [decide_eq_true this]
    · have e := keepRun_is t c n hn
      rw [if_neg h, if_neg h, kept_cons, kept_from t r d 1 (by omega)]
      simp only [e]
      rfl
theorem once_cons (t : Bool) (c : Nat) (r : List Nat) : once t (c :: r) = pend t false c r := kept_from t r c 1 (by omega)
/-- the letter at i is kept, judged by its neighbours -/
def before (l : List Nat) (i : Nat) : Bool := decide (0 < i) && decide (l[i - 1]? = l[i]?)
def behind (l : List Nat) (i : Nat) : Bool := decide (i + 1 < l.length) && decide (l[i + 1]? = l[i]?)
def keepAt (t : Bool) (l : List Nat) (i : Nat) : Bool := (before l i == t) && !behind l i
def upTo (t : Bool) (l : List Nat) : Nat → List Nat
  | 0 => []
  | i + 1 => upTo t l i ++ (if keepAt t l i = true then [l.getD i 0] else [])
theorem upTo_rest (t : Bool) (l : List Nat) : ∀ (m i : Nat), i + m = l.length → upTo t l l.length = upTo t l i ++ (match l.drop i with | [] => [] | c :: r => pend t (before l i) c r)
  | 0, i, h => by
    have e : i = l.length := by omega
    subst e
    simp
  | m + 1, i, h => by
    have hi : i < l.length := by omega
    have hd : l.drop i = l[i] :: l.drop (i + 1) := List.drop_eq_getElem_cons hi
    have ih := upTo_rest t l m (i + 1) (by omega)
    rw [ih, upTo, List.append_assoc]
    congr 1
    rw [hd]
    have gi : l[i]? = some l[i] := List.getElem?_eq_getElem hi
    have gd : l.getD i 0 = l[i] := by simp [List.getD, gi]
    by_cases h2 : i + 1 < l.length
    · have hd2 : l.drop (i + 1) = l[i + 1] :: l.drop (i + 2) := List.drop_eq_getElem_cons h2
      have gi2 : l[i + 1]? = some l[i + 1] := List.getElem?_eq_getElem h2
      rw [hd2]
      simp only [pend]
      have bn : before l (i + 1) = decide (l[i] = l[i + 1]) := by
        unfold before
        simp [gi, gi2]
      have bh : behind l i = decide (l[i + 1] = l[i]) := by
        unfold behind
        simp [gi, gi2, h2]
      by_cases hc : l[i + 1] = l[i]
      · rw [if_pos hc]
        have k : keepAt t l i = false := by unfold keepAt; rw [bh, decide_eq_true hc]; simp
        rw [k, bn, decide_eq_true hc.symm, hc]
        simp
      · rw [if_neg hc]
        have k : keepAt t l i = (before l i == t) := by unfold keepAt; rw [bh, decide_eq_false hc]; simp
        rw [k, bn, decide_eq_false (Ne.symm hc), gd]
        simp
    · have hd2 : l.drop (i + 1) = [] := List.drop_eq_nil_of_le (by omega)
      rw [hd2]
      have bh : behind l i = false := by unfold behind; simp [h2]
      have k : keepAt t l i = (before l i == t) := by unfold keepAt; rw [bh]; simp
      simp only [pend]
      rw [k, gd]
      simp
theorem once_upTo (t : Bool) (l : List Nat) : upTo t l l.length = once t l := by
  cases l with
  | nil => rfl
  | cons c r =>
    have h := upTo_rest t (c :: r) (c :: r).length 0 (by simp)
    rw [h, once_cons]
    simp [upTo, before]
/-- pairs, counted place by place -/
def pairsUp (l : List Nat) : Nat → Nat
  | 0 => 0
  | i + 1 => pairsUp l i + (if l[i]? = l[i + 1]? then 1 else 0)
def pairs (l : List Nat) : Nat := pairsUp l (l.length - 1)
def pairsR : List Nat → Nat
  | c :: d :: r => (if c = d then 1 else 0) + pairsR (d :: r)
  | _ => 0
theorem pairsUp_cons (c : Nat) (l : List Nat) : ∀ i, pairsUp (c :: l) (i + 1) = (if some c = l[0]? then 1 else 0) + pairsUp l i
  | 0 => by simp [pairsUp]
  | i + 1 => by
    rw [pairsUp, pairsUp_cons c l i, pairsUp]
    simp only [List.getElem?_cons_succ]
    omega
theorem pairs_R : ∀ l : List Nat, pairs l = pairsR l
  | [] => rfl
  | [_] => rfl
  | c :: d :: r => by
    have ih := pairs_R (d :: r)
    unfold pairs at ih ⊢
    show pairsUp (c :: d :: r) (r.length + 1) = _
    rw [pairsUp_cons c (d :: r) r.length, pairsR, ← ih]
    have e : (some c = (d :: r)[0]?) = (c = d) := by simp
    simp only [e]
    rfl
theorem runsFrom_len : ∀ (l : List Nat) (c n : Nat), (runsFrom c n l).length + pairsR (c :: l) = l.length + 1
  | [], c, n => rfl
  | d :: r, c, n => by
    rw [runsFrom, pairsR]
    by_cases h : d = c
    · subst h
      rw [if_pos rfl, if_pos rfl]
      have := runsFrom_len r d (n + 1)
      simp only [List.length_cons]
      omega
    · rw [if_neg h, if_neg (Ne.symm h)]
      have := runsFrom_len r d 1
      simp only [List.length_cons]
      omega
theorem runs_len (l : List Nat) : (runs l).length + pairs l = l.length := by
  rw [pairs_R]
  cases l with
  | nil => rfl
  | cons c r => exact runsFrom_len r c 1
theorem runsFrom_pos : ∀ (l : List Nat) (c n : Nat), 1 ≤ n → ∀ p ∈ runsFrom c n l, 1 ≤ p.2
  | [], c, n, hn => by simp [runsFrom, hn]
  | d :: r, c, n, hn => by
    rw [runsFrom]
    split
    · exact runsFrom_pos r c (n + 1) (by omega)
    · intro p hp
      rcases List.mem_cons.mp hp with rfl | hp
      · exact hn
      · exact runsFrom_pos r d 1 (by omega) p hp
theorem runs_pos (l : List Nat) : ∀ p ∈ runs l, 1 ≤ p.2 := by
  cases l with
  | nil => simp [runs]
  | cons c r => exact runsFrom_pos r c 1 (by omega)
theorem kept_both : ∀ rs : List (Nat × Nat), (∀ p ∈ rs, 1 ≤ p.2) → (kept true rs).length + (kept false rs).length = rs.length
  | [], _ => rfl
  | p :: rs, h => by
    have ih := kept_both rs fun q hq => h q (List.mem_cons_of_mem _ hq)
    have hp := h p List.mem_cons_self
    rw [kept_cons, kept_cons]
    simp only [List.length_append, List.length_cons]
    have e1 := keepRun_is true p.1 p.2 hp
    have e2 := keepRun_is false p.1 p.2 hp
    by_cases c : 2 ≤ p.2
    · simp [e1, e2, c]; omega
    · simp [e1, e2, c]; omega
theorem once_both (l : List Nat) : (once true l).length + (once false l).length = l.length - pairs l := by
  have h1 := kept_both (runs l) (runs_pos l)
  have h2 := runs_len l
  unfold once
  omega
/-- letters of what is kept are letters of the row -/
theorem runsFrom_mem : ∀ (l : List Nat) (c n : Nat), ∀ p ∈ runsFrom c n l, p.1 ∈ c :: l
  | [], c, n => by simp [runsFrom]
  | d :: r, c, n => by
    rw [runsFrom]
    split
    · rename_i h
      intro p hp
      have := runsFrom_mem r c (n + 1) p hp
      rcases List.mem_cons.mp this with h | h
      · rw [h]; exact List.mem_cons_self
      · exact List.mem_cons_of_mem _ (List.mem_cons_of_mem _ h)
    · intro p hp
      rcases List.mem_cons.mp hp with rfl | hp
      · exact List.mem_cons_self
      · exact List.mem_cons_of_mem _ (runsFrom_mem r d 1 p hp)
theorem runs_mem (l : List Nat) : ∀ p ∈ runs l, p.1 ∈ l := by
  cases l with
  | nil => simp [runs]
  | cons c r => exact runsFrom_mem r c 1
theorem once_mem {t : Bool} {l : List Nat} {c : Nat} (h : c ∈ once t l) : c ∈ l := by
  obtain ⟨p, hp, rfl⟩ := List.mem_map.mp h
  exact runs_mem l p (List.mem_filter.mp hp).1
theorem runs_le (l : List Nat) : (runs l).length ≤ l.length := by have := runs_len l; omega
theorem kept_le (t : Bool) (rs : List (Nat × Nat)) : (kept t rs).length ≤ rs.length := by
  unfold kept
  rw [List.length_map]
  exact List.length_filter_le _ _
theorem once_le (t : Bool) (l : List Nat) : (once t l).length ≤ l.length := Nat.le_trans (kept_le t _) (runs_le l)
theorem kept_append (t : Bool) (a b : List (Nat × Nat)) : kept t (a ++ b) = kept t a ++ kept t b := by simp [kept]
end Tw

set_option Elab.async false
set_option linter.all false
set_option maxRecDepth 100000
set_option maxHeartbeats 2000000
namespace Tw
open PySem PySem.Spec PyProof.Rows L2

/-! walks that give out a tuple of plain values each turn -/
def ItP (f : Nat → List V) (n : Nat) : It :=
  ⟨fun i _ => i < n,
   fun i H v H' => ∃ T : Addr, v = V.ref T ∧ H T = none ∧ H' = upd H T (HO.tup (f i)),
   fun i _ => n ≤ i⟩

theorem turnP {P : Program} {w : World} {K : PySem.W.Frag} {elts : List Expr} {kk : Nat} {tpos : Pos}
    {a : Addr} {fp wr : List Addr} {n : Nat} {Pt : Nat → Array Value → Prop} {Sx : Nat → Heap → Prop} {Mid : Nat → Addr → Heap → Prop}
    (f : Nat → List V)
    (W : ∀ A : Around, A.handled = none → WalksT P w A a fp wr n Pt Sx Mid)
    (ma : a ∈ fp)
    (obj : ∀ i h, Sx i h → ∀ b ∈ fp, ∃ o, h.get? b = some o ∧ ∀ v, o.data ≠ .cell v)
    (rel : ∀ i vals, i < n → Pt i vals → ∃ us : List Value, vals = us.toArray ∧ Vals (f i) us)
    (len : ∀ i, (f i).length ≤ sizeLine)
    (sf : ∀ (A : Around) (i : Nat) (s : Shared) (Q : Value → Shared → Prop) (E : Value → Shared → Prop), Sx i s.heap → Q (.ref a) s → wpAny (model P w) A (pyIter (.ref a)) Q E s) :
    Turn P w K (Expr.Tuple elts kk tpos) (ItP f n) fp a (fun i h => i ≤ n ∧ Sx i h) where
  mem := ma
  obj := fun i h st => obj i h st.2
  keep := fun i h h' st k => ⟨st.1, (W { handled := none, depth := 0, units := 0, frames := none, guards := none } rfl).frame i h h' st.2 k⟩
  item := by
    intro X hP hw hK hc i pins s σ H E I hf st hg
    subst hP; subst hw; subst hK
    have hi : i < n := hg
    have W0 := W X.A (I.ok.hd hc)
    refine W0.item i s _ E hi st.2 fun T vals h' tk hv hT tup mid kp => ?_
    obtain ⟨us, rfl, rv⟩ := rel i vals hi hv
    refine ⟨_, rfl, W0.go elts kk tpos i T { s with heap := h', toks := tk } _ E mid fun h2 st2 kp2 => ?_⟩
    have nw : T ∉ wr := W0.apart i T h' mid
    have tup2 : h2.IsTuple T us.toArray := by
      obtain ⟨o, ho, r⟩ := tup
      exact ⟨o, kp2 T o nw ho, r⟩
    have new : ObjOk X.prog X.w (upd H T (HO.tup (f i))) h2 T (HO.tup (f i)) := ⟨len i, us, rv, tup2⟩
    have I1 : Inv X pins σ (upd H T (HO.tup (f i))) { s with heap := h2, toks := tk } :=
      I.turnedNew (ch := wr) (fun b o hb e => kp2 b o hb (kp b o hb e)) (fun b hb => hf b (W0.sub b hb)) hT new
    refine ⟨V.ref T, _, I1, rfl, ⟨T, rfl, I.hok.fresh hT, rfl⟩, ⟨hi, st2⟩, fun b hb => ?_⟩
    have ne : b ≠ T := fun e => by
      obtain ⟨o, ho, _⟩ := obj i s.heap st.2 b hb
      have l := Heap.lt_size ho
      rw [e] at l
      exact absurd (Nat.lt_of_lt_of_le l hT) (Nat.lt_irrefl _)
    rw [upd_ne ne]
    exact (hf b hb).1
  done := by
    intro X hP hw hK hc i pins s σ H E I hf st hg
    subst hP; subst hw; subst hK
    have hi : n ≤ i := hg
    have e : i = n := Nat.le_antisymm st.1 hi
    subst e
    have W0 := W X.A (I.ok.hd hc)
    exact W0.done s _ E st.2 fun h' tk kp => ⟨rfl, I.turnedL (ch := wr) kp fun b hb => hf b (W0.sub b hb)⟩
  self := fun A i s Q E st q => sf A i s Q E st.2 q

theorem walkP {f : Nat → List V} {n : Nat} : Walk (ItP f n) n (fun _ => True) (fun i H v H' => ∃ T : Addr, v = V.ref T ∧ H T = none ∧ H' = upd H T (HO.tup (f i))) :=
  ⟨fun _ _ h _ => h, fun _ _ => Nat.le_refl _, fun _ _ _ _ _ _ y => y⟩

/-- a text's iterator, whatever its signs -/
theorem drawsS {P : Program} {w : World} {A : Around} (hh : A.handled = none) (it : Addr) (x : Str) (t : Tok) :
    Draws P w A it [it] x.cps.size (fun i v => ∃ c u, x.cps[i]? = some c ∧ v = .str ⟨#[c]⟩ u) (fun i h => h.IsStrIter it (strIterType x) x t i) := by
  unfold strIterType
  split
  · exact Draws.strAscii hh it x t
  · exact Draws.strWide hh it x t
theorem beginsS (x : Str) (t : Tok) : Begins (.str x t) { cls := .type (strIterType x), data := .fields #[.str x t, .int 0 0] } fun _ => True where
  iter := fun prog w A E s Q _ h => by
    cases ha : x.cps.all (· < 128)
    · exact wpAny_pyIter_wide ha (by simpa [strIterType, ha] using h)
    · exact wpAny_pyIter_ascii ha (by simpa [strIterType, ha] using h)
  keeps := fun _ _ _ _ => trivial
  free := rfl
def sgn (x : Str) (i : Nat) : V := V.str ⟨#[x.cps.getD i 0]⟩
theorem sgn_rel {x : Str} {i c : Nat} {u : Tok} (h : x.cps[i]? = some c) : RelV (sgn x i) (.str ⟨#[c]⟩ u) := by
  have e : x.cps.getD i 0 = c := by
    rw [Array.getD_eq_getD_getElem?, h]; rfl
  exact ⟨u, by rw [e]⟩

/-! enumerate(text) -/
def iEnumS (ta : TA) : TI := fun σ H R => ta σ H fun vs H1 => ∃ x : Str, vs = [V.str x] ∧ R (ItP (fun i => [V.int (i : Nat), sgn x i]) x.cps.size) H1
theorem pi_enumS {X : Cx} {e : Expr} {ta : TA} {p pos tpos : Pos} {elts : List Expr} {kk : Nat} (hg : Gl X "enumerate") (hm : X.mg "enumerate" = none) (ha : PA X [e] ta)
    (hs : starEach [e] X.env = [(false, eval e X.env)] := by rfl) : PI X (.Tuple elts kk tpos) (.Call (.Name "enumerate" p) [e] [] pos) (iEnumS ta) := by
  refine ⟨fun pins s σ H R I h => ?_⟩
  refine Call_ (ld_blt I hg hm boot_enumerate (callWith_type1 (thn (ha.run pos pins s σ H _ I h) fun us s1 hh => ?_) hs rfl))
  obtain ⟨vs, H1, I1, r1, x, rfl, q⟩ := hh
  cases r1 with
  | cons r rr =>
    cases rr
    obtain ⟨t, rfl⟩ := r
    refine call_enumerate_str fun h' he hit hsz hk => wpAny_pyIter_enum he ?_
    have I2 : Inv X pins σ H1 { s1 with heap := h' } := I1.kept (t' := s1.toks) hk
    refine ⟨s1.heap.objs.size + 1, [s1.heap.objs.size + 1, s1.heap.objs.size], _, _, H1, rfl, I2,
      turnP (wr := [s1.heap.objs.size + 1, s1.heap.objs.size]) (fun i => [V.int (i : Nat), sgn x i])
        (fun A hA => WalksT.enumerateD (drawsS (A := A.in1) hA s1.heap.objs.size x t) (s1.heap.objs.size + 1) (Nat.succ_ne_self _) (by simp) (by simp))
        (by simp) ?_ ?_ ?_ ?_, ⟨Nat.zero_le _, ⟨_, he⟩, hit⟩, ?_, q⟩
    · rintro i h ⟨⟨old, e1⟩, o, e2, c2, d2⟩ b hb
      rcases List.mem_cons.mp hb with z | z
      · rw [z]; exact ⟨_, e1, fun v q => nomatch q⟩
      · rw [List.mem_singleton.mp z]; exact ⟨o, e2, fun v q => by rw [d2] at q; cases q⟩
    · rintro i vals hi ⟨t1, y, ⟨c, u, hc, rfl⟩, rfl⟩
      exact ⟨[.int i t1, .str ⟨#[c]⟩ u], rfl, .cons ⟨t1, rfl⟩ (.cons (sgn_rel hc) .nil)⟩
    · intro i
      show 2 ≤ sizeLine
      decide
    · rintro A i s Q E ⟨⟨old, e1⟩, _⟩ q
      exact wpAny_pyIter_enum e1 q
    · intro b hb
      have hle : s1.heap.objs.size ≤ b := by
        rcases List.mem_cons.mp hb with z | z
        · rw [z]; exact Nat.le_succ _
        · rw [List.mem_singleton.mp z]; exact Nat.le_refl _
      exact I1.fpOk hle (I1.hok.fresh hle)

/-! zip(text, text) -/
def iZipS (ta : TA) : TI := fun σ H R => ta σ H fun vs H1 => ∃ x y : Str, vs = [V.str x, V.str y] ∧ R (ItP (fun i => [sgn x i, sgn y i]) (min x.cps.size y.cps.size)) H1
theorem pi_zipS {X : Cx} {e e2 : Expr} {ta : TA} {p pos tpos : Pos} {elts : List Expr} {kk : Nat} (hg : Gl X "zip") (hm : X.mg "zip" = none) (ha : PA X [e, e2] ta)
    (hs : starEach [e, e2] X.env = (false, eval e X.env) :: starEach [e2] X.env := by rfl) (hpl : (backTo pos (starEach [e2] X.env)).any (·.1) = false := by rfl) :
    PI X (.Tuple elts kk tpos) (.Call (.Name "zip" p) [e, e2] [] pos) (iZipS ta) := by
  refine ⟨fun pins s σ H R I h => ?_⟩
  refine Call_ (ld_blt I hg hm boot_zip (callWith_type1 (thn (ha.run pos pins s σ H _ I h) fun us s1 hh => ?_) hs hpl))
  obtain ⟨vs, H1, I1, r1, x, y, rfl, q⟩ := hh
  cases r1 with
  | cons r rr =>
    cases rr with
    | cons r' rr =>
      cases rr
      obtain ⟨t, rfl⟩ := r
      obtain ⟨t', rfl⟩ := r'
      refine zip_begins2 (beginsS x t) (beginsS y t') trivial trivial fun h' hz hTI hTO h1 h2 hsz hk => wpAny_pyIter_zip hz ?_
      have I2 : Inv X pins σ H1 { s1 with heap := h' } := I1.kept (t' := s1.toks) hk
      have S : ZipSep2 (s1.heap.objs.size + 4) (s1.heap.objs.size + 2) (s1.heap.objs.size + 3) s1.heap.objs.size (s1.heap.objs.size + 1) [s1.heap.objs.size] [s1.heap.objs.size + 1] :=
        zip_sep2 (fp1 := []) (fp2 := []) (by simp) (by simp)
      refine ⟨s1.heap.objs.size + 4, _, _, _, H1, rfl, I2,
        turnP (fun i => [sgn x i, sgn y i])
          (fun A hA => WalksT.zipD2 S (drawsS (A := A.in1) hA s1.heap.objs.size x t) (drawsS (A := A.in1) hA (s1.heap.objs.size + 1) y t'))
          (by simp) ?_ ?_ ?_ ?_, ⟨Nat.zero_le _, hz, hTI, ⟨_, _, hTO⟩, ⟨_, h1, rfl, rfl⟩, ⟨_, h2, rfl, rfl⟩⟩, ?_, q⟩
      · rintro i h ⟨ez, eI, ⟨a1, a2, eO⟩, ⟨o1, e1, _, d1⟩, ⟨o2, e2, _, d2⟩⟩ b hb
        have hb' : b = s1.heap.objs.size + 4 ∨ b = s1.heap.objs.size + 2 ∨ b = s1.heap.objs.size + 3 ∨ b = s1.heap.objs.size ∨ b = s1.heap.objs.size + 1 := by simpa using hb
        rcases hb' with z | z | z | z | z
        · rw [z]; exact ⟨_, ez, fun v q => nomatch q⟩
        · rw [z]; exact ⟨_, eI, fun v q => nomatch q⟩
        · rw [z]; exact ⟨_, eO, fun v q => nomatch q⟩
        · rw [z]; exact ⟨o1, e1, fun v q => by rw [d1] at q; cases q⟩
        · rw [z]; exact ⟨o2, e2, fun v q => by rw [d2] at q; cases q⟩
      · rintro i vals hi ⟨v1, v2, ⟨c, u, hc, rfl⟩, ⟨c2, u2, hc2, rfl⟩, rfl⟩
        exact ⟨[.str ⟨#[c]⟩ u, .str ⟨#[c2]⟩ u2], rfl, .cons (sgn_rel hc) (.cons (sgn_rel hc2) .nil)⟩
      · intro i
        show 2 ≤ sizeLine
        decide
      · rintro A i s Q E ⟨ez, _⟩ q
        exact wpAny_pyIter_zip ez q
      · intro b hb
        have hb' : b = s1.heap.objs.size + 4 ∨ b = s1.heap.objs.size + 2 ∨ b = s1.heap.objs.size + 3 ∨ b = s1.heap.objs.size ∨ b = s1.heap.objs.size + 1 := by simpa using hb
        have hle : s1.heap.objs.size ≤ b := by
          rcases hb' with z | z | z | z | z <;> rw [z] <;> first | exact Nat.le_refl _ | exact Nat.le_add_right _ _
        exact I1.fpOk hle (I1.hok.fresh hle)
end Tw

set_option Elab.async false
set_option linter.all false
set_option maxRecDepth 100000
set_option maxHeartbeats 2000000
namespace Tw
open PySem PySem.Spec PyProof.Rows L2

/-- a text by its signs -/
def mk (l : List Nat) : Str := ⟨l.toArray⟩
theorem mk_len (l : List Nat) : (mk l).length = l.length := by simp [mk, Str.length]
theorem mk_app (a b : List Nat) : mk a ++ mk b = mk (a ++ b) := TL.ext_tl (by rw [TL.tl_append]; rfl)
theorem mk_inj {a b : List Nat} : mk a = mk b ↔ a = b := ⟨fun h => by
  have e := congrArg TL.tl h
  exact e, fun h => by rw [h]⟩
theorem mk_tl (x : Str) : mk (TL.tl x) = x := TL.mk_tl x
def reps (n : Nat) (l : List Nat) : List Nat := (List.replicate n l).flatten

theorem foldl_app (l : List Nat) : ∀ (n : Nat) (acc : List Nat), ((List.replicate n l.toArray).foldl (· ++ ·) acc.toArray).toList = acc ++ (List.replicate n l).flatten
  | 0, acc => by simp
  | n + 1, acc => by
    rw [List.replicate_succ, List.foldl_cons]
    have e : acc.toArray ++ l.toArray = (acc ++ l).toArray := by simp
    rw [e, foldl_app l n (acc ++ l), List.replicate_succ, List.flatten_cons, List.append_assoc]
theorem txt_mul (l : List Nat) (n : Nat) : Txt.mul (mk l) (n : Int) = mk (reps n l) := by
  unfold Txt.mul
  by_cases h1 : (n : Int) < 1
  · rw [if_pos h1]
    have e : n = 0 := by omega
    subst e
    rfl
  · rw [if_neg h1]
    by_cases h2 : ((n : Int) == 1 || (mk l).length == 0) = true
    · rw [if_pos h2]
      rcases Bool.or_eq_true _ _ ▸ h2 with h | h
      · have e : n = 1 := by have := eq_of_beq h; omega
        subst e
        simp [reps]
      · have e : (mk l).length = 0 := eq_of_beq h
        rw [mk_len] at e
        have e2 : l = [] := List.eq_nil_of_length_eq_zero e
        subst e2
        have z : reps n [] = [] := by simp [reps]
        rw [z]
    · rw [if_neg h2]
      refine TL.ext_tl ?_
      have := foldl_app l n []
      simpa [TL.tl, mk, reps] using this
theorem mulOk_of {l : List Nat} {n : Nat} (h : l.length * n ≤ 1000000) (hn : n ≤ 1000000) : MulOk (mk l) (n : Int) := by
  refine ⟨?_, fun h1 h2 => ?_, fun h1 h2 => ?_⟩
  · have a : ¬ (n : Int) < -(2 ^ 63) := by omega
    have b : ¬ (n : Int) ≥ 2 ^ 63 := by omega
    rw [decide_eq_false a, decide_eq_false b]; rfl
  · rw [mk_len]
    intro h3
    have hpos : (0 : Int) < n := by omega
    have h4 : (l.length : Int) * n ≤ 1000000 := by
      rw [← Int.natCast_mul]
      exact Int.ofNat_le.mpr h
    have h5 : ((2 : Int) ^ 63 - 1) / n + 1 ≤ l.length := h3
    have h6 := Int.lt_ediv_add_one_mul_self ((2 : Int) ^ 63 - 1) hpos
    have h7 : (((2 : Int) ^ 63 - 1) / n + 1) * n ≤ (l.length : Int) * n := Int.mul_le_mul_of_nonneg_right h5 (by omega)
    omega
  · rw [mk_len]
    show decide _ = false
    refine decide_eq_false ?_
    rw [Int.toNat_natCast]
    have : sizeLine = 16777216 := sizeLine_eq
    omega
section
variable {X : Cx}
/-- text * int -/
theorem op_mulS : OpR X (binaryOp .Mult) (fun x y H Q => ∃ (l : List Nat) (n : Nat), x = .str (mk l) ∧ y = .int (n : Nat) ∧ (l.length * n ≤ 1000000 ∧ n ≤ 1000000) ∧ Q (.str (mk (reps n l))) H) := by
  intro pins s σ H x y v u Q I rx ry h
  obtain ⟨l, n, rfl, rfl, hz, q⟩ := h
  obtain ⟨t, rfl⟩ := rx
  obtain ⟨t', rfl⟩ := ry
  refine SB.mul (mulOk_of hz.1 hz.2) fun t2 k => ⟨.str (mk (reps n l)), H, I.tok _, ⟨t2, ?_⟩, q⟩
  rw [txt_mul]
/-- a power of a great int -/
def CPowW (i j : Int) : Prop := 0 ≤ j ∧ j ≤ 1000 ∧ i.natAbs.log2 < 10000
theorem op_powW : OpR X (binaryOp .Pow) (rI CPowW fun i j => .int (i ^ j.toNat)) := opI fun i j _ _ _ _ _ hc q => by
  refine pow_int hc.1 ?_ q
  have b : Builtin.Int.intBits i ≤ i.natAbs.log2 + 1 := by
    unfold Builtin.Int.intBits
    split <;> omega
  have h1 := hc.2.2
  have h2 : (Builtin.Int.intBits i : Int) ≤ 10000 := by omega
  have h3 : (Builtin.Int.intBits i : Int) * j ≤ 10000 * 1000 := Int.mul_le_mul h2 hc.2.1 hc.1 (by decide)
  omega
end
end Tw

set_option Elab.async false
set_option linter.all false
set_option maxRecDepth 100000
set_option maxHeartbeats 2000000
namespace Tw
open PySem PySem.Spec PyProof.Rows L2

/-! repr of data, where it is known that no repr runs around -/
theorem call_reprD {X : Cx} (hg : X.A.guards = some []) (hu : X.A.units + 64 < cLine) :
    CallR X (.builtin "repr") (fun xs H Q => ∃ (p : Addr) (d : PyData), xs = [V.ref p] ∧ Dp X.K H (V.ref p) d ∧ d.showable = true ∧ d.hasDict = false ∧ d.depth ≤ 50 ∧ d.shown.length ≤ sizeLine ∧ Q (V.str d.shown) H) := by
  intro pins s σ H xs us Q I r h
  obtain ⟨p, d, rfl, hd, h1, h2, h3, h4, q⟩ := h
  obtain ⟨u, rfl, ru⟩ := vals1 r
  obtain ⟨as, rd⟩ := Dp.reads I d _ _ hd ru
  obtain rfl : u = Value.ref p := ru
  exact repr_of_reads' rd h1 (PyData.noDict_hsm h2) hg (by omega) (fun _ _ e => e) (fun h' u2 tk hk => ⟨V.str d.shown, H, I.kept hk, ⟨u2, rfl⟩, q⟩) h4

/-! a def called from outside, at one stack that is known -/
def RunA (P : Program) (w : World) (K : PySem.W.Frag) (mg : Str → Option Value) (base : Heap) (CX : CXT) (A : Around) (f : Addr) (fd : FuncData) (ps : List Str) (sp : Sp) : Prop :=
  ∀ (s : Shared) (H : Hp) (args : Args) (us : List Value) (vs : List V) (Q : VK) (E : XK), Env0 P w K mg base A [] s H → BindsTo s fd args (ps.zip us) → Vals vs us → sp vs H Q E →
    codeAny (model P w) A (.call (.ref f) args) (CR CX [] P w H s Q E) s
section
variable {P : Program} {w : World} {K : PySem.W.Frag} {mg : Str → Option Value} {base : Heap} {CX : CXT} {A : Around}
theorem runA_of {x qual : Str} {st : Stmt} {f : Addr} {fd : FuncData} {N ps : List Str} {k : Nat} {sp : Sp} (F : Fun K x qual st f fd) (S : FnScope N ps (defScope st)) (hr : Room (k + 1) A)
    (len : ∀ vs H Q E, sp vs H Q E → vs.length = ps.length)
    (hbody : ∀ (cdv : Value) (s : Shared) (H : Hp) (vs : List V) (Q : VK) (E : XK), Room k (A.deeper (envOfC qual (defScope st) s.heap.objs.size f cdv)) → sp vs H Q E →
      ∃ t, PSs (cxOf CX P w K mg base N qual (defScope st) f cdv A [] s H E) (defBody st) t ∧ t { nx := fun _ H' => Q .non H', rt := Q } (start N vs) H) : RunA P w K mg base CX A f fd ps sp := by
  obtain ⟨oc, od, kV, doc, pm, an, cdv, ct, osl, rfl, lk, hcd⟩ := F.ex
  intro s H args us vs Q E e0 hb rv hsp
  have all : ∀ b o, base.get? b = some o → s.heap.get? b = some o := fun b o e => (e0.bs b o e).1
  have KX : K.In s.heap := e0.mod.kin.keeps all
  have par : ∀ y ∈ ps.zip us, (defScope st).names.lookup y.1 = some .local ∨ ((defScope st).names.lookup y.1 = some .cell ∧ ((cellsFrom (s.heap.objs.size + 1) (defScope st).names []).lookup y.1).isSome = true) := by
    rintro ⟨n, v⟩ hy
    exact (S.par n (List.of_mem_zip hy).1).imp id fun q => ⟨q, PySem.W.cellsFrom_some _ _ _ (.inl q)⟩
  refine codeAny_call_function hr.depth (KX _ _ lk) rfl S.co S.gen rfl (PySem.W.codeRec_of KX hcd) (hb _ _ _ _ ?_)
  refine wpAny_newFunctionEnv_cells S.kind par fun env he s1 x => ?_
  subst he
  refine ⟨(e0.mod.nolimit.keeps all).keeps x.toInCall.keep, codeAny_func ?_⟩
  obtain ⟨t, ht, hq⟩ := hbody cdv s H vs Q E (hr.deeper _) hsp
  refine wpAny_mono (ht.run [] s1 (start N vs) H _ (inv_start S hr.hd e0 (len _ _ _ _ hsp) rv x) hq) (fun fl s' hs => ?_) fun _ _ hs => hs
  cases fl with
  | ret u =>
    obtain ⟨v, σ', H', J, rv', q⟩ := hs
    exact ⟨v, H', J.os, J.bare, J.base, J.hok, rv', q⟩
  | next =>
    obtain ⟨σ', H', J, q⟩ := hs
    exact ⟨V.non, H', J.os, J.bare, J.base, J.hok, rfl, q⟩
  | brk =>
    obtain ⟨_, _, _, q⟩ := hs
    exact q.elim
  | cont =>
    obtain ⟨_, _, _, q⟩ := hs
    exact q.elim
/-- the law's call -/
theorem law_callA {mb : Str → Option Value} {fa a : Addr} {fd : FuncData} {x : Str} {sp : Sp} {s₁ : Shared} {vs : List Value} {ns : List Int}
    (KX : K.In s₁.heap) (hns : s₁.heap.Ns mainGlobals mg) (hb : s₁.heap.Ns builtinsNs mb) (hbb : ∀ x : Str, x ≠ "__name__" → mb x = bootBuiltins x) (hlim : s₁.heap.NoLimit) (hg : s₁.gens = #[])
    (ha : s₁.heap.get? a = some { cls := .type "list", data := .seq vs.toArray }) (hi : IntsAre vs ns) (hl : ns.length ≤ sizeLine)
    (F : ∀ base : Heap, K.In base → base.Ns mainGlobals mg → RunA P w K mg base CX callerA fa fd [x] sp) (hbind : ∀ (s : Shared) (u : Value), BindsTo s fd ⟨[u], []⟩ [(x, u)])
    (hsp : ∀ H : Hp, Only H → SqL K H a (ns.map V.int) → sp [.ref a] H (fun v _ => v = .bl true) fun _ _ _ => False)
    (hCX : ∀ H e s', CX [] H s₁ (fun _ _ _ => False) e s' → False) :
    codeAny (model P w) callerA (.call (.ref fa) ⟨[.ref a], []⟩) (fun r s' => r = .ok (.ret (.bool true)) ∧ OldK s₁.heap s'.heap ∧ s'.os = s₁.os ∧ AllBare s'.gens) s₁ := by
  have rv := vals_ints hi
  have lv := hi.length
  -- the abstract heap: the script alone, if it is no object of the written part
  have main : ∀ H : Hp, (∀ b u, H b = some u → b = a ∧ u = .frz { cls := .type "list", data := .seq vs.toArray } (.lst (ns.map V.int)) ∧ K.lookup a = none) → SqL K H a (ns.map V.int) →
      codeAny (model P w) callerA (.call (.ref fa) ⟨[.ref a], []⟩) (fun r s' => r = .ok (.ret (.bool true)) ∧ OldK s₁.heap s'.heap ∧ s'.os = s₁.os ∧ AllBare s'.gens) s₁ := by
    intro H hH hS
    have only : Only H := fun b => by
      cases q : H b with
      | none => exact .inl rfl
      | some u => exact .inr ⟨_, _, by rw [(hH b u q).2.1]⟩
    have hok : HOk P w H s₁.heap := fun b u q => by
      obtain ⟨rfl, rfl, _⟩ := hH b u q
      exact ⟨ha, by rw [List.length_map]; exact hl, vs, _, rv, ha⟩
    -- what stands apart from the script stands in the base
    have apart : ∀ b o, s₁.heap.get? b = some o → (b = a → K.lookup a ≠ none ∨ False) → H b = none := fun b o e h => by
      cases q : H b with
      | none => rfl
      | some u =>
        obtain ⟨e1, _, e3⟩ := hH b u q
        exact absurd e3 ((h e1).elim id False.elim)
    have nsB : ∀ {b : Addr} {m : Str → Option Value}, s₁.heap.Ns b m → (hidT s₁.heap H).Ns b m := by
      rintro b m ⟨o, es, ep, e, d, r⟩
      refine ⟨o, es, ep, hidT_get e ?_, d, r⟩
      cases q : H b with
      | none => rfl
      | some u =>
        rw [(hH b u q).1, ha] at e
        cases e
        exact Data.noConfusion d
    have kB : K.In (hidT s₁.heap H) := fun b o e => hidT_get (KX b o e) (by
      cases q : H b with
      | none => rfl
      | some u =>
        obtain ⟨e1, _, e3⟩ := hH b u q
        rw [e1, e3] at e
        cases e)
    obtain ⟨mc, c1, c2⟩ := hlim
    have e0 : Env0 P w K mg (hidT s₁.heap H) callerA [] s₁ H :=
      ⟨rfl, ⟨kB, nsB hns, ⟨mb, nsB hb, hbb⟩, ⟨mc, nsB c1, c2⟩⟩, fun b o e => of_hidT e, Nat.le_of_eq (hidT_size _ _), trivial, fun b hb => absurd hb (by intro z; cases z), hok, .of_eq hg⟩
    refine codeAny_mono (F _ kB (nsB hns) s₁ H ⟨[.ref a], []⟩ [.ref a] [.ref a] _ _ e0 (hbind s₁ (.ref a)) (.cons rfl .nil) (hsp H only hS)) fun r s' h => ?_
    match r, h with
    | .error e, h => exact (hCX H e s' h).elim
    | .ok .next, h => exact False.elim h
    | .ok .brk, h => exact False.elim h
    | .ok .cont, h => exact False.elim h
    | .ok (.ret u), h =>
      obtain ⟨v, H', os, bare, un, hok', r', q⟩ := h
      have q' : v = V.bl true := q
      rw [q'] at r'
      have eu : u = Value.bool true := r'
      rw [eu]
      refine ⟨rfl, OldK.of_keep fun b o e => ?_, os, bare⟩
      cases q2 : H b with
      | none => exact un.keep b o e q2 (by intro z; cases z) (by intro z; cases z)
      | some u2 =>
        obtain ⟨e1, e2, _⟩ := hH b u2 q2
        rw [e2] at q2
        have t2 := (hok' b _ (un.frzs b _ _ q2)).1
        rw [e1] at e t2 ⊢
        rw [ha] at e
        rw [← e]
        exact t2
  cases hk : K.lookup a with
  | some o =>
    have e := KX a o hk
    rw [ha] at e
    cases e
    exact main (fun _ => none) (fun b u z => nomatch z) (.inr ⟨_, vs.toArray, _, hk, rfl, rfl, rfl, by rw [List.size_toArray, lv]; exact hl, by simpa using rv⟩)
  | none =>
    refine main (fun b => if b = a then some (.frz { cls := .type "list", data := .seq vs.toArray } (.lst (ns.map V.int))) else none) (fun b u z => ?_) (.inl (.inr ⟨_, if_pos rfl⟩))
    by_cases hb : b = a
    · have z' := (if_pos hb).symm.trans z
      exact ⟨hb, (Option.some.inj z').symm, hk⟩
    · have z' := (if_neg hb).symm.trans z
      cases z'
end
theorem walkA_of {l : PySem.W.OpenLaw} {n : Nat} {q : Program} {loose : List Str} {XP : (Str → Option Value) → Heap → Prop} {YP : World → Heap → Prop} {d : DefRec} {K : Params → PySem.W.Frag} {sp : World → Sp} {x : Str}
    (hn : l.most = some n) (hn2 : n ≤ sizeLine) (hdf : d.params.defaults = [])
    (hY : ∀ (w : World) (h : Heap), YP w h → (K w.params).In h)
    (F : ∀ (w : World) (mg : Str → Option Value) (fa : Addr) (h : Heap), (K w.params).In h → h.Ns mainGlobals mg → mg d.name = some (.ref fa) →
      ∃ fd : FuncData, (∀ (s : Shared) (u : Value), BindsTo s fd ⟨[u], []⟩ [(x, u)]) ∧
        ∀ base : Heap, (K w.params).In base → base.Ns mainGlobals mg → RunA l.prog w (K w.params) mg base CX0 callerA fa fd [x] (sp w))
    (hsp : ∀ (w : World) (H : Hp) (a : Addr) (ns : List Int), ns.length ≤ n → Only H → SqL (K w.params) H a (ns.map V.int) → sp w [.ref a] H (fun v _ => v = .bl true) fun _ _ _ => False) :
    PySem.W.WalkO q loose XP YP l.row.toRowW d [] (fun f vs => PySem.call f vs) := by
  refine Att.attach_call hn hdf fun w s₀ s₁ mg mb fa o pm cd doc a vs ns G Y ho hd hcd hmg hobj hints hlen hg => ?_
  have KX := hY w _ Y
  obtain ⟨fd, hb, hF⟩ := F w mg fa _ KX G.T.g hmg
  exact law_callA KX G.T.g G.T.b G.T.builtins G.T.nolimit hg hobj hints (Nat.le_trans hlen hn2) hF hb (fun H hO hS => hsp w H a ns hlen hO hS) fun _ _ _ h => h
end Tw

set_option Elab.async false
set_option linter.all false
set_option maxRecDepth 100000
set_option maxHeartbeats 2000000
namespace Tw
open PySem PySem.Spec PyProof.Rows L2
/-! a call by keywords alone -/
section
variable {X : Cx} {CX : CXT} {k : Nat} {f : Addr} {fd : FuncData} {ps ks : List Str} {sp : Sp} {E : XK} {x : Str} {p pos : Pos} {kws : List Keyword} {tk : TA} {g : List Value → List Value → List Value} {gV : List V → List V → List V}
theorem pe_callK0 (F : FnOk X.prog X.w X.K X.mg X.base CX k f fd ps sp) (hr : Room k X.A) (hg : Gl X x) (hm : X.mg x = some (.ref f)) (hk : PySem.W.keepIn X.K (.ref f) = true)
    (hb : KBinds X.K fd ps ks g gV) (hx : Passes CX X E) (hkw : PK X kws tk)
    (hall : (backToKw pos (keywordEach kws X.env)).all (·.1.isSome) = true := by rfl)
    (hks : (backToKw pos (keywordEach kws X.env)).filterMap (·.1) = ks := by rfl)
    (hdb : (x == ("__debug__" : Str)) = false := by decide)
    (hpl : ((backTo pos (starEach [] X.env)).any (·.1) || (backToKw pos (keywordEach kws X.env)).any (·.1.isNone)) = false := by rfl) :
    PE X (.Call (.Name x p) [] kws pos) (fun σ H Q => tk σ H fun zs H2 => sp (gV [] zs) H2 Q E) := by
  refine ⟨fun pins s σ H Q I h => wpAny_Call_Name_kw (ld_glob I hg hm ?_ hdb)⟩
  refine PySem.W.callWith_KW0 (h₀ := X.base) I.ok.mod.kin hk hall (thn (hkw.run pos pins s σ H _ I h) ?_) hpl
  rintro ws s2 ⟨zs, H2, I2, rz, q⟩
  refine ⟨I2.kIn, ?_⟩
  rw [hks]
  exact run_fnk (us := []) (vs := []) F hr hb hx I2 .nil rz q
end
theorem fun_kbinds {K : PySem.W.Frag} {x qual : Str} {st : Stmt} {f : Addr} {fd : FuncData} {ps ks : List Str} {g : List Value → List Value → List Value} {gV : List V → List V → List V} (F : Fun K x qual st f fd)
    (h : ∀ (kV doc pm : Value) (an : Option Addr) (cdv ct : Value) (us ws : List Value), (g us ws).length = ps.length → bindArgs (PySem.W.fnOf x qual (defArgs st) (defBody st) (defScope st) .none kV doc pm an cdv ct) ⟨us, ks.zip ws⟩ = pure (ps.zip (g us ws)))
    (rel : ∀ {vs : List V} {us : List Value} {zs : List V} {ws : List Value}, Vals vs us → Vals zs ws → Vals (gV vs zs) (g us ws)) : KBinds K fd ps ks g gV := by
  obtain ⟨oc, od, kV, doc, pm, an, cdv, ct, osl, rfl, lk, hcd⟩ := F.ex
  exact ⟨fun s us ws _ hl => .of_eq (h kV doc pm an cdv ct us ws hl), rel⟩
theorem vals_rev {zs : List V} {ws : List Value} (h : Vals zs ws) : Vals zs.reverse ws.reverse := by
  induction h with
  | nil => exact .nil
  | cons r t ih =>
    rw [List.reverse_cons, List.reverse_cons]
    exact Vals.append ih (.cons r .nil)

/-! how long a text repr makes -/
theorem textFrom_le : ∀ (ts : List Str) (k : Nat) (acc : Str), (textFrom k acc ts).length ≤ acc.length + piled ts
  | [], _, acc => by
    show acc.length ≤ _
    omega
  | t :: r, k, acc => by
    have ih := textFrom_le r (k + 1) (acc ++ (if k > 0 then ", " else "" : String) ++ t)
    have e : (((if k > 0 then ", " else "" : String) : Str)).length ≤ 2 := by split <;> decide
    rw [piled_cons]
    rw [strLen_append, strLen_append] at ih
    have h : (textFrom k acc (t :: r)) = textFrom (k + 1) (acc ++ (if k > 0 then ", " else "" : String) ++ t) r := rfl
    rw [h]
    omega
theorem listText_le (ts : List Str) : (listText ts).length ≤ 2 + piled ts := by
  unfold listText
  rw [strLen_append]
  have h := textFrom_le ts 0 "["
  have e1 : (("[" : String) : Str).length = 1 := by decide
  have e2 : (("]" : String) : Str).length = 1 := by decide
  rw [e1] at h
  rw [e2]
  omega
theorem join_le (ts : List Str) : (Str.join ", " ts).length ≤ piled ts := by
  cases ts with
  | nil => exact Nat.zero_le _
  | cons t r =>
    have := join_length_add (t :: r) (by simp)
    omega
theorem tupleText_le (ts : List Str) : (tupleText ts).length ≤ 3 + piled ts := by
  unfold tupleText
  rw [strLen_append, strLen_append]
  have h := join_le ts
  have e1 : (("(" : String) : Str).length = 1 := by decide
  have e3 : (((if ts.length == 1 then ",)" else ")" : String) : Str)).length ≤ 2 := by split <;> decide
  rw [e1]
  omega
end Tw

set_option Elab.async false
set_option linter.all false
set_option maxRecDepth 100000
set_option maxHeartbeats 2000000
namespace Tw
open PySem PySem.Spec PyProof.Rows L2
section
variable {P : Program} {w : World} {K : PySem.W.Frag} {mg : Str → Option Value} {base : Heap}
theorem ite_b {b : Bool} {c A B : Prop} [Decidable c] (e : b = decide c) (h1 : c → A) (h2 : ¬ c → B) : if b = true then A else B := by
  by_cases h : c
  · rw [e, decide_eq_true h, if_pos rfl]
    exact h1 h
  · rw [e, decide_eq_false h, if_neg Bool.false_ne_true]
    exact h2 h
theorem ixN_last {α : Type} (xs : List α) (n : Nat) (v : α) (h : xs.length = n) : ixN (xs ++ [v]).length (-1) = some n := by
  unfold ixN
  rw [if_neg (by decide), if_pos (by rw [List.length_append]; show -((xs.length + 1 : Nat) : Int) ≤ -1; omega), List.length_append]
  congr 1
  show ((-1 : Int) + ((xs.length + 1 : Nat) : Int)).toNat = n
  omega
theorem same_upd {H : Hp} {p : Addr} {o : HO} (h : H p = none) : Same H (upd H p o) := fun b x e => by
  rw [upd_ne (ne_of_none e h)]
  exact e
/-- only letters from a to z -/
def Low (l : List Nat) : Prop := ∀ c ∈ l, 97 ≤ c ∧ c ≤ 122
theorem sgn_at {l : List Nat} {i c : Nat} (h : l[i]? = some c) : sgn (mk l) i = V.str (mk [c]) := by
  have e : (mk l).cps.getD i 0 = c := by
    rw [Array.getD_eq_getD_getElem?]
    show (l.toArray[i]?).getD 0 = c
    rw [List.getElem?_toArray, h]
    rfl
  show V.str ⟨#[(mk l).cps.getD i 0]⟩ = V.str (mk [c])
  rw [e]
  rfl
theorem single_lt (a b : Nat) : (([a] : List Nat) < [b]) ↔ a < b := by
  rw [List.cons_lt_cons_iff]
  simp
theorem ge_a {c : Nat} (h : 97 ≤ c) : (!decide ((mk [c]).cps.toList < (Str.ofString "a").cps.toList)) = true := by
  have e : (Str.ofString "a").cps.toList = [97] := by decide +kernel
  have e2 : (mk [c]).cps.toList = [c] := rfl
  rw [e, e2]
  have : ¬ ([c] : List Nat) < [97] := fun z => by have := (single_lt _ _).mp z; omega
  rw [decide_eq_false this]; rfl
theorem le_z {c : Nat} (h : c ≤ 122) : (!decide ((Str.ofString "z").cps.toList < (mk [c]).cps.toList)) = true := by
  have e : (Str.ofString "z").cps.toList = [122] := by decide +kernel
  have e2 : (mk [c]).cps.toList = [c] := rfl
  rw [e, e2]
  have : ¬ ([122] : List Nat) < [c] := fun z => by have := (single_lt _ _).mp z; omega
  rw [decide_eq_false this]; rfl
theorem mk_size (l : List Nat) : (mk l).cps.size = l.length := by simp [mk]
def spChkRow : Sp := fun vs H Q _ => ∃ l : List Nat, vs = [.str (mk l)] ∧ Low l ∧ ∀ H', Same H H' → Q .non H'
/-- only T and S -/
def Pipe (p : List Nat) : Prop := ∀ c ∈ p, c = 84 ∨ c = 83
def spChkPipe : Sp := fun vs H Q _ => ∃ l : List Nat, vs = [.str (mk l)] ∧ Pipe l ∧ ∀ H', Same H H' → Q .non H'
theorem str_T : (V.str "T") = V.str (mk [84]) := by decide +kernel
theorem str_S : (V.str "S") = V.str (mk [83]) := by decide +kernel
theorem eq_mk1 {a b : Nat} : (V.str (mk [a]) = V.str (mk [b])) ↔ a = b := by
  constructor
  · intro h
    have e := mk_inj.mp (V.str.inj h)
    exact List.head_eq_of_cons_eq e
  · intro h
    rw [h]
def tupOf (q : Nat × Nat) : HO := .tup [V.str (mk [q.1]), V.int (q.2 : Nat)]
def Pairs (H : Hp) : List Addr → List (Nat × Nat) → Prop
  | [], [] => True
  | a :: as, q :: rs => H a = some (tupOf q) ∧ Pairs H as rs
  | _, _ => False
theorem Pairs.snoc {H : Hp} : ∀ {as : List Addr} {rs : List (Nat × Nat)} {a : Addr} {q : Nat × Nat}, Pairs H as rs → H a = some (tupOf q) → Pairs H (as ++ [a]) (rs ++ [q])
  | [], [], _, _, _, h => ⟨h, trivial⟩
  | _ :: _, _ :: _, _, _, h, h2 => ⟨h.1, Pairs.snoc h.2 h2⟩
  | [], _ :: _, _, _, h, _ => h.elim
  | _ :: _, [], _, _, h, _ => h.elim
theorem Pairs.last {H : Hp} : ∀ {as : List Addr} {rs : List (Nat × Nat)} {q : Nat × Nat}, Pairs H as (rs ++ [q]) → ∃ as' a, as = as' ++ [a] ∧ Pairs H as' rs ∧ H a = some (tupOf q)
  | [], [], _, h => h.elim
  | [], _ :: _, _, h => h.elim
  | [a], [], q, h => ⟨[], a, rfl, trivial, h.1⟩
  | _ :: _ :: _, [], _, h => h.2.elim
  | b :: as, r :: rs, q, h => by
    obtain ⟨as', a, e, h1, h2⟩ := Pairs.last (as := as) (rs := rs) (q := q) h.2
    exact ⟨b :: as', a, by rw [e]; rfl, ⟨h.1, h1⟩, h2⟩
theorem Pairs.len {H : Hp} : ∀ {as : List Addr} {rs : List (Nat × Nat)}, Pairs H as rs → as.length = rs.length
  | [], [], _ => rfl
  | _ :: as, _ :: rs, h => by rw [List.length_cons, List.length_cons, Pairs.len h.2]
  | [], _ :: _, h => h.elim
  | _ :: _, [], h => h.elim
theorem Pairs.mono {H H' : Hp} : ∀ {as : List Addr} {rs : List (Nat × Nat)}, (∀ a q, H a = some (tupOf q) → H' a = some (tupOf q)) → Pairs H as rs → Pairs H' as rs
  | [], [], _, _ => trivial
  | _ :: as, _ :: rs, k, h => ⟨k _ _ h.1, Pairs.mono k h.2⟩
  | [], _ :: _, _, h => h.elim
  | _ :: _, [], _, h => h.elim
theorem Pairs.at {H : Hp} : ∀ {as : List Addr} {rs : List (Nat × Nat)} {j : Nat} {q : Nat × Nat}, Pairs H as rs → rs[j]? = some q → ∃ a, as[j]? = some a ∧ H a = some (tupOf q)
  | [], [], _, _, _, e => by simp at e
  | a :: _, r :: _, 0, q, h, e => by
    have e' : r = q := Option.some.inj e
    exact ⟨a, rfl, e' ▸ h.1⟩
  | _ :: as, _ :: rs, j + 1, q, h, e => Pairs.at (as := as) (rs := rs) (j := j) h.2 e
  | [], _ :: _, _, _, h, _ => h.elim
  | _ :: _, [], _, _, h, _ => h.elim
theorem tup_ne_lst {q : Nat × Nat} {xs : List V} : tupOf q ≠ HO.lst xs := fun z => nomatch z
def spRuns : Sp := fun vs H Q _ => ∃ l : List Nat, vs = [.str (mk l)] ∧ l.length ≤ 1000 ∧ ∀ H' p as, Same H H' → H p = none → H' p = some (.lst (as.map V.ref)) → Pairs H' as (runs l) → Q (.ref p) H'
theorem snoc_cases (rs : List (Nat × Nat)) : rs = [] ∨ ∃ r' q, rs = r' ++ [q] := by
  cases e : rs.getLast? with
  | none => exact .inl (List.getLast?_eq_none_iff.mp e)
  | some q =>
    refine .inr ⟨rs.dropLast, q, ?_⟩
    obtain ⟨ys, h⟩ := List.getLast?_eq_some_iff.mp e
    rw [h, List.dropLast_concat]
theorem joinL_nil : ∀ ls : List (List Nat), TL.joinL [] ls = ls.flatten
  | [] => rfl
  | [x] => by simp [TL.joinL]
  | x :: y :: r => by
    have ih := joinL_nil (y :: r)
    simp [TL.joinL] at ih ⊢
    exact ih
theorem join_signs (l : List Nat) : Txt.join "" (l.map fun c => mk [c]) = mk l := by
  refine TL.ext_tl ?_
  rw [TL.join_eq, TL.tl_join]
  have e : TL.tl ("" : Str) = [] := by decide +kernel
  rw [e, joinL_nil, List.map_map]
  show (l.map (fun c => [c])).flatten = l
  induction l with
  | nil => rfl
  | cons c r ih => rw [List.map_cons, List.flatten_cons, ih]; rfl
theorem Pairs.at' {H : Hp} : ∀ {as : List Addr} {rs : List (Nat × Nat)} {j : Nat} {a : Addr}, Pairs H as rs → as[j]? = some a → ∃ q, rs[j]? = some q ∧ H a = some (tupOf q)
  | [], [], _, _, _, e => by simp at e
  | b :: _, r :: _, 0, a, h, e => by
    have e' : b = a := Option.some.inj e
    exact ⟨r, rfl, e' ▸ h.1⟩
  | _ :: as, _ :: rs, j + 1, q, h, e => Pairs.at' (as := as) (rs := rs) (j := j) h.2 e
  | [], _ :: _, _, _, h, _ => h.elim
  | _ :: _, [], _, _, h, _ => h.elim
theorem kept_take {t : Bool} {rs : List (Nat × Nat)} {i : Nat} {q : Nat × Nat} (h : rs[i]? = some q) : kept t (rs.take (i + 1)) = kept t (rs.take i) ++ (if keepRun t q = true then [q.1] else []) := by
  have e : rs.take (i + 1) = rs.take i ++ [q] := by
    rw [List.take_add_one, h]; rfl
  rw [e, kept_append, kept_cons]
  simp [kept]
theorem pg_tup2 {X : Cx} {x1 x2 : Str} {p1 p2 : Pos} {k : Nat} {pos : Pos} {t1 t2 : TG} (hc : X.calm = true) (h1 : PG X (.Name x1 p1) t1) (h2 : PG X (.Name x2 p2) t2) :
    PG X (.Tuple [.Name x1 p1, .Name x2 p2] k pos) (gTup X.K 2 (gCons t1 (gCons t2 gNil))) := pg_tup hc (pgs_cons h1 (pgs_cons h2 pgs_nil))
def sOf (t : Bool) : List Nat := [if t then 84 else 83]
theorem eqT (t : Bool) : decide (V.str (mk (sOf t)) = V.str "T") = decide (t = true) := by
  rw [str_T]
  refine decide_eq_decide.mpr ?_
  cases t
  · exact ⟨fun z => absurd (eq_mk1.mp z) (by decide), fun z => nomatch z⟩
  · exact ⟨fun _ => rfl, fun _ => rfl⟩
def spOnce : Sp := fun vs H Q _ => ∃ (l : List Nat) (t : Bool), vs = [.str (mk l), .str (mk (sOf t))] ∧ l.length ≤ 1000 ∧ ∀ H', Same H H' → Q (.str (mk (once t l))) H'
def signs (l : List Nat) : List V := l.map fun c => V.str (mk [c])
theorem signs_app (a b : List Nat) : signs (a ++ b) = signs a ++ signs b := by simp [signs]
theorem signs_len (a : List Nat) : (signs a).length = a.length := by simp [signs]
/-- the reading of both comprehensions: test tells what the test at a run asks -/
theorem once_lc {t : Bool} {l : List Nat} {H H' : Hp} {p D : Addr} {as : List Addr} {K : PySem.W.Frag} {tt : TT} {Q : Hp → Prop} {s0 s1 s2 s3 s4 : Option V}
    (sm : Same H H') (hl : l.length ≤ 1000) (hp : H' p = some (.lst (as.map V.ref))) (ps : Pairs H' as (runs l)) (nD : H' D = none)
    (hT : ∀ (q : Nat × Nat) (H2 : Hp) (R : Bool → Hp → Prop), R (keepRun t q) H2 → tt [s0, s1, s2, some (V.str (mk [q.1])), some (V.int (q.2 : Nat))] H2 R)
    (hQ : ∀ H2, Same H H2 → H2 D = some (.lst (signs (once t l))) → Q H2) :
    ∃ W : Nat → Nat → Hp → Prop, (∃ m, W 0 m (upd H' D (.lst []))) ∧ ∀ i m H2, W i m H2 →
      ((Itl K p).stop i H2 ∧ Q H2) ∨ ((Itl K p).go i H2 ∧ ∃ Nx : Hp → Prop, (∀ H3, Nx H3 → ∃ m', m' < m ∧ W (i + 1) m' H3) ∧ ∀ x H3, (Itl K p).yld i H2 x H3 → gTup K 2 (gCons (gName 3) (gCons (gName 4) gNil)) x (wipe [s0, s1, s2, s3, s4] [3, 4]) H3 fun σ2 H4 => wipe σ2 [3, 4] = wipe [s0, s1, s2, s3, s4] [3, 4] ∧ tt σ2 H4 fun b H5 =>
        if b = true then tVar 3 σ2 H5 fun y H6 => ∃ acc, H6 D = some (.lst acc) ∧ acc.length < sizeLine ∧ Nx (upd H6 D (.lst (acc ++ [y]))) else Nx H5) := by
  refine lc_list (xs := as.map V.ref) (fun i H2 => Same H' H2 ∧ H2 D = some (.lst (signs (kept t ((runs l).take i))))) ⟨same_upd nD, upd_same⟩ (fun i H2 _ h => SqL.of (h.1 _ _ hp)) ?_ ?_
  · rintro i x H2 hx ⟨sm2, hD⟩
    rw [List.getElem?_map] at hx
    obtain ⟨a, ha, rfl⟩ := Option.map_eq_some_iff.mp hx
    obtain ⟨q, hq, hqa⟩ := ps.at' ha
    refine ⟨a, _, rfl, SqT.of (sm2 _ _ hqa), rfl, _, _, rfl, _, _, rfl, rfl, rfl, hT q H2 _ ?_⟩
    have kt := kept_take (t := t) hq
    have hlen : (signs (kept t ((runs l).take i))).length < sizeLine := by
      rw [signs_len]
      refine small1000 (Nat.le_trans (kept_le t _) ?_)
      rw [List.length_take]
      have := runs_le l
      omega
    by_cases c : keepRun t q = true
    · rw [c]
      rw [if_pos c] at kt
      refine iteT ⟨_, rfl, _, hD, hlen, ?_, ?_⟩
      · intro b o hb
        rw [upd_ne (ne_of_none hb nD)]
        exact sm2 b o hb
      · rw [upd_same, kt, signs_app]
        rfl
    · have c' : keepRun t q = false := by
        cases h : keepRun t q
        · rfl
        · exact absurd h c
      rw [if_neg c, List.append_nil] at kt
      rw [c']
      refine iteF ⟨sm2, ?_⟩
      rw [kt]
      exact hD
  · rintro H2 ⟨sm2, hD⟩
    refine hQ H2 (sm.trans sm2) ?_
    have e : (as.map V.ref).length = (runs l).length := by rw [List.length_map, ps.len]
    rw [e, List.take_length] at hD
    exact hD
/-- the sieves of a pipeline, from left to right -/
def sv (l p : List Nat) : List Nat := p.foldl (fun r c => once (c == 84) r) l
theorem sv_take {l p : List Nat} {i c : Nat} (h : p[i]? = some c) : sv l (p.take (i + 1)) = once (c == 84) (sv l (p.take i)) := by
  have e : p.take (i + 1) = p.take i ++ [c] := by
    rw [List.take_add_one, h]; rfl
  unfold sv
  rw [e, List.foldl_append]
  rfl
theorem sv_le (l : List Nat) : ∀ p : List Nat, (sv l p).length ≤ l.length := by
  intro p
  induction p generalizing l with
  | nil => exact Nat.le_refl _
  | cons c p ih => exact Nat.le_trans (ih _) (once_le _ _)
theorem sv_mem {l : List Nat} : ∀ {p : List Nat} {c : Nat}, c ∈ sv l p → c ∈ l := by
  intro p
  induction p generalizing l with
  | nil => exact fun h => h
  | cons d p ih => exact fun h => once_mem (ih h)
theorem pipe_sign {c : Nat} (h : c = 84 ∨ c = 83) : (V.str ⟨#[c]⟩) = V.str (mk (sOf (c == 84))) := by
  rcases h with e | e <;> subst e <;> rfl
def spSize : Sp := fun vs H Q _ => ∃ l : List Nat, vs = [.str (mk l)] ∧ (Low l ∧ l.length ≤ 1000) ∧ ∀ H' p, Same H H' → H p = none → H' p = some (.tup [V.int (l.length : Nat), V.int (pairs l : Nat)]) → Q (.ref p) H'
theorem len_line {n : Nat} (h : n ≤ 1000) : n ≤ sizeLine := Nat.le_of_lt (small1000 h)
def spSieve : Sp := fun vs H Q _ => ∃ l p : List Nat, vs = [.str (mk l), .str (mk p)] ∧ (Low l ∧ l.length ≤ 1000 ∧ Pipe p) ∧ ∀ H', Same H H' → Q (.str (mk (sv l p))) H'
def bigD : Int := 2 ^ 12600
/-- a draw's state: digits, seed, counter -/
structure RngOk (d s c : Int) : Prop where
  d0 : 0 ≤ d
  d1 : d < bigD
  s0 : 0 ≤ s
  s1 : s < 2305843009213693952
  c0 : 0 ≤ c
  c1 : c < 4294967296
def rngO (d s c : Int) : HO := .lst [V.int d, V.int s, V.int c]
theorem cut_any (ns : List Int) (a b : Nat) : ∃ ms : List Int, ((ns.map V.int).drop a).take b = ms.map V.int ∧ ms.length ≤ ns.length :=
  ⟨(ns.drop a).take b, by rw [List.map_take, List.map_drop], by rw [List.length_take, List.length_drop]; omega⟩
theorem cut_ints (ns : List Int) (lo hi : Option Int) : ∃ ms : List Int, cutV (ns.map V.int) lo hi = ms.map V.int ∧ ms.length ≤ ns.length := by
  exact cut_any ns _ _
theorem pow2_le {a b : Nat} (h : a ≤ b) : (2 : Int) ^ a ≤ 2 ^ b := by
  rw [two_pow_cast, two_pow_cast]
  exact Int.ofNat_le.mpr (Nat.pow_le_pow_right (by decide) h)
theorem bigD_lt {i : Nat} {d r : Int} (hi : i < 63) (h0 : 0 ≤ d) (h1 : d < 2 ^ (200 * i)) (r0 : 0 ≤ r) (r1 : r < 10 ^ 60) : 0 ≤ d * 10 ^ 60 + r ∧ d * 10 ^ 60 + r < 2 ^ (200 * (i + 1)) := by
  have e : (2 : Int) ^ (200 * (i + 1)) = 2 ^ (200 * i) * 2 ^ 200 := by
    rw [← Int.pow_add]; congr 1
  have p : (10 : Int) ^ 60 ≤ 2 ^ 200 := by decide +kernel
  have h2 : (d + 1) * 10 ^ 60 ≤ 2 ^ (200 * i) * 2 ^ 200 := Int.mul_le_mul (by omega) p (by decide +kernel) (two_pow_nn _)
  have h3 : (d + 1) * 10 ^ 60 = d * 10 ^ 60 + 10 ^ 60 := by rw [Int.add_mul, Int.one_mul]
  have h4 : 0 ≤ d * 10 ^ 60 := Int.mul_nonneg h0 (by decide +kernel)
  rw [e]
  omega
def spRng (K : PySem.W.Frag) : Sp := fun vs H Q _ => ∃ (a : Addr) (ns : List Int), vs = [.ref a] ∧ SqL K H a (ns.map V.int) ∧ ns.length ≤ 63 ∧
  ∀ H' r d s, Same H H' → H r = none → H' r = some (rngO d s 0) → RngOk d s 0 → Q (.ref r) H'
theorem pow1018 : (10 : Int) ^ (18 : Int).toNat = 1000000000000000000 := by decide +kernel
theorem pow1060 : (10 : Int) ^ (60 : Int).toNat = 10 ^ 60 := rfl
theorem log2_le_of {i : Int} {n : Nat} (h0 : 0 ≤ i) (h : i < 2 ^ n) : i.natAbs.log2 ≤ n := by
  have e : i.natAbs < 2 ^ n := by
    have : ((i.natAbs : Nat) : Int) < ((2 ^ n : Nat) : Int) := by
      rw [Int.natAbs_of_nonneg h0, ← two_pow_cast]
      exact h
    exact Int.ofNat_lt.mp this
  by_cases z : i.natAbs = 0
  · rw [z]
    exact Nat.zero_le _
  · exact Nat.le_of_lt ((Nat.log2_lt z).mpr e)
def spDraw : Sp := fun vs H Q _ => ∃ (r : Addr) (m d s c : Int), vs = [.ref r, .int m] ∧ H r = some (rngO d s c) ∧ RngOk d s c ∧ (0 < m ∧ m < 2 ^ 200) ∧ c + 1 < 4294967296 ∧
  ∀ d' c' v, RngOk d' s c' → c' ≤ c + 1 → 0 ≤ v → v < m → Q (.int v) (upd H r (rngO d' s c'))
theorem emod_both (a : Int) {b : Int} (h : 0 < b) : 0 ≤ a % b ∧ a % b < b := ⟨Int.emod_nonneg _ (Int.ne_of_gt h), Int.emod_lt_of_pos _ h⟩
theorem pick {xs : List Int} {v : Int} (h0 : 0 ≤ v) (h1 : v < (xs.length : Nat)) : ∃ x, x ∈ xs ∧ atI (xs.map V.int) v = some (V.int x) := by
  obtain ⟨j, rfl⟩ := Int.eq_ofNat_of_zero_le h0
  have hj : j < xs.length := Int.ofNat_lt.mp h1
  refine ⟨xs[j], List.getElem_mem hj, atI_nat ?_⟩
  rw [List.getElem?_map, List.getElem?_eq_getElem hj]
  rfl
theorem cutS_take (l : List Nat) (n : Nat) : cutS (mk l) none (some (n : Int)) = mk (l.take n) := by
  unfold cutS
  rw [HT.sIx_none, HT.sIx_nat, mk_len]
  show mk (((mk l).cps.toList.drop 0).take (min n l.length - 0)) = _
  show mk ((l.drop 0).take (min n l.length - 0)) = _
  rw [List.drop_zero, Nat.sub_zero]
  congr 1
  by_cases h : n ≤ l.length
  · rw [Nat.min_eq_left h]
  · rw [Nat.min_eq_right (by omega), List.take_of_length_le (by omega), List.take_of_length_le (by omega)]
theorem cutS_drop (l : List Nat) (n : Nat) : cutS (mk l) (some (n : Int)) none = mk (l.drop n) := by
  unfold cutS
  rw [HT.sIx_none, HT.sIx_nat, mk_len]
  show mk ((l.drop (min n l.length)).take (l.length - min n l.length)) = _
  congr 1
  by_cases h : n ≤ l.length
  · rw [Nat.min_eq_left h, List.take_of_length_le (by rw [List.length_drop]; omega)]
  · rw [Nat.min_eq_right (by omega), List.drop_of_length_le (by omega), List.drop_of_length_le (by omega), List.take_nil]
theorem alpha_at {v : Int} (h0 : 0 ≤ v) (h1 : v < 26) : ∃ c : Nat, atI (Str.ofString "abcdefghijklmnopqrstuvwxyz").cps.toList v = some c ∧ 97 ≤ c ∧ c ≤ 122 := by
  obtain ⟨j, rfl⟩ := Int.eq_ofNat_of_zero_le h0
  have e : (Str.ofString "abcdefghijklmnopqrstuvwxyz").cps.toList = (List.range 26).map (· + 97) := by decide +kernel
  refine ⟨j + 97, atI_nat ?_, by omega, by omega⟩
  rw [e, List.getElem?_map, List.getElem?_range (by omega)]
  rfl
/-- all but what stands at r is as it was -/
def SameB (r : Addr) (H H' : Hp) : Prop := ∀ b o, b ≠ r → H b = some o → H' b = some o
theorem SameB.refl (r : Addr) (H : Hp) : SameB r H H := fun _ _ _ h => h
theorem SameB.trans {r : Addr} {H H1 H2 : Hp} (a : SameB r H H1) (b : SameB r H1 H2) : SameB r H H2 := fun c o n h => b c o n (a c o n h)
theorem SameB.at (r : Addr) (H : Hp) (o : HO) : SameB r H (upd H r o) := fun b u n h => by rw [upd_ne n]; exact h
theorem Same.b {r : Addr} {H H' : Hp} (h : Same H H') : SameB r H H' := fun b o _ e => h b o e
theorem SameB.seq {K : PySem.W.Frag} {r : Addr} {H H' : Hp} {a : Addr} {xs : List V} (e : SameB r H H') (n : a ≠ r) (h : SqL K H a xs) : SqL K H' a xs := by
  rcases h with (h | ⟨o, h⟩) | h
  · exact .inl (.inl (e _ _ n h))
  · exact .inl (.inr ⟨o, e _ _ n h⟩)
  · exact .inr h
theorem reps_len (n : Nat) (l : List Nat) : (reps n l).length = n * l.length := by
  unfold reps
  rw [List.length_flatten, List.map_replicate, List.sum_replicate_nat]
theorem reps_mem {n : Nat} {l : List Nat} {c : Nat} (h : c ∈ reps n l) : c ∈ l := by
  obtain ⟨x, hx, hc⟩ := List.mem_flatten.mp h
  rw [(List.mem_replicate.mp hx).2] at hc
  exact hc
def spWord : Sp := fun vs H Q _ => ∃ (r : Addr) (n : Nat) (d s c : Int), vs = [.ref r, .int (n : Nat)] ∧ n ≤ 200 ∧ H r = some (rngO d s c) ∧ RngOk d s c ∧ c + 1000 < 4294967296 ∧
  ∀ H' d' c' l, SameB r H H' → H' r = some (rngO d' s c') → RngOk d' s c' → c' ≤ c + 1000 → Low l → l.length ≤ n → Q (.str (mk l)) H'
theorem atI_of {α : Type} {xs : List α} {i : Int} {j : Nat} {v : α} (e : i = (j : Nat)) (h : xs[j]? = some v) : atI xs i = some v := by
  subst e
  exact atI_nat h
theorem eqS (t : Bool) : decide (V.str (mk (sOf t)) = V.str "S") = decide (t = false) := by
  rw [str_S]
  refine decide_eq_decide.mpr ?_
  cases t
  · exact ⟨fun _ => rfl, fun _ => rfl⟩
  · exact ⟨fun z => absurd (eq_mk1.mp z) (by decide), fun z => nomatch z⟩
theorem eq1 (c d : Nat) : decide (V.str ⟨#[c]⟩ = V.str ⟨#[d]⟩) = decide (c = d) := decide_eq_decide.mpr eq_mk1
theorem before_pos {l : List Nat} {i c d : Nat} (h : 0 < i) (hc : l[i - 1]? = some c) (hd : l[i]? = some d) : before l i = decide (c = d) := by
  unfold before
  rw [hc, hd, decide_eq_true h, Bool.true_and]
  exact decide_eq_decide.mpr ⟨fun z => Option.some.inj z, fun z => by rw [z]⟩
theorem before_zero {l : List Nat} {i : Nat} (h : ¬ 0 < i) : before l i = false := by
  unfold before
  rw [decide_eq_false h, Bool.false_and]
theorem behind_in {l : List Nat} {i c d : Nat} (h : i + 1 < l.length) (hc : l[i + 1]? = some c) (hd : l[i]? = some d) : behind l i = decide (c = d) := by
  unfold behind
  rw [hc, hd, decide_eq_true h, Bool.true_and]
  exact decide_eq_decide.mpr ⟨fun z => Option.some.inj z, fun z => by rw [z]⟩
theorem behind_out {l : List Nat} {i : Nat} (h : ¬ i + 1 < l.length) : behind l i = false := by
  unfold behind
  rw [decide_eq_false h, Bool.false_and]
def spOnceL : Sp := fun vs H Q _ => ∃ (l : List Nat) (t : Bool), vs = [.str (mk l), .str (mk (sOf t))] ∧ l.length ≤ 1000 ∧ Q (.str (mk (once t l))) H
theorem pairsUp_le (l : List Nat) : ∀ i, pairsUp l i ≤ i
  | 0 => Nat.le_refl _
  | i + 1 => by
    have := pairsUp_le l i
    rw [pairsUp]
    split <;> omega
def spPairs : Sp := fun vs H Q _ => ∃ (l : List Nat), vs = [.str (mk l)] ∧ l.length ≤ 1000 ∧ ∀ H', Same H H' → Q (.int (pairs l : Nat)) H'
theorem log2_small {n : Nat} (h : n ≤ 100000) : ((n : Int)).natAbs.log2 < 1920 := by
  rw [Int.natAbs_natCast]
  by_cases z : n = 0
  · subst z; decide
  · have : n < 2 ^ 17 := by omega
    have := (Nat.log2_lt z).mpr this
    omega
def dSz (a b : Nat) : PyData := .list [.tuple [.int (a : Nat), .int (b : Nat)], .tuple [.int (a : Nat), .int (b : Nat)]]
theorem int_len {n : Nat} (h : n ≤ 100000) : (Str.ofString (toString (n : Int))).length ≤ 1921 := int_text_len_1921 (log2_small h)
theorem dSz_ok {a b : Nat} (ha : a ≤ 100000) (hb : b ≤ 100000) : (dSz a b).showable = true ∧ (dSz a b).hasDict = false ∧ (dSz a b).depth ≤ 50 ∧ (dSz a b).shown.length ≤ sizeLine := by
  refine ⟨?_, rfl, by show 2 ≤ 50; decide, ?_⟩
  · have h1 := decide_eq_true (log2_small ha)
    have h2 := decide_eq_true (log2_small hb)
    simp only [dSz, PyData.showable, PyData.showableAll, h1, h2, Bool.and_self]
  · have h1 := int_len ha
    have h2 := int_len hb
    have e : (dSz a b).shown = listText [tupleText [Str.ofString (toString (a : Int)), Str.ofString (toString (b : Int))], tupleText [Str.ofString (toString (a : Int)), Str.ofString (toString (b : Int))]] := rfl
    rw [e]
    have t1 := tupleText_le [Str.ofString (toString (a : Int)), Str.ofString (toString (b : Int))]
    have t2 := listText_le [tupleText [Str.ofString (toString (a : Int)), Str.ofString (toString (b : Int))], tupleText [Str.ofString (toString (a : Int)), Str.ofString (toString (b : Int))]]
    simp only [piled_cons, piled_nil] at t1 t2
    have : sizeLine = 16777216 := sizeLine_eq
    omega
def dTx (l : List Nat) : PyData := .list [.str (mk l), .str (mk l)]
theorem dTx_ok {l : List Nat} (hl : l.length ≤ 10000) (low : ∀ c ∈ l, c < 16 ^ 8) : (dTx l).showable = true ∧ (dTx l).hasDict = false ∧ (dTx l).depth ≤ 50 ∧ (dTx l).shown.length ≤ sizeLine := by
  refine ⟨rfl, rfl, by show 1 ≤ 50; decide, ?_⟩
  have e : (dTx l).shown = listText [reprText (mk l), reprText (mk l)] := rfl
  rw [e]
  have h := StrLaws.reprText_len (mk l) low
  rw [mk_len] at h
  have t2 := listText_le [reprText (mk l), reprText (mk l)]
  simp only [piled_cons, piled_nil] at t2
  have : sizeLine = 16777216 := sizeLine_eq
  omega
/-- a def of the text: it stands at f, its name holds it, its arguments bind one by one -/
structure Dfn (K : PySem.W.Frag) (mg : Str → Option Value) (x : Str) (st : Stmt) (ps : List Str) (f : Addr) (fd : FuncData) : Prop where
  F : Fun K x x st f fd
  b : Binds K fd ps []
  g : mg x = some (.ref f)
theorem empty_mk : (V.str "") = V.str (mk []) := by decide +kernel
theorem sv_one (l : List Nat) (t : Bool) : sv l (sOf t) = once t l := by cases t <;> rfl
theorem pipe_one (t : Bool) : Pipe (sOf t) := fun c hc => by
  have e := List.mem_singleton.mp hc
  cases t
  · exact .inr e
  · exact .inl e
theorem dfn_mk {K : PySem.W.Frag} {mg : Str → Option Value} {h : Heap} (X : K.In h) (G : h.Ns mainGlobals mg) {x : Str} {st : Stmt} {ps : List Str} {f : Addr} {oc : Value} {od an : Option Addr} {sl : Array (Option Value)} {kV dc pm cd ct : Value}
    (a : PySem.W.nsIn K mainGlobals x = some (some (.ref f))) (l : K.lookup f = some ⟨oc, od, .func (PySem.W.fnOf x x (defArgs st) (defBody st) (defScope st) .none kV dc pm an cd ct), sl⟩)
    (c : PySem.W.codeIn K cd x = true) (k : PySem.W.keepIn K (.ref f) = true)
    (b : ∀ (kV doc pm : Value) (an : Option Addr) (cdv ct : Value) (us : List Value), us.length = ps.length → bindArgs (PySem.W.fnOf x x (defArgs st) (defBody st) (defScope st) .none kV doc pm an cdv ct) ⟨us, []⟩ = pure (ps.zip us)) :
    Dfn K mg x st ps f (PySem.W.fnOf x x (defArgs st) (defBody st) (defScope st) .none kV dc pm an cd ct) :=
  ⟨fun_mk l c k, (fun_mk l c k).binds b, PySem.W.mg_of X G a⟩
end
end Tw

set_option linter.all false
namespace Tw
/-! least sizes: plain Lean. A pipeline is a list of signs, 84 for T, 83 for S. -/
/-- the size in front of a sieve, from (length, pairs) behind it -/
def before1 (t : Bool) (z : Nat × Nat) : Nat × Nat := if t then (2 * z.1 + z.2, z.1) else (z.1 + 2 * z.2, z.2)
def growS (p : List Nat) (z : Nat × Nat) : Nat × Nat := p.foldr (fun c a => before1 (c == 84) a) z
theorem growS_nil (z : Nat × Nat) : growS [] z = z := rfl
theorem growS_cons (c : Nat) (p : List Nat) (z : Nat × Nat) : growS (c :: p) z = before1 (c == 84) (growS p z) := rfl
theorem growS_app (p q : List Nat) (z : Nat × Nat) : growS (p ++ q) z = growS p (growS q z) := by
  unfold growS
  rw [List.foldr_append]
/-- kept letters and equal neighbours among the runs of a row -/
def pairsF : Nat → List Nat → Nat
  | _, [] => 0
  | c, d :: r => (if c = d then 1 else 0) + pairsF d r
theorem pairsR_cons (c : Nat) (l : List Nat) : pairsR (c :: l) = pairsF c l := by
  induction l generalizing c with
  | nil => rfl
  | cons d r ih => rw [pairsR, pairsF, ih]
/-- one sieve, a row of runs with heads that differ from neighbour to neighbour: what is kept, its pairs, what is dropped -/
def alt : List (Nat × Nat) → Prop
  | [] => True
  | [_] => True
  | a :: b :: r => a.1 ≠ b.1 ∧ alt (b :: r)
theorem alt_from : ∀ (l : List Nat) (c n : Nat), alt (runsFrom c n l) ∧ ∃ m r, runsFrom c n l = (c, m) :: r
  | [], c, n => ⟨trivial, n, [], rfl⟩
  | d :: r, c, n => by
    rw [runsFrom]
    by_cases h : d = c
    · rw [if_pos h]
      exact alt_from r c (n + 1)
    · rw [if_neg h]
      obtain ⟨h1, m, r2, h2⟩ := alt_from r d 1
      refine ⟨?_, n, _, rfl⟩
      rw [h2] at h1 ⊢
      exact ⟨Ne.symm h, h1⟩
theorem alt_runs (l : List Nat) : alt (runs l) := by
  cases l with
  | nil => trivial
  | cons c r => exact (alt_from r c 1).1
def lenR (rs : List (Nat × Nat)) : Nat := (rs.map Prod.snd).sum
theorem lenR_from : ∀ (l : List Nat) (c n : Nat), lenR (runsFrom c n l) = n + l.length
  | [], c, n => by simp [runsFrom, lenR]
  | d :: r, c, n => by
    rw [runsFrom]
    by_cases h : d = c
    · rw [if_pos h, lenR_from r c (n + 1), List.length_cons]; omega
    · have e := lenR_from r d 1
      unfold lenR at e
      rw [if_neg h, lenR, List.map_cons, List.sum_cons, List.length_cons, e]
      omega
theorem lenR_runs (l : List Nat) : lenR (runs l) = l.length := by
  cases l with
  | nil => rfl
  | cons c r =>
    show lenR (runsFrom c 1 r) = _
    rw [lenR_from, List.length_cons]; omega
/-- among runs that alternate, dropped ones part the equal neighbours of what is kept -/
def dropped (t : Bool) (rs : List (Nat × Nat)) : Nat := rs.length - (kept t rs).length
theorem kept_len (t : Bool) : ∀ rs : List (Nat × Nat), (kept t rs).length ≤ rs.length
  | [] => Nat.le_refl _
  | p :: rs => by
    have := kept_len t rs
    rw [kept_cons]
    split <;> simp <;> omega
/-- runs with a head already kept: c is the last kept letter, g tells if a dropped run came since -/
theorem drop_count (t : Bool) : ∀ (rs : List (Nat × Nat)) (c : Nat) (b : Nat), alt ((b, 0) :: rs) → pairsF c (kept t rs) + (kept t rs).length ≤ rs.length + (if c = b then 0 else 1)
  | [], c, b, _ => by simp [kept, pairsF]
  | p :: rs, c, b, ha => by
    obtain ⟨hne, ha2⟩ := ha
    have ha3 : alt ((p.1, 0) :: rs) := by
      cases rs with
      | nil => trivial
      | cons q r => exact ha2
    rw [kept_cons]
    by_cases k : keepRun t p = true
    · rw [if_pos k]
      have ih := drop_count t rs p.1 p.1 ha3
      rw [if_pos rfl] at ih
      show (if c = p.1 then 1 else 0) + pairsF p.1 (kept t rs) + ((kept t rs).length + 1) ≤ rs.length + 1 + _
      by_cases hc : c = p.1
      · have : ¬ c = b := fun z => hne (by rw [← z]; exact hc)
        rw [if_pos hc, if_neg this]
        omega
      · rw [if_neg hc]
        split <;> omega
    · rw [if_neg k, List.nil_append]
      have ih := drop_count t rs c p.1 ha3
      show _ ≤ rs.length + 1 + _
      have : (if c = p.1 then (0 : Nat) else 1) ≤ 1 := by split <;> omega
      omega
theorem drop_all (t : Bool) (rs : List (Nat × Nat)) (ha : alt rs) : pairsR (kept t rs) + (kept t rs).length ≤ rs.length := by
  cases rs with
  | nil => exact Nat.le_refl _
  | cons p r =>
    cases h : kept t (p :: r) with
    | nil => simp [pairsR]
    | cons c k =>
      rw [pairsR_cons]
      -- the first kept one is reached over dropped ones
      have main : ∀ (rs : List (Nat × Nat)), alt rs → ∀ c k, kept t rs = c :: k → pairsF c k + (c :: k).length ≤ rs.length := by
        intro rs
        induction rs with
        | nil => intro _ c k h; cases h
        | cons p r ih =>
          intro ha c k h
          rw [kept_cons] at h
          have har : alt r := by
            cases r with
            | nil => trivial
            | cons q r2 => exact ha.2
          by_cases kk : keepRun t p = true
          · rw [if_pos kk] at h
            have e1 : p.1 = c := (List.cons.inj h).1
            have e2 : kept t r = k := (List.cons.inj h).2
            have hd : alt ((p.1, 0) :: r) := by
              cases r with
              | nil => trivial
              | cons q r2 => exact ha
            have := drop_count t r p.1 p.1 hd
            rw [if_pos rfl, e2, e1] at this
            show pairsF c k + (k.length + 1) ≤ r.length + 1
            omega
          · rw [if_neg kk, List.nil_append] at h
            have := ih har c k h
            show _ ≤ r.length + 1
            omega
      exact main _ ha c k h
/-- lengths of the runs: T keeps those of two or more -/
theorem len_bound (t : Bool) : ∀ rs : List (Nat × Nat), (∀ p ∈ rs, 1 ≤ p.2) → rs.length + (if t then (kept t rs).length else rs.length - (kept t rs).length) ≤ lenR rs
  | [], _ => by cases t <;> exact Nat.le_refl _
  | p :: rs, h => by
    have ih := len_bound t rs fun q hq => h q (List.mem_cons_of_mem _ hq)
    have hp := h p List.mem_cons_self
    have kl := kept_len t rs
    have e := keepRun_is t p.1 p.2 hp
    rw [kept_cons]
    show rs.length + 1 + _ ≤ p.2 + lenR rs
    cases t with
    | true =>
      rw [if_pos rfl] at ih ⊢
      by_cases k : keepRun true p = true
      · have h2 : decide (2 ≤ p.2) = true := by rw [← e]; exact k
        have h3 := of_decide_eq_true h2
        rw [if_pos k]
        show rs.length + 1 + ((kept true rs).length + 1) ≤ _
        omega
      · rw [if_neg k, List.nil_append]
        omega
    | false =>
      rw [if_neg (by decide)] at ih ⊢
      by_cases k : keepRun false p = true
      · rw [if_pos k]
        show rs.length + 1 + (rs.length + 1 - ((kept false rs).length + 1)) ≤ _
        omega
      · have h2 : ¬ decide (2 ≤ p.2) = false := fun z => k (by rw [e]; exact z)
        have h3 : 2 ≤ p.2 := by
          by_cases q : 2 ≤ p.2
          · exact q
          · exact absurd (decide_eq_false q) h2
        rw [if_neg k, List.nil_append]
        show rs.length + 1 + (rs.length + 1 - (kept false rs).length) ≤ _
        omega
/-- one sieve back: runs and pairs in front are at least so many -/
theorem once_bound (t : Bool) (l : List Nat) : (before1 t ((once t l).length, pairs (once t l))).2 ≤ pairs l ∧ (before1 t ((once t l).length, pairs (once t l))).1 - (before1 t ((once t l).length, pairs (once t l))).2 ≤ l.length - pairs l := by
  have h1 := drop_all t (runs l) (alt_runs l)
  have h2 := len_bound t (runs l) (runs_pos l)
  have h3 := runs_len l
  rw [lenR_runs] at h2
  have h4 : pairs (once t l) = pairsR (kept t (runs l)) := pairs_R _
  have h5 : (once t l).length = (kept t (runs l)).length := rfl
  rw [h4, h5]
  unfold before1
  cases t with
  | true =>
    rw [if_pos rfl] at h2 ⊢
    show (kept true (runs l)).length ≤ pairs l ∧ 2 * (kept true (runs l)).length + pairsR (kept true (runs l)) - (kept true (runs l)).length ≤ l.length - pairs l
    omega
  | false =>
    rw [if_neg (by decide)] at h2 ⊢
    show pairsR (kept false (runs l)) ≤ pairs l ∧ (kept false (runs l)).length + 2 * pairsR (kept false (runs l)) - pairsR (kept false (runs l)) ≤ l.length - pairs l
    omega
/-- size z is at most size y: in pairs and in runs -/
def leSz (z y : Nat × Nat) : Prop := z.2 ≤ y.2 ∧ z.1 - z.2 ≤ y.1 - y.2
def okSz (z : Nat × Nat) : Prop := z.2 ≤ z.1
theorem before1_ok (t : Bool) {z : Nat × Nat} (h : okSz z) : okSz (before1 t z) := by
  unfold before1 okSz at *
  cases t <;> simp <;> omega
theorem before1_mono (t : Bool) {z y : Nat × Nat} (hz : okSz z) (hy : okSz y) (h : leSz z y) : leSz (before1 t z) (before1 t y) := by
  unfold before1 okSz leSz at *
  cases t <;> simp <;> omega
theorem pairs_le (l : List Nat) : pairs l ≤ l.length := by
  have := runs_len l
  omega
def sizeS (l : List Nat) : Nat × Nat := (l.length, pairs l)
theorem sv_cons (l : List Nat) (c : Nat) (p : List Nat) : sv l (c :: p) = sv (once (c == 84) l) p := rfl
theorem growS_ok (p : List Nat) {z : Nat × Nat} (h : okSz z) : okSz (growS p z) := by
  induction p with
  | nil => exact h
  | cons c p ih => exact before1_ok _ ih
/-- every row that a pipeline leads to o is at least as large as the rules say -/
theorem sv_bound (p : List Nat) : ∀ l : List Nat, leSz (growS p (sizeS (sv l p))) (sizeS l) := by
  induction p with
  | nil => exact fun l => ⟨Nat.le_refl _, Nat.le_refl _⟩
  | cons c p ih =>
    intro l
    rw [sv_cons, growS_cons]
    have h1 := ih (once (c == 84) l)
    have o1 : okSz (sizeS (sv (once (c == 84) l) p)) := pairs_le _
    have o2 : okSz (sizeS (once (c == 84) l)) := pairs_le _
    have h2 := before1_mono (c == 84) (growS_ok p o1) o2 h1
    have h3 : leSz (before1 (c == 84) (sizeS (once (c == 84) l))) (sizeS l) := once_bound _ l
    exact ⟨Nat.le_trans h2.1 h3.1, Nat.le_trans h2.2 h3.2⟩
theorem leSz_len {z y : Nat × Nat} (hz : okSz z) (hy : okSz y) (h : leSz z y) : z.1 ≤ y.1 := by
  unfold leSz okSz at *
  omega
/-- .. and where its length is the least one, its pairs are, too -/
theorem leSz_eq {z y : Nat × Nat} (hz : okSz z) (hy : okSz y) (h : leSz z y) (e : y.1 ≤ z.1) : y = z := by
  obtain ⟨a, b⟩ := z
  obtain ⟨c, d⟩ := y
  unfold leSz okSz at *
  simp only at *
  have : c = a := by omega
  have : d = b := by omega
  simp_all
/-- different pipelines have different least sizes for an output with a pair -/
theorem growS_inj {z : Nat × Nat} (hz : 0 < z.2) (hlt : z.2 < z.1) : ∀ p q : List Nat, Pipe p → Pipe q → growS p z = growS q z → p = q := by
  have pos : ∀ p, 0 < (growS p z).2 ∧ (growS p z).2 < (growS p z).1 := by
    intro p
    induction p with
    | nil => exact ⟨hz, hlt⟩
    | cons c p ih =>
      rw [growS_cons]
      unfold before1
      cases (c == 84) <;> simp <;> omega
  have big : ∀ c p, z.1 < (growS (c :: p) z).1 := by
    intro c p
    have mono : ∀ p, z.1 ≤ (growS p z).1 := by
      intro p
      induction p with
      | nil => exact Nat.le_refl _
      | cons c p ih =>
        have := pos p
        rw [growS_cons]
        unfold before1
        cases (c == 84) <;> simp <;> omega
    have h1 := mono p
    have h2 := pos p
    rw [growS_cons]
    unfold before1
    cases (c == 84) <;> simp <;> omega
  intro p
  induction p with
  | nil =>
    intro q _ _ h
    cases q with
    | nil => rfl
    | cons c q =>
      have := big c q
      rw [← h, growS_nil] at this
      omega
  | cons c p ih =>
    intro q hp hq h
    cases q with
    | nil =>
      have := big c p
      rw [h, growS_nil] at this
      omega
    | cons d q =>
      have hc := hp c List.mem_cons_self
      have hd := hq d List.mem_cons_self
      have p1 := pos p
      have p2 := pos q
      rw [growS_cons, growS_cons] at h
      have same : c = d ∧ growS p z = growS q z := by
        unfold before1 at h
        rcases hc with e | e <;> rcases hd with f | f <;> subst e <;> subst f
        · have h1 := congrArg Prod.fst h
          have h2 := congrArg Prod.snd h
          simp at h1 h2
          refine ⟨rfl, Prod.ext h2 (by omega)⟩
        · have h1 := congrArg Prod.fst h
          have h2 := congrArg Prod.snd h
          simp at h1 h2
          omega
        · have h1 := congrArg Prod.fst h
          have h2 := congrArg Prod.snd h
          simp at h1 h2
          omega
        · have h1 := congrArg Prod.fst h
          have h2 := congrArg Prod.snd h
          simp at h1 h2
          refine ⟨rfl, Prod.ext (by omega) h2⟩
      rw [same.1, ih q (fun x hx => hp x (List.mem_cons_of_mem _ hx)) (fun x hx => hq x (List.mem_cons_of_mem _ hx)) same.2]
end Tw

set_option linter.all false
namespace Tw
/-! shapes of the shortest rows, plain Lean: a mark below 200 is a letter, 200 + k the free letter k -/
def pairsO : Option Nat → List Nat → Nat
  | _, [] => 0
  | p, m :: r => (if p = some m then 1 else 0) + pairsO (some m) r
theorem pairsO_F (c : Nat) : ∀ l, pairsO (some c) l = pairsF c l := by
  intro l
  induction l generalizing c with
  | nil => rfl
  | cons d r ih =>
    rw [pairsO, pairsF, ih]
    simp
theorem pairsO_R (l : List Nat) : pairsO none l = pairsR l := by
  cases l with
  | nil => rfl
  | cons c r => rw [pairsO, pairsR_cons, pairsO_F]; simp
theorem pairsO_S (l : List Nat) : pairsO none l = pairs l := by rw [pairsO_R, pairs_R]
def lastO (p : Option Nat) (l : List Nat) : Option Nat := match l.getLast? with | some m => some m | none => p
theorem lastO_cons (p : Option Nat) (m : Nat) (r : List Nat) : lastO p (m :: r) = lastO (some m) r := by
  unfold lastO
  cases r with
  | nil => rfl
  | cons x y =>
    rw [List.getLast?_cons_cons]
    cases h : (x :: y).getLast? with
    | none => simp at h
    | some z => rfl
theorem pairsO_app : ∀ (l r : List Nat) (p : Option Nat), pairsO p (l ++ r) = pairsO p l + pairsO (lastO p l) r
  | [], r, p => by simp [pairsO, lastO]
  | m :: l, r, p => by
    rw [List.cons_append, pairsO, pairsO, lastO_cons, pairsO_app l r (some m)]
    omega
theorem pairsO_take (l : List Nat) (i : Nat) (p : Option Nat) : pairsO p (l.take i) ≤ pairsO p l := by
  have e := pairsO_app (l.take i) (l.drop i) p
  rw [List.take_append_drop] at e
  omega
/-! in front of a sieve T -/
def goT : Option Nat → List Nat → Nat → List Nat
  | _, [], _ => []
  | p, m :: r, n => if p = some m then (200 + n) :: m :: m :: goT (some m) r (n + 1) else m :: m :: goT (some m) r n
def bsT : Option Nat → List Nat → List Nat
  | _, [] => []
  | p, m :: r => if p = some m then m :: bsT (some m) r else bsT (some m) r
def addT (a : List Nat × List Nat × Option Nat) (m : Nat) : List Nat × List Nat × Option Nat :=
  if a.2.2 = some m then (a.1 ++ [200 + a.2.1.length] ++ [m, m], a.2.1 ++ [m], some m) else (a.1 ++ [m, m], a.2.1, some m)
theorem foldl_addT : ∀ (ms : List Nat) (w b : List Nat) (p : Option Nat), ms.foldl addT (w, b, p) = (w ++ goT p ms b.length, b ++ bsT p ms, lastO p ms)
  | [], w, b, p => by simp [goT, bsT, lastO]
  | m :: r, w, b, p => by
    rw [List.foldl_cons, addT, goT, bsT, lastO_cons]
    by_cases h : p = some m
    · rw [if_pos h, if_pos h, if_pos h, foldl_addT r]
      simp
    · rw [if_neg h, if_neg h, if_neg h, foldl_addT r]
      simp
def stT (ms bs : List Nat) : List Nat × List Nat := (goT none ms bs.length, bs ++ bsT none ms)
/-- the state behind i turns -/
def upT (ms bs : List Nat) (i : Nat) : List Nat × List Nat × Option Nat := (ms.take i).foldl addT ([], bs, none)
theorem upT_succ {ms bs : List Nat} {i m : Nat} (h : ms[i]? = some m) : upT ms bs (i + 1) = addT (upT ms bs i) m := by
  unfold upT
  have e : ms.take (i + 1) = ms.take i ++ [m] := by rw [List.take_add_one, h]; rfl
  rw [e, List.foldl_append]
  rfl
theorem upT_last (ms bs : List Nat) : (upT ms bs ms.length).1 = (stT ms bs).1 ∧ (upT ms bs ms.length).2.1 = (stT ms bs).2 := by
  unfold upT stT
  rw [List.take_length, foldl_addT]
  exact ⟨rfl, rfl⟩
theorem lastO_take {ms : List Nat} {i : Nat} (hi : i < ms.length) : lastO none (ms.take i) = if 0 < i then ms[i - 1]? else none := by
  unfold lastO
  by_cases h : 0 < i
  · rw [if_pos h]
    have e : (ms.take i).getLast? = ms[i - 1]? := by
      rw [List.getLast?_eq_getElem?, List.length_take, Nat.min_eq_left (by omega), List.getElem?_take_of_lt (by omega)]
    rw [e, List.getElem?_eq_getElem (by omega)]
  · have : i = 0 := by omega
    subst this
    rfl
theorem upT_prev {ms bs : List Nat} {i : Nat} (hi : i < ms.length) : (upT ms bs i).2.2 = if 0 < i then ms[i - 1]? else none := by
  unfold upT
  rw [foldl_addT]
  exact lastO_take hi
theorem goT_len : ∀ (ms : List Nat) (p : Option Nat) (n : Nat), (goT p ms n).length = 2 * ms.length + pairsO p ms
  | [], p, n => rfl
  | m :: r, p, n => by
    rw [goT, pairsO, List.length_cons]
    by_cases h : p = some m
    · rw [if_pos h, if_pos h, List.length_cons, List.length_cons, List.length_cons, goT_len r]; omega
    · rw [if_neg h, if_neg h, List.length_cons, List.length_cons, goT_len r]; omega
theorem bsT_len : ∀ (ms : List Nat) (p : Option Nat), (bsT p ms).length = pairsO p ms
  | [], p => rfl
  | m :: r, p => by
    rw [bsT, pairsO]
    by_cases h : p = some m
    · rw [if_pos h, if_pos h, List.length_cons, bsT_len r]; omega
    · rw [if_neg h, if_neg h, bsT_len r]; omega
def below (n : Nat) (l : List Nat) : Prop := ∀ m ∈ l, m < 200 + n
theorem below_mono {n k : Nat} {l : List Nat} (h : below n l) (hk : n ≤ k) : below k l := fun m hm => by have := h m hm; omega
theorem goT_pairs : ∀ (ms : List Nat) (p : Option Nat) (n : Nat), below n ms → (∀ q, p = some q → q < 200 + n) → pairsO p (goT p ms n) = ms.length
  | [], p, n, _, _ => rfl
  | m :: r, p, n, hb, hp => by
    have hm := hb m List.mem_cons_self
    have hr : below n r := fun x hx => hb x (List.mem_cons_of_mem _ hx)
    have one : ∀ k, n ≤ k → pairsO (some m) (goT (some m) r k) = r.length := fun k hk => goT_pairs r (some m) k (below_mono hr hk) fun q e => by cases e; omega
    rw [goT, List.length_cons]
    by_cases h : p = some m
    · rw [if_pos h]
      have n1 : ¬ p = some (200 + n) := fun z => by have := hp _ z; omega
      have n2 : ¬ (some (200 + n) : Option Nat) = some m := fun z => by have := Option.some.inj z; omega
      simp only [pairsO, if_neg n1, if_neg n2, if_pos, one (n + 1) (by omega)]
      simp; omega
    · rw [if_neg h]
      simp only [pairsO, if_neg h, one n (Nat.le_refl _)]
      simp; omega
theorem goT_below : ∀ (ms : List Nat) (p : Option Nat) (n : Nat), below n ms → below (n + pairsO p ms) (goT p ms n)
  | [], p, n, _ => fun m hm => by cases hm
  | m :: r, p, n, hb => by
    have hm := hb m List.mem_cons_self
    have hr : below n r := fun x hx => hb x (List.mem_cons_of_mem _ hx)
    rw [goT, pairsO]
    by_cases h : p = some m
    · rw [if_pos h, if_pos h]
      have ih := goT_below r (some m) (n + 1) (below_mono hr (by omega))
      intro x hx
      simp only [List.mem_cons] at hx
      rcases hx with e | e | e | hx
      · omega
      · omega
      · omega
      · have := ih x hx; omega
    · rw [if_neg h, if_neg h]
      have ih := goT_below r (some m) n hr
      intro x hx
      simp only [List.mem_cons] at hx
      rcases hx with e | e | hx
      · omega
      · omega
      · have := ih x hx; omega
/-! in front of c sieves S -/
def halfs (n c : Nat) : List Nat := (List.range c).map fun j => 200 + (n + j)
def inners (m n : Nat) : Nat → List Nat
  | 0 => []
  | c + 1 => inners m n c ++ [if c = 0 then m else 200 + (n + (c - 1))]
theorem halfs_succ (n c : Nat) : halfs n (c + 1) = halfs n c ++ [200 + (n + c)] := by
  unfold halfs
  rw [List.range_succ, List.map_append]
  rfl
theorem halfs_front (n c : Nat) : halfs n (c + 1) = (200 + n) :: halfs (n + 1) c := by
  unfold halfs
  rw [List.range_succ_eq_map, List.map_cons, List.map_map]
  congr 1
  refine List.map_congr_left fun j _ => ?_
  show 200 + (n + (j + 1)) = 200 + (n + 1 + j)
  omega
theorem halfs_len (n c : Nat) : (halfs n c).length = c := by unfold halfs; rw [List.length_map, List.length_range]
theorem inners_len (m n : Nat) : ∀ c, (inners m n c).length = c
  | 0 => rfl
  | c + 1 => by rw [inners, List.length_append, inners_len m n c]; rfl
def hh (n c : Nat) : List Nat := halfs n c ++ (halfs n c).reverse
theorem hh_len (n c : Nat) : (hh n c).length = 2 * c := by unfold hh; rw [List.length_append, List.length_reverse, halfs_len]; omega
theorem hh_front (n c : Nat) (t : List Nat) : hh n (c + 1) ++ t = (200 + n) :: (hh (n + 1) c ++ ((200 + n) :: t)) := by
  unfold hh
  rw [halfs_front, List.reverse_cons]
  simp
theorem hh_below (n c : Nat) : below (n + c) (hh n c) := fun m hm => by
  unfold hh halfs at hm
  rw [List.mem_append, List.mem_reverse] at hm
  have : m ∈ (List.range c).map fun j => 200 + (n + j) := by rcases hm with h | h <;> exact h
  obtain ⟨j, hj, rfl⟩ := List.mem_map.mp this
  have := List.mem_range.mp hj
  omega
theorem hh_pairs : ∀ (c n x : Nat) (t : List Nat), x < 200 + n → pairsO (some x) (hh n c ++ x :: t) = 1 + pairsO (some x) t
  | 0, n, x, t, _ => by
    show pairsO (some x) (x :: t) = _
    rw [pairsO, if_pos rfl]
  | c + 1, n, x, t, hx => by
    rw [hh_front, pairsO, if_neg (fun z => by have := Option.some.inj z; omega), hh_pairs c (n + 1) (200 + n) (x :: t) (by omega), pairsO, if_neg (fun z => by have := Option.some.inj z; omega)]
    omega
def goS (c : Nat) : Option Nat → List Nat → Nat → List Nat
  | _, [], _ => []
  | p, m :: r, n => if p = some m then hh n c ++ m :: goS c (some m) r (n + c) else m :: goS c (some m) r n
def bsS (c : Nat) : Option Nat → List Nat → Nat → List Nat
  | _, [], _ => []
  | p, m :: r, n => if p = some m then inners m n c ++ bsS c (some m) r (n + c) else bsS c (some m) r n
def addS (c : Nat) (a : List Nat × List Nat × Option Nat) (m : Nat) : List Nat × List Nat × Option Nat :=
  if a.2.2 = some m then (a.1 ++ (halfs a.2.1.length c ++ (halfs a.2.1.length c).reverse) ++ [m], a.2.1 ++ inners m a.2.1.length c, some m) else (a.1 ++ [m], a.2.1, some m)
theorem foldl_addS (c : Nat) : ∀ (ms : List Nat) (w b : List Nat) (p : Option Nat), ms.foldl (addS c) (w, b, p) = (w ++ goS c p ms b.length, b ++ bsS c p ms b.length, lastO p ms)
  | [], w, b, p => by simp [goS, bsS, lastO]
  | m :: r, w, b, p => by
    rw [List.foldl_cons, addS, goS, bsS, lastO_cons]
    by_cases h : p = some m
    · rw [if_pos h, if_pos h, if_pos h, foldl_addS c r]
      simp [hh, inners_len]
    · rw [if_neg h, if_neg h, if_neg h, foldl_addS c r]
      simp
def stS (c : Nat) (ms bs : List Nat) : List Nat × List Nat := (goS c none ms bs.length, bs ++ bsS c none ms bs.length)
def upS (c : Nat) (ms bs : List Nat) (i : Nat) : List Nat × List Nat × Option Nat := (ms.take i).foldl (addS c) ([], bs, none)
theorem upS_succ {c : Nat} {ms bs : List Nat} {i m : Nat} (h : ms[i]? = some m) : upS c ms bs (i + 1) = addS c (upS c ms bs i) m := by
  unfold upS
  have e : ms.take (i + 1) = ms.take i ++ [m] := by rw [List.take_add_one, h]; rfl
  rw [e, List.foldl_append]
  rfl
theorem upS_last (c : Nat) (ms bs : List Nat) : (upS c ms bs ms.length).1 = (stS c ms bs).1 ∧ (upS c ms bs ms.length).2.1 = (stS c ms bs).2 := by
  unfold upS stS
  rw [List.take_length, foldl_addS]
  exact ⟨rfl, rfl⟩
theorem upS_prev {c : Nat} {ms bs : List Nat} {i : Nat} (hi : i < ms.length) : (upS c ms bs i).2.2 = if 0 < i then ms[i - 1]? else none := by
  unfold upS
  rw [foldl_addS]
  exact lastO_take hi
theorem goS_len (c : Nat) : ∀ (ms : List Nat) (p : Option Nat) (n : Nat), (goS c p ms n).length = ms.length + 2 * c * pairsO p ms
  | [], p, n => by simp [goS, pairsO]
  | m :: r, p, n => by
    rw [goS, pairsO, List.length_cons]
    by_cases h : p = some m
    · rw [if_pos h, if_pos h, List.length_append, hh_len, List.length_cons, goS_len c r, Nat.mul_add, Nat.mul_one]; omega
    · rw [if_neg h, if_neg h, List.length_cons, goS_len c r, Nat.zero_add]; omega
theorem bsS_len (c : Nat) : ∀ (ms : List Nat) (p : Option Nat) (n : Nat), (bsS c p ms n).length = c * pairsO p ms
  | [], p, n => by simp [bsS, pairsO]
  | m :: r, p, n => by
    rw [bsS, pairsO]
    by_cases h : p = some m
    · rw [if_pos h, if_pos h, List.length_append, inners_len, bsS_len c r, Nat.mul_add, Nat.mul_one]
    · rw [if_neg h, if_neg h, bsS_len c r, Nat.zero_add]
theorem goS_pairs (c : Nat) : ∀ (ms : List Nat) (p : Option Nat) (n : Nat), below n ms → pairsO p (goS c p ms n) = pairsO p ms
  | [], p, n, _ => rfl
  | m :: r, p, n, hb => by
    have hm := hb m List.mem_cons_self
    have hr : below n r := fun x hx => hb x (List.mem_cons_of_mem _ hx)
    rw [goS, pairsO]
    by_cases h : p = some m
    · rw [if_pos h, if_pos h, h, hh_pairs c n m _ hm, goS_pairs c r (some m) (n + c) (below_mono hr (by omega))]
    · rw [if_neg h, if_neg h, pairsO, if_neg h, goS_pairs c r (some m) n hr]
theorem goS_below (c : Nat) : ∀ (ms : List Nat) (p : Option Nat) (n : Nat), below n ms → below (n + c * pairsO p ms) (goS c p ms n)
  | [], p, n, _ => fun m hm => by cases hm
  | m :: r, p, n, hb => by
    have hm := hb m List.mem_cons_self
    have hr : below n r := fun x hx => hb x (List.mem_cons_of_mem _ hx)
    rw [goS, pairsO]
    by_cases h : p = some m
    · rw [if_pos h, if_pos h, Nat.mul_add, Nat.mul_one]
      have ih := goS_below c r (some m) (n + c) (below_mono hr (by omega))
      intro x hx
      rw [List.mem_append, List.mem_cons] at hx
      rcases hx with hx | e | hx
      · have := hh_below n c x hx; omega
      · omega
      · have := ih x hx; omega
    · rw [if_neg h, if_neg h, Nat.zero_add]
      have ih := goS_below c r (some m) n hr
      intro x hx
      rw [List.mem_cons] at hx
      rcases hx with e | hx
      · omega
      · exact ih x hx
/-! all sieves, run by run, from the last one -/
def manyT : Nat → List Nat × List Nat → List Nat × List Nat
  | 0, z => z
  | k + 1, z => manyT k (stT z.1 z.2)
theorem manyT_succ : ∀ (k : Nat) (z : List Nat × List Nat), manyT (k + 1) z = stT (manyT k z).1 (manyT k z).2
  | 0, z => rfl
  | k + 1, z => by
    show manyT (k + 1) (stT z.1 z.2) = _
    rw [manyT_succ k]
    rfl
def stepR (z : List Nat × List Nat) (kc : Nat × Nat) : List Nat × List Nat := if kc.1 = 83 then stS kc.2 z.1 z.2 else manyT kc.2 z
def shapeR (o : List Nat) (rs : List (Nat × Nat)) : List Nat × List Nat := rs.foldl stepR (o, [])
def shapeOf (p o : List Nat) : List Nat × List Nat := shapeR o (runs p).reverse
/-- size of a shape -/
def sizeM (z : List Nat × List Nat) : Nat × Nat := (z.1.length, pairsO none z.1)
def okM (z : List Nat × List Nat) : Prop := below z.2.length z.1
theorem stT_size {z : List Nat × List Nat} (h : okM z) : sizeM (stT z.1 z.2) = before1 true (sizeM z) ∧ okM (stT z.1 z.2) ∧ (stT z.1 z.2).2.length = z.2.length + (sizeM z).2 := by
  refine ⟨?_, ?_, ?_⟩
  · unfold sizeM stT before1
    rw [if_pos rfl]
    show ((goT none z.1 z.2.length).length, pairsO none (goT none z.1 z.2.length)) = _
    rw [goT_len, goT_pairs z.1 none z.2.length h (fun q e => by cases e)]
  · show below (z.2 ++ bsT none z.1).length (goT none z.1 z.2.length)
    rw [List.length_append, bsT_len]
    exact goT_below _ _ _ h
  · show (z.2 ++ bsT none z.1).length = _
    rw [List.length_append, bsT_len]
    rfl
def iter1 (t : Bool) : Nat → Nat × Nat → Nat × Nat
  | 0, z => z
  | k + 1, z => before1 t (iter1 t k z)
theorem iterS (c : Nat) (z : Nat × Nat) : iter1 false c z = (z.1 + 2 * c * z.2, z.2) := by
  induction c with
  | zero => simp [iter1]
  | succ c ih =>
    rw [iter1, ih]
    unfold before1
    rw [if_neg (by decide)]
    refine Prod.ext ?_ rfl
    show z.1 + 2 * c * z.2 + 2 * z.2 = z.1 + 2 * (c + 1) * z.2
    rw [Nat.mul_add, Nat.add_mul]; omega
theorem stS_size {z : List Nat × List Nat} {c : Nat} (h : okM z) : sizeM (stS c z.1 z.2) = iter1 false c (sizeM z) ∧ okM (stS c z.1 z.2) ∧ (stS c z.1 z.2).2.length = z.2.length + c * (sizeM z).2 := by
  refine ⟨?_, ?_, ?_⟩
  · rw [iterS]
    show ((goS c none z.1 z.2.length).length, pairsO none (goS c none z.1 z.2.length)) = _
    rw [goS_len, goS_pairs c z.1 none z.2.length h]
    rfl
  · show below (z.2 ++ bsS c none z.1 z.2.length).length (goS c none z.1 z.2.length)
    rw [List.length_append, bsS_len]
    exact goS_below c _ _ _ h
  · show (z.2 ++ bsS c none z.1 z.2.length).length = _
    rw [List.length_append, bsS_len]
    rfl
theorem manyT_size {z : List Nat × List Nat} (h : okM z) : ∀ k, sizeM (manyT k z) = iter1 true k (sizeM z) ∧ okM (manyT k z)
  | 0 => ⟨rfl, h⟩
  | k + 1 => by
    obtain ⟨h1, h2⟩ := manyT_size h k
    rw [manyT_succ]
    obtain ⟨e1, e2, _⟩ := stT_size h2
    exact ⟨by rw [e1, h1]; rfl, e2⟩
end Tw

set_option Elab.async false
set_option linter.all false
set_option maxRecDepth 100000
set_option maxHeartbeats 2000000
namespace TwX
open PySem PySem.W PySem.Calls PyProof.Rows PySem.HandSPX
/-! an own error class whose __init__ stores its one argument as value -/
def iA (p1 p2 : Pos) : Arguments := { posonlyargs := [], args := [{ arg := "self", annotation := none, pos := p1 }, { arg := "value", annotation := none, pos := p2 }], vararg := none, kwonlyargs := [], kw_defaults := [], kwarg := none, defaults := [] }
def iB (q1 q2 q3 q4 : Pos) : List Stmt := [.Assign [.Attribute (.Name "self" q1) "value" q2] (.Name "value" q3) q4]
def iS : Scope := { kind := .function, names := [(PySem.Str.ofString "self", .local), (PySem.Str.ofString "value", .local)], isGenerator := false, isCoroutine := false, more := [] }
/-- what the written part says of the class at C, and of its __init__, at fI -/
structure ETxt (K : Frag) (C fI : Addr) : Prop where
  cls : ∃ nm q N bs bm sn sub ab col dd k0 k1 k2 k3 k5, K.lookup C = some (excClassObj nm q C N bs bm true sn sub ab col dd k0 k1 k2 k3 k5 "ValueError.__new__") ∧ refsVE bm = true
  sa : findIn K (.ref C) "__setattr__" = some (some (.builtin "object.__setattr__"))
  ga : findIn K (.ref C) "__getattribute__" = some (some (.builtin "BaseException.__getattribute__"))
  gg : findIn K (.ref C) "__getattr__" = some none
  noN : findIn K (.ref C) "value" = some none
  iC : findIn K (.ref C) "__init__" = some (some (.ref fI))
  tC : typeIn K (.ref fI) = some (.type "function")
  kC : keepIn K (.ref C) = true
  exC : subIn K (.ref C) (.type "BaseException") = some true
  tyC : typeIn K (.ref C) = some (.type "type")
  hdC : hasDictIn K C = true
  cl : findIn K (.ref C) "__class__" = some (some (.builtin "object.__class__"))
  cn : specialIn K (.builtin "object.__class__") "__get__" = some (some (.builtin "getset_descriptor.__get__"))
  ct : takesIn K (.builtin "object.__class__") = some true
  cm : mroIn K C (.type "object") = some true
  fn : ∃ (qn : Str) (oc : Value) (od : Option Addr) (doc pm : Value) (an : Option Addr) (cdv ct : Value) (osl : Array (Option Value)) (p1 p2 q1 q2 q3 q4 : Pos),
    K.lookup fI = some ⟨oc, od, .func (fnOf "__init__" qn (iA p1 p2) (iB q1 q2 q3 q4) iS .none .none doc pm an cdv ct), osl⟩ ∧ codeIn K cdv qn = true
theorem one_size (v : Value) : [v].length ≤ sizeLine := by
  rw [sizeLine_eq]
  exact (by decide : 1 ≤ 16777216)
theorem ldC {M : Model} {s : Shared} {name : Str} {scope : Scope} {L a : Addr} {cd : Value} {m : Str → Option Value} {x : Str} {pos : Pos} {v : Value} {Q : Value → Shared → Prop} {A : Around} {E : Value → Shared → Prop} (hn : s.heap.Ns L m) (hv : m x = some v) (h : Q v s)
    (hk : scope.kind = .function := by rfl) (hl : (envOfC name scope L a cd).kindOf x = some .local := by rfl) (hd : (x == ("__debug__" : Str)) = false := by decide) :
    wpAny M A (eval (.Name x pos) (envOfC name scope L a cd)) Q E s := wpAny_Name (wpAny_loadName_local hk hl hn hv h) hd
/-- what __init__ leaves of a fresh exception at x -/
structure InitEnd (h h' : Heap) (x C dx t1 : Addr) (v : Value) : Prop where
  keep : ∀ b o, b ≠ x → h.get? b = some o → h'.get? b = some o
  obj : h'.get? x = some { cls := .ref C, dict := some dx, data := .fields #[.ref t1, .none, .none, .none, .bool false, .none] }
  dbig : h.objs.size ≤ dx
  dne : dx ≠ x
  ns : h'.Ns1 dx (fun y => if y = "value" then some v else none)
/-- a made one -/
structure OwnMade (h h' : Heap) (e C d : Addr) (v : Value) : Prop where
  keep : ∀ b o, h.get? b = some o → h'.get? b = some o
  new : h.objs.size ≤ e
  obj : ∃ oe vs, h'.get? e = some oe ∧ oe.cls = .ref C ∧ oe.dict = some d ∧ oe.data = .fields vs ∧ vs[1]? = some .none
  dbig : h.objs.size ≤ d
  dne : d ≠ e
  ns : h'.Ns1 d (fun y => if y = "value" then some v else none)
  ctx : ∃ oe vs, h'.get? e = some oe ∧ oe.data = .fields vs ∧ vs[2]? = some .none
section
variable {prog : Program} {w : World} {A : Around} {E : Value → Shared → Prop} {R : Result → Shared → Prop} {s : Shared} {K : Frag} {C fI : Addr}
theorem e_init (T : ETxt K C fI) {x t0 : Addr} {v : Value} {args : Args} (X : K.In s.heap) (hlim : s.heap.NoLimit) (hx : s.heap.get? x = some (excO C t0)) (hnx : K.lookup x = none) (hroom : A.depth < recursionLimit)
    (hargs : args = ⟨[.ref x, v], []⟩ ∨ args = ⟨[.ref x], [("value", v)]⟩)
    (hq : ∀ h' tk dx, InitEnd s.heap h' x C dx t0 v → R (.ok (.ret .none)) { s with heap := h', toks := tk }) :
    codeAny (model prog w) A (.call (.ref fI) args) R s := by
  obtain ⟨qn, oc, od, doc, pm, an, cdv, ct, osl, p1, p2, q1, q2, q3, q4, ho, hcd⟩ := T.fn
  obtain ⟨nm, q, N, bs, bm, sn, sub, ab, col, dd, k0, k1, k2, k3, k5, hC, hbm⟩ := T.cls
  have hcl : clsIn K C = some { name := nm, bases := bs, mro := .ref C :: bm, ns := N, qualname := q, hasDict := true, slotNames := sn, subclasses := sub, abstract := ab, collection := col, hasDel := false } := by unfold clsIn; rw [hC] <;> rfl
  have hbind : ∀ sh : Shared, BindsTo sh (fnOf "__init__" qn (iA p1 p2) (iB q1 q2 q3 q4) iS .none .none doc pm an cdv ct) args [("self", .ref x), ("value", v)] := by
    intro sh
    rcases hargs with e | e
    · rw [e]
      exact BindsTo.of_eq (by first | rfl | with_unfolding_all rfl)
    · rw [e]
      exact BindsTo.of_eq (by first | rfl | with_unfolding_all rfl)
  refine Att.call_fn (binds := [("self", .ref x), ("value", v)]) X hlim ho hcd hroom (hbind _) (by first | rfl | decide | with_unfolding_all rfl) (fun s₁ IC => ?_) rfl rfl rfl
  obtain ⟨h₁, tk₁, rfl⟩ := IC.toInCall.same
  have k : ∀ b o, s.heap.get? b = some o → h₁.get? b = some o := IC.toInCall.keep
  have hn := IC.toInCall.ns
  have X₁ : K.In h₁ := X.keeps k
  have hx₁ := k _ _ hx
  show wpAny _ _ (execs _ _) _ _ _
  refine wpAny_execs_cons (plainObj_wpAny_Assign_Attribute ?_)
  refine ldC (v := v) hn (by first | rfl | with_unfolding_all rfl | kernel_rfl) (ldC (v := .ref x) hn (by first | rfl | with_unfolding_all rfl | kernel_rfl) ?_)
  refine set_plain X₁ (ox := excO C t0) (od := none) ⟨hx₁, rfl, rfl, trivial⟩ T.sa ?_
  refine exc_osa X₁ hx₁ hcl (show refsVE (.ref C :: bm) = true from hbm) rfl T.noN (fun h₃ tk₃ dx k₃ dn dne hx₃ hn₃ => ?_)
  show wpAny _ _ (execs _ _) _ _ _
  have z : s.heap.objs.size < h₁.objs.size := hn.lt
  exact wpAny_execs_nil (hq h₃ tk₃ dx ⟨fun b o hb e => k₃ b o hb (k b o e), hx₃, Nat.le_of_lt (Nat.lt_of_lt_of_le z dn), dne, hn₃⟩)
theorem e_made (T : ETxt K C fI) {v : Value} (X : K.In s.heap) (hlim : s.heap.NoLimit) (hroom : A.depth + 1 < recursionLimit)
    (hq : ∀ h' tk e d, OwnMade s.heap h' e C d v → R (.ok (.ret (.ref e))) { s with heap := h', toks := tk }) :
    codeAny (model prog w) A (.call (.ref C) ⟨[v], []⟩) R s := by
  obtain ⟨nm, q, N, bs, bm, sn, sub, ab, col, dd, k0, k1, k2, k3, k5, hC, hbm⟩ := T.cls
  obtain ⟨hp, g, dr, tk, os⟩ := s
  have k : ∀ b o, hp.get? b = some o → ((hp.push (kdv_tup [v])).push (excO C hp.objs.size)).get? b = some o := fun b o e => Heap.get?_push_of_some _ (Heap.get?_push_of_some _ e)
  have hget : ((hp.push (kdv_tup [v])).push (excO C hp.objs.size)).get? (hp.objs.size + 1) = some (excO C hp.objs.size) := by heap_get
  have hnx : K.lookup (hp.objs.size + 1) = none := by
    cases e : K.lookup (hp.objs.size + 1) with
    | none => rfl
    | some o =>
      have z : hp.get? (hp.objs.size + 1) = some o := X _ _ e
      exact absurd (Nat.lt_of_succ_lt (Heap.lt_size z)) (Nat.lt_irrefl _)
  refine call_own F.excBase_ValueError (fun X => refsVE_contains X bm hbm) (X _ _ hC) (looks_findIn X T.iC) (fun self => bind_fn X self T.tC) (one_size v) ?_
  refine e_init (s := ⟨(hp.push (kdv_tup [v])).push (excO C hp.objs.size), g, dr, tk, os⟩) T (X.keeps k) (hlim.keeps k) hget hnx ?_ (.inl rfl) fun h' tk' dx ⟨k', hx, dn, dne, hns⟩ => ?_
  · show A.depth + 1 < recursionLimit
    exact hroom
  · have old : ∀ b o, hp.get? b = some o → h'.get? b = some o := fun b o e => k' b o (Nat.ne_of_lt (Nat.lt_succ_of_lt (Heap.lt_size e))) (k b o e)
    have z : hp.objs.size + 1 + 1 ≤ dx := by
      first
        | (simpa only [Heap.size_push] using dn)
        | exact dn
        | (have q := dn; rw [Heap.size_push, Heap.size_push] at q; exact q)
    exact ⟨rfl, hq h' tk' (hp.objs.size + 1) dx ⟨old, Nat.le_succ _, ⟨_, _, hx, rfl, rfl, rfl, rfl⟩, Nat.le_trans (Nat.le_trans (Nat.le_succ _) (Nat.le_succ _)) z, dne, hns, ⟨_, _, hx, rfl, rfl⟩⟩⟩
end
end TwX

set_option Elab.async false
set_option linter.all false
set_option maxRecDepth 100000
set_option maxHeartbeats 4000000
namespace TwX
open PySem PySem.W PySem.Calls PyProof.Rows PySem.HandSPX
/-! the same class called with its argument by name -/
section
variable {M : Model} {prog : Program} {w : World} {A : Around} {E : Value → Shared → Prop} {R : Result → Shared → Prop} {h : Heap} {g : Array GenState} {d : Drawn} {t : Nat} {os : OsState}
variable {nm q : Str} {C N : Addr} {bs bm bmB : List Value} {hdct : Bool} {sn : List Str} {sub : List Value} {ab : Bool} {col : Option Bool} {dd : Option Addr} {k0 k1 k2 k3 k5 : Option Value} {B newId initId : String}
theorem newK_check (F : ExcBaseFacts B newId initId bmB) (hT : ∀ X : String, bm.contains (.type X) = bmB.contains (.type X)) {n : Str} {v : Value} {Q : Unit → Shared → Prop}
    (hC : h.get? C = some (excClassObj nm q C N bs bm hdct sn sub ab col dd k0 k1 k2 k3 k5 newId)) (hq : Q () ⟨h, g, d, t, os⟩) : wpAny M A (checkBuiltinCall newId ⟨[.ref C], [(n, v)]⟩) Q E ⟨h, g, d, t, os⟩ := by
  have c1 : (Value.ref C :: bm).contains (.type B) = true := by rw [List.contains_cons, hT, F.hasB, Bool.or_true]
  have c2 := F.noStar
  simp only [checkBuiltinCall, F.newKind, F.newSplit, F.newRow]
  repeat (first | refine wpAny_loadPart_at hC ?_ | (refine wpAny_isSubtype_exc hC ?_; rw [c1]) | refine wpAny_staticBase_exc hC ?_ | refine wpAny_madeBy_exc hC ?_ | simp only [bne_self_eq_false, Bool.false_eq_true, if_false] | wp_step)
  exact hq
theorem newK_made (F : ExcBaseFacts B newId initId bmB) (hT : ∀ X : String, bm.contains (.type X) = bmB.contains (.type X)) {n : Str} {v : Value}
    (hC : h.get? C = some (excClassObj nm q C N bs bm hdct sn sub ab col dd k0 k1 k2 k3 k5 newId))
    (hq : R (.ok (.ret (.ref (h.objs.size + 1)))) ⟨(h.push (kdv_tup [])).push (excO C h.objs.size), g, d, t, os⟩) :
    codeAny (model prog w) A (.builtin newId ⟨[.ref C], [(n, v)]⟩) R ⟨h, g, d, t, os⟩ := by
  have c0 := F.ends
  have c1 : (Value.ref C :: bm).contains (.type B) = true := by rw [List.contains_cons, hT, F.hasB, Bool.or_true]
  have c2 : (Value.ref C :: bm).contains (.type "AttributeError") = false := by rw [List.contains_cons, hT, F.noAttr]; rfl
  have c3 : (Value.ref C :: bm).contains (.type "NameError") = false := by rw [List.contains_cons, hT, F.noName]; rfl
  refine codeAny_builtinAt F.entry ?_
  unfold Builtin.«BaseException.__new__»
  refine PySem.wpAt_bind ?_
  show PySem.wpAt _ _ _ (stack >>= _) _ _ _
  refine PySem.wpAt_bind (PySem.wpAt_stack fun p below => PySem.wpAt_of_wpAny ?_)
  wp_walk
  refine PySem.wpAt_of_wpAny ?_
  rw [F.owner]
  repeat (first | with_reducible refine wpAny_madeHere_exc F.canon hC ?_ | with_reducible refine wpAny_loadPart_at hC ?_ | (with_reducible refine wpAny_isSubtype_exc hC ?_; first | rw [c1] | rw [c2] | rw [c3]) | wp_step)
  show R _ _
  rw [Heap.size_push]
  exact hq
theorem typeK (F : ExcBaseFacts B newId initId bmB) (hT : ∀ X : String, bm.contains (.type X) = bmB.contains (.type X)) {n : Str} {v : Value} {fI : Addr} {Q : Fin → Shared → Prop}
    (hC : h.get? C = some (excClassObj nm q C N bs bm hdct sn sub ab col dd k0 k1 k2 k3 k5 newId))
    (hi : W.Looks (model prog w) h (typeLookup (.ref C) "__init__") (some (.ref fI))) (hb : ∀ self, W.Looks (model prog w) h (bindSpecial (.ref fI) self) (.ref fI, [self]))
    (hq : codeAny (model prog w) A (.call (.ref fI) ⟨[.ref (h.objs.size + 1)], [(n, v)]⟩)
      (fun r s' => match r with | .ok (.ret v) => v = .none ∧ Q (.done (.ret (.ref (h.objs.size + 1)))) s' | .ok _ => False | .error e => E e s')
      ⟨(h.push (kdv_tup [])).push (excO C h.objs.size), g, d, t, os⟩) :
    wpAny (model prog w) A (Builtin.«type.__call__» ⟨[.ref C], [(n, v)]⟩) Q E ⟨h, g, d, t, os⟩ := by
  repeat (first | with_reducible refine wpAny_loadPart_at hC ?_ | with_reducible refine wpAny_madeBy_exc hC ?_ | wp_step)
  refine codeAny_call_builtin_code (Code.quiet_builtin _ F.quiet) (newK_check F hT hC ?_)
  refine newK_made F hT hC ?_
  show wpAny _ _ _ _ _ _
  have k : ∀ b o, h.get? b = some o → ((h.push (kdv_tup [])).push (excO C h.objs.size)).get? b = some o := fun b o e => Heap.get?_push_of_some _ (Heap.get?_push_of_some _ e)
  have hC₁ := k _ _ hC
  have hget : ((h.push (kdv_tup [])).push (excO C h.objs.size)).get? (h.objs.size + 1) = some (excO C h.objs.size) := by heap_get
  have c4 : (Value.ref C :: bm).contains (.ref C) = true := by simp
  have i1 := hi.keeps k
  have b1 := (hb (.ref (h.objs.size + 1))).keeps k
  unfold isInstance
  repeat (first | with_reducible refine wpAny_loadPart_at hget ?_ | (with_reducible refine wpAny_isSubtype_exc hC₁ ?_; rw [c4]) | wp_step)
  show wpAny _ _ (typeLookup (.ref C) _) _ _ _
  refine i1.at ?_
  refine wpAny_holding (wpAny_bind (b1.at ?_))
  refine wpAny_bind (wpAny_call (codeAny_mono hq fun r s' z => ?_))
  rcases r with e | (v | _ | _ | _) <;> first | exact z | exact z.elim | skip
  obtain ⟨rfl, z⟩ := z
  first
    | exact wpAny_pure (wpAny_pure z)
    | (wp_walk; exact z)
end
section
variable {prog : Program} {w : World} {A : Around} {E : Value → Shared → Prop} {R : Result → Shared → Prop} {s : Shared} {K : Frag} {C fI : Addr}
theorem tcK_check {hp : Heap} {g : Array GenState} {d : Drawn} {t : Nat} {os : OsState} {M : Model} {n : Str} {v : Value} {Q : Unit → Shared → Prop} {nm q : Str} {N : Addr} {bs bm : List Value} {hdct : Bool} {sn : List Str} {sub : List Value} {ab : Bool} {col : Option Bool} {dd : Option Addr} {k0 k1 k2 k3 k5 : Option Value} {newId : String}
    (hC : hp.get? C = some (excClassObj nm q C N bs bm hdct sn sub ab col dd k0 k1 k2 k3 k5 newId)) (hq : Q () ⟨hp, g, d, t, os⟩) : wpAny M A (checkBuiltinCall "type.__call__" ⟨[.ref C], [(n, v)]⟩) Q E ⟨hp, g, d, t, os⟩ := by
  have f3 := tc_sub
  have hT : (⟨hp, g, d, t, os⟩ : Shared).TypeIs (.ref C) "type" := ⟨_, hC, rfl⟩
  simp only [checkBuiltinCall, tc_kind, tc_split]
  repeat (any_goals (first | assumption | with_reducible refine wpAny_loadPart_at hC ?_ | with_reducible refine wpAny_onRaise ?_ | with_reducible refine wpAny_map ?_ | wp_step))
theorem e_madeK (T : ETxt K C fI) {v : Value} (X : K.In s.heap) (hlim : s.heap.NoLimit) (hroom : A.depth + 1 < recursionLimit)
    (hq : ∀ h' tk e d, OwnMade s.heap h' e C d v → R (.ok (.ret (.ref e))) { s with heap := h', toks := tk }) :
    codeAny (model prog w) A (.call (.ref C) ⟨[], [("value", v)]⟩) R s := by
  obtain ⟨nm, q, N, bs, bm, sn, sub, ab, col, dd, k0, k1, k2, k3, k5, hC, hbm⟩ := T.cls
  obtain ⟨hp, g, dr, tk, os⟩ := s
  have hC1 := X _ _ hC
  have f1 := tc_lookup
  have f2 := tc_bind (.ref C)
  have hTy : (⟨hp, g, dr, tk, os⟩ : Shared).TypeIs (.ref C) "type" := ⟨_, hC1, rfl⟩
  have k : ∀ b o, hp.get? b = some o → ((hp.push (kdv_tup [])).push (excO C hp.objs.size)).get? b = some o := fun b o e => Heap.get?_push_of_some _ (Heap.get?_push_of_some _ e)
  have hget : ((hp.push (kdv_tup [])).push (excO C hp.objs.size)).get? (hp.objs.size + 1) = some (excO C hp.objs.size) := by heap_get
  have hnx : K.lookup (hp.objs.size + 1) = none := by
    cases e : K.lookup (hp.objs.size + 1) with
    | none => rfl
    | some o =>
      have z : hp.get? (hp.objs.size + 1) = some o := X _ _ e
      exact absurd (Nat.lt_of_succ_lt (Heap.lt_size z)) (Nat.lt_irrefl _)
  refine codeAny_of_tree ?_
  show wpAny _ _ (callAny (.ref C) _) _ _ _
  repeat (any_goals (first | assumption | with_reducible refine wpAny_loadPart_at hC1 ?_ | wp_step))
  refine ⟨rfl, ?_⟩
  refine codeAny_call_builtin_at (Code.quiet_builtin _ (by decide +kernel)) entry_typeCall (tcK_check hC1 ?_)
  refine typeK F.excBase_ValueError (fun X => refsVE_contains X bm hbm) hC1 (looks_findIn X T.iC) (fun self => bind_fn X self T.tC) ?_
  refine e_init (s := ⟨(hp.push (kdv_tup [])).push (excO C hp.objs.size), g, dr, tk, os⟩) T (X.keeps k) (hlim.keeps k) hget hnx ?_ (.inr rfl) fun h' tk' dx ⟨k', hx, dn, dne, hns⟩ => ?_
  · show A.depth + 1 < recursionLimit
    exact hroom
  · have old : ∀ b o, hp.get? b = some o → h'.get? b = some o := fun b o e => k' b o (Nat.ne_of_lt (Nat.lt_succ_of_lt (Heap.lt_size e))) (k b o e)
    have z : hp.objs.size + 1 + 1 ≤ dx := by
      first
        | (simpa only [Heap.size_push] using dn)
        | exact dn
        | (have q := dn; rw [Heap.size_push, Heap.size_push] at q; exact q)
    exact ⟨rfl, hq h' tk' (hp.objs.size + 1) dx ⟨old, Nat.le_succ _, ⟨_, _, hx, rfl, rfl, rfl, rfl⟩, Nat.le_trans (Nat.le_trans (Nat.le_succ _) (Nat.le_succ _)) z, dne, hns, ⟨_, _, hx, rfl, rfl⟩⟩⟩
end
end TwX

set_option Elab.async false
set_option linter.all false
set_option maxRecDepth 100000
set_option maxHeartbeats 4000000
namespace PySem.W
open PySem PySem.Spec PySem.Calls PyProof.Rows
section
variable {prog : Program} {w : World} {A : Around} {E : Value → Shared → Prop} {s : Shared} {K : Frag} {x D : Addr} {ox : Obj} {od : Option Obj}
theorem twx_find {C : Addr} {name : Str} {a g : Value} (hc : (clsIn K C).isSome = true) (ha : findIn K (.ref C) name = some (some a)) (hg : specialIn K a "__get__" = some (some g)) (ht : takesIn K a = some true) : findObj K C od name = some (.bind g a) := by
  obtain ⟨cd, hc⟩ := Option.isSome_iff_exists.mp hc
  unfold findObj
  rw [hc, Option.bind_some, ha, Option.bind_some]
  simp [hg, ht]
/-- x.__class__, x an own error with or without attributes -/
theorem twx_class {fI : Addr} {Q : Option Value → Shared → Prop} (T : TwX.ETxt K D fI) (X : K.In s.heap) (I : InstAt s.heap x ox D od) (h : Q (some (.ref D)) { s with toks := s.toks + 1 }) : wpAny (model prog w) A (getAttr? (.ref x) "__class__") Q E s := by
  have hf : findObj K D od "__class__" = some (.bind (.builtin "getset_descriptor.__get__") (.builtin "object.__class__")) := twx_find (by obtain ⟨cd, hc, _⟩ := any_some T.hdC; rw [hc]; rfl) T.cl T.cn T.ct
  obtain ⟨hp, g, d, t, os⟩ := s
  have L0 := I.type (M := model prog w)
  have L1 := looks_findIn (M := model prog w) X T.ga
  have L2 := looks_findIn (M := model prog w) X T.gg
  have L3 := looks_find (M := model prog w) X I hf
  have sub : Looks (model prog w) hp (isInstance (.ref x) (.type "BaseException")) true := L0.andThen (looks_subIn X T.exC)
  have z0 : (false && onTheHeap (Value.builtin "BaseException.__getattribute__")) = false := rfl
  have z1 : (onTheHeap (Value.ref D) && Value.builtin "BaseException.__getattribute__" == Value.builtin "object.__getattribute__") = false := by
    have z2 : (Value.builtin "BaseException.__getattribute__" == Value.builtin "object.__getattribute__") = false := by decide +kernel
    rw [z2]; rfl
  unfold getAttr? getAttrBy? getAttrBy
  refine wpAny_bind (wpAny_mkText (wpAny_bind (wpAny_attempt (wpAny_holding (wpAny_bind (L0.at (wpAny_bind (L1.at ?_))))))))
  show wpAny _ _ (if (onTheHeap (Value.ref D) && Value.builtin "BaseException.__getattribute__" == Value.builtin "object.__getattribute__") = true then _ else _) _ _ _
  rw [z1, if_neg Bool.false_ne_true]
  unfold getAttrByItsOwn hookBefore
  refine wpAny_bind ?_
  rw [if_pos (show onTheHeap (Value.ref D) = true from rfl)]
  refine L2.at ?_
  refine wpAny_bind (wpAny_attempt (wpAny_holding ?_))
  unfold callGetattribute
  rw [z0, if_neg Bool.false_ne_true]
  unfold boundAndCalled
  rw [PySem.F.excAttr_ValueError.ga.bind (.ref x)]
  refine wpAny_bind (wpAny_pure ?_)
  show wpAny _ _ (call (.builtin "BaseException.__getattribute__") [.ref x, .str "__class__" t]) _ _ _
  refine wpAny_call (codeAny_call_builtin PySem.F.excAttr_ValueError.ga.plain PySem.F.entry_bexc_ga ?_)
  refine @check_slot (model prog w) _ _ ⟨hp, g, d, t + 1, os⟩ "BaseException.__getattribute__" "BaseException" "__getattribute__" (.ref x) [.str "__class__" t] [] _ (by decide +kernel) (by decide +kernel) sub (PySem.F.args_bexc_ga (.ref x) (.str "__class__" t)) ?_
  unfold Builtin.«object.__getattribute__»
  refine wpAny_bind (wpAny_of_eq (a := ((Value.ref x : Value), [Value.str "__class__" t])) (by first | rfl | (simp only [slotArgs]; rfl)) ?_)
  refine wpAny_bind (wpAny_pure (wpAny_bind (L0.at (wpAny_bind (L3.at ?_)))))
  show wpAny _ _ (holding [Value.builtin "object.__class__"] (call (.builtin "getset_descriptor.__get__") [.builtin "object.__class__", .ref x, .ref D]) >>= ret) _ _ _
  refine wpAny_bind (wpAny_holding (wpAny_call (class_get (s := ⟨hp, g, d, t + 1, os⟩) (ox := ox) (od := od) X I T.cm ?_)))
  refine wpAny_pure ?_
  show wpAny _ _ (handedOut (.ref D)) _ _ _
  rw [handedOut_of (v := .ref D) rfl]
  first
    | exact wpAny_pure (wpAny_pure h)
    | exact wpAny_pure h
    | exact wpAny_pure (wpAny_bind (wpAny_pure (wpAny_pure h)))
theorem twx_kit {fI : Addr} (T : TwX.ETxt K D fI) : KitX K (.ref x) (.ref D) (fun h => ∃ ox od, InstAt h x ox D od) where
  ty := fun _ _ _ ⟨_, _, I⟩ => I.type
  it := fun _ _ X _ => by
    obtain ⟨cdD, hcD, _⟩ := any_some T.hdC
    unfold clsIn at hcD
    split at hcD
    · rename_i c' d' cd' sl' ho
      intro A' Q' E' s' k q
      unfold isType loadHead
      exact wpAny_bind (wpAny_loadPart (k _ _ (X _ _ ho)) (wpAny_pure q))
    · cases hcD
  ne := fun h tp dd its n sl X htp => by
    obtain ⟨cdD, hcD, _⟩ := any_some T.hdC
    refine Bool.eq_false_iff.mpr fun q => ?_
    have e : D = tp := Value.ref.inj (beq_iff_eq.mp q)
    subst e
    unfold clsIn at hcD
    split at hcD
    · rename_i c' d' cd' sl' ho
      have z := (X _ _ ho).symm.trans htp
      cases z
    · cases hcD
  ca := fun X I k => by
    obtain ⟨ox, od, I⟩ := I
    exact twx_class T X I k
end
end PySem.W
namespace Tw
open PySem PySem.Spec PyProof.Rows L2
/-- an own error at a, of the class at C, its attributes in the dict at d -/
def ExcV (C d a : Addr) : HO := .ext fun h => ∃ (oe : Obj) (vs : Array Value), h.get? a = some oe ∧ oe.cls = .ref C ∧ oe.dict = some d ∧ oe.data = .fields vs ∧ vs[1]? = some Value.none
def xval (v : V) : HO := .xd [(("value" : Str), v)]
theorem relO_val {v : V} {v' : Value} (r : RelV v v') (f : Str) : RelO (List.lookup f [(("value" : Str), v)]) (if f = "value" then some v' else none) := by
  by_cases hw : f = "value"
  · subst hw
    rw [if_pos rfl]
    have q : List.lookup ("value" : Str) [(("value" : Str), v)] = some v := by simp [List.lookup]
    rw [q]
    exact r
  · rw [if_neg hw]
    have qw : (f == ("value" : Str)) = false := by simpa using hw
    have q2 : List.lookup f [(("value" : Str), v)] = none := by simp [List.lookup, qw]
    rw [q2]
    trivial
theorem excV_ok {P : Program} {w : World} {H : Hp} {h : Heap} {C d a : Addr} {oe : Obj} {vs : Array Value} (e : h.get? a = some oe) (h1 : oe.cls = .ref C) (h2 : oe.dict = some d) (h3 : oe.data = .fields vs) (h4 : vs[1]? = some Value.none) : ObjOk P w H h a (ExcV C d a) :=
  ⟨⟨oe, vs, e, h1, h2, h3, h4⟩, ⟨oe, e⟩, fun _ _ ⟨o, v, q, r⟩ k => ⟨o, v, k o q, r⟩⟩
section
variable {X : Cx} {pins : List (Addr × Obj)} {σ : L2.St} {H : Hp} {s : Shared} {C fI : Addr}
/-- behind a made one -/
theorem inv_made {h' : Heap} {tk' : Nat} {e d : Addr} {v : V} {v' : Value} (I : Inv X pins σ H s) (rv : RelV v v') (M : TwX.OwnMade s.heap h' e C d v') :
    H d = none ∧ H e = none ∧ e ≠ d ∧ Inv X pins σ (upd (upd H d (xval v)) e (ExcV C d e)) { s with heap := h', toks := tk' } := by
  obtain ⟨oe, fv, hoe, hc, hd, hdat, h1⟩ := M.obj
  have hns := M.ns
  obtain ⟨G', g1, g2⟩ := restrict h' fun b => decide (b ≠ e)
  have gk : ∀ b, b ≠ e → G'.get? b = h'.get? b := fun b hb => g1 b (decide_eq_true hb)
  have ge : G'.get? e = none := g2 e (by simp)
  have old : ∀ b o, s.heap.get? b = some o → G'.get? b = some o := fun b o q => (gk b (Nat.ne_of_lt (Nat.lt_of_lt_of_le (Heap.lt_size q) M.new))).trans (M.keep b o q)
  have nd : H d = none := I.hok.fresh M.dbig
  have ne : H e = none := I.hok.fresh M.new
  have ob : ObjOk X.prog X.w (upd H d (xval v)) G' d (xval v) := ⟨_, hns.at (fun o q => (gk d M.dne).trans q), fun f => relO_val rv f⟩
  have J : Inv X pins σ (upd H d (xval v)) { s with heap := G', toks := tk' } := I.laid (t' := tk') old M.dbig ob
  have ne2 : upd H d (xval v) e = none := by
    rw [upd_ne (Ne.symm M.dne)]
    exact ne
  refine ⟨nd, ne, Ne.symm M.dne, J.laidN (fun b o q => ?_) ge ne2 (excV_ok hoe hc hd hdat h1)⟩
  by_cases hb : b = e
  · have q' : G'.get? b = some o := q
    rw [hb, ge] at q'
    cases q'
  · rw [← gk b hb]
    exact q
def tMkE (C : Addr) (ta : TA) : TE := fun σ H Q => ta σ H fun vs H1 => ∃ v, vs = [v] ∧ ∀ e d, H1 d = none → H1 e = none → e ≠ d → Q (.ref e) (upd (upd H1 d (xval v)) e (ExcV C d e))
theorem pe_mkE {a : Expr} {ta : TA} {x : Str} {p pos : Pos} {k : Nat} (T : TwX.ETxt X.K C fI) (gC : X.mg x = some (.ref C)) (hr : Room k X.A) (ha : PA X [a] ta) (hg : Gl X x) (hdb : (x == ("__debug__" : Str)) = false := by decide)
    (he : starEach (a :: []) X.env = (false, eval a X.env) :: starEach [] X.env := by rfl) (hpl : (backTo pos (starEach [] X.env)).any (·.1) = false := by rfl) :
    PE X (.Call (.Name x p) [a] [] pos) (tMkE C ta) := by
  refine ⟨fun pins s σ H Q I h => wpAny_Call_Name_kw (ld_glob I hg gC ?_ hdb)⟩
  refine PySem.W.callWith_K (h₀ := X.base) I.ok.mod.kin T.kC (thn (ha.run pos pins s σ H _ I h) fun us s1 hh => ?_) he hpl
  obtain ⟨vs, H1, I1, r1, v, rfl, q1⟩ := hh
  obtain ⟨v', rfl, rv⟩ := vals1 r1
  refine ⟨I1.kIn, ?_⟩
  show wpAny _ _ (call (.ref C) [v']) _ _ _
  refine wpAny_call (TwX.e_made T I1.kIn I1.nolimit (by have := hr.dp; omega) fun h' tk' e d M => ?_)
  obtain ⟨nd, ne, ed, J⟩ := inv_made (tk' := tk') I1 rv M
  exact ⟨.ref e, _, J, rfl, q1 e d nd ne ed⟩
theorem pe_mkEK {a : Expr} {te : TE} {x : Str} {p pos kp : Pos} {k : Nat} (T : TwX.ETxt X.K C fI) (gC : X.mg x = some (.ref C)) (hr : Room k X.A) (ha : PE X a te) (hg : Gl X x) (hdb : (x == ("__debug__" : Str)) = false := by decide)
    (hall : (backToKw pos (keywordEach [⟨some "value", a, kp⟩] X.env)).all (·.1.isSome) = true := by rfl)
    (hks : (backToKw pos (keywordEach [⟨some "value", a, kp⟩] X.env)).filterMap (·.1) = [("value" : Str)] := by rfl)
    (hpl : ((backTo pos (starEach [] X.env)).any (·.1) || (backToKw pos (keywordEach [⟨some "value", a, kp⟩] X.env)).any (·.1.isNone)) = false := by rfl) :
    PE X (.Call (.Name x p) [] [⟨some "value", a, kp⟩] pos) (tMkE C (tCons te tNil)) := by
  refine ⟨fun pins s σ H Q I h => wpAny_Call_Name_kw (ld_glob I hg gC ?_ hdb)⟩
  refine PySem.W.callWith_KW0 (h₀ := X.base) I.ok.mod.kin T.kC hall (thn ((pk_cons (nm := some "value") ha pk_nil).run pos pins s σ H _ I h) fun us s1 hh => ?_) hpl
  obtain ⟨vs, H1, I1, r1, v, rfl, q1⟩ := hh
  obtain ⟨v', rfl, rv⟩ := vals1 r1
  refine ⟨I1.kIn, ?_⟩
  rw [hks]
  show wpAny _ _ (call (.ref C) [] [("value", v')]) _ _ _
  refine wpAny_call (TwX.e_madeK T I1.kIn I1.nolimit (by have := hr.dp; omega) fun h' tk' e d M => ?_)
  obtain ⟨nd, ne, ed, J⟩ := inv_made (tk' := tk') I1 rv M
  exact ⟨.ref e, _, J, rfl, q1 e d nd ne ed⟩
theorem inst_of {C d a : Addr} (I : Inv X pins σ H s) (h : H a = some (ExcV C d a)) (hd : ∃ v, H d = some (xval v)) : ∃ oe od, PySem.W.InstAt s.heap a oe C (some od) ∧ s.heap.get? d = some od := by
  obtain ⟨⟨oe, vs, e, h1, h2, h3, _⟩, _, _⟩ := I.hok a _ h
  obtain ⟨v, hv⟩ := hd
  have x : ObjOk X.prog X.w H s.heap d (.xd [(("value" : Str), v)]) := I.hok d _ hv
  obtain ⟨mA, hns, _⟩ := x
  obtain ⟨od, ho, hl⟩ := lookIn_ns hns
  exact ⟨oe, od, ⟨e, h1, by unfold PySem.W.notCls; rw [h3] <;> rfl, by rw [h2]; exact ho⟩, ho⟩
/-- error.value -/
def tValE (K : PySem.W.Frag) (te : TE) : TE := fun σ H Q => te σ H fun x H1 => ∃ (a C d fI : Addr) (v : V), x = .ref a ∧ H1 a = some (ExcV C d a) ∧ TwX.ETxt K C fI ∧ H1 d = some (xval v) ∧ Q v H1
theorem pe_valE {e : Expr} {te : TE} {pos : Pos} (he : PE X e te) (hb : attributeBase e "value" X.env (eval e X.env) = eval e X.env := by rfl) : PE X (.Attribute e "value" pos) (tValE X.K te) := by
  refine ⟨fun pins s σ H Q I h => attr_of hb (thn (he.run pins s σ H _ I h) fun u s1 hh => ?_)⟩
  obtain ⟨x, H1, I1, rx, a, C, d, fI, v, rfl, ha, T, hv, q⟩ := hh
  obtain rfl : u = Value.ref a := rx
  obtain ⟨⟨oe, vs, e, h1, h2, h3, _⟩, _, _⟩ := I1.hok a _ ha
  have hx : ObjOk X.prog X.w H1 s1.heap d (.xd [(("value" : Str), v)]) := I1.hok d _ hv
  obtain ⟨mA, hns, hr⟩ := hx
  obtain ⟨od, ho, hl⟩ := lookIn_ns hns
  have l : List.lookup ("value" : Str) [(("value" : Str), v)] = some v := by simp [List.lookup]
  obtain ⟨u, hu, ru⟩ := RelO.some_of (v := v) (o := mA "value") (by rw [← l]; exact hr "value")
  have J : PySem.W.InstAt s1.heap a oe C (some od) := ⟨e, h1, by unfold PySem.W.notCls; rw [h3] <;> rfl, by rw [h2]; exact ho⟩
  exact HandSPX.exc_get I1.kIn J T.ga T.gg T.exC (PySem.W.findObj_own T.hdC T.noN rfl (by rw [hl, hu])) (handed_of ru) ⟨v, H1, I1.tok _, ru, q⟩
/-- isinstance(error, class) -/
theorem call_isV : CallR X (.builtin "isinstance") (fun xs H Q => ∃ (a C d fI : Addr) (c : V) (u : Value) (b : Bool), xs = [.ref a, c] ∧ H a = some (ExcV C d a) ∧ (∃ v, H d = some (xval v)) ∧ TwX.ETxt X.K C fI ∧ ClsV c u ∧ PySem.W.kitOne X.K (.ref C) u = some b ∧ Q (.bl b) H) := by
  intro pins s σ H xs us Q I r h
  obtain ⟨a, C, d, fI, c, u, b, rfl, ha, hd, T, k, e, q⟩ := h
  obtain ⟨u1, u2, rfl, r1, r2⟩ := vals2 r
  obtain rfl : u1 = Value.ref a := r1
  have e2 := k.eq r2
  subst e2
  obtain ⟨oe, od, J, _⟩ := inst_of I ha hd
  exact PySem.W.kia_one (PySem.W.twx_kit T) I.kIn ⟨oe, some od, J⟩ e (fun z => nomatch z) fun tk => ⟨.bl b, H, I.tok tk, rfl, q⟩
end
end Tw

set_option Elab.async false
set_option linter.all false
set_option maxRecDepth 100000
set_option maxHeartbeats 2000000
namespace Tw
open PySem PySem.Spec PyProof.Rows L2
/-- repr of any data, where it is known that no repr runs around -/
theorem call_reprV {X : Cx} (hg : X.A.guards = some []) (hu : X.A.units + 64 < cLine) :
    CallR X (.builtin "repr") (fun xs H Q => ∃ (x : V) (d : PyData), xs = [x] ∧ Dp X.K H x d ∧ d.showable = true ∧ d.hasDict = false ∧ d.depth ≤ 50 ∧ d.shown.length ≤ sizeLine ∧ Q (V.str d.shown) H) := by
  intro pins s σ H xs us Q I r h
  obtain ⟨x, d, rfl, hd, h1, h2, h3, h4, q⟩ := h
  cases hd with
  | non =>
    obtain ⟨u, rfl, ru⟩ := vals1 r
    obtain rfl : u = Value.none := ru
    exact PySem.P.repr_of_none ⟨V.str _, H, I.tok _, ⟨_, rfl⟩, q⟩
  | bl b =>
    obtain ⟨u, rfl, ru⟩ := vals1 r
    obtain rfl : u = Value.bool b := ru
    exact PySem.P.repr_of_bool ⟨V.str (PyData.bool b).shown, H, I.tok _, ⟨s.toks, by cases b <;> rfl⟩, q⟩
  | int i =>
    obtain ⟨u, rfl, t, rfl⟩ := vals1 r
    exact PySem.P.repr_of_int (of_decide_eq_true h1) ⟨V.str _, H, I.tok _, ⟨_, rfl⟩, q⟩
  | str z =>
    obtain ⟨u, rfl, t, rfl⟩ := vals1 r
    exact PySem.P.repr_of_str ⟨V.str _, H, I.tok _, ⟨_, rfl⟩, q⟩ h4
  | lst hs hall => exact call_reprD hg hu pins s σ H _ us Q I r ⟨_, _, rfl, .lst hs hall, h1, h2, h3, h4, q⟩
  | tup hs hall => exact call_reprD hg hu pins s σ H _ us Q I r ⟨_, _, rfl, .tup hs hall, h1, h2, h3, h4, q⟩
theorem same_seqT {K : PySem.W.Frag} {H H' : Hp} {a : Addr} {xs : List V} (e : Same H H') (h : SqT K H a xs) : SqT K H' a xs := by
  rcases h with (h | ⟨o, h⟩) | h
  · exact .inl (.inl (e _ _ h))
  · exact .inl (.inr ⟨o, e _ _ h⟩)
  · exact .inr h
mutual
theorem dp_same {K : PySem.W.Frag} {H H' : Hp} (e : Same H H') : ∀ {x : V} {d : PyData}, Dp K H x d → Dp K H' x d
  | _, _, .non => .non
  | _, _, .bl b => .bl b
  | _, _, .int i => .int i
  | _, _, .str z => .str z
  | _, _, .lst hs h => .lst (e.seq hs) (dps_same e h)
  | _, _, .tup hs h => .tup (same_seqT e hs) (dps_same e h)
theorem dps_same {K : PySem.W.Frag} {H H' : Hp} (e : Same H H') : ∀ {xs : List V} {ds : List PyData}, DpAll K H xs ds → DpAll K H' xs ds
  | _, _, .nil => .nil
  | _, _, .cons a b => .cons (dp_same e a) (dps_same e b)
end
end Tw

set_option Elab.async false
set_option linter.all false
set_option maxRecDepth 100000
set_option maxHeartbeats 4000000
namespace Tw
open PySem PySem.Spec PyProof.Rows L2
/-- a caught own error at a, of the class at C, its attributes in the dict at d -/
def ExcR (C d a : Addr) : HO := .ext fun h => ∃ (oe : Obj) (vs : Array Value), h.get? a = some oe ∧ oe.cls = .ref C ∧ oe.dict = some d ∧ oe.data = .fields vs
theorem excR_ok {P : Program} {w : World} {H : Hp} {h : Heap} {C d a : Addr} {oe : Obj} {vs : Array Value} (e : h.get? a = some oe) (h1 : oe.cls = .ref C) (h2 : oe.dict = some d) (h3 : oe.data = .fields vs) : ObjOk P w H h a (ExcR C d a) :=
  ⟨⟨oe, vs, e, h1, h2, h3⟩, ⟨oe, e⟩, fun _ _ ⟨o, v, q, r⟩ k => ⟨o, v, k o q, r⟩⟩
section
variable {X : Cx} {pins : List (Addr × Obj)} {σ : L2.St} {H : Hp} {s : Shared} {C fI : Addr}
/-! raise -/
def tMkR (C : Addr) (ta : TA) : L2.St → Hp → XK → Prop := fun σ H Q => ta σ H fun vs H1 => ∃ v, vs = [v] ∧ ∀ d, H1 d = none → Q (.ref C) (some d) (upd H1 d (xval v))
theorem pmk_R {a : Expr} {ta : TA} {x : Str} {p pos : Pos} {k : Nat} (T : TwX.ETxt X.K C fI) (gC : X.mg x = some (.ref C)) (hr : Room k X.A) (ha : PA X [a] ta) (hg : Gl X x) (hdb : (x == ("__debug__" : Str)) = false := by decide)
    (he : starEach (a :: []) X.env = (false, eval a X.env) :: starEach [] X.env := by rfl) (hpl : (backTo pos (starEach [] X.env)).any (·.1) = false := by rfl) :
    PMk X (.Call (.Name x p) [a] [] pos) (tMkR C ta) := by
  intro pins s σ H Q I h
  refine wpAny_Call_Name_kw (ld_glob I hg gC ?_ hdb)
  refine PySem.W.callWith_K (h₀ := X.base) I.ok.mod.kin T.kC (thn (ha.run pos pins s σ H _ I h) fun us s1 hh => ?_) he hpl
  obtain ⟨vs, H1, I1, r1, v, rfl, q1⟩ := hh
  obtain ⟨v', rfl, rv⟩ := vals1 r1
  refine ⟨I1.kIn, ?_⟩
  show wpAny _ _ (call (.ref C) [v']) _ _ _
  refine wpAny_call (TwX.e_made T I1.kIn I1.nolimit (by have := hr.dp; omega) fun h' tk' e d M => ?_)
  obtain ⟨oe, fv, hoe, hc, hd, hdat, h1⟩ := M.obj
  have hns := M.ns
  obtain ⟨G', g1, g2⟩ := restrict h' fun b => decide (b ≠ e)
  have gk : ∀ b, b ≠ e → G'.get? b = h'.get? b := fun b hb => g1 b (decide_eq_true hb)
  have ge : G'.get? e = none := g2 e (by simp)
  have old : ∀ b o, s1.heap.get? b = some o → G'.get? b = some o := fun b o q => (gk b (Nat.ne_of_lt (Nat.lt_of_lt_of_le (Heap.lt_size q) M.new))).trans (M.keep b o q)
  have ob : ObjOk X.prog X.w (upd H1 d (xval v)) G' d (xval v) := ⟨_, hns.at (fun o q => (gk d M.dne).trans q), fun f => relO_val rv f⟩
  have J : Inv X pins σ (upd H1 d (xval v)) { s1 with heap := G', toks := tk' } := I1.laid (t' := tk') old M.dbig ob
  refine ⟨e, oe, fv, { s1 with heap := G', toks := tk' }, _, .ref C, some d, rfl, J, fun b o q => ?_, ge, hoe, ⟨hc, hd⟩, hdat, h1, ?_, rfl, I1.bare, raises_own T.exC T.tyC, q1 d (I1.hok.fresh M.dbig)⟩
  · by_cases hb : b = e
    · have q' : G'.get? b = some o := q
      rw [hb, ge] at q'; cases q'
    · exact (gk b hb).symm.trans q
  · rw [upd_ne (Ne.symm M.dne)]
    exact I1.hok.fresh M.new
def tRaiseR (C : Addr) (W : WX) (ta : TA) : TS := fun _ σ H => tMkR C ta σ H fun cls d H' => W cls d σ H'
theorem ps_raiseR {a : Expr} {ta : TA} {W : WX} {x : Str} {p pos pos2 : Pos} {k : Nat} (hc : X.calm = true) (T : TwX.ETxt X.K C fI) (gC : X.mg x = some (.ref C)) (hr : Room k X.A) (tk : Takes X W) (ha : PA X [a] ta) (hg : Gl X x) (hdb : (x == ("__debug__" : Str)) = false := by decide)
    (he : starEach (a :: []) X.env = (false, eval a X.env) :: starEach [] X.env := by rfl) (hpl : (backTo pos (starEach [] X.env)).any (·.1) = false := by rfl) :
    PS X (.Raise (some (.Call (.Name x p) [a] [] pos)) none pos2) (tRaiseR C W ta) := ps_raise hc tk (pmk_R T gC hr ha hg hdb he hpl)

/-! a caught error is tracked -/
theorem inv_track {a d : Addr} {oe : Obj} {vs : Array Value} (I : Inv X pins σ H s) (e : s.heap.get? a = some oe) (hc : oe.cls = .ref C) (hd : oe.dict = some d) (hf : oe.data = .fields vs) (na : H a = none)
    (nL : a ≠ X.env.locals) (n0 : X.s_0.heap.get? a = none) (np : ∀ p ∈ X.pn ++ pins, p.1 ≠ a) : Inv X pins σ (upd H a (ExcR C d a)) s := by
  refine ⟨I.ok, I.os, I.bare, ⟨I.base.keep, I.base.slot, fun b o q n hx => ?_, I.base.there, fun b xs q => ?_, fun b o u q => ?_, fun b ps q => ?_⟩, I.loc, I.cell, ?_, fun x c q => ?_, fun p hp => ?_, I.hok.laidN (fun b u q => q) na (excR_ok e hc hd hf), I.len⟩
  · rw [upd_ne (fun z => by rw [z, n0] at q; cases q)]
    exact I.base.free b o q n hx
  · have q2 := I.base.tups b xs q
    rw [upd_ne (ne_of_none q2 na)]; exact q2
  · have q2 := I.base.frzs b o u q
    rw [upd_ne (ne_of_none q2 na)]; exact q2
  · obtain ⟨m, q2⟩ := I.base.tbls b ps q
    exact ⟨m, by rw [upd_ne (ne_of_none q2 na)]; exact q2⟩
  · rw [upd_ne (Ne.symm nL)]; exact I.free
  · have nc : c ≠ a := fun z => by
      obtain ⟨v, o, ho, hd'⟩ := I.cell x c q
      rw [z, e] at ho
      cases ho
      rw [hf] at hd'
      cases hd'
    rw [upd_ne nc]; exact I.freeC x c q
  · obtain ⟨h1, h2, h3⟩ := I.pin p hp
    exact ⟨h1, by rw [upd_ne (np p hp)]; exact h2, h3⟩
end
/-- what the clause 'except x as n' wishes; behind the suite the error stays tracked -/
def wKeep (K : PySem.W.Frag) (c : Value) (i : Nat) (ts : Addr → Value → Option Addr → TS) (Wout : WX) (D : Ends) : WX := fun cls d σ H =>
  ∃ b, PySem.W.exmOne K cls c = some b ∧ (b = true → ∃ C dd, cls = .ref C ∧ d = some dd ∧ ∀ a, H a = none → ts a cls d { nx := fun σ' H' => H' a = none → D.nx (σ'.set i none) (upd H' a (ExcR C dd a)), rt := fun _ _ => False } (σ.set i (some (.ref a))) H) ∧
    (b = false → Wout cls d σ H)
section
variable {X : Cx} {x n : Str} {c : Value} {i : Nat} {body suite : List Stmt} {b₀ : Stmt} {np pos pos' : Pos} {tb : WX → TS} {ts : Addr → Value → Option Addr → TS} {Wout : WX}
theorem ps_try_keep (hs : X.stack = X.env :: X.outer) (hf : X.env.frame = some X.env.locals) (hex : X.ex = []) (hN : X.N.Nodup) (hi : X.N[i]? = some n) (hln : X.env.kindOf n = some .local) (hc : Names X x c) (tk : Takes X Wout)
    (hb : ∀ (W : WX) (pn : List (Addr × Obj)) (xe : Value → Shared → Prop), Takes (X.tr pn xe) W → PassesOwn (model X.prog X.w) X.A X.env xe → PSs (X.tr pn xe) body (tb W))
    (hsu : ∀ (a : Addr) (oe : Obj) (cls : Value) (d : Option Addr) (pn : List (Addr × Obj)), Zc cls d oe → (∃ vs, oe.data = .fields vs) → PSs (X.suite a ((a, oe) :: pn)) (b₀ :: suite) (ts a cls d)) :
    PS X (.Try body [.ExceptHandler (some (.Name x np)) (some n) (b₀ :: suite) pos'] [] [] pos) (fun D σ H => tb (wKeep X.K c i ts Wout D) D σ H) := by
  refine ⟨fun pins s σ H D I h => ?_⟩
  have ok := I.ok
  have hfr : X.A.frames = some (X.env :: X.outer) := by rw [ok.frames, hs]
  have hloc : Loc X.env.scope n := .inl hln
  refine wpAny_Try_except ?_
  refine wpAny_mono ((hb (wKeep X.K c i ts Wout D) (X.pn ++ pins) (fun e s₁ => wpAny (model X.prog X.w) X.A (noteFrame e X.env) (fun _ s₂ => wpAny (model X.prog X.w) X.A (setFlight e none) (fun _ s₃ =>
    wpAny (model X.prog X.w) X.A (handleBy e X.env [.ExceptHandler (some (.Name x np)) (some n) (b₀ :: suite) pos']) (SP X pins D) X.xe s₃) X.xe s₂) X.xe s₁) (fun u s' xx => ?_) PassesOwn.looking).run [] s σ H D (I.toTry _) h) (fun f s1 hsp => ?_) (fun e s1 he => he)
  · obtain ⟨a, B, sI, pins', σ', H', cls, d, rfl, J', nb, up, sky, na, os, ag, b, hb1, hyes, hno⟩ := xx
    have J : Inv X pins σ' H' sI := J'.ofTry ok
    have sky' : Sky B (X.env :: X.outer) a (Zc cls d) X.env.locals s'.heap := by rw [← hs]; exact sky
    show wpAny (model X.prog X.w) X.A (noteFrame (.ref a) X.env) _ _ _
    refine Sky.land Zc.steady hfr hf sky' fun h3 fl3 up3 => ?_
    have J3 : Inv X pins σ' H' { s' with heap := h3 } := J.landed nb fl3.1 (up.trans up3) os ag
    obtain ⟨oe3, vs3, he3, hz3, hd3⟩ := fl3.there
    have notFr : ∀ {h : Heap} {o : Obj} {vs : Array Value}, h.FunFrames B (X.env :: X.outer) → h.get? a = some o → o.data = .fields vs → a ∉ frs (X.env :: X.outer) := fun {h o vs} ff e dd hm => by
      obtain ⟨_, o', e', hnf⟩ := ff.mem hm
      rw [e] at e'; cases e'
      exact hnf _ dd
    have nfr := notFr fl3.2.2.1 he3 hd3
    have nL : a ≠ X.env.locals := fun z => nfr (List.mem_filterMap.mpr ⟨X.env, List.mem_cons_self, by rw [hf, z]⟩)
    have nF : a ∉ X.fs := fun hm => by
      obtain ⟨e, he, q⟩ := List.mem_filterMap.mp hm
      exact nfr (List.mem_filterMap.mpr ⟨e, List.mem_cons_of_mem _ he, q⟩)
    have nI : sI.heap.get? a = none := by
      cases q : sI.heap.get? a with
      | none => rfl
      | some o =>
        have z := nb a o q (by rw [hs]; exact nfr)
        rw [fl3.2.1] at z
        cases z
    have n0 : X.s_0.heap.get? a = none := by
      cases q : X.s_0.heap.get? a with
      | none => rfl
      | some o =>
        obtain ⟨o', z⟩ := J.base.there a o q (by rw [hex]; exact fun z => nomatch z)
        rw [nI] at z
        cases z
    have nP : ∀ p ∈ X.pn ++ pins, p.1 ≠ a := fun p hp z => by
      have q := (J.pin p hp).1
      rw [z, nI] at q
      cases q
    have S3 := J3.suite he3 hd3 na nL nF
    refine wpAny_handleBy_cons (codeAny_handlers_test ?_) (by intro q; cases q)
    have LT : PySem.W.Looks (model X.prog X.w) h3 (typeOf (.ref a)) cls := fun A Q E s k q => wpAny_typeOf_ref (k _ _ he3) (by rw [hz3.1]; exact q)
    have LM := PySem.W.exm_one (M := model X.prog X.w) (J3.kIn) LT hb1
    have test : ∀ {Q : Value → Shared → Prop} {E : Value → Shared → Prop}, Q c { s' with heap := h3 } → wpAny (model X.prog X.w) (X.A.mark (some (.ref a))) (eval (.Name x np) X.env) Q E { s' with heap := h3 } := fun {Q E} q => by
      obtain ⟨hg, hdbg, hm | ⟨hm, hv, hnn⟩⟩ := hc
      · exact ld_glob (X := X.suite a ((a, oe3) :: (X.pn ++ pins))) S3 hg hm q hdbg
      · exact ld_blt (X := X.suite a ((a, oe3) :: (X.pn ++ pins))) S3 hg hm hv q hnn hdbg
    refine test (LM.here ?_)
    cases b with
    | true =>
      obtain ⟨C, dd, hcls, hdd, hyes⟩ := hyes rfl
      refine codeAny_handlers_suite_as ?_
      refine HandSPX.lands_againZ fl3 fun h4 fl4 up4 => ?_
      have J4 : Inv X pins σ' H' { s' with heap := h4 } := J.landed nb fl4.1 ((up.trans up3).trans up4) os ag
      obtain ⟨oe4, vs4, he4, hz4, hd4⟩ := fl4.there
      have S4 := J4.suite he4 hd4 na nL nF
      refine store_ok (X := X.suite a ((a, oe4) :: (X.pn ++ pins))) (v := .ref a) S4 hN hi hloc rfl (fun s5 S5 => ?_) (.inr hln)
      refine wpAny_mono ((hsu a oe4 cls d (X.pn ++ pins) hz4 ⟨_, hd4⟩).run [] s5 _ H' _ S5 (hyes a na)) (fun f s6 hsp => ?_) (fun _ _ z => False.elim z)
      have end_ : ∀ {σ6 : L2.St} {H6 : Hp} {Q : Shared → Prop}, Inv (X.suite a ((a, oe4) :: (X.pn ++ pins))) [] σ6 H6 s6 → (∀ s7, H6 a = none → Inv X pins (σ6.set i none) (upd H6 a (ExcR C dd a)) s7 → Q s7) →
          wpAny (model X.prog X.w) X.A (do bindName X.env n .none; unbindBehindTheSuite X.env n pos') (fun _ s7 => Q s7) X.xe s6 := fun {σ6 H6 Q} S6 hq => by
        refine gone_ok (X := X.suite a ((a, oe4) :: (X.pn ++ pins))) (pos := pos') S6 hN hi hln fun s7 S7 => ?_
        obtain ⟨p1, p2, p3, p4, p5⟩ := S7.pin (a, oe4) (List.mem_append_left _ List.mem_cons_self)
        have J7 : Inv X pins (σ6.set i none) H6 s7 := S7.unsuite ok
        exact hq s7 p2 (inv_track J7 p1 (hz4.1.trans hcls) (hz4.2.trans hdd) hd4 p2 nL n0 nP)
      cases f with
      | next =>
        obtain ⟨σ6, H6, S6, q6⟩ := hsp
        exact end_ S6 fun s7 z J7 => ⟨_, _, J7, q6 z⟩
      | brk =>
        obtain ⟨σ6, H6, S6, q6⟩ := hsp
        exact q6.elim
      | cont =>
        obtain ⟨σ6, H6, S6, q6⟩ := hsp
        exact q6.elim
      | ret u =>
        obtain ⟨v6, σ6, H6, S6, r6, q6⟩ := hsp
        exact False.elim q6
    | false =>
      show wpAny _ X.A (handleBy (.ref a) X.env []) _ _ _
      refine wpAny_handleBy_nil ?_
      obtain ⟨k1, k2, k3, oe, vs, T, oT, ts', he, hz, hd, h1, hr⟩ := id fl3
      unfold PySem.passOn
      refine wpAny_bind (wpAny_field he hd h1 ?_)
      rw [if_neg (show ¬ ((Value.ref T == Value.none) = true) from by simp)]
      have fin : wpAny (model X.prog X.w) X.A (setFlight (.ref a) X.env.frame) (fun _ s4 => wpAny (model X.prog X.w) X.A (throw (.ref a) : Sem Flow) (SP X pins D) X.xe s4) X.xe { s' with heap := h3 } := by
        rw [hf]
        refine HandSPX.setFlight_upZ fl3 fun h4 hh4 up4 => wpAny_throw (tk _ _ ?_)
        exact ⟨a, B, sI, pins, σ', H', cls, d, rfl, J, nb, (up.trans up3).trans up4, .inr (.inr (by rw [hs]; exact hh4)), na, os, ag, hno rfl⟩
      first
        | exact wpAny_bind (wpAny_pure (wpAny_bind fin))
        | exact wpAny_bind fin
  · cases f with
    | next =>
      obtain ⟨σ', H', J', q⟩ := hsp
      exact wpAny_execs_nil ⟨σ', H', J'.ofTry ok, q⟩
    | brk =>
      obtain ⟨σ', H', J', q⟩ := hsp
      exact ⟨σ', H', J'.ofTry ok, q⟩
    | cont =>
      obtain ⟨σ', H', J', q⟩ := hsp
      exact ⟨σ', H', J'.ofTry ok, q⟩
    | ret u =>
      obtain ⟨v, σ', H', J', r, q⟩ := hsp
      exact ⟨v, σ', H', J'.ofTry ok, r, q⟩
end
/-! its class and its value are asked -/
section
variable {X : Cx} {pins : List (Addr × Obj)} {σ : L2.St} {H : Hp} {s : Shared} {C fI : Addr}
theorem inst_ofR {C d a : Addr} (I : Inv X pins σ H s) (h : H a = some (ExcR C d a)) (hd : ∃ v, H d = some (xval v)) : ∃ oe od, PySem.W.InstAt s.heap a oe C (some od) ∧ s.heap.get? d = some od := by
  obtain ⟨⟨oe, vs, e, h1, h2, h3⟩, _, _⟩ := I.hok a _ h
  obtain ⟨v, hv⟩ := hd
  have x : ObjOk X.prog X.w H s.heap d (.xd [(("value" : Str), v)]) := I.hok d _ hv
  obtain ⟨mA, hns, _⟩ := x
  obtain ⟨od, ho, hl⟩ := lookIn_ns hns
  exact ⟨oe, od, ⟨e, h1, by unfold PySem.W.notCls; rw [h3] <;> rfl, by rw [h2]; exact ho⟩, ho⟩
def tValR (K : PySem.W.Frag) (te : TE) : TE := fun σ H Q => te σ H fun x H1 => ∃ (a C d fI : Addr) (v : V), x = .ref a ∧ H1 a = some (ExcR C d a) ∧ TwX.ETxt K C fI ∧ H1 d = some (xval v) ∧ Q v H1
theorem pe_valR {e : Expr} {te : TE} {pos : Pos} (he : PE X e te) (hb : attributeBase e "value" X.env (eval e X.env) = eval e X.env := by rfl) : PE X (.Attribute e "value" pos) (tValR X.K te) := by
  refine ⟨fun pins s σ H Q I h => attr_of hb (thn (he.run pins s σ H _ I h) fun u s1 hh => ?_)⟩
  obtain ⟨x, H1, I1, rx, a, C, d, fI, v, rfl, ha, T, hv, q⟩ := hh
  obtain rfl : u = Value.ref a := rx
  obtain ⟨⟨oe, vs, e, h1, h2, h3⟩, _, _⟩ := I1.hok a _ ha
  have hx : ObjOk X.prog X.w H1 s1.heap d (.xd [(("value" : Str), v)]) := I1.hok d _ hv
  obtain ⟨mA, hns, hr⟩ := hx
  obtain ⟨od, ho, hl⟩ := lookIn_ns hns
  have l : List.lookup ("value" : Str) [(("value" : Str), v)] = some v := by simp [List.lookup]
  obtain ⟨u, hu, ru⟩ := RelO.some_of (v := v) (o := mA "value") (by rw [← l]; exact hr "value")
  have J : PySem.W.InstAt s1.heap a oe C (some od) := ⟨e, h1, by unfold PySem.W.notCls; rw [h3] <;> rfl, by rw [h2]; exact ho⟩
  exact HandSPX.exc_get I1.kIn J T.ga T.gg T.exC (PySem.W.findObj_own T.hdC T.noN rfl (by rw [hl, hu])) (handed_of ru) ⟨v, H1, I1.tok _, ru, q⟩
theorem call_isR : CallR X (.builtin "isinstance") (fun xs H Q => ∃ (a C d fI : Addr) (c : V) (u : Value) (b : Bool), xs = [.ref a, c] ∧ H a = some (ExcR C d a) ∧ (∃ v, H d = some (xval v)) ∧ TwX.ETxt X.K C fI ∧ ClsV c u ∧ PySem.W.kitOne X.K (.ref C) u = some b ∧ Q (.bl b) H) := by
  intro pins s σ H xs us Q I r h
  obtain ⟨a, C, d, fI, c, u, b, rfl, ha, hd, T, k, e, q⟩ := h
  obtain ⟨u1, u2, rfl, r1, r2⟩ := vals2 r
  obtain rfl : u1 = Value.ref a := r1
  have e2 := k.eq r2
  subst e2
  obtain ⟨oe, od, J, _⟩ := inst_ofR I ha hd
  exact PySem.W.kia_one (PySem.W.twx_kit T) I.kIn ⟨oe, some od, J⟩ e (fun z => nomatch z) fun tk => ⟨.bl b, H, I.tok tk, rfl, q⟩
theorem call_isTR : CallR X (.builtin "isinstance") (fun xs H Q => ∃ (a C d fI tp : Addr) (cs : List V) (us : List Value) (b : Bool), xs = [.ref a, .ref tp] ∧ H a = some (ExcR C d a) ∧ (∃ v, H d = some (xval v)) ∧ TwX.ETxt X.K C fI ∧ H tp = some (.tup cs) ∧ Paired ClsV cs us ∧ PySem.W.kitAny X.K (.ref C) us = some b ∧ Q (.bl b) H) := by
  intro pins s σ H xs us Q I r h
  obtain ⟨a, C, d, fI, tp, cs, ws, b, rfl, ha, hd, T, hT, k, e, q⟩ := h
  obtain ⟨u1, u2, rfl, r1, r2⟩ := vals2 r
  obtain rfl : u1 = Value.ref a := r1
  cases (show u2 = Value.ref tp from r2)
  obtain ⟨oe, od, J, _⟩ := inst_ofR I ha hd
  obtain ⟨_, its, rv, o, h1, h2, n, h3⟩ := (show ObjOk X.prog X.w H s.heap tp (.tup cs) from I.hok tp _ hT)
  have e3 := ClsV.all k rv
  subst e3
  obtain ⟨oc, od', dt, sl⟩ := o
  simp only at h2 h3
  subst h2 h3
  exact PySem.W.kia_tup (PySem.W.twx_kit T) I.kIn ⟨oe, some od, J⟩ h1 e (fun z => nomatch z) fun tk => ⟨.bl b, H, I.tok tk, rfl, q⟩
/-- xs.count(y), flat items -/
theorem mt_countV : MtR X "list.count" (fun x xs H Q => ∃ (p : Addr) (ys : List V) (y : V), x = .ref p ∧ xs = [y] ∧ SqL X.K H p ys ∧ flatV y = true ∧ ys.all flatV = true ∧ Q (.int (ys.countP (fun z => eqV z y) : Nat)) H) := by
  intro pins s σ H x xs v us Q I rx rxs h
  obtain ⟨p, ys, y, rfl, rfl, hs, fy, fys, q⟩ := h
  cases rx
  cases rxs with
  | cons ry rt =>
    rename_i uy ut
    cases rt
    obtain ⟨its, rv, ⟨⟨cls, dd, data, sl⟩, n, ho, hc, hdn, hd⟩, hlen⟩ := I.list hs
    simp only at hc hd
    subst hc hd
    refine call_meets PySem.F.slot_list_count ⟨_, ho, rfl⟩ PySem.F.entry_list_count (PySem.F.args_list_count_2 _ _)
      (SeqAt.list_countAt p its.toArray n dd sl uy (eqU y)) ⟨ho, fun u' hu' => mem_eqAt ry fy rv fys u' (by simpa using hu'), ?_⟩
    have ec : ∀ (zs : List V) (ws : List Value), Vals zs ws → zs.all flatV = true → ws.countP (eqU y) = zs.countP (fun z => eqV z y) := by
      intro zs ws r
      induction r with
      | nil => intro _; rfl
      | cons r1 _ ih =>
        intro f
        rw [List.all_cons, Bool.and_eq_true] at f
        rw [List.countP_cons, List.countP_cons, ih f.2, eqU_of r1 f.1]
    refine ⟨.int (ys.countP (fun z => eqV z y) : Nat), H, I.tok _, ⟨s.toks, ?_⟩, q⟩
    show Value.int ((its.toArray.toList.countP (eqU y) : Nat) : Int) s.toks = _
    have e1 : its.toArray.toList = its := rfl
    rw [e1, ec ys its rv fys]
end
end Tw

set_option Elab.async false
set_option linter.all false
set_option maxRecDepth 100000
set_option maxHeartbeats 4000000
namespace Tw
open PySem PySem.Spec PyProof.Rows L2 GenW
/-! the first turn of a generator -/
abbrev TF1 := (V → Hp → Prop) → L2.St → Hp → Prop
structure F1 (X : Cx) (sts : List Stmt) (t : TF1) : Prop where
  run : ∀ (A : Around) (R : GenEnd) (Y : Protocol) (s₀ : Shared) (c : Code) (fs : List Frame) (K : Flow → Sem PySem.Fin) (J : Value → Sem PySem.Fin) (gd : Bool → Bool) (lv : List Value → List Value) (pins : List (Addr × Obj)) (s : Shared) (σ : L2.St) (H : Hp) (Q : V → Hp → Prop),
    A.over c fs = X.A → splitAtGen fs = none → fs.any Frame.guarded = false → gd false = false →
    (∀ x v σ' H' s' kap, RelV x v → Inv X pins σ' H' s' → Q x H' → Y 0 s₀ v s' kap) →
    (∀ e s', X.xe e s' → Seg (model X.prog X.w) A R Y 1 s₀ c (J e) fs s') →
    Inv X pins σ H s → t Q σ H → Seg (model X.prog X.w) A R Y 1 s₀ c ((execs sts X.env).wrap K J gd lv) fs s
section
variable {X : Cx} {st : Stmt} {rest : List Stmt}
def tF1Cons (t : TS) (u : TF1) : TF1 := fun Q σ H => t { nx := fun σ' H' => u Q σ' H', rt := fun _ _ => False } σ H
theorem f1_cons {t : TS} {u : TF1} (a : PS X st t) (b : F1 X rest u) : F1 X (st :: rest) (tF1Cons t u) := by
  refine ⟨fun A R Y s₀ c fs K J gd lv pins s σ H Q ho hsp hg hgd hY hE I ht => ?_⟩
  refine seg_execs_cons (seg_wrap ?_)
  rw [ho]
  refine wpAny_mono (a.run pins s σ H _ I ht) (fun f s' hs => ?_) fun e s' he => hE e s' he
  cases f with
  | next =>
    obtain ⟨σ', H', I', q⟩ := hs
    exact b.run A R Y s₀ c fs K J gd lv pins s' σ' H' Q ho hsp hg hgd hY hE I' q
  | brk => obtain ⟨_, _, _, q⟩ := hs; exact q.elim
  | cont => obtain ⟨_, _, _, q⟩ := hs; exact q.elim
  | ret u => obtain ⟨_, _, _, _, _, q⟩ := hs; exact False.elim q
def tF1Yield (te : TE) : TF1 := fun Q σ H => te σ H fun x H1 => Q x H1
theorem f1_yield {e : Expr} {yp pos : Pos} {te : TE} (he : PE X e te) (hco : X.env.scope.isCoroutine = false := by rfl) (hi : interactive X.env = false := by rfl) : F1 X (.Expr (.Yield (some e) yp) pos :: rest) (tF1Yield te) := by
  refine ⟨fun A R Y s₀ c fs K J gd lv pins s σ H Q ho hsp hg hgd hY hE I ht => ?_⟩
  refine seg_execs_cons (seg_Expr_Yield hsp hgd hg ?_ hco hi)
  rw [ho]
  refine wpAny_mono (he.run pins s σ H _ I ht) (fun v s' hv => ?_) fun e s' hx => hE e s' hx
  obtain ⟨x, H1, I1, rv, q⟩ := hv
  intro kap _
  exact hY x v σ H1 s' kap rv I1 q
end
/-- how a generator's first turn ends otherwise: an exception leaves it -/
def RF1 (P : Program) (w : World) (outer : List Env) (H : Hp) (s : Shared) (a : Addr) (g : Nat) (E : XK) : GenEnd := fun _ _ r s₁ =>
  ((r = .ok (.ret .none) ∨ r = .ok .next) ∧ False) ∨ ∃ e, r = .error e ∧ (CX P w outer H s E e s₁ ∧ s₁.heap.IsGen a g)
def YF1 (P : Program) (w : World) (outer : List Env) (H : Hp) (s : Shared) (Q : V → Hp → Prop) : Protocol := fun _ _ v s₁ _ =>
  ∃ x H', RelV x v ∧ s₁.os = s.os ∧ AllBare s₁.gens ∧ Un (frs outer) [] H H' s.heap s₁.heap ∧ HOk P w H' s₁.heap ∧ Q x H'
/-- what a call of a generator def gives, told of its first turn alone -/
def GMade1 (P : Program) (w : World) (k : Nat) (outer : List Env) (H : Hp) (s : Shared) (Q : V → Hp → Prop) (E : XK) (u : Value) (s' : Shared) : Prop :=
  ∃ (a : Addr) (g : Nat) (c : Code), u = .ref a ∧ s.heap.objs.size ≤ a ∧ s'.heap.IsGen a g ∧ s'.gens[g]? = some (.fresh c) ∧ s'.os = s.os ∧ AllBare s'.gens ∧ s'.heap.NoLimit ∧ (∀ b o, s.heap.get? b = some o → s'.heap.get? b = some o) ∧
    ∀ (A : Around) (s2 : Shared), Room k A → A.frames = some outer → (∀ b o, s'.heap.get? b = some o → s2.heap.get? b = some o) → s2.os = s.os → AllBare s2.gens →
      Seg (model P w) A (RF1 P w outer H s a g E) (YF1 P w outer H s Q) 1 s2 c ((model P w).den c) [] s2
abbrev SpF := List V → Hp → (V → Hp → Prop) → XK → Prop
structure GFn1 (P : Program) (w : World) (K : PySem.W.Frag) (mg : Str → Option Value) (base : Heap) (k : Nat) (f : Addr) (fd : FuncData) (ps : List Str) (sp : SpF) : Prop where
  len : ∀ vs H Q E, sp vs H Q E → vs.length = ps.length
  run : ∀ (A : Around) (outer : List Env) (s : Shared) (H : Hp) (args : Args) (us : List Value) (vs : List V) (Q : V → Hp → Prop) (E : XK), Room k A → Env0 P w K mg base A outer s H → BindsTo s fd args (ps.zip us) → Vals vs us → sp vs H Q E →
    codeAny (model P w) A (.call (.ref f) args) (fun r s' => match r with | .ok (.ret u) => GMade1 P w k outer H s Q E u s' | _ => False) s
theorem gfn1_of {P : Program} {w : World} {K : PySem.W.Frag} {mg : Str → Option Value} {base : Heap} {k : Nat} {f : Addr} {x qual : Str} {st : Stmt} {fd : FuncData}
    {N ps : List Str} {sp : SpF} (F : Fun K x qual st f fd) (S : GScope N ps (defScope st))
    (len : ∀ vs H Q E, sp vs H Q E → vs.length = ps.length)
    (hbody : ∀ (cdv : Value) (A : Around) (outer : List Env) (s : Shared) (H : Hp) (vs : List V) (Q : V → Hp → Prop) (E : XK) (pn : List (Addr × Obj)), Room k (A.deeper (envOfC qual (defScope st) s.heap.objs.size f cdv)) → sp vs H Q E →
      ∃ t, F1 (gcxOf P w K mg base N qual (defScope st) f cdv A outer s H E pn) (defBody st) t ∧ t Q (start N vs) H) :
    GFn1 P w K mg base (k + 1) f fd ps sp := by
  obtain ⟨oc, od, kV, doc, pm, an, cdv, ct, osl, rfl, lk, hcd⟩ := F.ex
  refine ⟨len, fun A outer s H args us vs Q E hr e0 hb r hsp => ?_⟩
  have hl := len _ _ _ _ hsp
  have KX : K.In s.heap := e0.mod.kin.keeps fun b o e => (e0.bs b o e).1
  have lim : s.heap.NoLimit := e0.mod.nolimit.keeps fun b o e => (e0.bs b o e).1
  have hkind : ∀ y ∈ ps.zip us, (defScope st).names.lookup y.1 = some .local ∨ ((defScope st).names.lookup y.1 = some .cell ∧ ((cellsFrom (s.heap.objs.size + 1) (defScope st).names []).lookup y.1).isSome = true) := fun ⟨n, v⟩ hy => by
    rcases S.par n (List.of_mem_zip hy).1 with q | q
    · exact .inl q
    · exact .inr ⟨q, PySem.W.cellsFrom_some _ _ _ (.inl q)⟩
  refine codeAny_call_generator hr.depth (KX _ _ lk) rfl S.co S.gen rfl (PySem.W.codeRec_of KX hcd) (hb _ _ _ _ ?_)
  refine wpAny_newFunctionEnv_cells S.kind hkind fun env he s1 x => ?_
  subst he
  have lim1 : s1.heap.NoLimit := lim.keeps x.toInCall.keep
  refine ⟨lim1, ?_⟩
  obtain ⟨h1, tk, es1, hk1⟩ := x.done
  have os1 : s1.os = s.os := by rw [es1]
  have gen1 : s1.gens = s.gens := by rw [es1]
  have lt1 : s.heap.objs.size < s1.heap.objs.size := x.toInCall.ns.lt
  have sz1 : s.heap.objs.size ≤ s1.heap.objs.size := Nat.le_of_lt lt1
  have kp1 : ∀ b o, s.heap.get? b = some o → s1.heap.get? b = some o := x.toInCall.keep
  have main : ∀ (go : Obj) (nm qn : Value) (tk2 : Nat), go.cls = .type "generator" → go.data = .fields #[.int s1.gens.size 0, nm, qn] → go.slots = #[] → (∀ h : Heap, (h.push go).get? h.objs.size = some go) →
      GMade1 P w (k + 1) outer H s Q E (.ref s1.heap.objs.size) { s1 with gens := s1.gens.push (.fresh (.func (defBody st) (envOfC qual (defScope st) s.heap.objs.size f cdv))), toks := tk2, heap := s1.heap.push go } := by
    intro go nm qn tk2 hgc hgd0 hgs hgp
    have hgen : ∀ h : Heap, h.get? s1.heap.objs.size = some go → h.IsGen s1.heap.objs.size s1.gens.size := fun h e => ⟨go, nm, qn, e, hgc, hgd0, hgs⟩
    have hpushed : (s1.heap.push go).get? s1.heap.objs.size = some go := hgp _
    refine ⟨s1.heap.objs.size, s1.gens.size, _, rfl, sz1, hgen _ hpushed, Array.getElem?_push_size .., os1, ?_, lim1.keeps fun b o e => Heap.get?_push_of_some _ e, fun b o e => Heap.get?_push_of_some _ (kp1 b o e), ?_⟩
    · exact AllBare.push (by rw [gen1]; exact e0.bare) rfl
    intro Aw s2 hrw hfr hk2 hos hba
    have e0w : Env0 P w K mg base Aw outer s H := ⟨hfr, e0.mod, e0.bs, e0.bsz, e0.funs, e0.frf, e0.hok, e0.bare⟩
    obtain ⟨t, ht, hq⟩ := hbody cdv Aw outer s H vs Q E [(s1.heap.objs.size, go)] (hrw.deeper _) hsp
    have I1 : Inv (gcxOf P w K mg base N qual (defScope st) f cdv Aw outer s H E []) [] (start N vs) H s1 := inv_startG S hrw.hd e0w hl r x
    have kp2 : ∀ b o, s1.heap.get? b = some o → s2.heap.get? b = some o := fun b o e => hk2 b o (Heap.get?_push_of_some _ e)
    have I2 : Inv (gcxOf P w K mg base N qual (defScope st) f cdv Aw outer s H E []) [] (start N vs) H s2 :=
      I1.call' (ch := []) (hos.trans os1.symm) (Un.kept kp2) (I1.hok.kept kp2) hba fun b z => by simp at z
    have hea : s2.heap.get? s1.heap.objs.size = some go := hk2 s1.heap.objs.size go hpushed
    have hgd : ∀ v, go.data ≠ .cell v := fun v q => by rw [hgd0] at q; cases q
    have I3 : Inv (gcxOf P w K mg base N qual (defScope st) f cdv Aw outer s H E [(s1.heap.objs.size, go)]) [] (start N vs) H s2 := Inv.pinnedG I2 fun p hp => by
      rw [List.append_nil] at hp
      rw [List.mem_singleton.mp hp]
      exact ⟨hea, I1.hok.fresh (Nat.le_refl _), Nat.ne_of_gt lt1, I1.nofs (Nat.le_refl _), hgd⟩
    refine seg_func ?_
    refine ht.run Aw _ _ s2 _ [] _ _ id id [] s2 (start N vs) H Q over_func rfl rfl rfl ?_ ?_ I3 hq
    · intro xx v σ' H' s' kap rv I' hQ
      exact ⟨xx, H', rv, I'.os, I'.bare, I'.base, I'.hok, hQ⟩
    · intro e s' hx
      refine seg_wrap ?_
      rw [over_func]
      refine wpAny_mono (show wpAny (model P w) (Aw.deeper (envOfC qual (defScope st) s.heap.objs.size f cdv)) (leaving (envOfC qual (defScope st) s.heap.objs.size f cdv) e) (fun _ s'' => CX P w outer H s E e s'' ∧ ∀ p ∈ [(s1.heap.objs.size, go)], s''.heap.get? p.1 = some p.2) (fun _ _ => False) s' from hx) (fun _ s'' q => ?_) fun _ s'' q => q.elim
      exact seg_end (.error e) (.inr ⟨e, rfl, q.1, hgen _ (q.2 (s1.heap.objs.size, go) (List.mem_singleton.mpr rfl))⟩)
  exact main _ _ _ _ rfl rfl rfl fun h => Heap.get?_push_size _ rfl

/-! a for loop that stops behind the first item -/
/-- .. and the class ends no iterator -/
def EG (K : PySem.W.Frag) (E : XK) : XK := fun cls d H => E cls d H ∧ PySem.W.subIn K cls (.type "StopIteration") = some false
abbrev TGen1 := L2.St → Hp → (V → Hp → Prop) → Prop
structure PGen1 (X : Cx) (k : Nat) (e : Expr) (tg : TGen1) (E : L2.St → XK) : Prop where
  run : ∀ (pins : List (Addr × Obj)) (s : Shared) (σ : L2.St) (H : Hp) (cont : V → Hp → Prop), Inv X pins σ H s → tg σ H cont → wpAny (model X.prog X.w) X.A (eval e X.env)
    (fun u s' => ∃ H1 sc, Inv X pins σ H1 sc ∧ GMade1 X.prog X.w k X.stack H1 sc cont (EG X.K (E σ)) u s') X.xe s
section
variable {X : Cx} {k : Nat} {f : Addr} {fd : FuncData} {ps : List Str} {sp : SpF} {x : Str} {p pos pos' : Pos}
def tCallG1 (K : PySem.W.Frag) (sp : SpF) (E : L2.St → XK) (t : TA) : TGen1 := fun σ H cont => t σ H fun vs H1 => sp vs H1 cont (EG K (E σ))
theorem pgen1_call {E : L2.St → XK} {e : Expr} {es : List Expr} {t : TA} (F : GFn1 X.prog X.w X.K X.mg X.base k f fd ps sp) (hr : Room k X.A) (hg : Gl X x) (hm : X.mg x = some (.ref f)) (hk : PySem.W.keepIn X.K (.ref f) = true) (hb : Binds X.K fd ps [])
    (ha : PA X (e :: es) t) (hdb : (x == ("__debug__" : Str)) = false := by decide) (he : starEach (e :: es) X.env = (false, eval e X.env) :: starEach es X.env := by rfl) (hpl : (backTo pos' (starEach es X.env)).any (·.1) = false := by rfl) :
    PGen1 X k (.Call (.Name x p) (e :: es) [] pos') (tCallG1 X.K sp E t) E := by
  refine ⟨fun pins s σ H cont I h => ?_⟩
  refine wpAny_Call_Name_kw (ld_glob I hg hm ?_ hdb)
  refine PySem.W.callWith_K (h₀ := X.base) I.ok.mod.kin hk (thn (ha.run pos' pins s σ H _ I h) fun us s1 ⟨vs, H1, I1, r, q⟩ => ⟨I1.kIn, ?_⟩) he hpl
  have hl2 : us.length = ps.length := by rw [← r.length]; exact F.len _ _ _ _ q
  have hb2 := hb s1 us I1.kIn (by rw [List.append_nil]; exact hl2)
  rw [List.append_nil] at hb2
  refine wpAny_call (codeAny_mono (F.run X.A X.stack s1 H1 ⟨us, []⟩ us vs cont _ hr I1.env0 hb2 r q) fun r' s' hq => ?_)
  cases r' with
  | error e => exact False.elim hq
  | ok fl =>
    cases fl with
    | ret u => exact ⟨H1, s1, I1, hq⟩
    | next => exact False.elim hq
    | brk => exact False.elim hq
    | cont => exact False.elim hq
/-- for tg in g(..): break -/
def tForBreak (tg : TGen1) (g : TG) : TS := fun D σ H => tg σ H fun x H1 => g x σ H1 fun σ2 H2 => D.nx σ2 H2
theorem ps_forBreak {iter : Expr} {n : Str} {np bp : Pos} {tg : TGen1} {g : TG} {E : L2.St → XK} (hp : PassesOwn (model X.prog X.w) X.A X.env X.xe) (hc : X.calm = true) (h : PGen1 X k iter tg E) (hx : ∀ σ, PassesAt (CX X.prog X.w) X σ (E σ)) (hr : Room (k + 3) X.A) (hg : PG X (.Name n np) g)
    (hs : ∀ x, foldedSetIterable iter X.env x = pure x := by intro _; rfl) : PS X (.For (.Name n np) iter [.Break bp] [] pos) (tForBreak tg g) := by
  refine ⟨fun pins s σ H D I hq => ?_⟩
  refine wpAny_For (thn (h.run pins s σ H _ I hq) fun u s1 ⟨H1, sc, I1, hG⟩ => ?_) hs
  obtain ⟨a, g', c, rfl, ha1, hg1, hgs, hos, hb, hl, hkp, wake⟩ := hG
  refine wpAny_pyIter_gen hg1 ?_
  refine codeAny_forLoop_any (fun n s' => n = 0 ∧ s' = s1) ?_ 0 ⟨rfl, rfl⟩
  rintro m s3 ⟨rfl, rfl⟩
  have hgo : (GenState.fresh c).Goes (model X.prog X.w) X.A.in1 (RF1 X.prog X.w X.stack H1 sc a g' (EG X.K (E σ))) (YF1 X.prog X.w X.stack H1 sc fun x H1 => g x σ H1 fun σ2 H2 => D.nx σ2 H2) 1 (.send .none) (s3.setGen g' .running) := by
    refine ⟨rfl, wake X.A.in1 (s3.setGen g' .running) ⟨hr.hd, ?_, ?_⟩ I1.ok.frames (fun b o e => e) hos (allBare_setGen hb rfl)⟩
    · have := hr.dp
      show X.A.depth + 3 * k + 5 < _
      omega
    · have := hr.un
      show X.A.units + 1 + 16 * k + 200 < _
      omega
  refine wpAny_passesOwn hp ?_
  refine wpAny_mono (next_genG (A := X.A) (F := fun _ _ _ => False) (Er := fun e s₁ => CX X.prog X.w X.stack H1 sc (EG X.K (E σ)) e s₁ ∧ s₁.heap.IsGen a g') (Q := fun r s4 => ∃ v, r = some v ∧ ∃ x H', RelV x v ∧ Inv X pins σ H' s4 ∧ g x σ H' fun σ2 H2 => D.nx σ2 H2) (E := X.xe) (I1.ok.hd hc) hl (by have := hr.dp; omega) hg1 hgs hgo (fun v s₁ gs' hbare hv => ?_) (fun s₁ z => z.elim) fun e s₁ he => ?_) (fun r s4 h4 => ?_) fun _ _ z => z
  · obtain ⟨x, H', rv, os, bare, un, hok, q⟩ := hv
    refine ⟨v, rfl, x, H', rv, ?_, q⟩
    have J := I1.call' (ch := []) (s' := s₁.setGen g' gs') os un hok (allBare_setGen bare hbare) fun b z => by simp at z
    exact J
  · obtain ⟨hcx, hig⟩ := he
    have kin : X.K.In s₁.heap := by
      obtain ⟨a, B, H', cls, d, _, fl, _, ub, _⟩ := id hcx
      refine I1.ok.mod.kin.keeps fun b o eb => fl.1 b o (ub.keep b o (I1.bs b o eb).1 (I1.bs b o eb).2 fun hm => ?_)
      rcases List.mem_cons.mp (I1.stkSub b hm) with z | z
      · have h1 := Heap.lt_size eb
        have h2 := Nat.le_trans I1.ok.bsz I1.ok.above
        rw [z] at h1
        exact absurd (Nat.lt_of_lt_of_le h1 h2) (Nat.lt_irrefl _)
      · exact I1.ok.nofr eb z
    refine ⟨hig, notStop_of (fun cls d H' z => z.2) kin hcx, hx σ pins H1 sc e _ I1 ?_⟩
    obtain ⟨a, B, H', cls, d, z1, fl, z2, ub, z3, z4, z5, z6⟩ := hcx
    exact ⟨a, B, H', cls, d, z1, fl, z2, ub, z3, z4, allBare_setGen z5 rfl, z6.1⟩
  · obtain ⟨v, rfl, x, H', rv, I4, q⟩ := h4
    refine wpAny_passesOwn hp ?_
    unfold letOwnedTupleGo
    refine wpAny_pure ?_
    refine wpAny_passesOwn hp (thn (hg.run pins s4 σ H' x v _ I4 rv q) fun _ s6 ⟨σ6, H6, I6, q6⟩ => ?_)
    refine wpAny_passesOwn hp ?_
    exact wpAny_execs_cons (show wpAny (model X.prog X.w) X.A (exec (.Break bp) X.env) _ _ _ from wpAny_bind (wpAny_standAt (wpAny_pure ⟨σ6, H6, I6, q6⟩)))
end
end Tw

set_option Elab.async false
set_option linter.all false
set_option maxRecDepth 100000
set_option maxHeartbeats 4000000
namespace Tw
open PySem PySem.Spec PyProof.Rows L2 GenW
/-! the first turn of a generator, which may also end at once -/
abbrev TF2 := (V → Hp → Prop) → (Hp → Prop) → L2.St → Hp → Prop
structure F2 (X : Cx) (sts : List Stmt) (t : TF2) : Prop where
  run : ∀ (A : Around) (R : GenEnd) (Y : Protocol) (s₀ : Shared) (c : Code) (fs : List Frame) (K : Flow → Sem PySem.Fin) (J : Value → Sem PySem.Fin) (gd : Bool → Bool) (lv : List Value → List Value) (pins : List (Addr × Obj)) (s : Shared) (σ : L2.St) (H : Hp) (Q : V → Hp → Prop) (N : Hp → Prop),
    A.over c fs = X.A → splitAtGen fs = none → fs.any Frame.guarded = false → gd false = false →
    (∀ x v σ' H' s' kap, RelV x v → Inv X pins σ' H' s' → Q x H' → Y 0 s₀ v s' kap) →
    (∀ σ' H' s', Inv X pins σ' H' s' → N H' → Seg (model X.prog X.w) A R Y 1 s₀ c (K .next) fs s') →
    (∀ e s', X.xe e s' → Seg (model X.prog X.w) A R Y 1 s₀ c (J e) fs s') →
    Inv X pins σ H s → t Q N σ H → Seg (model X.prog X.w) A R Y 1 s₀ c ((execs sts X.env).wrap K J gd lv) fs s
section
variable {X : Cx} {st : Stmt} {rest : List Stmt}
def tF2Cons (t : TS) (u : TF2) : TF2 := fun Q N σ H => t { nx := fun σ' H' => u Q N σ' H', rt := fun _ _ => False } σ H
theorem f2_cons {t : TS} {u : TF2} (a : PS X st t) (b : F2 X rest u) : F2 X (st :: rest) (tF2Cons t u) := by
  refine ⟨fun A R Y s₀ c fs K J gd lv pins s σ H Q N ho hsp hg hgd hY hN hE I ht => ?_⟩
  refine seg_execs_cons (seg_wrap ?_)
  rw [ho]
  refine wpAny_mono (a.run pins s σ H _ I ht) (fun f s' hs => ?_) fun e s' he => hE e s' he
  cases f with
  | next =>
    obtain ⟨σ', H', I', q⟩ := hs
    exact b.run A R Y s₀ c fs K J gd lv pins s' σ' H' Q N ho hsp hg hgd hY hN hE I' q
  | brk => obtain ⟨_, _, _, q⟩ := hs; exact q.elim
  | cont => obtain ⟨_, _, _, q⟩ := hs; exact q.elim
  | ret u => obtain ⟨_, _, _, _, _, q⟩ := hs; exact False.elim q
def tF2Yield (te : TE) : TF2 := fun Q _ σ H => te σ H fun x H1 => Q x H1
theorem f2_yield {e : Expr} {yp pos : Pos} {te : TE} (he : PE X e te) (hco : X.env.scope.isCoroutine = false := by rfl) (hi : interactive X.env = false := by rfl) : F2 X (.Expr (.Yield (some e) yp) pos :: rest) (tF2Yield te) := by
  refine ⟨fun A R Y s₀ c fs K J gd lv pins s σ H Q N ho hsp hg hgd hY hN hE I ht => ?_⟩
  refine seg_execs_cons (seg_Expr_Yield hsp hgd hg ?_ hco hi)
  rw [ho]
  refine wpAny_mono (he.run pins s σ H _ I ht) (fun v s' hv => ?_) fun e s' hx => hE e s' hx
  obtain ⟨x, H1, I1, rv, q⟩ := hv
  intro kap _
  exact hY x v σ H1 s' kap rv I1 q
def tF2While (tc : TT) (tb : TF2) : TF2 := fun Q N σ H => tc σ H fun b H1 => if b = true then tb Q (fun _ => False) σ H1 else N H1
theorem f2_while {test : Expr} {body : List Stmt} {pos : Pos} {tc : TT} {tb : TF2} (hp : PassesOwn (model X.prog X.w) X.A X.env X.xe) (hc : PT X test tc) (hb : F2 X body tb) : F2 X [.While test body [] pos] (tF2While tc tb) := by
  refine ⟨fun A R Y s₀ c fs K J gd lv pins s σ H Q N ho hsp hg hgd hY hN hE I ht => ?_⟩
  refine seg_execs_cons (seg_While fun p => ?_)
  have ov : ∀ kk : Result → Sem PySem.Fin, A.over (.whileLoop test body [] X.env) (.ret kk none (gd false) (lv []) c p [] :: fs) = X.A := fun kk => (over_loop rfl rfl).trans ho
  have sp : ∀ kk : Result → Sem PySem.Fin, splitAtGen (.ret kk none (gd false) (lv []) c p [] :: fs) = none := fun kk => by
    show (splitAtGen fs).map _ = none
    rw [hsp]; rfl
  have gu : ∀ kk : Result → Sem PySem.Fin, (Frame.ret kk none (gd false) (lv []) c p [] :: fs).any Frame.guarded = false := fun kk => by
    show (gd false || fs.any Frame.guarded) = false
    rw [hgd, hg]; rfl
  have back : ∀ (K2 : Flow → Sem PySem.Fin) (e : Value) (s' : Shared), cameBackBy (model X.prog X.w) X.A X.env X.xe e s' → Seg (model X.prog X.w) A R Y 1 s₀ c (((Sem.raise e : Sem Flow).onRaise (cameBack X.env)).wrap K2 J gd lv) fs s' := fun K2 e s' hcb => by
    show Seg _ _ _ _ _ _ _ (((cameBack X.env e).bind fun _ => (Sem.raise e : Sem Flow)).wrap K2 J gd lv) _ _
    rw [Sem.bind_eq_wrap, Sem.wrap_wrap]
    refine seg_wrap ?_
    rw [ho]
    exact wpAny_mono hcb (fun _ s2 hx => hE e s2 hx) fun x s2 hx => hE x s2 hx
  have ee : ∀ (K2 : Flow → Sem PySem.Fin) (x : Value) (s' : Shared), X.xe x s' → Seg (model X.prog X.w) A R Y 1 s₀ (.whileLoop test body [] X.env)
      ((do noteFrame x X.env; theTreesLotGoes x : Sem Unit).wrap (fun _ => .raise x) .raise id id)
      (.ret (fun r => ((match r with | .ok f => (.pure f : Sem Flow) | .error e => .raise e).onRaise (cameBack X.env)).wrap K2 J gd lv) none (gd false) (lv []) c p [] :: fs) s' := fun K2 x s' hx => by
    refine seg_wrap ?_
    rw [ov _]
    refine wpAny_bind (wpAny_mono (hp x s' hx) (fun _ s2 hcb => wpAny_theTreesLotGoes ?_) fun y s2 hcb => ?_)
    · exact seg_leaf (.error x) (back K2 x s2 hcb)
    · exact seg_leaf (.error y) (back K2 y s2 hcb)
  refine seg_whileLoop ?_
  rw [ov _]
  refine wpAny_mono (hc.run pins s σ H _ I ht) (fun b s' hb' => ?_) fun x s' hx => ee _ x s' hx
  obtain ⟨H2, I2, q2⟩ := hb'
  cases b with
  | true =>
    rw [if_pos rfl]
    rw [if_pos rfl] at q2
    exact hb.run A R Y s₀ _ _ _ _ id id pins s' σ H2 Q (fun _ => False) (ov _) (sp _) (gu _) rfl hY (fun _ _ _ _ z => z.elim) (fun e s2 hx => ee _ e s2 hx) I2 q2
  | false =>
    rw [if_neg Bool.false_ne_true]
    rw [if_neg Bool.false_ne_true] at q2
    refine seg_execs_nil ?_
    exact seg_leaf (.ok .next) (show Seg (model X.prog X.w) A R Y 1 s₀ c ((execs [] X.env).wrap K J gd lv) fs s' from seg_execs_nil (hN σ H2 s' I2 q2))
end
def EF2 (P : Program) (w : World) (outer : List Env) (H : Hp) (s : Shared) (N : Hp → Prop) (s₁ : Shared) : Prop :=
  ∃ H', s₁.os = s.os ∧ AllBare s₁.gens ∧ Un (frs outer) [] H H' s.heap s₁.heap ∧ HOk P w H' s₁.heap ∧ N H'
def RF2 (P : Program) (w : World) (outer : List Env) (H : Hp) (s : Shared) (a : Addr) (g : Nat) (N : Hp → Prop) (E : XK) : GenEnd := fun _ _ r s₁ =>
  ((r = .ok (.ret .none) ∨ r = .ok .next) ∧ EF2 P w outer H s N s₁) ∨ ∃ e, r = .error e ∧ (CX P w outer H s E e s₁ ∧ s₁.heap.IsGen a g)
def GMade2 (P : Program) (w : World) (k : Nat) (outer : List Env) (H : Hp) (s : Shared) (Q : V → Hp → Prop) (N : Hp → Prop) (E : XK) (u : Value) (s' : Shared) : Prop :=
  ∃ (a : Addr) (g : Nat) (c : Code), u = .ref a ∧ s.heap.objs.size ≤ a ∧ s'.heap.IsGen a g ∧ s'.gens[g]? = some (.fresh c) ∧ s'.os = s.os ∧ AllBare s'.gens ∧ s'.heap.NoLimit ∧ (∀ b o, s.heap.get? b = some o → s'.heap.get? b = some o) ∧
    ∀ (A : Around) (s2 : Shared), Room k A → A.frames = some outer → (∀ b o, s'.heap.get? b = some o → s2.heap.get? b = some o) → s2.os = s.os → AllBare s2.gens →
      Seg (model P w) A (RF2 P w outer H s a g N E) (YF1 P w outer H s Q) 1 s2 c ((model P w).den c) [] s2
abbrev SpF2 := List V → Hp → (V → Hp → Prop) → (Hp → Prop) → XK → Prop
structure GFn2 (P : Program) (w : World) (K : PySem.W.Frag) (mg : Str → Option Value) (base : Heap) (k : Nat) (f : Addr) (fd : FuncData) (ps : List Str) (sp : SpF2) : Prop where
  len : ∀ vs H Q N E, sp vs H Q N E → vs.length = ps.length
  run : ∀ (A : Around) (outer : List Env) (s : Shared) (H : Hp) (args : Args) (us : List Value) (vs : List V) (Q : V → Hp → Prop) (N : Hp → Prop) (E : XK), Room k A → Env0 P w K mg base A outer s H → BindsTo s fd args (ps.zip us) → Vals vs us → sp vs H Q N E →
    codeAny (model P w) A (.call (.ref f) args) (fun r s' => match r with | .ok (.ret u) => GMade2 P w k outer H s Q N E u s' | _ => False) s
theorem gfn2_of {P : Program} {w : World} {K : PySem.W.Frag} {mg : Str → Option Value} {base : Heap} {k : Nat} {f : Addr} {x qual : Str} {st : Stmt} {fd : FuncData}
    {N0 ps : List Str} {sp : SpF2} (F : Fun K x qual st f fd) (S : GScope N0 ps (defScope st))
    (len : ∀ vs H Q N E, sp vs H Q N E → vs.length = ps.length)
    (hbody : ∀ (cdv : Value) (A : Around) (outer : List Env) (s : Shared) (H : Hp) (vs : List V) (Q : V → Hp → Prop) (N : Hp → Prop) (E : XK) (pn : List (Addr × Obj)), Room k (A.deeper (envOfC qual (defScope st) s.heap.objs.size f cdv)) → sp vs H Q N E →
      ∃ t, F2 (gcxOf P w K mg base N0 qual (defScope st) f cdv A outer s H E pn) (defBody st) t ∧ t Q N (start N0 vs) H) :
    GFn2 P w K mg base (k + 1) f fd ps sp := by
  obtain ⟨oc, od, kV, doc, pm, an, cdv, ct, osl, rfl, lk, hcd⟩ := F.ex
  refine ⟨len, fun A outer s H args us vs Q N E hr e0 hb r hsp => ?_⟩
  have hl := len _ _ _ _ _ hsp
  have KX : K.In s.heap := e0.mod.kin.keeps fun b o e => (e0.bs b o e).1
  have lim : s.heap.NoLimit := e0.mod.nolimit.keeps fun b o e => (e0.bs b o e).1
  have hkind : ∀ y ∈ ps.zip us, (defScope st).names.lookup y.1 = some .local ∨ ((defScope st).names.lookup y.1 = some .cell ∧ ((cellsFrom (s.heap.objs.size + 1) (defScope st).names []).lookup y.1).isSome = true) := fun ⟨n, v⟩ hy => by
    rcases S.par n (List.of_mem_zip hy).1 with q | q
    · exact .inl q
    · exact .inr ⟨q, PySem.W.cellsFrom_some _ _ _ (.inl q)⟩
  refine codeAny_call_generator hr.depth (KX _ _ lk) rfl S.co S.gen rfl (PySem.W.codeRec_of KX hcd) (hb _ _ _ _ ?_)
  refine wpAny_newFunctionEnv_cells S.kind hkind fun env he s1 x => ?_
  subst he
  have lim1 : s1.heap.NoLimit := lim.keeps x.toInCall.keep
  refine ⟨lim1, ?_⟩
  obtain ⟨h1, tk, es1, hk1⟩ := x.done
  have os1 : s1.os = s.os := by rw [es1]
  have gen1 : s1.gens = s.gens := by rw [es1]
  have lt1 : s.heap.objs.size < s1.heap.objs.size := x.toInCall.ns.lt
  have sz1 : s.heap.objs.size ≤ s1.heap.objs.size := Nat.le_of_lt lt1
  have kp1 : ∀ b o, s.heap.get? b = some o → s1.heap.get? b = some o := x.toInCall.keep
  have main : ∀ (go : Obj) (nm qn : Value) (tk2 : Nat), go.cls = .type "generator" → go.data = .fields #[.int s1.gens.size 0, nm, qn] → go.slots = #[] → (∀ h : Heap, (h.push go).get? h.objs.size = some go) →
      GMade2 P w (k + 1) outer H s Q N E (.ref s1.heap.objs.size) { s1 with gens := s1.gens.push (.fresh (.func (defBody st) (envOfC qual (defScope st) s.heap.objs.size f cdv))), toks := tk2, heap := s1.heap.push go } := by
    intro go nm qn tk2 hgc hgd0 hgs hgp
    have hgen : ∀ h : Heap, h.get? s1.heap.objs.size = some go → h.IsGen s1.heap.objs.size s1.gens.size := fun h e => ⟨go, nm, qn, e, hgc, hgd0, hgs⟩
    have hpushed : (s1.heap.push go).get? s1.heap.objs.size = some go := hgp _
    refine ⟨s1.heap.objs.size, s1.gens.size, _, rfl, sz1, hgen _ hpushed, Array.getElem?_push_size .., os1, ?_, lim1.keeps fun b o e => Heap.get?_push_of_some _ e, fun b o e => Heap.get?_push_of_some _ (kp1 b o e), ?_⟩
    · exact AllBare.push (by rw [gen1]; exact e0.bare) rfl
    intro Aw s2 hrw hfr hk2 hos hba
    have e0w : Env0 P w K mg base Aw outer s H := ⟨hfr, e0.mod, e0.bs, e0.bsz, e0.funs, e0.frf, e0.hok, e0.bare⟩
    obtain ⟨t, ht, hq⟩ := hbody cdv Aw outer s H vs Q N E [(s1.heap.objs.size, go)] (hrw.deeper _) hsp
    have I1 : Inv (gcxOf P w K mg base N0 qual (defScope st) f cdv Aw outer s H E []) [] (start N0 vs) H s1 := inv_startG S hrw.hd e0w hl r x
    have kp2 : ∀ b o, s1.heap.get? b = some o → s2.heap.get? b = some o := fun b o e => hk2 b o (Heap.get?_push_of_some _ e)
    have I2 : Inv (gcxOf P w K mg base N0 qual (defScope st) f cdv Aw outer s H E []) [] (start N0 vs) H s2 :=
      I1.call' (ch := []) (hos.trans os1.symm) (Un.kept kp2) (I1.hok.kept kp2) hba fun b z => by simp at z
    have hea : s2.heap.get? s1.heap.objs.size = some go := hk2 s1.heap.objs.size go hpushed
    have hgd : ∀ v, go.data ≠ .cell v := fun v q => by rw [hgd0] at q; cases q
    have I3 : Inv (gcxOf P w K mg base N0 qual (defScope st) f cdv Aw outer s H E [(s1.heap.objs.size, go)]) [] (start N0 vs) H s2 := Inv.pinnedG I2 fun p hp => by
      rw [List.append_nil] at hp
      rw [List.mem_singleton.mp hp]
      exact ⟨hea, I1.hok.fresh (Nat.le_refl _), Nat.ne_of_gt lt1, I1.nofs (Nat.le_refl _), hgd⟩
    refine seg_func ?_
    refine ht.run Aw _ _ s2 _ [] _ _ id id [] s2 (start N0 vs) H Q N over_func rfl rfl rfl ?_ ?_ ?_ I3 hq
    · intro xx v σ' H' s' kap rv I' hQ
      exact ⟨xx, H', rv, I'.os, I'.bare, I'.base, I'.hok, hQ⟩
    · intro σ' H' s' I' hN
      exact seg_end (.ok (.ret .none)) (.inl ⟨.inl rfl, H', I'.os, I'.bare, I'.base, I'.hok, hN⟩)
    · intro e s' hx
      refine seg_wrap ?_
      rw [over_func]
      refine wpAny_mono (show wpAny (model P w) (Aw.deeper (envOfC qual (defScope st) s.heap.objs.size f cdv)) (leaving (envOfC qual (defScope st) s.heap.objs.size f cdv) e) (fun _ s'' => CX P w outer H s E e s'' ∧ ∀ p ∈ [(s1.heap.objs.size, go)], s''.heap.get? p.1 = some p.2) (fun _ _ => False) s' from hx) (fun _ s'' q => ?_) fun _ s'' q => q.elim
      exact seg_end (.error e) (.inr ⟨e, rfl, q.1, hgen _ (q.2 (s1.heap.objs.size, go) (List.mem_singleton.mpr rfl))⟩)
  exact main _ _ _ _ rfl rfl rfl fun h => Heap.get?_push_size _ rfl
abbrev TGen2 := L2.St → Hp → (V → Hp → Prop) → (Hp → Prop) → Prop
structure PGen2 (X : Cx) (k : Nat) (e : Expr) (tg : TGen2) (E : L2.St → XK) : Prop where
  run : ∀ (pins : List (Addr × Obj)) (s : Shared) (σ : L2.St) (H : Hp) (cont : V → Hp → Prop) (N : Hp → Prop), Inv X pins σ H s → tg σ H cont N → wpAny (model X.prog X.w) X.A (eval e X.env)
    (fun u s' => ∃ H1 sc, Inv X pins σ H1 sc ∧ GMade2 X.prog X.w k X.stack H1 sc cont N (EG X.K (E σ)) u s') X.xe s
section
variable {X : Cx} {k : Nat} {f : Addr} {fd : FuncData} {ps : List Str} {sp : SpF2} {x : Str} {p pos pos' : Pos}
def tCallG2 (K : PySem.W.Frag) (sp : SpF2) (E : L2.St → XK) (t : TA) : TGen2 := fun σ H cont N => t σ H fun vs H1 => sp vs H1 cont N (EG K (E σ))
theorem pgen2_call {E : L2.St → XK} {e : Expr} {es : List Expr} {t : TA} (F : GFn2 X.prog X.w X.K X.mg X.base k f fd ps sp) (hr : Room k X.A) (hg : Gl X x) (hm : X.mg x = some (.ref f)) (hk : PySem.W.keepIn X.K (.ref f) = true) (hb : Binds X.K fd ps [])
    (ha : PA X (e :: es) t) (hdb : (x == ("__debug__" : Str)) = false := by decide) (he : starEach (e :: es) X.env = (false, eval e X.env) :: starEach es X.env := by rfl) (hpl : (backTo pos' (starEach es X.env)).any (·.1) = false := by rfl) :
    PGen2 X k (.Call (.Name x p) (e :: es) [] pos') (tCallG2 X.K sp E t) E := by
  refine ⟨fun pins s σ H cont N I h => ?_⟩
  refine wpAny_Call_Name_kw (ld_glob I hg hm ?_ hdb)
  refine PySem.W.callWith_K (h₀ := X.base) I.ok.mod.kin hk (thn (ha.run pos' pins s σ H _ I h) fun us s1 ⟨vs, H1, I1, r, q⟩ => ⟨I1.kIn, ?_⟩) he hpl
  have hl2 : us.length = ps.length := by rw [← r.length]; exact F.len _ _ _ _ _ q
  have hb2 := hb s1 us I1.kIn (by rw [List.append_nil]; exact hl2)
  rw [List.append_nil] at hb2
  refine wpAny_call (codeAny_mono (F.run X.A X.stack s1 H1 ⟨us, []⟩ us vs cont N _ hr I1.env0 hb2 r q) fun r' s' hq => ?_)
  cases r' with
  | error e => exact False.elim hq
  | ok fl =>
    cases fl with
    | ret u => exact ⟨H1, s1, I1, hq⟩
    | next => exact False.elim hq
    | brk => exact False.elim hq
    | cont => exact False.elim hq
/-- for tg in g(..): break, where g may yield nothing -/
def tForBreak2 (tg : TGen2) (g : TG) : TS := fun D σ H => tg σ H (fun x H1 => g x σ H1 fun σ2 H2 => D.nx σ2 H2) (fun H1 => D.nx σ H1)
theorem ps_forBreak2 {iter : Expr} {n : Str} {np bp : Pos} {tg : TGen2} {g : TG} {E : L2.St → XK} (hp : PassesOwn (model X.prog X.w) X.A X.env X.xe) (hc : X.calm = true) (h : PGen2 X k iter tg E) (hx : ∀ σ, PassesAt (CX X.prog X.w) X σ (E σ)) (hr : Room (k + 3) X.A) (hg : PG X (.Name n np) g)
    (hs : ∀ x, foldedSetIterable iter X.env x = pure x := by intro _; rfl) : PS X (.For (.Name n np) iter [.Break bp] [] pos) (tForBreak2 tg g) := by
  refine ⟨fun pins s σ H D I hq => ?_⟩
  refine wpAny_For (thn (h.run pins s σ H _ _ I hq) fun u s1 ⟨H1, sc, I1, hG⟩ => ?_) hs
  obtain ⟨a, g', c, rfl, ha1, hg1, hgs, hos, hb, hl, hkp, wake⟩ := hG
  refine wpAny_pyIter_gen hg1 ?_
  refine codeAny_forLoop_any (fun n s' => n = 0 ∧ s' = s1) ?_ 0 ⟨rfl, rfl⟩
  rintro m s3 ⟨rfl, rfl⟩
  have hgo : (GenState.fresh c).Goes (model X.prog X.w) X.A.in1 (RF2 X.prog X.w X.stack H1 sc a g' (fun H1 => D.nx σ H1) (EG X.K (E σ))) (YF1 X.prog X.w X.stack H1 sc fun x H1 => g x σ H1 fun σ2 H2 => D.nx σ2 H2) 1 (.send .none) (s3.setGen g' .running) := by
    refine ⟨rfl, wake X.A.in1 (s3.setGen g' .running) ⟨hr.hd, ?_, ?_⟩ I1.ok.frames (fun b o e => e) hos (allBare_setGen hb rfl)⟩
    · have := hr.dp
      show X.A.depth + 3 * k + 5 < _
      omega
    · have := hr.un
      show X.A.units + 1 + 16 * k + 200 < _
      omega
  refine wpAny_passesOwn hp ?_
  refine wpAny_mono (next_genG (A := X.A) (F := fun _ _ s₁ => EF2 X.prog X.w X.stack H1 sc (fun H1 => D.nx σ H1) s₁) (Er := fun e s₁ => CX X.prog X.w X.stack H1 sc (EG X.K (E σ)) e s₁ ∧ s₁.heap.IsGen a g')
    (Q := fun r s4 => match r with | some v => ∃ x H', RelV x v ∧ Inv X pins σ H' s4 ∧ g x σ H' fun σ2 H2 => D.nx σ2 H2 | none => ∃ H', Inv X pins σ H' s4 ∧ D.nx σ H') (E := X.xe) (I1.ok.hd hc) hl (by have := hr.dp; omega) hg1 hgs hgo (fun v s₁ gs' hbare hv => ?_) (fun s₁ z h' hk => ?_) fun e s₁ he => ?_) (fun r s4 h4 => ?_) fun _ _ z => z
  · obtain ⟨x, H', rv, os, bare, un, hok, q⟩ := hv
    refine ⟨x, H', rv, ?_, q⟩
    have J := I1.call' (ch := []) (s' := s₁.setGen g' gs') os un hok (allBare_setGen bare hbare) fun b z => by simp at z
    exact J
  · obtain ⟨H', os, bare, un, hok, q⟩ := z
    have J := I1.call' (ch := []) (s' := s₁.setGen g' .finished) os un hok (allBare_setGen bare rfl) fun b z => by simp at z
    exact ⟨H', J.kept (t' := s₁.toks) hk, q⟩
  · obtain ⟨hcx, hig⟩ := he
    have kin : X.K.In s₁.heap := by
      obtain ⟨a, B, H', cls, d, _, fl, _, ub, _⟩ := id hcx
      refine I1.ok.mod.kin.keeps fun b o eb => fl.1 b o (ub.keep b o (I1.bs b o eb).1 (I1.bs b o eb).2 fun hm => ?_)
      rcases List.mem_cons.mp (I1.stkSub b hm) with z | z
      · have h1 := Heap.lt_size eb
        have h2 := Nat.le_trans I1.ok.bsz I1.ok.above
        rw [z] at h1
        exact absurd (Nat.lt_of_lt_of_le h1 h2) (Nat.lt_irrefl _)
      · exact I1.ok.nofr eb z
    refine ⟨hig, notStop_of (fun cls d H' z => z.2) kin hcx, hx σ pins H1 sc e _ I1 ?_⟩
    obtain ⟨a, B, H', cls, d, z1, fl, z2, ub, z3, z4, z5, z6⟩ := hcx
    exact ⟨a, B, H', cls, d, z1, fl, z2, ub, z3, z4, allBare_setGen z5 rfl, z6.1⟩
  · cases r with
    | some v =>
      obtain ⟨x, H', rv, I4, q⟩ := h4
      refine wpAny_passesOwn hp ?_
      unfold letOwnedTupleGo
      refine wpAny_pure ?_
      refine wpAny_passesOwn hp (thn (hg.run pins s4 σ H' x v _ I4 rv q) fun _ s6 ⟨σ6, H6, I6, q6⟩ => ?_)
      refine wpAny_passesOwn hp ?_
      exact wpAny_execs_cons (show wpAny (model X.prog X.w) X.A (exec (.Break bp) X.env) _ _ _ from wpAny_bind (wpAny_standAt (wpAny_pure ⟨σ6, H6, I6, q6⟩)))
    | none =>
      obtain ⟨H', I4, q⟩ := h4
      exact wpAny_execs_nil ⟨σ, H', I4, q⟩
end
end Tw

set_option Elab.async false
set_option linter.all false
set_option maxRecDepth 100000
set_option maxHeartbeats 4000000
namespace Tw
open PySem PySem.Spec PyProof.Rows L2
section
variable {prog : Program} {w : World} {A : Around} {E : Value → Shared → Prop} {s : Shared}
theorem ent_heappop : entryFor table "_heapq.heappop" = some Builtin.«_heapq.heappop» := entryFor_of_tree (by kernel_rfl)
theorem sub_ll : isSubtype (.type "list") (.type "list") = pure true := by first | rfl | kernel_rfl | (unfold isSubtype; rfl)
theorem heappop_one {l : Addr} {o : Obj} {u : Value} {n : Nat} {Q : Value → Shared → Prop} (ho : s.heap.get? l = some o) (hc : o.cls = .type "list") (hd : o.data = .seq #[u] n) (h : Q u { s with heap := s.heap.update l (Obj.mapSeq (·.pop)) }) :
    wpAny (model prog w) A (call (.builtin "_heapq.heappop") [.ref l]) Q E s := by
  refine Calls.call_function_entry (by decide +kernel) (by decide +kernel) ent_heappop (by unfold argsOk; kernel_rfl) ?_
  refine wpAny_bind ?_
  refine wpAny_bind ?_
  refine wpAny_of_eq (a := Value.ref l) rfl ?_
  refine wpAny_bind ?_
  refine wpAny_bind (wpAny_isInstance (T := "list") (b := true) ⟨o, ho, hc⟩ sub_ll ?_)
  refine wpAny_pure ?_
  refine wpAny_pure ?_
  refine wpAny_bind ?_
  refine wpAny_bind (wpAny_seqItems ho hd ?_)
  refine wpAny_pure ?_
  refine wpAny_bind (wpAny_updateSeq ho hd ?_ (by show 1 ≤ sizeLine; rw [sizeLine_eq]; decide) (by show 0 ≤ _; omega))
  exact wpAny_pure ⟨u, rfl, h⟩
theorem ns_gone {K : PySem.W.Frag} {h : Heap} {ns : Addr} {m : Str → Option Value} {n : Str} (X : K.In h) (G : h.Ns ns m) (e : PySem.W.nsIn K ns n = some none) : m n = none := by
  rcases G with ⟨ob, ens, epp, hob, hdat, -, hfin⟩
  cases q : K.lookup ns with
  | none =>
    simp only [PySem.W.nsIn, q] at e
    cases e
  | some o2 =>
    have h2 := (X _ _ q).symm.trans hob
    cases h2
    obtain ⟨c, d, dat, sl⟩ := ob
    obtain rfl : dat = _ := hdat
    simp only [PySem.W.nsIn, q] at e
    rw [← hfin n]
    cases f : ens.toList.find? (·.key.isStr n) with
    | some y => rw [f] at e; cases e
    | none =>
      unfold nsFind findBy
      rw [← Array.find?_toList, f]
      rfl
/-- what the statics say of the digits of a text -/
def DigOk (s : Shared) : Prop := ∃ mc, s.heap.Ns cStatics mc ∧ mc "sys.int_max_str_digits" = none
theorem int_repr_wide (a : Int) (t : Tok) (hs : a.natAbs.log2 < 12000) : GivesAt DigOk (Builtin.«int.__repr__» ⟨[.int a t], []⟩) (.str (toString a)) := by
  intro prog w A R s ⟨mc, hn, hm⟩ hq
  have fin := (Gives.tree (.str (Str.ofString (toString a)))) prog w A R s hq
  unfold Builtin.«int.__repr__»
  refine wpAny_bind (wpAny_of_eq (a := (Value.int a t, a)) rfl ?_)
  refine wpAny_bind ?_
  by_cases hb : a.natAbs.log2 < 1920
  · unfold Builtin.overDigitLimit?
    rw [if_pos hb]
    exact wpAny_pure fin
  · unfold Builtin.overDigitLimit?
    rw [if_neg hb]
    unfold Builtin.intMaxStrDigits
    refine wpAny_bind (wpAny_bind (wpAny_nsGet hn ?_))
    rw [hm]
    refine wpAny_pure ?_
    have h1 : ¬ (a.natAbs.log2 / 30 + 1 > 1000) := by omega
    have h2 : ((4300 : Nat) == 0 || decide (a.natAbs.log2 < 3 * 4300)) = true := by
      rw [decide_eq_true (by omega), Bool.or_true]
    show wpAny _ _ (if a.natAbs.log2 / 30 + 1 > 1000 then _ else _) _ _ _
    rw [if_neg h1]
    show wpAny _ _ (if ((4300 : Nat) == 0 || decide (a.natAbs.log2 < 3 * 4300)) = true then _ else _) _ _ _
    rw [if_pos h2]
    exact wpAny_pure fin
theorem int_text_wide {a : Int} (h : a.natAbs.log2 < 12000) : (Str.ofString (toString a)).length ≤ sizeLine := by
  have e := int_text_length_le (k := 12000) (by decide) h
  rw [PySem.ofString_length, sizeLine_eq]; omega
theorem repr_wide {a : Int} {t : Tok} {Q : Value → Shared → Prop} (ha : a.natAbs.log2 < 12000) (hd : DigOk s) (h : Q (.str (toString a) s.toks) { s with toks := s.toks + 1 }) : wpAny (model prog w) A (call (.builtin "repr") [.int a t]) Q E s := by
  refine Calls.call_function_entry F.kind_repr F.plain_repr F.entry_repr (F.args_repr1 (.int a t)) ?_
  have hv : [Value.int a t].any Value.onHeap = false := rfl
  unfold Builtin.«repr»
  refine wpAny_bind (m := oneArg "repr" _) (wpAny_pure ?_)
  simp only [cRoomFor, hv, Bool.false_eq_true, if_false, pure_bind]
  refine wpAny_bind (wpAny_specialOf (name := Str.ofString "__repr__") (typeIs_int s a t) F.slot_int_repr.lookup ?_)
  refine wpAny_bind (m := callSpecialIfBound? (.int a t) (Str.ofString "__repr__")) (wpAny_callSpecialIfBound?_slot (name := Str.ofString "__repr__") (typeIs_int s a t) F.slot_int_repr
    (call_givesAt F.slot_int_repr (typeIs_int s a t) F.entry_int_repr (F.args_int_repr_1 _) (int_repr_wide a t ha) hd ⟨int_text_wide ha, ?_⟩))
  exact wpAny_bind (wpAny_isInstance (T := "str") (b := true) rfl isSubtype_str_str (wpAny_pure ⟨_, rfl, h⟩))
end
section
variable {X : Cx}
theorem digOk_of {pins : List (Addr × Obj)} {σ : L2.St} {H : Hp} {s : Shared} (I : Inv X pins σ H s) (h : PySem.W.nsIn X.K cStatics "sys.int_max_str_digits" = some none) : DigOk s := by
  obtain ⟨mc, hn, _⟩ := I.nolimit
  exact ⟨mc, hn, ns_gone I.kIn hn h⟩
theorem call_reprW (h : PySem.W.nsIn X.K cStatics "sys.int_max_str_digits" = some none) : CallR X (.builtin "repr") (fun xs H Q => ∃ i, xs = [.int i] ∧ i.natAbs.log2 < 12000 ∧ Q (.str (toString i)) H) := by
  intro pins s σ H xs us Q I r ⟨i, e, hz, q⟩
  subst e
  obtain ⟨u, rfl, t, rfl⟩ := vals1 r
  exact repr_wide hz (digOk_of I h) ⟨.str _, H, I.tok _, ⟨_, rfl⟩, q⟩
theorem call_heappop1 : CallR X (.builtin "_heapq.heappop") (fun xs H Q => ∃ l y, xs = [.ref l] ∧ H l = some (.lst [y]) ∧ Q y (upd H l (.lst []))) := by
  intro pins s σ H xs us Q I r ⟨l, y, e, hl, q⟩
  subst e
  obtain ⟨u, rfl, ru⟩ := vals1 r
  obtain rfl : u = Value.ref l := ru
  obtain ⟨z, its, n, rr, hle, e⟩ := I.lstM hl
  obtain ⟨u, rfl, ru⟩ := vals1 rr
  refine heappop_one e rfl rfl ⟨y, _, I.lset (its' := []) hl e ?_ .nil ?_, ru, q⟩
  · rfl
  · exact Nat.zero_le _
/-! the caught error inside of its suite -/
theorem inst_pin {a d C : Addr} {oe : Obj} {pins : List (Addr × Obj)} {σ : L2.St} {H : Hp} {s : Shared} (I : Inv X pins σ H s) (hm : (a, oe) ∈ X.pn) (hz : Zc (.ref C) (some d) oe) (hf : ∃ vs, oe.data = .fields vs) (hd : ∃ v, H d = some (xval v)) :
    ∃ oe od, PySem.W.InstAt s.heap a oe C (some od) ∧ s.heap.get? d = some od := by
  obtain ⟨hget, _⟩ := I.pin (a, oe) (List.mem_append_left _ hm)
  obtain ⟨vs, h3⟩ := hf
  obtain ⟨h1, h2⟩ := hz
  obtain ⟨v, hv⟩ := hd
  have x : ObjOk X.prog X.w H s.heap d (.xd [(("value" : Str), v)]) := I.hok d _ hv
  obtain ⟨mA, hns, _⟩ := x
  obtain ⟨od, ho, hl⟩ := lookIn_ns hns
  exact ⟨oe, od, ⟨hget, h1, by unfold PySem.W.notCls; rw [h3] <;> rfl, by rw [h2]; exact ho⟩, ho⟩
theorem call_isP {a : Addr} {oe : Obj} {cls : Value} {dd : Option Addr} (hm : (a, oe) ∈ X.pn) (hz : Zc cls dd oe) (hf : ∃ vs, oe.data = .fields vs) :
    CallR X (.builtin "isinstance") (fun xs H Q => ∃ (C d fI : Addr) (c : V) (u : Value) (b : Bool), cls = .ref C ∧ dd = some d ∧ xs = [.ref a, c] ∧ (∃ v, H d = some (xval v)) ∧ TwX.ETxt X.K C fI ∧ ClsV c u ∧ PySem.W.kitOne X.K (.ref C) u = some b ∧ Q (.bl b) H) := by
  intro pins s σ H xs us Q I r h
  obtain ⟨C, d, fI, c, u, b, rfl, rfl, rfl, hd, T, k, e, q⟩ := h
  obtain ⟨u1, u2, rfl, r1, r2⟩ := vals2 r
  obtain rfl : u1 = Value.ref a := r1
  have e2 := k.eq r2
  subst e2
  obtain ⟨oe, od, J, _⟩ := inst_pin I hm hz hf hd
  exact PySem.W.kia_one (PySem.W.twx_kit T) I.kIn ⟨oe, some od, J⟩ e (fun z => nomatch z) fun tk => ⟨.bl b, H, I.tok tk, rfl, q⟩
theorem call_isTP {a : Addr} {oe : Obj} {cls : Value} {dd : Option Addr} (hm : (a, oe) ∈ X.pn) (hz : Zc cls dd oe) (hf : ∃ vs, oe.data = .fields vs) :
    CallR X (.builtin "isinstance") (fun xs H Q => ∃ (C d fI tp : Addr) (cs : List V) (us : List Value) (b : Bool), cls = .ref C ∧ dd = some d ∧ xs = [.ref a, .ref tp] ∧ (∃ v, H d = some (xval v)) ∧ TwX.ETxt X.K C fI ∧ H tp = some (.tup cs) ∧ Paired ClsV cs us ∧ PySem.W.kitAny X.K (.ref C) us = some b ∧ Q (.bl b) H) := by
  intro pins s σ H xs us Q I r h
  obtain ⟨C, d, fI, tp, cs, ws, b, rfl, rfl, rfl, hd, T, hT, k, e, q⟩ := h
  obtain ⟨u1, u2, rfl, r1, r2⟩ := vals2 r
  obtain rfl : u1 = Value.ref a := r1
  cases (show u2 = Value.ref tp from r2)
  obtain ⟨oe, od, J, _⟩ := inst_pin I hm hz hf hd
  obtain ⟨_, its, rv, o, h1, h2, n, h3⟩ := (show ObjOk X.prog X.w H s.heap tp (.tup cs) from I.hok tp _ hT)
  have e3 := ClsV.all k rv
  subst e3
  obtain ⟨oc, od', dt, sl⟩ := o
  simp only at h2 h3
  subst h2 h3
  exact PySem.W.kia_tup (PySem.W.twx_kit T) I.kIn ⟨oe, some od, J⟩ h1 e (fun z => nomatch z) fun tk => ⟨.bl b, H, I.tok tk, rfl, q⟩
def tValP (K : PySem.W.Frag) (a : Addr) (cls : Value) (dd : Option Addr) (te : TE) : TE := fun σ H Q => te σ H fun x H1 => ∃ (C d fI : Addr) (v : V), cls = .ref C ∧ dd = some d ∧ x = .ref a ∧ TwX.ETxt K C fI ∧ H1 d = some (xval v) ∧ Q v H1
theorem pe_valP {a : Addr} {oe : Obj} {cls : Value} {dd : Option Addr} {e : Expr} {te : TE} {pos : Pos} (hm : (a, oe) ∈ X.pn) (hz : Zc cls dd oe) (hf : ∃ vs, oe.data = .fields vs) (he : PE X e te) (hb : attributeBase e "value" X.env (eval e X.env) = eval e X.env := by rfl) :
    PE X (.Attribute e "value" pos) (tValP X.K a cls dd te) := by
  refine ⟨fun pins s σ H Q I h => attr_of hb (thn (he.run pins s σ H _ I h) fun u s1 hh => ?_)⟩
  obtain ⟨x, H1, I1, rx, C, d, fI, v, rfl, rfl, rfl, T, hv, q⟩ := hh
  obtain rfl : u = Value.ref a := rx
  obtain ⟨hget, _⟩ := I1.pin (a, oe) (List.mem_append_left _ hm)
  obtain ⟨vs, h3⟩ := hf
  obtain ⟨h1, h2⟩ := hz
  have hx : ObjOk X.prog X.w H1 s1.heap d (.xd [(("value" : Str), v)]) := I1.hok d _ hv
  obtain ⟨mA, hns, hr⟩ := hx
  obtain ⟨od, ho, hl⟩ := lookIn_ns hns
  have l : List.lookup ("value" : Str) [(("value" : Str), v)] = some v := by simp [List.lookup]
  obtain ⟨u, hu, ru⟩ := RelO.some_of (v := v) (o := mA "value") (by rw [← l]; exact hr "value")
  have J : PySem.W.InstAt s1.heap a oe C (some od) := ⟨hget, h1, by unfold PySem.W.notCls; rw [h3] <;> rfl, by rw [h2]; exact ho⟩
  exact HandSPX.exc_get I1.kIn J T.ga T.gg T.exC (PySem.W.findObj_own T.hdC T.noN rfl (by rw [hl, hu])) (handed_of ru) ⟨v, H1, I1.tok _, ru, q⟩
end
end Tw

set_option Elab.async false
set_option linter.all false
set_option maxRecDepth 100000
set_option maxHeartbeats 2000000
namespace Tw
open PySem PySem.Spec PyProof.Rows L2
def spPipeL : Sp := fun vs H Q _ => ∃ (r : Addr) (n : Nat) (d s c : Int), vs = [.ref r, .int (n : Nat)] ∧ n ≤ 12 ∧ H r = some (rngO d s c) ∧ RngOk d s c ∧ c + 60 < 4294967296 ∧
  ∀ H' d' c' l, SameB r H H' → H' r = some (rngO d' s c') → RngOk d' s c' → c' ≤ c + 50 → Pipe l → l.length ≤ n → Q (.str (mk l)) H'
theorem style_at {v : Int} (h0 : 0 ≤ v) (h1 : v < 4) : ∃ z : List Nat, atI [V.str "TS", V.str "TTTS", V.str "SSST", V.str "TS"] v = some (V.str (mk z)) ∧ atI [V.int 2, V.int 4, V.int 4, V.int 2] v = some (V.int (z.length : Nat)) ∧ Pipe z ∧ 1 ≤ z.length ∧ z.length ≤ 4 := by
  have e0 : V.str "TS" = V.str (mk [84, 83]) := by decide +kernel
  have e1 : V.str "TTTS" = V.str (mk [84, 84, 84, 83]) := by decide +kernel
  have e2 : V.str "SSST" = V.str (mk [83, 83, 83, 84]) := by decide +kernel
  obtain ⟨j, rfl⟩ := Int.eq_ofNat_of_zero_le h0
  have hj : j = 0 ∨ j = 1 ∨ j = 2 ∨ j = 3 := by omega
  have pp : ∀ z : List Nat, (∀ c ∈ z, c = 84 ∨ c = 83) → Pipe z := fun z h => h
  rw [e0, e1, e2]
  rcases hj with rfl | rfl | rfl | rfl
  · exact ⟨[84, 83], atI_nat rfl, atI_nat rfl, pp _ (by decide), by decide, by decide⟩
  · exact ⟨[84, 84, 84, 83], atI_nat rfl, atI_nat rfl, pp _ (by decide), by decide, by decide⟩
  · exact ⟨[83, 83, 83, 84], atI_nat rfl, atI_nat rfl, pp _ (by decide), by decide, by decide⟩
  · exact ⟨[84, 83], atI_nat rfl, atI_nat rfl, pp _ (by decide), by decide, by decide⟩
/-- the first sign that isn't good -/
def bad (g : Nat → Bool) (l : List Nat) : Option Nat := l.findIdx? fun c => !g c
def badV : Option Nat → V
  | none => .non
  | some i => .int (i : Nat)
/-- the signs that aren't good stand at ss -/
def SpotsOf (g : Nat → Bool) (f : List Nat) (ss : List Int) : Prop := (∀ x ∈ ss, ∃ j : Nat, x = (j : Nat) ∧ j < f.length) ∧ ∀ j c, f[j]? = some c → (g c = false ↔ ((j : Nat) : Int) ∈ ss)
theorem spots_nil {g : Nat → Bool} {f : List Nat} (h : ∀ c ∈ f, g c = true) : SpotsOf g f [] :=
  ⟨fun x hx => (by cases hx), fun j c e => ⟨fun z => (by rw [h c (List.mem_of_getElem? e)] at z; cases z), fun z => (by cases z)⟩⟩
theorem spots_more {g : Nat → Bool} {f : List Nat} {ss : List Int} {j : Nat} {o : Nat} (h : SpotsOf g f ss) (hj : j < f.length) (ho : g o = false) : SpotsOf g ((f.take j ++ [o]) ++ f.drop (j + 1)) (ss ++ [((j : Nat) : Int)]) := by
  have e : (f.take j ++ [o]) ++ f.drop (j + 1) = f.set j o := by
    rw [List.set_eq_take_append_cons_drop, if_pos hj, List.append_assoc]
    rfl
  rw [e]
  refine ⟨fun x hx => ?_, fun i c hi => ?_⟩
  · rw [List.length_set]
    rcases List.mem_append.mp hx with hx | hx
    · exact h.1 x hx
    · exact ⟨j, List.mem_singleton.mp hx, hj⟩
  · by_cases hij : j = i
    · subst hij
      rw [List.getElem?_set_self hj] at hi
      cases hi
      exact ⟨fun _ => List.mem_append_right _ (List.mem_singleton.mpr rfl), fun _ => ho⟩
    · rw [List.getElem?_set_ne hij] at hi
      rw [h.2 i c hi]
      refine ⟨fun z => List.mem_append_left _ z, fun z => ?_⟩
      rcases List.mem_append.mp z with z | z
      · exact z
      · have := List.mem_singleton.mp z
        omega
theorem spots_none {g : Nat → Bool} {f : List Nat} (h : SpotsOf g f []) : bad g f = none := by
  unfold bad
  rw [List.findIdx?_eq_none_iff]
  intro c hc
  obtain ⟨j, hj⟩ := List.getElem?_of_mem hc
  cases e : g c with
  | true => rfl
  | false => exact absurd ((h.2 j c hj).mp e) (by simp)
theorem spots_min {g : Nat → Bool} {f : List Nat} {ss : List Int} {m : Int} (h : SpotsOf g f ss) (hm : m ∈ ss) (hle : ∀ y ∈ ss, m ≤ y) : ∃ i : Nat, m = (i : Nat) ∧ bad g f = some i := by
  obtain ⟨i, rfl, hi⟩ := h.1 m hm
  refine ⟨i, rfl, ?_⟩
  unfold bad
  rw [List.findIdx?_eq_some_iff_getElem]
  refine ⟨hi, ?_, fun j hj => ?_⟩
  · have := (h.2 i _ (List.getElem?_eq_getElem hi)).mpr hm
    rw [this]; rfl
  · have hjl : j < f.length := by omega
    cases e : g f[j] with
    | true => simp [e]
    | false =>
      have := hle _ ((h.2 j _ (List.getElem?_eq_getElem hjl)).mp e)
      omega
def spSpoilt : Sp := fun vs H Q _ => ∃ (r : Addr) (l od : List Nat) (g : Nat → Bool) (d s c : Int), vs = [.ref r, .str (mk l), .str (mk od)] ∧ (∀ x ∈ l, g x = true) ∧ (∀ x ∈ od, g x = false) ∧ (0 < od.length ∧ od.length ≤ 100) ∧ l.length ≤ 200 ∧ H r = some (rngO d s c) ∧ RngOk d s c ∧ c + 20 < 4294967296 ∧
  ∀ H' d' c' p l', SameB r H H' → H' r = some (rngO d' s c') → RngOk d' s c' → c' ≤ c + 10 → l'.length = l.length → H p = none → p ≠ r → H' p = some (.lst [V.str (mk l'), badV (bad g l')]) → Q (.ref p) H'
end Tw
namespace Tw
open PySem PySem.Spec PyProof.Rows L2
theorem dps_ints {K : PySem.W.Frag} {H : Hp} : ∀ ns : List Int, DpAll K H (ns.map V.int) (ns.map PyData.int)
  | [] => .nil
  | n :: ns => .cons (.int n) (dps_ints ns)
theorem shaped_ints : ∀ ns : List Int, SeqAt.shaped (.list (ns.map PyData.int)) = true := by
  intro ns
  unfold SeqAt.shaped
  induction ns with
  | nil => rfl
  | cons n ns ih => first | exact ih | (rw [List.map_cons]; unfold SeqAt.shapedAll; rw [ih]; rfl) | skip
theorem eqv_nil (ds : List PyData) : PyData.eqv (.list ds) (.list []) = ds.isEmpty := by cases ds <;> rfl
end Tw

set_option Elab.async false
set_option linter.all false
set_option maxRecDepth 100000
set_option maxHeartbeats 2000000
namespace Tw
open PySem PySem.Spec PyProof.Rows L2
def okL (c : Nat) : Bool := decide (97 ≤ c) && decide (c ≤ 122)
def okP (c : Nat) : Bool := c == 84 || c == 83
/-- an error of the class at C with the value v leaves -/
def RzV (C : Addr) (v : V) (H : Hp) (E : XK) : Prop := ∀ H' d, Same H H' → H d = none → H' d = some (xval v) → E (.ref C) (some d) H'
abbrev Rz (C : Addr) (i : Nat) (H : Hp) (E : XK) : Prop := RzV C (.int (i : Nat)) H E
theorem RzV.mono {C : Addr} {v : V} {H H1 : Hp} {E : XK} (h : RzV C v H E) (s : Same H H1) : RzV C v H1 E := fun H' d s1 hd e => h H' d (s.trans s1) (s.free hd) e
theorem bad_none {g : Nat → Bool} {l : List Nat} : bad g l = none ↔ ∀ c ∈ l, g c = true := by
  unfold bad
  rw [List.findIdx?_eq_none_iff]
  exact ⟨fun h c hc => by have := h c hc; simpa using this, fun h c hc => by rw [h c hc]; rfl⟩
theorem bad_some {g : Nat → Bool} {l : List Nat} {i c : Nat} (hi : l[i]? = some c) (hc : g c = false) (hb : ∀ j c, j < i → l[j]? = some c → g c = true) : bad g l = some i := by
  unfold bad
  obtain ⟨hl, rfl⟩ := List.getElem?_eq_some_iff.mp hi
  rw [List.findIdx?_eq_some_iff_getElem]
  refine ⟨hl, by rw [hc]; rfl, fun j hj => ?_⟩
  have := hb j _ hj (List.getElem?_eq_getElem (by omega))
  simp [this]
theorem low_of {l : List Nat} (h : bad okL l = none) : Low l := fun c hc => by
  have := bad_none.mp h c hc
  unfold okL at this
  rw [Bool.and_eq_true] at this
  exact ⟨of_decide_eq_true this.1, of_decide_eq_true this.2⟩
theorem okL_of {l : List Nat} (h : Low l) : ∀ c ∈ l, okL c = true := fun c hc => by
  unfold okL
  rw [decide_eq_true (h c hc).1, decide_eq_true (h c hc).2]
  rfl
theorem pipe_of {l : List Nat} (h : bad okP l = none) : Pipe l := fun c hc => by
  have := bad_none.mp h c hc
  unfold okP at this
  rw [Bool.or_eq_true] at this
  exact this.imp (fun z => by simpa using z) fun z => by simpa using z
theorem okP_of {l : List Nat} (h : Pipe l) : ∀ c ∈ l, okP c = true := fun c hc => by
  unfold okP
  rcases h c hc with e | e <;> subst e <;> rfl
theorem ge_a' {c : Nat} (h : ¬ 97 ≤ c) : (!decide ((mk [c]).cps.toList < (Str.ofString "a").cps.toList)) = false := by
  have e : (Str.ofString "a").cps.toList = [97] := by decide +kernel
  have e2 : (mk [c]).cps.toList = [c] := rfl
  rw [e, e2]
  have : ([c] : List Nat) < [97] := (single_lt _ _).mpr (by omega)
  rw [decide_eq_true this]; rfl
theorem le_z' {c : Nat} (h : ¬ c ≤ 122) : (!decide ((Str.ofString "z").cps.toList < (mk [c]).cps.toList)) = false := by
  have e : (Str.ofString "z").cps.toList = [122] := by decide +kernel
  have e2 : (mk [c]).cps.toList = [c] := rfl
  rw [e, e2]
  have : ([122] : List Nat) < [c] := (single_lt _ _).mpr (by omega)
  rw [decide_eq_true this]; rfl
def spChkRowX (C : Addr) : Sp := fun vs H Q E => ∃ l : List Nat, vs = [.str (mk l)] ∧ (bad okL l = none → ∀ H', Same H H' → Q .non H') ∧ ∀ i, bad okL l = some i → Rz C i H E
def spChkPipeX (C : Addr) : Sp := fun vs H Q E => ∃ l : List Nat, vs = [.str (mk l)] ∧ (bad okP l = none → ∀ H', Same H H' → Q .non H') ∧ ∀ i, bad okP l = some i → Rz C i H E
def spSizeX (C : Addr) : Sp := fun vs H Q E => ∃ l : List Nat, vs = [.str (mk l)] ∧ l.length ≤ 1000 ∧ (bad okL l = none → ∀ H' p, Same H H' → H p = none → H' p = some (.tup [V.int (l.length : Nat), V.int (pairs l : Nat)]) → Q (.ref p) H') ∧
  ∀ i, bad okL l = some i → Rz C i H E
def spSieveX (C C' : Addr) : Sp := fun vs H Q E => ∃ l p : List Nat, vs = [.str (mk l), .str (mk p)] ∧ l.length ≤ 1000 ∧ (bad okL l = none → bad okP p = none → ∀ H', Same H H' → Q (.str (mk (sv l p))) H') ∧
  (∀ i, bad okL l = some i → Rz C i H E) ∧ (bad okL l = none → ∀ i, bad okP p = some i → Rz C' i H E)
/-- the first turn of stages -/
def spStages1 (C C' : Addr) : SpF := fun vs H Q E => ∃ l p : List Nat, vs = [.str (mk l), .str (mk p)] ∧ (bad okL l = none → bad okP p = none → ∀ H', Same H H' → Q (.str (mk l)) H') ∧
  (∀ i, bad okL l = some i → Rz C i H E) ∧ (bad okL l = none → ∀ i, bad okP p = some i → Rz C' i H E)
theorem opt_cases {α : Type} (o : Option α) {P : Prop} (h1 : o = none → P) (h2 : ∀ a, o = some a → P) : P := by
  cases o with
  | none => exact h1 rfl
  | some a => exact h2 a rfl
/-! a call by keywords alone, of a def that may raise -/
section
variable {X : Cx} {CX : CXT} {k : Nat} {f : Addr} {fd : FuncData} {ps ks : List Str} {sp : Sp} {E : L2.St → XK} {x : Str} {p pos : Pos} {kws : List Keyword} {tk : TA} {g : List Value → List Value → List Value} {gV : List V → List V → List V}
def tCallKS (sp : Sp) (gV : List V → List V → List V) (E : L2.St → XK) (tk : TA) : TE := fun σ H Q => tk σ H fun zs H2 => sp (gV [] zs) H2 Q (E σ)
theorem pe_callKS0 (F : FnOk X.prog X.w X.K X.mg X.base CX k f fd ps sp) (hr : Room k X.A) (hg : Gl X x) (hm : X.mg x = some (.ref f)) (hk : PySem.W.keepIn X.K (.ref f) = true)
    (hb : KBinds X.K fd ps ks g gV) (hx : ∀ σ, PassesAt CX X σ (E σ)) (hkw : PK X kws tk)
    (hall : (backToKw pos (keywordEach kws X.env)).all (·.1.isSome) = true := by rfl)
    (hks : (backToKw pos (keywordEach kws X.env)).filterMap (·.1) = ks := by rfl)
    (hdb : (x == ("__debug__" : Str)) = false := by decide)
    (hpl : ((backTo pos (starEach [] X.env)).any (·.1) || (backToKw pos (keywordEach kws X.env)).any (·.1.isNone)) = false := by rfl) :
    PE X (.Call (.Name x p) [] kws pos) (tCallKS sp gV E tk) := by
  refine ⟨fun pins s σ H Q I h => wpAny_Call_Name_kw (ld_glob I hg hm ?_ hdb)⟩
  refine PySem.W.callWith_KW0 (h₀ := X.base) I.ok.mod.kin hk hall (thn (hkw.run pos pins s σ H _ I h) ?_) hpl
  rintro ws s2 ⟨zs, H2, I2, rz, q⟩
  refine ⟨I2.kIn, ?_⟩
  rw [hks]
  have r2 := hb.rel (.nil : Vals [] []) rz
  have hl : (g [] ws).length = ps.length := by rw [← r2.length]; exact F.len _ _ _ _ q
  refine wpAny_call (codeAny_mono (F.run X.A X.stack s2 H2 ⟨[], ks.zip ws⟩ (g [] ws) (gV [] zs) Q (E σ) hr I2.env0 (hb.to s2 [] ws I2.kIn hl) r2 q) fun r s' hq => ?_)
  cases r with
  | error e => exact hx σ pins H2 s2 e s' I2 hq
  | ok fl =>
    cases fl with
    | ret u => exact I2.after hq
    | next => exact False.elim hq
    | brk => exact False.elim hq
    | cont => exact False.elim hq
end
end Tw

set_option Elab.async false
set_option linter.all false
set_option maxRecDepth 100000
set_option maxHeartbeats 2000000
namespace Tw
open PySem PySem.Spec PyProof.Rows L2
/-! the draws out of a dict -/
def bagD (g : Addr) (l t f : Int) : List (L2.Key × V) := [(.inr "great", .ref g), (.inr "left", .int l), (.inr "turn", .int t), (.inr "fold", .int f)]
theorem k_gl : ¬ (Sum.inr ("great" : Str) : L2.Key) = .inr "left" := by decide +kernel
theorem k_gt : ¬ (Sum.inr ("great" : Str) : L2.Key) = .inr "turn" := by decide +kernel
theorem k_gf : ¬ (Sum.inr ("great" : Str) : L2.Key) = .inr "fold" := by decide +kernel
theorem k_lt : ¬ (Sum.inr ("left" : Str) : L2.Key) = .inr "turn" := by decide +kernel
theorem k_lf : ¬ (Sum.inr ("left" : Str) : L2.Key) = .inr "fold" := by decide +kernel
theorem k_tf : ¬ (Sum.inr ("turn" : Str) : L2.Key) = .inr "fold" := by decide +kernel
section
variable {H : Hp} {b g : Addr} {l t f : Int}
theorem bag_getG (h : H b = some (.dK (bagD g l t f))) : DGet H b (.str "great") (some (.ref g)) := by
  have e := DGet.k (k := .inr "great") h
  rw [show valV (bagD g l t f) (.inr "great") = some (.ref g) from valV_pos rfl] at e
  exact e
theorem bag_getL (h : H b = some (.dK (bagD g l t f))) : DGet H b (.str "left") (some (.int l)) := by
  have e := DGet.k (k := .inr "left") h
  rw [show valV (bagD g l t f) (.inr "left") = some (.int l) from (valV_neg k_gl).trans (valV_pos rfl)] at e
  exact e
theorem bag_getT (h : H b = some (.dK (bagD g l t f))) : DGet H b (.str "turn") (some (.int t)) := by
  have e := DGet.k (k := .inr "turn") h
  rw [show valV (bagD g l t f) (.inr "turn") = some (.int t) from (valV_neg k_gt).trans ((valV_neg k_lt).trans (valV_pos rfl))] at e
  exact e
theorem bag_getF (h : H b = some (.dK (bagD g l t f))) : DGet H b (.str "fold") (some (.int f)) := by
  have e := DGet.k (k := .inr "fold") h
  rw [show valV (bagD g l t f) (.inr "fold") = some (.int f) from (valV_neg k_gf).trans ((valV_neg k_lf).trans ((valV_neg k_tf).trans (valV_pos rfl)))] at e
  exact e
theorem bag_small {g : Addr} {l t f : Int} : (bagD g l t f).length < sizeLine := by show 4 < sizeLine; rw [sizeLine_eq]; decide
theorem bag_putL (h : H b = some (.dK (bagD g l t f))) (l' : Int) : DPut H b (.str "left") (.int l') (upd H b (.dK (bagD g l' t f))) := by
  have e := DPut.k (k := .inr "left") (v := .int l') h bag_small
  rw [show putK (bagD g l t f) (.inr "left") (.int l') = bagD g l' t f from by
    unfold putK
    rw [valV_any, show valV (bagD g l t f) (.inr "left") = some (.int l) from (valV_neg k_gl).trans (valV_pos rfl), Option.isSome_some]
    refine (if_pos rfl).trans ?_
    simp only [bagD, List.map_cons, List.map_nil, if_neg k_gl, if_neg (Ne.symm k_lt), if_neg (Ne.symm k_lf), if_true]] at e
  exact e
theorem bag_putT (h : H b = some (.dK (bagD g l t f))) (t' : Int) : DPut H b (.str "turn") (.int t') (upd H b (.dK (bagD g l t' f))) := by
  have e := DPut.k (k := .inr "turn") (v := .int t') h bag_small
  rw [show putK (bagD g l t f) (.inr "turn") (.int t') = bagD g l t' f from by
    unfold putK
    rw [valV_any, show valV (bagD g l t f) (.inr "turn") = some (.int t) from (valV_neg k_gt).trans ((valV_neg k_lt).trans (valV_pos rfl)), Option.isSome_some]
    refine (if_pos rfl).trans ?_
    simp only [bagD, List.map_cons, List.map_nil, if_neg k_gt, if_neg k_lt, if_neg (Ne.symm k_tf), if_true]] at e
  exact e
end
theorem bag_merge (g : Addr) (f : Int) : mergeK [] [(.inr "great", .ref g), (.inr "left", .int 0), (.inr "turn", .int 0), (.inr "fold", .int f)] = bagD g 0 0 f := by
  show putK (putK (putK (putK ([] : List (L2.Key × V)) (.inr "great") (.ref g)) (.inr "left") (.int 0)) (.inr "turn") (.int 0)) (.inr "fold") (.int f) = _
  have e1 : putK ([] : List (L2.Key × V)) (.inr "great") (.ref g) = [(.inr "great", .ref g)] := putK_new _ valV_nil
  have e2 : putK [((.inr "great", .ref g) : L2.Key × V)] (.inr "left") (.int 0) = [(.inr "great", .ref g), (.inr "left", .int 0)] := putK_new _ ((valV_neg k_gl).trans valV_nil)
  have e3 : putK [((.inr "great", .ref g) : L2.Key × V), (.inr "left", .int 0)] (.inr "turn") (.int 0) = [(.inr "great", .ref g), (.inr "left", .int 0), (.inr "turn", .int 0)] := putK_new _ ((valV_neg k_gt).trans ((valV_neg k_lt).trans valV_nil))
  rw [e1, e2, e3]
  exact putK_new _ ((valV_neg k_gf).trans ((valV_neg k_lf).trans ((valV_neg k_tf).trans valV_nil)))
/-- all but what stands at b and at g is as it was -/
def SameBG (b g : Addr) (H H' : Hp) : Prop := ∀ c o, c ≠ b → c ≠ g → H c = some o → H' c = some o
theorem SameBG.refl (b g : Addr) (H : Hp) : SameBG b g H H := fun _ _ _ _ h => h
theorem SameBG.trans {b g : Addr} {H H1 H2 : Hp} (x : SameBG b g H H1) (y : SameBG b g H1 H2) : SameBG b g H H2 := fun c o n m h => y c o n m (x c o n m h)
theorem SameBG.atB (b g : Addr) (H : Hp) (o : HO) : SameBG b g H (upd H b o) := fun c u n _ h => by rw [upd_ne n]; exact h
theorem SameBG.atG (b g : Addr) (H : Hp) (o : HO) : SameBG b g H (upd H g o) := fun c u _ n h => by rw [upd_ne n]; exact h
theorem Same.bg {b g : Addr} {H H' : Hp} (h : Same H H') : SameBG b g H H' := fun c o _ _ e => h c o e
/-- a bag stands at b, its list at g -/
def Bag (b g : Addr) (t f : Int) (H : Hp) : Prop := ∃ l ns, H b = some (.dK (bagD g l t f)) ∧ H g = some (.lst (List.map V.int ns)) ∧ 0 ≤ t ∧ 0 ≤ f ∧ f < 2305843009213693952
theorem Bag.same {b g : Addr} {t f : Int} {H H' : Hp} (h : Bag b g t f H) (s : Same H H') : Bag b g t f H' := by
  obtain ⟨l, ns, h1, h2, r⟩ := h
  exact ⟨l, ns, s _ _ h1, s _ _ h2, r⟩
def spBag (K : PySem.W.Frag) : Sp := fun vs H Q _ => ∃ (a : Addr) (ns : List Int), vs = [.ref a] ∧ SqL K H a (ns.map V.int) ∧ ns.length ≤ 63 ∧
  ∀ H' b g f, Same H H' → H b = none → H g = none → Bag b g 0 f H' → Q (.ref b) H'
def spBDraw : Sp := fun vs H Q _ => ∃ (b g : Addr) (t f m : Int), vs = [.ref b, .int m] ∧ Bag b g t f H ∧ (0 < m ∧ m < 2 ^ 200) ∧ t + 1 < 4294967296 ∧
  ∀ H' t' v, SameBG b g H H' → Bag b g t' f H' → t' ≤ t + 1 → 0 ≤ v → v < m → Q (.int v) H'
/-- a promise that raises is also one that does not, where it does not -/
theorem fn0 {P : Program} {w : World} {K : PySem.W.Frag} {mg : Str → Option Value} {base : Heap} {k : Nat} {f : Addr} {fd : FuncData} {ps : List Str} {sp sp0 : Sp} (G : FnOk P w K mg base (L2.CX P w) k f fd ps sp)
    (h : ∀ vs H Q E, sp0 vs H Q E → sp vs H Q (fun _ _ _ => False)) : FnOk P w K mg base CX0 k f fd ps sp0 := by
  refine ⟨fun vs H Q E q => G.len _ _ _ _ (h _ _ _ _ q), fun A outer s H args us vs Q E hr e0 hb r q => ?_⟩
  refine codeAny_mono (G.run A outer s H args us vs Q (fun _ _ _ => False) hr e0 hb r (h _ _ _ _ q)) fun r' s' hq => ?_
  match r', hq with
  | .ok (.ret u), hq => exact hq
  | .ok .next, hq => exact hq
  | .ok .brk, hq => exact hq
  | .ok .cont, hq => exact hq
  | .error e, hq =>
    obtain ⟨_, _, _, _, _, _, _, _, _, _, _, _, z⟩ := hq
    exact z.elim
def spNN (C : Addr) : Sp := fun vs H Q E => ∃ n : Int, vs = [.int n] ∧ (0 ≤ n → ∀ H', Same H H' → Q .non H') ∧ (n < 0 → RzV C (.int n) H E)
/-- the sums of sizes over all pipelines of j sieves -/
def totP : Nat → Int × Int
  | 0 => (2, 1)
  | j + 1 => (3 * (totP j).1 + 3 * (totP j).2, (totP j).1 + (totP j).2)
theorem totP_eq : ∀ j, totP (j + 1) = (9 * 4 ^ j, 3 * 4 ^ j)
  | 0 => rfl
  | j + 1 => by
    rw [totP, totP_eq j]
    show (3 * (9 * 4 ^ j) + 3 * (3 * 4 ^ j), 9 * 4 ^ j + 3 * 4 ^ j) = ((9 * 4 ^ (j + 1), 3 * 4 ^ (j + 1)) : Int × Int)
    rw [Int.pow_succ]
    refine Prod.ext ?_ ?_
    · show 3 * (9 * 4 ^ j) + 3 * (3 * 4 ^ j) = 9 * (4 ^ j * 4)
      omega
    · show 9 * 4 ^ j + 3 * 4 ^ j = 3 * (4 ^ j * 4)
      omega
def spTot (C : Addr) : Sp := fun vs H Q E => ∃ n : Int, vs = [.int n] ∧ n ≤ 100000 ∧ (∀ j : Nat, n = (j : Nat) → ∀ H', Same H H' → Q (.int (totP j).1) H') ∧ (n < 0 → RzV C (.int n) H E)
theorem seqIndex_zero (n : Nat) : seqIndex? 0 (n + 1) = some 0 := by
  unfold seqIndex?
  simp
end Tw

set_option Elab.async false
set_option linter.all false
set_option maxRecDepth 100000
set_option maxHeartbeats 4000000
namespace TwS
open PySem PySem.Spec PyProof.Rows RT
/-! reversed(text) -/
theorem norev_str : typeLookup (.type "str") "__reversed__" = pure none := by rw [typeLookup_type, builtinLookup_eq_fast]; kernel_rfl
theorem get_str : typeLookup (.type "str") "__getitem__" = pure (some (.builtin "str.__getitem__")) := by rw [typeLookup_type, builtinLookup_eq_fast]; kernel_rfl
def IsRs (h : Heap) (a : Addr) (x : Str) (t : Tok) (i : Int) : Prop := ∃ o, h.get? a = some o ∧ o.cls = .type "reversed" ∧ o.data = .fields #[.str x t, rawInt i]
theorem IsRs.at {h h' : Heap} {a : Addr} {x : Str} {t : Tok} {i : Int} (z : IsRs h a x t i) (e : ∀ o, h.get? a = some o → h'.get? a = some o) : IsRs h' a x t i := let ⟨o, ho, r⟩ := z; ⟨o, e _ ho, r⟩
section
variable {prog : Program} {w : World} {A : Around} {E : Value → Shared → Prop} {s : Shared}
theorem IsRs.typeIs {a : Addr} {x : Str} {t : Tok} {i : Int} (z : IsRs s.heap a x t i) : s.TypeIs (.ref a) "reversed" := let ⟨o, ho, hc, _⟩ := z; ⟨o, ho, hc⟩
theorem code_rs {x : Str} {t : Tok} {Q₁ : Value → Shared → Prop} (hz : x.length ≤ sizeLine)
    (h : ∀ k, Q₁ (.ref s.heap.objs.size) { s with heap := s.heap.push { cls := .type "reversed", data := .fields #[.str x t, rawInt ((x.length : Int) - 1)] }, toks := k }) :
    codeAny (model prog w) A (.call (.builtin "reversed.__new__") ⟨[.type "reversed", .str x t], []⟩) (wants Q₁ E) s := by
  have hT : s.TypeIs (.str x t) "str" := typeIs_str s x t
  refine codeAny_of_tree (show wpAny _ A.in1 (do checkBuiltinCall "reversed.__new__" ⟨[.type "reversed", .str x t], []⟩; again (.builtin "reversed.__new__" ⟨[.type "reversed", .str x t], []⟩)) _ _ s from ?_)
  refine wpAny_bind (wpAny_of_eq (F.newCall_reversed_1 (.str x t)) (wpAny_pure ⟨plainId_quiet F.plain_reversed_new _, codeAny_builtin F.entry_reversed_new ?_⟩))
  rw [Around.under_plainId F.plain_reversed_new ⟨[.type "reversed", .str x t], []⟩]
  unfold Builtin.«reversed.__new__»
  refine wpAny_bind (wpAny_of_eq (newClass_reversed (.str x t)) ?_)
  try dsimp only
  refine wpAny_bind (wpAny_of_eq (a := ()) (by first | rfl | kernel_rfl) (wpAny_bind (wpAny_of_eq (a := ()) (by first | rfl | kernel_rfl) ?_)))
  try dsimp only
  refine wpAny_bind (wpAny_specialOf hT norev_str ?_)
  try dsimp only
  refine wpAny_bind ?_
  wp_delta
  refine wpAny_bind (wpAny_isInstance (T := "str") (U := "dict") (b := false) hT PySem.F.sub_str_dict ?_)
  try dsimp only
  try rw [if_neg Bool.false_ne_true]
  try dsimp only
  refine wpAny_bind (wpAny_specialOf hT get_str ?_)
  try dsimp only
  try rw [if_pos (by decide +kernel)]
  refine wpAny_pure ?_
  try dsimp only
  try rw [if_neg (by decide)]
  try dsimp only
  refine wpAny_bind (len_str (by rw [sizeLine_eq] at hz; omega) ?_)
  refine wpAny_bind (wpAny_of_eq (a := some ((x.length : Nat) : Int)) rfl ?_)
  try dsimp only
  refine wpAny_bind (show wpAny _ _ (newObj (.type "reversed") (.fields #[.str x t, rawInt ((x.length : Int) - 1)])) _ _ _ from ?_)
  exact wpAny_newObj_type (wpAny_pure (h _))
theorem call_rs {x : Str} {t : Tok} {Q : Value → Shared → Prop} (hz : x.length ≤ sizeLine)
    (h : ∀ k, Q (.ref s.heap.objs.size) { s with heap := s.heap.push { cls := .type "reversed", data := .fields #[.str x t, rawInt ((x.length : Int) - 1)] }, toks := k }) : wpAny (model prog w) A (call (.type "reversed") [.str x t]) Q E s := by
  refine callType_codes (Q₁ := fun obj s₁ => s₁.TypeIs obj "reversed" ∧ Q obj s₁) called_rt (F.typeCall_reversed_1 (.str x t)) F.entry_object_init (code_rs (A := A.in1) hz fun k => ⟨⟨_, Heap.get?_push_size _ rfl, rfl⟩, h k⟩) fun obj s₁ h₁ => ?_
  exact ⟨h₁.1, F.args_object_init_2 obj (.str x t), object_init_meets called_rt.init.lookup called_rt.made (by decide) prog w A.in1 _ s₁ ⟨h₁.1, rfl, h₁.2⟩⟩
theorem next_rs {it : Addr} {x : Str} {t : Tok} {i c : Nat} {Q : Option Value → Shared → Prop} (hit : IsRs s.heap it x t (i : Int)) (hx : x.cps[i]? = some c) (hsz : x.length ≤ sizeLine)
    (hQ : ∀ h' k u, IsRs h' it x t ((i : Int) - 1) → Heap.SameBut it s.heap h' → Q (some (.str ⟨#[c]⟩ u)) { s with heap := h', toks := k }) : wpAny (model prog w) A (pyNext (.ref it)) Q E s := by
  obtain ⟨o, ho, hc, hd⟩ := id hit
  have hi : i < x.length := (Array.getElem?_eq_some_iff.mp hx).1
  rw [sizeLine_eq] at hsz
  unfold pyNext
  refine wpAny_bind (wpAny_attempt (wpAny_callSpecial?_slot (name := Str.ofString "__next__") hit.typeIs slot_rt_next (wpAny_call_entry slot_rt_next hit.typeIs entry_rt_next ?_ (args_rt_next (.ref it)))))
  unfold Builtin.«reversed.__next__»
  refine wpAny_bind (wpAny_of_eq (a := (Value.ref it, [])) rfl ?_)
  try dsimp only
  refine wpAny_bind (wpAny_field ho hd (x := .str x t) rfl ?_)
  try dsimp only
  refine wpAny_bind (wpAny_field ho hd (x := rawInt (i : Int)) rfl (show wpAny _ _ (if (i : Int) < 0 then _ else _) _ _ s from ?_))
  rw [if_neg (show ¬ (i : Int) < 0 by omega)]
  try dsimp only
  refine wpAny_bind (wpAny_specialOf (typeIs_str s x t) get_str ?_)
  try dsimp only
  try rw [if_neg (by decide)]
  try dsimp only
  refine wpAny_bind (wpAny_mkInt (wpAny_bind (wpAny_attempt ?_)))
  have e1 : decide ((i : Int) < -(2 ^ 63 : Int)) = false := decide_eq_false (by omega)
  have e2 : decide ((i : Int) ≥ 2 ^ 63) = false := decide_eq_false (by omega)
  have e3 : x.cps[i]? = some c := hx
  refine getItem_str (s := { s with toks := s.toks + 1 }) (c := c) (by rw [e1, e2, Bool.or_false]) ?_ ?_
  · rw [seqIndex_of (by omega) (by omega)]
    simpa using e3
  try dsimp only
  refine wpAny_bind (wpAny_field (s := { s with toks := s.toks + 1 + 1 }) ho hd (x := rawInt (i : Int)) rfl ?_)
  try dsimp only
  refine wpAny_bind (wpAny_setField (s := { s with toks := s.toks + 1 + 1 }) ho hd (by simp) ?_)
  have fin : ∀ k u, Q (some (.str ⟨#[c]⟩ u)) { s with heap := s.heap.update it (Obj.mapFields (·.setIfInBounds 1 (rawInt ((i : Int) - 1)))), toks := k } := fun k u => hQ _ k u ⟨_, Heap.get?_update_self _ ho (Obj.isFreed_of_fields (Obj.data_mapFields hd _)), (Obj.cls_mapFields ..).trans hc, by
    rw [Obj.data_mapFields hd]; simp⟩ (Heap.SameBut.update ..)
  first
  | exact wpAny_pure ⟨_, rfl, wpAny_pure (fin _ _)⟩
  | exact wpAny_bind (wpAny_pure (wpAny_pure ⟨_, rfl, wpAny_pure (fin _ _)⟩))
theorem next_rs_end {it : Addr} {x : Str} {t : Tok} {Q : Option Value → Shared → Prop} (hh : A.handled = none) (hit : IsRs s.heap it x t (-1))
    (hQ : ∀ h', Heap.ExtBut it s.heap h' → Q none { s with heap := h' }) : wpAny (model prog w) A (pyNext (.ref it)) Q E s := by
  obtain ⟨o, ho, hc, hd⟩ := id hit
  unfold pyNext
  refine wpAny_bind (wpAny_attempt (wpAny_callSpecial?_slot (name := Str.ofString "__next__") hit.typeIs slot_rt_next (wpAny_call_entry slot_rt_next hit.typeIs entry_rt_next ?_ (args_rt_next (.ref it)))))
  unfold Builtin.«reversed.__next__»
  refine wpAny_bind (wpAny_of_eq (a := (Value.ref it, [])) rfl ?_)
  try dsimp only
  refine wpAny_bind (wpAny_field ho hd (x := .str x t) rfl ?_)
  try dsimp only
  refine wpAny_bind (wpAny_field ho hd (x := rawInt (-1)) rfl (show wpAny _ _ (if (-1 : Int) < 0 then _ else _) _ _ s from ?_))
  rw [if_pos (show (-1 : Int) < 0 by decide)]
  try dsimp only
  refine wpAny_bind (wpAny_rule (wpAny_bind ?_))
  wp_delta
  refine wpAny_bind (wpAny_setField ho hd (by simp) ?_)
  have h2 := Heap.get?_update_self (Obj.mapFields (·.setIfInBounds 1 (rawInt (-1)))) ho (Obj.isFreed_of_fields (Obj.data_mapFields hd _))
  refine wpAny_setField (s := { s with heap := s.heap.update it (Obj.mapFields (·.setIfInBounds 1 (rawInt (-1)))) }) h2 (Obj.data_mapFields hd _) (by simp) ?_
  try dsimp only
  have fin : ∀ (s1 : Shared) (R : Value → Shared → Prop), True := fun _ _ => trivial
  first
  | (show wpAny _ _ (newExc (.type "StopIteration") [] >>= _) _ _ _; refine wpAny_bind ?_)
  | (refine wpAny_bind ?_; show wpAny _ _ (newExc (.type "StopIteration") [] >>= _) _ _ _; refine wpAny_bind ?_)
  | (refine wpAny_bind ?_; wp_delta; show wpAny _ _ (newExc (.type "StopIteration") [] >>= _) _ _ _; refine wpAny_bind ?_)
  simp only [newExc, newTuple]
  refine wpAny_bind (wpAny_newObj_type (wpAny_bind (m := firstArgMember _ _) (wpAny_of_eq (a := Value.none) (by first | rfl | (simp only [firstArgMember]; rfl)) (wpAny_newObj_type ?_ (by size_fits)))) (by size_fits))
  simp only [raiseNew]
  refine wpAny_bind (wpAny_handled ?_)
  first | rw [show A.in1.handled = none from hh] | rw [hh]
  refine wpAny_bind (wpAny_pure (wpAny_throw ?_)); refine wpAny_bind (wpAny_isInstance (T := "StopIteration") (b := true) ⟨_, Heap.get?_push_size _ rfl, rfl⟩ isSubtype_stop ?_); refine wpAny_pure (hQ _ ?_)
  refine ((?_ : Heap.ExtBut it s.heap _).push _).push _
  exact fun b ob hb e => (Heap.get?_update_other _ _ (Ne.symm hb)).trans ((Heap.get?_update_other _ _ (Ne.symm hb)).trans e)
theorem iter_rs {it : Addr} {x : Str} {t : Tok} {i : Int} {Q : Value → Shared → Prop} (hit : IsRs s.heap it x t i) (h : Q (.ref it) s) : wpAny (model prog w) A (pyIter (.ref it)) Q E s := by
  refine wpAny_pyIter_slot hit.typeIs slot_rt_iter (wpAny_call_entry slot_rt_iter hit.typeIs entry_rt_iter (show wpAny _ _ (ret (.ref it)) _ _ s from ?_) (args_rt_iter (.ref it)))
  exact wpAny_pure ⟨_, rfl, "reversed", _, hit.typeIs, slot_rt_next.lookup, h⟩
end
end TwS
namespace Tw
open PySem PySem.Spec PyProof.Rows L2 TwS
/-- the signs of a text from its end -/
def ItvS (x : Str) : It := ⟨fun i _ => i < x.cps.size, fun i H v H' => H' = H ∧ ∃ c, x.cps[x.cps.size - 1 - i]? = some c ∧ v = .str ⟨#[c]⟩, fun i _ => x.cps.size ≤ i⟩
theorem turn_rs {P : Program} {w : World} {K : PySem.W.Frag} {tg : Expr} (it : Addr) (x : Str) (t : Tok) (hz : x.length ≤ sizeLine) : Turn P w K tg (ItvS x) [it] it (fun i h => i ≤ x.cps.size ∧ IsRs h it x t ((x.cps.size : Int) - 1 - (i : Nat))) where
  mem := by simp
  obj := fun i h st b hb => by
    have e : b = it := by simpa using hb
    subst e
    obtain ⟨_, o, e, c, d⟩ := st
    exact ⟨o, e, fun v z => by rw [d] at z; cases z⟩
  keep := fun i h h' st k => ⟨st.1, st.2.at fun o e => k it (by simp) o e⟩
  item := by
    intro X hP hw hK hc i pins s σ H E I hf st hg
    subst hP hw hK
    have hin : i < x.cps.size := hg
    have hlt : x.cps.size - 1 - i < x.cps.size := by omega
    obtain ⟨f0, f1, f2, f3, f4, f5⟩ := hf it (by simp)
    obtain ⟨_, hit⟩ := st
    have e1 : (x.cps.size : Int) - 1 - ((i : Nat) : Int) = ((x.cps.size - 1 - i : Nat) : Int) := by omega
    rw [e1] at hit
    have hx : x.cps[x.cps.size - 1 - i]? = some x.cps[x.cps.size - 1 - i] := Array.getElem?_eq_getElem hlt
    refine next_rs hit hx hz fun h' k u st' sb => ?_
    have e2 : ((x.cps.size - 1 - i : Nat) : Int) - 1 = (x.cps.size : Int) - 1 - ((i + 1 : Nat) : Int) := by omega
    rw [e2] at st'
    have I1 : Inv X pins σ H { s with heap := h', toks := k } := I.turned (t' := k) (fun b o hb e => (sb.2 b hb).trans e) f0 f1 f3 f4 f5
    obtain ⟨o, e, c, d⟩ := id st'
    exact ⟨_, rfl, go_of (s := { s with heap := h', toks := k }) e c d (by decide) ⟨.str ⟨#[x.cps[x.cps.size - 1 - i]]⟩, H, I1, ⟨u, rfl⟩, ⟨rfl, _, hx, rfl⟩, ⟨hin, st'⟩, fun b hb => (hf b hb).1⟩⟩
  done := by
    intro X hP hw hK hc i pins s σ H E I hf st hg
    subst hP hw hK
    obtain ⟨f0, f1, f2, f3, f4, f5⟩ := hf it (by simp)
    obtain ⟨hin, hit⟩ := st
    have hge : x.cps.size ≤ i := hg
    have e1 : (x.cps.size : Int) - 1 - ((i : Nat) : Int) = -1 := by omega
    rw [e1] at hit
    exact next_rs_end (I.ok.hd hc) hit fun h' eb => ⟨rfl, I.turned (t' := s.toks) (fun b o hb e => eb b o hb e) f0 f1 f3 f4 f5⟩
  self := fun A i s Q E st h => iter_rs st.2 h
theorem walk_revS {x : Str} : Walk (ItvS x) x.cps.size (fun _ => True) (fun i H v H' => H' = H ∧ ∃ c, x.cps[x.cps.size - 1 - i]? = some c ∧ v = .str ⟨#[c]⟩) :=
  ⟨fun _ _ hi _ => hi, fun _ _ => Nat.le_refl _, fun _ _ _ _ _ _ y => y⟩
def iRevS (te : TE) : TI := fun σ H R => te σ H fun v H1 => ∃ x : Str, v = .str x ∧ x.length ≤ sizeLine ∧ R (ItvS x) H1
theorem pi_revS {X : Cx} {tg e : Expr} {te : TE} {p pos : Pos} (hg : Gl X "reversed") (hm : X.mg "reversed" = none) (he : PE X e te) (hs : starEach [e] X.env = (false, eval e X.env) :: starEach [] X.env := by rfl) : PI X tg (.Call (.Name "reversed" p) [e] [] pos) (iRevS te) := by
  refine ⟨fun pins s σ H R I h => ?_⟩
  refine Call_ (ld_blt I hg hm PyProof.Rows.boot_reversed (PyProof.Rows.callWith_type1 (args_cons (thn (he.run pins s σ H _ I h) fun u s1 ⟨v, H1, I1, r1, x, ev, hz, q⟩ => args_nil ?_) hs) hs rfl))
  subst ev
  obtain ⟨t, rfl⟩ := r1
  refine call_rs hz fun k => ?_
  have e1 : ((x.length : Nat) : Int) - 1 = (x.cps.size : Int) - 1 - ((0 : Nat) : Int) := by
    show (x.cps.size : Int) - 1 = _
    omega
  rw [e1]
  refine iter_rs ⟨_, Heap.get?_push_size _ rfl, rfl, rfl⟩ ?_
  exact pi_one (tk := k) I1 _ (turn_rs _ x t hz) ⟨Nat.zero_le _, ⟨_, Heap.get?_push_size _ rfl, rfl, rfl⟩⟩ q

/-! text[::-1] -/
theorem picked_rev (x : Str) (tt : Tok) : (slicePicked x none none (some (-1, tt))).filterMap (x.cps[·]?) = x.cps.toList.reverse := by
  show (PySem.sliceRange ((x.length : Int) - 1) (-1) (-1)).filterMap (x.cps[·]?) = _
  have e := PySem.W.krv_sliceRange x.length
  have e2 := PySem.W.krv_range x.length
  rw [e, e2, List.filterMap_reverse]
  exact congrArg List.reverse (PySem.W.krv_all x.cps)
def tRevS (te : TE) : TE := fun σ H Q => te σ H fun v H1 => ∃ l : List Nat, v = .str (mk l) ∧ l.length ≤ sizeLine ∧ Q (.str (mk l.reverse)) H1
theorem pe_revS {X : Cx} {e : Expr} {te : TE} {k : Nat} {p1 p2 p3 pos : Pos} (he : PE X e te) : PE X (.Subscript e (.Slice none none (some (.UnaryOp .USub (.Constant (.int 1) k p1) p2)) p3) pos) (tRevS te) := by
  refine ⟨fun pins s σ H Q I h => Subscript_ (thn (he.run pins s σ H _ I h) fun v s1 ⟨x, H1, I1, r1, l, ex, hz, q⟩ => ?_)⟩
  subst ex
  obtain ⟨t, rfl⟩ := r1
  have hst : PO X (some (.UnaryOp .USub (.Constant (.int 1) k p1) p2)) (tPart (tUn (rU fun i => .int (-i)) (tC (.int 1)))) := po_some (pe_un un_neg pe_int)
  refine wpAny_Slice (thn (po_none.run pins s1 σ H1 (fun o H2 => o = none ∧ H2 = H1) I1 ⟨rfl, rfl⟩) fun vl s2 ⟨a1, H2, I2, pl, el, e2⟩ => thn (po_none.run pins s2 σ H2 (fun o H3 => o = none ∧ H3 = H2) I2 ⟨rfl, rfl⟩) fun vu s3 ⟨a2, H3, I3, pu, eu, e3⟩ => ?_)
  subst el e2 eu e3
  refine thn (hst.run pins s3 σ H3 (fun o H4 => o = some (-1) ∧ H4 = H3) I3 ⟨1, rfl, -1, rfl, rfl, rfl⟩) fun vs s4 ⟨o, H4, I4, ps, eo, e4⟩ => ?_
  subst eo e4
  obtain ⟨l1, rfl, z1⟩ := IsPart.raw pl
  obtain ⟨u1, rfl, z2⟩ := IsPart.raw pu
  obtain ⟨w1, rfl, z3⟩ := IsPart.raw ps
  have y1 : l1 = none := by cases l1 with | none => rfl | some _ => cases z1
  have y2 : u1 = none := by cases u1 with | none => rfl | some _ => cases z2
  obtain ⟨tt, y3⟩ : ∃ tt, w1 = some (-1, tt) := by
    cases w1 with
    | none => cases z3
    | some y =>
      obtain ⟨i, tt⟩ := y
      have z4 : some i = some (-1 : Int) := z3
      have : i = -1 := Option.some.inj z4
      exact ⟨tt, by rw [this]⟩
  subst y1 y2 y3
  have I5 : Inv X pins σ H4 { s4 with heap := s4.heap.push { cls := .type "slice", data := .fields #[partValue none, partValue none, partValue (some (-1, tt))] } } := I4.kept (t' := s4.toks) fun b ob q => Heap.get?_push_of_some _ q
  show wpAny (model X.prog X.w) X.A (subscriptTail e (.Slice none none (some (.UnaryOp .USub (.Constant (.int 1) k p1) p2)) p3) (.str (mk l) t) (.ref s4.heap.objs.size)) (EP X pins σ Q) X.xe _
  refine tail_any (ops := [.str (mk l) t, .ref s4.heap.objs.size]) (typeIs_str _ _ _) (PySem.F.slot_str_getitem.lookup) ?_ (by with_unfolding_all rfl)
  refine wpAny_getItem_str_slice (l := none) (u := none) (st := some (-1, tt)) ⟨_, Heap.get?_push_size _ rfl, rfl, rfl⟩ (show ((-1 : Int) == 0) = false by decide) ?_
  unfold sliceMade
  rw [picked_rev, if_neg (by simp)]
  have hz2 : (mk l.reverse).length ≤ sizeLine := by rw [mk_len, List.length_reverse]; exact hz
  exact ⟨hz2, .str (mk l.reverse), _, I5.tok _, ⟨_, rfl⟩, q⟩
/-! list(text) -/
theorem vals_of : ∀ {xs : List V} {us : List Value}, xs.length = us.length → (∀ (i : Nat) (x : V) (u : Value), xs[i]? = some x → us[i]? = some u → RelV x u) → Vals xs us
  | [], [], _, _ => .nil
  | [], _ :: _, h, _ => by cases h
  | _ :: _, [], h, _ => by cases h
  | x :: xs, u :: us, h, r => .cons (r 0 x u rfl rfl) (vals_of (Nat.succ.inj h) fun i y v h1 h2 => r (i + 1) y v h1 h2)
def signsOf (l : List Nat) : List V := l.map fun c => V.str (mk [c])
theorem call_listS {X : Cx} (hc : X.calm = true) : CallR X (.type "list") (fun xs H Q => ∃ l : List Nat, xs = [.str (mk l)] ∧ l.length ≤ sizeLine ∧ ∀ p, H p = none → Q (.ref p) (upd H p (.lst (signsOf l)))) := by
  intro pins s σ H xs us Q I r ⟨l, e, hz, q⟩
  subst e
  obtain ⟨u, rfl, t, rfl⟩ := vals1 r
  refine call_list_str (I.ok.hd hc) (mk l) t (fun h' tk acc c' hk e hacc => ?_) hz
  have hl : acc.size = l.length := hacc.1
  have rv : Vals (signsOf l) acc.toList := by
    refine vals_of ?_ fun i x u hx hu => ?_
    · show (signsOf l).length = acc.size
      rw [hl]
      exact List.length_map ..
    · rw [Array.getElem?_toList] at hu
      obtain ⟨c, u2, hc2, rfl⟩ := hacc.2 i u hu
      have hc3 : l[i]? = some c := by simpa [mk] using hc2
      unfold signsOf at hx
      rw [List.getElem?_map, hc3] at hx
      cases hx
      exact ⟨u2, rfl⟩
  refine ⟨.ref s.heap.objs.size, _, I.laid (t' := tk) (o := .lst (signsOf l)) hk (Nat.le_refl _) ⟨?_, acc.toList, c', rv, e⟩, rfl, q _ (I.hok.fresh (Nat.le_refl _))⟩
  show (l.map _).length ≤ sizeLine
  rw [List.length_map]
  exact hz
end Tw

set_option Elab.async false
set_option linter.all false
set_option maxRecDepth 100000
set_option maxHeartbeats 2000000
namespace Tw
open PySem PySem.Spec PyProof.Rows L2
/-! marks as values, and the dict of the barred ones -/
def mV (m : Nat) : V := if m < 200 then .str (mk [m]) else .int ((m - 200 : Nat) : Int)
def mKy (m : Nat) : L2.Key := if m < 200 then .inr (mk [m]) else .inl ((m - 200 : Nat) : Int)
theorem kV_mKy (m : Nat) : kV (mKy m) = mV m := by
  unfold mKy mV
  split <;> rfl
theorem mV_let {m : Nat} (h : m < 200) : mV m = .str (mk [m]) := if_pos h
theorem mV_free (k : Nat) : mV (200 + k) = .int (k : Nat) := by
  unfold mV
  rw [if_neg (by omega), Nat.add_sub_cancel_left]
theorem mKy_free (k : Nat) : mKy (200 + k) = .inl ((k : Nat) : Int) := by
  unfold mKy
  rw [if_neg (by omega), Nat.add_sub_cancel_left]
theorem mV_inj {a b : Nat} : mV a = mV b ↔ a = b := by
  refine ⟨fun h => ?_, fun h => by rw [h]⟩
  unfold mV at h
  by_cases ha : a < 200 <;> by_cases hb : b < 200
  · rw [if_pos ha, if_pos hb] at h
    have := mk_inj.mp (V.str.inj h)
    exact (List.cons.inj this).1
  · rw [if_pos ha, if_neg hb] at h; cases h
  · rw [if_neg ha, if_pos hb] at h; cases h
  · rw [if_neg ha, if_neg hb] at h
    have := V.int.inj h
    omega
theorem mKy_inj {a b : Nat} : mKy a = mKy b ↔ a = b := ⟨fun h => mV_inj.mp (by rw [← kV_mKy, ← kV_mKy, h]), fun h => by rw [h]⟩
theorem eq_marks (a b : Nat) : decide (mV a = mV b) = decide (a = b) := decide_eq_decide.mpr mV_inj
theorem scal_mV (a b : Nat) : scal (mV a) (mV b) = true := by unfold mV; split <;> split <;> rfl
def barF : Nat → List Nat → List (L2.Key × V)
  | _, [] => []
  | n, m :: r => (.inl ((n : Nat) : Int), mV m) :: barF (n + 1) r
def barK (bs : List Nat) : List (L2.Key × V) := barF 0 bs
theorem barF_len : ∀ (bs : List Nat) (n : Nat), (barF n bs).length = bs.length
  | [], _ => rfl
  | m :: r, n => by rw [barF, List.length_cons, List.length_cons, barF_len r]
theorem barF_app : ∀ (bs : List Nat) (n m : Nat), barF n (bs ++ [m]) = barF n bs ++ [(.inl ((n + bs.length : Nat) : Int), mV m)]
  | [], n, m => rfl
  | x :: r, n, m => by
    show (_ :: barF (n + 1) (r ++ [m])) = _
    rw [barF_app r (n + 1) m]
    show _ = (_ :: (barF (n + 1) r ++ _))
    rw [show n + 1 + r.length = n + (x :: r).length by rw [List.length_cons]; omega]
theorem barF_val : ∀ (bs : List Nat) (n k : Nat), valV (barF n bs) (.inl ((n + k : Nat) : Int)) = (bs[k]?).map mV
  | [], n, k => by simp [barF, valV_nil]
  | x :: r, n, k => by
    rw [barF]
    cases k with
    | zero => exact valV_pos rfl
    | succ k =>
      rw [valV_neg (fun z => by have := Sum.inl.inj z; omega), show n + (k + 1) = n + 1 + k by omega, barF_val r (n + 1) k]
      rfl
theorem barK_val (bs : List Nat) (k : Nat) : valV (barK bs) (.inl ((k : Nat) : Int)) = (bs[k]?).map mV := by
  have := barF_val bs 0 k
  rw [Nat.zero_add] at this
  exact this
theorem barK_len (bs : List Nat) : (barK bs).length = bs.length := barF_len bs 0
theorem barK_put (bs : List Nat) (m : Nat) : putK (barK bs) (.inl ((bs.length : Nat) : Int)) (mV m) = barK (bs ++ [m]) := by
  rw [putK_new _ (by rw [barK_val, List.getElem?_eq_none (Nat.le_refl _)]; rfl)]
  unfold barK
  rw [barF_app, Nat.zero_add]
theorem line_of {n : Nat} (h : n ≤ 1000000) : n < sizeLine := by rw [sizeLine_eq]; omega
def marksV (ms : List Nat) : List V := ms.map mV
def spAddFree : Sp := fun vs H Q _ => ∃ (d : Addr) (bs : List Nat) (m : Nat), vs = [.ref d, mV m] ∧ H d = some (.dK (barK bs)) ∧ bs.length ≤ 500000 ∧ Q (.int (bs.length : Nat)) (upd H d (.dK (barK (bs ++ [m]))))
def spShT : Sp := fun vs H Q _ => ∃ (a d : Addr) (ms bs : List Nat), vs = [.ref a, .ref d] ∧ H a = some (.lst (marksV ms)) ∧ H d = some (.dK (barK bs)) ∧ ms.length ≤ 100000 ∧ bs.length ≤ 100000 ∧
  ∀ H' p, SameB d H H' → H p = none → H' p = some (.lst (marksV (stT ms bs).1)) → H' d = some (.dK (barK (stT ms bs).2)) → Q (.ref p) H'
def spShS : Sp := fun vs H Q _ => ∃ (a d : Addr) (ms bs : List Nat) (c : Nat), vs = [.ref a, .int (c : Nat), .ref d] ∧ H a = some (.lst (marksV ms)) ∧ H d = some (.dK (barK bs)) ∧ ms.length ≤ 100000 ∧ bs.length ≤ 100000 ∧ ms.length + 2 * c * pairsO none ms ≤ 100000 ∧ c < 4611686018427387904 ∧
  ∀ H' p, SameB d H H' → H p = none → H' p = some (.lst (marksV (stS c ms bs).1)) → H' d = some (.dK (barK (stS c ms bs).2)) → Q (.ref p) H'
end Tw

set_option Elab.async false
set_option linter.all false
set_option maxRecDepth 100000
set_option maxHeartbeats 2000000
namespace Tw
open PySem PySem.Spec PyProof.Rows L2
/-! sizes of shapes over whole pipelines -/
theorem flat_from : ∀ (l : List Nat) (c n : Nat), (runsFrom c n l).flatMap (fun q => List.replicate q.2 q.1) = List.replicate n c ++ l
  | [], c, n => by simp [runsFrom]
  | d :: r, c, n => by
    rw [runsFrom]
    by_cases h : d = c
    · subst h
      rw [if_pos rfl, flat_from r d (n + 1), List.replicate_succ', List.append_assoc]
      rfl
    · rw [if_neg h, List.flatMap_cons, flat_from r d 1]
      rfl
theorem flat_runs (l : List Nat) : (runs l).flatMap (fun q => List.replicate q.2 q.1) = l := by
  cases l with
  | nil => rfl
  | cons c r => exact flat_from r c 1
theorem growS_rep (c n : Nat) (l : List Nat) (z : Nat × Nat) : growS (List.replicate n c ++ l) z = iter1 (c == 84) n (growS l z) := by
  induction n with
  | zero => rfl
  | succ n ih => rw [List.replicate_succ, List.cons_append, growS_cons, ih]; rfl
def growR (rs : List (Nat × Nat)) (z : Nat × Nat) : Nat × Nat := rs.foldl (fun a q => iter1 (q.1 == 84) q.2 a) z
theorem growR_flat : ∀ (rs : List (Nat × Nat)) (z : Nat × Nat), growS (rs.flatMap fun q => List.replicate q.2 q.1) z = growR rs.reverse z
  | [], z => rfl
  | q :: rs, z => by
    rw [List.flatMap_cons, growS_rep, growR_flat rs z]
    unfold growR
    rw [List.reverse_cons, List.foldl_append]
    rfl
theorem growR_eq (p : List Nat) (z : Nat × Nat) : growR (runs p).reverse z = growS p z := by rw [← growR_flat, flat_runs]
theorem before1_le (t : Bool) (z : Nat × Nat) : z.1 ≤ (before1 t z).1 := by
  unfold before1
  cases t <;> simp <;> omega
theorem iter1_le (t : Bool) (z : Nat × Nat) : ∀ c, z.1 ≤ (iter1 t c z).1
  | 0 => Nat.le_refl _
  | c + 1 => Nat.le_trans (iter1_le t z c) (before1_le t _)
theorem iter1_mono (t : Bool) (z : Nat × Nat) {i j : Nat} (h : i ≤ j) : (iter1 t i z).1 ≤ (iter1 t j z).1 := by
  induction j with
  | zero => rw [Nat.le_zero.mp h]; exact Nat.le_refl _
  | succ j ih =>
    by_cases e : i = j + 1
    · rw [e]; exact Nat.le_refl _
    · exact Nat.le_trans (ih (by omega)) (before1_le t _)
theorem growR_le : ∀ (rs : List (Nat × Nat)) (z : Nat × Nat), z.1 ≤ (growR rs z).1
  | [], z => Nat.le_refl _
  | q :: rs, z => Nat.le_trans (iter1_le _ z q.2) (growR_le rs _)
theorem growR_take (rs : List (Nat × Nat)) (z : Nat × Nat) (i : Nat) : (growR (rs.take i) z).1 ≤ (growR rs z).1 := by
  have e : growR rs z = growR (rs.drop i) (growR (rs.take i) z) := by
    unfold growR
    rw [← List.foldl_append, List.take_append_drop]
  rw [e]
  exact growR_le _ _
/-- what holds of a shape with its barred ones -/
structure Shp (z : List Nat × List Nat) (y : Nat × Nat) : Prop where
  size : sizeM z = y
  ok : okM z
  bar : z.2.length ≤ z.1.length
theorem Shp.t {z : List Nat × List Nat} {y : Nat × Nat} (h : Shp z y) : Shp (stT z.1 z.2) (before1 true y) := by
  obtain ⟨e1, e2, e3⟩ := stT_size h.ok
  refine ⟨by rw [e1, h.size], e2, ?_⟩
  have hb := h.bar
  have hl : (stT z.1 z.2).1.length = 2 * z.1.length + pairsO none z.1 := goT_len _ _ _
  have hz : (sizeM z).2 = pairsO none z.1 := rfl
  rw [e3, hl, hz]
  omega
theorem Shp.s {z : List Nat × List Nat} {y : Nat × Nat} (h : Shp z y) (c : Nat) : Shp (stS c z.1 z.2) (iter1 false c y) := by
  obtain ⟨e1, e2, e3⟩ := stS_size (c := c) h.ok
  refine ⟨by rw [e1, h.size], e2, ?_⟩
  have hb := h.bar
  have hl : (stS c z.1 z.2).1.length = z.1.length + 2 * c * pairsO none z.1 := goS_len _ _ _ _
  have hz : (sizeM z).2 = pairsO none z.1 := rfl
  have : c * pairsO none z.1 ≤ 2 * c * pairsO none z.1 := Nat.mul_le_mul_right _ (by omega)
  rw [e3, hl, hz]
  omega
theorem Shp.many {z : List Nat × List Nat} {y : Nat × Nat} (h : Shp z y) : ∀ c, Shp (manyT c z) (iter1 true c y)
  | 0 => h
  | c + 1 => by rw [manyT_succ]; exact (h.many c).t
theorem Shp.step {z : List Nat × List Nat} {y : Nat × Nat} (h : Shp z y) {q : Nat × Nat} (hq : q.1 = 84 ∨ q.1 = 83) : Shp (stepR z q) (iter1 (q.1 == 84) q.2 y) := by
  unfold stepR
  rcases hq with e | e <;> rw [e]
  · rw [if_neg (by decide)]
    exact h.many q.2
  · rw [if_pos rfl]
    exact h.s q.2
theorem Shp.run {o : List Nat} (ho : ∀ c ∈ o, c < 200) : ∀ rs : List (Nat × Nat), (∀ q ∈ rs, q.1 = 84 ∨ q.1 = 83) → Shp (shapeR o rs) (growR rs (sizeS o)) := by
  intro rs
  have main : ∀ (rs : List (Nat × Nat)) (z : List Nat × List Nat) (y : Nat × Nat), Shp z y → (∀ q ∈ rs, q.1 = 84 ∨ q.1 = 83) → Shp (rs.foldl stepR z) (growR rs y) := by
    intro rs
    induction rs with
    | nil => exact fun z y h _ => h
    | cons q rs ih => exact fun z y h hq => ih _ _ (h.step (hq q List.mem_cons_self)) fun x hx => hq x (List.mem_cons_of_mem _ hx)
  refine fun h => main rs (o, []) (sizeS o) ⟨?_, fun m hm => ho m hm, Nat.zero_le _⟩ h
  show (o.length, pairsO none o) = (o.length, pairs o)
  rw [pairsO_S]
theorem runs_heads {p : List Nat} (hp : Pipe p) : ∀ q ∈ runs p, q.1 = 84 ∨ q.1 = 83 := by
  intro q hq
  by_cases h : q.2 = 0
  · have := runs_pos p q hq
    omega
  · refine hp q.1 ?_
    rw [← flat_runs p, List.mem_flatMap]
    exact ⟨q, hq, List.mem_replicate.mpr ⟨h, rfl⟩⟩
theorem runs_counts {p : List Nat} : ∀ q ∈ runs p, q.2 ≤ p.length := by
  have main : ∀ (l : List Nat) (c n : Nat), ∀ q ∈ runsFrom c n l, q.2 ≤ n + l.length := by
    intro l
    induction l with
    | nil => intro c n q hq; rw [runsFrom] at hq; cases List.mem_singleton.mp hq; exact Nat.le_refl _
    | cons d r ih =>
      intro c n q hq
      rw [runsFrom] at hq
      rw [List.length_cons]
      by_cases h : d = c
      · rw [if_pos h] at hq
        have := ih c (n + 1) q hq
        omega
      · rw [if_neg h] at hq
        rcases List.mem_cons.mp hq with e | hq
        · subst e; show n ≤ _; omega
        · have := ih d 1 q hq
          omega
  cases p with
  | nil => intro q hq; cases hq
  | cons c r =>
    intro q hq
    have := main r c 1 q hq
    rw [List.length_cons]; omega
theorem Pairs.b {d : Addr} {kvs : List (L2.Key × V)} {H H' : Hp} (s : SameB d H H') (hd : H d = some (.dK kvs)) : ∀ {as : List Addr} {rs : List (Nat × Nat)}, Pairs H as rs → Pairs H' as rs
  | [], [], _ => trivial
  | [], _ :: _, h => h.elim
  | _ :: _, [], h => h.elim
  | a :: as, q :: rs, ⟨h1, h2⟩ => ⟨s a _ (ne_of h1 hd (by intro z; cases z)) h1, Pairs.b s hd h2⟩
theorem sign_S {c : Nat} : decide (V.str (mk [c]) = V.str "S") = decide (c = 83) := by
  rw [str_S]
  exact decide_eq_decide.mpr eq_mk1
def spShOf : Sp := fun vs H Q _ => ∃ (p o : List Nat), vs = [.str (mk p), .str (mk o)] ∧ (Pipe p ∧ p.length ≤ 1000) ∧ (∀ c ∈ o, c < 200) ∧ (growS p (sizeS o)).1 ≤ 100000 ∧
  ∀ H' t a d, Same H H' → H t = none → H' t = some (.tup [.ref a, .ref d]) → H' a = some (.lst (marksV (shapeOf p o).1)) → H' d = some (.dK (barK (shapeOf p o).2)) → Q (.ref t) H'
theorem signsOf_marks {o : List Nat} (h : ∀ c ∈ o, c < 200) : signsOf o = marksV o := by
  unfold signsOf marksV
  exact List.map_congr_left fun c hc => (mV_let (h c hc)).symm
end Tw

set_option Elab.async false
set_option linter.all false
set_option maxRecDepth 100000
set_option maxHeartbeats 2000000
namespace Tw
open PySem PySem.Spec PyProof.Rows L2
/-! a free letter first appears behind the one that is barred for it -/
def ordW (bs : List Nat) : List Nat → List Nat → Prop
  | _, [] => True
  | seen, m :: r => (200 ≤ m → m ∈ seen ∨ ∃ b, bs[m - 200]? = some b ∧ b ∈ seen) ∧ ordW bs (m :: seen) r
def ext (bs B : List Nat) : Prop := ∀ (i b : Nat), bs[i]? = some b → B[i]? = some b
theorem ordW_mono {bs B : List Nat} (he : ext bs B) : ∀ (l seen seen' : List Nat), (∀ x ∈ seen, x ∈ seen') → ordW bs seen l → ordW B seen' l
  | [], _, _, _, _ => trivial
  | m :: r, seen, seen', hs, h => by
    refine ⟨fun hm => ?_, ordW_mono he r _ _ (fun x hx => ?_) h.2⟩
    · rcases h.1 hm with z | ⟨b, hb, hb2⟩
      · exact .inl (hs m z)
      · exact .inr ⟨b, he _ _ hb, hs b hb2⟩
    · rcases List.mem_cons.mp hx with e | hx
      · rw [e]; exact List.mem_cons_self
      · exact List.mem_cons_of_mem _ (hs x hx)
theorem ordW_goT {bs B : List Nat} (he : ext bs B) : ∀ (ms : List Nat) (p : Option Nat) (n : Nat) (seen seen' : List Nat), ordW bs seen ms → (∀ (j b : Nat), (bsT p ms)[j]? = some b → B[n + j]? = some b) → (∀ x ∈ seen, x ∈ seen') → (∀ q, p = some q → q ∈ seen') → ordW B seen' (goT p ms n)
  | [], _, _, _, _, _, _, _, _ => trivial
  | m :: r, p, n, seen, seen', ho, hB, hs, hp => by
    have hm : 200 ≤ m → m ∈ seen' ∨ ∃ b, B[m - 200]? = some b ∧ b ∈ seen' := fun h => by
      rcases ho.1 h with z | ⟨b, hb, hb2⟩
      · exact .inl (hs m z)
      · exact .inr ⟨b, he _ _ hb, hs b hb2⟩
    have sub : ∀ pre : List Nat, ∀ x ∈ m :: seen, x ∈ m :: (m :: (pre ++ seen')) := fun pre x hx => by
      rcases List.mem_cons.mp hx with e | hx
      · rw [e]; exact List.mem_cons_self
      · exact List.mem_cons_of_mem _ (List.mem_cons_of_mem _ (List.mem_append_right _ (hs x hx)))
    rw [goT]
    rw [bsT] at hB
    by_cases h : p = some m
    · rw [if_pos h] at hB ⊢
      have h0 : B[n]? = some m := hB 0 m rfl
      refine ⟨fun _ => .inr ⟨m, by rw [Nat.add_sub_cancel_left]; exact h0, hp m h⟩, fun h2 => .inl (List.mem_cons_of_mem _ (hp m h)), fun _ => .inl List.mem_cons_self, ?_⟩
      refine ordW_goT he r (some m) (n + 1) (m :: seen) _ ho.2 (fun j b hb => ?_) (fun x hx => ?_) (fun q e => by cases e; exact List.mem_cons_self)
      · have := hB (j + 1) b hb
        rw [show n + 1 + j = n + (j + 1) by omega]
        exact this
      · rcases List.mem_cons.mp hx with e | hx
        · rw [e]; exact List.mem_cons_self
        · exact List.mem_cons_of_mem _ (List.mem_cons_of_mem _ (List.mem_cons_of_mem _ (hs x hx)))
    · rw [if_neg h] at hB ⊢
      refine ⟨hm, fun _ => .inl List.mem_cons_self, ?_⟩
      refine ordW_goT he r (some m) n (m :: seen) _ ho.2 hB (fun x hx => ?_) (fun q e => by cases e; exact List.mem_cons_self)
      rcases List.mem_cons.mp hx with e | hx
      · rw [e]; exact List.mem_cons_self
      · exact List.mem_cons_of_mem _ (List.mem_cons_of_mem _ (hs x hx))
/-- what is seen already is fine -/
theorem ordW_seen {B : List Nat} : ∀ (l t seen : List Nat), (∀ x ∈ l, x ∈ seen) → (∀ s2, (∀ x ∈ seen, x ∈ s2) → ordW B s2 t) → ordW B seen (l ++ t)
  | [], t, seen, _, h => h seen fun _ hx => hx
  | m :: l, t, seen, hl, h => by
    refine ⟨fun _ => .inl (hl m List.mem_cons_self), ordW_seen l t (m :: seen) (fun x hx => List.mem_cons_of_mem _ (hl x (List.mem_cons_of_mem _ hx))) fun s2 hs => h s2 fun x hx => hs x (List.mem_cons_of_mem _ hx)⟩
theorem ordW_halfs {B : List Nat} : ∀ (c n x : Nat) (t seen : List Nat), x ∈ seen → (∀ (j : Nat), j < c → B[n + j]? = some (if j = 0 then x else 200 + (n + (j - 1)))) →
    (∀ s2, (∀ y ∈ seen, y ∈ s2) → (∀ y ∈ halfs n c, y ∈ s2) → ordW B s2 t) → ordW B seen (halfs n c ++ t)
  | 0, n, x, t, seen, hx, hB, h => h seen (fun _ hy => hy) (fun y hy => by simp [halfs] at hy)
  | c + 1, n, x, t, seen, hx, hB, h => by
    rw [halfs_front, List.cons_append]
    have h0 := hB 0 (by omega)
    refine ⟨fun _ => .inr ⟨x, by rw [Nat.add_sub_cancel_left]; exact h0, hx⟩, ?_⟩
    refine ordW_halfs c (n + 1) (200 + n) t _ List.mem_cons_self (fun j hj => ?_) (fun s2 h1 h2 => h s2 (fun y hy => h1 y (List.mem_cons_of_mem _ hy)) fun y hy => ?_)
    · have := hB (j + 1) (by omega)
      rw [if_neg (Nat.succ_ne_zero j)] at this
      rw [show n + 1 + j = n + (j + 1) by omega, this]
      by_cases e : j = 0
      · rw [if_pos e, e]; rfl
      · rw [if_neg e]
        congr 2
        omega
    · rw [halfs_front] at hy
      rcases List.mem_cons.mp hy with e | hy
      · exact h1 y (by rw [e]; exact List.mem_cons_self)
      · exact h2 y hy
theorem inners_at (m n : Nat) : ∀ (c j : Nat), j < c → (inners m n c)[j]? = some (if j = 0 then m else 200 + (n + (j - 1)))
  | 0, j, h => by omega
  | c + 1, j, h => by
    rw [inners]
    by_cases e : j < c
    · rw [List.getElem?_append_left (by rw [inners_len]; exact e)]
      exact inners_at m n c j e
    · have : j = c := by omega
      subst this
      rw [List.getElem?_append_right (by rw [inners_len]; exact Nat.le_refl _), inners_len, Nat.sub_self]
      rfl
theorem ordW_goS {bs B : List Nat} (c : Nat) (he : ext bs B) : ∀ (ms : List Nat) (p : Option Nat) (n : Nat) (seen seen' : List Nat), ordW bs seen ms → (∀ (j b : Nat), (bsS c p ms n)[j]? = some b → B[n + j]? = some b) → (∀ x ∈ seen, x ∈ seen') → (∀ q, p = some q → q ∈ seen') → ordW B seen' (goS c p ms n)
  | [], _, _, _, _, _, _, _, _ => trivial
  | m :: r, p, n, seen, seen', ho, hB, hs, hp => by
    have hm : 200 ≤ m → m ∈ seen' ∨ ∃ b, B[m - 200]? = some b ∧ b ∈ seen' := fun h => by
      rcases ho.1 h with z | ⟨b, hb, hb2⟩
      · exact .inl (hs m z)
      · exact .inr ⟨b, he _ _ hb, hs b hb2⟩
    rw [goS]
    rw [bsS] at hB
    by_cases h : p = some m
    · rw [if_pos h] at hB ⊢
      have ms' := hp m h
      unfold hh
      rw [List.append_assoc]
      refine ordW_halfs c n m _ seen' ms' (fun j hj => hB j _ ?_) fun s2 h1 h2 => ?_
      · rw [List.getElem?_append_left (by rw [inners_len]; exact hj)]
        exact inners_at m n c j hj
      · refine ordW_seen _ _ s2 (fun x hx => h2 x (List.mem_reverse.mp hx)) fun s3 h3 => ?_
        refine ⟨fun _ => .inl (h3 _ (h1 _ ms')), ?_⟩
        refine ordW_goS c he r (some m) (n + c) (m :: seen) _ ho.2 (fun j b hb => ?_) (fun x hx => ?_) (fun q e => by cases e; exact List.mem_cons_self)
        · have := hB (c + j) b (by rw [List.getElem?_append_right (by rw [inners_len]; omega), inners_len, Nat.add_sub_cancel_left]; exact hb)
          rw [show n + c + j = n + (c + j) by omega]
          exact this
        · rcases List.mem_cons.mp hx with e | hx
          · rw [e]; exact List.mem_cons_self
          · exact List.mem_cons_of_mem _ (h3 x (h1 x (hs x hx)))
    · rw [if_neg h] at hB ⊢
      refine ⟨hm, ?_⟩
      refine ordW_goS c he r (some m) n (m :: seen) _ ho.2 hB (fun x hx => ?_) (fun q e => by cases e; exact List.mem_cons_self)
      rcases List.mem_cons.mp hx with e | hx
      · rw [e]; exact List.mem_cons_self
      · exact List.mem_cons_of_mem _ (hs x hx)
/-- letters of a shape are letters of the output -/
def letW (o l : List Nat) : Prop := ∀ m ∈ l, m < 200 → m ∈ o
theorem goT_mem : ∀ (ms : List Nat) (p : Option Nat) (n x : Nat), x ∈ goT p ms n → x < 200 → x ∈ ms
  | [], _, _, _, h, _ => by cases h
  | m :: r, p, n, x, h, hx => by
    rw [goT] at h
    by_cases e : p = some m
    · rw [if_pos e] at h
      simp only [List.mem_cons] at h
      rcases h with z | z | z | z
      · omega
      · rw [z]; exact List.mem_cons_self
      · rw [z]; exact List.mem_cons_self
      · exact List.mem_cons_of_mem _ (goT_mem r _ _ x z hx)
    · rw [if_neg e] at h
      simp only [List.mem_cons] at h
      rcases h with z | z | z
      · rw [z]; exact List.mem_cons_self
      · rw [z]; exact List.mem_cons_self
      · exact List.mem_cons_of_mem _ (goT_mem r _ _ x z hx)
theorem hh_free {n c x : Nat} (h : x ∈ hh n c) : 200 ≤ x := by
  unfold hh halfs at h
  rw [List.mem_append, List.mem_reverse] at h
  have : x ∈ (List.range c).map fun j => 200 + (n + j) := by rcases h with h | h <;> exact h
  obtain ⟨j, _, rfl⟩ := List.mem_map.mp this
  omega
theorem goS_mem (c : Nat) : ∀ (ms : List Nat) (p : Option Nat) (n x : Nat), x ∈ goS c p ms n → x < 200 → x ∈ ms
  | [], _, _, _, h, _ => by cases h
  | m :: r, p, n, x, h, hx => by
    rw [goS] at h
    by_cases e : p = some m
    · rw [if_pos e, List.mem_append, List.mem_cons] at h
      rcases h with z | z | z
      · have := hh_free z; omega
      · rw [z]; exact List.mem_cons_self
      · exact List.mem_cons_of_mem _ (goS_mem c r _ _ x z hx)
    · rw [if_neg e, List.mem_cons] at h
      rcases h with z | z
      · rw [z]; exact List.mem_cons_self
      · exact List.mem_cons_of_mem _ (goS_mem c r _ _ x z hx)
structure WfS (o : List Nat) (z : List Nat × List Nat) : Prop where
  ord : ordW z.2 [] z.1
  let_ : letW o z.1
theorem ext_app (a b : List Nat) : ext a (a ++ b) := fun i x h => by
  rw [List.getElem?_append_left (List.getElem?_eq_some_iff.mp h).1]; exact h
theorem WfS.t {o : List Nat} {z : List Nat × List Nat} (h : WfS o z) : WfS o (stT z.1 z.2) := by
  refine ⟨ordW_goT (ext_app _ _) z.1 none z.2.length [] [] h.ord (fun j b hb => ?_) (fun _ hx => hx) (fun _ e => by cases e), fun m hm hl => h.let_ m (goT_mem _ _ _ m hm hl) hl⟩
  rw [List.getElem?_append_right (by omega), Nat.add_sub_cancel_left]
  exact hb
theorem WfS.s {o : List Nat} {z : List Nat × List Nat} (h : WfS o z) (c : Nat) : WfS o (stS c z.1 z.2) := by
  refine ⟨ordW_goS c (ext_app _ _) z.1 none z.2.length [] [] h.ord (fun j b hb => ?_) (fun _ hx => hx) (fun _ e => by cases e), fun m hm hl => h.let_ m (goS_mem c _ _ _ m hm hl) hl⟩
  rw [List.getElem?_append_right (by omega), Nat.add_sub_cancel_left]
  exact hb
theorem WfS.many {o : List Nat} {z : List Nat × List Nat} (h : WfS o z) : ∀ c, WfS o (manyT c z)
  | 0 => h
  | c + 1 => by rw [manyT_succ]; exact (h.many c).t
theorem WfS.run {o : List Nat} (ho : ∀ c ∈ o, c < 200) (rs : List (Nat × Nat)) : WfS o (shapeR o rs) := by
  have main : ∀ (rs : List (Nat × Nat)) (z : List Nat × List Nat), WfS o z → WfS o (rs.foldl stepR z) := by
    intro rs
    induction rs with
    | nil => exact fun z h => h
    | cons q rs ih =>
      intro z h
      refine ih _ ?_
      unfold stepR
      split
      · exact h.s q.2
      · exact h.many q.2
  refine main rs (o, []) ⟨?_, fun m hm _ => hm⟩
  have : ∀ (l seen : List Nat), (∀ c ∈ l, c < 200) → ordW [] seen l := by
    intro l
    induction l with
    | nil => exact fun _ _ => trivial
    | cons c l ih => exact fun seen h => ⟨fun z => by have := h c List.mem_cons_self; omega, ih _ fun x hx => h x (List.mem_cons_of_mem _ hx)⟩
  exact this o [] ho
/-! letters for the marks -/
def lookM (a : List (Nat × Nat)) (m : Nat) : Option Nat := (a.find? fun q => decide (q.1 = m)).map Prod.snd
def letAt (j c : Nat) : Nat := if 97 + j < c then 97 + j else 98 + j
def addI (a : List (Nat × Nat)) (c : Nat) : List (Nat × Nat) := if (lookM a c).isSome then a else a ++ [(c, c)]
def initM (o : List Nat) : List (Nat × Nat) := o.foldl addI []
def stepN (bs : List Nat) (a : List (Nat × Nat) × List Nat) (m : Nat) : List (Nat × Nat) × List Nat :=
  if (lookM a.1 m).isSome then a else (a.1 ++ [(m, letAt (a.2.getLastD 0) ((lookM a.1 (bs.getD (m - 200) 0)).getD 0))], a.2.dropLast)
def asgN (z : List Nat × List Nat) (o ds : List Nat) : List (Nat × Nat) × List Nat := z.1.foldl (stepN z.2) (initM o, ds)
def rowN (z : List Nat × List Nat) (o ds : List Nat) : List Nat := z.1.map fun m => (lookM (asgN z o ds).1 m).getD 0
def digs : Nat → Nat → Nat → List Nat
  | _, _, 0 => []
  | n, b, c + 1 => n % b :: digs (n / b) b c
def nthRow (p o : List Nat) (k n : Nat) : List Nat := rowN (shapeOf p o) o (digs n (k - 1) (shapeOf p o).2.length)
def asgK (a : List (Nat × Nat)) : List (L2.Key × V) := a.map fun q => (mKy q.1, V.str (mk [q.2]))
theorem asgK_val (a : List (Nat × Nat)) (m : Nat) : valV (asgK a) (mKy m) = (lookM a m).map fun c => V.str (mk [c]) := by
  unfold lookM asgK
  induction a with
  | nil => rfl
  | cons q r ih =>
    rw [List.map_cons, List.find?_cons]
    by_cases e : q.1 = m
    · rw [valV_pos (by rw [e]), decide_eq_true e]; rfl
    · rw [valV_neg (fun z => e (mKy_inj.mp z)), decide_eq_false e]; exact ih
theorem asgK_put {a : List (Nat × Nat)} {m c : Nat} (h : lookM a m = none) : putK (asgK a) (mKy m) (.str (mk [c])) = asgK (a ++ [(m, c)]) := by
  rw [putK_new _ (by rw [asgK_val, h]; rfl)]
  unfold asgK
  rw [List.map_append]
  rfl
theorem lookM_app (a b : List (Nat × Nat)) (m : Nat) : lookM (a ++ b) m = (lookM a m).or (lookM b m) := by
  unfold lookM
  rw [List.find?_append]
  cases a.find? _ <;> rfl
theorem lookM_one (m c x : Nat) : lookM [(m, c)] x = if m = x then some c else none := by
  unfold lookM
  rw [List.find?_cons]
  by_cases e : m = x
  · rw [decide_eq_true e, if_pos e]; rfl
  · rw [decide_eq_false e, if_neg e]; rfl
theorem lookM_mem {a : List (Nat × Nat)} {m c : Nat} (h : lookM a m = some c) : (m, c) ∈ a := by
  unfold lookM at h
  obtain ⟨q, hq, rfl⟩ := Option.map_eq_some_iff.mp h
  have h1 := List.mem_of_find?_eq_some hq
  have h2 := List.find?_some hq
  have h3 : q.1 = m := by simpa using h2
  rw [← h3]
  exact h1
theorem lookM_isSome {a : List (Nat × Nat)} {m : Nat} : (lookM a m).isSome = true ↔ m ∈ a.map Prod.fst := by
  unfold lookM
  rw [Option.isSome_map, List.find?_isSome, List.mem_map]
  exact ⟨fun ⟨q, h1, h2⟩ => ⟨q, h1, of_decide_eq_true h2⟩, fun ⟨q, h1, h2⟩ => ⟨q, h1, decide_eq_true h2⟩⟩
/-- the initial ones: each letter as itself -/
theorem initM_diag (o : List Nat) : ∀ q ∈ initM o, q.1 = q.2 ∧ q.1 ∈ o := by
  have main : ∀ (l a : List Nat) (acc : List (Nat × Nat)), (∀ q ∈ acc, q.1 = q.2 ∧ q.1 ∈ a ++ l) → ∀ q ∈ l.foldl addI acc, q.1 = q.2 ∧ q.1 ∈ a ++ l := by
    intro l
    induction l with
    | nil => exact fun _ _ h => h
    | cons c l ih =>
      intro a acc h
      rw [List.foldl_cons]
      have := ih (a ++ [c]) (addI acc c) (by
        rw [List.append_assoc]
        intro q hq
        unfold addI at hq
        split at hq
        · exact h q hq
        · rcases List.mem_append.mp hq with hq | hq
          · exact h q hq
          · rw [List.mem_singleton.mp hq]
            exact ⟨rfl, List.mem_append_right _ List.mem_cons_self⟩)
      rw [List.append_assoc] at this
      exact this
  exact main o [] [] (fun q hq => by cases hq)
theorem initM_all (o : List Nat) : ∀ c ∈ o, (lookM (initM o) c).isSome = true := by
  have main : ∀ (l : List Nat) (acc : List (Nat × Nat)) (c : Nat), (c ∈ l ∨ (lookM acc c).isSome = true) → (lookM (l.foldl addI acc) c).isSome = true := by
    intro l
    induction l with
    | nil => intro acc c h; rcases h with h | h; cases h; exact h
    | cons d l ih =>
      intro acc c h
      rw [List.foldl_cons]
      refine ih _ c ?_
      by_cases hc : c ∈ l
      · exact .inl hc
      · refine .inr ?_
        unfold addI
        by_cases hd : (lookM acc d).isSome = true
        · rw [if_pos hd]
          rcases h with h | h
          · rcases List.mem_cons.mp h with e | h
            · rw [e]; exact hd
            · exact absurd h hc
          · exact h
        · rw [if_neg hd, lookM_app]
          rcases h with h | h
          · rcases List.mem_cons.mp h with e | h
            · rw [e, lookM_one, if_pos rfl]; cases lookM acc d <;> rfl
            · exact absurd h hc
          · obtain ⟨y, hy⟩ := Option.isSome_iff_exists.mp h
            rw [hy]; rfl
  exact fun c hc => main o [] c (.inl hc)
/-- the state behind i marks -/
def upN (z : List Nat × List Nat) (o ds : List Nat) (i : Nat) : List (Nat × Nat) × List Nat := (z.1.take i).foldl (stepN z.2) (initM o, ds)
theorem upN_succ {z : List Nat × List Nat} {o ds : List Nat} {i m : Nat} (h : z.1[i]? = some m) : upN z o ds (i + 1) = stepN z.2 (upN z o ds i) m := by
  unfold upN
  rw [List.take_add_one, h, List.foldl_append]
  rfl
/-- what holds there: a list F of free letters is given out -/
structure Given (z : List Nat × List Nat) (o ds : List Nat) (i : Nat) : Prop where
  all : ∀ m, (m ∈ o ∨ m ∈ z.1.take i) → (lookM (upN z o ds i).1 m).isSome = true
  fr : ∃ F : List Nat, F.Nodup ∧ (∀ m ∈ F, 200 ≤ m ∧ m < 200 + z.2.length) ∧ (∀ m, 200 ≤ m → ((lookM (upN z o ds i).1 m).isSome = true ↔ m ∈ F)) ∧ F.length + (upN z o ds i).2.length = ds.length
  low : ∀ q ∈ (upN z o ds i).1, 97 ≤ q.2 ∧ q.2 ≤ 122
  dig : ∀ d ∈ (upN z o ds i).2, d ≤ 24
theorem ordW_at {bs : List Nat} : ∀ (l seen : List Nat) (i m : Nat), ordW bs seen l → l[i]? = some m → 200 ≤ m → (m ∈ seen ∨ m ∈ l.take i) ∨ ∃ b, bs[m - 200]? = some b ∧ (b ∈ seen ∨ b ∈ l.take i)
  | [], _, _, _, _, h, _ => by cases h
  | x :: r, seen, 0, m, ho, h, hm => by
    cases h
    rcases ho.1 hm with z | ⟨b, h1, h2⟩
    · exact .inl (.inl z)
    · exact .inr ⟨b, h1, .inl h2⟩
  | x :: r, seen, i + 1, m, ho, h, hm => by
    rw [List.take_succ_cons]
    have h' : r[i]? = some m := h
    rcases ordW_at r (x :: seen) i m ho.2 h' hm with (z | z) | ⟨b, h1, h2 | h2⟩
    · rcases List.mem_cons.mp z with e | z
      · exact .inl (.inr (by rw [e]; exact List.mem_cons_self))
      · exact .inl (.inl z)
    · exact .inl (.inr (List.mem_cons_of_mem _ z))
    · rcases List.mem_cons.mp h2 with e | z
      · exact .inr ⟨b, h1, .inr (by rw [e]; exact List.mem_cons_self)⟩
      · exact .inr ⟨b, h1, .inl z⟩
    · exact .inr ⟨b, h1, .inr (List.mem_cons_of_mem _ h2)⟩
theorem nodup_le : ∀ {n : Nat} {F : List Nat}, F.Nodup → (∀ m ∈ F, 200 ≤ m ∧ m < 200 + n) → F.length ≤ n
  | 0, F, _, hb => by
    cases F with
    | nil => exact Nat.le_refl _
    | cons m r => have := hb m List.mem_cons_self; omega
  | n + 1, F, hn, hb => by
    have h := nodup_le (n := n) (F := F.erase (200 + n)) (hn.erase _) (fun m hm => by
      have h1 := (hn.mem_erase_iff).mp hm
      have h2 := hb m h1.2
      have h3 := h1.1
      omega)
    have := List.length_erase (a := 200 + n) (l := F)
    split at this <;> omega
end Tw

set_option Elab.async false
set_option linter.all false
set_option maxRecDepth 100000
set_option maxHeartbeats 2000000
namespace Tw
open PySem PySem.Spec PyProof.Rows L2
theorem letAt_low {d c : Nat} (hd : d ≤ 24) (hc : 97 ≤ c ∧ c ≤ 122) : 97 ≤ letAt d c ∧ letAt d c ≤ 122 := by
  unfold letAt
  split <;> omega
theorem Given.zero {z : List Nat × List Nat} {o ds : List Nat} (ho : Low o) (hd : ∀ d ∈ ds, d ≤ 24) : Given z o ds 0 := by
  refine ⟨fun m hm => ?_, ⟨[], List.nodup_nil, (fun m hm => by cases hm), (fun m hm => ⟨fun h => ?_, (fun h => by cases h)⟩), by simp [upN]⟩, fun q hq => ?_, hd⟩
  · rcases hm with hm | hm
    · exact initM_all o m hm
    · cases hm
  · obtain ⟨c, hc⟩ := Option.isSome_iff_exists.mp h
    have := initM_diag o _ (lookM_mem hc)
    have := ho m this.2
    omega
  · have := initM_diag o q hq
    rw [← this.1]
    exact ho _ this.2
theorem Given.next {z : List Nat × List Nat} {o ds : List Nat} {i m : Nat} (G : Given z o ds i) (W : WfS o z) (hk : okM z) (hl : ds.length = z.2.length) (hm : z.1[i]? = some m) (hn : lookM (upN z o ds i).1 m = none) :
    200 ≤ m ∧ ∃ d b c, (upN z o ds i).2 = (upN z o ds i).2.dropLast ++ [d] ∧ d ≤ 24 ∧ z.2[m - 200]? = some b ∧ lookM (upN z o ds i).1 b = some c ∧ (97 ≤ c ∧ c ≤ 122) ∧ upN z o ds (i + 1) = ((upN z o ds i).1 ++ [(m, letAt d c)], (upN z o ds i).2.dropLast) := by
  have no : ¬ (lookM (upN z o ds i).1 m).isSome = true := by rw [hn]; decide
  have mem := List.mem_of_getElem? hm
  have h200 : 200 ≤ m := by
    by_cases h : 200 ≤ m
    · exact h
    · exact absurd (G.all m (.inl (W.let_ m mem (by omega)))) no
  refine ⟨h200, ?_⟩
  obtain ⟨F, f1, f2, f3, f4⟩ := G.fr
  have mF : m ∉ F := fun h => no ((f3 m h200).mpr h)
  have lt := hk m mem
  have le := nodup_le (n := z.2.length) (F := m :: F) (List.nodup_cons.mpr ⟨mF, f1⟩) (fun x hx => by
    rcases List.mem_cons.mp hx with e | hx
    · rw [e]; exact ⟨h200, lt⟩
    · exact f2 x hx)
  rw [List.length_cons] at le
  have ne : (upN z o ds i).2 ≠ [] := fun h => by rw [h] at f4; simp at f4; omega
  have dl := (List.dropLast_concat_getLast ne).symm
  obtain ⟨b, hb, hbs⟩ : ∃ b, z.2[m - 200]? = some b ∧ b ∈ z.1.take i := by
    rcases ordW_at z.1 [] i m W.ord hm h200 with (h | h) | ⟨b, h1, h2 | h2⟩
    · cases h
    · exact absurd (G.all m (.inr h)) no
    · cases h2
    · exact ⟨b, h1, h2⟩
  obtain ⟨c, hc⟩ := Option.isSome_iff_exists.mp (G.all b (.inr hbs))
  refine ⟨(upN z o ds i).2.getLast ne, b, c, dl, G.dig _ (List.getLast_mem ne), hb, hc, G.low _ (lookM_mem hc), ?_⟩
  rw [upN_succ hm, stepN, if_neg no]
  have e1 : (upN z o ds i).2.getLastD 0 = (upN z o ds i).2.getLast ne := by
    rw [List.getLastD_eq_getLast?, List.getLast?_eq_some_getLast ne]; rfl
  have e2 : z.2.getD (m - 200) 0 = b := by rw [List.getD_eq_getElem?_getD, hb]; rfl
  rw [e1, e2, hc]
  rfl
theorem Given.step {z : List Nat × List Nat} {o ds : List Nat} {i m : Nat} (G : Given z o ds i) (W : WfS o z) (hk : okM z) (hl : ds.length = z.2.length) (hm : z.1[i]? = some m) : Given z o ds (i + 1) := by
  have tk : z.1.take (i + 1) = z.1.take i ++ [m] := by rw [List.take_add_one, hm]; rfl
  have mem := List.mem_of_getElem? hm
  cases h : lookM (upN z o ds i).1 m with
  | some c =>
    have is : (lookM (upN z o ds i).1 m).isSome = true := by rw [h]; rfl
    have e : upN z o ds (i + 1) = upN z o ds i := by rw [upN_succ hm, stepN, if_pos is]
    refine ⟨fun x hx => ?_, ?_, ?_, ?_⟩
    · rw [e]
      rw [tk, List.mem_append] at hx
      rcases hx with hx | hx | hx
      · exact G.all x (.inl hx)
      · exact G.all x (.inr hx)
      · rw [List.mem_singleton.mp hx]; exact is
    · rw [e]; exact G.fr
    · rw [e]; exact G.low
    · rw [e]; exact G.dig
  | none =>
    obtain ⟨h200, d, b, c, dl, d24, hb, hc, clow, e⟩ := G.next W hk hl hm h
    obtain ⟨F, f1, f2, f3, f4⟩ := G.fr
    have no : ¬ (lookM (upN z o ds i).1 m).isSome = true := by rw [h]; decide
    have mF : m ∉ F := fun x => no ((f3 m h200).mpr x)
    have look : ∀ x, (lookM (upN z o ds (i + 1)).1 x).isSome = true ↔ ((lookM (upN z o ds i).1 x).isSome = true ∨ x = m) := fun x => by
      rw [e]
      show (lookM ((upN z o ds i).1 ++ [(m, letAt d c)]) x).isSome = true ↔ _
      rw [lookM_app, lookM_one]
      by_cases hx : m = x
      · rw [if_pos hx]
        refine ⟨fun _ => .inr hx.symm, fun _ => by cases lookM (upN z o ds i).1 x <;> rfl⟩
      · rw [if_neg hx, Option.or_none]
        exact ⟨.inl, fun y => y.elim id fun y => absurd y.symm hx⟩
    refine ⟨fun x hx => ?_, ⟨m :: F, List.nodup_cons.mpr ⟨mF, f1⟩, fun x hx => ?_, fun x hx => ?_, ?_⟩, fun q hq => ?_, fun x hx => ?_⟩
    · rw [look]
      rw [tk, List.mem_append] at hx
      rcases hx with hx | hx | hx
      · exact .inl (G.all x (.inl hx))
      · exact .inl (G.all x (.inr hx))
      · exact .inr (List.mem_singleton.mp hx)
    · rcases List.mem_cons.mp hx with e | hx
      · rw [e]; exact ⟨h200, hk m mem⟩
      · exact f2 x hx
    · rw [look, f3 x hx, List.mem_cons]
      exact ⟨fun y => y.elim .inr .inl, fun y => y.elim .inr .inl⟩
    · rw [e, List.length_cons]
      have l1 := congrArg List.length dl
      rw [List.length_append] at l1
      have l2 : ([d] : List Nat).length = 1 := rfl
      show F.length + 1 + (upN z o ds i).2.dropLast.length = _
      omega
    · rw [e] at hq
      rcases List.mem_append.mp hq with hq | hq
      · exact G.low q hq
      · rw [List.mem_singleton.mp hq]
        exact letAt_low d24 clow
    · rw [e] at hx
      exact G.dig x (by rw [dl]; exact List.mem_append_left _ hx)
theorem Given.last {z : List Nat × List Nat} {o ds : List Nat} (G : Given z o ds z.1.length) : ∀ m ∈ z.1, ∃ c, lookM (asgN z o ds).1 m = some c ∧ 97 ≤ c ∧ c ≤ 122 := fun m hm => by
  have e : upN z o ds z.1.length = asgN z o ds := by unfold upN asgN; rw [List.take_length]
  have h := G.all m (.inr (by rw [List.take_length]; exact hm))
  rw [e] at h
  obtain ⟨c, hc⟩ := Option.isSome_iff_exists.mp h
  exact ⟨c, hc, G.low (m, c) (by rw [e]; exact lookM_mem hc)⟩
theorem digs_len : ∀ (c n b : Nat), (digs n b c).length = c
  | 0, _, _ => rfl
  | c + 1, n, b => by rw [digs, List.length_cons, digs_len c]
theorem digs_le : ∀ (c n b : Nat), 0 < b → ∀ d ∈ digs n b c, d < b
  | 0, _, _, _ => fun d h => by cases h
  | c + 1, n, b, hb => fun d h => by
    rw [digs] at h
    rcases List.mem_cons.mp h with e | h
    · rw [e]; exact Nat.mod_lt _ hb
    · exact digs_le c _ b hb d h
/-! promises -/
def okK (k : Int) (c : Nat) : Bool := decide ((c : Int) - 97 < k)
def spGrow (K : PySem.W.Frag) : Sp := fun vs H Q _ => ∃ (p : List Nat) (t : Addr) (n e : Nat), vs = [.str (mk p), .ref t] ∧ (Pipe p ∧ p.length ≤ 1000000) ∧ SqT K H t [V.int (n : Nat), V.int (e : Nat)] ∧
  ∀ H' r, Same H H' → H r = none → H' r = some (.tup [V.int ((growS p (n, e)).1 : Nat), V.int ((growS p (n, e)).2 : Nat)]) → Q (.ref r) H'
def spKinds (C0 C2 : Addr) : Sp := fun vs H Q E => ∃ (k : Int) (l : List Nat), vs = [.int k, .str (mk l)] ∧ l.length ≤ 1000000 ∧ (2 ≤ k → k ≤ 26 → bad (okK k) l = none → ∀ H', Same H H' → Q .non H') ∧ (k < 2 ∨ 26 < k → RzV C2 (.int k) H E) ∧
  (2 ≤ k → k ≤ 26 → ∀ i, bad (okK k) l = some i → Rz C0 i H E)
def spLeastX (C0 C1 : Addr) : Sp := fun vs H Q E => ∃ p l : List Nat, vs = [.str (mk p), .str (mk l)] ∧ p.length ≤ 1000 ∧ l.length ≤ 1000 ∧
  (bad okP p = none → bad okL l = none → ∀ H' r, Same H H' → H r = none → H' r = some (.tup [V.int ((growS p (sizeS l)).1 : Nat), V.int ((growS p (sizeS l)).2 : Nat)]) → Q (.ref r) H') ∧
  (∀ i, bad okP p = some i → Rz C1 i H E) ∧ (bad okP p = none → ∀ i, bad okL l = some i → Rz C0 i H E)
def spCntFree : Sp := fun vs H Q _ => ∃ (d : Addr) (bs : List Nat) (k : Int), vs = [.ref d, .int k] ∧ H d = some (.dK (barK bs)) ∧ bs.length ≤ 100000 ∧ 2 ≤ k ∧ k ≤ 26 ∧ ∀ H', Same H H' → Q (.int ((k - 1) ^ bs.length)) H'
def spLetAt : Sp := fun vs H Q _ => ∃ (j c : Nat), vs = [.int (j : Nat), .str (mk [c])] ∧ j ≤ 24 ∧ Q (.str (mk [letAt j c])) H
def spDigs : Sp := fun vs H Q _ => ∃ (n b c : Nat), vs = [.int (n : Nat), .int (b : Nat), .int (c : Nat)] ∧ 0 < b ∧ b ≤ 25 ∧ c ≤ 100000 ∧ ∀ H' p, Same H H' → H p = none → H' p = some (.lst ((digs n b c).map fun x => V.int (x : Nat))) → Q (.ref p) H'
def spNthX (C0 C1 C2 : Addr) : Sp := fun vs H Q E => ∃ (p o : List Nat) (k n : Int), vs = [.str (mk p), .str (mk o), .int k, .int n] ∧ p.length ≤ 1000 ∧ o.length ≤ 1000 ∧ (bad okP p = none → bad okL o = none → (growS p (sizeS o)).1 ≤ 100000) ∧
  (∀ i, bad okP p = some i → Rz C1 i H E) ∧ (bad okP p = none → ∀ i, bad okL o = some i → Rz C0 i H E) ∧
  (bad okP p = none → bad okL o = none → (k < 2 ∨ 26 < k → RzV C2 (.int k) H E) ∧ (2 ≤ k → k ≤ 26 → (∀ i, bad (okK k) o = some i → Rz C0 i H E) ∧ (bad (okK k) o = none →
    (n < 0 ∨ (k - 1) ^ (shapeOf p o).2.length ≤ n → RzV C2 (.int n) H E) ∧ (0 ≤ n → n < (k - 1) ^ (shapeOf p o).2.length → ∀ H', Same H H' → Q (.str (mk (nthRow p o k.toNat n.toNat))) H'))))
theorem dc_it {J : It} {n : Nat} {G : Hp → Prop} {Y : Nat → Hp → V → Hp → Prop} (w : Walk J n G Y) {g : TG} {tt : TT} {tk tv : TE} {vs : List Nat} {σ : L2.St} {H1 : Hp} {D : Addr} {Qd : Hp → Prop} (Pv : Nat → Hp → Prop) (h0 : Pv 0 (upd H1 D (.dK []))) (hG : ∀ i H, i ≤ n → Pv i H → G H)
    (hs : ∀ i x H H', i < n → Pv i H → Y i H x H' → g x (wipe σ vs) H' fun σ2 H2 => wipe σ2 vs = wipe σ vs ∧ tt σ2 H2 fun b H3 =>
      if b = true then tk σ2 H3 fun y H4 => tv σ2 H4 fun z H5 => ∃ kvs k, y = kV k ∧ H5 D = some (.dK kvs) ∧ kvs.length < sizeLine ∧ Pv (i + 1) (upd H5 D (.dK (putK kvs k z))) else Pv (i + 1) H3) (hd : ∀ H, Pv n H → Qd H) :
    ∃ W : Nat → Nat → Hp → Prop, (∃ m, W 0 m (upd H1 D (.dK []))) ∧ ∀ i m H, W i m H →
      (J.stop i H ∧ Qd H) ∨ (J.go i H ∧ ∃ Nx : Hp → Prop, (∀ H', Nx H' → ∃ m', m' < m ∧ W (i + 1) m' H') ∧ ∀ x H', J.yld i H x H' → g x (wipe σ vs) H' fun σ2 H2 => wipe σ2 vs = wipe σ vs ∧ tt σ2 H2 fun b H3 =>
        if b = true then tk σ2 H3 fun y H4 => tv σ2 H4 fun z H5 => ∃ kvs k, y = kV k ∧ H5 D = some (.dK kvs) ∧ kvs.length < sizeLine ∧ Nx (upd H5 D (.dK (putK kvs k z))) else Nx H3) := by
  refine ⟨fun i m H => m = n - i ∧ i ≤ n ∧ Pv i H, ⟨n, by simp, Nat.zero_le _, h0⟩, ?_⟩
  rintro i m H ⟨rfl, hi, p⟩
  have q := hG i H hi p
  by_cases hlt : i < n
  · exact .inr ⟨w.goes i H hlt q, Pv (i + 1), fun H' p' => ⟨n - (i + 1), by omega, rfl, hlt, p'⟩, fun x H' y => hs i x H H' hlt p (w.yields i H x H' hlt q y)⟩
  · have e : i = n := by omega
    subst e
    exact .inl ⟨w.stops H q, hd H p⟩
theorem asg_get {H : Hp} {L : Addr} {a : List (Nat × Nat)} (h : H L = some (.dK (asgK a))) (m : Nat) : DGet H L (mV m) ((lookM a m).map fun c => V.str (mk [c])) := by
  have e := DGet.k (k := mKy m) h
  rw [asgK_val, kV_mKy] at e
  exact e
theorem bar_get {H : Hp} {d : Addr} {bs : List Nat} (h : H d = some (.dK (barK bs))) (k : Nat) : DGet H d (mV (200 + k)) ((bs[k]?).map mV) := by
  have e := DGet.k (k := .inl ((k : Nat) : Int)) h
  rw [barK_val] at e
  rw [mV_free]
  exact e
theorem asg_put {H : Hp} {L : Addr} {a : List (Nat × Nat)} {m : Nat} (h : H L = some (.dK (asgK a))) (hl : a.length ≤ 1000000) (hn : lookM a m = none) (c : Nat) : DPut H L (mV m) (.str (mk [c])) (upd H L (.dK (asgK (a ++ [(m, c)])))) := by
  have e := DPut.k (k := mKy m) (v := .str (mk [c])) h (by unfold asgK; rw [List.length_map]; exact line_of hl)
  rw [asgK_put hn, kV_mKy] at e
  exact e
theorem asgK_init {a : List (Nat × Nat)} (hd : ∀ q ∈ a, q.1 = q.2) {c : Nat} (hc : c < 200) : putK (asgK a) (.inr (mk [c])) (.str (mk [c])) = asgK (addI a c) := by
  have ek : (Sum.inr (mk [c]) : L2.Key) = mKy c := (if_pos hc).symm
  rw [ek]
  unfold addI
  by_cases h : (lookM a c).isSome = true
  · rw [if_pos h]
    unfold putK
    rw [valV_any, asgK_val, Option.isSome_map, if_pos h]
    unfold asgK
    rw [List.map_map]
    refine List.map_congr_left fun q hq => ?_
    show (if mKy q.1 = mKy c then _ else _) = _
    by_cases e : q.1 = c
    · rw [if_pos (by rw [e])]
      show (mKy q.1, V.str (mk [c])) = (mKy q.1, V.str (mk [q.2]))
      rw [← e, hd q hq]
    · rw [if_neg (fun z => e (mKy_inj.mp z))]
  · rw [if_neg h]
    refine asgK_put ?_
    cases e : lookM a c with
    | none => rfl
    | some y => rw [e] at h; exact absurd rfl h
theorem addI_diag {a : List (Nat × Nat)} (hd : ∀ q ∈ a, q.1 = q.2) (c : Nat) : ∀ q ∈ addI a c, q.1 = q.2 := by
  unfold addI
  split
  · exact hd
  · intro q hq
    rcases List.mem_append.mp hq with hq | hq
    · exact hd q hq
    · rw [List.mem_singleton.mp hq]
theorem initM_take {o : List Nat} {i c : Nat} (h : o[i]? = some c) : (o.take (i + 1)).foldl addI [] = addI ((o.take i).foldl addI []) c := by
  rw [List.take_add_one, h, List.foldl_append]
  rfl
theorem initM_len (o : List Nat) : (initM o).length ≤ o.length := by
  have main : ∀ (l : List Nat) (a : List (Nat × Nat)), (l.foldl addI a).length ≤ a.length + l.length := by
    intro l
    induction l with
    | nil => exact fun _ => Nat.le_refl _
    | cons c l ih =>
      intro a
      rw [List.foldl_cons, List.length_cons]
      have := ih (addI a c)
      have h2 : (addI a c).length ≤ a.length + 1 := by
        unfold addI
        split
        · omega
        · rw [List.length_append]; simp
      omega
  have := main o []
  rw [List.length_nil, Nat.zero_add] at this
  exact this
theorem initM_diag' (o : List Nat) (i : Nat) : ∀ q ∈ (o.take i).foldl addI [], q.1 = q.2 := fun q hq => (initM_diag (o.take i) q hq).1
theorem upN_len (z : List Nat × List Nat) (o ds : List Nat) : ∀ i, (upN z o ds i).1.length ≤ o.length + i := fun i => by
  have main : ∀ (l : List Nat) (a : List (Nat × Nat) × List Nat), (l.foldl (stepN z.2) a).1.length ≤ a.1.length + l.length := by
    intro l
    induction l with
    | nil => exact fun _ => Nat.le_refl _
    | cons c l ih =>
      intro a
      rw [List.foldl_cons, List.length_cons]
      have := ih (stepN z.2 a c)
      have h2 : (stepN z.2 a c).1.length ≤ a.1.length + 1 := by
        unfold stepN
        split
        · omega
        · rw [List.length_append]; simp
      omega
  have h1 := main (z.1.take i) (initM o, ds)
  have h2 := initM_len o
  have h3 : (z.1.take i).length ≤ i := by rw [List.length_take]; omega
  show ((z.1.take i).foldl (stepN z.2) (initM o, ds)).1.length ≤ _
  have h4 : (initM o, ds).1.length = (initM o).length := rfl
  omega
theorem sign_T {c : Nat} : decide (V.str (mk [c]) = V.str "T") = decide (c = 84) := by
  rw [str_T]
  exact decide_eq_decide.mpr eq_mk1
theorem letters_eq : (Str.ofString "abcdefghijklmnopqrstuvwxyz").cps.toList = (List.range 26).map (· + 97) := by decide +kernel
theorem letters_len : (Str.ofString "abcdefghijklmnopqrstuvwxyz").length = 26 := by decide +kernel
theorem ord_one (c : Nat) : ((mk [c]).cps.getD 0 0) = c := rfl
end Tw

set_option Elab.async false
set_option linter.all false
set_option maxRecDepth 100000
set_option maxHeartbeats 2000000
namespace Tw
/-! the sieves lead a shape back -/
theorem pend_goT : ∀ (r : List Nat) (m n : Nat), below n (m :: r) → pend true true m (goT (some m) r n) = m :: r
  | [], m, n, _ => rfl
  | x :: r, m, n, hb => by
    have hm := hb m List.mem_cons_self
    have hr : below n (x :: r) := fun y hy => hb y (List.mem_cons_of_mem _ hy)
    rw [goT]
    by_cases h : (some m : Option Nat) = some x
    · have e := Option.some.inj h
      subst e
      rw [if_pos rfl]
      have ne : ¬ 200 + n = m := by omega
      have ne2 : ¬ m = 200 + n := by omega
      rw [pend, if_neg ne, if_pos rfl, pend, if_neg ne2, if_neg (by decide), pend, if_pos rfl, pend_goT r m (n + 1) (below_mono hr (by omega))]
      rfl
    · have ne : ¬ x = m := fun z => h (by rw [z])
      rw [if_neg h, pend, if_neg ne, if_pos rfl, pend, if_pos rfl, pend_goT r x n hr]
      rfl
theorem once_goT (ms : List Nat) (n : Nat) (hb : below n ms) : once true (goT none ms n) = ms := by
  cases ms with
  | nil => rfl
  | cons m r =>
    rw [goT, if_neg (by simp), once_cons, pend, if_pos rfl]
    exact pend_goT r m n hb
/-- c sieves S of d still to come -/
def goX (c d : Nat) : Option Nat → List Nat → Nat → List Nat
  | _, [], _ => []
  | p, m :: r, n => if p = some m then hh n c ++ m :: goX c d (some m) r (n + d) else m :: goX c d (some m) r n
theorem goX_S (c : Nat) : ∀ (ms : List Nat) (p : Option Nat) (n : Nat), goX c c p ms n = goS c p ms n
  | [], _, _ => rfl
  | m :: r, p, n => by rw [goX, goS, goX_S c r, goX_S c r]
theorem goX_0 (d : Nat) : ∀ (ms : List Nat) (p : Option Nat) (n : Nat), goX 0 d p ms n = ms
  | [], _, _ => rfl
  | m :: r, p, n => by
    rw [goX, goX_0 d r, goX_0 d r]
    split <;> rfl
theorem pend_hh : ∀ (c n m : Nat) (t : List Nat), m < 200 + n → pend false false m (hh n (c + 1) ++ m :: t) = m :: (hh n c ++ pend false false m t)
  | 0, n, m, t, hm => by
    have ne : ¬ 200 + n = m := by omega
    have ne2 : ¬ m = 200 + n := by omega
    have e : hh n 1 ++ m :: t = (200 + n) :: (200 + n) :: m :: t := by rw [hh_front]; rfl
    rw [e, pend, if_neg ne, if_pos rfl, pend, if_pos rfl, pend, if_neg ne2, if_neg (by decide)]
    rfl
  | c + 1, n, m, t, hm => by
    have ne : ¬ 200 + n = m := by omega
    have ne2 : ¬ m = 200 + n := by omega
    rw [hh_front, pend, if_neg ne, if_pos rfl, pend_hh c (n + 1) (200 + n) (m :: t) (by omega), pend, if_neg ne2, if_pos rfl, hh_front]
    rfl
theorem pend_goX (c d : Nat) (hd : c + 1 ≤ d) : ∀ (r : List Nat) (m n : Nat), below n (m :: r) → pend false false m (goX (c + 1) d (some m) r n) = m :: goX c d (some m) r n
  | [], m, n, _ => rfl
  | x :: r, m, n, hb => by
    have hm := hb m List.mem_cons_self
    have hr : below n (x :: r) := fun y hy => hb y (List.mem_cons_of_mem _ hy)
    rw [goX, goX]
    by_cases h : (some m : Option Nat) = some x
    · have e := Option.some.inj h
      subst e
      rw [if_pos rfl, if_pos rfl, pend_hh c n m _ hm, pend_goX c d hd r m (n + d) (below_mono hr (by omega))]
    · have ne : ¬ x = m := fun z => h (by rw [z])
      rw [if_neg h, if_neg h, pend, if_neg ne, if_pos rfl, pend_goX c d hd r x n hr]
      rfl
theorem once_goX (c d : Nat) (hd : c + 1 ≤ d) (ms : List Nat) (n : Nat) (hb : below n ms) : once false (goX (c + 1) d none ms n) = goX c d none ms n := by
  cases ms with
  | nil => rfl
  | cons m r =>
    rw [goX, goX, if_neg (by simp), if_neg (by simp), once_cons]
    exact pend_goX c d hd r m n hb
/-! .. also with letters for the marks, where different neighbours stay different -/
def adjO (R : Nat → Nat → Prop) : Option Nat → List Nat → Prop
  | _, [] => True
  | p, m :: r => (∀ q, p = some q → q ≠ m → R q m) ∧ adjO R (some m) r
def Dif (f : Nat → Nat) (a b : Nat) : Prop := f a ≠ f b
theorem pend_map (f : Nat → Nat) (t : Bool) : ∀ (l : List Nat) (b : Bool) (c : Nat), adjO (Dif f) (some c) l → pend t b (f c) (l.map f) = (pend t b c l).map f
  | [], b, c, _ => by
    rw [List.map_nil, pend, pend]
    split <;> rfl
  | d :: l, b, c, h => by
    rw [List.map_cons, pend, pend]
    by_cases e : d = c
    · subst e
      rw [if_pos rfl, if_pos rfl]
      exact pend_map f t l true d h.2
    · have ne : ¬ f d = f c := fun z => h.1 c rfl (fun y => e y.symm) z.symm
      rw [if_neg e, if_neg ne, pend_map f t l false d h.2, List.map_append]
      split <;> rfl
theorem once_map (f : Nat → Nat) (t : Bool) (l : List Nat) (h : adjO (Dif f) none l) : once t (l.map f) = (once t l).map f := by
  cases l with
  | nil => rfl
  | cons c l =>
    rw [List.map_cons, once_cons, once_cons]
    exact pend_map f t l false c h.2
theorem pairsF_map (f : Nat → Nat) : ∀ (l : List Nat) (c : Nat), adjO (Dif f) (some c) l → pairsF (f c) (l.map f) = pairsF c l
  | [], _, _ => rfl
  | d :: l, c, h => by
    rw [List.map_cons, pairsF, pairsF, pairsF_map f l d h.2]
    by_cases e : c = d
    · rw [e, if_pos rfl, if_pos rfl]
    · rw [if_neg e, if_neg (h.1 c rfl e)]
theorem pairs_map (f : Nat → Nat) (l : List Nat) (h : adjO (Dif f) none l) : pairs (l.map f) = pairs l := by
  rw [pairs_R, pairs_R]
  cases l with
  | nil => rfl
  | cons c l => rw [List.map_cons, pairsR_cons, pairsR_cons]; exact pairsF_map f l c h.2
theorem adj_goT {R : Nat → Nat → Prop} : ∀ (ms : List Nat) (p : Option Nat) (n : Nat), adjO R p (goT p ms n) → adjO R p ms
  | [], _, _, _ => trivial
  | m :: r, p, n, h => by
    rw [goT] at h
    by_cases e : p = some m
    · rw [if_pos e] at h
      exact ⟨fun q hq hne => absurd (Option.some.inj (hq.symm.trans e)) hne, adj_goT r (some m) (n + 1) h.2.2.2⟩
    · rw [if_neg e] at h
      exact ⟨h.1, adj_goT r (some m) n h.2.2⟩
theorem adj_hh {R : Nat → Nat → Prop} : ∀ (c n x : Nat) (t t' : List Nat), adjO R (some x) (hh n (c + 1) ++ x :: t) → (adjO R (some x) t → adjO R (some x) t') → adjO R (some x) (hh n c ++ x :: t')
  | 0, n, x, t, t', h, ht => by
    have e : hh n 1 ++ x :: t = (200 + n) :: (200 + n) :: x :: t := by rw [hh_front]; rfl
    rw [e] at h
    exact ⟨fun q hq hne => absurd (Option.some.inj hq).symm hne, ht h.2.2.2⟩
  | c + 1, n, x, t, t', h, ht => by
    rw [hh_front] at h ⊢
    exact ⟨h.1, adj_hh c (n + 1) (200 + n) (x :: t) (x :: t') h.2 fun z => ⟨z.1, ht z.2⟩⟩
theorem adj_goX {R : Nat → Nat → Prop} (c d : Nat) : ∀ (ms : List Nat) (p : Option Nat) (n : Nat), adjO R p (goX (c + 1) d p ms n) → adjO R p (goX c d p ms n)
  | [], _, _, _ => trivial
  | m :: r, p, n, h => by
    rw [goX] at h ⊢
    by_cases e : p = some m
    · rw [if_pos e] at h ⊢
      rw [e] at h ⊢
      exact adj_hh c n m _ _ h fun z => adj_goX c d r (some m) (n + d) z
    · rw [if_neg e] at h ⊢
      exact ⟨h.1, adj_goX c d r (some m) n h.2⟩
theorem sv_app (l p q : List Nat) : sv l (p ++ q) = sv (sv l p) q := by unfold sv; rw [List.foldl_append]
theorem sv_goX (f : Nat → Nat) (d : Nat) (ms : List Nat) (n : Nat) (hb : below n ms) : ∀ c, c ≤ d → adjO (Dif f) none (goX c d none ms n) → sv ((goX c d none ms n).map f) (List.replicate c 83) = ms.map f ∧ adjO (Dif f) none ms
  | 0, _, h => by rw [goX_0] at h ⊢; exact ⟨rfl, h⟩
  | c + 1, hd, h => by
    have h2 := adj_goX c d ms none n h
    rw [List.replicate_succ, sv_cons, show ((83 : Nat) == 84) = false from rfl, once_map f false _ h, once_goX c d hd ms n hb]
    exact sv_goX f d ms n hb c (by omega) h2
theorem sv_many (f : Nat → Nat) {z : List Nat × List Nat} (hz : okM z) : ∀ c, adjO (Dif f) none (manyT c z).1 → sv ((manyT c z).1.map f) (List.replicate c 84) = z.1.map f ∧ adjO (Dif f) none z.1
  | 0, h => ⟨rfl, h⟩
  | c + 1, h => by
    have hk := (manyT_size hz c).2
    rw [manyT_succ] at h ⊢
    have h2 : adjO (Dif f) none (manyT c z).1 := adj_goT _ _ _ h
    rw [List.replicate_succ, sv_cons, show ((84 : Nat) == 84) = true from rfl, once_map f true _ h]
    show sv ((once true (goT none (manyT c z).1 (manyT c z).2.length)).map f) _ = _ ∧ _
    rw [once_goT _ _ hk]
    exact sv_many f hz c h2
theorem sv_shapeR (f : Nat → Nat) {o : List Nat} (ho : ∀ c ∈ o, c < 200) : ∀ rs : List (Nat × Nat), (∀ q ∈ rs, q.1 = 84 ∨ q.1 = 83) → adjO (Dif f) none (shapeR o rs.reverse).1 → sv ((shapeR o rs.reverse).1.map f) (rs.flatMap fun q => List.replicate q.2 q.1) = o.map f
  | [], _, _ => rfl
  | q :: rs, hq, h => by
    have hq1 := hq q List.mem_cons_self
    have hq2 : ∀ x ∈ rs, x.1 = 84 ∨ x.1 = 83 := fun x hx => hq x (List.mem_cons_of_mem _ hx)
    have e : shapeR o (q :: rs).reverse = stepR (shapeR o rs.reverse) q := by
      unfold shapeR
      rw [List.reverse_cons, List.foldl_append]
      rfl
    have ok := (Shp.run ho rs.reverse fun x hx => hq2 x (List.mem_reverse.mp hx)).ok
    rw [e] at h ⊢
    rw [List.flatMap_cons, sv_app]
    have ih := sv_shapeR f ho rs hq2
    generalize shapeR o rs.reverse = z at *
    unfold stepR at h ⊢
    rcases hq1 with e1 | e1
    · rw [e1, if_neg (by decide)] at h ⊢
      obtain ⟨h1, h2⟩ := sv_many f ok q.2 h
      rw [h1]
      exact ih h2
    · rw [e1, if_pos rfl] at h ⊢
      have hx : (stS q.2 z.1 z.2).1 = goX q.2 q.2 none z.1 z.2.length := (goX_S _ _ _ _).symm
      rw [hx] at h ⊢
      obtain ⟨h1, h2⟩ := sv_goX f q.2 z.1 z.2.length ok q.2 (Nat.le_refl _) h
      rw [h1]
      exact ih h2
theorem sv_shape (f : Nat → Nat) {p o : List Nat} (hp : Pipe p) (ho : ∀ c ∈ o, c < 200) (h : adjO (Dif f) none (shapeOf p o).1) : sv ((shapeOf p o).1.map f) p = o.map f := by
  have := sv_shapeR f ho (runs p) (runs_heads hp) h
  rw [flat_runs] at this
  exact this
/-! which marks are neighbours -/
def Adj (bs : List Nat) (a b : Nat) : Prop := (a < 200 ∧ b < 200) ∨ (200 ≤ a ∧ bs[a - 200]? = some b) ∨ (200 ≤ b ∧ bs[b - 200]? = some a)
theorem Adj.mono {bs B : List Nat} (he : ext bs B) {a b : Nat} (h : Adj bs a b) : Adj B a b := by
  rcases h with h | ⟨h1, h2⟩ | ⟨h1, h2⟩
  · exact .inl h
  · exact .inr (.inl ⟨h1, he _ _ h2⟩)
  · exact .inr (.inr ⟨h1, he _ _ h2⟩)
theorem Adj.fr {B : List Nat} {n x : Nat} (h : B[n]? = some x) : Adj B x (200 + n) ∧ Adj B (200 + n) x :=
  ⟨.inr (.inr ⟨by omega, by rw [Nat.add_sub_cancel_left]; exact h⟩), .inr (.inl ⟨by omega, by rw [Nat.add_sub_cancel_left]; exact h⟩)⟩
theorem Adj_goT {bs B : List Nat} (he : ext bs B) : ∀ (ms : List Nat) (p : Option Nat) (n : Nat), adjO (Adj bs) p ms → (∀ (j b : Nat), (bsT p ms)[j]? = some b → B[n + j]? = some b) → adjO (Adj B) p (goT p ms n)
  | [], _, _, _, _ => trivial
  | m :: r, p, n, h, hB => by
    rw [goT]
    rw [bsT] at hB
    by_cases e : p = some m
    · rw [if_pos e] at hB ⊢
      have h0 : B[n]? = some m := hB 0 m rfl
      obtain ⟨f1, f2⟩ := Adj.fr h0
      refine ⟨fun q hq _ => ?_, fun q hq _ => ?_, fun q hq hne => absurd (Option.some.inj hq).symm hne, Adj_goT he r (some m) (n + 1) h.2 fun j b hb => ?_⟩
      · rw [Option.some.inj (hq.symm.trans e)]; exact f1
      · rw [← Option.some.inj hq]; exact f2
      · have := hB (j + 1) b hb
        rw [show n + 1 + j = n + (j + 1) by omega]
        exact this
    · rw [if_neg e] at hB ⊢
      exact ⟨fun q hq hne => (h.1 q hq hne).mono he, fun q hq hne => absurd (Option.some.inj hq).symm hne, Adj_goT he r (some m) n h.2 hB⟩
theorem Adj_hh {B : List Nat} : ∀ (c n x : Nat) (t : List Nat), (∀ (j : Nat), j < c → B[n + j]? = some (if j = 0 then x else 200 + (n + (j - 1)))) → adjO (Adj B) (some x) t → adjO (Adj B) (some x) (hh n c ++ x :: t)
  | 0, n, x, t, _, ht => ⟨fun q hq hne => absurd (Option.some.inj hq).symm hne, ht⟩
  | c + 1, n, x, t, hB, ht => by
    have h0 : B[n]? = some x := hB 0 (by omega)
    obtain ⟨f1, f2⟩ := Adj.fr h0
    rw [hh_front]
    refine ⟨fun q hq _ => by rw [← Option.some.inj hq]; exact f1, Adj_hh c (n + 1) (200 + n) (x :: t) (fun j hj => ?_) ⟨fun q hq _ => by rw [← Option.some.inj hq]; exact f2, ht⟩⟩
    have := hB (j + 1) (by omega)
    rw [if_neg (Nat.succ_ne_zero j)] at this
    rw [show n + 1 + j = n + (j + 1) by omega, this]
    by_cases e : j = 0
    · rw [if_pos e, e]; rfl
    · rw [if_neg e]
      congr 2
      omega
theorem Adj_goS {bs B : List Nat} (c : Nat) (he : ext bs B) : ∀ (ms : List Nat) (p : Option Nat) (n : Nat), adjO (Adj bs) p ms → (∀ (j b : Nat), (bsS c p ms n)[j]? = some b → B[n + j]? = some b) → adjO (Adj B) p (goS c p ms n)
  | [], _, _, _, _ => trivial
  | m :: r, p, n, h, hB => by
    rw [goS]
    rw [bsS] at hB
    by_cases e : p = some m
    · rw [if_pos e] at hB ⊢
      rw [e]
      refine Adj_hh c n m _ (fun j hj => hB j _ ?_) (Adj_goS c he r (some m) (n + c) h.2 fun j b hb => ?_)
      · rw [List.getElem?_append_left (by rw [inners_len]; exact hj)]
        exact inners_at m n c j hj
      · have := hB (c + j) b (by rw [List.getElem?_append_right (by rw [inners_len]; omega), inners_len, Nat.add_sub_cancel_left]; exact hb)
        rw [show n + c + j = n + (c + j) by omega]
        exact this
    · rw [if_neg e] at hB ⊢
      exact ⟨fun q hq hne => (h.1 q hq hne).mono he, Adj_goS c he r (some m) n h.2 hB⟩
def AdjZ (z : List Nat × List Nat) : Prop := adjO (Adj z.2) none z.1
theorem AdjZ.t {z : List Nat × List Nat} (h : AdjZ z) : AdjZ (stT z.1 z.2) :=
  Adj_goT (ext_app _ _) z.1 none z.2.length h fun j b hb => by
    rw [List.getElem?_append_right (by omega), Nat.add_sub_cancel_left]
    exact hb
theorem AdjZ.s {z : List Nat × List Nat} (h : AdjZ z) (c : Nat) : AdjZ (stS c z.1 z.2) :=
  Adj_goS c (ext_app _ _) z.1 none z.2.length h fun j b hb => by
    rw [List.getElem?_append_right (by omega), Nat.add_sub_cancel_left]
    exact hb
theorem AdjZ.many {z : List Nat × List Nat} (h : AdjZ z) : ∀ c, AdjZ (manyT c z)
  | 0 => h
  | c + 1 => by rw [manyT_succ]; exact (h.many c).t
theorem AdjZ.run {o : List Nat} (ho : ∀ c ∈ o, c < 200) (rs : List (Nat × Nat)) : AdjZ (shapeR o rs) := by
  have main : ∀ (rs : List (Nat × Nat)) (z : List Nat × List Nat), AdjZ z → AdjZ (rs.foldl stepR z) := by
    intro rs
    induction rs with
    | nil => exact fun z h => h
    | cons q rs ih =>
      intro z h
      refine ih _ ?_
      unfold stepR
      split
      · exact h.s q.2
      · exact h.many q.2
  refine main rs (o, []) ?_
  have : ∀ (l : List Nat) (p : Option Nat), (∀ c ∈ l, c < 200) → (∀ q, p = some q → q < 200) → adjO (Adj []) p l := by
    intro l
    induction l with
    | nil => exact fun _ _ _ => trivial
    | cons c l ih => exact fun p h hp => ⟨fun q hq _ => .inl ⟨hp q hq, h c List.mem_cons_self⟩, ih _ (fun x hx => h x (List.mem_cons_of_mem _ hx)) fun q hq => by rw [← Option.some.inj hq]; exact h c List.mem_cons_self⟩
  exact this o none ho fun q hq => by cases hq
/-! the letters that are given out -/
structure Lets (bs o : List Nat) (a : List (Nat × Nat)) : Prop where
  self : ∀ m c, m < 200 → lookM a m = some c → c = m
  free : ∀ m x, 200 ≤ m → lookM a m = some x → ∃ b c d, bs[m - 200]? = some b ∧ lookM a b = some c ∧ x = letAt d c
theorem Lets.init {bs o : List Nat} (ho : ∀ c ∈ o, c < 200) : Lets bs o (initM o) := by
  refine ⟨fun m c hm h => ?_, fun m x hm h => ?_⟩
  · exact (initM_diag o _ (lookM_mem h)).1.symm
  · have := ho m (initM_diag o _ (lookM_mem h)).2
    omega
theorem lookM_keep {a : List (Nat × Nat)} {m c : Nat} (b : List (Nat × Nat)) (h : lookM a m = some c) : lookM (a ++ b) m = some c := by
  rw [lookM_app, h]; rfl
theorem letAt_ne (d c : Nat) : letAt d c ≠ c := by
  unfold letAt
  split <;> omega
theorem lets_run {z : List Nat × List Nat} {o ds : List Nat} (W : WfS o z) (hk : okM z) (hl : ds.length = z.2.length) (ho : Low o) (hd : ∀ d ∈ ds, d ≤ 24) : ∀ i, i ≤ z.1.length → Given z o ds i ∧ Lets z.2 o (upN z o ds i).1
  | 0, _ => ⟨Given.zero ho hd, Lets.init fun c hc => by have := ho c hc; omega⟩
  | i + 1, hi => by
    obtain ⟨G, L⟩ := lets_run W hk hl ho hd i (by omega)
    have hm : z.1[i]? = some z.1[i] := List.getElem?_eq_getElem (by omega)
    refine ⟨G.step W hk hl hm, ?_⟩
    cases h : lookM (upN z o ds i).1 z.1[i] with
    | some c =>
      have e : upN z o ds (i + 1) = upN z o ds i := by rw [upN_succ hm, stepN, if_pos (by rw [h]; rfl)]
      rw [e]
      exact L
    | none =>
      obtain ⟨h200, d, b, c, dl, d24, hb, hc, clow, e⟩ := G.next W hk hl hm h
      rw [e]
      generalize z.1[i] = m at *
      have look : ∀ x y, lookM ((upN z o ds i).1 ++ [(m, letAt d c)]) x = some y → lookM (upN z o ds i).1 x = some y ∨ (x = m ∧ y = letAt d c) := fun x y hx => by
        rw [lookM_app, lookM_one] at hx
        cases hy : lookM (upN z o ds i).1 x with
        | some w => rw [hy] at hx; exact .inl hx
        | none =>
          rw [hy] at hx
          by_cases e2 : m = x
          · rw [if_pos e2] at hx
            exact .inr ⟨e2.symm, (Option.some.inj hx).symm⟩
          · rw [if_neg e2] at hx; cases hx
      refine ⟨fun x y hx hy => ?_, fun x y hx hy => ?_⟩
      · rcases look x y hy with h1 | ⟨h1, _⟩
        · exact L.self x y hx h1
        · omega
      · rcases look x y hy with h1 | ⟨h1, h2⟩
        · obtain ⟨b2, c2, d2, q1, q2, q3⟩ := L.free x y hx h1
          exact ⟨b2, c2, d2, q1, lookM_keep _ q2, q3⟩
        · exact ⟨b, c, d, by rw [h1]; exact hb, lookM_keep _ hc, h2⟩
/-- what the row with a number is -/
structure NthOk (p o r : List Nat) : Prop where
  size : sizeS r = growS p (sizeS o)
  out : sv r p = o
  low : Low r
theorem nth_ok {p o ds : List Nat} (hp : Pipe p) (ho : Low o) (hl : ds.length = (shapeOf p o).2.length) (hd : ∀ d ∈ ds, d ≤ 24) : NthOk p o (rowN (shapeOf p o) o ds) := by
  have o200 : ∀ c ∈ o, c < 200 := fun c hc => by have := ho c hc; omega
  have W : WfS o (shapeOf p o) := WfS.run o200 _
  have S := Shp.run o200 (runs p).reverse (fun q hq => runs_heads hp q (List.mem_reverse.mp hq))
  rw [growR_eq] at S
  have S : Shp (shapeOf p o) (growS p (sizeS o)) := S
  have AZ : AdjZ (shapeOf p o) := AdjZ.run o200 _
  obtain ⟨G, L⟩ := lets_run W S.ok hl ho hd (shapeOf p o).1.length (Nat.le_refl _)
  have eN : upN (shapeOf p o) o ds (shapeOf p o).1.length = asgN (shapeOf p o) o ds := by unfold upN asgN; rw [List.take_length]
  rw [eN] at L
  have last := G.last
  -- neighbours stay apart
  have good : adjO (Dif fun m => (lookM (asgN (shapeOf p o) o ds).1 m).getD 0) none (shapeOf p o).1 := by
    have main : ∀ (l : List Nat) (q : Option Nat), (∀ m ∈ l, ∃ c, lookM (asgN (shapeOf p o) o ds).1 m = some c) → (∀ m, q = some m → ∃ c, lookM (asgN (shapeOf p o) o ds).1 m = some c) → adjO (Adj (shapeOf p o).2) q l → adjO (Dif fun m => (lookM (asgN (shapeOf p o) o ds).1 m).getD 0) q l := by
      intro l
      induction l with
      | nil => exact fun _ _ _ _ => trivial
      | cons m l ih =>
        intro q hm hq h
        have hmm := hm m List.mem_cons_self
        refine ⟨fun x hx hne => ?_, ih (some m) (fun y hy => hm y (List.mem_cons_of_mem _ hy)) (fun y hy => by rw [← Option.some.inj hy]; exact hmm) h.2⟩
        obtain ⟨cm, hcm⟩ := hmm
        obtain ⟨cx, hcx⟩ := hq x hx
        show (lookM _ x).getD 0 ≠ (lookM _ m).getD 0
        rw [hcx, hcm]
        show cx ≠ cm
        rcases h.1 x hx hne with ⟨h1, h2⟩ | ⟨h1, h2⟩ | ⟨h1, h2⟩
        · rw [L.self x cx h1 hcx, L.self m cm h2 hcm]; exact hne
        · obtain ⟨b, c, d, q1, q2, q3⟩ := L.free x cx h1 hcx
          rw [h2] at q1
          cases q1
          rw [hcm] at q2
          cases q2
          rw [q3]
          exact letAt_ne d cm
        · obtain ⟨b, c, d, q1, q2, q3⟩ := L.free m cm h1 hcm
          rw [h2] at q1
          cases q1
          rw [hcx] at q2
          cases q2
          rw [q3]
          exact fun z => letAt_ne d cx z.symm
    exact main _ none (fun m hm => by obtain ⟨c, hc, _⟩ := last m hm; exact ⟨c, hc⟩) (fun m hm => by cases hm) AZ
  refine ⟨?_, ?_, fun x hx => ?_⟩
  · rw [← S.size]
    show ((rowN (shapeOf p o) o ds).length, pairs (rowN (shapeOf p o) o ds)) = ((shapeOf p o).1.length, pairsO none (shapeOf p o).1)
    unfold rowN
    rw [List.length_map, pairs_map _ _ good, pairsO_S]
  · unfold rowN
    rw [sv_shape _ hp o200 good]
    have : ∀ c ∈ o, (lookM (asgN (shapeOf p o) o ds).1 c).getD 0 = c := fun c hc => by
      have h := G.all c (.inl hc)
      rw [eN] at h
      obtain ⟨y, hy⟩ := Option.isSome_iff_exists.mp h
      rw [hy]
      exact L.self c y (o200 c hc) hy
    rw [List.map_congr_left this, List.map_id']
  · unfold rowN at hx
    obtain ⟨m, hm, rfl⟩ := List.mem_map.mp hx
    obtain ⟨c, hc, h1⟩ := last m hm
    rw [hc]
    exact h1
/-- two pipelines: the row of the cheaper one for an output with a pair parts them -/
theorem parts {s t o r : List Nat} (hs : Pipe s) (ht : Pipe t) (P : NthOk s o r) (h0 : 0 < pairs o) (ne : s ≠ t) (le : (growS s (sizeS o)).1 ≤ (growS t (sizeS o)).1) : sv r s ≠ sv r t := by
  intro h
  rw [P.out] at h
  have b := sv_bound t r
  rw [← h] at b
  have o1 : okSz (growS t (sizeS o)) := growS_ok t (pairs_le o)
  have o2 : okSz (sizeS r) := pairs_le _
  have e := leSz_eq o1 o2 b (by rw [P.size]; exact le)
  rw [P.size] at e
  have hlt : (sizeS o).2 < (sizeS o).1 := by
    have h1 := runs_len o
    have h2 : o ≠ [] := fun z => by rw [z] at h0; exact absurd h0 (by decide)
    have h3 : 0 < (runs o).length := by
      cases o with
      | nil => exact absurd rfl h2
      | cons c r =>
        obtain ⟨m, q, e⟩ := (alt_from r c 1).2
        show 0 < (runsFrom c 1 r).length
        rw [e]; simp
    show pairs o < o.length
    omega
  exact ne (growS_inj h0 hlt s t hs ht e)
end Tw

set_option Elab.async false
set_option linter.all false
set_option maxRecDepth 100000
set_option maxHeartbeats 2000000
namespace Tw
open PySem PySem.Spec PyProof.Rows L2
/-- the five classes -/
structure K4 (K : PySem.W.Frag) (mg : Str → Option Value) (C fI : Nat → Addr) (CS : Addr) : Prop where
  T : ∀ i, i < 5 → TwX.ETxt K (C i) (fI i)
  g0 : mg "InvalidRow" = some (.ref (C 0))
  g1 : mg "InvalidPipeline" = some (.ref (C 1))
  g2 : mg "InvalidNumber" = some (.ref (C 2))
  g3 : mg "NothingToUndo" = some (.ref (C 3))
  g4 : mg "Unreadable" = some (.ref (C 4))
  gS : mg "SieveError" = some (.ref CS)
  kt : ∀ i j, i < 5 → j < 5 → PySem.W.kitOne K (.ref (C i)) (.ref (C j)) = some (decide (i = j))
  kV : ∀ i, i < 5 → PySem.W.kitOne K (.ref (C i)) (.type "ValueError") = some true
  ex : ∀ i, i < 5 → PySem.W.exmOne K (.ref (C i)) (.ref CS) = some true
  st : ∀ i, i < 5 → PySem.W.subIn K (.ref (C i)) (.type "StopIteration") = some false
/-- isinstance of the caught error, by names -/
def rIsP (K : PySem.W.Frag) (a : Addr) (cls : Value) (dd : Option Addr) : List V → Hp → VK → Prop := fun xs H Q => ∃ (C d fI : Addr) (c : V) (u : Value) (b : Bool), cls = .ref C ∧ dd = some d ∧ xs = [.ref a, c] ∧ (∃ v, H d = some (xval v)) ∧ TwX.ETxt K C fI ∧ ClsV c u ∧ PySem.W.kitOne K (.ref C) u = some b ∧ Q (.bl b) H
def rIsTP (K : PySem.W.Frag) (a : Addr) (cls : Value) (dd : Option Addr) : List V → Hp → VK → Prop := fun xs H Q => ∃ (C d fI tp : Addr) (cs : List V) (us : List Value) (b : Bool), cls = .ref C ∧ dd = some d ∧ xs = [.ref a, .ref tp] ∧ (∃ v, H d = some (xval v)) ∧ TwX.ETxt K C fI ∧ H tp = some (.tup cs) ∧ Paired ClsV cs us ∧ PySem.W.kitAny K (.ref C) us = some b ∧ Q (.bl b) H
theorem pin_mem {X : Cx} {a : Addr} {oe : Obj} {pn : List (Addr × Obj)} : (a, oe) ∈ (X.suite a ((a, oe) :: pn)).pn := List.mem_cons_self
def totV : Nat → Int
  | 0 => 2
  | j + 1 => 9 * 4 ^ j
theorem totV_eq : ∀ j, (totP j).1 = totV j
  | 0 => rfl
  | j + 1 => by rw [totP_eq]; rfl
theorem four_pow (j : Nat) : (4 : Int) ^ j = 2 ^ (2 * j) := by rw [show (4 : Int) = 2 ^ 2 from rfl, ← Int.pow_mul]
theorem totV_log (j : Nat) (h : j ≤ 5000) : (totV j).natAbs.log2 < 12000 := by
  cases j with
  | zero => decide
  | succ j =>
    have e : totV (j + 1) = 9 * 4 ^ j := rfl
    have h0 : (0 : Int) ≤ 9 * 4 ^ j := Int.mul_nonneg (by decide) (by rw [four_pow]; exact two_pow_nn _)
    have h1 : 9 * (4 : Int) ^ j < 2 ^ (2 * j + 4) := by
      rw [four_pow, Int.pow_add]
      have := two_pow_nn (2 * j)
      have z : (1 : Int) ≤ 2 ^ (2 * j) := by
        rw [two_pow_cast]
        exact Int.ofNat_le.mpr (Nat.one_le_two_pow)
      show 9 * (2 : Int) ^ (2 * j) < 2 ^ (2 * j) * 16
      omega
    rw [e]
    have := log2_le_of h0 h1
    omega
def spTot0 : Sp := fun vs H Q _ => ∃ j : Nat, vs = [.int (j : Nat)] ∧ j ≤ 100000 ∧ ∀ H', Same H H' → Q (.int (totV j)) H'
end Tw

set_option Elab.async false
set_option linter.all false
set_option maxRecDepth 100000
set_option maxHeartbeats 2000000
namespace Tw
open PySem PySem.Spec PyProof.Rows L2
theorem growS_le3 (p : List Nat) {z : Nat × Nat} (h : okSz z) : (growS p z).1 ≤ z.1 * 3 ^ p.length := by
  induction p with
  | nil => simp [growS_nil]
  | cons c p ih =>
    have o := growS_ok p h
    rw [growS_cons, List.length_cons, Nat.pow_succ, ← Nat.mul_assoc]
    unfold before1 okSz at *
    cases (c == 84) <;> simp <;> omega
/-- a row that parts p and q -/
def Parts (p q l : List Nat) : Prop := Low l ∧ l ≠ [] ∧ l.length ≤ 20000 ∧ sv l p ≠ sv l q
def spPart (C1 : Addr) : Sp := fun vs H Q E => ∃ p q : List Nat, vs = [.str (mk p), .str (mk q)] ∧ p.length ≤ 8 ∧ q.length ≤ 8 ∧
  (bad okP p = none → bad okP q = none → (p = q → ∀ H', Same H H' → Q .non H') ∧ (p ≠ q → ∀ H' l, Same H H' → Parts p q l → Q (.str (mk l)) H')) ∧
  (∀ i, bad okP p = some i → Rz C1 i H E) ∧ (bad okP p = none → ∀ i, bad okP q = some i → Rz C1 i H E)
theorem aa_eq : (V.str "aa") = V.str (mk [97, 97]) := by decide +kernel
theorem aa_low : Low [97, 97] := fun c hc => by
  simp at hc
  omega
theorem aa_bad : bad okL [97, 97] = none := by decide
theorem aa_size : sizeS [97, 97] = (2, 1) := by decide
theorem mk_eq (a b : List Nat) : decide (V.str (mk a) = V.str (mk b)) = decide (a = b) := decide_eq_decide.mpr ⟨fun h => mk_inj.mp (V.str.inj h), fun h => by rw [h]⟩
theorem part_row {s t : List Nat} (hs : Pipe s) (ht : Pipe t) (hl : s.length ≤ 8) (ne : s ≠ t) (le : (growS s (2, 1)).1 ≤ (growS t (2, 1)).1) : Low (nthRow s [97, 97] 2 0) ∧ nthRow s [97, 97] 2 0 ≠ [] ∧ (nthRow s [97, 97] 2 0).length ≤ 20000 ∧ sv (nthRow s [97, 97] 2 0) s ≠ sv (nthRow s [97, 97] 2 0) t := by
  have P : NthOk s [97, 97] (nthRow s [97, 97] 2 0) := nth_ok hs aa_low (digs_len _ _ _) fun d hd => by
    have := digs_le _ _ _ (by decide) d hd
    omega
  have g := growS_le3 s (z := (2, 1)) (by show 1 ≤ 2; decide)
  have g2 : 3 ^ s.length ≤ 3 ^ 8 := Nat.pow_le_pow_right (by decide) hl
  have g3 : (3 : Nat) ^ 8 = 6561 := by decide
  have e := congrArg Prod.fst P.size
  rw [aa_size] at e
  have e : (nthRow s [97, 97] 2 0).length = (growS s (2, 1)).1 := e
  have low : (2 : Nat) ≤ (growS s (2, 1)).1 := by
    have := growR_le (runs s).reverse (2, 1)
    rw [growR_eq] at this
    exact this
  refine ⟨P.low, fun z => ?_, ?_, ?_⟩
  · rw [z] at e
    simp at e
    omega
  · show (nthRow s [97, 97] 2 0).length ≤ 20000
    have g4 : (growS s (2, 1)).1 ≤ 2 * 3 ^ s.length := g
    omega
  · exact parts hs ht P (by decide) ne (by rw [aa_size]; exact le)
/-! the law's own draws -/
def plO (d s c : Int) : HO := .lst [V.int d, V.int s, V.int c]
structure PlOk (d s c : Int) : Prop where
  d0 : 0 ≤ d
  s0 : 0 ≤ s
  s1 : s < 2 ^ 62
  c0 : 0 ≤ c
  c1 : c < 4294967296
def spPool (K : PySem.W.Frag) : Sp := fun vs H Q _ => ∃ (a : Addr) (ns : List Int) (i : Nat), vs = [.ref a, .int (i : Nat)] ∧ SqL K H a (ns.map V.int) ∧ ns.length ≤ 63 ∧ i ≤ 100 ∧
  ∀ H' r d s, Same H H' → H r = none → H' r = some (plO d s 0) → PlOk d s 0 → Q (.ref r) H'
def spPDraw : Sp := fun vs H Q _ => ∃ (r : Addr) (m d s c : Int), vs = [.ref r, .int m] ∧ H r = some (plO d s c) ∧ PlOk d s c ∧ (0 < m ∧ m < 2 ^ 200) ∧ c + 1 < 4294967296 ∧
  ∀ d' c' v, PlOk d' s c' → c' ≤ c + 1 → 0 ≤ v → v < m → Q (.int v) (upd H r (plO d' s c'))
/-- a pool stands at r, its counter at most c -/
def Pool (r : Addr) (c : Int) (H : Hp) : Prop := ∃ d s c', H r = some (plO d s c') ∧ PlOk d s c' ∧ c' ≤ c
theorem Pool.same {r : Addr} {c : Int} {H H' : Hp} (h : Pool r c H) (s : Same H H') : Pool r c H' := by
  obtain ⟨d, s0, c', h1, h2⟩ := h
  exact ⟨d, s0, c', s _ _ h1, h2⟩
theorem Pool.mono {r : Addr} {c c2 : Int} {H : Hp} (h : Pool r c H) (hc : c ≤ c2) : Pool r c2 H := by
  obtain ⟨d, s0, c', h1, h2, h3⟩ := h
  exact ⟨d, s0, c', h1, h2, by omega⟩
def spPDraw2 : Sp := fun vs H Q _ => ∃ (r : Addr) (m c : Int), vs = [.ref r, .int m] ∧ Pool r c H ∧ (0 < m ∧ m < 2 ^ 200) ∧ c < 1000000 ∧
  ∀ H' v, SameB r H H' → Pool r (c + 1) H' → 0 ≤ v → v < m → Q (.int v) H'
def spSieved : Sp := fun vs H Q _ => ∃ (l p : List Nat), vs = [.str (mk l), .str (mk p)] ∧ Low l ∧ Pipe p ∧ l.length ≤ 100000 ∧ Q (.str (mk (sv l p))) H
def spSteps : Sp := fun vs H Q _ => ∃ (r : Addr) (n : Nat) (c : Int), vs = [.ref r, .int (n : Nat)] ∧ n ≤ 100 ∧ Pool r c H ∧ c < 100000 ∧
  ∀ H' p, SameB r H H' → Pool r (c + 1 + n) H' → Pipe p → p.length ≤ n → Q (.str (mk p)) H'
def spNear : Sp := fun vs H Q _ => ∃ (r : Addr) (l : List Nat) (c : Int), vs = [.ref r, .str (mk l)] ∧ Pipe l ∧ l.length ≤ 6 ∧ Pool r c H ∧ c < 100000 ∧
  ∀ H' p, SameB r H H' → Pool r (c + 3) H' → Pipe p → p.length ≤ 6 → Q (.str (mk p)) H'
def spSpo : Sp := fun vs H Q _ => ∃ (r : Addr) (l od : List Nat) (c : Int), vs = [.ref r, .str (mk l), .str (mk od)] ∧ l.length ≤ 100 ∧ (0 < od.length ∧ od.length ≤ 100) ∧ Pool r c H ∧ c < 100000 ∧
  ∀ H' p, SameB r H H' → Pool r (c + 5) H' → p.length ≤ l.length + 2 → Q (.str (mk p)) H'
def spFirst : Sp := fun vs H Q _ => ∃ (l : List Nat), vs = [.str (mk l), .str "TS"] ∧ l.length ≤ 1000 ∧ ∀ H', Same H H' → Q (badV (bad okP l)) H'
def kindN (i : Nat) : Str := match i with | 0 => "row" | 1 => "pipeline" | 2 => "number" | 3 => "undo" | _ => "read"
def spKind (C : Nat → Addr) : Sp := fun vs H Q _ => ∃ (a d : Addr) (i : Nat), vs = [.ref a] ∧ i < 5 ∧ H a = some (ExcR (C i) d a) ∧ (∃ v, H d = some (xval v)) ∧ ∀ H', Same H H' → Q (.str (kindN i)) H'
/-- the slice between two places -/
theorem cutS_mid (l : List Nat) (a b : Nat) : cutS (mk l) (some (a : Int)) (some (b : Int)) = mk ((l.drop a).take (b - a)) := by
  unfold cutS
  rw [HT.sIx_nat, HT.sIx_nat, mk_len]
  show mk ((l.drop (min a l.length)).take (min b l.length - min a l.length)) = _
  congr 1
  by_cases h : a ≤ l.length
  · rw [Nat.min_eq_left h]
    by_cases h2 : b ≤ l.length
    · rw [Nat.min_eq_left h2]
    · rw [Nat.min_eq_right (by omega), List.take_of_length_le (by rw [List.length_drop]; omega), List.take_of_length_le (by rw [List.length_drop]; omega)]
  · have e1 : l.drop (min a l.length) = [] := List.drop_of_length_le (by omega)
    have e2 : l.drop a = [] := List.drop_of_length_le (by omega)
    rw [e1, e2, List.take_nil, List.take_nil]
theorem TS_eq : (V.str "TS") = V.str (mk [84, 83]) := by decide +kernel
theorem TS_mem (c : Nat) : decide (c ∈ (Str.ofString "TS").cps.toList) = okP c := by
  have e : (Str.ofString "TS").cps.toList = [84, 83] := by decide +kernel
  rw [e]
  unfold okP
  by_cases h : c = 84
  · subst h; rfl
  · by_cases h2 : c = 83
    · subst h2; rfl
    · simp [h, h2]
theorem TS_at {v : Int} (h0 : 0 ≤ v) (h1 : v < 2) : ∃ c : Nat, (c = 84 ∨ c = 83) ∧ atI (Str.ofString "TS").cps.toList v = some c := by
  obtain ⟨j, rfl⟩ := Int.eq_ofNat_of_zero_le h0
  have e : (Str.ofString "TS").cps.toList = [84, 83] := by decide +kernel
  rw [e]
  have hj : j = 0 ∨ j = 1 := by omega
  rcases hj with rfl | rfl
  · exact ⟨84, .inl rfl, atI_nat rfl⟩
  · exact ⟨83, .inr rfl, atI_nat rfl⟩
theorem TS_len : (Str.ofString "TS").length ≤ sizeLine := by
  have e : (Str.ofString "TS").length = 2 := by decide +kernel
  rw [e, sizeLine_eq]; decide
theorem low_alpha {l : List Nat} (h : Low l) (ne : l ≠ []) : Txt.isalpha (mk l) = true ∧ Txt.islower (mk l) = true := by
  have base : ∀ i, i < 26 → Unicode.isAlpha (97 + i) = true ∧ Unicode.isLower (97 + i) = true ∧ (Unicode.isUpper (97 + i) || Unicode.isTitle (97 + i)) = false := by decide +kernel
  have all : ∀ c ∈ l, Unicode.isAlpha c = true ∧ Unicode.isLower c = true ∧ (Unicode.isUpper c || Unicode.isTitle c) = false := fun c hc => by
    have h1 := h c hc
    have := base (c - 97) (by omega)
    rw [show 97 + (c - 97) = c by omega] at this
    exact this
  constructor
  · unfold Txt.isalpha
    rw [mk_len, decide_eq_true (List.length_pos_iff.mpr ne), Bool.true_and]
    show l.toArray.all _ = true
    rw [List.all_toArray, List.all_eq_true]
    exact fun c hc => (all c hc).1
  · unfold Txt.islower
    have a1 : (mk l).cps.any Unicode.isLower = true := by
      show l.toArray.any _ = true
      rw [List.any_toArray, List.any_eq_true]
      obtain ⟨c, hc⟩ := List.exists_mem_of_ne_nil l ne
      exact ⟨c, hc, (all c hc).2.1⟩
    have a2 : ((mk l).cps.any fun c => Unicode.isUpper c || Unicode.isTitle c) = false := by
      show (l.toArray.any _) = false
      rw [List.any_toArray, List.any_eq_false]
      exact fun c hc => by rw [(all c hc).2.2]; decide
    rw [a1, a2]
    rfl
end Tw
namespace Tw
open PySem PySem.Spec PyProof.Rows L2
/-! runs while a row is read sign by sign -/
def hereOf (rs : List (Nat × Nat)) : List Nat := match rs.getLast? with | some q => List.replicate q.2 q.1 | none => []
theorem hereOf_snoc (r : List (Nat × Nat)) (c n : Nat) : hereOf (r ++ [(c, n)]) = List.replicate n c := by unfold hereOf; rw [List.getLast?_append]; rfl
theorem runs_end {l : List Nat} {r : List (Nat × Nat)} {c n : Nat} (h : runs l = r ++ [(c, n)]) : c ∈ l ∧ 1 ≤ n ∧ n ≤ l.length := by
  have hm : (c, n) ∈ runs l := by rw [h]; exact List.mem_append_right _ List.mem_cons_self
  have hp : 1 ≤ n := runs_pos l _ hm
  refine ⟨?_, hp, ?_⟩
  · rw [← flat_runs l, List.mem_flatMap]
    exact ⟨_, hm, List.mem_replicate.mpr ⟨by show n ≠ 0; omega, rfl⟩⟩
  · have := runs_counts (p := l) _ hm
    exact this
theorem kept_snoc (t : Bool) (r : List (Nat × Nat)) (q : Nat × Nat) : kept t (r ++ [q]) = kept t r ++ (if keepRun t q = true then [q.1] else []) := by
  unfold kept
  rw [List.filter_append, List.map_append]
  congr 1
  rw [List.filter_cons]
  split <;> rfl
theorem runs_space {l : List Nat} (h : Low l) : runs (l ++ [32]) = runs l ++ [(32, 1)] := by
  have e : (l ++ [32])[l.length]? = some 32 := by rw [List.getElem?_append_right (Nat.le_refl _), Nat.sub_self]; rfl
  have := runs_take e
  rw [List.take_of_length_le (by rw [List.length_append]; exact Nat.le_refl _), List.take_left'  rfl] at this
  rw [this]
  rcases snoc_cases (runs l) with e2 | ⟨r, ⟨c, n⟩, e2⟩
  · rw [e2]; rfl
  · have hc := h c (runs_end e2).1
    rw [e2, addRun_snoc, if_neg (by omega)]
theorem space_eq : (Str.ofString " ") = mk [32] := by decide +kernel
theorem empty_eq : (Str.ofString "") = mk [] := by decide +kernel
theorem kept_le2 (t : Bool) (l : List Nat) (i : Nat) : (kept t (runs (l.take i)).dropLast).length ≤ l.length := by
  have h1 := kept_len t (runs (l.take i)).dropLast
  have h2 := runs_le (l.take i)
  have h3 : (l.take i).length ≤ l.length := by rw [List.length_take]; omega
  rw [List.length_dropLast] at h1
  omega
end Tw

set_option Elab.async false
set_option linter.all false
set_option maxRecDepth 100000
set_option maxHeartbeats 2000000
namespace Tw
open PySem PySem.Spec PyProof.Rows L2
/-! the source of draws that several laws share -/
def srcO (g : Addr) (l m t : Int) : HO := .lst [V.ref g, V.int l, V.int m, V.int t]
def Src (r g : Addr) (c : Int) (H : Hp) : Prop := ∃ l m t ns, H r = some (srcO g l m t) ∧ H g = some (.lst (List.map V.int ns)) ∧ 0 ≤ m ∧ m < 2 ^ 61 ∧ 0 ≤ t ∧ t ≤ c
theorem Src.same {r g : Addr} {c : Int} {H H' : Hp} (h : Src r g c H) (s : Same H H') : Src r g c H' := by
  obtain ⟨l, m, t, ns, h1, h2, x⟩ := h
  exact ⟨l, m, t, ns, s _ _ h1, s _ _ h2, x⟩
theorem Src.mono {r g : Addr} {c c2 : Int} {H : Hp} (h : Src r g c H) (hc : c ≤ c2) : Src r g c2 H := by
  obtain ⟨l, m, t, ns, h1, h2, a, b, d, e⟩ := h
  exact ⟨l, m, t, ns, h1, h2, a, b, d, by omega⟩
theorem Src.ne {r g : Addr} {c : Int} {H : Hp} (h : Src r g c H) {p : Addr} (np : H p = none) : p ≠ r ∧ p ≠ g := by
  obtain ⟨l, m, t, ns, h1, h2, _⟩ := h
  exact ⟨Ne.symm (ne_of_none h1 np), Ne.symm (ne_of_none h2 np)⟩
def spSource (K : PySem.W.Frag) : Sp := fun vs H Q _ => ∃ (a : Addr) (ns : List Int), vs = [.ref a] ∧ SqL K H a (ns.map V.int) ∧ ns.length ≤ 63 ∧
  ∀ H' r g, Same H H' → H r = none → H g = none → Src r g 0 H' → Q (.ref r) H'
/-- many: a number of at most some thousands of bits -/
def spSDraw : Sp := fun vs H Q _ => ∃ (r g : Addr) (m c : Int), vs = [.ref r, .int m] ∧ Src r g c H ∧ (0 < m ∧ m.natAbs.log2 < 9000) ∧ c < 1000000 ∧
  ∀ H' v, SameBG r g H H' → Src r g (c + 1) H' → 0 ≤ v → v < m → Q (.int v) H'
end Tw
namespace Tw
open PySem PySem.Spec PyProof.Rows L2
def spLRuns : Sp := fun vs H Q _ => ∃ l : List Nat, vs = [.str (mk l)] ∧ l.length ≤ 100000 ∧ Low l ∧ ∀ H' p as, Same H H' → H p = none → H' p = some (.lst (as.map V.ref)) → Pairs H' as (runs l) → Q (.ref p) H'
end Tw
namespace Tw
open PySem PySem.Spec PyProof.Rows L2
def spLSize : Sp := fun vs H Q _ => ∃ l : List Nat, vs = [.str (mk l)] ∧ l.length ≤ 100000 ∧ Low l ∧ ∀ H' p, Same H H' → H p = none → H' p = some (.tup [V.int (l.length : Nat), V.int (pairs l : Nat)]) → Q (.ref p) H'
/-- the law's own least size: from a tuple of two numbers -/
def spLLeast (K : PySem.W.Frag) : Sp := fun vs H Q _ => ∃ (p : List Nat) (t : Addr) (a b : Nat), vs = [.str (mk p), .ref t] ∧ Pipe p ∧ p.length ≤ 1000000 ∧ SqT K H t [V.int (a : Nat), V.int (b : Nat)] ∧
  ∀ H' r, Same H H' → H r = none → H' r = some (.tup [V.int ((growS p (a, b)).1 : Nat), V.int ((growS p (a, b)).2 : Nat)]) → Q (.ref r) H'
end Tw
namespace Tw
open PySem PySem.Spec PyProof.Rows L2
def spLSieves : Sp := fun vs H Q _ => ∃ (r g : Addr) (n : Nat) (c : Int), vs = [.ref r, .int (n : Nat)] ∧ n ≤ 1000 ∧ Src r g c H ∧ c < 500000 ∧
  ∀ H' p, SameBG r g H H' → Src r g (c + 2 + 3 * n) H' → Pipe p → p.length ≤ n → Q (.str (mk p)) H'
/-- letters of the first k kinds -/
def Kinds (k : Int) (l : List Nat) : Prop := ∀ c ∈ l, 97 ≤ c ∧ (c : Int) < 97 + k
theorem Kinds.low {k : Int} {l : List Nat} (h : Kinds k l) (hk : k ≤ 26) : Low l := fun c hc => by have := h c hc; omega
def spLRow : Sp := fun vs H Q _ => ∃ (r g : Addr) (n : Nat) (k c : Int), vs = [.ref r, .int (n : Nat), .int k] ∧ n ≤ 1000 ∧ (1 ≤ k ∧ k ≤ 26) ∧ Src r g c H ∧ c < 500000 ∧
  ∀ H' l, SameBG r g H H' → Src r g (c + 1 + 2 * n) H' → Kinds k l → l.length ≤ n → Q (.str (mk l)) H'
end Tw
namespace Tw
open PySem PySem.Spec PyProof.Rows L2
def spLSieved : Sp := fun vs H Q _ => ∃ (l p : List Nat), vs = [.str (mk l), .str (mk p)] ∧ Low l ∧ Pipe p ∧ l.length ≤ 1000 ∧ ∀ H', Same H H' → Q (.str (mk (sv l p))) H'
end Tw

set_option Elab.async false
set_option linter.all false
set_option maxRecDepth 100000
set_option maxHeartbeats 2000000
namespace Tw
open PySem PySem.Spec PyProof.Rows L2
def topS (i : Nat) : Stmt := PySem.Challenge.pw_twinsieve_k10_longer_shortest_rows.main.body.getD i (.Pass ⟨0, 0, 0, 0⟩)
abbrev s_law_source : Stmt := topS 36
section
variable {P : Program} {w : World} {K : PySem.W.Frag} {mg : Str → Option Value} {base : Heap}
theorem sc_law_source : FnScope ["script", "mix", "digits", "cell", "span"] ["script"] (defScope s_law_source) := ⟨rfl, rfl, rfl, by decide +kernel, rfl, by decide +kernel, by decide +kernel⟩
theorem ok_source {f : Addr} {fd : FuncData} {k : Nat} (F : Fun K "_law_source" "_law_source" s_law_source f fd) (m_max : mg "max" = none) : FnOk P w K mg base CX0 (k + 1) f fd ["script"] (spSource K) := by
  refine F.ok sc_law_source (fun vs H Q E h => ?_) (fun cdv A outer s H vs Q E hr h => ?_)
  · obtain ⟨a, ns, rfl, _⟩ := h
    rfl
  · obtain ⟨a, ns, rfl, hS, hlen, q⟩ := h
    refine ⟨_, (pss_cons (ps_set (i := 1) sc_law_source.nd rfl (.inl rfl) pe_int)
 (pss_cons (ps_set (i := 2) sc_law_source.nd rfl (.inl rfl) (pe_lst pa_nil))
 (pss_cons (ps_for PassesOwn.never rfl (pi_list (pv 0)) (pg_name (i := 3) sc_law_source.nd rfl (.inl rfl))
  (pss_cons (ps_set (i := 1) sc_law_source.nd rfl (.inl rfl) (pe_op op_mod (pe_op op_add (pe_op op_mul (pv 1) pe_int) (pv 3)) (pe_op op_sub (pe_op op_powW pe_int pe_int) pe_int)))
 (pss_cons (ps_set (i := 4) sc_law_source.nd rfl (.inl rfl) (pe_callB (call_max2 rfl) (by rfl) m_max (by decide +kernel) (pa_cons (pv 3) (pa_cons (pe_op op_sub pe_int (pv 3)) pa_nil))))
 (pss_one (ps_if (pt_cmpR op_ge (pv 4) (pe_op op_powW pe_int pe_int) (nomark _)) (pss_one (ps_expr (pe_bm PySem.F.plainAttrs_list PySem.F.slot_list_append PySem.F.type_list_append mt_append (pv 2) (pa_cons (pe_op op_sub (pv 4) (pe_op op_powW pe_int pe_int)) pa_nil)))) pss_nil)))))
 (pss_one (ps_ret (pe_lst (pa_cons (pv 2) (pa_cons pe_int (pa_cons (pv 1) (pa_cons pe_int pa_nil)))))))))), ?_⟩
    refine ⟨Nat.zero_le _, fun g ng => ?_⟩
    have smg := same_upd (o := .lst []) ng
    refine ⟨_, rfl, a, rfl, ⟨_, smg.seq hS⟩, for_list (xs := ns.map V.int) (fun i σ H' => ∃ f ms y3 y4, σ = [some (.ref a), some (.int f), some (.ref g), y3, y4] ∧ H' = upd H g (.lst (List.map V.int ms)) ∧ ms.length ≤ i ∧ 0 ≤ f ∧ f < 2305843009213693951) ?_ ?_ ?_ ?_⟩
    · exact ⟨271828182845904, [], none, none, rfl, rfl, Nat.zero_le _, by decide, by decide⟩
    · rintro i σ H' hi ⟨f, ms, y3, y4, rfl, rfl, _⟩
      exact (same_upd ng).seq hS
    · rintro i x σ H' hx ⟨f0, ms, y3, y4, rfl, rfl, hm, h0, h1⟩
      rw [List.getElem?_map] at hx
      obtain ⟨z, hz, rfl⟩ := Option.map_eq_some_iff.mp hx
      have hi : i < 63 := by
        have := (List.getElem?_eq_some_iff.mp hz).1
        omega
      have e := emod_both (f0 * 1000033 + z) (b := 2 ^ (61 : Int).toNat - 1) (by decide +kernel)
      have e61 : (2 : Int) ^ (61 : Int).toNat - 1 = 2305843009213693951 := by decide +kernel
      have e1 : (f0 * 1000033 + z) % (2 ^ (61 : Int).toNat - 1) < 2305843009213693951 := by
        have := e.2
        omega
      refine ⟨_, rfl, _, _, rfl, rfl, .inr ⟨by decide, by decide⟩, _, rfl, _, _, rfl, rfl, _, _, rfl, rfl, ⟨by decide, by decide, by decide⟩, _, _, rfl, rfl, _, _, rfl, rfl, (by show (0 : Int) < 2 ^ (61 : Int).toNat - 1; decide +kernel), ?_⟩
      refine ⟨_, rfl, _, rfl, _, _, rfl, rfl, _, _, rfl, ?_⟩
      refine ⟨_, rfl, _, _, rfl, rfl, ⟨by decide, by decide, by decide⟩, _, _, rfl, rfl, _, rfl, ?_⟩
      refine ite2 (fun hb => ?_) (fun hb => ?_)
      · refine ⟨_, rfl, .inl ⟨rfl, _, SqL.of upd_same⟩, _, rfl, _, _, rfl, rfl, ⟨by decide, by decide, by decide⟩, _, _, rfl, rfl, g, _, _, rfl, rfl, upd_same, ?_, ?_⟩
        · rw [List.length_map]
          exact small1000 (by omega)
        · refine ⟨_, ms ++ [(if 0 - z > z then 0 - z else z) - 10 ^ (18 : Int).toNat], some (.int z), some (.int (if 0 - z > z then 0 - z else z)), rfl, ?_, ?_, e.1, e1⟩
          · rw [List.map_append, upd_upd]
            rfl
          · rw [List.length_append]
            show ms.length + 1 ≤ _
            omega
      · exact ⟨_, ms, some (.int z), some (.int (if 0 - z > z then 0 - z else z)), rfl, rfl, by omega, e.1, e1⟩
    · rintro σ H' ⟨f0, ms, y3, y4, rfl, rfl, hm, h0, h1⟩
      refine ⟨_, rfl, _, rfl, (by show 4 ≤ sizeLine; decide), fun b nb => ?_⟩
      have nbg : b ≠ g := fun z => by rw [z, upd_same] at nb; cases nb
      have nbH : H b = none := by rw [upd_ne nbg] at nb; exact nb
      refine q _ b g ((same_upd ng).trans (same_upd nb)) nbH ng ⟨0, f0, 0, ms, upd_same, by rw [upd_ne (Ne.symm nbg)]; exact upd_same, h0, by omega, by decide, by decide⟩
end
end Tw

set_option Elab.async false
set_option linter.all false
set_option maxRecDepth 100000
set_option maxHeartbeats 2000000
namespace Tw
open PySem PySem.Spec PyProof.Rows L2
abbrev s_law_draw : Stmt := topS 37
section
variable {P : Program} {w : World} {K : PySem.W.Frag} {mg : Str → Option Value} {base : Heap}
theorem sc_law_draw : FnScope ["source", "many", "drawn", "mixed"] ["source", "many"] (defScope s_law_draw) := ⟨rfl, rfl, rfl, by decide +kernel, rfl, by decide +kernel, by decide +kernel⟩
theorem ok_sdraw {f : Addr} {fd : FuncData} {k : Nat} (F : Fun K "_law_draw" "_law_draw" s_law_draw f fd) : FnOk P w K mg base CX0 (k + 1) f fd ["source", "many"] spSDraw := by
  refine F.ok sc_law_draw (fun vs H Q E h => ?_) (fun cdv A outer s H vs Q E hr h => ?_)
  · obtain ⟨r, g, m, c, rfl, _⟩ := h
    rfl
  · obtain ⟨r, g, m, c, rfl, ⟨l, mx, t, ns, hr0, hg, mx0, mx1, t0, tc⟩, ⟨m0, m1⟩, hc, q⟩ := h
    have nrg : r ≠ g := ne_of hr0 hg (by
      intro z
      have z := HO.lst.inj z
      cases ns with
      | nil => cases z
      | cons a b => cases (List.cons.inj z).1)
    have cd : ∀ x, CDivW x m := fun x => ⟨m0, by omega⟩
    refine ⟨_, (pss_cons (ps_while PassesOwn.never (PW.pt (pw_and (pt_cmpR op_lt (pe_ix ix_list (pv 0) pe_int (fun _ _ => rfl)) pe_int (nomark _)) (pw_and1 (pt_cmpR (op_neD hr.units) (pe_ix ix_list (pv 0) pe_int (fun _ _ => rfl)) (pe_lst pa_nil) (nomark _))))) (pss_one (ps_asg (pe_bm PySem.F.plainAttrs_list PySem.F.slot_list_pop PySem.F.type_list_pop mt_popAt (pe_ix ix_list (pv 0) pe_int (fun _ _ => rfl)) (pa_cons pe_int pa_nil)) (pg_sub (pv 0) pe_int set_list))))
 (pss_cons (ps_if (pt_cmpR op_ge (pe_ix ix_list (pv 0) pe_int (fun _ _ => rfl)) pe_int (nomark _)) (pss_cons (ps_set (i := 2) sc_law_draw.nd rfl (.inl rfl) (pe_op op_mod (pe_ix ix_list (pv 0) pe_int (fun _ _ => rfl)) (pv 1)))
 (pss_cons (ps_asg (pe_op op_fdivW (pe_ix ix_list (pv 0) pe_int (fun _ _ => rfl)) (pv 1)) (pg_sub (pv 0) pe_int set_list))
 (pss_one (ps_ret (pv 2))))) pss_nil)
 (pss_cons (ps_asg (pe_op op_add (pe_ix ix_list (pv 0) pe_int (fun _ _ => rfl)) pe_int) (pg_sub (pv 0) pe_int set_list))
 (pss_cons (ps_set (i := 3) sc_law_draw.nd rfl (.inl rfl) (pe_op op_mul (pe_op op_add (pe_ix ix_list (pv 0) pe_int (fun _ _ => rfl)) pe_int) (pe_op op_powW (pe_op op_add (pe_ix ix_list (pv 0) pe_int (fun _ _ => rfl)) pe_int) pe_int)))
 (pss_cons (ps_set (i := 3) sc_law_draw.nd rfl (.inl rfl) (pe_op op_mod (pe_op op_add (pv 3) (pe_op op_mul pe_int (pe_ix ix_list (pv 0) pe_int (fun _ _ => rfl)))) (pe_op op_sub (pe_op op_powW pe_int pe_int) pe_int)))
 (pss_one (ps_ret (pe_op op_mod (pe_op op_fdivW (pe_op op_mod (pe_op op_powW (pv 3) pe_int) (pe_op op_add (pe_op op_powW pe_int pe_int) pe_int)) pe_int) (pv 1))))))))), ?_⟩
    refine ⟨fun n σ H' => ∃ l ns, n = ns.length ∧ σ = [some (.ref r), some (.int m), none, none] ∧ SameBG r g H H' ∧ H' r = some (srcO g l mx t) ∧ H' g = some (.lst (List.map V.int ns)), ⟨_, l, ns, rfl, rfl, SameBG.refl _ _ _, hr0, hg⟩, ?_⟩
    rintro n σ H1 ⟨l, ns, rfl, rfl, sm1, hr1, hg1⟩
    refine ⟨_, rfl, _, _, _, _, rfl, rfl, SqL.of hr1, atI_nat (j := 1) rfl, _, _, rfl, rfl, _, rfl, ?_⟩
    refine ite2 (fun hb => ?A) (fun hb => ?B)
    case' A =>
      refine ⟨_, rfl, _, _, _, _, rfl, rfl, SqL.of hr1, atI_nat (j := 0) rfl, Nat.zero_le _, fun e1 n1 => ?_⟩
      have st := same_upd (o := .lst ([] : List V)) n1
      have hr2 := st _ _ hr1
      have hg2 := st _ _ hg1
      have sm2 := sm1.trans (Same.bg st)
      refine ⟨_, _, .lst (SqL.of hg2) (dps_ints ns), .lst (SqL.of upd_same) .nil, shaped_ints ns, rfl, _, rfl, ?_⟩
      rw [eqv_nil]
      generalize (upd H1 e1 (.lst ([] : List V))) = H2 at st hr2 hg2 sm2 ⊢
      clear st n1
      rcases ns with _ | ⟨x, xs⟩
      rotate_left
      · refine iteT ⟨_, fun _ _ h => h, ?_⟩
        refine ⟨_, rfl, _, _, _, _, rfl, rfl, SqL.of hr2, atI_nat (j := 0) rfl, .inl ⟨rfl, _, SqL.of hg2⟩, g, _, 0, 0, .int x, rfl, rfl, hg2, by decide, by decide, (by rw [List.length_map]; exact seqIndex_zero _), rfl, ?_⟩
        have hr3 : (upd H2 g (.lst (List.map V.int xs))) r = some (srcO g l mx t) := by rw [upd_ne nrg]; exact hr2
        refine ⟨_, rfl, _, _, _, 1, rfl, rfl, hr3, rfl, ?_⟩
        refine ⟨xs.length, by simp, x, xs, rfl, rfl, sm2.trans ((SameBG.atG _ _ _ _).trans (SameBG.atB _ _ _ _)), upd_same, ?_⟩
        rw [upd_ne (Ne.symm nrg)]
        exact upd_same
      refine iteF ?_
    case' B =>
      have hr2 := hr1
      have hg2 := hg1
      have sm2 := sm1
      generalize H1 = H2 at hr2 hg2 sm2 ⊢
      refine iteF ?_
    all_goals
      obtain ⟨zs, hg2⟩ : ∃ zs : List Int, H2 g = some (.lst (List.map V.int zs)) := ⟨_, hg2⟩
      refine ⟨_, rfl, _, _, _, _, rfl, rfl, SqL.of hr2, atI_nat (j := 1) rfl, _, _, rfl, rfl, _, rfl, ?_⟩
      refine ite2 (fun h3 => ?_) (fun h3 => ?_)
      · refine ⟨_, rfl, _, _, _, _, rfl, rfl, SqL.of hr2, atI_nat (j := 1) rfl, _, rfl, _, _, rfl, rfl, m0, ?_⟩
        refine ⟨_, rfl, _, _, _, _, rfl, rfl, SqL.of hr2, atI_nat (j := 1) rfl, _, rfl, _, _, rfl, rfl, cd _, ?_⟩
        refine ⟨_, rfl, _, _, _, 1, rfl, rfl, hr2, rfl, ?_⟩
        refine ⟨_, rfl, ?_⟩
        exact q _ _ (sm2.trans (SameBG.atB _ _ _ _)) ⟨_, mx, t, _, upd_same, by rw [upd_ne (Ne.symm nrg)]; exact hg2, mx0, mx1, t0, by omega⟩ (emod_both _ m0).1 (emod_both _ m0).2
      · refine ⟨_, rfl, _, _, _, _, rfl, rfl, SqL.of hr2, atI_nat (j := 3) rfl, _, _, rfl, rfl, ?_⟩
        refine ⟨_, rfl, _, _, _, 3, rfl, rfl, hr2, rfl, ?_⟩
        have sm3 := sm2.trans (SameBG.atB r g H2 (HO.lst (List.set [V.ref g, V.int l, V.int mx, V.int t] 3 (V.int (t + 1)))))
        have hg3 : (upd H2 r (HO.lst (List.set [V.ref g, V.int l, V.int mx, V.int t] 3 (V.int (t + 1))))) g = some (.lst (List.map V.int zs)) := by rw [upd_ne (Ne.symm nrg)]; exact hg2
        have hr3 : (upd H2 r (HO.lst (List.set [V.ref g, V.int l, V.int mx, V.int t] 3 (V.int (t + 1))))) r = some (srcO g l mx (t + 1)) := upd_same
        generalize (upd H2 r (HO.lst (List.set [V.ref g, V.int l, V.int mx, V.int t] 3 (V.int (t + 1))))) = H4 at sm3 hg3 hr3 ⊢
        have b1 : -(2 ^ 64) < mx + 7 ∧ mx + 7 < 2 ^ 64 := by omega
        have p1 : CPowW (t + 1 + 3) 3 := ⟨by decide, by decide, by have := log2_le_of (i := t + 1 + 3) (n := 64) (by omega) (by omega); omega⟩
        have p2 : ∀ x1 : Int, 0 ≤ x1 → x1 < 2 ^ (61 : Int).toNat - 1 → CPowW x1 5 := fun x1 h0 h1 => by
          have e61 : (2 : Int) ^ (61 : Int).toNat - 1 = 2305843009213693951 := by decide +kernel
          exact ⟨by decide, by decide, by have := log2_le_of (i := x1) (n := 64) h0 (by omega); omega⟩
        refine ⟨_, rfl, _, _, _, _, rfl, rfl, SqL.of hr3, atI_nat (j := 2) rfl, _, _, rfl, rfl, _, rfl, _, _, _, _, rfl, rfl, SqL.of hr3, atI_nat (j := 3) rfl, _, _, rfl, rfl, _, _, rfl, rfl, p1, _, _, rfl, rfl, .inl b1, ?_⟩
        have e1 := emod_both ((mx + 7) * (t + 1 + 3) ^ (3 : Int).toNat + 1000081 * (t + 1)) (b := 2 ^ (61 : Int).toNat - 1) (by decide +kernel)
        refine ⟨_, rfl, _, rfl, _, _, _, _, rfl, rfl, SqL.of hr3, atI_nat (j := 3) rfl, _, _, rfl, rfl, .inl ⟨by decide, by decide⟩, _, _, rfl, rfl, _, _, rfl, rfl, ⟨by decide, by decide, by decide⟩, _, _, rfl, rfl, _, _, rfl, rfl, (by show (0 : Int) < 2 ^ (61 : Int).toNat - 1; decide +kernel), ?_⟩
        refine ⟨_, rfl, _, _, rfl, rfl, p2 _ e1.1 e1.2, _, _, rfl, rfl, ⟨by decide, by decide, by decide⟩, _, _, rfl, rfl, _, _, rfl, rfl, (by show (0 : Int) < 10 ^ (18 : Int).toNat + 9; decide +kernel), _, _, rfl, rfl, ⟨by decide, by decide +kernel⟩, _, rfl, _, _, rfl, rfl, m0, ?_⟩
        exact q _ _ sm3 ⟨l, mx, t + 1, _, hr3, hg3, mx0, mx1, by omega, by omega⟩ (emod_both _ m0).1 (emod_both _ m0).2
end
end Tw

set_option Elab.async false
set_option linter.all false
set_option maxRecDepth 100000
set_option maxHeartbeats 2000000
namespace Tw
open PySem PySem.Spec PyProof.Rows L2
abbrev s_law_runs : Stmt := topS 39
section
variable {P : Program} {w : World} {K : PySem.W.Frag} {mg : Str → Option Value} {base : Heap}
theorem sc_law_runs : FnScope ["row", "found", "letter"] ["row"] (defScope s_law_runs) := ⟨rfl, rfl, rfl, by decide +kernel, rfl, by decide +kernel, by decide +kernel⟩
def runD (q : Nat × Nat) : PyData := .tuple [.str (mk [q.1]), .int (q.2 : Nat)]
theorem pairs_dp {H : Hp} : ∀ {as : List Addr} {rs : List (Nat × Nat)}, Pairs H as rs → DpAll K H (as.map V.ref) (rs.map runD)
  | [], [], _ => .nil
  | _ :: _, _ :: _, h => .cons (.tup (SqT.of h.1) (.cons (.str _) (.cons (.int _) .nil))) (pairs_dp h.2)
  | [], _ :: _, h => h.elim
  | _ :: _, [], h => h.elim
theorem runs_sh : ∀ {rs : List (Nat × Nat)}, (∀ q ∈ rs, q.1 < 55296) → SeqAt.shaped (.list (rs.map runD)) = true := by
  intro rs h
  have h1 : ∀ rs : List (Nat × Nat), (∀ q ∈ rs, q.1 < 55296) → PyData.canLayAll0 (rs.map runD) = true := by
    intro rs
    induction rs with
    | nil => intro _; simp [PyData.canLayAll0]
    | cons q r ih =>
      intro h
      have hq := h q List.mem_cons_self
      have e : PyData.strOk (mk [q.1]) = true := by
        show (#[q.1] : Array Nat).all _ = true
        simp
        omega
      simp [PyData.canLayAll0, PyData.canLay0, runD, e, ih fun z hz => h z (List.mem_cons_of_mem _ hz)]
  have h2 : ∀ rs : List (Nat × Nat), PyData.depthAll (rs.map runD) ≤ 1 := by
    intro rs
    induction rs with
    | nil => simp [PyData.depthAll]
    | cons q r ih =>
      simp [PyData.depthAll, PyData.depth, runD]
      omega
  unfold SeqAt.shaped
  have h3 := h2 rs
  simp [PyData.canLay0, PyData.depth, h1 rs h]
  omega
theorem ok_lruns {f : Addr} {fd : FuncData} {k : Nat} (F : Fun K "_law_runs" "_law_runs" s_law_runs f fd) : FnOk P w K mg base CX0 (k + 1) f fd ["row"] spLRuns := by
  refine F.ok sc_law_runs (fun vs H Q E h => ?_) (fun cdv A outer s H vs Q E hr h => ?_)
  · obtain ⟨l, rfl, _⟩ := h
    rfl
  · obtain ⟨l, rfl, hlen, low, q⟩ := h
    refine ⟨_, (pss_cons (ps_set (i := 1) sc_law_runs.nd rfl (.inl rfl) (pe_lst pa_nil))
 (pss_cons (ps_for PassesOwn.never rfl (pi_str (pv 0)) (pg_name (i := 2) sc_law_runs.nd rfl (.inl rfl))
  (pss_one (ps_if (PW.pt (pw_and (pt_cmpR (op_neD hr.units) (pv 1) (pe_lst pa_nil) (nomark _)) (pw_and1 (pt_cmpR op_eq (pe_ix ix_tup (pe_ix ix_list (pv 1) (pe_un un_neg pe_int) (fun _ _ => rfl)) pe_int (fun _ _ => rfl)) (pv 2) (nomark _))))) (pss_one (ps_asg (pe_tup (pa_cons (pv 2) (pa_cons (pe_op op_add (pe_ix ix_tup (pe_ix ix_list (pv 1) (pe_un un_neg pe_int) (fun _ _ => rfl)) pe_int (fun _ _ => rfl)) pe_int) pa_nil))) (pg_sub (pv 1) (pe_un un_neg pe_int) set_list))) (pss_one (ps_expr (pe_bm PySem.F.plainAttrs_list PySem.F.slot_list_append PySem.F.type_list_append mt_append (pv 1) (pa_cons (pe_tup (pa_cons (pv 2) (pa_cons pe_int pa_nil))) pa_nil)))))))
 (pss_one (ps_ret (pv 1))))), ?_⟩
    refine ⟨Nat.zero_le _, fun p np => ?_⟩
    refine ⟨_, rfl, mk l, rfl, for_it walk_str (fun i σ H' => ∃ as y2, σ = [some (.str (mk l)), some (.ref p), y2] ∧ Same H H' ∧ H' p = some (.lst (as.map V.ref)) ∧ Pairs H' as (runs (l.take i)))
      ⟨[], none, rfl, same_upd np, upd_same, trivial⟩ (fun _ _ _ _ _ => trivial) ?_ ?_⟩
    · rintro i x σ H1 H2 hi ⟨as, y2, rfl, sm, hp, ps⟩ ⟨rfl, c, hc, rfl⟩
      rw [mk_size] at hi
      have gi : l[i]? = some c := by
        have := hc
        simpa [mk] using this
      have hrun := runs_take gi
      have hl1 : as.length ≤ 100000 := by
        have h1 := ps.len
        have h2 := runs_le (l.take i)
        have h3 : (l.take i).length ≤ l.length := by rw [List.length_take]; exact Nat.min_le_right _ _
        omega
      have lowt : ∀ q ∈ runs (l.take i), q.1 < 55296 := fun q hq => by
        have hm : q.1 ∈ l.take i := by
          rw [← flat_runs (l.take i), List.mem_flatMap]
          have := runs_pos _ _ hq
          exact ⟨q, hq, List.mem_replicate.mpr ⟨by omega, rfl⟩⟩
        have := low _ (List.mem_of_mem_take hm)
        omega
      refine ⟨_, rfl, Nat.zero_le _, fun e1 n1 => ?_⟩
      have st := same_upd (o := .lst ([] : List V)) n1
      have hp := st _ _ hp
      have ps := ps.mono fun b u hb => st _ _ hb
      have sm := sm.trans st
      refine ⟨_, _, .lst (SqL.of hp) (pairs_dp ps), .lst (SqL.of upd_same) .nil, runs_sh lowt, rfl, _, rfl, ?_⟩
      rw [eqv_nil]
      generalize (upd H2 e1 (.lst ([] : List V))) = H1 at hp ps sm ⊢
      clear st n1
      rcases snoc_cases (runs (l.take i)) with e | ⟨r', q0, e⟩
      · rw [e] at ps hrun ⊢
        have ea : as = [] := List.eq_nil_of_length_eq_zero ps.len
        subst ea
        refine iteF (iteF ?_)
        refine ⟨_, rfl, .inl ⟨rfl, _, SqL.of hp⟩, _, rfl, (by show 2 ≤ sizeLine; decide), fun t nt => ?_⟩
        have pt : p ≠ t := ne_of_none hp nt
        refine ⟨p, _, _, rfl, rfl, (by rw [upd_ne pt]; exact hp), (by show 0 < sizeLine; decide), ?_⟩
        refine ⟨[t], _, rfl, fun b o hb => ?_, upd_same, ?_⟩
        · rw [upd_ne (ne_of_none hb np), upd_ne (ne_of_none (sm b o hb) nt)]
          exact sm b o hb
        · rw [hrun]
          refine ⟨?_, trivial⟩
          rw [upd_ne (Ne.symm pt), upd_same]
          rfl
      · rw [e] at ps hrun ⊢
        rw [addRun_snoc r' q0.1 q0.2 c] at hrun
        obtain ⟨as', a, rfl, ps', ha⟩ := ps.last
        rw [List.map_append] at hp
        have pa : a ≠ p := ne_of ha hp tup_ne_lst
        have hla : as'.length ≤ 100000 := by rw [List.length_append] at hl1; omega
        refine ite_b (c := True) (by simp) (fun _ => ?_) (fun z => absurd trivial z)
        refine ⟨_, rfl, _, rfl, _, _, _, _, rfl, rfl, SqL.of hp, atI_last _ _, _, _, _, _, rfl, rfl, SqT.of ha, atI_nat (j := 0) rfl, _, rfl, rfl, _, rfl, ?_⟩
        refine ite_b (c := q0.1 = c) (decide_eq_decide.mpr eq_mk1) (fun hc => ?_) (fun hc => ?_)
        · rw [if_pos hc] at hrun
          refine ⟨_, rfl, _, rfl, _, rfl, _, _, _, _, rfl, rfl, SqL.of hp, atI_last _ _, _, _, _, _, rfl, rfl, SqT.of ha, atI_nat (j := 1) rfl, _, _, rfl, rfl, (by show 2 ≤ sizeLine; decide), fun t nt => ?_⟩
          have pt : p ≠ t := ne_of_none hp nt
          refine ⟨_, rfl, _, rfl, p, _, _, as'.length, rfl, rfl, (by rw [upd_ne pt]; exact hp), ?_, ?_⟩
          · exact ixN_last _ _ _ (List.length_map _)
          · refine ⟨as' ++ [t], _, rfl, fun b o hb => ?_, ?_, ?_⟩
            · rw [upd_ne (ne_of_none hb np), upd_ne (ne_of_none (sm b o hb) nt)]
              exact sm b o hb
            · rw [upd_same]
              simp
            · rw [hrun]
              refine Pairs.snoc (ps'.mono fun b u hb => ?_) ?_
              · rw [upd_ne (ne_of hb hp tup_ne_lst), upd_ne (ne_of_none hb nt)]
                exact hb
              · rw [upd_ne (Ne.symm pt), upd_same]
                rfl
        · rw [if_neg hc] at hrun
          refine ⟨_, rfl, .inl ⟨rfl, _, SqL.of hp⟩, _, rfl, (by show 2 ≤ sizeLine; decide), fun t nt => ?_⟩
          have pt : p ≠ t := ne_of_none hp nt
          refine ⟨p, _, _, rfl, rfl, (by rw [upd_ne pt]; exact hp), (line_of (by rw [List.length_append, List.length_map]; show as'.length + 1 ≤ 1000000; omega)), ?_⟩
          refine ⟨as' ++ [a] ++ [t], _, rfl, fun b o hb => ?_, ?_, ?_⟩
          · rw [upd_ne (ne_of_none hb np), upd_ne (ne_of_none (sm b o hb) nt)]
            exact sm b o hb
          · rw [upd_same]
            simp
          · rw [hrun]
            refine Pairs.snoc (ps.mono fun b u hb => ?_) ?_
            · rw [upd_ne (ne_of hb hp tup_ne_lst), upd_ne (ne_of_none hb nt)]
              exact hb
            · rw [upd_ne (Ne.symm pt), upd_same]
              rfl
    · rintro σ H1 ⟨as, y2, rfl, sm, hp, ps⟩
      rw [mk_size, List.take_length] at ps
      exact ⟨_, rfl, q H1 p as sm np hp ps⟩
end
end Tw

set_option Elab.async false
set_option linter.all false
set_option maxRecDepth 100000
set_option maxHeartbeats 2000000
namespace Tw
open PySem PySem.Spec PyProof.Rows L2
abbrev s_law_size : Stmt := topS 41
abbrev s_law_least : Stmt := topS 42
section
variable {P : Program} {w : World} {K : PySem.W.Frag} {mg : Str → Option Value} {base : Heap}
theorem sc_law_size : FnScope ["row"] ["row"] (defScope s_law_size) := ⟨rfl, rfl, rfl, by decide +kernel, rfl, by decide +kernel, by decide +kernel⟩
theorem sc_law_least : FnScope ["sieves", "span", "length", "pairs", "one"] ["sieves", "span"] (defScope s_law_least) := ⟨rfl, rfl, rfl, by decide +kernel, rfl, by decide +kernel, by decide +kernel⟩
theorem ok_lsize {f fR : Addr} {fd fdR : FuncData} {k : Nat} (F : Fun K "_law_size" "_law_size" s_law_size f fd) (D_law_runs : Dfn K mg "_law_runs" s_law_runs ["row"] fR fdR) (m_len : mg "len" = none) : FnOk P w K mg base CX0 (k + 2) f fd ["row"] spLSize := by
  have G_law_runs : FnOk P w K mg base CX0 (k + 1) fR fdR ["row"] spLRuns := ok_lruns D_law_runs.F
  refine F.ok sc_law_size (fun vs H Q E h => ?_) (fun cdv A outer s H vs Q E hr h => ?_)
  · obtain ⟨l, rfl, _⟩ := h
    rfl
  · obtain ⟨l, rfl, hlen, low, q⟩ := h
    refine ⟨_, (pss_one (ps_ret (pe_tup (pa_cons (pe_callB call_len_str (by rfl) m_len PySem.boot_len (pa_cons (pv 0) pa_nil)) (pa_cons (pe_op op_sub (pe_callB call_len_str (by rfl) m_len PySem.boot_len (pa_cons (pv 0) pa_nil)) (pe_callB call_len_seq (by rfl) m_len PySem.boot_len (pa_cons (pe_call G_law_runs hr rfl D_law_runs.g D_law_runs.F.kp D_law_runs.b .nil pass0 (pa_cons (pv 0) pa_nil)) pa_nil))) pa_nil))))), ?_⟩
    have hz : (mk l).length ≤ sizeLine := by rw [mk_len]; exact Nat.le_of_lt (line_of (by omega))
    refine ⟨_, rfl, _, rfl, hz, _, rfl, _, rfl, hz, _, rfl, l, rfl, hlen, low, fun H1 p as sm1 np hp ps => ?_⟩
    refine ⟨p, _, rfl, .inl (SqL.of hp), _, _, rfl, rfl, (by show 2 ≤ sizeLine; decide), fun t nt => ?_⟩
    refine q _ t (sm1.trans (same_upd nt)) (sm1.free nt) ?_
    rw [upd_same, mk_len]
    have h1 := runs_len l
    have h2 := ps.len
    rw [List.length_map]
    have e : ((l.length : Nat) : Int) - (as.length : Nat) = (pairs l : Nat) := by omega
    show some (HO.tup [V.int ((l.length : Nat) : Int), V.int (((l.length : Nat) : Int) - (as.length : Nat))]) = _
    rw [e]
theorem ok_lleast {f : Addr} {fd : FuncData} {k : Nat} (F : Fun K "_law_least" "_law_least" s_law_least f fd) : FnOk P w K mg base CX0 (k + 1) f fd ["sieves", "span"] (spLLeast K) := by
  refine F.ok sc_law_least (fun vs H Q E h => ?_) (fun cdv A outer s H vs Q E hr h => ?_)
  · obtain ⟨p, t, n, e, rfl, _⟩ := h
    rfl
  · obtain ⟨p, t, n, e, rfl, hp, hpl, ht, q⟩ := h
    refine ⟨_, (pss_cons (ps_asg (pv 1) (pg_tup2 rfl (pg_name (i := 2) sc_law_least.nd rfl (.inl rfl) (.inl rfl)) (pg_name (i := 3) sc_law_least.nd rfl (.inl rfl) (.inl rfl))))
 (pss_cons (ps_for PassesOwn.never rfl (pi_str (pe_revS (pv 0))) (pg_name (i := 4) sc_law_least.nd rfl (.inl rfl))
  (pss_one (ps_if (pt_cmpR op_eq (pv 4) pe_str (nomark _)) (pss_one (ps_par (i := 2) (j := 3) rfl sc_law_least.nd rfl rfl (by decide) rfl rfl (pa_cons (pe_op op_add (pe_op op_mul pe_int (pv 2)) (pv 3)) (pa_cons (pv 2) pa_nil)) (by rfl))) (pss_one (ps_par (i := 2) (j := 3) rfl sc_law_least.nd rfl rfl (by decide) rfl rfl (pa_cons (pe_op op_add (pv 2) (pe_op op_mul pe_int (pv 3))) (pa_cons (pv 3) pa_nil)) (by rfl))))))
 (pss_one (ps_ret (pe_tup (pa_cons (pv 2) (pa_cons (pv 3) pa_nil))))))), ?_⟩
    refine ⟨_, rfl, t, _, rfl, ht, rfl, _, _, rfl, _, _, rfl, rfl, ?_⟩
    refine ⟨_, rfl, _, rfl, Nat.le_of_lt (line_of (by omega)), ?_⟩
    refine ⟨_, rfl, for_it walk_str (fun i σ H' => ∃ y4, σ = [some (.str (mk p)), some (.ref t), some (.int ((growS (p.reverse.take i).reverse (n, e)).1 : Nat)), some (.int ((growS (p.reverse.take i).reverse (n, e)).2 : Nat)), y4] ∧ Same H H')
      ⟨none, rfl, Same.refl H⟩ (fun _ _ _ _ _ => trivial) ?_ ?_⟩
    · rintro i x σ H1 H2 hi ⟨y4, rfl, sm⟩ ⟨rfl, c, hc, rfl⟩
      rw [mk_size] at hi
      have gi : p.reverse[i]? = some c := by
        have := hc
        simpa [mk] using this
      have hcp := hp c (List.mem_reverse.mp (List.mem_of_getElem? gi))
      have ed : (p.reverse.take (i + 1)).reverse = c :: (p.reverse.take i).reverse := by
        rw [List.take_add_one, gi]
        simp
      have eg := growS_cons c (p.reverse.take i).reverse (n, e)
      rw [ed]
      generalize growS (p.reverse.take i).reverse (n, e) = z at eg ⊢
      refine ⟨_, rfl, rfl, _, rfl, ?_⟩
      rw [show (⟨#[c]⟩ : Str) = mk [c] from rfl, sign_T]
      refine ite2 (fun h => ?_) (fun h => ?_)
      · have h := of_decide_eq_true h
        subst h
        refine ⟨_, rfl, _, _, rfl, rfl, .inl ⟨by decide, by decide⟩, _, rfl, _, _, rfl, rfl, _, rfl, _, _, rfl, ?_⟩
        refine ⟨some (.str (mk [84])), ?_, sm⟩
        rw [eg]
        rfl
      · have h : ¬ c = 84 := fun z => h (decide_eq_true z)
        have h83 : c = 83 := by rcases hcp with e | e; exact absurd e h; exact e
        subst h83
        refine ⟨_, rfl, _, rfl, _, _, rfl, rfl, .inl ⟨by decide, by decide⟩, _, _, rfl, rfl, _, rfl, _, _, rfl, ?_⟩
        refine ⟨some (.str (mk [83])), ?_, sm⟩
        rw [eg]
        rfl
    · rintro σ H1 ⟨y4, rfl, sm⟩
      rw [mk_size, List.take_length, List.reverse_reverse]
      exact ⟨_, rfl, _, rfl, (by show 2 ≤ sizeLine; decide), fun r nr => q _ r (sm.trans (same_upd nr)) (sm.free nr) upd_same⟩
end
end Tw

set_option Elab.async false
set_option linter.all false
set_option maxRecDepth 100000
set_option maxHeartbeats 2000000
namespace Tw
open PySem PySem.Spec PyProof.Rows L2
abbrev s_law_sieves : Stmt := topS 43
abbrev s_law_row : Stmt := topS 44
section
variable {P : Program} {w : World} {K : PySem.W.Frag} {mg : Str → Option Value} {base : Heap}
theorem sc_law_sieves : FnScope ["source", "most", "way", "found", "time", "some"] ["source", "most"] (defScope s_law_sieves) := ⟨rfl, rfl, rfl, by decide +kernel, rfl, by decide +kernel, by decide +kernel⟩
theorem sc_law_row : FnScope ["source", "most", "kinds_here", "found", "time", "letter"] ["source", "most", "kinds_here"] (defScope s_law_row) := ⟨rfl, rfl, rfl, by decide +kernel, rfl, by decide +kernel, by decide +kernel⟩
theorem lit_at {z : Str} {ws : List Nat} (e : z.cps.toList = ws) {v : Int} (h0 : 0 ≤ v) (h1 : v < ws.length) : ∃ c, c ∈ ws ∧ atI z.cps.toList v = some c := by
  obtain ⟨j, rfl⟩ := Int.eq_ofNat_of_zero_le h0
  have hj : j < ws.length := by omega
  rw [e]
  exact ⟨ws[j], List.getElem_mem hj, atI_nat (List.getElem?_eq_getElem hj)⟩
theorem lit_TS : (Str.ofString "TS").cps.toList = [84, 83] := by decide +kernel
theorem lit_TTTS : (Str.ofString "TTTS").cps.toList = [84, 84, 84, 83] := by decide +kernel
theorem lit_SSST : (Str.ofString "SSST").cps.toList = [83, 83, 83, 84] := by decide +kernel
theorem len_TTTS : (Str.ofString "TTTS").length ≤ sizeLine := by
  have e : (Str.ofString "TTTS").length = 4 := by decide +kernel
  rw [e, sizeLine_eq]; decide
theorem len_SSST : (Str.ofString "SSST").length ≤ sizeLine := by
  have e : (Str.ofString "SSST").length = 4 := by decide +kernel
  rw [e, sizeLine_eq]; decide
theorem ok_lsieves {f fD : Addr} {fd fdD : FuncData} {k : Nat} (F : Fun K "_law_sieves" "_law_sieves" s_law_sieves f fd) (D_law_draw : Dfn K mg "_law_draw" s_law_draw ["source", "many"] fD fdD) (m_range : mg "range" = none) : FnOk P w K mg base CX0 (k + 2) f fd ["source", "most"] spLSieves := by
  have G_law_draw : FnOk P w K mg base CX0 (k + 1) fD fdD ["source", "many"] spSDraw := ok_sdraw D_law_draw.F
  refine F.ok sc_law_sieves (fun vs H Q E h => ?_) (fun cdv A outer s H vs Q E hr h => ?_)
  · obtain ⟨r, g, n, c, rfl, _⟩ := h
    rfl
  · obtain ⟨r, g, n, c, rfl, hn, S0, hc, q⟩ := h
    refine ⟨_, (pss_cons (ps_set (i := 2) sc_law_sieves.nd rfl (.inl rfl) (pe_call G_law_draw hr rfl D_law_draw.g D_law_draw.F.kp D_law_draw.b .nil pass0 (pa_cons (pv 0) (pa_cons pe_int pa_nil))))
 (pss_cons (ps_set (i := 3) sc_law_sieves.nd rfl (.inl rfl) pe_str)
 (pss_cons (ps_for PassesOwn.never rfl (pi_range1 (by rfl) m_range (pa_cons (pe_call G_law_draw hr rfl D_law_draw.g D_law_draw.F.kp D_law_draw.b .nil pass0 (pa_cons (pv 0) (pa_cons (pe_op op_add (pv 1) pe_int) pa_nil))) pa_nil)) (pg_name (i := 4) sc_law_sieves.nd rfl (.inl rfl))
  (pss_cons (ps_set (i := 5) sc_law_sieves.nd rfl (.inl rfl) (pe_lst (pa_cons (pe_ix ix_str pe_str (pe_call G_law_draw hr rfl D_law_draw.g D_law_draw.F.kp D_law_draw.b .nil pass0 (pa_cons (pv 0) (pa_cons pe_int pa_nil))) (fun _ _ => rfl)) (pa_cons (pe_ix ix_str pe_str (pe_call G_law_draw hr rfl D_law_draw.g D_law_draw.F.kp D_law_draw.b .nil pass0 (pa_cons (pv 0) (pa_cons pe_int pa_nil))) (fun _ _ => rfl)) (pa_cons (pe_ix ix_str pe_str (pe_call G_law_draw hr rfl D_law_draw.g D_law_draw.F.kp D_law_draw.b .nil pass0 (pa_cons (pv 0) (pa_cons pe_int pa_nil))) (fun _ _ => rfl)) (pa_cons (pe_ix ix_str pe_str (pe_op op_mod (pv 4) pe_int) (fun _ _ => rfl)) pa_nil))))))
 (pss_one (ps_set (i := 3) sc_law_sieves.nd rfl (.inl rfl) (pe_op op_add_str (pv 3) (pe_ix ix_list (pv 5) (pv 2) (fun _ _ => rfl)))))))
 (pss_one (ps_ret (pv 3)))))), ?_⟩
    refine ⟨_, rfl, r, g, 4, _, rfl, S0, ⟨by decide, by decide⟩, by omega, fun H1 v1 sm1 S1 v10 v11 => ?_⟩
    have lgn : ((n : Int) + 1).natAbs.log2 < 9000 := by have := log2_le_of (i := (n : Int) + 1) (n := 64) (by omega) (by omega); omega
    refine ⟨_, rfl, _, rfl, _, _, rfl, rfl, r, g, _, _, rfl, S1, ⟨by omega, lgn⟩, by omega, fun H2 v2 sm2 S2 v20 v21 => ?_⟩
    obtain ⟨j, rfl⟩ := Int.eq_ofNat_of_zero_le v20
    refine ⟨((j : Nat) : Int), rfl, by omega, by omega, for_range (n := j) (fun i σ H' => ∃ y4 y5 p, σ = [some (.ref r), some (.int (n : Nat)), some (.int v1), some (.str (mk p)), y4, y5] ∧ SameBG r g H H' ∧ Src r g (c + 2 + 3 * (i : Nat)) H' ∧ Pipe p ∧ p.length = i)
      ⟨none, none, [], by rw [empty_eq]; rfl, sm1.trans sm2, S2.mono (by omega), (fun x hx => by cases hx), rfl⟩ ?_ ?_⟩
    · rintro i σ H3 hi ⟨y4, y5, p, rfl, sm3, S3, hp, lp⟩
      have two : (2 : Int).natAbs.log2 < 9000 := by decide
      have four : (4 : Int).natAbs.log2 < 9000 := by decide
      refine ⟨_, rfl, r, g, 2, _, rfl, S3, ⟨by decide, two⟩, by omega, fun H4 v4 sm4 S4 v40 v41 => ?_⟩
      obtain ⟨x4, m4, a4⟩ := lit_at lit_TS v40 v41
      refine ⟨_, _, x4, rfl, rfl, TS_len, a4, ?_⟩
      refine ⟨_, rfl, r, g, 4, _, rfl, S4, ⟨by decide, four⟩, by omega, fun H5 v5 sm5 S5 v50 v51 => ?_⟩
      obtain ⟨x5, m5, a5⟩ := lit_at lit_TTTS v50 v51
      refine ⟨_, _, x5, rfl, rfl, len_TTTS, a5, ?_⟩
      refine ⟨_, rfl, r, g, 4, _, rfl, S5, ⟨by decide, four⟩, by omega, fun H6 v6 sm6 S6 v60 v61 => ?_⟩
      obtain ⟨x6, m6, a6⟩ := lit_at lit_SSST v60 v61
      refine ⟨_, _, x6, rfl, rfl, len_SSST, a6, ?_⟩
      have e7 := emod_both (0 + (i : Int)) (b := 2) (by decide)
      obtain ⟨x7, m7, a7⟩ := lit_at lit_TS e7.1 e7.2
      refine ⟨_, rfl, _, _, rfl, rfl, (by show (0 : Int) < 2; decide), _, _, x7, rfl, rfl, TS_len, a7, ?_⟩
      refine ⟨(by show 4 ≤ sizeLine; decide), fun L nL => ?_⟩
      have sL := same_upd (o := .lst [V.str ⟨#[x4]⟩, V.str ⟨#[x5]⟩, V.str ⟨#[x6]⟩, V.str ⟨#[x7]⟩]) nL
      have ts : ∀ x ∈ ([84, 83] : List Nat), x = 84 ∨ x = 83 := by decide
      have ts2 : ∀ x ∈ ([84, 84, 84, 83] : List Nat), x = 84 ∨ x = 83 := by decide
      have ts3 : ∀ x ∈ ([83, 83, 83, 84] : List Nat), x = 84 ∨ x = 83 := by decide
      obtain ⟨x, hx, ax⟩ : ∃ x : Nat, (x = 84 ∨ x = 83) ∧ atI [V.str ⟨#[x4]⟩, V.str ⟨#[x5]⟩, V.str ⟨#[x6]⟩, V.str ⟨#[x7]⟩] v1 = some (V.str (mk [x])) := by
        obtain ⟨w, rfl⟩ := Int.eq_ofNat_of_zero_le v10
        have hw : w = 0 ∨ w = 1 ∨ w = 2 ∨ w = 3 := by omega
        rcases hw with e | e | e | e <;> subst e
        · exact ⟨x4, ts _ m4, atI_nat rfl⟩
        · exact ⟨x5, ts2 _ m5, atI_nat rfl⟩
        · exact ⟨x6, ts3 _ m6, atI_nat rfl⟩
        · exact ⟨x7, ts _ m7, atI_nat rfl⟩
      refine ⟨_, rfl, _, rfl, _, rfl, _, _, _, _, rfl, rfl, SqL.of upd_same, ax, _, _, rfl, rfl, (by rw [mk_len, mk_len]; exact Nat.le_of_lt (line_of (by show _ + 1 ≤ _; omega))), ?_⟩
      rw [mk_app]
      refine ⟨_, _, p ++ [x], rfl, sm3.trans (sm4.trans (sm5.trans (sm6.trans (Same.bg sL)))), (S6.same sL).mono (by omega), fun y hy => ?_, by rw [List.length_append, lp]; rfl⟩
      rcases List.mem_append.mp hy with hy | hy
      · exact hp y hy
      · rw [List.mem_singleton.mp hy]; exact hx
    · rintro σ H3 ⟨y4, y5, p, rfl, sm3, S3, hp, lp⟩
      exact ⟨_, rfl, q H3 p sm3 (S3.mono (by omega)) hp (by omega)⟩
theorem lit_az : (Str.ofString "abcdefghijklmnopqrstuvwxyz").cps.toList = (List.range 26).map (97 + ·) := by decide +kernel
theorem len_az : (Str.ofString "abcdefghijklmnopqrstuvwxyz").length ≤ sizeLine := by
  have e : (Str.ofString "abcdefghijklmnopqrstuvwxyz").length = 26 := by decide +kernel
  rw [e, sizeLine_eq]; decide
theorem az_at {w : Nat} (h : w < 26) : atI (Str.ofString "abcdefghijklmnopqrstuvwxyz").cps.toList ((w : Nat) : Int) = some (97 + w) := by
  rw [lit_az]
  refine atI_nat ?_
  rw [List.getElem?_map, List.getElem?_range h]
  rfl
/-- the letter, or the one before it -/
theorem at_back (l : List Nat) (x : Nat) : ∃ y, atI (mk (l ++ [x])).cps.toList (-1 - (if (!decide (V.str (mk l) = V.str (Str.ofString ""))) = true then 1 else 0)) = some y ∧ (y = x ∨ y ∈ l) := by
  rw [empty_eq, mk_eq]
  show ∃ y, atI (l ++ [x]) _ = some y ∧ _
  by_cases h : l = []
  · subst h
    exact ⟨x, atI_last [] x, .inl rfl⟩
  · rw [decide_eq_false h]
    obtain ⟨l', y, rfl⟩ : ∃ l' y, l = l' ++ [y] := ⟨l.dropLast, l.getLast h, (List.dropLast_concat_getLast h).symm⟩
    refine ⟨y, ?_, .inr (by simp)⟩
    show atI (l' ++ [y] ++ [x]) (-1 - 1) = some y
    have e : ixN (l' ++ [y] ++ [x]).length (-1 - 1) = some l'.length := by
      unfold ixN
      rw [if_neg (by decide), List.length_append, List.length_append]
      show (if -((l'.length + 1 + 1 : Nat) : Int) ≤ -1 - 1 then _ else _) = _
      rw [if_pos (by omega)]
      congr 1
      show (((l'.length + 1 + 1 : Nat) : Int) + (-1 - 1)).toNat = _
      omega
    unfold atI
    rw [e]
    show (l' ++ [y] ++ [x])[l'.length]? = some y
    simp
theorem ok_lrow {f fD : Addr} {fd fdD : FuncData} {k : Nat} (F : Fun K "_law_row" "_law_row" s_law_row f fd) (D_law_draw : Dfn K mg "_law_draw" s_law_draw ["source", "many"] fD fdD) (m_range : mg "range" = none) (m_int : mg "int" = none) : FnOk P w K mg base CX0 (k + 2) f fd ["source", "most", "kinds_here"] spLRow := by
  have G_law_draw : FnOk P w K mg base CX0 (k + 1) fD fdD ["source", "many"] spSDraw := ok_sdraw D_law_draw.F
  refine F.ok sc_law_row (fun vs H Q E h => ?_) (fun cdv A outer s H vs Q E hr h => ?_)
  · obtain ⟨r, g, n, kk, c, rfl, _⟩ := h
    rfl
  · obtain ⟨r, g, n, kk, c, rfl, hn, ⟨k1, k26⟩, S0, hc, q⟩ := h
    refine ⟨_, (pss_cons (ps_set (i := 3) sc_law_row.nd rfl (.inl rfl) pe_str)
 (pss_cons (ps_for PassesOwn.never rfl (pi_range1 (by rfl) m_range (pa_cons (pe_call G_law_draw hr rfl D_law_draw.g D_law_draw.F.kp D_law_draw.b .nil pass0 (pa_cons (pv 0) (pa_cons (pe_op op_add (pv 1) pe_int) pa_nil))) pa_nil)) (pg_name (i := 4) sc_law_row.nd rfl (.inl rfl))
  (pss_cons (ps_set (i := 5) sc_law_row.nd rfl (.inl rfl) (pe_ix ix_str pe_str (pe_call G_law_draw hr rfl D_law_draw.g D_law_draw.F.kp D_law_draw.b .nil pass0 (pa_cons (pv 0) (pa_cons (pv 2) pa_nil))) (fun _ _ => rfl)))
 (pss_one (ps_set (i := 3) sc_law_row.nd rfl (.inl rfl) (pe_op op_add_str (pv 3) (pe_ix ix_list (pe_lst (pa_cons (pv 5) (pa_cons (pe_ix ix_str (pe_op op_add_str (pv 3) (pv 5)) (pe_op op_sub (pe_un un_neg pe_int) (pe_callTy call_int1 (by rfl) m_int (by decide +kernel) (pa_cons (pe_cmpR op_ne (pv 3) pe_str (nomark _)) pa_nil))) (fun _ _ => rfl)) pa_nil))) (pe_call G_law_draw hr rfl D_law_draw.g D_law_draw.F.kp D_law_draw.b .nil pass0 (pa_cons (pv 0) (pa_cons pe_int pa_nil))) (fun _ _ => rfl)))))))
 (pss_one (ps_ret (pv 3))))), ?_⟩
    have lgn : ((n : Int) + 1).natAbs.log2 < 9000 := by have := log2_le_of (i := (n : Int) + 1) (n := 64) (by omega) (by omega); omega
    have lgk : (kk : Int).natAbs.log2 < 9000 := by have := log2_le_of (i := kk) (n := 64) (by omega) (by omega); omega
    refine ⟨_, rfl, _, rfl, _, _, rfl, rfl, r, g, _, _, rfl, S0, ⟨by omega, lgn⟩, by omega, fun H2 v2 sm2 S2 v20 v21 => ?_⟩
    obtain ⟨j, rfl⟩ := Int.eq_ofNat_of_zero_le v20
    refine ⟨((j : Nat) : Int), rfl, by omega, by omega, for_range (n := j) (fun i σ H' => ∃ y4 y5 l, σ = [some (.ref r), some (.int (n : Nat)), some (.int kk), some (.str (mk l)), y4, y5] ∧ SameBG r g H H' ∧ Src r g (c + 1 + 2 * (i : Nat)) H' ∧ Kinds kk l ∧ l.length = i)
      ⟨none, none, [], by rw [empty_eq]; rfl, sm2, S2.mono (by omega), (fun x hx => by cases hx), rfl⟩ ?_ ?_⟩
    · rintro i σ H3 hi ⟨y4, y5, l, rfl, sm3, S3, hl, ll⟩
      refine ⟨_, rfl, _, rfl, r, g, kk, _, rfl, S3, ⟨by omega, lgk⟩, by omega, fun H4 v4 sm4 S4 v40 v41 => ?_⟩
      obtain ⟨w4, rfl⟩ := Int.eq_ofNat_of_zero_le v40
      refine ⟨_, _, 97 + w4, rfl, rfl, len_az, az_at (by omega), ?_⟩
      rw [show (⟨#[97 + w4]⟩ : Str) = mk [97 + w4] from rfl]
      have hz1 : (mk l).length + (mk [97 + w4]).length ≤ sizeLine := by rw [mk_len, mk_len]; exact Nat.le_of_lt (line_of (by show _ + 1 ≤ _; omega))
      refine ⟨_, rfl, _, rfl, _, rfl, _, rfl, _, _, rfl, rfl, hz1, ?_⟩
      rw [mk_app]
      obtain ⟨y, ay, hy⟩ := at_back l (97 + w4)
      refine ⟨_, rfl, _, rfl, rfl, .inr ⟨_, rfl, _, _, rfl, rfl, _, _, y, rfl, rfl, (by rw [mk_len, List.length_append]; exact Nat.le_of_lt (line_of (by show _ + 1 ≤ _; omega))), ay, ?_⟩⟩
      rw [show (⟨#[y]⟩ : Str) = mk [y] from rfl]
      refine ⟨(by show 2 ≤ sizeLine; decide), fun L nL => ?_⟩
      have sL := same_upd (o := .lst [V.str (mk [97 + w4]), V.str (mk [y])]) nL
      obtain ⟨nLr, nLg⟩ := S4.ne nL
      refine ⟨_, rfl, r, g, 2, _, rfl, S4.same sL, ⟨by decide, by decide⟩, by omega, fun H5 v5 sm5 S5 v50 v51 => ?_⟩
      have kx : 97 ≤ 97 + w4 ∧ ((97 + w4 : Nat) : Int) < 97 + kk := by omega
      have ky : 97 ≤ y ∧ ((y : Nat) : Int) < 97 + kk := by
        rcases hy with e | e
        · rw [e]; exact kx
        · exact hl y e
      obtain ⟨x, hx, ax⟩ : ∃ x : Nat, (97 ≤ x ∧ ((x : Nat) : Int) < 97 + kk) ∧ atI [V.str (mk [97 + w4]), V.str (mk [y])] v5 = some (V.str (mk [x])) := by
        obtain ⟨w5, rfl⟩ := Int.eq_ofNat_of_zero_le v50
        have hw : w5 = 0 ∨ w5 = 1 := by omega
        rcases hw with e | e <;> subst e
        · exact ⟨97 + w4, kx, atI_nat rfl⟩
        · exact ⟨y, ky, atI_nat rfl⟩
      refine ⟨L, _, _, _, rfl, rfl, SqL.of (sm5 _ _ nLr nLg upd_same), ax, _, _, rfl, rfl, (by rw [mk_len, mk_len]; exact Nat.le_of_lt (line_of (by show _ + 1 ≤ _; omega))), ?_⟩
      rw [mk_app]
      refine ⟨_, _, l ++ [x], rfl, sm3.trans (sm4.trans ((Same.bg sL).trans sm5)), S5.mono (by omega), fun z hz => ?_, by rw [List.length_append, ll]; rfl⟩
      rcases List.mem_append.mp hz with hz | hz
      · exact hl z hz
      · rw [List.mem_singleton.mp hz]; exact hx
    · rintro σ H3 ⟨y4, y5, l, rfl, sm3, S3, hl, ll⟩
      exact ⟨_, rfl, q H3 l sm3 (S3.mono (by omega)) hl (by omega)⟩
end
end Tw

set_option Elab.async false
set_option linter.all false
set_option maxRecDepth 100000
set_option maxHeartbeats 2000000
namespace Tw
open PySem PySem.Spec PyProof.Rows L2
/-! values that are alike, part by part -/
def UpR (R : Hp → V → V → Prop) (H : Hp) (x y : V) : Prop :=
  (x = .non ∧ y = .non) ∨ (∃ b, x = .bl b ∧ y = .bl b) ∨ (∃ i, x = .int i ∧ y = .int i) ∨ (∃ s, x = .str s ∧ y = .str s) ∨
  (∃ a b xs ys, x = .ref a ∧ y = .ref b ∧ H a = some (.lst xs) ∧ H b = some (.lst ys) ∧ xs.length = ys.length ∧ xs.length ≤ 1000 ∧ ∀ (i : Nat) (u v : V), xs[i]? = some u → ys[i]? = some v → R H u v) ∨
  (∃ a b xs ys, x = .ref a ∧ y = .ref b ∧ H a = some (.tup xs) ∧ H b = some (.tup ys) ∧ xs.length = ys.length ∧ xs.length ≤ 1000 ∧ ∀ (i : Nat) (u v : V), xs[i]? = some u → ys[i]? = some v → R H u v)
def MonoR (R : Hp → V → V → Prop) : Prop := ∀ H H' x y, Same H H' → R H x y → R H' x y
theorem upR_mono {R : Hp → V → V → Prop} (h : MonoR R) : MonoR (UpR R) := by
  intro H H' x y sm hx
  rcases hx with z | z | z | z | ⟨a, b, xs, ys, e1, e2, h1, h2, h3, h4, h5⟩ | ⟨a, b, xs, ys, e1, e2, h1, h2, h3, h4, h5⟩
  · exact .inl z
  · exact .inr (.inl z)
  · exact .inr (.inr (.inl z))
  · exact .inr (.inr (.inr (.inl z)))
  · exact .inr (.inr (.inr (.inr (.inl ⟨a, b, xs, ys, e1, e2, sm _ _ h1, sm _ _ h2, h3, h4, fun i u v hu hv => h _ _ _ _ sm (h5 i u v hu hv)⟩))))
  · exact .inr (.inr (.inr (.inr (.inr ⟨a, b, xs, ys, e1, e2, sm _ _ h1, sm _ _ h2, h3, h4, fun i u v hu hv => h _ _ _ _ sm (h5 i u v hu hv)⟩))))
def NoR : Hp → V → V → Prop := fun _ _ _ => False
theorem noR_mono : MonoR NoR := fun _ _ _ _ _ h => h
def spSameR (R : Hp → V → V → Prop) : Sp := fun vs H Q _ => ∃ x y, vs = [x, y] ∧ R H x y ∧ ∀ H', Same H H' → Q (.bl true) H'
structure KTy (K : PySem.W.Frag) : Prop where
  bb : PySem.W.kitOne K (.type "bool") (.type "bool") = some true
  ib : PySem.W.kitOne K (.type "int") (.type "bool") = some false
  ii : PySem.W.kitOne K (.type "int") (.type "int") = some true
  sb : PySem.W.kitOne K (.type "str") (.type "bool") = some false
  si : PySem.W.kitOne K (.type "str") (.type "int") = some false
  ss : PySem.W.kitOne K (.type "str") (.type "str") = some true
  lb : PySem.W.kitOne K (.type "list") (.type "bool") = some false
  li : PySem.W.kitOne K (.type "list") (.type "int") = some false
  ls : PySem.W.kitOne K (.type "list") (.type "str") = some false
  ll : PySem.W.kitOne K (.type "list") (.type "list") = some true
  lt : PySem.W.kitOne K (.type "list") (.type "tuple") = some false
  tb : PySem.W.kitOne K (.type "tuple") (.type "bool") = some false
  ti : PySem.W.kitOne K (.type "tuple") (.type "int") = some false
  ts : PySem.W.kitOne K (.type "tuple") (.type "str") = some false
  tl : PySem.W.kitOne K (.type "tuple") (.type "list") = some false
  tt : PySem.W.kitOne K (.type "tuple") (.type "tuple") = some true
end Tw
namespace Tw
open PySem PySem.Spec PyProof.Rows L2
def spLShorter : Sp := fun vs H Q _ => ∃ (p l : List Nat) (m : Nat), vs = [.str (mk p), .str (mk l), .int (m : Nat)] ∧ Pipe p ∧ p.length ≤ 1000 ∧ Low l ∧ l.length ≤ m ∧ l.length ≤ 1000 ∧
  ∀ H' j, Same H H' → (growS (p.drop j) (sizeS l)).1 ≤ m → Q (.str (mk (p.drop j))) H'
def spLPow : Sp := fun vs H Q _ => ∃ (b : Int) (m : Nat), vs = [.int b, .int (m : Nat)] ∧ (0 ≤ b ∧ b ≤ 1000) ∧ m ≤ 100000 ∧ ∀ H', Same H H' → Q (.int (b ^ m)) H'
/-- the letters that separate equal ones, over all sieves -/
def sepN (p : List Nat) (z : Nat × Nat) : Nat := match p with
  | [] => 0
  | _ :: r => sepN r z + (growS r z).2
def spLSep (K : PySem.W.Frag) : Sp := fun vs H Q _ => ∃ (p : List Nat) (t : Addr) (a b : Nat), vs = [.str (mk p), .ref t] ∧ Pipe p ∧ p.length ≤ 1000 ∧ SqT K H t [V.int (a : Nat), V.int (b : Nat)] ∧
  ∀ H', Same H H' → Q (.int (sepN p (a, b) : Nat)) H'
end Tw

set_option Elab.async false
set_option linter.all false
set_option maxRecDepth 100000
set_option maxHeartbeats 2000000
namespace Tw
open PySem PySem.Spec PyProof.Rows L2
abbrev s_law_same : Stmt := topS 38
section
variable {P : Program} {w : World} {K : PySem.W.Frag} {mg : Str → Option Value} {base : Heap}
theorem sc_law_same : FnScope ["found", "wanted", "k"] ["found", "wanted"] (defScope s_law_same) := ⟨rfl, rfl, rfl, by decide +kernel, rfl, by decide +kernel, by decide +kernel⟩
theorem no_fn {f : Addr} {fd : FuncData} {k : Nat} (F : Fun K "_law_same" "_law_same" s_law_same f fd) : FnOk P w K mg base CX0 k f fd ["found", "wanted"] (spSameR NoR) := by
  constructor
  · rintro vs H Q E ⟨x, y, rfl, h, _⟩
    exact h.elim
  · rintro A outer s H args us vs Q E hr e0 hb r ⟨x, y, rfl, h, _⟩
    exact h.elim
theorem ok_same_up {R : Hp → V → V → Prop} (mR : MonoR R) (T : KTy K) {f : Addr} {fd : FuncData} {k : Nat} (D_law_same : Dfn K mg "_law_same" s_law_same ["found", "wanted"] f fd) (G_law_same : FnOk P w K mg base CX0 (k + 1) f fd ["found", "wanted"] (spSameR R))
    (m_isinstance : mg "isinstance" = none) (m_len : mg "len" = none) (m_range : mg "range" = none) (m_bool : mg "bool" = none) (m_int : mg "int" = none) (m_str : mg "str" = none) (m_list : mg "list" = none) (m_tuple : mg "tuple" = none) : FnOk P w K mg base CX0 (k + 2) f fd ["found", "wanted"] (spSameR (UpR R)) := by
  refine D_law_same.F.ok sc_law_same (fun vs H Q E h => ?_) (fun cdv A outer s H vs Q E hr h => ?_)
  · obtain ⟨x, y, rfl, _⟩ := h
    rfl
  · obtain ⟨x, y, rfl, hR, q⟩ := h
    refine ⟨_, (pss_cons (ps_if (pt_cmpR op_isN (pv 1) pe_non (nomark _)) (pss_one (ps_ret (pe_cmpR op_isN (pv 0) pe_non (nomark _)))) pss_nil)
 (pss_cons (ps_if (pt_val (pe_callB call_isi (by rfl) m_isinstance (by decide +kernel) (pa_cons (pv 1) (pa_cons (pe_bltn (v := .ty "bool") (u := .type "bool") (by rfl) m_bool (by decide +kernel) rfl) pa_nil)))) (pss_one (ps_ret (pe_and (pe_callB call_isi (by rfl) m_isinstance (by decide +kernel) (pa_cons (pv 0) (pa_cons (pe_bltn (v := .ty "bool") (u := .type "bool") (by rfl) m_bool (by decide +kernel) rfl) pa_nil))) (pe_one (pe_cmpR op_eq (pv 0) (pv 1) (nomark _)))))) pss_nil)
 (pss_cons (ps_if (pt_val (pe_callB call_isi (by rfl) m_isinstance (by decide +kernel) (pa_cons (pv 1) (pa_cons (pe_bltn (v := .ty "int") (u := .type "int") (by rfl) m_int (by decide +kernel) rfl) pa_nil)))) (pss_one (ps_ret (pe_and (pe_callB call_isi (by rfl) m_isinstance (by decide +kernel) (pa_cons (pv 0) (pa_cons (pe_bltn (v := .ty "int") (u := .type "int") (by rfl) m_int (by decide +kernel) rfl) pa_nil))) (pe_and (pe_not (pe_callB call_isi (by rfl) m_isinstance (by decide +kernel) (pa_cons (pv 0) (pa_cons (pe_bltn (v := .ty "bool") (u := .type "bool") (by rfl) m_bool (by decide +kernel) rfl) pa_nil)))) (pe_one (pe_cmpR op_eq (pv 0) (pv 1) (nomark _))))))) pss_nil)
 (pss_cons (ps_if (pt_val (pe_callB call_isi (by rfl) m_isinstance (by decide +kernel) (pa_cons (pv 1) (pa_cons (pe_bltn (v := .ty "str") (u := .type "str") (by rfl) m_str (by decide +kernel) rfl) pa_nil)))) (pss_one (ps_ret (pe_and (pe_callB call_isi (by rfl) m_isinstance (by decide +kernel) (pa_cons (pv 0) (pa_cons (pe_bltn (v := .ty "str") (u := .type "str") (by rfl) m_str (by decide +kernel) rfl) pa_nil))) (pe_one (pe_cmpR op_eq (pv 0) (pv 1) (nomark _)))))) pss_nil)
 (pss_cons (ps_if (pt_cmpR op_ne (pe_callB call_isi (by rfl) m_isinstance (by decide +kernel) (pa_cons (pv 0) (pa_cons (pe_bltn (v := .ty "list") (u := .type "list") (by rfl) m_list (by decide +kernel) rfl) pa_nil))) (pe_callB call_isi (by rfl) m_isinstance (by decide +kernel) (pa_cons (pv 1) (pa_cons (pe_bltn (v := .ty "list") (u := .type "list") (by rfl) m_list (by decide +kernel) rfl) pa_nil))) (nomark _)) (pss_one (ps_ret pe_bl)) pss_nil)
 (pss_cons (ps_if (PW.pt (pw_or (pt_cmpR op_ne (pe_callB call_isi (by rfl) m_isinstance (by decide +kernel) (pa_cons (pv 0) (pa_cons (pe_bltn (v := .ty "tuple") (u := .type "tuple") (by rfl) m_tuple (by decide +kernel) rfl) pa_nil))) (pe_callB call_isi (by rfl) m_isinstance (by decide +kernel) (pa_cons (pv 1) (pa_cons (pe_bltn (v := .ty "tuple") (u := .type "tuple") (by rfl) m_tuple (by decide +kernel) rfl) pa_nil))) (nomark _)) (pw_or1 (pt_cmpR op_ne (pe_callB call_len_seq (by rfl) m_len PySem.boot_len (pa_cons (pv 0) pa_nil)) (pe_callB call_len_seq (by rfl) m_len PySem.boot_len (pa_cons (pv 1) pa_nil)) (nomark _))))) (pss_one (ps_ret pe_bl)) pss_nil)
 (pss_one (ps_ret (pe_cmpR (op_eqD hr.units) (pe_lc (own := [("k", 2)]) (g := gName 2) (by rfl) sc_law_same.nd (pi_range1 (by rfl) m_range (pa_cons (pe_callB call_len_seq (by rfl) m_len PySem.boot_len (pa_cons (pv 1) pa_nil)) pa_nil)) (blkOk_by (N := ["found", "wanted", "k"]) (sc := defScope s_law_same) (by decide +kernel)) (fun _ _ _ _ _ => (pg_name (i := 2) sc_law_same.nd rfl (Or.inl rfl) (Or.inr rfl))) (fun _ _ _ _ _ => (pts_one (pt_not (pt_val (pe_call G_law_same hr rfl D_law_same.g D_law_same.F.kp D_law_same.b .nil pass0 (pa_cons (pe_ix (show IxR _ (rIx K) from ix_seq) (pv 0) (pv 2) (fun _ _ => rfl)) (pa_cons (pe_ix (show IxR _ (rIx K) from ix_seq) (pv 1) (pv 2) (fun _ _ => rfl)) pa_nil))))))) (fun _ _ _ _ _ => (pv 2))) (pe_lst pa_nil) (nomark _)))))))))), ?_⟩
    rcases hR with ⟨rfl, rfl⟩ | ⟨b, rfl, rfl⟩ | ⟨i, rfl, rfl⟩ | ⟨z, rfl, rfl⟩ | ⟨a, b, xs, ys, rfl, rfl, ha, hb, e, le, he⟩ | ⟨a, b, xs, ys, rfl, rfl, ha, hb, e, le, he⟩
    · refine ⟨_, rfl, rfl, _, rfl, ite_b (c := V.non = V.non) rfl (fun _ => ?_) (fun z => absurd rfl z)⟩
      refine ⟨_, rfl, rfl, ?_⟩
      exact (congrArg (fun z => Q (V.bl z) H) (decide_eq_true (p := V.non = V.non) rfl)).mpr (q H (fun _ _ h => h))
    · refine ⟨_, rfl, rfl, _, rfl, ite_b (c := V.bl b = V.non) rfl (fun z => nomatch z) (fun _ => ?_)⟩
      refine ⟨_, rfl, _, _, _, _, _, rfl, .ty _, .base (.bl _), T.bb, _, rfl, iteT ?_⟩
      refine ⟨_, rfl, _, _, _, _, _, rfl, .ty _, .base (.bl _), T.bb, _, rfl, iteT ⟨_, rfl, _, rfl, rfl, ?_⟩⟩
      exact (congrArg (fun z => Q (V.bl z) H) (decide_eq_true (p := V.bl b = V.bl b) rfl)).mpr (q H (fun _ _ h => h))
    · refine ⟨_, rfl, rfl, _, rfl, ite_b (c := V.int i = V.non) rfl (fun z => nomatch z) (fun _ => ?_)⟩
      refine ⟨_, rfl, _, _, _, _, _, rfl, .ty _, .base (.int _), T.ib, _, rfl, iteF ?_⟩
      refine ⟨_, rfl, _, _, _, _, _, rfl, .ty _, .base (.int _), T.ii, _, rfl, iteT ?_⟩
      refine ⟨_, rfl, _, _, _, _, _, rfl, .ty _, .base (.int _), T.ii, _, rfl, iteT ?_⟩
      refine ⟨_, rfl, _, _, _, _, _, rfl, .ty _, .base (.int _), T.ib, _, rfl, _, rfl, iteT ⟨_, rfl, _, rfl, rfl, ?_⟩⟩
      exact (congrArg (fun z => Q (V.bl z) H) (decide_eq_true (p := V.int i = V.int i) rfl)).mpr (q H (fun _ _ h => h))
    · refine ⟨_, rfl, rfl, _, rfl, ite_b (c := V.str z = V.non) rfl (fun z => nomatch z) (fun _ => ?_)⟩
      refine ⟨_, rfl, _, _, _, _, _, rfl, .ty _, .base (.str _), T.sb, _, rfl, iteF ?_⟩
      refine ⟨_, rfl, _, _, _, _, _, rfl, .ty _, .base (.str _), T.si, _, rfl, iteF ?_⟩
      refine ⟨_, rfl, _, _, _, _, _, rfl, .ty _, .base (.str _), T.ss, _, rfl, iteT ?_⟩
      refine ⟨_, rfl, _, _, _, _, _, rfl, .ty _, .base (.str _), T.ss, _, rfl, iteT ⟨_, rfl, _, rfl, rfl, ?_⟩⟩
      exact (congrArg (fun u => Q (V.bl u) H) (decide_eq_true (p := V.str z = V.str z) rfl)).mpr (q H (fun _ _ h => h))
    · have isn : ∀ z : Addr, decide (V.ref z = V.non) = decide False := fun z => (decide_eq_false (p := V.ref z = V.non) (fun h => nomatch h)).trans (decide_eq_false (p := False) id).symm
      have ne1 : ∀ z : Bool, (!decide (V.bl z = V.bl z)) = false := fun z => by rw [decide_eq_true rfl]; rfl
      refine ⟨_, rfl, rfl, _, rfl, ite_b (c := False) (isn b) (fun z => z.elim) (fun _ => ?_)⟩
      refine ⟨_, rfl, _, _, _, _, _, rfl, .ty _, .base (.lst hb), T.lb, _, rfl, iteF ?_⟩
      refine ⟨_, rfl, _, _, _, _, _, rfl, .ty _, .base (.lst hb), T.li, _, rfl, iteF ?_⟩
      refine ⟨_, rfl, _, _, _, _, _, rfl, .ty _, .base (.lst hb), T.ls, _, rfl, iteF ?_⟩
      refine ⟨_, rfl, _, _, _, _, _, rfl, .ty _, .base (.lst ha), T.ll, _, rfl, _, _, _, _, _, rfl, .ty _, .base (.lst hb), T.ll, rfl, _, rfl, ?_⟩
      rw [ne1]
      refine iteF ?_
      refine ⟨_, rfl, _, _, _, _, _, rfl, .ty _, .base (.lst ha), T.lt, _, rfl, _, _, _, _, _, rfl, .ty _, .base (.lst hb), T.lt, rfl, _, rfl, ?_⟩
      rw [ne1]
      refine iteF ?_
      refine ⟨_, rfl, a, xs, rfl, .inl (SqL.of ha), _, rfl, b, ys, rfl, .inl (SqL.of hb), rfl, _, rfl, ite_b (c := False) (by rw [e, decide_eq_true rfl]; rfl) (fun z => z.elim) (fun _ => ?_)⟩
      refine ⟨_, rfl, b, ys, rfl, .inl (SqL.of hb), ((ys.length : Nat) : Int), rfl, by omega, by omega, fun D nD => ?_⟩
      refine lc_range (n := ys.length) (fun i H' => Same H H' ∧ H' D = some (.lst [])) ⟨same_upd nD, upd_same⟩ ?_ ?_
      · rintro i H1 hi ⟨sm, hD⟩
        have a1 : atI xs (0 + (i : Int)) = some xs[i] := by rw [Int.zero_add]; exact atI_nat (List.getElem?_eq_getElem (by omega))
        have a2 : atI ys (0 + (i : Int)) = some ys[i] := by rw [Int.zero_add]; exact atI_nat (List.getElem?_eq_getElem hi)
        refine ⟨rfl, _, rfl, _, rfl, .inl ⟨a, xs, _, _, rfl, rfl, SqL.of (sm _ _ ha), a1, _, rfl, _, rfl, .inl ⟨b, ys, _, _, rfl, rfl, SqL.of (sm _ _ hb), a2, ?_⟩⟩⟩
        refine ⟨_, _, rfl, mR _ _ _ _ sm (he i _ _ (List.getElem?_eq_getElem (by omega)) (List.getElem?_eq_getElem hi)), fun H2 sm2 => ⟨_, rfl, iteF ⟨fun b o hb => sm2 _ _ (sm _ _ hb), sm2 _ _ hD⟩⟩⟩
      · rintro H1 ⟨sm, hD⟩
        refine ⟨Nat.zero_le _, fun L nL => ?_⟩
        have sL := same_upd (o := .lst ([] : List V)) nL
        refine ⟨.list [], .list [], .lst (SqL.of (sL _ _ hD)) .nil, .lst (SqL.of upd_same) .nil, rfl, rfl, ?_⟩
        exact q _ (sm.trans sL)
    · have isn : ∀ z : Addr, decide (V.ref z = V.non) = decide False := fun z => (decide_eq_false (p := V.ref z = V.non) (fun h => nomatch h)).trans (decide_eq_false (p := False) id).symm
      have ne1 : ∀ z : Bool, (!decide (V.bl z = V.bl z)) = false := fun z => by rw [decide_eq_true rfl]; rfl
      refine ⟨_, rfl, rfl, _, rfl, ite_b (c := False) (isn b) (fun z => z.elim) (fun _ => ?_)⟩
      refine ⟨_, rfl, _, _, _, _, _, rfl, .ty _, .base (.tup hb), T.tb, _, rfl, iteF ?_⟩
      refine ⟨_, rfl, _, _, _, _, _, rfl, .ty _, .base (.tup hb), T.ti, _, rfl, iteF ?_⟩
      refine ⟨_, rfl, _, _, _, _, _, rfl, .ty _, .base (.tup hb), T.ts, _, rfl, iteF ?_⟩
      refine ⟨_, rfl, _, _, _, _, _, rfl, .ty _, .base (.tup ha), T.tl, _, rfl, _, _, _, _, _, rfl, .ty _, .base (.tup hb), T.tl, rfl, _, rfl, ?_⟩
      rw [ne1]
      refine iteF ?_
      refine ⟨_, rfl, _, _, _, _, _, rfl, .ty _, .base (.tup ha), T.tt, _, rfl, _, _, _, _, _, rfl, .ty _, .base (.tup hb), T.tt, rfl, _, rfl, ?_⟩
      rw [ne1]
      refine iteF ?_
      refine ⟨_, rfl, a, xs, rfl, .inr (SqT.of ha), _, rfl, b, ys, rfl, .inr (SqT.of hb), rfl, _, rfl, ite_b (c := False) (by rw [e, decide_eq_true rfl]; rfl) (fun z => z.elim) (fun _ => ?_)⟩
      refine ⟨_, rfl, b, ys, rfl, .inr (SqT.of hb), ((ys.length : Nat) : Int), rfl, by omega, by omega, fun D nD => ?_⟩
      refine lc_range (n := ys.length) (fun i H' => Same H H' ∧ H' D = some (.lst [])) ⟨same_upd nD, upd_same⟩ ?_ ?_
      · rintro i H1 hi ⟨sm, hD⟩
        have a1 : atI xs (0 + (i : Int)) = some xs[i] := by rw [Int.zero_add]; exact atI_nat (List.getElem?_eq_getElem (by omega))
        have a2 : atI ys (0 + (i : Int)) = some ys[i] := by rw [Int.zero_add]; exact atI_nat (List.getElem?_eq_getElem hi)
        refine ⟨rfl, _, rfl, _, rfl, .inr (.inl ⟨a, xs, _, _, rfl, rfl, SqT.of (sm _ _ ha), a1, _, rfl, _, rfl, .inr (.inl ⟨b, ys, _, _, rfl, rfl, SqT.of (sm _ _ hb), a2, ?_⟩)⟩)⟩
        refine ⟨_, _, rfl, mR _ _ _ _ sm (he i _ _ (List.getElem?_eq_getElem (by omega)) (List.getElem?_eq_getElem hi)), fun H2 sm2 => ⟨_, rfl, iteF ⟨fun b o hb => sm2 _ _ (sm _ _ hb), sm2 _ _ hD⟩⟩⟩
      · rintro H1 ⟨sm, hD⟩
        refine ⟨Nat.zero_le _, fun L nL => ?_⟩
        have sL := same_upd (o := .lst ([] : List V)) nL
        refine ⟨.list [], .list [], .lst (SqL.of (sL _ _ hD)) .nil, .lst (SqL.of upd_same) .nil, rfl, rfl, ?_⟩
        exact q _ (sm.trans sL)
end
end Tw

set_option Elab.async false
set_option linter.all false
set_option maxRecDepth 100000
set_option maxHeartbeats 2000000
namespace Tw
open PySem PySem.Spec PyProof.Rows L2
abbrev s_law_shorter : Stmt := topS 47
abbrev s_law_power_of : Stmt := topS 46
abbrev s_law_separators : Stmt := topS 45
section
variable {P : Program} {w : World} {K : PySem.W.Frag} {mg : Str → Option Value} {base : Heap}
theorem sc_law_shorter : FnScope ["sieves", "output", "most"] ["sieves", "output", "most"] (defScope s_law_shorter) := ⟨rfl, rfl, rfl, by decide +kernel, rfl, by decide +kernel, by decide +kernel⟩
theorem sc_law_power_of : FnScope ["base", "many", "found", "time"] ["base", "many"] (defScope s_law_power_of) := ⟨rfl, rfl, rfl, by decide +kernel, rfl, by decide +kernel, by decide +kernel⟩
theorem sc_law_separators : FnScope ["sieves", "span", "found", "here", "one"] ["sieves", "span"] (defScope s_law_separators) := ⟨rfl, rfl, rfl, by decide +kernel, rfl, by decide +kernel, by decide +kernel⟩
theorem ok_lshorter {f fL fS fR : Addr} {fd fdL fdS fdR : FuncData} {k : Nat} (F : Fun K "_law_shorter" "_law_shorter" s_law_shorter f fd) (D_law_runs : Dfn K mg "_law_runs" s_law_runs ["row"] fR fdR) (D_law_size : Dfn K mg "_law_size" s_law_size ["row"] fS fdS) (D_law_least : Dfn K mg "_law_least" s_law_least ["sieves", "span"] fL fdL) (m_len : mg "len" = none) : FnOk P w K mg base CX0 (k + 3) f fd ["sieves", "output", "most"] spLShorter := by
  have G_law_size : FnOk P w K mg base CX0 (k + 2) fS fdS ["row"] spLSize := ok_lsize D_law_size.F D_law_runs m_len
  have G_law_least : FnOk P w K mg base CX0 (k + 2) fL fdL ["sieves", "span"] (spLLeast K) := ok_lleast D_law_least.F
  refine F.ok sc_law_shorter (fun vs H Q E h => ?_) (fun cdv A outer s H vs Q E hr h => ?_)
  · obtain ⟨p, l, m, rfl, _⟩ := h
    rfl
  · obtain ⟨p, l, m, rfl, hp, pl, low, lm, ll, q⟩ := h
    refine ⟨_, (pss_cons (ps_while PassesOwn.never (pt_cmpR op_gt (pe_ix ix_tup (pe_call G_law_least hr rfl D_law_least.g D_law_least.F.kp D_law_least.b .nil pass0 (pa_cons (pv 0) (pa_cons (pe_call G_law_size hr rfl D_law_size.g D_law_size.F.kp D_law_size.b .nil pass0 (pa_cons (pv 1) pa_nil)) pa_nil))) pe_int (fun _ _ => rfl)) (pv 2) (nomark _)) (pss_one (ps_set (i := 0) sc_law_shorter.nd rfl (.inl rfl) (pe_slice sl_str (pv 0) (po_some pe_int) po_none))))
 (pss_one (ps_ret (pv 0)))), ?_⟩
    refine ⟨fun n σ H' => ∃ j, n = p.length - j ∧ j ≤ p.length ∧ σ = [some (.str (mk (p.drop j))), some (.str (mk l)), some (.int (m : Nat))] ∧ Same H H', ⟨_, 0, rfl, Nat.zero_le _, rfl, fun _ _ h => h⟩, ?_⟩
    rintro n σ H1 ⟨j, rfl, hj, rfl, sm1⟩
    have hpj : Pipe (p.drop j) := fun c hc => hp c (List.mem_of_mem_drop hc)
    have lj : (p.drop j).length = p.length - j := List.length_drop ..
    refine ⟨_, rfl, _, rfl, l, rfl, by omega, low, fun H2 t sm2 nt ht => ?_⟩
    refine ⟨p.drop j, t, l.length, pairs l, rfl, hpj, by omega, SqT.of ht, fun H3 r sm3 nr hr3 => ?_⟩
    refine ⟨r, _, _, _, rfl, rfl, SqT.of hr3, atI_nat (j := 0) rfl, _, rfl, _, _, rfl, rfl, _, rfl, ?_⟩
    have smm := sm1.trans (sm2.trans sm3)
    refine ite_b (c := m < (growS (p.drop j) (l.length, pairs l)).1) (decide_eq_decide.mpr (by omega)) (fun hb => ?_) (fun hb => ?_)
    · have jl : j < p.length := by
        by_cases z : j < p.length
        · exact z
        · rw [List.drop_of_length_le (by omega), growS_nil] at hb
          exact absurd hb (by show ¬ m < l.length; omega)
      refine ⟨_, fun _ _ h => h, ?_⟩
      refine ⟨_, rfl, _, rfl, _, rfl, Nat.le_of_lt (line_of (by rw [mk_len]; omega)), ?_⟩
      rw [show (some (1 : Int)) = some ((1 : Nat) : Int) from rfl, cutS_drop, List.drop_drop]
      exact ⟨p.length - (j + 1), by omega, j + 1, rfl, by omega, rfl, smm⟩
    · exact ⟨_, rfl, q _ j smm (by show (growS (p.drop j) (l.length, pairs l)).1 ≤ m; omega)⟩
theorem ok_lpow {f : Addr} {fd : FuncData} {k : Nat} (F : Fun K "_law_power_of" "_law_power_of" s_law_power_of f fd) (m_range : mg "range" = none) : FnOk P w K mg base CX0 (k + 1) f fd ["base", "many"] spLPow := by
  refine F.ok sc_law_power_of (fun vs H Q E h => ?_) (fun cdv A outer s H vs Q E hr h => ?_)
  · obtain ⟨b, m, rfl, _⟩ := h
    rfl
  · obtain ⟨b, m, rfl, ⟨b0, b1⟩, hm, q⟩ := h
    refine ⟨_, (pss_cons (ps_set (i := 2) sc_law_power_of.nd rfl (.inl rfl) pe_int)
 (pss_cons (ps_for PassesOwn.never rfl (pi_range1 (by rfl) m_range (pa_cons (pv 1) pa_nil)) (pg_name (i := 3) sc_law_power_of.nd rfl (.inl rfl))
  (pss_one (ps_set (i := 2) sc_law_power_of.nd rfl (.inl rfl) (pe_op op_mul (pv 2) (pv 0)))))
 (pss_one (ps_ret (pv 2))))), ?_⟩
    refine ⟨_, rfl, ((m : Nat) : Int), rfl, by omega, by omega, for_range (n := m) (fun i σ H' => ∃ y3, σ = [some (.int b), some (.int (m : Nat)), some (.int (b ^ i)), y3] ∧ H' = H) ⟨none, by rw [Int.pow_zero]; rfl, rfl⟩ ?_ ?_⟩
    · rintro i σ H1 hi ⟨y3, rfl, rfl⟩
      refine ⟨_, rfl, _, rfl, _, _, rfl, rfl, .inr ⟨by omega, by omega⟩, ?_⟩
      exact ⟨_, by rw [Int.pow_succ]; rfl, rfl⟩
    · rintro σ H1 ⟨y3, rfl, rfl⟩
      exact ⟨_, rfl, q _ fun _ _ h => h⟩
theorem ok_lsep {f fL : Addr} {fd fdL : FuncData} {k : Nat} (F : Fun K "_law_separators" "_law_separators" s_law_separators f fd) (D_law_least : Dfn K mg "_law_least" s_law_least ["sieves", "span"] fL fdL) : FnOk P w K mg base CX0 (k + 2) f fd ["sieves", "span"] (spLSep K) := by
  have G_law_least : FnOk P w K mg base CX0 (k + 1) fL fdL ["sieves", "span"] (spLLeast K) := ok_lleast D_law_least.F
  refine F.ok sc_law_separators (fun vs H Q E h => ?_) (fun cdv A outer s H vs Q E hr h => ?_)
  · obtain ⟨p, t, n, e, rfl, _⟩ := h
    rfl
  · obtain ⟨p, t, n, e, rfl, hp, hpl, ht, q⟩ := h
    refine ⟨_, (pss_cons (ps_par (i := 2) (j := 3) rfl sc_law_separators.nd rfl rfl (by decide) rfl rfl (pa_cons pe_int (pa_cons (pv 1) pa_nil)) (by rfl))
 (pss_cons (ps_for PassesOwn.never rfl (pi_str (pe_revS (pv 0))) (pg_name (i := 4) sc_law_separators.nd rfl (.inl rfl))
  (pss_one (ps_par (i := 2) (j := 3) rfl sc_law_separators.nd rfl rfl (by decide) rfl rfl (pa_cons (pe_op op_add (pv 2) (pe_ix ix_tup (pv 3) pe_int (fun _ _ => rfl))) (pa_cons (pe_call G_law_least hr rfl D_law_least.g D_law_least.F.kp D_law_least.b .nil pass0 (pa_cons (pv 4) (pa_cons (pv 3) pa_nil))) pa_nil)) (by rfl))))
 (pss_one (ps_ret (pv 2))))), ?_⟩
    refine ⟨_, rfl, _, _, rfl, ?_⟩
    refine ⟨_, rfl, _, rfl, Nat.le_of_lt (line_of (by omega)), ?_⟩
    refine ⟨_, rfl, for_it walk_str (fun i σ H' => ∃ y4 h, σ = [some (.str (mk p)), some (.ref t), some (.int (sepN (p.reverse.take i).reverse (n, e) : Nat)), some (.ref h), y4] ∧ SqT K H' h [V.int ((growS (p.reverse.take i).reverse (n, e)).1 : Nat), V.int ((growS (p.reverse.take i).reverse (n, e)).2 : Nat)] ∧ Same H H')
      ⟨none, t, rfl, ht, Same.refl H⟩ (fun _ _ _ _ _ => trivial) ?_ ?_⟩
    · rintro i x σ H1 H2 hi ⟨y4, h, rfl, hh, sm⟩ ⟨rfl, c, hc, rfl⟩
      rw [mk_size] at hi
      have gi : p.reverse[i]? = some c := by
        have := hc
        simpa [mk] using this
      have hcp := hp c (List.mem_reverse.mp (List.mem_of_getElem? gi))
      have ed : (p.reverse.take (i + 1)).reverse = c :: (p.reverse.take i).reverse := by
        rw [List.take_add_one, gi]
        simp
      rw [ed]
      have es : sepN (c :: (p.reverse.take i).reverse) (n, e) = sepN (p.reverse.take i).reverse (n, e) + (growS (p.reverse.take i).reverse (n, e)).2 := rfl
      have eg := growS_cons c (p.reverse.take i).reverse (n, e)
      rw [es]
      generalize growS (p.reverse.take i).reverse (n, e) = z at eg hh ⊢
      refine ⟨_, rfl, _, rfl, h, _, _, _, rfl, rfl, hh, atI_nat (j := 1) rfl, _, _, rfl, rfl, ?_⟩
      refine ⟨_, rfl, _, rfl, [c], h, z.1, z.2, rfl, (fun y hy => by rw [List.mem_singleton.mp hy]; exact hcp), (by show 1 ≤ 1000000; decide), hh, fun H3 r sm3 nr hr3 => ⟨_, _, rfl, ?_⟩⟩
      refine ⟨some (.str (mk [c])), r, ?_, ?_, sm.trans sm3⟩
      · rfl
      · rw [eg]
        exact SqT.of hr3
    · rintro σ H1 ⟨y4, h, rfl, hh, sm⟩
      rw [mk_size, List.take_length, List.reverse_reverse]
      exact ⟨_, rfl, q H1 sm⟩
end
end Tw

set_option Elab.async false
set_option linter.all false
set_option maxRecDepth 100000
set_option maxHeartbeats 2000000
namespace Tw
open PySem PySem.Spec PyProof.Rows L2
abbrev s_law_sieved : Stmt := topS 40
section
variable {P : Program} {w : World} {K : PySem.W.Frag} {mg : Str → Option Value} {base : Heap}
theorem sc_law_sieved : FnScope ["row", "sieves", "one", "letter", "span"] ["row", "sieves"] (defScope s_law_sieved) := ⟨rfl, rfl, rfl, by decide +kernel, rfl, by decide +kernel, by decide +kernel⟩
theorem once_lc1 {t : Bool} {l : List Nat} {H H' : Hp} {p D : Addr} {as : List Addr} {K : PySem.W.Frag} {tt : TT} {Q : Hp → Prop} {s0 s1 s2 s3 s4 : Option V}
    (sm : Same H H') (hl : l.length ≤ 1000) (hp : H' p = some (.lst (as.map V.ref))) (ps : Pairs H' as (runs l)) (nD : H' D = none)
    (hT : ∀ (q : Nat × Nat) (H2 : Hp) (R : Bool → Hp → Prop), 1 ≤ q.2 → R (keepRun t q) H2 → tt [s0, s1, s2, some (V.str (mk [q.1])), some (V.int (q.2 : Nat))] H2 R)
    (hQ : ∀ H2, Same H H2 → H2 D = some (.lst (signs (once t l))) → Q H2) :
    ∃ W : Nat → Nat → Hp → Prop, (∃ m, W 0 m (upd H' D (.lst []))) ∧ ∀ i m H2, W i m H2 →
      ((Itl K p).stop i H2 ∧ Q H2) ∨ ((Itl K p).go i H2 ∧ ∃ Nx : Hp → Prop, (∀ H3, Nx H3 → ∃ m', m' < m ∧ W (i + 1) m' H3) ∧ ∀ x H3, (Itl K p).yld i H2 x H3 → gTup K 2 (gCons (gName 3) (gCons (gName 4) gNil)) x (wipe [s0, s1, s2, s3, s4] [3, 4]) H3 fun σ2 H4 => wipe σ2 [3, 4] = wipe [s0, s1, s2, s3, s4] [3, 4] ∧ tt σ2 H4 fun b H5 =>
        if b = true then tVar 3 σ2 H5 fun y H6 => ∃ acc, H6 D = some (.lst acc) ∧ acc.length < sizeLine ∧ Nx (upd H6 D (.lst (acc ++ [y]))) else Nx H5) := by
  refine lc_list (xs := as.map V.ref) (fun i H2 => Same H' H2 ∧ H2 D = some (.lst (signs (kept t ((runs l).take i))))) ⟨same_upd nD, upd_same⟩ (fun i H2 _ h => SqL.of (h.1 _ _ hp)) ?_ ?_
  · rintro i x H2 hx ⟨sm2, hD⟩
    rw [List.getElem?_map] at hx
    obtain ⟨a, ha, rfl⟩ := Option.map_eq_some_iff.mp hx
    obtain ⟨q, hq, hqa⟩ := ps.at' ha
    refine ⟨a, _, rfl, SqT.of (sm2 _ _ hqa), rfl, _, _, rfl, _, _, rfl, rfl, rfl, hT q H2 _ (runs_pos l q (List.mem_of_getElem? hq)) ?_⟩
    have kt := kept_take (t := t) hq
    have hlen : (signs (kept t ((runs l).take i))).length < sizeLine := by
      rw [signs_len]
      refine small1000 (Nat.le_trans (kept_le t _) ?_)
      rw [List.length_take]
      have := runs_le l
      omega
    by_cases c : keepRun t q = true
    · rw [c]
      rw [if_pos c] at kt
      refine iteT ⟨_, rfl, _, hD, hlen, ?_, ?_⟩
      · intro b o hb
        rw [upd_ne (ne_of_none hb nD)]
        exact sm2 b o hb
      · rw [upd_same, kt, signs_app]
        rfl
    · have c' : keepRun t q = false := by
        cases h : keepRun t q
        · rfl
        · exact absurd h c
      rw [if_neg c, List.append_nil] at kt
      rw [c']
      refine iteF ⟨sm2, ?_⟩
      rw [kt]
      exact hD
  · rintro H2 ⟨sm2, hD⟩
    refine hQ H2 (sm.trans sm2) ?_
    have e : (as.map V.ref).length = (runs l).length := by rw [List.length_map, ps.len]
    rw [e, List.take_length] at hD
    exact hD
theorem ok_lsvd {f fR : Addr} {fd fdR : FuncData} {k : Nat} (F : Fun K "_law_sieved" "_law_sieved" s_law_sieved f fd) (D_law_runs : Dfn K mg "_law_runs" s_law_runs ["row"] fR fdR) : FnOk P w K mg base CX0 (k + 2) f fd ["row", "sieves"] spLSieved := by
  have G_law_runs : FnOk P w K mg base CX0 (k + 1) fR fdR ["row"] spLRuns := ok_lruns D_law_runs.F
  refine F.ok sc_law_sieved (fun vs H Q E h => ?_) (fun cdv A outer s H vs Q E hr h => ?_)
  · obtain ⟨l, p, rfl, _⟩ := h
    rfl
  · obtain ⟨l, p, rfl, low, hp, hl, q⟩ := h
    refine ⟨_, (pss_cons (ps_for PassesOwn.never rfl (pi_str (pv 1)) (pg_name (i := 2) sc_law_sieved.nd rfl (.inr rfl) (.inl rfl))
  (pss_one (ps_set (i := 0) sc_law_sieved.nd rfl (.inl rfl) (pe_join pe_str (pe_lc (own := [("letter", 3), ("span", 4)]) (g := gTup K 2 (gCons (gName 3) (gCons (gName 4) gNil))) (by rfl) sc_law_sieved.nd (pi_list (pe_call G_law_runs hr rfl D_law_runs.g D_law_runs.F.kp D_law_runs.b .nil pass0 (pa_cons (pv 0) pa_nil))) (blkOk_by (N := ["row", "sieves", "one", "letter", "span"]) (sc := defScope s_law_sieved) (by decide +kernel)) (fun _ _ _ _ _ => (pg_tup2 rfl (pg_name (i := 3) sc_law_sieved.nd rfl (Or.inl rfl) (Or.inr rfl)) (pg_name (i := 4) sc_law_sieved.nd rfl (Or.inl rfl) (Or.inr rfl)))) (fun _ _ _ _ _ => (pts_one (pt_cmpR op_eq (pe_cmpR op_gt (pv 4) pe_int (nomark _)) (pe_cmpR op_eq (pv 2) pe_str (nomark _)) (nomark _)))) (fun _ _ _ _ _ => (pv 3)))))))
 (pss_one (ps_ret (pv 0)))), ?_⟩
    refine ⟨_, rfl, mk p, rfl, for_it walk_str (fun i σ H' => ∃ y2 y3 y4, σ = [some (.str (mk (sv l (p.take i)))), some (.str (mk p)), y2, y3, y4] ∧ Same H H') ⟨none, none, none, rfl, fun _ _ h => h⟩ (fun _ _ _ _ _ => trivial) ?_ ?_⟩
    · rintro i x σ H3 H4 hi ⟨y2, y3, y4, rfl, sm⟩ ⟨rfl, c, hc, rfl⟩
      rw [mk_size] at hi
      have gi : p[i]? = some c := by
        have := hc
        simpa [mk] using this
      have hcp := hp c (List.mem_of_getElem? gi)
      rw [pipe_sign hcp]
      have gx : sv l (p.take (i + 1)) = once (c == 84) (sv l (p.take i)) := sv_take gi
      rw [gx]
      generalize e0 : sv l (p.take i) = l0
      have low0 : Low l0 := fun c hc => low c (sv_mem (p := p.take i) (by rw [e0]; exact hc))
      have len0 : l0.length ≤ 1000 := by rw [← e0]; exact Nat.le_trans (sv_le l _) hl
      generalize (c == 84) = b
      refine ⟨⟨_, rfl⟩, _, rfl, l0, rfl, by omega, low0, fun H5 pp as sm5 np hpp ps => ⟨pp, rfl, ⟨_, SqL.of hpp⟩, fun D nD => once_lc1 (t := b) (sm.trans sm5) len0 hpp ps nD (fun q2 H2 R h1 hR => ?_) fun H6 sm6 hD => ?_⟩⟩
      · refine ⟨_, rfl, _, _, rfl, rfl, _, rfl, rfl, rfl, _, rfl, ?_⟩
        have e1 : decide (V.str (mk (sOf b)) = V.str (Str.ofString "T")) = b := by
          have := eqT b
          rw [show (Str.ofString "T") = ("T" : Str) from rfl, this]
          cases b <;> rfl
        have ek : decide (V.bl (decide ((1 : Int) < (q2.2 : Nat))) = V.bl (decide (V.str (mk (sOf b)) = V.str (Str.ofString "T")))) = keepRun b q2 := by
          have e2 : decide ((1 : Int) < (q2.2 : Nat)) = decide (2 ≤ q2.2) := decide_eq_decide.mpr (by omega)
          rw [e1, e2]
          have := keepRun_is b q2.1 q2.2 h1
          cases hk : keepRun b q2 with
          | true => rw [show (q2.1, q2.2) = q2 from rfl, hk] at this; have t := this.mp rfl; exact decide_eq_true (by rw [t])
          | false => rw [show (q2.1, q2.2) = q2 from rfl, hk] at this; exact decide_eq_false fun z => by have := this.mpr (V.bl.inj z); cases this
        show R (decide (V.bl (decide ((1 : Int) < (q2.2 : Nat))) = V.bl (decide (V.str (mk (sOf b)) = V.str (Str.ofString "T"))))) H2
        rw [ek]
        exact hR
      · refine ⟨_, D, (once b l0).map fun c => mk [c], rfl, rfl, .inl (SqL.of ?_), ?_, ?_⟩
        · rw [hD, List.map_map]
          rfl
        · have e1 : ∀ l : List Nat, ((l.map fun c => mk [c]).map (·.length)).sum = l.length := by
            intro l
            induction l with
            | nil => rfl
            | cons c r ih =>
              rw [List.map_cons, List.map_cons, List.sum_cons, ih, mk_len]
              simp
              omega
          have e2 : (Str.ofString "").length = 0 := by decide +kernel
          rw [e1, e2]
          have := once_le b l0
          omega
        · have ej : Txt.join (Str.ofString "") ((once b l0).map fun c => mk [c]) = mk (once b l0) := join_signs _
          rw [ej]
          exact ⟨_, _, _, rfl, sm6⟩
    · rintro σ H3 ⟨y2, y3, y4, rfl, sm⟩
      rw [mk_size, List.take_length]
      exact ⟨_, rfl, q H3 sm⟩
end
end Tw

set_option Elab.async false
set_option linter.all false
namespace Tw
open PySem PySem.Spec PyProof.Rows L2
/-- three of the five classes (a law about shortest rows) -/
structure KN (K : PySem.W.Frag) (mg : Str → Option Value) (C fI : Nat → Addr) (CS : Addr) : Prop where
  T : ∀ i, i < 3 → TwX.ETxt K (C i) (fI i)
  g0 : mg "InvalidRow" = some (.ref (C 0))
  g1 : mg "InvalidPipeline" = some (.ref (C 1))
  g2 : mg "InvalidNumber" = some (.ref (C 2))
end Tw

set_option Elab.async false
set_option linter.all false
set_option maxRecDepth 100000
set_option maxHeartbeats 2000000
namespace Tw
open PySem PySem.Spec PyProof.Rows L2
abbrev s_grow : Stmt := topS 16
abbrev s_least_size : Stmt := topS 17
abbrev sRuns : Stmt := topS 11
abbrev sChkRow : Stmt := topS 7
abbrev sChkPipe : Stmt := topS 8
abbrev sSize : Stmt := topS 13
abbrev sOnce : Stmt := topS 12
abbrev sSieve : Stmt := topS 14
section
variable {P : Program} {w : World} {K : PySem.W.Frag} {mg : Str → Option Value} {base : Heap}
theorem sc_grow : FnScope ["pipeline", "row_size", "length", "pairs", "kind"] ["pipeline", "row_size"] (defScope s_grow) := ⟨rfl, rfl, rfl, by decide +kernel, rfl, by decide +kernel, by decide +kernel⟩
theorem sc_least_size : FnScope ["pipeline", "output"] ["pipeline", "output"] (defScope s_least_size) := ⟨rfl, rfl, rfl, by decide +kernel, rfl, by decide +kernel, by decide +kernel⟩
theorem scCR : FnScope ["row", "index", "letter"] ["row"] (defScope sChkRow) := ⟨rfl, rfl, rfl, by decide +kernel, rfl, by decide +kernel, by decide +kernel⟩
theorem ok_chkRowX {f C fI : Addr} {fd : FuncData} {k : Nat} (F : Fun K "check_row" "check_row" sChkRow f fd) (T : TwX.ETxt K C fI) (gC : mg "InvalidRow" = some (.ref C)) (me : mg "enumerate" = none) : FnOk P w K mg base (L2.CX P w) (k + 2) f fd ["row"] (spChkRowX C) := by
  refine F.okX scCR (fun vs H Q E h => ?_) (fun cdv A outer s H vs Q E hr h => ?_)
  · obtain ⟨l, rfl, _⟩ := h
    rfl
  · obtain ⟨l, rfl, q, qe⟩ := h
    refine ⟨_, pss_one (ps_for (passes_of rfl) rfl (pi_enumS (by rfl) me (pa_cons (pv 0) pa_nil))
      (pg_tup rfl (pgs_cons (pg_name (i := 1) scCR.nd rfl (.inl rfl)) (pgs_cons (pg_name (i := 2) scCR.nd rfl (.inl rfl)) pgs_nil)))
      (pss_one (ps_if (pt_not (pt_chain op_le_str op_le_str pe_str (pv 2) pe_str)) (pss_one (ps_raiseR rfl T gC hr (takes_of rfl rfl rfl rfl) (pa_cons (pv 1) pa_nil) rfl)) pss_nil))), ?_⟩
    refine ⟨_, rfl, mk l, rfl, for_it walkP (fun i σ H' => ∃ y1 y2, σ = [some (.str (mk l)), y1, y2] ∧ Same H H' ∧ ∀ j c, j < i → l[j]? = some c → okL c = true) ⟨none, none, rfl, Same.refl H, fun j c hj => by omega⟩ (fun _ _ _ _ _ => trivial) ?_ ?_⟩
    · rintro i x σ H1 H2 hi ⟨y1, y2, rfl, sm, hb⟩ ⟨T, rfl, nT, rfl⟩
      rw [mk_size] at hi
      have gi : l[i]? = some l[i] := List.getElem?_eq_getElem hi
      have sm2 := sm.trans (same_upd (o := .tup [V.int (i : Nat), sgn (mk l) i]) nT)
      refine ⟨T, _, rfl, SqT.of upd_same, rfl, _, _, rfl, _, _, rfl, rfl, ?_⟩
      rw [sgn_at gi]
      rw [sgn_at gi] at sm2
      have more : okL l[i] = true → ∀ j c, j < i + 1 → l[j]? = some c → okL c = true := fun hg j c hj hc => by
        by_cases e : j = i
        · subst e
          rw [gi] at hc
          cases hc
          exact hg
        · exact hb j c (by omega) hc
      have out : okL l[i] = false → ∀ d, (upd H1 T (.tup [V.int (i : Nat), V.str (mk [l[i]])])) d = none → E (.ref C) (some d) (upd (upd H1 T (.tup [V.int (i : Nat), V.str (mk [l[i]])])) d (xval (.int (i : Nat)))) := fun hg d hd =>
        qe i (bad_some gi hg hb) _ d (sm2.trans (same_upd hd)) (sm2.free hd) upd_same
      refine ⟨_, rfl, _, _, rfl, rfl, _, rfl, ?_⟩
      by_cases h97 : 97 ≤ l[i]
      · rw [ge_a h97]
        refine iteT ⟨_, _, rfl, rfl, _, rfl, ?_⟩
        by_cases h122 : l[i] ≤ 122
        · rw [le_z h122]
          exact iteF ⟨_, _, rfl, sm2, more (by unfold okL; rw [decide_eq_true h97, decide_eq_true h122]; rfl)⟩
        · rw [le_z' h122]
          exact iteT ⟨_, rfl, _, rfl, out (by unfold okL; rw [decide_eq_false h122, Bool.and_false])⟩
      · rw [ge_a' h97]
        exact iteF ⟨_, rfl, iteT ⟨_, rfl, _, rfl, out (by unfold okL; rw [decide_eq_false h97]; rfl)⟩⟩
    · rintro σ H1 ⟨y1, y2, rfl, sm, hb⟩
      rw [mk_size] at hb
      exact q (bad_none.mpr fun c hc => by
        obtain ⟨j, hj⟩ := List.getElem?_of_mem hc
        exact hb j c (List.getElem?_eq_some_iff.mp hj).1 hj) H1 sm
theorem scCP : FnScope ["pipeline", "index", "kind"] ["pipeline"] (defScope sChkPipe) := ⟨rfl, rfl, rfl, by decide +kernel, rfl, by decide +kernel, by decide +kernel⟩
theorem ok_chkPipeX {f C fI : Addr} {fd : FuncData} {k : Nat} (F : Fun K "check_pipeline" "check_pipeline" sChkPipe f fd) (T : TwX.ETxt K C fI) (gC : mg "InvalidPipeline" = some (.ref C)) (me : mg "enumerate" = none) : FnOk P w K mg base (L2.CX P w) (k + 2) f fd ["pipeline"] (spChkPipeX C) := by
  refine F.okX scCP (fun vs H Q E h => ?_) (fun cdv A outer s H vs Q E hr h => ?_)
  · obtain ⟨l, rfl, _⟩ := h
    rfl
  · obtain ⟨l, rfl, q, qe⟩ := h
    refine ⟨_, pss_one (ps_for (passes_of rfl) rfl (pi_enumS (by rfl) me (pa_cons (pv 0) pa_nil))
      (pg_tup rfl (pgs_cons (pg_name (i := 1) scCP.nd rfl (.inl rfl)) (pgs_cons (pg_name (i := 2) scCP.nd rfl (.inl rfl)) pgs_nil)))
      (pss_one (ps_if (PW.pt (pw_and (pt_cmpR op_ne (pv 2) pe_str (nomark _)) (pw_and1 (pt_cmpR op_ne (pv 2) pe_str (nomark _))))) (pss_one (ps_raiseR rfl T gC hr (takes_of rfl rfl rfl rfl) (pa_cons (pv 1) pa_nil) rfl)) pss_nil))), ?_⟩
    refine ⟨_, rfl, mk l, rfl, for_it walkP (fun i σ H' => ∃ y1 y2, σ = [some (.str (mk l)), y1, y2] ∧ Same H H' ∧ ∀ j c, j < i → l[j]? = some c → okP c = true) ⟨none, none, rfl, Same.refl H, fun j c hj => by omega⟩ (fun _ _ _ _ _ => trivial) ?_ ?_⟩
    · rintro i x σ H1 H2 hi ⟨y1, y2, rfl, sm, hb⟩ ⟨T, rfl, nT, rfl⟩
      rw [mk_size] at hi
      have gi : l[i]? = some l[i] := List.getElem?_eq_getElem hi
      have sm2 := sm.trans (same_upd (o := .tup [V.int (i : Nat), sgn (mk l) i]) nT)
      refine ⟨T, _, rfl, SqT.of upd_same, rfl, _, _, rfl, _, _, rfl, rfl, ?_⟩
      rw [sgn_at gi]
      rw [sgn_at gi] at sm2
      have more : okP l[i] = true → ∀ j c, j < i + 1 → l[j]? = some c → okP c = true := fun hg j c hj hc => by
        by_cases e : j = i
        · subst e
          rw [gi] at hc
          cases hc
          exact hg
        · exact hb j c (by omega) hc
      have out : okP l[i] = false → ∀ d, (upd H1 T (.tup [V.int (i : Nat), V.str (mk [l[i]])])) d = none → E (.ref C) (some d) (upd (upd H1 T (.tup [V.int (i : Nat), V.str (mk [l[i]])])) d (xval (.int (i : Nat)))) := fun hg d hd =>
        qe i (bad_some gi hg hb) _ d (sm2.trans (same_upd hd)) (sm2.free hd) upd_same
      have nt : ∀ b : Nat, l[i] ≠ b → (!decide (V.str (mk [l[i]]) = V.str (mk [b]))) = true := fun b hb => by
        rw [decide_eq_false fun z => hb (eq_mk1.mp z)]; rfl
      refine ⟨_, rfl, rfl, _, rfl, ?_⟩
      rw [str_T]
      by_cases e84 : l[i] = 84
      · refine iteNS (by rw [e84]) ?_
        exact iteF ⟨_, _, rfl, sm2, more (by rw [e84]; rfl)⟩
      · rw [nt _ e84]
        refine iteT ⟨_, rfl, rfl, _, rfl, ?_⟩
        rw [str_S]
        by_cases e83 : l[i] = 83
        · refine iteNS (by rw [e83]) ?_
          exact ⟨_, _, rfl, sm2, more (by rw [e83]; rfl)⟩
        · rw [nt _ e83]
          exact iteT ⟨_, rfl, _, rfl, out (by unfold okP; simp [e84, e83])⟩
    · rintro σ H1 ⟨y1, y2, rfl, sm, hb⟩
      rw [mk_size] at hb
      exact q (bad_none.mpr fun c hc => by
        obtain ⟨j, hj⟩ := List.getElem?_of_mem hc
        exact hb j c (List.getElem?_eq_some_iff.mp hj).1 hj) H1 sm
theorem scRO : FnScope ["row", "runs", "letter"] ["row"] (defScope sRuns) := ⟨rfl, rfl, rfl, by decide +kernel, rfl, by decide +kernel, by decide +kernel⟩
theorem ok_runs {f : Addr} {fd : FuncData} {k : Nat} (F : Fun K "runs_of" "runs_of" sRuns f fd) : FnOk P w K mg base CX0 (k + 1) f fd ["row"] (spRuns) := by
  refine F.ok scRO (fun vs H Q E h => ?_) (fun cdv A outer s H vs Q E hr h => ?_)
  · obtain ⟨l, rfl, _⟩ := h
    rfl
  · obtain ⟨l, rfl, hlen, q⟩ := h
    refine ⟨_, pss_cons (ps_set (i := 1) scRO.nd rfl (.inl rfl) (pe_lst pa_nil))
      (pss_cons (ps_for PassesOwn.never rfl (pi_str (pv 0)) (pg_name (i := 2) scRO.nd rfl (.inl rfl))
        (pss_one (ps_if (PW.pt (pw_and (pt_truth (pv 1) (by intro _; rfl)) (pw_and1 (pt_cmpR op_eq (pe_ix ix_tup (pe_ix ix_list (pv 1) (pe_un un_neg pe_int) (fun _ _ => rfl)) pe_int (fun _ _ => rfl)) (pv 2) (nomark _)))))
          (pss_one (ps_asg (pe_tup (pa_cons (pv 2) (pa_cons (pe_op op_add (pe_ix ix_tup (pe_ix ix_list (pv 1) (pe_un un_neg pe_int) (fun _ _ => rfl)) pe_int (fun _ _ => rfl)) pe_int) pa_nil)))
            (pg_sub (pv 1) (pe_un un_neg pe_int) set_list)))
          (pss_one (ps_expr (pe_bm PySem.F.plainAttrs_list PySem.F.slot_list_append PySem.F.type_list_append mt_append (pv 1) (pa_cons (pe_tup (pa_cons (pv 2) (pa_cons pe_int pa_nil))) pa_nil)))))))
      (pss_one (ps_ret (pv 1)))), ?_⟩
    refine ⟨Nat.zero_le _, fun p np => ?_⟩
    refine ⟨_, rfl, mk l, rfl, for_it walk_str (fun i σ H' => ∃ as y2, σ = [some (.str (mk l)), some (.ref p), y2] ∧ Same H H' ∧ H' p = some (.lst (as.map V.ref)) ∧ Pairs H' as (runs (l.take i)))
      ⟨[], none, rfl, same_upd np, upd_same, trivial⟩ (fun _ _ _ _ _ => trivial) ?_ ?_⟩
    · rintro i x σ H1 H2 hi ⟨as, y2, rfl, sm, hp, ps⟩ ⟨rfl, c, hc, rfl⟩
      rw [mk_size] at hi
      have gi : l[i]? = some c := by
        have := hc
        simpa [mk] using this
      have hrun := runs_take gi
      have hl1 : as.length ≤ 1000 := by
        have h1 := ps.len
        have h2 := runs_le (l.take i)
        have h3 : (l.take i).length ≤ l.length := by rw [List.length_take]; exact Nat.min_le_right _ _
        omega
      rcases snoc_cases (runs (l.take i)) with e | ⟨r', q0, e⟩
      · rw [e] at ps hrun
        have ea : as = [] := List.eq_nil_of_length_eq_zero ps.len
        subst ea
        refine ⟨_, rfl, false, .inl ⟨_, SqL.of hp, rfl⟩, iteF (iteF ?_)⟩
        refine ⟨_, rfl, .inl ⟨rfl, _, SqL.of hp⟩, _, rfl, (by show 2 ≤ sizeLine; decide), fun t nt => ?_⟩
        have pt : p ≠ t := ne_of_none hp nt
        refine ⟨p, _, _, rfl, rfl, (by rw [upd_ne pt]; exact hp), (by show 0 < sizeLine; decide), ?_⟩
        refine ⟨[t], _, rfl, fun b o hb => ?_, upd_same, ?_⟩
        · rw [upd_ne (ne_of_none hb np), upd_ne (ne_of_none (sm b o hb) nt)]
          exact sm b o hb
        · rw [hrun]
          refine ⟨?_, trivial⟩
          rw [upd_ne (Ne.symm pt), upd_same]
          rfl
      · rw [e] at ps hrun
        rw [addRun_snoc r' q0.1 q0.2 c] at hrun
        obtain ⟨as', a, rfl, ps', ha⟩ := ps.last
        rw [List.map_append] at hp
        have pa : a ≠ p := ne_of ha hp tup_ne_lst
        have hla : as'.length ≤ 1000 := by rw [List.length_append] at hl1; omega
        refine ⟨_, rfl, true, .inl ⟨_, SqL.of hp, by simp⟩, iteT ?_⟩
        refine ⟨_, rfl, _, rfl, _, _, _, _, rfl, rfl, SqL.of hp, atI_last _ _, _, _, _, _, rfl, rfl, SqT.of ha, atI_nat (j := 0) rfl, _, rfl, rfl, _, rfl, ?_⟩
        refine ite_b (c := q0.1 = c) (decide_eq_decide.mpr eq_mk1) (fun hc => ?_) (fun hc => ?_)
        · rw [if_pos hc] at hrun
          refine ⟨_, rfl, _, rfl, _, rfl, _, _, _, _, rfl, rfl, SqL.of hp, atI_last _ _, _, _, _, _, rfl, rfl, SqT.of ha, atI_nat (j := 1) rfl, _, _, rfl, rfl, (by show 2 ≤ sizeLine; decide), fun t nt => ?_⟩
          have pt : p ≠ t := ne_of_none hp nt
          refine ⟨_, rfl, _, rfl, p, _, _, as'.length, rfl, rfl, (by rw [upd_ne pt]; exact hp), ?_, ?_⟩
          · exact ixN_last _ _ _ (List.length_map _)
          · refine ⟨as' ++ [t], _, rfl, fun b o hb => ?_, ?_, ?_⟩
            · rw [upd_ne (ne_of_none hb np), upd_ne (ne_of_none (sm b o hb) nt)]
              exact sm b o hb
            · rw [upd_same]
              simp
            · rw [hrun]
              refine Pairs.snoc (ps'.mono fun b u hb => ?_) ?_
              · rw [upd_ne (ne_of hb hp tup_ne_lst), upd_ne (ne_of_none hb nt)]
                exact hb
              · rw [upd_ne (Ne.symm pt), upd_same]
                rfl
        · rw [if_neg hc] at hrun
          refine ⟨_, rfl, .inl ⟨rfl, _, SqL.of hp⟩, _, rfl, (by show 2 ≤ sizeLine; decide), fun t nt => ?_⟩
          have pt : p ≠ t := ne_of_none hp nt
          refine ⟨p, _, _, rfl, rfl, (by rw [upd_ne pt]; exact hp), (small1000 (by rw [List.length_append, List.length_map]; rw [List.length_append] at hl1; exact hl1)), ?_⟩
          refine ⟨as' ++ [a] ++ [t], _, rfl, fun b o hb => ?_, ?_, ?_⟩
          · rw [upd_ne (ne_of_none hb np), upd_ne (ne_of_none (sm b o hb) nt)]
            exact sm b o hb
          · rw [upd_same]
            simp
          · rw [hrun]
            refine Pairs.snoc (ps.mono fun b u hb => ?_) ?_
            · rw [upd_ne (ne_of hb hp tup_ne_lst), upd_ne (ne_of_none hb nt)]
              exact hb
            · rw [upd_ne (Ne.symm pt), upd_same]
              rfl
    · rintro σ H1 ⟨as, y2, rfl, sm, hp, ps⟩
      rw [mk_size, List.take_length] at ps
      exact ⟨_, rfl, q H1 p as sm np hp ps⟩
theorem scSz : FnScope ["row"] ["row"] (defScope sSize) := ⟨rfl, rfl, rfl, by decide +kernel, rfl, by decide +kernel, by decide +kernel⟩
theorem ok_sizeX {f fC fR C fI : Addr} {fd fdC fdR : FuncData} {k : Nat} (F : Fun K "size" "size" sSize f fd) (T : TwX.ETxt K C fI) (gX : mg "InvalidRow" = some (.ref C))
    (FC : Fun K "check_row" "check_row" sChkRow fC fdC) (bC : Binds K fdC ["row"] []) (gC : mg "check_row" = some (.ref fC))
    (FR : Fun K "runs_of" "runs_of" sRuns fR fdR) (bR : Binds K fdR ["row"] []) (gR : mg "runs_of" = some (.ref fR))
    (me : mg "enumerate" = none) (ml : mg "len" = none) : FnOk P w K mg base (L2.CX P w) (k + 3) f fd ["row"] (spSizeX C) := by
  have GC : FnOk P w K mg base (L2.CX P w) (k + 2) fC fdC ["row"] (spChkRowX C) := ok_chkRowX FC T gX me
  have GR : FnOk P w K mg base CX0 (k + 1) fR fdR ["row"] spRuns := ok_runs FR
  refine F.okX scSz (fun vs H Q E h => ?_) (fun cdv A outer s H vs Q E hr h => ?_)
  · obtain ⟨l, rfl, _⟩ := h
    rfl
  · obtain ⟨l, rfl, hlen, q, qe⟩ := h
    have hr1 := hr.mono (j := k + 1) (by omega)
    refine ⟨_, pss_cons (ps_expr (pe_call (E := E) GC hr rfl gC FC.kp bC .nil (passes_call (takes_of rfl rfl rfl rfl) (fun _ _ _ _ h => h)) (pa_cons (pv 0) pa_nil)))
      (pss_one (ps_ret (pe_tup (pa_cons (pe_callB call_len_str (by rfl) ml PySem.boot_len (pa_cons (pv 0) pa_nil))
        (pa_cons (pe_op op_sub (pe_callB call_len_str (by rfl) ml PySem.boot_len (pa_cons (pv 0) pa_nil))
          (pe_callB call_len_seq (by rfl) ml PySem.boot_len (pa_cons (pe_call GR hr1 rfl gR FR.kp bR .nil pass0 (pa_cons (pv 0) pa_nil)) pa_nil))) pa_nil))))), ?_⟩
    have hz : (mk l).length ≤ sizeLine := by rw [mk_len]; exact len_line hlen
    refine ⟨_, rfl, l, rfl, fun hb H1 sm1 => ?_, qe⟩
    refine ⟨_, rfl, _, rfl, hz, _, rfl, _, rfl, hz, _, rfl, l, rfl, hlen, fun H2 p as sm2 np hp ps => ?_⟩
    refine ⟨p, _, rfl, .inl (SqL.of hp), _, _, rfl, rfl, (by show 2 ≤ sizeLine; decide), fun t nt => ?_⟩
    refine q hb _ t (fun b o hb => ?_) ((sm1.trans sm2).free nt) ?_
    · rw [upd_ne (ne_of_none (sm2 _ _ (sm1 _ _ hb)) nt)]
      exact sm2 _ _ (sm1 _ _ hb)
    · rw [upd_same]
      have h1 := ps.len
      have h2 := runs_len l
      have e : ((mk l).length : Int) - ((as.map V.ref).length : Nat) = (pairs l : Nat) := by
        rw [mk_len, List.length_map]
        omega
      show some (HO.tup [V.int ((mk l).length : Nat), V.int (((mk l).length : Int) - ((as.map V.ref).length : Nat))]) = _
      rw [e, mk_len]
abbrev nOnce : List Str := ["row", "kind", "kept", "letter", "length"]
theorem scOnce : FnScope nOnce ["row", "kind"] (defScope sOnce) := ⟨rfl, rfl, rfl, by decide +kernel, rfl, by decide +kernel, by decide +kernel⟩
theorem ok_once {f fR : Addr} {fd fdR : FuncData} {k : Nat} (F : Fun K "sieve_once" "sieve_once" sOnce f fd)
    (FR : Fun K "runs_of" "runs_of" sRuns fR fdR) (bR : Binds K fdR ["row"] []) (gR : mg "runs_of" = some (.ref fR)) : FnOk P w K mg base CX0 (k + 2) f fd ["row", "kind"] spOnce := by
  have GR : FnOk P w K mg base CX0 (k + 1) fR fdR ["row"] spRuns := ok_runs FR
  refine F.ok scOnce (fun vs H Q E h => ?_) (fun cdv A outer s H vs Q E hr h => ?_)
  · obtain ⟨l, t, rfl, _⟩ := h
    rfl
  · obtain ⟨l, t, rfl, hlen, q⟩ := h
    refine ⟨_, pss_cons (ps_if (pt_cmpR op_eq (pv 1) pe_str (nomark _))
        (pss_one (ps_setLc (i := 2) (own := [("letter", 3), ("length", 4)]) (g := gTup K 2 (gCons (gName 3) (gCons (gName 4) gNil))) (by rfl) scOnce.nd rfl rfl (sw_true rfl rfl rfl (by decide +kernel))
          (pi_list (pe_call GR hr rfl gR FR.kp bR .nil pass0 (pa_cons (pv 0) pa_nil))) (blkOk_by (N := nOnce) (sc := defScope sOnce) (by decide +kernel))
          (fun _ _ _ _ _ => pg_tup2 rfl (pg_name (i := 3) scOnce.nd rfl (Or.inl rfl) (Or.inr rfl)) (pg_name (i := 4) scOnce.nd rfl (Or.inl rfl) (Or.inr rfl)))
          (fun _ _ _ _ _ => pts_one (pt_cmpR op_gt (pv 4) pe_int (nomark _))) (fun _ _ _ _ _ => pv 3)))
        (pss_one (ps_setLc (i := 2) (own := [("letter", 3), ("length", 4)]) (g := gTup K 2 (gCons (gName 3) (gCons (gName 4) gNil))) (by rfl) scOnce.nd rfl rfl (sw_true rfl rfl rfl (by decide +kernel))
          (pi_list (pe_call GR hr rfl gR FR.kp bR .nil pass0 (pa_cons (pv 0) pa_nil))) (blkOk_by (N := nOnce) (sc := defScope sOnce) (by decide +kernel))
          (fun _ _ _ _ _ => pg_tup2 rfl (pg_name (i := 3) scOnce.nd rfl (Or.inl rfl) (Or.inr rfl)) (pg_name (i := 4) scOnce.nd rfl (Or.inl rfl) (Or.inr rfl)))
          (fun _ _ _ _ _ => pts_one (pt_cmpR op_eq (pv 4) pe_int (nomark _))) (fun _ _ _ _ _ => pv 3))))
      (pss_one (ps_ret (pe_join pe_str (pv 2)))), ?_⟩
    refine ⟨_, rfl, rfl, _, rfl, ?_⟩
    have fin : ∀ (H2 : Hp) (D : Addr), Same H H2 → H2 D = some (.lst (signs (once t l))) → ∀ R : VK, (∀ H3, Same H H3 → R (.str (mk (once t l))) H3) → (∃ a p, ∃ ys : List Str, V.str "" = .str a ∧ [V.ref D] = [.ref p] ∧ (SqL K H2 p (ys.map V.str) ∨ SqT K H2 p (ys.map V.str)) ∧
      (ys.map (·.length)).sum + ys.length * a.length ≤ 16777216 ∧ R (.str (Txt.join a ys)) H2) := by
      intro H2 D sm hD R hR
      refine ⟨_, D, (once t l).map fun c => mk [c], rfl, rfl, .inl (SqL.of ?_), ?_, ?_⟩
      · rw [hD, List.map_map]
        rfl
      · have e1 : ∀ l : List Nat, ((l.map fun c => mk [c]).map (·.length)).sum = l.length := by
          intro l
          induction l with
          | nil => rfl
          | cons c r ih =>
            rw [List.map_cons, List.map_cons, List.sum_cons, ih, mk_len]
            simp
            omega
        have e2 : ("" : Str).length = 0 := by decide +kernel
        rw [e1, e2]
        have := once_le t l
        omega
      · rw [join_signs]
        exact hR H2 sm
    refine ite_b (c := t = true) (eqT t) (fun ht => ?_) (fun ht => ?_)
    · subst ht
      refine ⟨_, rfl, l, rfl, hlen, fun H' p as sm np hp ps => ⟨p, rfl, ⟨_, SqL.of hp⟩, fun D nD => once_lc (t := true) sm hlen hp ps nD (fun q2 H2 R hR => ?_) fun H2 sm2 hD => ?_⟩⟩
      · refine ⟨_, rfl, _, _, rfl, rfl, _, rfl, ?_⟩
        have e : decide ((1 : Int) < (q2.2 : Nat)) = keepRun true q2 := decide_eq_decide.mpr (by omega)
        show R (decide ((1 : Int) < (q2.2 : Nat))) H2
        rw [e]
        exact hR
      · exact ⟨⟨_, rfl⟩, _, rfl, fin H2 D sm2 hD Q q⟩
    · have ht' : t = false := by cases t <;> first | rfl | exact absurd rfl ht
      subst ht'
      refine ⟨_, rfl, l, rfl, hlen, fun H' p as sm np hp ps => ⟨p, rfl, ⟨_, SqL.of hp⟩, fun D nD => once_lc (t := false) sm hlen hp ps nD (fun q2 H2 R hR => ?_) fun H2 sm2 hD => ?_⟩⟩
      · refine ⟨_, rfl, rfl, _, rfl, ?_⟩
        have e : decide (V.int (q2.2 : Nat) = V.int 1) = keepRun false q2 := decide_eq_decide.mpr ⟨fun z => by have := V.int.inj z; omega, fun z => by rw [z]; rfl⟩
        rw [e]
        exact hR
      · exact ⟨⟨_, rfl⟩, _, rfl, fin H2 D sm2 hD Q q⟩
theorem scSv : FnScope ["row", "pipeline", "kind"] ["row", "pipeline"] (defScope sSieve) := ⟨rfl, rfl, rfl, by decide +kernel, rfl, by decide +kernel, by decide +kernel⟩
theorem ok_sieveX {f fC fD fO fR C fI C' fI' : Addr} {fd fdC fdD fdO fdR : FuncData} {k : Nat} (F : Fun K "sieve" "sieve" sSieve f fd) (T : TwX.ETxt K C fI) (gX : mg "InvalidRow" = some (.ref C)) (T' : TwX.ETxt K C' fI') (gX' : mg "InvalidPipeline" = some (.ref C'))
    (FC : Fun K "check_row" "check_row" sChkRow fC fdC) (bC : Binds K fdC ["row"] []) (gC : mg "check_row" = some (.ref fC))
    (FD : Fun K "check_pipeline" "check_pipeline" sChkPipe fD fdD) (bD : Binds K fdD ["pipeline"] []) (gD : mg "check_pipeline" = some (.ref fD))
    (FO : Fun K "sieve_once" "sieve_once" sOnce fO fdO) (bO : Binds K fdO ["row", "kind"] []) (gO : mg "sieve_once" = some (.ref fO))
    (FR : Fun K "runs_of" "runs_of" sRuns fR fdR) (bR : Binds K fdR ["row"] []) (gR : mg "runs_of" = some (.ref fR))
    (me : mg "enumerate" = none) : FnOk P w K mg base (L2.CX P w) (k + 3) f fd ["row", "pipeline"] (spSieveX C C') := by
  have GC : FnOk P w K mg base (L2.CX P w) (k + 2) fC fdC ["row"] (spChkRowX C) := ok_chkRowX FC T gX me
  have GD : FnOk P w K mg base (L2.CX P w) (k + 2) fD fdD ["pipeline"] (spChkPipeX C') := ok_chkPipeX FD T' gX' me
  have GO : FnOk P w K mg base CX0 (k + 2) fO fdO ["row", "kind"] spOnce := ok_once FO FR bR gR
  refine F.okX scSv (fun vs H Q E h => ?_) (fun cdv A outer s H vs Q E hr h => ?_)
  · obtain ⟨l, p, rfl, _⟩ := h
    rfl
  · obtain ⟨l, p, rfl, hlen, q, qe, qe'⟩ := h
    refine ⟨_, pss_cons (ps_expr (pe_call (E := E) GC hr rfl gC FC.kp bC .nil (passes_call (takes_of rfl rfl rfl rfl) (fun _ _ _ _ h => h)) (pa_cons (pv 0) pa_nil)))
      (pss_cons (ps_expr (pe_call (E := E) GD hr rfl gD FD.kp bD .nil (passes_call (takes_of rfl rfl rfl rfl) (fun _ _ _ _ h => h)) (pa_cons (pv 1) pa_nil)))
      (pss_cons (ps_for (passes_of rfl) rfl (pi_str (pv 1)) (pg_name (i := 2) scSv.nd rfl (.inl rfl))
        (pss_one (ps_set (i := 0) scSv.nd rfl (.inl rfl) (pe_call GO hr rfl gO FO.kp bO .nil pass0 (pa_cons (pv 0) (pa_cons (pv 2) pa_nil))))))
      (pss_one (ps_ret (pv 0))))), ?_⟩
    refine ⟨_, rfl, l, rfl, fun hbl H1 sm1 => ⟨_, rfl, p, rfl, fun hbp H2 sm2 => ?_, fun i hi => (qe' hbl i hi).mono sm1⟩, qe⟩
    refine ⟨_, rfl, mk p, rfl, for_it walk_str (fun i σ H' => ∃ y, σ = [some (.str (mk (sv l (p.take i)))), some (.str (mk p)), y] ∧ Same H H')
      ⟨none, rfl, sm1.trans sm2⟩ (fun _ _ _ _ _ => trivial) ?_ ?_⟩
    · rintro i x σ H3 H4 hi ⟨y, rfl, sm⟩ ⟨rfl, c, hc, rfl⟩
      rw [mk_size] at hi
      have gi : p[i]? = some c := by
        have := hc
        simpa [mk] using this
      have hcp := pipe_of hbp c (List.mem_of_getElem? gi)
      rw [pipe_sign hcp]
      refine ⟨_, rfl, _, rfl, sv l (p.take i), c == 84, rfl, Nat.le_trans (sv_le l _) hlen, fun H5 sm5 => ?_⟩
      refine ⟨some (V.str (mk (sOf (c == 84)))), ?_, sm.trans sm5⟩
      rw [sv_take gi]
      rfl
    · rintro σ H3 ⟨y, rfl, sm⟩
      rw [mk_size, List.take_length]
      exact ⟨_, rfl, q hbl hbp H3 sm⟩
theorem kb2 {K : PySem.W.Frag} {f : Addr} {fd : FuncData} (F : Fun K "sieve" "sieve" sSieve f fd) : KBinds K fd ["row", "pipeline"] ["pipeline", "row"] (fun us ws => us ++ ws.reverse) (fun us ws => us ++ ws.reverse) :=
  fun_kbinds F (fun kV dc pm an cd ct us ws hl => match us, ws, hl with
    | [], [_, _], _ => rfl
    | [_], [_], _ => rfl
    | [_, _], [], _ => rfl
    | [], [], h => by cases h
    | [], [_], h => by cases h
    | [], _ :: _ :: _ :: _, h => by simp at h
    | [_], [], h => by cases h
    | [_], _ :: _ :: _, h => by simp at h
    | [_, _], _ :: _, h => by simp at h
    | _ :: _ :: _ :: _, _, h => by simp at h) (fun a b => Vals.append a (vals_rev b))
theorem ok_grow {f : Addr} {fd : FuncData} {k : Nat} (F : Fun K "grow" "grow" s_grow f fd) (m_reversed : mg "reversed" = none) : FnOk P w K mg base CX0 (k + 1) f fd ["pipeline", "row_size"] (spGrow K) := by
  refine F.ok sc_grow (fun vs H Q E h => ?_) (fun cdv A outer s H vs Q E hr h => ?_)
  · obtain ⟨p, t, n, e, rfl, _⟩ := h
    rfl
  · obtain ⟨p, t, n, e, rfl, ⟨hp, hpl⟩, ht, q⟩ := h
    refine ⟨_, (pss_cons (ps_asg (pv 1) (pg_tup2 rfl (pg_name (i := 2) sc_grow.nd rfl (.inl rfl) (.inl rfl)) (pg_name (i := 3) sc_grow.nd rfl (.inl rfl) (.inl rfl))))
 (pss_cons (ps_for PassesOwn.never rfl (pi_revS (by rfl) m_reversed (pv 0)) (pg_name (i := 4) sc_grow.nd rfl (.inl rfl))
  (pss_one (ps_if (pt_cmpR op_eq (pv 4) pe_str (nomark _)) (pss_one (ps_par (i := 2) (j := 3) rfl sc_grow.nd rfl rfl (by decide) rfl rfl (pa_cons (pe_op op_add (pe_op op_mul pe_int (pv 2)) (pv 3)) (pa_cons (pv 2) pa_nil)) (by rfl))) (pss_one (ps_set (i := 2) sc_grow.nd rfl (.inl rfl) (pe_op op_add (pv 2) (pe_op op_mul pe_int (pv 3))))))))
 (pss_one (ps_ret (pe_tup (pa_cons (pv 2) (pa_cons (pv 3) pa_nil))))))), ?_⟩
    refine ⟨_, rfl, t, _, rfl, ht, rfl, _, _, rfl, _, _, rfl, rfl, ?_⟩
    refine ⟨_, rfl, mk p, rfl, Nat.le_of_lt (line_of (by rw [mk_len]; exact hpl)), for_it walk_revS (fun i σ H' => ∃ y4, σ = [some (.str (mk p)), some (.ref t), some (.int ((growS (p.drop (p.length - i)) (n, e)).1 : Nat)), some (.int ((growS (p.drop (p.length - i)) (n, e)).2 : Nat)), y4] ∧ Same H H')
      ⟨none, by rw [Nat.sub_zero, List.drop_length]; rfl, Same.refl H⟩ (fun _ _ _ _ _ => trivial) ?_ ?_⟩
    · rintro i x σ H1 H2 hi ⟨y4, rfl, sm⟩ ⟨rfl, c, hc, rfl⟩
      rw [mk_size] at hi hc
      have gi : p[p.length - 1 - i]? = some c := by simpa [mk] using hc
      have hcp := hp c (List.mem_of_getElem? gi)
      have ed : p.drop (p.length - (i + 1)) = c :: p.drop (p.length - i) := by
        have e2 : p.length - i = (p.length - 1 - i) + 1 := by omega
        have e1 : p.length - (i + 1) = p.length - 1 - i := by omega
        rw [e1, e2]
        obtain ⟨h1, h3⟩ := List.getElem?_eq_some_iff.mp gi
        rw [List.drop_eq_getElem_cons h1, h3]
      have eg := growS_cons c (p.drop (p.length - i)) (n, e)
      generalize growS (p.drop (p.length - i)) (n, e) = z at eg ⊢
      refine ⟨_, rfl, rfl, _, rfl, ?_⟩
      rw [show (⟨#[c]⟩ : Str) = mk [c] from rfl, sign_T]
      refine ite2 (fun h => ?_) (fun h => ?_)
      · have h := of_decide_eq_true h
        subst h
        refine ⟨_, rfl, _, _, rfl, rfl, .inl ⟨by decide, by decide⟩, _, rfl, _, _, rfl, rfl, _, rfl, _, _, rfl, ?_⟩
        refine ⟨some (.str (mk [84])), ?_, sm⟩
        rw [ed, eg]
        rfl
      · have h : ¬ c = 84 := fun z => h (decide_eq_true z)
        have h83 : c = 83 := by rcases hcp with e | e; exact absurd e h; exact e
        subst h83
        refine ⟨_, rfl, _, rfl, _, _, rfl, rfl, .inl ⟨by decide, by decide⟩, _, _, rfl, rfl, ?_⟩
        refine ⟨some (.str (mk [83])), ?_, sm⟩
        rw [ed, eg]
        rfl
    · rintro σ H1 ⟨y4, rfl, sm⟩
      rw [mk_size, Nat.sub_self, List.drop_zero]
      exact ⟨_, rfl, _, rfl, (by show 2 ≤ sizeLine; decide), fun r nr => q _ r (sm.trans (same_upd nr)) (sm.free nr) upd_same⟩
theorem ok_least {f fC fD fR fS fG C0 fI0 C1 fI1 : Addr} {fd fdC fdD fdR fdS fdG : FuncData} {k : Nat} (F : Fun K "least_size" "least_size" s_least_size f fd) (T0 : TwX.ETxt K C0 fI0) (g0 : mg "InvalidRow" = some (.ref C0)) (T1 : TwX.ETxt K C1 fI1) (g1 : mg "InvalidPipeline" = some (.ref C1))
    (DC : Dfn K mg "check_row" sChkRow ["row"] fC fdC) (Dcheck_pipeline : Dfn K mg "check_pipeline" sChkPipe ["pipeline"] fD fdD) (DR : Dfn K mg "runs_of" sRuns ["row"] fR fdR) (Dsize : Dfn K mg "size" sSize ["row"] fS fdS) (Dgrow : Dfn K mg "grow" s_grow ["pipeline", "row_size"] fG fdG)
    (m_enumerate : mg "enumerate" = none) (m_len : mg "len" = none) (m_reversed : mg "reversed" = none) : FnOk P w K mg base (L2.CX P w) (k + 4) f fd ["pipeline", "output"] (spLeastX C0 C1) := by
  have Gcheck_pipeline : FnOk P w K mg base (L2.CX P w) (k + 3) fD fdD ["pipeline"] (spChkPipeX C1) := ok_chkPipeX Dcheck_pipeline.F T1 g1 m_enumerate
  have Gsize : FnOk P w K mg base (L2.CX P w) (k + 3) fS fdS ["row"] (spSizeX C0) := ok_sizeX Dsize.F T0 g0 DC.F DC.b DC.g DR.F DR.b DR.g m_enumerate m_len
  have Ggrow : FnOk P w K mg base CX0 (k + 3) fG fdG ["pipeline", "row_size"] (spGrow K) := ok_grow Dgrow.F m_reversed
  refine F.okX sc_least_size (fun vs H Q E h => ?_) (fun cdv A outer s H vs Q E hr h => ?_)
  · obtain ⟨p, l, rfl, _⟩ := h
    rfl
  · obtain ⟨p, l, rfl, hpl, hl, q, q1, q0⟩ := h
    refine ⟨_, (pss_cons (ps_expr (pe_call (E := E) Gcheck_pipeline hr rfl Dcheck_pipeline.g Dcheck_pipeline.F.kp Dcheck_pipeline.b .nil (passes_call (takes_of rfl rfl rfl rfl) (fun _ _ _ _ h => h)) (pa_cons (pv 0) pa_nil)))
 (pss_one (ps_ret (pe_call Ggrow hr rfl Dgrow.g Dgrow.F.kp Dgrow.b .nil pass0 (pa_cons (pv 0) (pa_cons (pe_call (E := E) Gsize hr rfl Dsize.g Dsize.F.kp Dsize.b .nil (passes_call (takes_of rfl rfl rfl rfl) (fun _ _ _ _ h => h)) (pa_cons (pv 1) pa_nil)) pa_nil)))))), ?_⟩
    refine ⟨_, rfl, p, rfl, fun hbp H1 sm1 => ?_, q1⟩
    refine ⟨_, rfl, _, rfl, l, rfl, hl, fun hbl H2 t sm2 nt ht => ?_, fun i hi => (q0 hbp i hi).mono sm1⟩
    exact ⟨p, t, l.length, pairs l, rfl, ⟨pipe_of hbp, by omega⟩, SqT.of ht, fun H3 r sm3 nr hr3 => q hbp hbl H3 r (sm1.trans (sm2.trans sm3)) ((sm1.trans sm2).free nr) hr3⟩
end
end Tw

set_option Elab.async false
set_option linter.all false
set_option maxRecDepth 100000
set_option maxHeartbeats 2000000
namespace Tw
open PySem PySem.Spec PyProof.Rows L2
abbrev s_add_free : Stmt := topS 20
abbrev s_shape_before_t : Stmt := topS 21
section
variable {P : Program} {w : World} {K : PySem.W.Frag} {mg : Str → Option Value} {base : Heap}
theorem sc_add_free : FnScope ["barred", "mark", "free"] ["barred", "mark"] (defScope s_add_free) := ⟨rfl, rfl, rfl, by decide +kernel, rfl, by decide +kernel, by decide +kernel⟩
theorem sc_shape_before_t : FnScope ["shape", "barred", "wider", "at", "mark"] ["shape", "barred"] (defScope s_shape_before_t) := ⟨rfl, rfl, rfl, by decide +kernel, rfl, by decide +kernel, by decide +kernel⟩
theorem ok_addFree {f : Addr} {fd : FuncData} {k : Nat} (F : Fun K "add_free" "add_free" s_add_free f fd) (m_len : mg "len" = none) : FnOk P w K mg base CX0 (k + 1) f fd ["barred", "mark"] spAddFree := by
  refine F.ok sc_add_free (fun vs H Q E h => ?_) (fun cdv A outer s H vs Q E hr h => ?_)
  · obtain ⟨d, bs, m, rfl, _⟩ := h
    rfl
  · obtain ⟨d, bs, m, rfl, hd, hb, q⟩ := h
    refine ⟨_, (pss_cons (ps_set (i := 2) sc_add_free.nd rfl (.inl rfl) (pe_callB call_lenD (by rfl) m_len PySem.boot_len (pa_cons (pv 0) pa_nil)))
 (pss_cons (ps_dput (hu_of hr) (pv 0) (pv 2) (pv 1) rfl)
 (pss_one (ps_ret (pv 2))))), ?_⟩
    refine ⟨_, rfl, d, _, rfl, hd, ?_⟩
    rw [barK_len]
    have e := DPut.k (k := .inl ((bs.length : Nat) : Int)) (v := mV m) hd (by rw [barK_len]; exact line_of (by omega))
    rw [barK_put] at e
    exact ⟨_, rfl, _, rfl, _, rfl, d, _, rfl, e, _, rfl, q⟩
theorem ok_shT {f fA : Addr} {fd fdA : FuncData} {k : Nat} (F : Fun K "shape_before_t" "shape_before_t" s_shape_before_t f fd) (Dadd_free : Dfn K mg "add_free" s_add_free ["barred", "mark"] fA fdA) (m_len : mg "len" = none) (m_enumerate : mg "enumerate" = none) :
    FnOk P w K mg base CX0 (k + 2) f fd ["shape", "barred"] spShT := by
  have Gadd_free : FnOk P w K mg base CX0 (k + 1) fA fdA ["barred", "mark"] spAddFree := ok_addFree Dadd_free.F m_len
  refine F.ok sc_shape_before_t (fun vs H Q E h => ?_) (fun cdv A outer s H vs Q E hr h => ?_)
  · obtain ⟨a, d, ms, bs, rfl, _⟩ := h
    rfl
  · obtain ⟨a, d, ms, bs, rfl, ha, hd, hm, hb, q⟩ := h
    have nad : a ≠ d := ne_of ha hd (by intro z; cases z)
    refine ⟨_, (pss_cons (ps_set (i := 2) sc_shape_before_t.nd rfl (.inl rfl) (pe_lst pa_nil))
 (pss_cons (ps_for PassesOwn.never rfl (pi_enum (by rfl) m_enumerate (pa_cons (pv 0) pa_nil)) (pg_tup rfl (pgs_cons (pg_name (i := 3) sc_shape_before_t.nd rfl (.inl rfl)) (pgs_cons (pg_name (i := 4) sc_shape_before_t.nd rfl (.inl rfl)) pgs_nil)))
  (pss_cons (ps_if (PW.pt (pw_and (pt_cmpR op_gt (pv 3) pe_int (nomark _)) (pw_and1 (pt_cmpR op_eq (pe_ix ix_list (pv 0) (pe_op op_sub (pv 3) pe_int) (fun _ _ => rfl)) (pv 4) (nomark _))))) (pss_one (ps_expr (pe_bm PySem.F.plainAttrs_list PySem.F.slot_list_append PySem.F.type_list_append mt_append (pv 2) (pa_cons (pe_call Gadd_free hr rfl Dadd_free.g Dadd_free.F.kp Dadd_free.b .nil pass0 (pa_cons (pv 1) (pa_cons (pv 4) pa_nil))) pa_nil)))) pss_nil)
 (pss_one (ps_expr (pe_bm PySem.F.plainAttrs_list PySem.F.slot_list_extend PySem.F.type_list_extend mt_extend (pv 2) (pa_cons (pe_lst (pa_cons (pv 4) (pa_cons (pv 4) pa_nil))) pa_nil))))))
 (pss_one (ps_ret (pv 2))))), ?_⟩
    refine ⟨Nat.zero_le _, fun q0 nq => ?_⟩
    have s0 := same_upd (o := .lst []) nq
    have nqd : q0 ≠ d := Ne.symm (ne_of_none hd nq)
    refine ⟨_, rfl, a, _, rfl, SqL.of (s0 _ _ ha), for_it walk_enum (fun i σ H' => ∃ y3 y4, σ = [some (.ref a), some (.ref d), some (.ref q0), y3, y4] ∧ SameB d H H' ∧ H' q0 = some (.lst (marksV (upT ms bs i).1)) ∧ H' d = some (.dK (barK (upT ms bs i).2.1)) ∧ (upT ms bs i).1.length ≤ 3 * i ∧ (upT ms bs i).2.1.length ≤ bs.length + i)
      ⟨none, none, rfl, Same.b s0, upd_same, s0 _ _ hd, Nat.zero_le _, Nat.le_refl _⟩ (fun i σ H' _ ⟨_, _, _, sm, _⟩ => SqL.of (sm _ _ nad ha)) ?_ ?_⟩
    · rintro i x σ H1 H2 hi ⟨y3, y4, rfl, sm, hq, hd1, l1, l2⟩ ⟨T, v1, v2, rfl, nT, rfl, e1, e2⟩
      cases e1
      have hil : i < ms.length := by rw [marksV, List.length_map] at hi; exact hi
      have e2 : (ms.map mV)[i]? = some v2 := e2
      rw [List.getElem?_map] at e2
      obtain ⟨m, hmi, rfl⟩ := Option.map_eq_some_iff.mp e2
      have st := same_upd (o := .tup [V.int (i : Nat), mV m]) nT
      have sm2 : SameB d H (upd H1 T (.tup [V.int (i : Nat), mV m])) := sm.trans (Same.b st)
      have hq2 := st _ _ hq
      have hd2 := st _ _ hd1
      have up := upT_succ (bs := bs) hmi
      have pv := upT_prev (bs := bs) hil
      refine ⟨T, _, rfl, SqT.of upd_same, rfl, _, _, rfl, _, _, rfl, rfl, ?_⟩
      refine ⟨_, rfl, _, _, rfl, rfl, _, rfl, ite2 (fun h0 => ?A) (fun h0 => ?B)⟩
      case' A =>
        have h1 : 0 < i := by have := of_decide_eq_true h0; omega
        have hpi : i - 1 < ms.length := by omega
        rw [if_pos h1, List.getElem?_eq_getElem hpi] at pv
        refine ⟨_, rfl, _, rfl, _, _, rfl, rfl, a, _, _, _, rfl, rfl, SqL.of (sm2 _ _ nad ha), atI_of (j := i - 1) (by omega) (by rw [marksV, List.getElem?_map, List.getElem?_eq_getElem hpi]; rfl), _, rfl, scal_mV _ _, _, rfl, ?_⟩
        rw [eq_marks]
        refine ite2 (fun h2 => ?C) (fun h2 => ?D)
        case' C =>
          have h3 : ms[i - 1] = m := of_decide_eq_true h2
          rw [h3] at pv
          have e3 : addT (upT ms bs i) m = _ := if_pos pv
          rw [e3] at up
          refine ⟨_, rfl, .inl ⟨rfl, _, SqL.of hq2⟩, _, rfl, _, rfl, d, _, m, rfl, hd2, by omega, ?_⟩
          have hq3 : (upd (upd H1 T (.tup [V.int (i : Nat), mV m])) d (.dK (barK ((upT ms bs i).2.1 ++ [m])))) q0 = some (.lst (marksV (upT ms bs i).1)) := by rw [upd_ne nqd]; exact hq2
          refine ⟨q0, _, _, rfl, rfl, hq3, (by rw [marksV, List.length_map]; exact line_of (by omega)), ?_⟩
          have hq4 : (upd (upd (upd H1 T (.tup [V.int (i : Nat), mV m])) d (.dK (barK ((upT ms bs i).2.1 ++ [m])))) q0 (.lst (marksV (upT ms bs i).1 ++ [V.int ((upT ms bs i).2.1.length : Nat)]))) q0 = some (.lst (marksV ((upT ms bs i).1 ++ [200 + (upT ms bs i).2.1.length]))) := by
            rw [upd_same]
            unfold marksV
            rw [List.map_append, List.map_cons, List.map_nil, mV_free]
          have hd4 : (upd (upd (upd H1 T (.tup [V.int (i : Nat), mV m])) d (.dK (barK ((upT ms bs i).2.1 ++ [m])))) q0 (.lst (marksV (upT ms bs i).1 ++ [V.int ((upT ms bs i).2.1.length : Nat)]))) d = some (.dK (barK (upT ms bs (i + 1)).2.1)) := by
            rw [upd_ne (Ne.symm nqd), upd_same, up]
          have sm4 : SameB d H (upd (upd (upd H1 T (.tup [V.int (i : Nat), mV m])) d (.dK (barK ((upT ms bs i).2.1 ++ [m])))) q0 (.lst (marksV (upT ms bs i).1 ++ [V.int ((upT ms bs i).2.1.length : Nat)]))) := fun b o nb hb => by
            rw [upd_ne (ne_of_none hb nq), upd_ne nb]
            exact sm2 b o nb hb
          have w4 : (upT ms bs (i + 1)).1 = ((upT ms bs i).1 ++ [200 + (upT ms bs i).2.1.length]) ++ [m, m] := by rw [up]
          have l4 : ((upT ms bs i).1 ++ [200 + (upT ms bs i).2.1.length]).length ≤ 3 * i + 1 := by rw [List.length_append]; simp; omega
          have l5 : (upT ms bs (i + 1)).2.1.length ≤ bs.length + (i + 1) := by rw [up]; simp; omega
        case' D =>
          have h3 : ¬ ms[i - 1] = m := fun z => h2 (decide_eq_true z)
          have e3 : addT (upT ms bs i) m = _ := if_neg (by rw [pv]; exact fun z => h3 (Option.some.inj z))
          rw [e3] at up
          have hq4 := hq2
          have hd4 : (upd H1 T (.tup [V.int (i : Nat), mV m])) d = some (.dK (barK (upT ms bs (i + 1)).2.1)) := by rw [up]; exact hd2
          have sm4 := sm2
          have w4 : (upT ms bs (i + 1)).1 = (upT ms bs i).1 ++ [m, m] := by rw [up]
          have l4 : (upT ms bs i).1.length ≤ 3 * i + 1 := by omega
          have l5 : (upT ms bs (i + 1)).2.1.length ≤ bs.length + (i + 1) := by rw [up]; show (upT ms bs i).2.1.length ≤ _; omega
      case' B =>
        have h1 : ¬ 0 < i := fun z => h0 (decide_eq_true (by omega))
        rw [if_neg h1] at pv
        have e3 : addT (upT ms bs i) m = _ := if_neg (by rw [pv]; exact fun z => by cases z)
        rw [e3] at up
        have hq4 := hq2
        have hd4 : (upd H1 T (.tup [V.int (i : Nat), mV m])) d = some (.dK (barK (upT ms bs (i + 1)).2.1)) := by rw [up]; exact hd2
        have sm4 := sm2
        have w4 : (upT ms bs (i + 1)).1 = (upT ms bs i).1 ++ [m, m] := by rw [up]
        have l4 : (upT ms bs i).1.length ≤ 3 * i + 1 := by omega
        have l5 : (upT ms bs (i + 1)).2.1.length ≤ bs.length + (i + 1) := by rw [up]; show (upT ms bs i).2.1.length ≤ _; omega
      all_goals
        refine ⟨_, rfl, .inl ⟨rfl, _, SqL.of hq4⟩, _, rfl, _, rfl, (by show 2 ≤ sizeLine; decide), fun p2 np2 => ?_⟩
        have n2 : q0 ≠ p2 := ne_of_none hq4 np2
        have n2d : d ≠ p2 := ne_of_none hd4 np2
        refine ⟨q0, p2, _, _, rfl, rfl, (by rw [upd_ne n2]; exact hq4), upd_same, (by rw [marksV, List.length_map]; show _ + 2 ≤ _; exact Nat.le_of_lt (line_of (by omega))), ?_⟩
        refine ⟨_, _, rfl, ?_, ?_, ?_, ?_, l5⟩
        · intro b o nb hb
          rw [upd_ne (ne_of_none hb nq), upd_ne (ne_of_none (sm4 b o nb hb) np2)]
          exact sm4 b o nb hb
        · rw [upd_same, w4]
          unfold marksV
          show some (HO.lst (List.map mV _ ++ List.map mV [m, m])) = _
          rw [← List.map_append]
        · rw [upd_ne (Ne.symm nqd), upd_ne n2d]
          exact hd4
        · rw [w4, List.length_append]
          show _ + 2 ≤ _
          omega
    · rintro σ H1 ⟨y3, y4, rfl, sm, hq, hd1, l1, l2⟩
      have el : (marksV ms).length = ms.length := List.length_map ..
      rw [el, (upT_last ms bs).1] at hq
      rw [el, (upT_last ms bs).2] at hd1
      exact ⟨_, rfl, q H1 q0 sm nq hq hd1⟩
end
end Tw

set_option Elab.async false
set_option linter.all false
set_option maxRecDepth 100000
set_option maxHeartbeats 2000000
namespace Tw
open PySem PySem.Spec PyProof.Rows L2
abbrev s_shape_before_s : Stmt := topS 22
section
variable {P : Program} {w : World} {K : PySem.W.Frag} {mg : Str → Option Value} {base : Heap}
theorem sc_shape_before_s : FnScope ["shape", "count", "barred", "wider", "at", "mark", "half", "inner", "_"] ["shape", "count", "barred"] (defScope s_shape_before_s) := ⟨rfl, rfl, rfl, by decide +kernel, rfl, by decide +kernel, by decide +kernel⟩
theorem ok_shS {f fA : Addr} {fd fdA : FuncData} {k : Nat} (F : Fun K "shape_before_s" "shape_before_s" s_shape_before_s f fd) (Dadd_free : Dfn K mg "add_free" s_add_free ["barred", "mark"] fA fdA) (m_len : mg "len" = none) (m_enumerate : mg "enumerate" = none) (m_range : mg "range" = none) :
    FnOk P w K mg base CX0 (k + 2) f fd ["shape", "count", "barred"] spShS := by
  have Gadd_free : FnOk P w K mg base CX0 (k + 1) fA fdA ["barred", "mark"] spAddFree := ok_addFree Dadd_free.F m_len
  refine F.ok sc_shape_before_s (fun vs H Q E h => ?_) (fun cdv A outer s H vs Q E hr h => ?_)
  · obtain ⟨a, d, ms, bs, c, rfl, _⟩ := h
    rfl
  · obtain ⟨a, d, ms, bs, c, rfl, ha, hd, hm, hb, htot, hc, q⟩ := h
    have nad : a ≠ d := ne_of ha hd (by intro z; cases z)
    refine ⟨_, (pss_cons (ps_set (i := 3) sc_shape_before_s.nd rfl (.inl rfl) (pe_lst pa_nil))
 (pss_cons (ps_for PassesOwn.never rfl (pi_enum (by rfl) m_enumerate (pa_cons (pv 0) pa_nil)) (pg_tup rfl (pgs_cons (pg_name (i := 4) sc_shape_before_s.nd rfl (.inl rfl)) (pgs_cons (pg_name (i := 5) sc_shape_before_s.nd rfl (.inl rfl)) pgs_nil)))
  (pss_cons (ps_if (PW.pt (pw_and (pt_cmpR op_gt (pv 4) pe_int (nomark _)) (pw_and1 (pt_cmpR op_eq (pe_ix ix_list (pv 0) (pe_op op_sub (pv 4) pe_int) (fun _ _ => rfl)) (pv 5) (nomark _))))) (pss_cons (ps_set (i := 6) sc_shape_before_s.nd rfl (.inl rfl) (pe_lst pa_nil))
 (pss_cons (ps_set (i := 7) sc_shape_before_s.nd rfl (.inl rfl) (pv 5))
 (pss_cons (ps_for PassesOwn.never rfl (pi_range1 (by rfl) m_range (pa_cons (pv 1) pa_nil)) (pg_name (i := 8) sc_shape_before_s.nd rfl (.inl rfl))
  (pss_cons (ps_set (i := 7) sc_shape_before_s.nd rfl (.inl rfl) (pe_call Gadd_free hr rfl Dadd_free.g Dadd_free.F.kp Dadd_free.b .nil pass0 (pa_cons (pv 2) (pa_cons (pv 7) pa_nil))))
 (pss_one (ps_expr (pe_bm PySem.F.plainAttrs_list PySem.F.slot_list_append PySem.F.type_list_append mt_append (pv 6) (pa_cons (pv 7) pa_nil))))))
 (pss_one (ps_expr (pe_bm PySem.F.plainAttrs_list PySem.F.slot_list_extend PySem.F.type_list_extend mt_extend (pv 3) (pa_cons (pe_op op_cat (pv 6) (pe_revL (pv 6))) pa_nil))))))) pss_nil)
 (pss_one (ps_expr (pe_bm PySem.F.plainAttrs_list PySem.F.slot_list_append PySem.F.type_list_append mt_append (pv 3) (pa_cons (pv 5) pa_nil))))))
 (pss_one (ps_ret (pv 3))))), ?_⟩
    refine ⟨Nat.zero_le _, fun q0 nq => ?_⟩
    have s0 := same_upd (o := .lst []) nq
    have nqd : q0 ≠ d := Ne.symm (ne_of_none hd nq)
    -- what the turns so far add up to
    have tot : ∀ i, (upS c ms bs i).1.length ≤ 100000 ∧ (upS c ms bs i).2.1.length ≤ 200000 ∧ ∀ m, ms[i]? = some m → (upS c ms bs i).2.2 = some m → 2 * c ≤ 100000 := fun i => by
      have e : upS c ms bs i = (goS c none (ms.take i) bs.length, bs ++ bsS c none (ms.take i) bs.length, lastO none (ms.take i)) := by
        unfold upS
        rw [foldl_addS, List.nil_append]
      have le : pairsO none (ms.take i) ≤ pairsO none ms := pairsO_take _ _ _
      have mu := Nat.mul_le_mul_left (2 * c) le
      have ml : (ms.take i).length ≤ ms.length := by rw [List.length_take]; omega
      rw [e]
      refine ⟨?_, ?_, fun m hmi hl => ?_⟩
      · rw [goS_len]
        omega
      · rw [List.length_append, bsS_len]
        have : c * pairsO none (ms.take i) ≤ 2 * c * pairsO none (ms.take i) := Nat.mul_le_mul_right _ (by omega)
        omega
      · have le1 : pairsO none (ms.take (i + 1)) ≤ pairsO none ms := pairsO_take _ _ _
        have e1 : pairsO none (ms.take (i + 1)) = pairsO none (ms.take i) + 1 := by
          rw [List.take_add_one, hmi, pairsO_app]
          show _ + pairsO (lastO none (ms.take i)) [m] = _
          have hl2 : lastO none (ms.take i) = some m := hl
          rw [hl2, pairsO, if_pos rfl]
          rfl
        have : 1 ≤ pairsO none ms := by omega
        have := Nat.mul_le_mul_left (2 * c) this
        omega
    refine ⟨_, rfl, a, _, rfl, SqL.of (s0 _ _ ha), for_it walk_enum (fun i σ H' => ∃ y3 y4 y5 y6 y7, σ = [some (.ref a), some (.int (c : Nat)), some (.ref d), some (.ref q0), y3, y4, y5, y6, y7] ∧ SameB d H H' ∧ H' q0 = some (.lst (marksV (upS c ms bs i).1)) ∧ H' d = some (.dK (barK (upS c ms bs i).2.1)))
      ⟨none, none, none, none, none, rfl, Same.b s0, upd_same, s0 _ _ hd⟩ (fun i σ H' _ ⟨_, _, _, _, _, _, sm, _⟩ => SqL.of (sm _ _ nad ha)) ?_ ?_⟩
    · rintro i x σ H1 H2 hi ⟨y3, y4, y5, y6, y7, rfl, sm, hq, hd1⟩ ⟨T, v1, v2, rfl, nT, rfl, e1, e2⟩
      cases e1
      have hil : i < ms.length := by rw [marksV, List.length_map] at hi; exact hi
      have e2 : (ms.map mV)[i]? = some v2 := e2
      rw [List.getElem?_map] at e2
      obtain ⟨m, hmi, rfl⟩ := Option.map_eq_some_iff.mp e2
      have st := same_upd (o := .tup [V.int (i : Nat), mV m]) nT
      have sm2 : SameB d H (upd H1 T (.tup [V.int (i : Nat), mV m])) := sm.trans (Same.b st)
      have hq2 := st _ _ hq
      have hd2 := st _ _ hd1
      have up := upS_succ (c := c) (bs := bs) hmi
      have pv := upS_prev (c := c) (bs := bs) hil
      obtain ⟨t1, t2, t3⟩ := tot i
      have t3 := t3 m hmi
      obtain ⟨t4, t5, _⟩ := tot (i + 1)
      refine ⟨T, _, rfl, SqT.of upd_same, rfl, _, _, rfl, _, _, rfl, rfl, ?_⟩
      refine ⟨_, rfl, _, _, rfl, rfl, _, rfl, ite2 (fun h0 => ?A) (fun h0 => ?B)⟩
      case' A =>
        have h1 : 0 < i := by have := of_decide_eq_true h0; omega
        have hpi : i - 1 < ms.length := by omega
        rw [if_pos h1, List.getElem?_eq_getElem hpi] at pv
        refine ⟨_, rfl, _, rfl, _, _, rfl, rfl, a, _, _, _, rfl, rfl, SqL.of (sm2 _ _ nad ha), atI_of (j := i - 1) (by omega) (by rw [marksV, List.getElem?_map, List.getElem?_eq_getElem hpi]; rfl), _, rfl, scal_mV _ _, _, rfl, ?_⟩
        rw [eq_marks]
        refine ite2 (fun h2 => ?C) (fun h2 => ?D)
        case' C =>
          have h3 : ms[i - 1] = m := of_decide_eq_true h2
          rw [h3] at pv
          have e3 : addS c (upS c ms bs i) m = _ := if_pos pv
          rw [e3] at up
          have t3 := t3 pv
          refine ⟨Nat.zero_le _, fun h np => ?_⟩
          have sh := same_upd (o := .lst []) np
          have nh0 : h ≠ q0 := Ne.symm (ne_of_none hq2 np)
          have nhd : h ≠ d := Ne.symm (ne_of_none hd2 np)
          have nhH : ∀ b o, b ≠ d → H b = some o → b ≠ h := fun b o nb hb => ne_of_none (sm2 b o nb hb) np
          refine ⟨_, rfl, _, rfl, ((c : Nat) : Int), rfl, by omega, by omega, for_range (n := c) (fun j σ H' => ∃ y8, σ = [some (.ref a), some (.int (c : Nat)), some (.ref d), some (.ref q0), some (.int (i : Nat)), some (mV m), some (.ref h), some (mV (if j = 0 then m else 200 + ((upS c ms bs i).2.1.length + (j - 1)))), y8] ∧ SameB d H H' ∧ H' q0 = some (.lst (marksV (upS c ms bs i).1)) ∧
            H' h = some (.lst (marksV (halfs (upS c ms bs i).2.1.length j))) ∧ H' d = some (.dK (barK ((upS c ms bs i).2.1 ++ inners m (upS c ms bs i).2.1.length j)))) ⟨y7, rfl, sm2.trans (Same.b sh), sh _ _ hq2, upd_same, ?_⟩ ?_ ?_⟩
          · show _ = some (HO.dK (barK ((upS c ms bs i).2.1 ++ [])))
            rw [List.append_nil]
            exact sh _ _ hd2
          · rintro j σ H3 hj ⟨y8, rfl, sm3, hq3, hh3, hd3⟩
            have lb : ((upS c ms bs i).2.1 ++ inners m (upS c ms bs i).2.1.length j).length = (upS c ms bs i).2.1.length + j := by rw [List.length_append, inners_len]
            refine ⟨_, rfl, _, rfl, d, _, _, rfl, hd3, by rw [lb]; omega, ?_⟩
            rw [lb]
            have nqd' : q0 ≠ d := nqd
            refine ⟨_, rfl, .inl ⟨rfl, _, SqL.of (by rw [upd_ne nhd]; exact hh3)⟩, _, rfl, h, _, _, rfl, rfl, (by rw [upd_ne nhd]; exact hh3), (by rw [marksV, List.length_map, halfs_len]; exact line_of (by omega)), ?_⟩
            refine ⟨some (.int (0 + (j : Nat))), ?_, ?_, ?_, ?_, ?_⟩
            · rw [if_neg (Nat.succ_ne_zero j), Nat.add_sub_cancel, mV_free]
              rfl
            · intro b o nb hb
              rw [upd_ne (nhH b o nb hb), upd_ne nb]
              exact sm3 b o nb hb
            · rw [upd_ne (Ne.symm nh0), upd_ne nqd]
              exact hq3
            · rw [upd_same, halfs_succ]
              unfold marksV
              rw [List.map_append, List.map_cons, List.map_nil, mV_free]
            · rw [upd_ne (Ne.symm nhd), upd_same]
              rw [inners, List.append_assoc]
          · rintro σ H3 ⟨y8, rfl, sm3, hq3, hh3, hd3⟩
            refine ⟨_, rfl, .inl ⟨rfl, _, SqL.of hq3⟩, ?_⟩
            refine ⟨_, rfl, _, rfl, h, _, rfl, SqL.of hh3, fun r nr => ?_⟩
            have sr := same_upd (o := .lst (marksV (halfs (upS c ms bs i).2.1.length c)).reverse) nr
            have lm : (marksV (halfs (upS c ms bs i).2.1.length c)).length = c := by rw [marksV, List.length_map, halfs_len]
            refine ⟨h, r, _, _, rfl, rfl, sr _ _ hh3, upd_same, (by rw [List.length_reverse, lm]; exact Nat.le_of_lt (line_of (by omega))), fun p2 np2 => ?_⟩
            have s2 := same_upd (o := .lst (marksV (halfs (upS c ms bs i).2.1.length c) ++ (marksV (halfs (upS c ms bs i).2.1.length c)).reverse)) np2
            have hq4 := s2 _ _ (sr _ _ hq3)
            have hd4 := s2 _ _ (sr _ _ hd3)
            have lw : (upS c ms bs (i + 1)).1.length = (upS c ms bs i).1.length + 2 * c + 1 := by
              rw [up]
              simp [halfs_len]
              omega
            refine ⟨q0, p2, _, _, rfl, rfl, hq4, upd_same, (by rw [List.length_append, List.length_reverse, lm]; unfold marksV; rw [List.length_map]; exact Nat.le_of_lt (line_of (by omega))), ?_⟩
            have n0d : q0 ≠ d := nqd
            refine ⟨_, rfl, .inl ⟨rfl, _, SqL.of upd_same⟩, _, rfl, q0, _, _, rfl, rfl, upd_same, (by rw [List.length_append, List.length_append, List.length_reverse, lm]; unfold marksV; rw [List.length_map]; exact line_of (by omega)), ?_⟩
            refine ⟨_, _, _, _, _, rfl, ?_, ?_, ?_⟩
            · intro b o nb hb
              rw [upd_ne (ne_of_none hb nq), upd_ne (ne_of_none hb nq)]
              exact s2 _ _ (sr _ _ (sm3 b o nb hb))
            · rw [upd_same, up]
              unfold marksV
              rw [List.map_append, List.map_append, List.map_append, List.map_reverse]
              rfl
            · rw [upd_ne (Ne.symm nqd), upd_ne (Ne.symm nqd), up]
              exact hd4
        case' D =>
          have h3 : ¬ ms[i - 1] = m := fun z => h2 (decide_eq_true z)
          have e3 : addS c (upS c ms bs i) m = _ := if_neg (by rw [pv]; exact fun z => h3 (Option.some.inj z))
      case' B =>
        have h1 : ¬ 0 < i := fun z => h0 (decide_eq_true (by omega))
        rw [if_neg h1] at pv
        have e3 : addS c (upS c ms bs i) m = _ := if_neg (by rw [pv]; exact fun z => by cases z)
      all_goals
        rw [e3] at up
        have w4 : (upS c ms bs (i + 1)).1 = (upS c ms bs i).1 ++ [m] := by rw [up]
        refine ⟨_, rfl, .inl ⟨rfl, _, SqL.of hq2⟩, _, rfl, q0, _, _, rfl, rfl, hq2, (by rw [marksV, List.length_map]; exact line_of (by omega)), ?_⟩
        refine ⟨_, _, _, _, _, rfl, ?_, ?_, ?_⟩
        · intro b o nb hb
          rw [upd_ne (ne_of_none hb nq)]
          exact sm2 b o nb hb
        · rw [upd_same, w4]
          unfold marksV
          rw [List.map_append]
          rfl
        · rw [upd_ne (Ne.symm nqd), up]
          exact hd2
    · rintro σ H1 ⟨y3, y4, y5, y6, y7, rfl, sm, hq, hd1⟩
      have el : (marksV ms).length = ms.length := List.length_map ..
      rw [el, (upS_last c ms bs).1] at hq
      rw [el, (upS_last c ms bs).2] at hd1
      exact ⟨_, rfl, q H1 q0 sm nq hq hd1⟩
end
end Tw

set_option Elab.async false
set_option linter.all false
set_option maxRecDepth 100000
set_option maxHeartbeats 2000000
namespace Tw
open PySem PySem.Spec PyProof.Rows L2
abbrev s_shape_of : Stmt := topS 23
section
variable {P : Program} {w : World} {K : PySem.W.Frag} {mg : Str → Option Value} {base : Heap}
theorem sc_shape_of : FnScope ["pipeline", "output", "shape", "barred", "kind", "count", "_"] ["pipeline", "output"] (defScope s_shape_of) := ⟨rfl, rfl, rfl, by decide +kernel, rfl, by decide +kernel, by decide +kernel⟩
theorem ok_shOf {f fA fT fS fR : Addr} {fd fdA fdT fdS fdR : FuncData} {k : Nat} (F : Fun K "shape_of" "shape_of" s_shape_of f fd) (Dadd_free : Dfn K mg "add_free" s_add_free ["barred", "mark"] fA fdA) (Dshape_before_t : Dfn K mg "shape_before_t" s_shape_before_t ["shape", "barred"] fT fdT)
    (Dshape_before_s : Dfn K mg "shape_before_s" s_shape_before_s ["shape", "count", "barred"] fS fdS) (Druns_of : Dfn K mg "runs_of" sRuns ["row"] fR fdR) (m_len : mg "len" = none) (m_enumerate : mg "enumerate" = none) (m_range : mg "range" = none) (m_list : mg "list" = none) (m_reversed : mg "reversed" = none) :
    FnOk P w K mg base CX0 (k + 3) f fd ["pipeline", "output"] spShOf := by
  have Gshape_before_t : FnOk P w K mg base CX0 (k + 2) fT fdT ["shape", "barred"] spShT := ok_shT Dshape_before_t.F Dadd_free m_len m_enumerate
  have Gshape_before_s : FnOk P w K mg base CX0 (k + 2) fS fdS ["shape", "count", "barred"] spShS := ok_shS Dshape_before_s.F Dadd_free m_len m_enumerate m_range
  have Gruns_of : FnOk P w K mg base CX0 (k + 2) fR fdR ["row"] spRuns := ok_runs Druns_of.F
  refine F.ok sc_shape_of (fun vs H Q E h => ?_) (fun cdv A outer s H vs Q E hr h => ?_)
  · obtain ⟨p, o, rfl, _⟩ := h
    rfl
  · obtain ⟨p, o, rfl, ⟨hp, hpl⟩, ho, hg, q⟩ := h
    refine ⟨_, (pss_cons (ps_set (i := 2) sc_shape_of.nd rfl (.inl rfl) (pe_callTy (call_listS rfl) (by rfl) m_list (by decide +kernel) (pa_cons (pv 1) pa_nil)))
 (pss_cons (ps_set (i := 3) sc_shape_of.nd rfl (.inl rfl) pe_dnewK)
 (pss_cons (ps_for PassesOwn.never rfl (pi_reversed (by rfl) m_reversed (pa_cons (pe_call Gruns_of hr rfl Druns_of.g Druns_of.F.kp Druns_of.b .nil pass0 (pa_cons (pv 0) pa_nil)) pa_nil)) (pg_tup rfl (pgs_cons (pg_name (i := 4) sc_shape_of.nd rfl (.inl rfl)) (pgs_cons (pg_name (i := 5) sc_shape_of.nd rfl (.inl rfl)) pgs_nil)))
  (pss_one (ps_if (pt_cmpR op_eq (pv 4) pe_str (nomark _)) (pss_one (ps_set (i := 2) sc_shape_of.nd rfl (.inl rfl) (pe_call Gshape_before_s hr rfl Dshape_before_s.g Dshape_before_s.F.kp Dshape_before_s.b .nil pass0 (pa_cons (pv 2) (pa_cons (pv 5) (pa_cons (pv 3) pa_nil)))))) (pss_one (ps_for PassesOwn.never rfl (pi_range1 (by rfl) m_range (pa_cons (pv 5) pa_nil)) (pg_name (i := 6) sc_shape_of.nd rfl (.inl rfl))
  (pss_one (ps_set (i := 2) sc_shape_of.nd rfl (.inl rfl) (pe_call Gshape_before_t hr rfl Dshape_before_t.g Dshape_before_t.F.kp Dshape_before_t.b .nil pass0 (pa_cons (pv 2) (pa_cons (pv 3) pa_nil))))))))))
 (pss_one (ps_ret (pe_tup (pa_cons (pv 2) (pa_cons (pv 3) pa_nil)))))))), ?_⟩
    have hol : o.length ≤ 100000 := by
      have := growR_le (runs p).reverse (sizeS o)
      rw [growR_eq] at this
      exact Nat.le_trans this hg
    have hrl : (runs p).length ≤ p.length := runs_le p
    refine ⟨_, rfl, o, rfl, Nat.le_of_lt (line_of (by omega)), fun a0 na0 => ?_⟩
    rw [signsOf_marks ho]
    have sa := same_upd (o := .lst (marksV o)) na0
    intro d nd
    have sd := same_upd (o := .dK []) nd
    have ndH : H d = none := sa.free nd
    refine ⟨_, rfl, p, rfl, hpl, fun H1 l as sm1 nl hl ps => ?_⟩
    have hd1 : H1 d = some (.dK []) := sm1 _ _ upd_same
    have ha1 : H1 a0 = some (.lst (marksV o)) := sm1 _ _ (sd _ _ upd_same)
    have smH : Same H H1 := sa.trans (sd.trans sm1)
    have lal : (as.map V.ref).length = (runs p).length := by rw [List.length_map, ps.len]
    have nld : l ≠ d := ne_of hl hd1 (by intro z; cases z)
    refine ⟨l, _, rfl, SqL.of hl, for_it walk_rev (fun i σ H' => ∃ a y4 y5 y6, σ = [some (.str (mk p)), some (.str (mk o)), some (.ref a), some (.ref d), y4, y5, y6] ∧ SameB d H1 H' ∧ H' a = some (.lst (marksV (shapeR o ((runs p).reverse.take i)).1)) ∧ H' d = some (.dK (barK (shapeR o ((runs p).reverse.take i)).2)))
      ⟨a0, none, none, none, rfl, SameB.refl _ _, ha1, hd1⟩ (fun i σ H' _ ⟨_, _, _, _, _, sm, _⟩ => SqL.of (sm _ _ nld hl)) ?_ ?_⟩
    · rintro i x σ H2 H3 hi ⟨a, y4, y5, y6, rfl, sm2, ha2, hd2⟩ ⟨rfl, hx⟩
      rw [lal] at hi hx
      have hj : (runs p).length - 1 - i < (runs p).length := by omega
      have hx' : (as.map V.ref)[(runs p).length - 1 - i]? = some x := hx
      rw [List.getElem?_map] at hx'
      obtain ⟨T, hT, rfl⟩ := Option.map_eq_some_iff.mp hx'
      obtain ⟨qq, hq, hqa⟩ := ps.at' hT
      have hrev : (runs p).reverse[i]? = some qq := by rw [List.getElem?_reverse hi]; exact hq
      have hqT := sm2 T _ (ne_of hqa hd1 (by intro z; cases z)) hqa
      have hmem : qq ∈ runs p := List.mem_of_getElem? hq
      have hhead := runs_heads hp qq hmem
      have hcnt := runs_counts qq hmem
      have tk : shapeR o ((runs p).reverse.take (i + 1)) = stepR (shapeR o ((runs p).reverse.take i)) qq := by
        unfold shapeR
        rw [List.take_add_one, hrev, List.foldl_append]
        rfl
      have heads : ∀ j, ∀ q ∈ (runs p).reverse.take j, q.1 = 84 ∨ q.1 = 83 := fun j q hq => runs_heads hp q (List.mem_reverse.mp (List.mem_of_mem_take hq))
      have S1 := Shp.run ho _ (heads i)
      have S2 := Shp.run ho _ (heads (i + 1))
      have b1 := growR_take (runs p).reverse (sizeS o) i
      have b2 := growR_take (runs p).reverse (sizeS o) (i + 1)
      rw [growR_eq] at b1 b2
      have grw : growR ((runs p).reverse.take (i + 1)) (sizeS o) = iter1 (qq.1 == 84) qq.2 (growR ((runs p).reverse.take i) (sizeS o)) := by
        unfold growR
        rw [List.take_add_one, hrev, List.foldl_append]
        rfl
      have l1 : (shapeR o ((runs p).reverse.take i)).1.length = (growR ((runs p).reverse.take i) (sizeS o)).1 := congrArg Prod.fst S1.size
      have p1 : pairsO none (shapeR o ((runs p).reverse.take i)).1 = (growR ((runs p).reverse.take i) (sizeS o)).2 := congrArg Prod.snd S1.size
      have lb := S1.bar
      generalize shapeR o ((runs p).reverse.take i) = z at *
      generalize growR ((runs p).reverse.take i) (sizeS o) = y at *
      have nad : a ≠ d := ne_of ha2 hd2 (by intro z; cases z)
      refine ⟨T, _, rfl, SqT.of hqT, rfl, _, _, rfl, _, _, rfl, rfl, ?_⟩
      refine ⟨_, rfl, rfl, _, rfl, ?_⟩
      rw [sign_S]
      refine ite2 (fun h8 => ?_) (fun h8 => ?_)
      · have h8 : qq.1 = 83 := of_decide_eq_true h8
        rw [h8] at grw
        have grw : growR ((runs p).reverse.take (i + 1)) (sizeS o) = iter1 false qq.2 y := grw
        rw [grw, iterS] at b2
        refine ⟨_, rfl, _, rfl, _, rfl, a, d, z.1, z.2, qq.2, rfl, ha2, hd2, by omega, by omega, ?_, by omega, fun H4 a4 sm4 na4 ha4 hd4 => ?_⟩
        · rw [p1, l1]
          exact Nat.le_trans b2 hg
        · have st : stepR z qq = stS qq.2 z.1 z.2 := if_pos h8
          rw [tk, st]
          exact ⟨a4, _, _, _, rfl, sm2.trans sm4, ha4, hd4⟩
      · have h8 : ¬ qq.1 = 83 := fun z => h8 (decide_eq_true z)
        have h84 : qq.1 = 84 := by rcases hhead with e | e; exact e; exact absurd e h8
        rw [h84] at grw
        have grw : growR ((runs p).reverse.take (i + 1)) (sizeS o) = iter1 true qq.2 y := grw
        rw [grw] at b2
        refine ⟨_, rfl, ((qq.2 : Nat) : Int), rfl, by omega, by omega, for_range (n := qq.2) (fun j σ H' => ∃ a y6, σ = [some (.str (mk p)), some (.str (mk o)), some (.ref a), some (.ref d), some (.str (mk [qq.1])), some (.int (qq.2 : Nat)), y6] ∧ SameB d H1 H' ∧ H' a = some (.lst (marksV (manyT j z).1)) ∧ H' d = some (.dK (barK (manyT j z).2)))
          ⟨a, y6, rfl, sm2, ha2, hd2⟩ ?_ ?_⟩
        · rintro j σ H4 hj2 ⟨a4, y6, rfl, sm4, ha4, hd4⟩
          have Sj := S1.many j
          have mj := iter1_mono true y (i := j) (j := qq.2) (by omega)
          have lj : (manyT j z).1.length = (iter1 true j y).1 := congrArg Prod.fst Sj.size
          have bj := Sj.bar
          refine ⟨_, rfl, _, rfl, a4, d, _, _, rfl, ha4, hd4, by omega, by omega, fun H5 a5 sm5 na5 ha5 hd5 => ?_⟩
          rw [manyT_succ]
          exact ⟨a5, _, rfl, sm4.trans sm5, ha5, hd5⟩
        · rintro σ H4 ⟨a4, y6, rfl, sm4, ha4, hd4⟩
          have st : stepR z qq = manyT qq.2 z := if_neg h8
          rw [tk, st]
          exact ⟨a4, _, _, _, rfl, sm4, ha4, hd4⟩
    · rintro σ H2 ⟨a, y4, y5, y6, rfl, sm2, ha2, hd2⟩
      rw [lal, List.take_of_length_le (by rw [List.length_reverse]; exact Nat.le_refl _)] at ha2 hd2
      refine ⟨_, rfl, _, rfl, (by show 2 ≤ sizeLine; decide), fun t nt => ?_⟩
      have st := same_upd (o := .tup [V.ref a, V.ref d]) nt
      have smE : Same H (upd H2 t (.tup [V.ref a, V.ref d])) := fun b o hb => st _ _ (sm2 b o (ne_of_none hb ndH) (smH b o hb))
      refine q _ t a d smE ?_ upd_same (st _ _ ha2) (st _ _ hd2)
      cases e : H t with
      | none => rfl
      | some u =>
        have := sm2 t u (ne_of_none e ndH) (smH t u e)
        rw [nt] at this
        cases this
end
end Tw

set_option Elab.async false
set_option linter.all false
set_option maxRecDepth 100000
set_option maxHeartbeats 2000000
namespace Tw
open PySem PySem.Spec PyProof.Rows L2
abbrev s_check_kinds : Stmt := topS 9
abbrev s_count_free : Stmt := topS 24
abbrev s_letter_at : Stmt := topS 25
abbrev s_digits_of : Stmt := topS 27
section
variable {P : Program} {w : World} {K : PySem.W.Frag} {mg : Str → Option Value} {base : Heap}
theorem sc_check_kinds : FnScope ["kinds", "row", "index", "letter"] ["kinds", "row"] (defScope s_check_kinds) := ⟨rfl, rfl, rfl, by decide +kernel, rfl, by decide +kernel, by decide +kernel⟩
theorem sc_count_free : FnScope ["barred", "kinds", "count", "_"] ["barred", "kinds"] (defScope s_count_free) := ⟨rfl, rfl, rfl, by decide +kernel, rfl, by decide +kernel, by decide +kernel⟩
theorem sc_letter_at : FnScope ["digit", "barred_letter"] ["digit", "barred_letter"] (defScope s_letter_at) := ⟨rfl, rfl, rfl, by decide +kernel, rfl, by decide +kernel, by decide +kernel⟩
theorem sc_digits_of : FnScope ["number", "base", "count", "digits", "_", "digit"] ["number", "base", "count"] (defScope s_digits_of) := ⟨rfl, rfl, rfl, by decide +kernel, rfl, by decide +kernel, by decide +kernel⟩
theorem ok_kinds {f C0 fI0 C2 fI2 : Addr} {fd : FuncData} {k : Nat} (F : Fun K "check_kinds" "check_kinds" s_check_kinds f fd) (TInvalidRow : TwX.ETxt K C0 fI0) (gInvalidRow : mg "InvalidRow" = some (.ref C0)) (TInvalidNumber : TwX.ETxt K C2 fI2) (gInvalidNumber : mg "InvalidNumber" = some (.ref C2))
    (m_enumerate : mg "enumerate" = none) (m_ord : mg "ord" = none) : FnOk P w K mg base (L2.CX P w) (k + 2) f fd ["kinds", "row"] (spKinds C0 C2) := by
  refine F.okX sc_check_kinds (fun vs H Q E h => ?_) (fun cdv A outer s H vs Q E hr h => ?_)
  · obtain ⟨n, l, rfl, _⟩ := h
    rfl
  · obtain ⟨n, l, rfl, hl, q, q2, q0⟩ := h
    refine ⟨_, (pss_cons (ps_if (PW.pt (pw_or (pt_cmpR op_lt (pv 0) pe_int (nomark _)) (pw_or1 (pt_cmpR op_gt (pv 0) pe_int (nomark _))))) (pss_one (ps_raiseR rfl TInvalidNumber gInvalidNumber hr (takes_of rfl rfl rfl rfl) (pa_cons (pv 0) pa_nil) rfl)) pss_nil)
 (pss_one (ps_for (passes_of rfl) rfl (pi_enumS (by rfl) m_enumerate (pa_cons (pv 1) pa_nil)) (pg_tup rfl (pgs_cons (pg_name (i := 2) sc_check_kinds.nd rfl (.inl rfl)) (pgs_cons (pg_name (i := 3) sc_check_kinds.nd rfl (.inl rfl)) pgs_nil)))
  (pss_one (ps_if (pt_cmpR op_ge (pe_op op_sub (pe_callB call_ord (by rfl) m_ord (by decide +kernel) (pa_cons (pv 3) pa_nil)) (pe_callB call_ord (by rfl) m_ord (by decide +kernel) (pa_cons pe_str pa_nil))) (pv 0) (nomark _)) (pss_one (ps_raiseR rfl TInvalidRow gInvalidRow hr (takes_of rfl rfl rfl rfl) (pa_cons (pv 2) pa_nil) rfl)) pss_nil))))), ?_⟩
    have out : n < 2 ∨ 26 < n → ∀ d, H d = none → E (.ref C2) (some d) (upd H d (xval (.int n))) := fun h d hd => q2 h _ d (same_upd hd) hd upd_same
    refine ⟨_, rfl, _, _, rfl, rfl, _, rfl, ite2 (fun h1 => ?_) (fun h1 => ?_)⟩
    · exact ⟨_, rfl, _, rfl, out (.inl (of_decide_eq_true h1))⟩
    have h1 : ¬ n < 2 := fun z => h1 (decide_eq_true z)
    refine ⟨_, rfl, _, _, rfl, rfl, _, rfl, ite2 (fun h2 => ?_) (fun h2 => ?_)⟩
    · exact ⟨_, rfl, _, rfl, out (.inr (by have := of_decide_eq_true h2; omega))⟩
    have h2 : ¬ 26 < n := fun z => h2 (decide_eq_true (by omega))
    refine ⟨_, rfl, mk l, rfl, for_it walkP (fun i σ H' => ∃ y1 y2, σ = [some (.int n), some (.str (mk l)), y1, y2] ∧ Same H H' ∧ ∀ (j c : Nat), j < i → l[j]? = some c → okK n c = true) ⟨none, none, rfl, Same.refl H, fun j c hj => by omega⟩ (fun _ _ _ _ _ => trivial) ?_ ?_⟩
    · rintro i x σ H1 H2 hi ⟨y1, y2, rfl, sm, hb⟩ ⟨T, rfl, nT, rfl⟩
      rw [mk_size] at hi
      have gi : l[i]? = some l[i] := List.getElem?_eq_getElem hi
      have sm2 := sm.trans (same_upd (o := .tup [V.int (i : Nat), sgn (mk l) i]) nT)
      refine ⟨T, _, rfl, SqT.of upd_same, rfl, _, _, rfl, _, _, rfl, rfl, ?_⟩
      rw [sgn_at gi]
      rw [sgn_at gi] at sm2
      refine ⟨_, rfl, mk [l[i]], rfl, rfl, Str.ofString "a", rfl, (by decide +kernel), _, _, rfl, rfl, _, rfl, _, _, rfl, rfl, _, rfl, ?_⟩
      have ea : ((Str.ofString "a").cps.getD 0 0) = 97 := by decide +kernel
      rw [ea, ord_one]
      refine ite2 (fun h3 => ?_) (fun h3 => ?_)
      · have hg : okK n l[i] = false := by
          unfold okK
          exact decide_eq_false (by have := of_decide_eq_true h3; omega)
        refine ⟨_, rfl, _, rfl, fun d hd => ?_⟩
        exact q0 (by omega) (by omega) i (bad_some gi hg hb) _ d (sm2.trans (same_upd hd)) (sm2.free hd) upd_same
      · have hg : okK n l[i] = true := by
          unfold okK
          exact decide_eq_true (by
            have : ¬ n ≤ (l[i] : Int) - 97 := fun z => h3 (decide_eq_true z)
            omega)
        refine ⟨_, _, rfl, sm2, fun j c hj hc => ?_⟩
        by_cases e : j = i
        · subst e
          rw [gi] at hc
          cases hc
          exact hg
        · exact hb j c (by omega) hc
    · rintro σ H1 ⟨y1, y2, rfl, sm, hb⟩
      rw [mk_size] at hb
      exact q (by omega) (by omega) (bad_none.mpr fun c hc => by
        obtain ⟨j, hj⟩ := List.getElem?_of_mem hc
        exact hb j c (List.getElem?_eq_some_iff.mp hj).1 hj) H1 sm
theorem ok_cntFree {f : Addr} {fd : FuncData} {k : Nat} (F : Fun K "count_free" "count_free" s_count_free f fd) : FnOk P w K mg base CX0 (k + 1) f fd ["barred", "kinds"] spCntFree := by
  refine F.ok sc_count_free (fun vs H Q E h => ?_) (fun cdv A outer s H vs Q E hr h => ?_)
  · obtain ⟨d, bs, n, rfl, _⟩ := h
    rfl
  · obtain ⟨d, bs, n, rfl, hd, hb, h2, h26, q⟩ := h
    obtain ⟨b, hb1⟩ := Int.eq_ofNat_of_zero_le (a := n - 1) (by omega)
    obtain rfl : n = (b : Int) + 1 := by omega
    have pw : ∀ i : Nat, 0 ≤ ((b : Int)) ^ i ∧ ((b : Int)) ^ i < 2 ^ (5 * i + 1) := fun i => by
      have e : ((b : Int)) ^ i = ((b ^ i : Nat) : Int) := (Int.natCast_pow b i).symm
      have h1 : b ^ i ≤ 32 ^ i := Nat.pow_le_pow_left (show b ≤ 32 by omega) i
      have h3 : (32 : Nat) ^ i = 2 ^ (5 * i) := by rw [show (32 : Nat) = 2 ^ 5 from rfl, ← Nat.pow_mul]
      have h4 : (2 : Nat) ^ (5 * i) < 2 ^ (5 * i + 1) := Nat.pow_lt_pow_right (by decide) (by omega)
      rw [e]
      refine ⟨Int.natCast_nonneg _, ?_⟩
      rw [two_pow_cast]
      exact Int.ofNat_lt.mpr (by omega)
    refine ⟨_, (pss_cons (ps_set (i := 2) sc_count_free.nd rfl (.inl rfl) pe_int)
 (pss_cons (ps_lock (ps_for PassesOwn.never rfl (pi_keys (pv 0)) (pg_name (i := 3) sc_count_free.nd rfl (.inl rfl))
  (pss_one (ps_set (i := 2) sc_count_free.nd rfl (.inl rfl) (pe_op op_mulW (pv 2) (pe_op op_sub (pv 1) pe_int))))))
 (pss_one (ps_ret (pv 2))))), ?_⟩
    refine ⟨d, _, hd, trivial, fun od => ?_⟩
    have eK : (b : Int) + 1 - 1 = (b : Int) := by omega
    refine ⟨_, rfl, d, od, rfl, .inl ⟨_, upd_same, for_it walk_keys (fun i σ H' => ∃ y3, σ = [some (.ref d), some (.int ((b : Int) + 1)), some (.int ((b : Int) ^ i)), y3] ∧ H' = upd H d (.frz od (.dK (barK bs)))) ⟨none, rfl, rfl⟩ (fun _ _ _ _ ⟨_, _, e⟩ => by rw [e]; exact upd_same) ?_ ?_⟩⟩
    · rintro i x σ H1 H2 hi ⟨y3, rfl, rfl⟩ ⟨rfl, k2, v2, _, rfl⟩
      rw [barK_len] at hi
      refine ⟨_, rfl, _, rfl, _, _, rfl, rfl, _, _, rfl, rfl, ?_, ?_⟩
      · have h1 := log2_le_of (pw i).1 (pw i).2
        have h3 := log2_le_of (i := (b : Int) + 1 - 1) (n := 5) (by omega) (by omega)
        unfold CMulW
        omega
      · refine ⟨some (kV k2), ?_, rfl⟩
        rw [Int.pow_succ, eK]
        rfl
    · rintro σ H1 ⟨y3, rfl, rfl⟩
      rw [barK_len]
      refine ⟨upd_same, _, rfl, ?_⟩
      have := q (upd (upd H d (.frz od (.dK (barK bs)))) d (.dK (barK bs))) (fun b2 o hb2 => by
        by_cases e : b2 = d
        · rw [e, upd_same]; rw [e, hd] at hb2; exact hb2
        · rw [upd_ne e, upd_ne e]; exact hb2)
      rw [eK] at this
      exact this
theorem ok_letAt {f : Addr} {fd : FuncData} {k : Nat} {tL : Tok} (F : Fun K "letter_at" "letter_at" s_letter_at f fd) (gL : mg "LETTERS" = some (.str (Str.ofString "abcdefghijklmnopqrstuvwxyz") tL)) : FnOk P w K mg base CX0 (k + 1) f fd ["digit", "barred_letter"] spLetAt := by
  refine F.ok sc_letter_at (fun vs H Q E h => ?_) (fun cdv A outer s H vs Q E hr h => ?_)
  · obtain ⟨j, c, rfl, _⟩ := h
    rfl
  · obtain ⟨j, c, rfl, hj, q⟩ := h
    have hz : (Str.ofString "abcdefghijklmnopqrstuvwxyz").length ≤ sizeLine := by rw [letters_len, sizeLine_eq]; decide
    have at_ : ∀ i : Nat, i < 26 → atI (Str.ofString "abcdefghijklmnopqrstuvwxyz").cps.toList ((i : Nat) : Int) = some (i + 97) := fun i hi => by
      refine atI_nat ?_
      rw [letters_eq, List.getElem?_map, List.getElem?_range hi]
      rfl
    refine ⟨_, (pss_cons (ps_if (pt_cmpR op_lt_str (pe_ix ix_str (pe_glob (v := .str (Str.ofString "abcdefghijklmnopqrstuvwxyz")) rfl gL ⟨tL, rfl⟩) (pv 0) (fun _ _ => rfl)) (pv 1) (nomark _)) (pss_one (ps_ret (pe_ix ix_str (pe_glob (v := .str (Str.ofString "abcdefghijklmnopqrstuvwxyz")) rfl gL ⟨tL, rfl⟩) (pv 0) (fun _ _ => rfl)))) pss_nil)
 (pss_one (ps_ret (pe_ix ix_str (pe_glob (v := .str (Str.ofString "abcdefghijklmnopqrstuvwxyz")) rfl gL ⟨tL, rfl⟩) (pe_op op_add (pv 0) pe_int) (fun _ _ => rfl))))), ?_⟩
    refine ⟨_, rfl, _, _, j + 97, rfl, rfl, hz, at_ j (by omega), _, rfl, _, _, rfl, rfl, _, rfl, ?_⟩
    have e : decide ((⟨#[j + 97]⟩ : Str).cps.toList < (mk [c]).cps.toList) = decide (97 + j < c) := by
      refine decide_eq_decide.mpr ?_
      show ([j + 97] : List Nat) < [c] ↔ _
      rw [single_lt]
      omega
    rw [e]
    refine ite2 (fun h => ?_) (fun h => ?_)
    · have h := of_decide_eq_true h
      refine ⟨_, rfl, _, _, j + 97, rfl, rfl, hz, at_ j (by omega), ?_⟩
      have : letAt j c = j + 97 := by unfold letAt; rw [if_pos h]; omega
      rw [this] at q
      exact q
    · have h : ¬ 97 + j < c := fun z => h (decide_eq_true z)
      refine ⟨_, rfl, _, _, rfl, rfl, _, _, j + 1 + 97, rfl, rfl, hz, at_ (j + 1) (by omega), ?_⟩
      have : letAt j c = j + 1 + 97 := by unfold letAt; rw [if_neg h]; omega
      rw [this] at q
      exact q
theorem ok_digs {f : Addr} {fd : FuncData} {k : Nat} (F : Fun K "digits_of" "digits_of" s_digits_of f fd) (m_range : mg "range" = none) (m_divmod : mg "divmod" = none) : FnOk P w K mg base CX0 (k + 1) f fd ["number", "base", "count"] spDigs := by
  refine F.ok sc_digits_of (fun vs H Q E h => ?_) (fun cdv A outer s H vs Q E hr h => ?_)
  · obtain ⟨n, b, c, rfl, _⟩ := h
    rfl
  · obtain ⟨n, b, c, rfl, h0, h25, hc, q⟩ := h
    refine ⟨_, (pss_cons (ps_set (i := 3) sc_digits_of.nd rfl (.inl rfl) (pe_lst pa_nil))
 (pss_cons (ps_for PassesOwn.never rfl (pi_range1 (by rfl) m_range (pa_cons (pv 2) pa_nil)) (pg_name (i := 4) sc_digits_of.nd rfl (.inl rfl))
  (pss_cons (ps_asg (pe_callB call_divmod (by rfl) m_divmod (by decide +kernel) (pa_cons (pv 0) (pa_cons (pv 1) pa_nil))) (pg_tup2 rfl (pg_name (i := 0) sc_digits_of.nd rfl (.inl rfl) (.inl rfl)) (pg_name (i := 5) sc_digits_of.nd rfl (.inl rfl) (.inl rfl))))
 (pss_one (ps_expr (pe_bm PySem.F.plainAttrs_list PySem.F.slot_list_append PySem.F.type_list_append mt_append (pv 3) (pa_cons (pv 5) pa_nil))))))
 (pss_one (ps_ret (pv 3))))), ?_⟩
    refine ⟨Nat.zero_le _, fun l nl => ?_⟩
    refine ⟨_, rfl, ((c : Nat) : Int), rfl, by omega, by omega, for_range (n := c) (fun i σ H' => ∃ (m : Nat) (acc : List Nat) (y4 y5 : Option V), σ = [some (.int (m : Nat)), some (.int (b : Nat)), some (.int (c : Nat)), some (.ref l), y4, y5] ∧ Same H H' ∧ H' l = some (.lst (acc.map fun x => V.int (x : Nat))) ∧ acc.length = i ∧ digs n b c = acc ++ digs m b (c - i))
      ⟨n, [], none, none, rfl, same_upd nl, upd_same, rfl, rfl⟩ ?_ ?_⟩
    · rintro i σ H1 hi ⟨m, acc, y4, y5, rfl, sm, hl, la, e⟩
      refine ⟨_, rfl, _, rfl, _, _, rfl, ⟨by omega, by omega⟩, fun t nt => ?_⟩
      have st := same_upd (o := .tup [V.int ((m : Int) / (b : Nat)), V.int ((m : Int) % (b : Nat))]) nt
      refine ⟨t, _, rfl, SqT.of upd_same, rfl, _, _, rfl, _, _, rfl, rfl, ?_⟩
      refine ⟨_, rfl, .inl ⟨rfl, _, SqL.of (st _ _ hl)⟩, _, rfl, l, _, _, rfl, rfl, st _ _ hl, (by rw [List.length_map]; exact line_of (by omega)), ?_⟩
      refine ⟨m / b, acc ++ [m % b], _, _, rfl, ?_, ?_, ?_, ?_⟩
      · intro b2 o hb
        rw [upd_ne (ne_of_none hb nl)]
        exact st _ _ (sm _ _ hb)
      · rw [upd_same, List.map_append]
        rfl
      · rw [List.length_append, la]; rfl
      · rw [e, show c - i = (c - (i + 1)) + 1 by omega, digs, List.append_assoc]
        rfl
    · rintro σ H1 ⟨m, acc, y4, y5, rfl, sm, hl, la, e⟩
      rw [Nat.sub_self] at e
      have e2 : digs n b c = acc := by rw [e]; exact List.append_nil _
      rw [← e2] at hl
      exact ⟨_, rfl, q H1 l sm nl hl⟩
end
end Tw

set_option Elab.async false
set_option linter.all false
set_option maxRecDepth 100000
set_option maxHeartbeats 2000000
namespace Tw
open PySem PySem.Spec PyProof.Rows L2
abbrev s_nth_shortest : Stmt := topS 29
section
variable {P : Program} {w : World} {K : PySem.W.Frag} {mg : Str → Option Value} {base : Heap}
theorem sc_nth_shortest : FnScope ["pipeline", "output", "kinds", "number", "shape", "barred", "digits", "letters", "mark", "letter"] ["pipeline", "output", "kinds", "number"] (defScope s_nth_shortest) := ⟨rfl, rfl, rfl, by decide +kernel, rfl, by decide +kernel, by decide +kernel⟩
theorem ok_nth {C fI : Nat → Addr} {CS : Addr} (Z : KN K mg C fI CS) {tL : Tok} {f fC fD fK fA fT fS fR fO fF fG fL : Addr} {fd fdC fdD fdK fdA fdT fdS fdR fdO fdF fdG fdL : FuncData} {k : Nat} (F : Fun K "nth_shortest" "nth_shortest" s_nth_shortest f fd)
    (Dcheck_row : Dfn K mg "check_row" sChkRow ["row"] fC fdC) (Dcheck_pipeline : Dfn K mg "check_pipeline" sChkPipe ["pipeline"] fD fdD) (Dcheck_kinds : Dfn K mg "check_kinds" s_check_kinds ["kinds", "row"] fK fdK) (Dadd_free : Dfn K mg "add_free" s_add_free ["barred", "mark"] fA fdA) (Dshape_before_t : Dfn K mg "shape_before_t" s_shape_before_t ["shape", "barred"] fT fdT)
    (Dshape_before_s : Dfn K mg "shape_before_s" s_shape_before_s ["shape", "count", "barred"] fS fdS) (Druns_of : Dfn K mg "runs_of" sRuns ["row"] fR fdR) (Dshape_of : Dfn K mg "shape_of" s_shape_of ["pipeline", "output"] fO fdO) (Dcount_free : Dfn K mg "count_free" s_count_free ["barred", "kinds"] fF fdF)
    (Ddigits_of : Dfn K mg "digits_of" s_digits_of ["number", "base", "count"] fG fdG) (Dletter_at : Dfn K mg "letter_at" s_letter_at ["digit", "barred_letter"] fL fdL) (gL : mg "LETTERS" = some (.str (Str.ofString "abcdefghijklmnopqrstuvwxyz") tL))
    (m_len : mg "len" = none) (m_enumerate : mg "enumerate" = none) (m_range : mg "range" = none) (m_list : mg "list" = none) (m_reversed : mg "reversed" = none) (m_ord : mg "ord" = none) (m_divmod : mg "divmod" = none) : FnOk P w K mg base (L2.CX P w) (k + 4) f fd ["pipeline", "output", "kinds", "number"] (spNthX (C 0) (C 1) (C 2)) := by
  have TInvalidNumber := Z.T 2 (by decide)
  have gInvalidNumber := Z.g2
  have Gcheck_pipeline : FnOk P w K mg base (L2.CX P w) (k + 3) fD fdD ["pipeline"] (spChkPipeX (C 1)) := ok_chkPipeX (k := k + 1) Dcheck_pipeline.F (Z.T 1 (by decide)) Z.g1 m_enumerate
  have Gcheck_row : FnOk P w K mg base (L2.CX P w) (k + 3) fC fdC ["row"] (spChkRowX (C 0)) := ok_chkRowX (k := k + 1) Dcheck_row.F (Z.T 0 (by decide)) Z.g0 m_enumerate
  have Gcheck_kinds : FnOk P w K mg base (L2.CX P w) (k + 3) fK fdK ["kinds", "row"] (spKinds (C 0) (C 2)) := ok_kinds (k := k + 1) Dcheck_kinds.F (Z.T 0 (by decide)) Z.g0 (Z.T 2 (by decide)) Z.g2 m_enumerate m_ord
  have Gshape_of : FnOk P w K mg base CX0 (k + 3) fO fdO ["pipeline", "output"] spShOf := ok_shOf Dshape_of.F Dadd_free Dshape_before_t Dshape_before_s Druns_of m_len m_enumerate m_range m_list m_reversed
  have Gcount_free : FnOk P w K mg base CX0 (k + 3) fF fdF ["barred", "kinds"] spCntFree := ok_cntFree (k := k + 2) Dcount_free.F
  have Gdigits_of : FnOk P w K mg base CX0 (k + 3) fG fdG ["number", "base", "count"] spDigs := ok_digs (k := k + 2) Ddigits_of.F m_range m_divmod
  have Gletter_at : FnOk P w K mg base CX0 (k + 3) fL fdL ["digit", "barred_letter"] spLetAt := ok_letAt (k := k + 2) Dletter_at.F gL
  refine F.okX sc_nth_shortest (fun vs H Q E h => ?_) (fun cdv A outer s H vs Q E hr h => ?_)
  · obtain ⟨p, o, kk, n, rfl, _⟩ := h
    rfl
  · obtain ⟨p, o, kk, n, rfl, hpl, hol, hg, q1, q0, qr⟩ := h
    refine ⟨_, (pss_cons (ps_expr (pe_call (E := E) Gcheck_pipeline hr rfl Dcheck_pipeline.g Dcheck_pipeline.F.kp Dcheck_pipeline.b .nil (passes_call (takes_of rfl rfl rfl rfl) (fun _ _ _ _ h => h)) (pa_cons (pv 0) pa_nil)))
 (pss_cons (ps_expr (pe_call (E := E) Gcheck_row hr rfl Dcheck_row.g Dcheck_row.F.kp Dcheck_row.b .nil (passes_call (takes_of rfl rfl rfl rfl) (fun _ _ _ _ h => h)) (pa_cons (pv 1) pa_nil)))
 (pss_cons (ps_expr (pe_call (E := E) Gcheck_kinds hr rfl Dcheck_kinds.g Dcheck_kinds.F.kp Dcheck_kinds.b .nil (passes_call (takes_of rfl rfl rfl rfl) (fun _ _ _ _ h => h)) (pa_cons (pv 2) (pa_cons (pv 1) pa_nil))))
 (pss_cons (ps_asg (pe_call Gshape_of hr rfl Dshape_of.g Dshape_of.F.kp Dshape_of.b .nil pass0 (pa_cons (pv 0) (pa_cons (pv 1) pa_nil))) (pg_tup2 rfl (pg_name (i := 4) sc_nth_shortest.nd rfl (.inl rfl) (.inl rfl)) (pg_name (i := 5) sc_nth_shortest.nd rfl (.inl rfl) (.inl rfl))))
 (pss_cons (ps_if (PW.pt (pw_or (pt_cmpR op_lt (pv 3) pe_int (nomark _)) (pw_or1 (pt_cmpR op_ge (pv 3) (pe_call Gcount_free hr rfl Dcount_free.g Dcount_free.F.kp Dcount_free.b .nil pass0 (pa_cons (pv 5) (pa_cons (pv 2) pa_nil))) (nomark _))))) (pss_one (ps_raiseR rfl TInvalidNumber gInvalidNumber hr (takes_of rfl rfl rfl rfl) (pa_cons (pv 3) pa_nil) rfl)) pss_nil)
 (pss_cons (ps_set (i := 6) sc_nth_shortest.nd rfl (.inl rfl) (pe_call Gdigits_of hr rfl Ddigits_of.g Ddigits_of.F.kp Ddigits_of.b .nil pass0 (pa_cons (pv 3) (pa_cons (pe_op op_sub (pv 2) pe_int) (pa_cons (pe_callB call_lenD (by rfl) m_len PySem.boot_len (pa_cons (pv 5) pa_nil)) pa_nil)))))
 (pss_cons (ps_set (i := 7) sc_nth_shortest.nd rfl (.inr rfl) (pe_dc (own := [("letter", 9)]) (g := gName 9) (tt := tYes) rfl sc_nth_shortest.nd (pi_str (pv 1)) (blkOk_by (N := ["pipeline", "output", "kinds", "number", "shape", "barred", "digits", "letters", "mark", "letter"]) (sc := defScope s_nth_shortest) (by decide +kernel)) (fun _ _ _ _ _ => (pg_name (i := 9) sc_nth_shortest.nd rfl (Or.inl rfl))) (fun _ _ _ _ _ => pts_nil) (fun _ _ _ _ _ => (pv 9)) (fun _ _ _ _ _ => (pv 9))))
 (pss_cons (ps_for (passes_of rfl) rfl (pi_list (pv 4)) (pg_name (i := 8) sc_nth_shortest.nd rfl (.inl rfl))
  (pss_one (ps_if (pt_cmp (pc_dnotin (hu_of hr) (pv 8) (pv 7))) (pss_one (ps_dput (hu_of hr) (pv 7) (pv 8) (pe_call Gletter_at hr rfl Dletter_at.g Dletter_at.F.kp Dletter_at.b .nil pass0 (pa_cons (pe_bm0 PySem.F.plainAttrs_list PySem.F.slot_list_pop PySem.F.type_list_pop mt_pop (pv 6)) (pa_cons (pe_dget (hu_of hr) (pv 7) (pe_dget (hu_of hr) (pv 5) (pv 8) (fun _ _ => rfl)) (fun _ _ => rfl)) pa_nil))) rfl)) pss_nil)))
 (pss_one (ps_ret (pe_join pe_str (pe_lc (own := [("mark", 8)]) (g := gName 8) (tt := tYes) (by rfl) sc_nth_shortest.nd (pi_list (pv 4)) (blkOk_by (N := ["pipeline", "output", "kinds", "number", "shape", "barred", "digits", "letters", "mark", "letter"]) (sc := defScope s_nth_shortest) (by decide +kernel)) (fun _ _ _ _ _ => (pg_name (i := 8) sc_nth_shortest.nd rfl (Or.inl rfl))) (fun _ _ _ _ _ => pts_nil) (fun _ _ _ _ _ => (pe_dget (hu_of hr) (pv 7) (pv 8) (fun _ _ => rfl))))))))))))))), ?_⟩
    refine ⟨_, rfl, p, rfl, fun hbp H1 sm1 => ?_, q1⟩
    refine ⟨_, rfl, o, rfl, fun hbo H2 sm2 => ?_, fun i hi => (q0 hbp i hi).mono sm1⟩
    have sm12 := sm1.trans sm2
    obtain ⟨qk, qv⟩ := qr hbp hbo
    have hg := hg hbp hbo
    have low := low_of hbo
    refine ⟨_, rfl, _, rfl, kk, o, rfl, by omega, (fun k2 k26 hbk H3 sm3 => ?_), (fun h => (qk h).mono sm12), fun k2 k26 i hi => ((qv k2 k26).1 i hi).mono sm12⟩
    have sm13 := sm12.trans sm3
    obtain ⟨_, qv⟩ := qv k2 k26
    obtain ⟨qo, qv⟩ := qv hbk
    have o200 : ∀ c ∈ o, c < 200 := fun c hc => by have := low c hc; omega
    refine ⟨_, rfl, _, rfl, p, o, rfl, ⟨pipe_of hbp, hpl⟩, o200, hg, fun H4 t a d sm4 nt ht ha hd => ⟨t, _, rfl, SqT.of ht, rfl, _, _, rfl, _, _, rfl, rfl, ?_⟩⟩
    have sm14 := sm13.trans sm4
    have W : WfS o (shapeOf p o) := WfS.run o200 _
    have S := Shp.run o200 (runs p).reverse (fun q hq => runs_heads (pipe_of hbp) q (List.mem_reverse.mp hq))
    rw [growR_eq] at S
    have S : Shp (shapeOf p o) (growS p (sizeS o)) := S
    have lz : (shapeOf p o).1.length ≤ 100000 := by
      have := congrArg Prod.fst S.size
      show (sizeM (shapeOf p o)).1 ≤ _
      rw [this]; exact hg
    have lb := S.bar
    have okz := S.ok
    unfold nthRow at qv
    generalize shapeOf p o = z at *
    have out : ∀ H', Same H H' → (n < 0 ∨ (kk - 1) ^ z.2.length ≤ n) → ∀ d, H' d = none → E (.ref (C 2)) (some d) (upd H' d (xval (.int n))) := fun H' sm h d hd => qo h _ d (sm.trans (same_upd hd)) (sm.free hd) upd_same
    refine ⟨_, rfl, _, _, rfl, rfl, _, rfl, ite2 (fun hn => ⟨_, rfl, _, rfl, out H4 sm14 (.inl (of_decide_eq_true hn))⟩) (fun hn => ?_)⟩
    have hn : ¬ n < 0 := fun y => hn (decide_eq_true y)
    refine ⟨_, rfl, _, rfl, _, rfl, d, z.2, kk, rfl, hd, by omega, k2, k26, fun H5 sm5 => ?_⟩
    have sm15 := sm14.trans sm5
    refine ⟨_, _, rfl, rfl, _, rfl, ite2 (fun hm => ⟨_, rfl, _, rfl, out H5 sm15 (.inr (of_decide_eq_true hm))⟩) (fun hm => ?_)⟩
    have hm : n < (kk - 1) ^ z.2.length := by
      have : ¬ (kk - 1) ^ z.2.length ≤ n := fun y => hm (decide_eq_true y)
      omega
    have qv := qv (by omega) hm
    -- the digits
    have hd5 := sm5 _ _ hd
    have ha5 := sm5 _ _ ha
    refine ⟨_, rfl, _, rfl, _, _, rfl, rfl, _, rfl, d, _, rfl, hd5, ?_⟩
    rw [barK_len]
    have en : n = ((n.toNat : Nat) : Int) := by omega
    have ek : kk - 1 = ((kk.toNat - 1 : Nat) : Int) := by omega
    refine ⟨n.toNat, kk.toNat - 1, z.2.length, ?_, by omega, by omega, by omega, fun H6 g sm6 ng hg6 => ?_⟩
    · rw [← en, ← ek]
      rfl
    have sm16 := sm15.trans sm6
    have dlen := digs_len z.2.length n.toNat (kk.toNat - 1)
    have dle : ∀ x ∈ digs n.toNat (kk.toNat - 1) z.2.length, x ≤ 24 := fun x hx => by
      have := digs_le _ _ _ (by omega) x hx
      omega
    generalize digs n.toNat (kk.toNat - 1) z.2.length = ds at *
    have ngH : H g = none := sm15.free ng
    -- the letters of the output
    refine ⟨_, rfl, mk o, rfl, fun L nL => ?_⟩
    have nLH : H L = none := sm16.free nL
    have hd6 := sm6 _ _ hd5
    have ha6 := sm6 _ _ ha5
    refine dc_it walk_str (fun i H' => Same H6 H' ∧ H' L = some (.dK (asgK ((o.take i).foldl addI [])))) ⟨same_upd nL, upd_same⟩ (fun _ _ _ _ => trivial) ?_ ?_
    · rintro i x H7 H8 hi ⟨sm7, hL7⟩ ⟨rfl, c, hc, rfl⟩
      rw [mk_size] at hi
      have gi : o[i]? = some c := by simpa [mk] using hc
      have c200 := o200 c (List.mem_of_getElem? gi)
      refine ⟨rfl, ?_⟩
      refine ⟨_, rfl, _, rfl, _, .inr (mk [c]), rfl, hL7, ?_, ?_, ?_⟩
      · unfold asgK
        rw [List.length_map]
        have := initM_len (o.take i)
        have h2 : (o.take i).length ≤ o.length := by rw [List.length_take]; omega
        exact line_of (show ((o.take i).foldl addI []).length ≤ 1000000 by have h3 : (initM (o.take i)).length = ((o.take i).foldl addI []).length := rfl; omega)
      · intro b u hb
        rw [upd_ne (ne_of_none hb nL)]
        exact sm7 b u hb
      · rw [upd_same, initM_take gi]
        exact congrArg (fun y => some (HO.dK y)) (asgK_init (initM_diag' o i) c200)
    · rintro H7 ⟨sm7, hL7⟩
      rw [mk_size, List.take_length] at hL7
      have hL7 : H7 L = some (.dK (asgK (initM o))) := hL7
      have sm17 := sm16.trans sm7
      have hg7 := sm7 _ _ hg6
      have hd7 := sm7 _ _ hd6
      have ha7 := sm7 _ _ ha6
      have nga : a ≠ g := ne_of_none ha5 ng
      have ngd : d ≠ g := ne_of_none hd5 ng
      have nLa : a ≠ L := ne_of_none ha6 nL
      have nLd : d ≠ L := ne_of_none hd6 nL
      have nLg : g ≠ L := ne_of_none hg6 nL
      have G0 := Given.zero (z := z) low dle
      -- mark by mark
      refine ⟨_, rfl, a, rfl, ⟨_, SqL.of ha7⟩, for_list (xs := marksV z.1) (fun i σ H' => ∃ y8 y9, σ = [some (.str (mk p)), some (.str (mk o)), some (.int kk), some (.int n), some (.ref a), some (.ref d), some (.ref g), some (.ref L), y8, y9] ∧ Same H H' ∧ H' a = some (.lst (marksV z.1)) ∧ H' d = some (.dK (barK z.2)) ∧
        H' g = some (.lst ((upN z o ds i).2.map fun x => V.int (x : Nat))) ∧ H' L = some (.dK (asgK (upN z o ds i).1)) ∧ Given z o ds i) ⟨_, _, rfl, sm17, ha7, hd7, hg7, hL7, G0⟩ (fun _ _ _ _ ⟨_, _, _, _, h, _⟩ => SqL.of h) ?_ ?_⟩
      · rintro i x σ H8 hx ⟨y8, y9, rfl, sm8, ha8, hd8, hg8, hL8, Gi⟩
        have hx' : (z.1.map mV)[i]? = some x := hx
        rw [List.getElem?_map] at hx'
        obtain ⟨m, hmi, rfl⟩ := Option.map_eq_some_iff.mp hx'
        have hil := (List.getElem?_eq_some_iff.mp hmi).1
        have Gs := Gi.step W okz dlen hmi
        refine ⟨_, rfl, _, rfl, L, _, rfl, asg_get hL8 m, _, rfl, ?_⟩
        cases hlk : lookM (upN z o ds i).1 m with
        | some c =>
          have e : upN z o ds (i + 1) = upN z o ds i := by rw [upN_succ hmi, stepN, if_pos (by rw [hlk]; rfl)]
          refine iteF ⟨_, _, rfl, sm8, ha8, hd8, ?_, ?_, Gs⟩
          · rw [e]; exact hg8
          · rw [e]; exact hL8
        | none =>
          obtain ⟨h200, dg, b, c, dl, d24, hb, hc, clow, e⟩ := Gi.next W okz dlen hmi hlk
          have lds : ((upN z o ds i).2.map fun x => V.int (x : Nat)).length = (upN z o ds i).2.length := List.length_map ..
          have em : m = 200 + (m - 200) := by omega
          have ll := congrArg List.length dl
          rw [List.length_append] at ll
          have l1 : ([dg] : List Nat).length = 1 := rfl
          have hlast : ((upN z o ds i).2.map fun x => V.int (x : Nat))[((upN z o ds i).2.map fun x => V.int (x : Nat)).length - 1]? = some (V.int (dg : Nat)) := by
            rw [lds, List.getElem?_map]
            have : (upN z o ds i).2[(upN z o ds i).2.length - 1]? = some dg := by
              rw [dl, List.getElem?_append_right (by rw [List.length_append]; omega), List.length_append, l1]
              simp
            rw [this]; rfl
          refine iteT ⟨_, rfl, .inl ⟨rfl, _, SqL.of hg8⟩, g, _, _, rfl, rfl, hg8, hlast, ?_⟩
          have hL9 : (upd H8 g (.lst ((upN z o ds i).2.map fun x => V.int (x : Nat)).dropLast)) L = some (.dK (asgK (upN z o ds i).1)) := by rw [upd_ne (Ne.symm nLg)]; exact hL8
          have hd9 : (upd H8 g (.lst ((upN z o ds i).2.map fun x => V.int (x : Nat)).dropLast)) d = some (.dK (barK z.2)) := by rw [upd_ne ngd]; exact hd8
          have gb := bar_get hd9 (m - 200)
          rw [← em, hb] at gb
          have gl := asg_get hL9 b
          rw [hc] at gl
          refine ⟨_, rfl, _, rfl, _, rfl, d, _, rfl, gb, L, _, rfl, gl, ?_⟩
          refine ⟨dg, c, rfl, d24, ?_⟩
          refine ⟨_, rfl, _, rfl, L, _, rfl, asg_put hL9 (by have := upN_len z o ds i; omega) hlk (letAt dg c), ?_⟩
          refine ⟨_, _, rfl, ?_, ?_, ?_, ?_, ?_, Gs⟩
          · intro b2 u hb2
            rw [upd_ne (ne_of_none hb2 nLH), upd_ne (ne_of_none hb2 ngH)]
            exact sm8 b2 u hb2
          · rw [upd_ne nLa, upd_ne nga]; exact ha8
          · rw [upd_ne nLd]; exact hd9
          · rw [upd_ne nLg, upd_same, e, List.map_dropLast]
          · rw [upd_same, e]
      · rintro σ H8 ⟨y8, y9, rfl, sm8, ha8, hd8, hg8, hL8, Gi⟩
        have lm : (marksV z.1).length = z.1.length := List.length_map ..
        rw [lm] at hL8 Gi
        have last := Gi.last
        have eN : upN z o ds z.1.length = asgN z o ds := by unfold upN asgN; rw [List.take_length]
        rw [eN] at hL8
        refine ⟨⟨_, rfl⟩, ?_⟩
        refine ⟨_, rfl, a, rfl, ⟨_, SqL.of ha8⟩, fun D nD => ?_⟩
        have row : ∀ i, (rowN z o ds).take i = (z.1.take i).map fun m => (lookM (asgN z o ds).1 m).getD 0 := fun i => by unfold rowN; rw [List.map_take]
        have lrow : (rowN z o ds).length = z.1.length := List.length_map ..
        refine lc_list (xs := marksV z.1) (fun i H' => Same H8 H' ∧ H' D = some (.lst (signs ((rowN z o ds).take i)))) ⟨same_upd nD, upd_same⟩ (fun _ _ _ h => SqL.of (h.1 _ _ ha8)) ?_ ?_
        · rintro i x H9 hx ⟨sm9, hD9⟩
          have hx' : (z.1.map mV)[i]? = some x := hx
          rw [List.getElem?_map] at hx'
          obtain ⟨m, hmi, rfl⟩ := Option.map_eq_some_iff.mp hx'
          have hil := (List.getElem?_eq_some_iff.mp hmi).1
          obtain ⟨c, hc, _⟩ := last m (List.mem_of_getElem? hmi)
          have gl := asg_get (sm9 _ _ hL8) m
          rw [hc] at gl
          refine ⟨rfl, ?_⟩
          refine ⟨_, rfl, _, rfl, L, _, rfl, gl, _, hD9, ?_, ?_, ?_⟩
          · rw [signs_len, List.length_take]
            exact line_of (by omega)
          · intro b2 u hb2
            rw [upd_ne (ne_of_none hb2 nD)]
            exact sm9 b2 u hb2
          · have ri : (rowN z o ds)[i]? = some c := by
              unfold rowN
              rw [List.getElem?_map, hmi, Option.map_some, hc]
              rfl
            rw [upd_same, List.take_add_one, ri, signs_app]
            rfl
        · rintro H9 ⟨sm9, hD9⟩
          rw [lm, ← lrow, List.take_length] at hD9
          refine ⟨Str.ofString "", D, (rowN z o ds).map fun c => mk [c], rfl, rfl, .inl ?_, ?_, ?_⟩
          · rw [List.map_map]
            exact SqL.of hD9
          · have e0 : (Str.ofString "").length = 0 := by decide +kernel
            rw [e0, Nat.mul_zero, List.map_map]
            have e1 : (rowN z o ds).map ((fun x : Str => x.length) ∘ fun c => mk [c]) = List.replicate (rowN z o ds).length 1 := by
              rw [List.eq_replicate_iff]
              refine ⟨List.length_map .., fun b hb => ?_⟩
              obtain ⟨c, _, rfl⟩ := List.mem_map.mp hb
              exact mk_len [c]
            have e2 := List.sum_replicate_nat (n := (rowN z o ds).length) (a := 1)
            rw [e1, e2]
            omega
          · have ej : Txt.join (Str.ofString "") ((rowN z o ds).map fun c => mk [c]) = mk (rowN z o ds) := join_signs _
            rw [ej]
            exact qv H9 (sm8.trans sm9)
end
end Tw

set_option Elab.async false
set_option linter.all false
set_option maxRecDepth 100000
namespace Tw
/-! a shortest row has the shape: first one sieve -/
def core (t : Bool) (m : Nat) : List Nat := if t then [m, m] else [m]
def sepX (t : Bool) (x : Nat) : List Nat := if t then [x] else [x, x]
/-- in front of a sieve: the letters xs part the equal neighbours of a row -/
def ex (t : Bool) : Option Nat → List Nat → List Nat → List Nat
  | _, [], _ => []
  | p, m :: r, xs => if p = some m then sepX t (xs.headD 0) ++ (core t m ++ ex t (some m) r xs.tail) else core t m ++ ex t (some m) r xs
def wid (t k : Bool) : Nat := if k = t then 2 else 1
def dr (t : Bool) : List (Nat × Nat) → Nat
  | [] => 0
  | q :: rs => (if keepRun t q = true then 0 else 1) + dr t rs
theorem dr_len (t : Bool) : ∀ rs : List (Nat × Nat), (kept t rs).length + dr t rs = rs.length
  | [] => rfl
  | q :: rs => by
    have ih := dr_len t rs
    rw [kept_cons, dr]
    by_cases h : keepRun t q = true
    · rw [if_pos h, if_pos h, List.length_append, List.length_singleton, List.length_cons]; omega
    · rw [if_neg h, if_neg h, List.nil_append, List.length_cons]; omega
theorem wid_le (t : Bool) (q : Nat × Nat) (h : 1 ≤ q.2) : wid t (keepRun t q) ≤ q.2 := by
  have e := keepRun_is t q.1 q.2 h
  unfold wid
  by_cases c : 2 ≤ q.2
  · split <;> omega
  · rw [decide_eq_false c] at e
    by_cases k : keepRun t q = true
    · have : false = t := e ▸ k
      rw [if_neg (by rw [k, ← this]; decide)]; omega
    · have k' : keepRun t q = false := by cases h2 : keepRun t q; rfl; exact absurd h2 k
      have : t = true := by
        cases t with
        | true => rfl
        | false => exact absurd (e ▸ rfl : keepRun false q = true) k
      rw [if_neg (by rw [k', this]; decide)]; omega
def tot (t : Bool) (rs : List (Nat × Nat)) : Nat := (kept t rs).length * wid t true + dr t rs * wid t false
theorem tot_cons (t : Bool) (q : Nat × Nat) (rs : List (Nat × Nat)) : tot t (q :: rs) = wid t (keepRun t q) + tot t rs := by
  unfold tot
  rw [kept_cons, dr]
  by_cases h : keepRun t q = true
  · rw [if_pos h, if_pos h, h, List.length_append, List.length_singleton, Nat.add_mul, Nat.one_mul, Nat.zero_add]; omega
  · have k' : keepRun t q = false := by cases h2 : keepRun t q; rfl; exact absurd h2 h
    rw [if_neg h, if_neg h, k', List.nil_append, Nat.add_mul, Nat.one_mul]; omega
theorem tot_le (t : Bool) : ∀ rs : List (Nat × Nat), (∀ q ∈ rs, 1 ≤ q.2) → tot t rs ≤ lenR rs ∧ (lenR rs = tot t rs → ∀ q ∈ rs, q.2 = wid t (keepRun t q))
  | [], _ => ⟨by unfold tot; simp [kept, dr, lenR], fun _ q hq => by cases hq⟩
  | q :: rs, h => by
    obtain ⟨i1, i2⟩ := tot_le t rs fun x hx => h x (List.mem_cons_of_mem _ hx)
    have w := wid_le t q (h q List.mem_cons_self)
    have e : lenR (q :: rs) = q.2 + lenR rs := by unfold lenR; rw [List.map_cons, List.sum_cons]
    rw [tot_cons, e]
    refine ⟨by omega, fun z x hx => ?_⟩
    rcases List.mem_cons.mp hx with rfl | hx
    · omega
    · exact i2 (by omega) x hx
/-- p is not the head of the first run -/
def hdNe (p : Option Nat) : List (Nat × Nat) → Prop
  | [] => True
  | q :: _ => p ≠ some q.1
theorem alt_tail {q : Nat × Nat} {rs : List (Nat × Nat)} (h : alt (q :: rs)) : alt rs ∧ hdNe (some q.1) rs := by
  cases rs with
  | nil => exact ⟨trivial, trivial⟩
  | cons a r => exact ⟨h.2, fun z => h.1 (Option.some.inj z)⟩
theorem drop_bound (t : Bool) : ∀ (rs : List (Nat × Nat)) (p : Option Nat), alt rs → pairsO p (kept t rs) ≤ dr t rs + 1 ∧ (hdNe p rs → pairsO p (kept t rs) ≤ dr t rs)
  | [], p, _ => ⟨Nat.zero_le _, fun _ => Nat.zero_le _⟩
  | q :: rs, p, h => by
    obtain ⟨h1, h2⟩ := alt_tail h
    rw [kept_cons, dr]
    by_cases k : keepRun t q = true
    · obtain ⟨_, i2⟩ := drop_bound t rs (some q.1) h1
      have i2 := i2 h2
      rw [if_pos k, if_pos k, List.singleton_append, pairsO]
      refine ⟨by split <;> omega, fun z => ?_⟩
      rw [if_neg z]; omega
    · obtain ⟨i1, _⟩ := drop_bound t rs p h1
      rw [if_neg k, if_neg k, List.nil_append]
      exact ⟨by omega, fun _ => by omega⟩
def flatR (rs : List (Nat × Nat)) : List Nat := rs.flatMap fun q => List.replicate q.2 q.1
theorem flatR_cons (q : Nat × Nat) (rs : List (Nat × Nat)) : flatR (q :: rs) = List.replicate q.2 q.1 ++ flatR rs := by unfold flatR; rw [List.flatMap_cons]
theorem rep_core (t : Bool) (m : Nat) : List.replicate (wid t true) m = core t m := by cases t <;> rfl
theorem rep_sep (t : Bool) (x : Nat) : List.replicate (wid t false) x = sepX t x := by cases t <;> rfl
/-- where nothing is wasted the runs are the expected ones -/
theorem tight (t : Bool) : ∀ (n : Nat) (rs : List (Nat × Nat)) (p : Option Nat), rs.length ≤ n → alt rs → hdNe p rs → (∀ q ∈ rs, q.2 = wid t (keepRun t q)) → dr t rs = pairsO p (kept t rs) → ∃ xs : List Nat, xs.length = pairsO p (kept t rs) ∧ flatR rs = ex t p (kept t rs) xs
  | _, [], p, _, _, _, _, _ => ⟨[], rfl, rfl⟩
  | 0, q :: rs, p, hn, _, _, _, _ => by simp at hn
  | n + 1, q :: rs, p, hn, ha, hp, hw, hd => by
    obtain ⟨h1, h2⟩ := alt_tail ha
    have hq := hw q List.mem_cons_self
    have hw1 : ∀ x ∈ rs, x.2 = wid t (keepRun t x) := fun x hx => hw x (List.mem_cons_of_mem _ hx)
    have hn1 : rs.length ≤ n := by rw [List.length_cons] at hn; omega
    rw [kept_cons, dr] at hd
    rw [kept_cons, flatR_cons]
    by_cases k : keepRun t q = true
    · have hp' : p ≠ some q.1 := hp
      rw [if_pos k, if_pos k, List.singleton_append, pairsO, if_neg hp'] at hd
      obtain ⟨xs, e1, e2⟩ := tight t n rs (some q.1) hn1 h1 h2 hw1 (by omega)
      rw [if_pos k, List.singleton_append, pairsO, if_neg hp']
      refine ⟨xs, by omega, ?_⟩
      rw [ex, if_neg hp', hq, k, rep_core, e2]
    · have k' : keepRun t q = false := by cases h2 : keepRun t q; rfl; exact absurd h2 k
      rw [if_neg k, if_neg k, List.nil_append] at hd
      rw [if_neg k, List.nil_append]
      match rs, h1, h2, hw1, hn1, hd with
      | [], _, _, _, _, hd => exact absurd hd (by show ¬ (1 + 0 = 0); decide)
      | q2 :: rest, h1, h2, hw1, hn1, hd =>
        obtain ⟨g1, g2⟩ := alt_tail h1
        rw [kept_cons, dr] at hd
        rw [kept_cons, flatR_cons]
        by_cases k2 : keepRun t q2 = true
        · have b := (drop_bound t rest (some q2.1) g1).2 g2
          rw [if_pos k2, if_pos k2, List.singleton_append, pairsO] at hd
          by_cases hpe : p = some q2.1
          · rw [if_pos hpe] at hd
            obtain ⟨xs, e1, e2⟩ := tight t n rest (some q2.1) (by rw [List.length_cons] at hn1; omega) g1 g2 (fun x hx => hw1 x (List.mem_cons_of_mem _ hx)) (by omega)
            rw [if_pos k2, List.singleton_append, pairsO, if_pos hpe]
            refine ⟨q.1 :: xs, by rw [List.length_cons]; omega, ?_⟩
            rw [ex, if_pos hpe, hq, k', rep_sep, hw1 q2 List.mem_cons_self, k2, rep_core, e2]
            rfl
          · rw [if_neg hpe] at hd
            omega
        · have b := (drop_bound t rest p g1).1
          rw [if_neg k2, if_neg k2, List.nil_append] at hd
          omega
/-- one sieve: a row of the least length in front of it -/
theorem one_step (t : Bool) (r : List Nat) (h : r.length = (before1 t (sizeS (once t r))).1) : ∃ xs : List Nat, xs.length = pairs (once t r) ∧ r = ex t none (once t r) xs := by
  have ha := alt_runs r
  have hl : lenR (runs r) = r.length := lenR_runs r
  obtain ⟨t1, t2⟩ := tot_le t (runs r) (runs_pos r)
  have d := (drop_bound t (runs r) none ha).2 (by cases runs r with | nil => trivial | cons a b => exact fun z => by cases z)
  have e1 : pairsO none (kept t (runs r)) = pairs (once t r) := pairsO_S _
  have e2 : tot t (runs r) = (once t r).length * wid t true + dr t (runs r) * wid t false := rfl
  rw [e1] at d
  have e3 : (before1 t (sizeS (once t r))).1 = (once t r).length * wid t true + pairs (once t r) * wid t false := by
    cases t
    · show (once false r).length + 2 * pairs (once false r) = (once false r).length * 1 + pairs (once false r) * 2
      omega
    · show 2 * (once true r).length + pairs (once true r) = (once true r).length * 2 + pairs (once true r) * 1
      omega
  have e4 : dr t (runs r) = pairs (once t r) := by
    have w : 1 ≤ wid t false := by cases t <;> decide
    have m1 : pairs (once t r) * wid t false ≤ dr t (runs r) * wid t false := Nat.mul_le_mul_right _ d
    have m2 : dr t (runs r) * wid t false = pairs (once t r) * wid t false := by omega
    exact Nat.eq_of_mul_eq_mul_right w m2
  have hw := t2 (by rw [hl, h, e3, e2, e4])
  obtain ⟨xs, x1, x2⟩ := tight t (runs r).length (runs r) none (Nat.le_refl _) ha (by cases runs r with | nil => trivial | cons a b => exact fun z => by cases z) hw (by rw [e1, e4])
  rw [e1] at x1
  have e5 : flatR (runs r) = r := flat_runs r
  exact ⟨xs, x1, by rw [← e5]; exact x2.trans (by rw [e5]; rfl)⟩
/-! .. with marks -/
theorem map_some {f : Nat → Nat} {p : Option Nat} {m : Nat} (h : ∀ q, p = some q → q ≠ m → Dif f q m) : (p.map f = some (f m)) ↔ p = some m := by
  cases p with
  | none => exact ⟨fun z => (by cases z), fun z => (by cases z)⟩
  | some q =>
    refine ⟨fun z => ?_, fun z => by cases z; rfl⟩
    by_cases e : q = m
    · rw [e]
    · exact absurd (Option.some.inj z) (h q rfl e)
theorem adj_pairs (f : Nat → Nat) : ∀ (l : List Nat) (p : Option Nat), pairsO p l ≤ pairsO (p.map f) (l.map f) ∧ (pairsO (p.map f) (l.map f) = pairsO p l → adjO (Dif f) p l)
  | [], _ => ⟨Nat.le_refl _, fun _ => trivial⟩
  | m :: r, p => by
    obtain ⟨i1, i2⟩ := adj_pairs f r (some m)
    rw [List.map_cons, pairsO, pairsO]
    have i1 : pairsO (some m) r ≤ pairsO (some (f m)) (r.map f) := i1
    have i2 : pairsO (some (f m)) (r.map f) = pairsO (some m) r → adjO (Dif f) (some m) r := i2
    by_cases h : p = some m
    · subst h
      have g : Option.map f (some m) = some (f m) := rfl
      rw [if_pos rfl, if_pos g]
      exact ⟨by omega, fun z => ⟨fun q hq hn => absurd (Option.some.inj hq).symm hn, i2 (by omega)⟩⟩
    · rw [if_neg h]
      by_cases g : p.map f = some (f m)
      · rw [if_pos g]
        exact ⟨by omega, fun z => by omega⟩
      · rw [if_neg g]
        refine ⟨by omega, fun z => ⟨fun q hq hn e => g (by rw [hq]; show some (f q) = _; rw [e]), i2 (by omega)⟩⟩
theorem pairs_of_adj (f : Nat → Nat) (l : List Nat) (h : adjO (Dif f) none l) : pairs (l.map f) = pairsO none l := by rw [pairs_map f l h, pairsO_S]
theorem ex_goT {f f' : Nat → Nat} : ∀ (ms : List Nat) (p : Option Nat) (n : Nat) (xs : List Nat), adjO (Dif f) p ms → xs.length = pairsO p ms → (∀ m ∈ ms, f' m = f m) → (∀ i x, xs[i]? = some x → f' (200 + (n + i)) = x) → ex true (p.map f) (ms.map f) xs = (goT p ms n).map f'
  | [], _, _, _, _, _, _, _ => rfl
  | m :: r, p, n, xs, ha, hl, hf, hx => by
    have fm := hf m List.mem_cons_self
    have hr : ∀ y ∈ r, f' y = f y := fun y hy => hf y (List.mem_cons_of_mem _ hy)
    have e := map_some ha.1
    rw [pairsO] at hl
    rw [List.map_cons, ex, goT]
    by_cases h : p = some m
    · rw [if_pos h] at hl
      rw [if_pos (e.mpr h), if_pos h]
      match xs, hl, hx with
      | x :: ys, hl, hx =>
        have ih := ex_goT r (some m) (n + 1) ys ha.2 (by rw [List.length_cons] at hl; omega) hr (fun i y hy => by
          have := hx (i + 1) y (by simpa using hy)
          rw [show n + 1 + i = n + (i + 1) by omega]; exact this)
        have ih : ex true (some (f m)) (r.map f) ys = (goT (some m) r (n + 1)).map f' := ih
        have x0 := hx 0 x rfl
        rw [List.map_cons, List.map_cons, List.map_cons, ← ih, fm, show 200 + n = 200 + (n + 0) from rfl, x0]
        rfl
      | [], hl, _ => simp at hl; omega
    · rw [if_neg h] at hl
      rw [if_neg (fun z => h (e.mp z)), if_neg h]
      have ih : ex true (some (f m)) (r.map f) xs = (goT (some m) r n).map f' := ex_goT r (some m) n xs ha.2 (by omega) hr hx
      rw [List.map_cons, List.map_cons, ← ih, fm]
      rfl
theorem ex_hh {f f' : Nat → Nat} {x : Nat} {ys : List Nat} : ∀ (j n a : Nat) (t : List Nat), adjO (Dif f) (some a) (hh n j ++ a :: t) → (∀ m ∈ hh n j, f' m = f m) → f' (200 + (n + j)) = x → a < 200 + n → ex false (some (f a)) ((hh n j ++ a :: t).map f) (x :: ys) = (hh n (j + 1)).map f' ++ f a :: ex false (some (f a)) (t.map f) ys
  | 0, n, a, t, ha, hf, hx, _ => by
    have e1 : hh n 0 = [] := rfl
    have e2 : hh n (0 + 1) = [200 + (n + 0), 200 + (n + 0)] := rfl
    rw [e1, e2, List.nil_append, List.map_cons, ex, if_pos rfl, List.map_cons, List.map_cons, hx]
    rfl
  | j + 1, n, a, t, ha, hf, hx, hl => by
    rw [hh_front] at ha ⊢
    have h1 := ha.1 a rfl (by omega)
    have hmem : ∀ m ∈ hh (n + 1) j, f' m = f m := fun m hm => hf m (by
      have := hh_front n j []
      rw [List.append_nil] at this
      rw [this]
      exact List.mem_cons_of_mem _ (List.mem_append_left _ hm))
    have hmn : f' (200 + n) = f (200 + n) := hf (200 + n) (by
      have := hh_front n j []
      rw [List.append_nil] at this
      rw [this]
      exact List.mem_cons_self)
    have ih := ex_hh (f := f) (f' := f') (x := x) (ys := ys) j (n + 1) (200 + n) (a :: t) ha.2 hmem (by rw [← hx]; congr 1; omega) (by omega)
    have h2 : f (200 + n) ≠ f a := fun z => h1 z.symm
    rw [List.map_cons, ex, if_neg (fun z => h1 (Option.some.inj z)), ih, List.map_cons, ex, if_neg (fun z => h2 (Option.some.inj z))]
    have e := hh_front n (j + 1) []
    rw [List.append_nil] at e
    rw [e, List.map_cons, List.map_append, List.map_cons, List.map_nil, hmn]
    show [f (200 + n)] ++ _ = _
    simp [core]
theorem ex_goX {f f' : Nat → Nat} (j d : Nat) : ∀ (ms : List Nat) (p : Option Nat) (n : Nat) (xs : List Nat), below n ms → adjO (Dif f) p (goX j d p ms n) → xs.length = pairsO p ms → (∀ m ∈ goX j d p ms n, f' m = f m) → (∀ i x, xs[i]? = some x → f' (200 + (n + i * d + j)) = x) → ex false (p.map f) ((goX j d p ms n).map f) xs = (goX (j + 1) d p ms n).map f'
  | [], _, _, _, _, _, _, _, _ => rfl
  | m :: r, p, n, xs, hb, ha, hl, hf, hx => by
    have hm := hb m List.mem_cons_self
    have hbr : below n r := fun x hx => hb x (List.mem_cons_of_mem _ hx)
    rw [pairsO] at hl
    rw [goX] at ha hf
    rw [goX, goX]
    by_cases h : p = some m
    · rw [if_pos h] at hl ha hf
      rw [if_pos h, if_pos h]
      subst h
      match xs, hl, hx with
      | x :: ys, hl, hx =>
        have fm : f' m = f m := hf m (List.mem_append_right _ List.mem_cons_self)
        have ha2 : ∀ (l : List Nat) (q : Nat), adjO (Dif f) (some q) (l ++ m :: goX j d (some m) r (n + d)) → adjO (Dif f) (some m) (goX j d (some m) r (n + d)) := by
          intro l
          induction l with
          | nil => exact fun q z => z.2
          | cons b l ih => exact fun q z => ih b z.2
        have ih : ex false (some (f m)) ((goX j d (some m) r (n + d)).map f) ys = (goX (j + 1) d (some m) r (n + d)).map f' := ex_goX j d r (some m) (n + d) ys (below_mono hbr (by omega)) (ha2 _ _ ha) (by rw [List.length_cons] at hl; omega)
          (fun y hy => hf y (List.mem_append_right _ (List.mem_cons_of_mem _ hy))) (fun i y hy => by
            have := hx (i + 1) y (by simpa using hy)
            rw [← this]
            congr 2
            rw [Nat.add_mul]; omega)
        have x0 := hx 0 x rfl
        rw [Nat.zero_mul, Nat.add_zero] at x0
        have := ex_hh (f := f) (f' := f') (x := x) (ys := ys) j n m (goX j d (some m) r (n + d)) ha (fun y hy => hf y (List.mem_append_left _ hy)) x0 hm
        show ex false (some (f m)) _ (x :: ys) = _
        rw [this, ih, List.map_append, List.map_cons, fm]
      | [], hl, _ => simp at hl; omega
    · rw [if_neg h] at hl ha hf
      rw [if_neg h, if_neg h]
      have fm : f' m = f m := hf m List.mem_cons_self
      have e := map_some ha.1
      have ih : ex false (some (f m)) ((goX j d (some m) r n).map f) xs = (goX (j + 1) d (some m) r n).map f' := ex_goX j d r (some m) n xs hbr ha.2 (by omega) (fun y hy => hf y (List.mem_cons_of_mem _ hy)) hx
      rw [List.map_cons, ex, if_neg (fun z => h (e.mp z)), ih, List.map_cons, fm]
      rfl
theorem tight_num (t : Bool) {A B : Nat × Nat} (oA : okSz A) (oB : okSz B) (h1 : leSz A B) (h2 : leSz (before1 t B) (before1 t A)) : B = A := by
  obtain ⟨a, e⟩ := A
  obtain ⟨b, g⟩ := B
  obtain ⟨p1, p2⟩ := h1
  obtain ⟨q1, q2⟩ := h2
  have oA : e ≤ a := oA
  have oB : g ≤ b := oB
  have p1 : e ≤ g := p1
  have p2 : a - e ≤ b - g := p2
  cases t
  · have q1 : g ≤ e := q1
    have q2 : b + 2 * g - g ≤ a + 2 * e - e := q2
    exact Prod.ext (by show b = a; omega) (by show g = e; omega)
  · have q1 : b ≤ a := q1
    have q2 : 2 * b + g - b ≤ 2 * a + e - a := q2
    exact Prod.ext (by show b = a; omega) (by show g = e; omega)
theorem min_tail {c : Nat} {p r : List Nat} (h : sizeS r = growS (c :: p) (sizeS (sv r (c :: p)))) : sizeS (once (c == 84) r) = growS p (sizeS (sv (once (c == 84) r) p)) ∧ sizeS r = before1 (c == 84) (sizeS (once (c == 84) r)) := by
  rw [sv_cons, growS_cons] at h
  have h1 := sv_bound p (once (c == 84) r)
  have h2 : leSz (before1 (c == 84) (sizeS (once (c == 84) r))) (sizeS r) := once_bound _ r
  have oA : okSz (growS p (sizeS (sv (once (c == 84) r) p))) := growS_ok p (pairs_le _)
  have oB : okSz (sizeS (once (c == 84) r)) := pairs_le _
  have e : sizeS (once (c == 84) r) = growS p (sizeS (sv (once (c == 84) r) p)) := by
    rw [h] at h2
    exact tight_num _ oA oB h1 h2
  exact ⟨e, by rw [h, e]⟩
theorem goX_pairs (j d : Nat) : ∀ (ms : List Nat) (p : Option Nat) (n : Nat), below n ms → pairsO p (goX j d p ms n) = pairsO p ms
  | [], _, _, _ => rfl
  | m :: r, p, n, hb => by
    have hr : below n r := fun x hx => hb x (List.mem_cons_of_mem _ hx)
    have a1 := goX_pairs j d r (some m) (n + d) (below_mono hr (Nat.le_add_right _ _))
    have a2 := goX_pairs j d r (some m) n hr
    rw [goX, pairsO]
    by_cases h : p = some m
    · rw [if_pos h, if_pos h, h, hh_pairs j n m _ (hb m List.mem_cons_self), a1]
    · rw [if_neg h, if_neg h, pairsO, if_neg h, a2]
theorem goX_mem (j d N : Nat) (hj : j < d) : ∀ (ms : List Nat) (p : Option Nat) (k x : Nat), below N ms → x ∈ goX j d p ms (N + k * d) → x < 200 + N ∨ (200 + N ≤ x ∧ (x - 200 - N) % d < j)
  | [], _, _, _, _, h => by cases h
  | m :: r, p, k, x, hb, h => by
    have hm := hb m List.mem_cons_self
    have hr : below N r := fun x hx => hb x (List.mem_cons_of_mem _ hx)
    rw [goX] at h
    split at h
    · rcases List.mem_append.mp h with h | h
      · have h' : x ∈ halfs (N + k * d) j := by
          unfold hh at h
          rcases List.mem_append.mp h with h | h
          · exact h
          · exact List.mem_reverse.mp h
        unfold halfs at h'
        obtain ⟨i, hi, rfl⟩ := List.mem_map.mp h'
        have hi := List.mem_range.mp hi
        refine .inr ⟨by omega, ?_⟩
        have e : 200 + (N + k * d + i) - 200 - N = i + k * d := by omega
        rw [e, Nat.add_mul_mod_self_right, Nat.mod_eq_of_lt (by omega)]
        exact hi
      · rcases List.mem_cons.mp h with rfl | h
        · exact .inl hm
        · refine goX_mem j d N hj r (some m) (k + 1) x hr ?_
          rw [show N + (k + 1) * d = N + k * d + d by rw [Nat.add_mul]; omega]
          exact h
    · rcases List.mem_cons.mp h with rfl | h
      · exact .inl hm
      · exact goX_mem j d N hj r (some m) k x hr h
theorem shape_S {ms : List Nat} {n d : Nat} {f : Nat → Nat} (hb : below n ms) (ha : adjO (Dif f) none ms) : ∀ j, j ≤ d → ∀ r, sv r (List.replicate j 83) = ms.map f → sizeS r = growS (List.replicate j 83) (sizeS (ms.map f)) → ∃ f' : Nat → Nat, r = (goX j d none ms n).map f' ∧ ∀ m, m < 200 + n → f' m = f m
  | 0, _, r, h, _ => ⟨f, by rw [goX_0]; exact h, fun _ _ => rfl⟩
  | j + 1, hj, r, h, hs => by
    rw [List.replicate_succ] at h hs
    rw [← h] at hs
    obtain ⟨m1, m2⟩ := min_tail hs
    rw [sv_cons] at h
    have e83 : ((83 : Nat) == 84) = false := rfl
    rw [e83] at m1 m2 h
    rw [h] at m1
    obtain ⟨f1, e1, k1⟩ := shape_S (d := d) hb ha j (by omega) (once false r) h m1
    have pr : pairs (once false r) = pairsO none ms := by
      have := congrArg Prod.snd m1
      have e2 := growS_rep 83 j [] (sizeS (ms.map f))
      rw [List.append_nil, growS_nil, e83, iterS] at e2
      rw [e2] at this
      exact this.trans (pairs_of_adj f ms ha)
    have a1 : adjO (Dif f1) none (goX j d none ms n) := (adj_pairs f1 _ none).2 (by
      have : pairsO none ((goX j d none ms n).map f1) = pairs (once false r) := by rw [pairsO_S, ← e1]
      show pairsO none ((goX j d none ms n).map f1) = _
      rw [this, pr, goX_pairs j d ms none n hb])
    obtain ⟨xs, x1, x2⟩ := one_step false r (congrArg Prod.fst m2)
    rw [pr] at x1
    let f' : Nat → Nat := fun m => if 200 + n ≤ m ∧ (m - 200 - n) % d = j ∧ (m - 200 - n) / d < xs.length then xs.getD ((m - 200 - n) / d) 0 else f1 m
    have hold : ∀ m ∈ goX j d none ms n, f' m = f1 m := fun m hm => by
      have := goX_mem j d n (by omega) ms none 0 m hb (by rw [Nat.zero_mul]; exact hm)
      exact if_neg (fun z => by omega)
    have hnew : ∀ i x, xs[i]? = some x → f' (200 + (n + i * d + j)) = x := fun i x hx => by
      have hi : i < xs.length := (List.getElem?_eq_some_iff.mp hx).1
      have e : 200 + (n + i * d + j) - 200 - n = d * i + j := by rw [Nat.mul_comm d i]; omega
      have em : (d * i + j) % d = j := by rw [Nat.mul_add_mod, Nat.mod_eq_of_lt (by omega)]
      have ed : (d * i + j) / d = i := by rw [Nat.mul_add_div (by omega), Nat.div_eq_of_lt (by omega)]; rfl
      show (if _ then _ else _) = x
      rw [e, em, ed, if_pos ⟨Nat.le_trans (Nat.add_le_add_left (Nat.le_add_right n (i * d)) 200) (by omega), rfl, hi⟩]
      simp [List.getD, hx]
    have := ex_goX (f := f1) (f' := f') j d ms none n xs hb a1 x1 hold hnew
    refine ⟨f', ?_, fun m hm => ?_⟩
    · rw [← this, ← e1]
      exact x2
    · rw [← k1 m hm]
      exact if_neg (fun z => by omega)
theorem manyT_len {z : List Nat × List Nat} (hz : okM z) : ∀ k, z.2.length ≤ (manyT k z).2.length
  | 0 => Nat.le_refl _
  | k + 1 => by
    have := manyT_len hz k
    rw [manyT_succ, (stT_size (manyT_size hz k).2).2.2]
    omega
theorem shape_T {z : List Nat × List Nat} {f : Nat → Nat} (hz : okM z) (ha : adjO (Dif f) none z.1) : ∀ k, ∀ r, sv r (List.replicate k 84) = z.1.map f → sizeS r = growS (List.replicate k 84) (sizeS (z.1.map f)) → ∃ f' : Nat → Nat, r = (manyT k z).1.map f' ∧ ∀ m, m < 200 + z.2.length → f' m = f m
  | 0, r, h, _ => ⟨f, h, fun _ _ => rfl⟩
  | k + 1, r, h, hs => by
    rw [List.replicate_succ] at h hs
    rw [← h] at hs
    obtain ⟨m1, m2⟩ := min_tail hs
    rw [sv_cons] at h
    have e84 : ((84 : Nat) == 84) = true := rfl
    rw [e84] at m1 m2 h
    rw [h] at m1
    obtain ⟨f1, e1, k1⟩ := shape_T hz ha k (once true r) h m1
    obtain ⟨s1, s2⟩ := manyT_size hz k
    have ln := manyT_len hz k
    rw [manyT_succ]
    have sz : sizeS (z.1.map f) = sizeM z := by
      show ((z.1.map f).length, pairs (z.1.map f)) = _
      rw [List.length_map, pairs_of_adj f z.1 ha]
      rfl
    have pr : pairs (once true r) = pairsO none (manyT k z).1 := by
      have := congrArg Prod.snd m1
      have e2 := growS_rep 84 k [] (sizeS (z.1.map f))
      rw [List.append_nil, growS_nil, e84] at e2
      rw [e2, sz, ← s1] at this
      exact this
    have a1 : adjO (Dif f1) none (manyT k z).1 := (adj_pairs f1 _ none).2 (by
      show pairsO none ((manyT k z).1.map f1) = _
      rw [pairsO_S, ← e1, pr])
    obtain ⟨xs, x1, x2⟩ := one_step true r (congrArg Prod.fst m2)
    rw [pr] at x1
    let f' : Nat → Nat := fun m => if 200 + (manyT k z).2.length ≤ m then xs.getD (m - 200 - (manyT k z).2.length) 0 else f1 m
    have hold : ∀ m ∈ (manyT k z).1, f' m = f1 m := fun m hm => by
      have := s2 m hm
      exact if_neg (by omega)
    have hnew : ∀ i x, xs[i]? = some x → f' (200 + ((manyT k z).2.length + i)) = x := fun i x hx => by
      show (if _ then _ else _) = x
      rw [if_pos (by omega), show 200 + ((manyT k z).2.length + i) - 200 - (manyT k z).2.length = i by omega]
      simp [List.getD, hx]
    have := ex_goT (f := f1) (f' := f') (manyT k z).1 none (manyT k z).2.length xs a1 x1 hold hnew
    refine ⟨f', ?_, fun m hm => ?_⟩
    · show r = (goT none (manyT k z).1 (manyT k z).2.length).map f'
      rw [← this, ← e1]
      exact x2
    · rw [← k1 m hm]
      exact if_neg (by omega)
/-- THE SHAPE: a row of the least size is the shape with letters for the marks -/
theorem shape_runs {o : List Nat} (ho : ∀ c ∈ o, c < 200) : ∀ rs : List (Nat × Nat), (∀ q ∈ rs, q.1 = 84 ∨ q.1 = 83) → ∀ r, sv r (flatR rs) = o → sizeS r = growS (flatR rs) (sizeS o) → ∃ f : Nat → Nat, r = (shapeR o rs.reverse).1.map f ∧ ∀ c, c < 200 → f c = c
  | [], _, r, h, _ => ⟨id, by rw [show r = o from h]; exact (List.map_id _).symm, fun _ _ => rfl⟩
  | q :: rs, hq, r, h, hs => by
    have hq2 : ∀ x ∈ rs, x.1 = 84 ∨ x.1 = 83 := fun x hx => hq x (List.mem_cons_of_mem _ hx)
    have e : shapeR o (q :: rs).reverse = stepR (shapeR o rs.reverse) q := by
      unfold shapeR
      rw [List.reverse_cons, List.foldl_append]
      rfl
    rw [flatR_cons] at h hs
    rw [sv_app] at h
    rw [growS_app] at hs
    have S := Shp.run ho rs.reverse fun x hx => hq2 x (List.mem_reverse.mp hx)
    have gR : growR rs.reverse (sizeS o) = growS (flatR rs) (sizeS o) := (growR_flat rs (sizeS o)).symm
    rw [gR] at S
    -- the row behind the first run of sieves is of the least size, too
    have mid : ∀ (n : Nat) (r : List Nat), sizeS r = growS (List.replicate n q.1) (growS (flatR rs) (sizeS o)) → sv (sv r (List.replicate n q.1)) (flatR rs) = o → sizeS (sv r (List.replicate n q.1)) = growS (flatR rs) (sizeS o) ∧ sizeS r = growS (List.replicate n q.1) (sizeS (sv r (List.replicate n q.1))) := by
      intro n
      induction n with
      | zero => exact fun r hs _ => ⟨hs, rfl⟩
      | succ n ih =>
        intro r hs hv
        rw [List.replicate_succ] at hs hv ⊢
        rw [sv_cons] at hv ⊢
        have key : sizeS r = growS (q.1 :: (List.replicate n q.1 ++ flatR rs)) (sizeS (sv r (q.1 :: (List.replicate n q.1 ++ flatR rs)))) := by
          rw [sv_cons, sv_app, hv, growS_cons, growS_app]
          exact hs
        obtain ⟨m1, m2⟩ := min_tail key
        rw [sv_app, hv, growS_app] at m1
        obtain ⟨i1, i2⟩ := ih _ m1 hv
        exact ⟨i1, by rw [growS_cons, m2, ← i2]⟩
    obtain ⟨g1, g2⟩ := mid q.2 r hs h
    obtain ⟨f, e1, k1⟩ := shape_runs ho rs hq2 (sv r (List.replicate q.2 q.1)) h g1
    have a1 : adjO (Dif f) none (shapeR o rs.reverse).1 := (adj_pairs f _ none).2 (by
      show pairsO none ((shapeR o rs.reverse).1.map f) = _
      rw [pairsO_S, ← e1]
      exact (congrArg Prod.snd g1).trans (congrArg Prod.snd S.size).symm)
    rw [e1] at g2
    rw [e]
    have ok := S.ok
    generalize shapeR o rs.reverse = z at *
    unfold stepR
    rcases hq q List.mem_cons_self with hk | hk
    · rw [hk, if_neg (by decide)]
      rw [hk] at e1 g2
      obtain ⟨f', x1, x2⟩ := shape_T ok a1 q.2 r e1 g2
      exact ⟨f', x1, fun c hc => (x2 c (by omega)).trans (k1 c hc)⟩
    · rw [hk, if_pos rfl]
      rw [hk] at e1 g2
      obtain ⟨f', x1, x2⟩ := shape_S ok a1 q.2 (Nat.le_refl _) r e1 g2
      rw [goX_S] at x1
      exact ⟨f', x1, fun c hc => (x2 c (by omega)).trans (k1 c hc)⟩
theorem shape_of_row {p o r : List Nat} (hp : Pipe p) (ho : ∀ c ∈ o, c < 200) (h : sv r p = o) (hl : r.length = (growS p (sizeS o)).1) : ∃ f : Nat → Nat, r = (shapeOf p o).1.map f ∧ ∀ c, c < 200 → f c = c := by
  have b := sv_bound p r
  rw [h] at b
  have e := leSz_eq (growS_ok p (show okSz (sizeS o) from pairs_le o)) (show okSz (sizeS r) from pairs_le r) b (by rw [← hl]; exact Nat.le_refl _)
  have fl : flatR (runs p) = p := flat_runs p
  exact shape_runs ho (runs p) (runs_heads hp) r (by rw [fl]; exact h) (by rw [fl]; exact e)
end Tw

set_option Elab.async false
set_option linter.all false
set_option maxRecDepth 100000
namespace Tw
open PySem PySem.Spec PyProof.Rows L2
/-! the number of a shortest row -/
theorem goT_keep : ∀ (ms : List Nat) (p : Option Nat) (n x : Nat), x ∈ ms → x ∈ goT p ms n
  | m :: r, p, n, x, h => by
    rw [goT]
    rcases List.mem_cons.mp h with rfl | h
    · split <;> simp
    · split
      · exact List.mem_cons_of_mem _ (List.mem_cons_of_mem _ (List.mem_cons_of_mem _ (goT_keep r _ _ x h)))
      · exact List.mem_cons_of_mem _ (List.mem_cons_of_mem _ (goT_keep r _ _ x h))
theorem goS_keep (c : Nat) : ∀ (ms : List Nat) (p : Option Nat) (n x : Nat), x ∈ ms → x ∈ goS c p ms n
  | m :: r, p, n, x, h => by
    rw [goS]
    rcases List.mem_cons.mp h with rfl | h
    · split <;> simp
    · split
      · exact List.mem_append_right _ (List.mem_cons_of_mem _ (goS_keep c r _ _ x h))
      · exact List.mem_cons_of_mem _ (goS_keep c r _ _ x h)
/-- the new free letters of a sieve: each stands in the row, next to the one that is barred for it -/
theorem bars_T (f : Nat → Nat) : ∀ (ms : List Nat) (p : Option Nat) (n : Nat), below n ms → ∀ (j b : Nat), (bsT p ms)[j]? = some b → 200 + (n + j) ∈ goT p ms n ∧ (adjO (Dif f) p (goT p ms n) → f (200 + (n + j)) ≠ f b)
  | [], _, _, _, j, b, h => by cases h
  | m :: r, p, n, hb, j, b, h => by
    have hr : below n r := fun x hx => hb x (List.mem_cons_of_mem _ hx)
    have hm := hb m List.mem_cons_self
    rw [bsT] at h
    rw [goT]
    by_cases e : p = some m
    · rw [if_pos e] at h
      rw [if_pos e]
      cases j with
      | zero =>
        cases h
        exact ⟨List.mem_cons_self, fun ha z => ha.1 m e (by omega) z.symm⟩
      | succ j =>
        have ih := bars_T f r (some m) (n + 1) (below_mono hr (by omega)) j b h
        rw [show n + 1 + j = n + (j + 1) by omega] at ih
        exact ⟨List.mem_cons_of_mem _ (List.mem_cons_of_mem _ (List.mem_cons_of_mem _ ih.1)), fun ha => ih.2 ha.2.2.2⟩
    · rw [if_neg e] at h
      rw [if_neg e]
      have ih := bars_T f r (some m) n hr j b h
      exact ⟨List.mem_cons_of_mem _ (List.mem_cons_of_mem _ ih.1), fun ha => ih.2 ha.2.2⟩
theorem bars_hh (f : Nat → Nat) : ∀ (c n x : Nat) (t : List Nat), x < 200 + n → adjO (Dif f) (some x) (hh n c ++ x :: t) → ∀ j, j < c → f (200 + (n + j)) ≠ f (if j = 0 then x else 200 + (n + (j - 1)))
  | 0, _, _, _, _, _, j, h => by omega
  | c + 1, n, x, t, hx, ha, j, h => by
    rw [hh_front] at ha
    cases j with
    | zero => exact fun z => ha.1 x rfl (by omega) z.symm
    | succ j =>
      have ih := bars_hh f c (n + 1) (200 + n) (x :: t) (by omega) ha.2 j (by omega)
      rw [if_neg (by omega)]
      rw [show n + 1 + j = n + (j + 1) by omega] at ih
      by_cases e : j = 0
      · subst e
        rw [if_pos rfl] at ih
        exact ih
      · rw [if_neg e, show n + 1 + (j - 1) = n + (j + 1 - 1) by omega] at ih
        exact ih
theorem hh_mem {n c j : Nat} (h : j < c) : 200 + (n + j) ∈ hh n c := List.mem_append_left _ (List.mem_map.mpr ⟨j, List.mem_range.mpr h, rfl⟩)
theorem bars_S (f : Nat → Nat) (c : Nat) : ∀ (ms : List Nat) (p : Option Nat) (n : Nat), below n ms → ∀ (j b : Nat), (bsS c p ms n)[j]? = some b → 200 + (n + j) ∈ goS c p ms n ∧ (adjO (Dif f) p (goS c p ms n) → f (200 + (n + j)) ≠ f b)
  | [], _, _, _, j, b, h => by cases h
  | m :: r, p, n, hb, j, b, h => by
    have hr : below n r := fun x hx => hb x (List.mem_cons_of_mem _ hx)
    have hm := hb m List.mem_cons_self
    have cutA : ∀ (l : List Nat) (q : Nat) (t : List Nat), adjO (Dif f) (some q) (l ++ m :: t) → adjO (Dif f) (some m) t := by
      intro l
      induction l with
      | nil => exact fun q t z => z.2
      | cons b l ih => exact fun q t z => ih b t z.2
    rw [bsS] at h
    rw [goS]
    by_cases e : p = some m
    · rw [if_pos e] at h
      rw [if_pos e]
      by_cases hj : j < c
      · rw [List.getElem?_append_left (by rw [inners_len]; exact hj), inners_at m n c j hj] at h
        cases h
        refine ⟨List.mem_append_left _ (hh_mem hj), fun ha => ?_⟩
        rw [e] at ha
        exact bars_hh f c n m _ hm ha j hj
      · rw [List.getElem?_append_right (by rw [inners_len]; omega), inners_len] at h
        have ih := bars_S f c r (some m) (n + c) (below_mono hr (by omega)) (j - c) b h
        rw [show n + c + (j - c) = n + j by omega] at ih
        refine ⟨List.mem_append_right _ (List.mem_cons_of_mem _ ih.1), fun ha => ih.2 ?_⟩
        rw [e] at ha
        exact cutA _ _ _ ha
    · rw [if_neg e] at h
      rw [if_neg e]
      have ih := bars_S f c r (some m) n hr j b h
      exact ⟨List.mem_cons_of_mem _ ih.1, fun ha => ih.2 ha.2⟩
/-- each free letter stands in the row; different neighbours keep it from its barred letter -/
structure FullB (z : List Nat × List Nat) : Prop where
  mem : ∀ j, j < z.2.length → 200 + j ∈ z.1
  bar : ∀ f : Nat → Nat, adjO (Dif f) none z.1 → ∀ j b, z.2[j]? = some b → f (200 + j) ≠ f b
theorem FullB.t {z : List Nat × List Nat} (h : FullB z) (ok : okM z) : FullB (stT z.1 z.2) := by
  refine ⟨fun j hj => ?_, fun f ha j b hb => ?_⟩
  · by_cases hl : j < z.2.length
    · exact goT_keep _ _ _ _ (h.mem j hl)
    · have hj : j < (z.2 ++ bsT none z.1).length := hj
      rw [List.length_append] at hj
      have := (bars_T id z.1 none z.2.length ok (j - z.2.length) _ (List.getElem?_eq_getElem (by omega))).1
      rw [show z.2.length + (j - z.2.length) = j by omega] at this
      exact this
  · have hb : (z.2 ++ bsT none z.1)[j]? = some b := hb
    by_cases hl : j < z.2.length
    · rw [List.getElem?_append_left hl] at hb
      exact h.bar f (adj_goT _ _ _ ha) j b hb
    · rw [List.getElem?_append_right (by omega)] at hb
      have := (bars_T f z.1 none z.2.length ok (j - z.2.length) b hb).2 ha
      rw [show z.2.length + (j - z.2.length) = j by omega] at this
      exact this
theorem adj_goS {f : Nat → Nat} (c : Nat) {ms : List Nat} {n : Nat} (h : adjO (Dif f) none (goS c none ms n)) : adjO (Dif f) none ms := by
  rw [← goX_S] at h
  have : ∀ j, adjO (Dif f) none (goX j c none ms n) → adjO (Dif f) none ms := by
    intro j
    induction j with
    | zero => exact fun z => by rw [goX_0] at z; exact z
    | succ j ih => exact fun z => ih (adj_goX j c ms none n z)
  exact this c h
theorem FullB.s {z : List Nat × List Nat} (h : FullB z) (ok : okM z) (c : Nat) : FullB (stS c z.1 z.2) := by
  refine ⟨fun j hj => ?_, fun f ha j b hb => ?_⟩
  · by_cases hl : j < z.2.length
    · exact goS_keep c _ _ _ _ (h.mem j hl)
    · have hj : j < (z.2 ++ bsS c none z.1 z.2.length).length := hj
      rw [List.length_append] at hj
      have := (bars_S id c z.1 none z.2.length ok (j - z.2.length) _ (List.getElem?_eq_getElem (by omega))).1
      rw [show z.2.length + (j - z.2.length) = j by omega] at this
      exact this
  · have hb : (z.2 ++ bsS c none z.1 z.2.length)[j]? = some b := hb
    by_cases hl : j < z.2.length
    · rw [List.getElem?_append_left hl] at hb
      exact h.bar f (adj_goS c ha) j b hb
    · rw [List.getElem?_append_right (by omega)] at hb
      have := (bars_S f c z.1 none z.2.length ok (j - z.2.length) b hb).2 ha
      rw [show z.2.length + (j - z.2.length) = j by omega] at this
      exact this
theorem FullB.many {z : List Nat × List Nat} (h : FullB z) (ok : okM z) : ∀ c, FullB (manyT c z)
  | 0 => h
  | c + 1 => by rw [manyT_succ]; exact (h.many ok c).t (manyT_size ok c).2
theorem FullB.run {o : List Nat} (ho : ∀ c ∈ o, c < 200) : ∀ rs : List (Nat × Nat), (∀ q ∈ rs, q.1 = 84 ∨ q.1 = 83) → FullB (shapeR o rs) := by
  intro rs
  have main : ∀ (rs : List (Nat × Nat)) (z : List Nat × List Nat) (y : Nat × Nat), Shp z y → FullB z → (∀ q ∈ rs, q.1 = 84 ∨ q.1 = 83) → FullB (rs.foldl stepR z) := by
    intro rs
    induction rs with
    | nil => exact fun z y _ h _ => h
    | cons q rs ih =>
      intro z y S h hq
      refine ih _ _ (S.step (hq q List.mem_cons_self)) ?_ fun x hx => hq x (List.mem_cons_of_mem _ hx)
      unfold stepR
      split
      · exact h.s S.ok q.2
      · exact h.many S.ok q.2
  refine fun h => main rs (o, []) (sizeS o) ⟨?_, fun m hm => ho m hm, Nat.zero_le _⟩ ⟨fun j hj => absurd hj (Nat.not_lt_zero _), fun f _ j b hb => by cases hb⟩ h
  show (o.length, pairsO none o) = (o.length, pairs o)
  rw [pairsO_S]
/-! digits -/
def idxN (x c : Nat) : Nat := if x < c then x - 97 else x - 98
theorem letAt_idx {x c : Nat} (hx : 97 ≤ x) (hc : 97 ≤ c) (h : x ≠ c) : letAt (idxN x c) c = x := by
  unfold letAt idxN
  by_cases e : x < c
  · rw [if_pos e, if_pos (by omega)]; omega
  · rw [if_neg e, if_neg (by omega)]; omega
theorem idx_lt {x c k : Nat} (hx : 97 ≤ x ∧ x < 97 + k) (hc : 97 ≤ c ∧ c < 97 + k) (h : x ≠ c) : idxN x c < k - 1 := by
  unfold idxN
  split <;> omega
/-- the free letters as they first appear -/
def frM : List Nat → List Nat → List Nat
  | _, [] => []
  | seen, m :: r => if 200 ≤ m ∧ m ∉ seen then m :: frM (m :: seen) r else frM (m :: seen) r
theorem frM_mem : ∀ (l seen : List Nat) (x : Nat), x ∈ frM seen l ↔ (x ∈ l ∧ 200 ≤ x ∧ x ∉ seen)
  | [], seen, x => by simp [frM]
  | m :: r, seen, x => by
    rw [frM]
    by_cases h : 200 ≤ m ∧ m ∉ seen
    · rw [if_pos h, List.mem_cons, frM_mem r, List.mem_cons, List.mem_cons]
      constructor
      · rintro (rfl | ⟨h1, h2, h3⟩)
        · exact ⟨.inl rfl, h.1, h.2⟩
        · exact ⟨.inr h1, h2, fun z => h3 (.inr z)⟩
      · rintro ⟨h1, h2, h3⟩
        by_cases e : x = m
        · exact .inl e
        · refine .inr ⟨h1.resolve_left e, h2, fun z => z.elim e h3⟩
    · rw [if_neg h, frM_mem r, List.mem_cons, List.mem_cons]
      constructor
      · rintro ⟨h1, h2, h3⟩
        exact ⟨.inr h1, h2, fun z => h3 (.inr z)⟩
      · rintro ⟨h1, h2, h3⟩
        have e : x ≠ m := fun z => h ⟨by omega, by rw [← z]; exact h3⟩
        exact ⟨h1.resolve_left e, h2, fun z => z.elim e h3⟩
theorem frM_nodup : ∀ (l seen : List Nat), (frM seen l).Nodup
  | [], _ => List.nodup_nil
  | m :: r, seen => by
    rw [frM]
    split
    · refine List.nodup_cons.mpr ⟨fun z => ?_, frM_nodup r _⟩
      exact ((frM_mem r _ _).mp z).2.2 List.mem_cons_self
    · exact frM_nodup r _
theorem len_sub : ∀ (A B : List Nat), A.Nodup → (∀ x ∈ A, x ∈ B) → A.length ≤ B.length
  | [], _, _, _ => Nat.zero_le _
  | a :: A, B, hn, hs => by
    obtain ⟨h1, h2⟩ := List.nodup_cons.mp hn
    have ha := hs a List.mem_cons_self
    have ih := len_sub A (B.erase a) h2 fun x hx => (List.mem_erase_of_ne (fun z => h1 (by rw [← z]; exact hx))).mpr (hs x (List.mem_cons_of_mem _ hx))
    rw [List.length_erase_of_mem ha] at ih
    have := List.length_pos_of_mem ha
    rw [List.length_cons]
    omega
theorem frM_len {z : List Nat × List Nat} (h : FullB z) (ok : okM z) : (frM [] z.1).length = z.2.length := by
  refine Nat.le_antisymm ?_ ?_
  · exact nodup_le (frM_nodup _ _) fun m hm => by
      obtain ⟨h1, h2, _⟩ := (frM_mem _ _ _).mp hm
      exact ⟨h2, ok m h1⟩
  · have hn : ((List.range z.2.length).map (200 + ·)).Nodup := by
      refine List.Pairwise.map _ (fun a b h => ?_) List.nodup_range
      show 200 + a ≠ 200 + b
      omega
    have := len_sub _ (frM [] z.1) hn fun x hx => by
      obtain ⟨j, hj, rfl⟩ := List.mem_map.mp hx
      exact (frM_mem _ _ _).mpr ⟨h.mem j (List.mem_range.mp hj), by omega, by simp⟩
    rw [List.length_map, List.length_range] at this
    exact this
def dgM (f : Nat → Nat) (bs : List Nat) (m : Nat) : Nat := idxN (f m) (f (bs.getD (m - 200) 0))
def numD (b : Nat) (ds : List Nat) : Nat := ds.foldl (fun n d => n * b + d) 0
theorem numD_snoc (b : Nat) (ds : List Nat) (d : Nat) : numD b (ds ++ [d]) = numD b ds * b + d := by unfold numD; rw [List.foldl_append]; rfl
theorem rev_ind {P : List Nat → Prop} (h0 : P []) (h1 : ∀ l a, P l → P (l ++ [a])) (l : List Nat) : P l := by
  have : ∀ n (l : List Nat), l.length = n → P l := by
    intro n
    induction n with
    | zero => exact fun l e => by rw [List.eq_nil_of_length_eq_zero e]; exact h0
    | succ n ih =>
      intro l e
      rcases List.eq_nil_or_concat l with z | ⟨a, b, z⟩
      · rw [z] at e; cases e
      · rw [List.concat_eq_append] at z
        rw [z] at e ⊢
        rw [List.length_append, List.length_singleton] at e
        exact h1 a b (ih a (by omega))
  exact this _ l rfl
theorem digs_num (b : Nat) (hb : 0 < b) (ds : List Nat) : (∀ d ∈ ds, d < b) → digs (numD b ds) b ds.length = ds.reverse ∧ numD b ds < b ^ ds.length := by
  refine rev_ind (P := fun ds => (∀ d ∈ ds, d < b) → digs (numD b ds) b ds.length = ds.reverse ∧ numD b ds < b ^ ds.length) (fun _ => ⟨rfl, by show 0 < b ^ 0; simp⟩) (fun l a ih h => ?_) ds
  obtain ⟨i1, i2⟩ := ih fun d hd => h d (List.mem_append_left _ hd)
  have ha : a < b := h a (List.mem_append_right _ (List.mem_singleton.mpr rfl))
  have e1 : (numD b l * b + a) % b = a := by rw [Nat.mul_comm, Nat.mul_add_mod, Nat.mod_eq_of_lt ha]
  have e2 : (numD b l * b + a) / b = numD b l := by rw [Nat.mul_comm, Nat.mul_add_div hb, Nat.div_eq_of_lt ha]; rfl
  rw [numD_snoc, List.length_append, List.length_singleton, digs, e1, e2, i1, List.reverse_append]
  refine ⟨rfl, ?_⟩
  rw [Nat.pow_succ]
  have : (numD b l + 1) * b ≤ b ^ l.length * b := Nat.mul_le_mul_right _ i2
  rw [Nat.add_mul] at this
  omega
/-- the letters given out by the digits of f are f's -/
theorem asg_fold {f : Nat → Nat} {bs o : List Nat} (hf : ∀ c, c < 200 → f c = c) : ∀ (l seen : List Nat) (a : List (Nat × Nat)),
    (∀ m c, lookM a m = some c → c = f m) → (∀ m, 200 ≤ m → ((lookM a m).isSome = true ↔ m ∈ seen)) → (∀ m, m ∈ o → (lookM a m).isSome = true) → (∀ m ∈ seen, m < 200 → m ∈ o) →
    ordW bs seen l → letW o l → (∀ m ∈ l, 97 ≤ f m) → (∀ m ∈ seen, 97 ≤ f m) → (∀ m ∈ l, 200 ≤ m → f m ≠ f (bs.getD (m - 200) 0)) →
    ∀ m, (m ∈ l ∨ (lookM a m).isSome = true) → lookM (l.foldl (stepN bs) (a, ((frM seen l).map (dgM f bs)).reverse)).1 m = some (f m)
  | [], seen, a, hA, _, _, _, _, _, _, _, _, m, hm => by
    obtain ⟨c, hc⟩ := Option.isSome_iff_exists.mp (hm.resolve_left (by simp))
    rw [← hA m c hc]
    exact hc
  | x :: r, seen, a, hA, hS, hO, hso, hW, hL, h97, h97s, hB, m, hm => by
    have hLr : letW o r := fun y hy => hL y (List.mem_cons_of_mem _ hy)
    have h97r : ∀ y ∈ r, 97 ≤ f y := fun y hy => h97 y (List.mem_cons_of_mem _ hy)
    have h97x := h97 x List.mem_cons_self
    have h97s' : ∀ y ∈ x :: seen, 97 ≤ f y := fun y hy => by
      rcases List.mem_cons.mp hy with e | hy
      · rw [e]; exact h97x
      · exact h97s y hy
    have hBr : ∀ y ∈ r, 200 ≤ y → f y ≠ f (bs.getD (y - 200) 0) := fun y hy => hB y (List.mem_cons_of_mem _ hy)
    have hso' : ∀ y ∈ x :: seen, y < 200 → y ∈ o := fun y hy h2 => by
      rcases List.mem_cons.mp hy with e | hy
      · rw [e]; exact hL x List.mem_cons_self (by omega)
      · exact hso y hy h2
    rw [List.foldl_cons, frM]
    by_cases hx : 200 ≤ x ∧ x ∉ seen
    · -- a free letter, for the first time
      have hno : lookM a x = none := by
        cases e : lookM a x with
        | none => rfl
        | some c => exact absurd ((hS x hx.1).mp (by rw [e]; rfl)) hx.2
      obtain ⟨b, hb1, hb2⟩ := (hW.1 hx.1).resolve_left hx.2
      have hbs : bs.getD (x - 200) 0 = b := by simp [List.getD, hb1]
      have hbl : (lookM a b).isSome = true := by
        by_cases hb : b < 200
        · exact hO b (hso b hb2 hb)
        · exact (hS b (by omega)).mpr hb2
      obtain ⟨c, hc⟩ := Option.isSome_iff_exists.mp hbl
      have hcb := hA b c hc
      rw [if_pos hx, List.map_cons, List.reverse_cons]
      have hst : stepN bs (a, ((frM (x :: seen) r).map (dgM f bs)).reverse ++ [dgM f bs x]) x = (a ++ [(x, f x)], ((frM (x :: seen) r).map (dgM f bs)).reverse) := by
        unfold stepN
        rw [if_neg (by rw [hno]; decide)]
        have hne := hB x List.mem_cons_self hx.1
        rw [hbs] at hne
        have e1 : letAt (dgM f bs x) (f b) = f x := by
          unfold dgM
          rw [hbs]
          exact letAt_idx h97x (h97s b hb2) hne
        rw [List.getLastD_concat, List.dropLast_concat, hbs, hc]
        show (a ++ [(x, letAt (dgM f bs x) c)], _) = _
        rw [hcb, e1]
      rw [hst]
      have look : ∀ y, lookM (a ++ [(x, f x)]) y = (lookM a y).or (if x = y then some (f x) else none) := fun y => by rw [lookM_app, lookM_one]
      refine asg_fold hf r (x :: seen) (a ++ [(x, f x)]) (fun y c h => ?_) (fun y hy => ?_) (fun y hy => ?_) hso' hW.2 hLr h97r h97s' hBr m ?_
      · rw [look] at h
        cases e : lookM a y with
        | some c2 => rw [e] at h; cases h; exact hA y _ e
        | none =>
          rw [e] at h
          by_cases e2 : x = y
          · rw [if_pos e2] at h
            cases h
            rw [e2]
          · rw [if_neg e2] at h
            cases h
      · rw [look, List.mem_cons]
        by_cases e2 : x = y
        · rw [if_pos e2]
          exact ⟨fun _ => .inl e2.symm, fun _ => by cases lookM a y <;> rfl⟩
        · rw [if_neg e2, Option.or_none]
          exact ⟨fun z => .inr ((hS y hy).mp z), fun z => (hS y hy).mpr (z.resolve_left (fun w => e2 w.symm))⟩
      · rw [look]
        obtain ⟨c2, h2⟩ := Option.isSome_iff_exists.mp (hO y hy)
        rw [h2]
        rfl
      · rw [look]
        rcases hm with h | h
        · rcases List.mem_cons.mp h with e | h
          · refine .inr ?_
            rw [e, if_pos rfl]
            cases lookM a x <;> rfl
          · exact .inl h
        · refine .inr ?_
          obtain ⟨c2, h2⟩ := Option.isSome_iff_exists.mp h
          rw [h2]
          rfl
    · -- a mark that is known
      have hyes : (lookM a x).isSome = true := by
        by_cases h2 : 200 ≤ x
        · exact (hS x h2).mpr (Decidable.byContradiction fun z => hx ⟨h2, z⟩)
        · exact hO x (hL x List.mem_cons_self (by omega))
      rw [if_neg hx]
      have hst : stepN bs (a, ((frM (x :: seen) r).map (dgM f bs)).reverse) x = (a, ((frM (x :: seen) r).map (dgM f bs)).reverse) := by
        unfold stepN
        rw [if_pos hyes]
      rw [hst]
      refine asg_fold hf r (x :: seen) a hA (fun y hy => ?_) hO hso' hW.2 hLr h97r h97s' hBr m ?_
      · rw [hS y hy, List.mem_cons]
        refine ⟨fun z => .inr z, fun z => z.elim (fun e => ?_) id⟩
        rw [e]
        rw [e] at hy
        exact Decidable.byContradiction fun z => hx ⟨hy, z⟩
      · rcases hm with h | h
        · rcases List.mem_cons.mp h with e | h
          · exact .inr (by rw [e]; exact hyes)
          · exact .inl h
        · exact .inr h
/-- the number of the row that f gives -/
def numF (p o : List Nat) (k : Nat) (f : Nat → Nat) : Nat := numD (k - 1) ((frM [] (shapeOf p o).1).map (dgM f (shapeOf p o).2))
theorem nth_num {p o : List Nat} {k : Nat} {f : Nat → Nat} (hp : Pipe p) (ho : ∀ c ∈ o, 97 ≤ c ∧ c < 97 + k) (hk : 2 ≤ k ∧ k ≤ 26) (hf : ∀ c, c < 200 → f c = c) (hr : ∀ m ∈ (shapeOf p o).1, 97 ≤ f m ∧ f m < 97 + k) (ha : adjO (Dif f) none (shapeOf p o).1) :
    nthRow p o k (numF p o k f) = (shapeOf p o).1.map f ∧ numF p o k f < (k - 1) ^ (shapeOf p o).2.length := by
  have ho2 : ∀ c ∈ o, c < 200 := fun c hc => by have := ho c hc; omega
  have hq : ∀ q ∈ (runs p).reverse, q.1 = 84 ∨ q.1 = 83 := fun q hq => runs_heads hp q (List.mem_reverse.mp hq)
  have W : WfS o (shapeOf p o) := WfS.run ho2 _
  have ok : okM (shapeOf p o) := (Shp.run ho2 _ hq).ok
  have B : FullB (shapeOf p o) := FullB.run ho2 _ hq
  unfold nthRow numF rowN asgN
  generalize shapeOf p o = z at *
  have hl := frM_len B ok
  have bar : ∀ m ∈ z.1, 200 ≤ m → ∃ b, z.2[m - 200]? = some b ∧ b ∈ z.1 := fun m hm h2 => by
    obtain ⟨i, hi⟩ := List.mem_iff_getElem?.mp hm
    have hlt := ok m hm
    have hb : z.2[m - 200]? = some z.2[m - 200] := List.getElem?_eq_getElem (by omega)
    refine ⟨_, hb, ?_⟩
    -- where the mark stands for the first time its barred one is seen
    have first : ∀ (l seen : List Nat), ordW z.2 seen l → (∀ x ∈ seen, x ∈ z.1) → (∀ x ∈ l, x ∈ z.1) → m ∈ l → m ∉ seen → z.2[m - 200] ∈ z.1 := by
      intro l
      induction l with
      | nil => intro _ _ _ _ h; cases h
      | cons x r ih =>
        intro seen hw hs hl hm hn
        by_cases e : x = m
        · subst e
          obtain ⟨b, h1, h3⟩ := (hw.1 h2).resolve_left hn
          rw [hb] at h1
          cases h1
          exact hs _ h3
        · refine ih (x :: seen) hw.2 (fun y hy => ?_) (fun y hy => hl y (List.mem_cons_of_mem _ hy)) ((List.mem_cons.mp hm).resolve_left fun w => e w.symm) fun w => (List.mem_cons.mp w).elim (fun w => e w.symm) hn
          rcases List.mem_cons.mp hy with e | hy
          · rw [e]; exact hl x List.mem_cons_self
          · exact hs y hy
    exact first z.1 [] W.ord (fun _ h => by cases h) (fun _ h => h) hm (by simp)
  have dd : ∀ d ∈ (frM [] z.1).map (dgM f z.2), d < k - 1 := fun d hd => by
    obtain ⟨m, hm, rfl⟩ := List.mem_map.mp hd
    obtain ⟨h1, h2, _⟩ := (frM_mem _ _ _).mp hm
    obtain ⟨b, hb, hbz⟩ := bar m h1 h2
    have hbs : z.2.getD (m - 200) 0 = b := by simp [List.getD, hb]
    unfold dgM
    rw [hbs]
    refine idx_lt (hr m h1) (hr b hbz) ?_
    have := B.bar f ha (m - 200) b hb
    rw [show 200 + (m - 200) = m by omega] at this
    exact this
  obtain ⟨d1, d2⟩ := digs_num (k - 1) (by omega) _ dd
  rw [List.length_map, hl] at d1 d2
  refine ⟨?_, d2⟩
  rw [d1]
  refine List.map_congr_left fun m hm => ?_
  have key := asg_fold (f := f) (bs := z.2) (o := o) hf z.1 [] (initM o) (fun m c h => ?_) (fun m h2 => ?_) (initM_all o) (fun _ h => by cases h) W.ord W.let_ (fun y hy => (hr y hy).1) (fun _ h => by cases h) (fun y hy h2 => ?_) m (.inl hm)
  · rw [key]
    rfl
  · have := initM_diag o (m, c) (lookM_mem h)
    have h3 : m = c := this.1
    have h4 : m ∈ o := this.2
    rw [hf m (ho2 m h4)]
    exact h3.symm
  · refine ⟨fun z => ?_, fun z => by cases z⟩
    obtain ⟨c, hc⟩ := Option.isSome_iff_exists.mp z
    have := (initM_diag o (m, c) (lookM_mem hc)).2
    have := ho2 m this
    omega
  · obtain ⟨b, hb, _⟩ := bar y hy h2
    have hbs : z.2.getD (y - 200) 0 = b := by simp [List.getD, hb]
    rw [hbs]
    have := B.bar f ha (y - 200) b hb
    rw [show 200 + (y - 200) = y by omega] at this
    exact this
end Tw

set_option Elab.async false
set_option linter.all false
set_option maxRecDepth 100000
set_option maxHeartbeats 2000000
namespace Tw
open PySem PySem.Spec PyProof.Rows L2
/-! the text of a long pipeline, as k05, k07, k08 note it: pairs of a sieve and how many -/
def countS (n : Nat) : Str := if n = 1 then Str.ofString "" else toString ((n : Nat) : Int)
def wordS (q : Nat × Nat) : Str := mk [q.1] ++ countS q.2
def noteS (ws : List (Nat × Nat)) : Str := Txt.join (Str.ofString " ") (ws.map wordS)
/-- sieves by turns, each 1 to m times -/
def AltW (m : Nat) (ws : List (Nat × Nat)) : Prop := (∀ q ∈ ws, (q.1 = 84 ∨ q.1 = 83) ∧ 1 ≤ q.2 ∧ q.2 ≤ m) ∧ ∀ (i : Nat) (a b : Nat × Nat), ws[i]? = some a → ws[i + 1]? = some b → a.1 ≠ b.1
def flatW (ws : List (Nat × Nat)) : List Nat := ws.flatMap fun q => List.replicate q.2 q.1
theorem flatW_len {m : Nat} : ∀ {ws : List (Nat × Nat)}, (∀ q ∈ ws, q.2 ≤ m) → (flatW ws).length ≤ ws.length * m
  | [], _ => Nat.zero_le _
  | q :: r, h => by
    have h1 := h q List.mem_cons_self
    have h2 := flatW_len (ws := r) fun z hz => h z (List.mem_cons_of_mem _ hz)
    show (List.replicate q.2 q.1 ++ flatW r).length ≤ _
    rw [List.length_append, List.length_replicate, List.length_cons, Nat.succ_mul]
    omega
theorem flatW_pipe {m : Nat} {ws : List (Nat × Nat)} (h : AltW m ws) : Pipe (flatW ws) := fun c hc => by
  obtain ⟨q, hq, hc⟩ := List.mem_flatMap.mp hc
  rw [(List.mem_replicate.mp hc).2]
  exact (h.1 q hq).1
def spLNoted : Sp := fun vs H Q _ => ∃ (r g : Addr) (m : Nat) (c : Int), vs = [.ref r, .int (m : Nat)] ∧ (1 ≤ m ∧ m ≤ 1000) ∧ Src r g c H ∧ c < 500000 ∧
  ∀ H' L ws, SameBG r g H H' → H L = none → L ≠ r → L ≠ g → Src r g (c + 10) H' → H' L = some (.lst [.str (noteS ws), .str (mk (flatW ws))]) → AltW m ws → (1 ≤ ws.length ∧ ws.length ≤ 8) → Q (.ref L) H'
theorem mk_nil_app (s : Str) : s ++ Str.ofString "" = s := by
  rw [empty_eq, ← mk_tl s, mk_app, List.append_nil]
end Tw
namespace Tw
open PySem PySem.Spec PyProof.Rows L2
def kindAt (t j : Nat) : Nat := if (t + j) % 2 = 0 then 84 else 83
theorem kindAt_ne (t j : Nat) : kindAt t j ≠ kindAt t (j + 1) := by
  unfold kindAt
  by_cases h : (t + j) % 2 = 0
  · rw [if_pos h, if_neg (by omega)]; decide
  · rw [if_neg h, if_pos (by omega)]; decide
theorem kindAt_lit (t j : Nat) : atI (Str.ofString "TS").cps.toList (((t : Int) + (0 + (j : Int))) % 2) = some (kindAt t j) := by
  have e : (Str.ofString "TS").cps.toList = [84, 83] := by decide +kernel
  have e2 : ((t : Int) + (0 + (j : Int))) % 2 = (((t + j) % 2 : Nat) : Int) := by omega
  rw [e, e2]
  unfold kindAt
  by_cases h : (t + j) % 2 = 0
  · rw [if_pos h, h]; exact atI_nat rfl
  · rw [if_neg h, show (t + j) % 2 = 1 by omega]; exact atI_nat rfl
theorem reps_one (n x : Nat) : reps n [x] = List.replicate n x := by unfold reps; simp
theorem countS_len {n : Nat} (h : n ≤ 1000) : (countS n).length ≤ 1921 := by
  unfold countS
  split
  · rw [empty_eq, mk_len]; exact Nat.zero_le _
  · exact int_text_len_1921 (i := ((n : Nat) : Int)) (by have := log2_le_of (i := ((n : Nat) : Int)) (n := 64) (by omega) (by omega); omega)
theorem wordS_len {q : Nat × Nat} (h : q.2 ≤ 1000) : (wordS q).length ≤ 1922 := by
  have := countS_len h
  have e : (wordS q).length = (mk [q.1]).length + (countS q.2).length := by
    unfold wordS
    rw [← mk_tl (countS q.2), mk_app, mk_len, mk_len, mk_len, List.length_append]
  rw [e, mk_len]
  show 1 + _ ≤ _
  omega
end Tw
namespace Tw
open PySem PySem.Spec PyProof.Rows L2
theorem words_sum : ∀ {ws : List (Nat × Nat)}, (∀ q ∈ ws, q.2 ≤ 1000) → ((ws.map wordS).map (·.length)).sum ≤ ws.length * 1922
  | [], _ => Nat.le_refl _
  | q :: r, h => by
    have h1 := wordS_len (h q List.mem_cons_self)
    have h2 := words_sum (ws := r) fun z hz => h z (List.mem_cons_of_mem _ hz)
    rw [List.map_cons, List.map_cons, List.sum_cons, List.length_cons, Nat.succ_mul]
    omega
theorem space_len : (Str.ofString " ").length = 1 := by rw [space_eq, mk_len]; rfl
end Tw
namespace Tw
open PySem PySem.Spec PyProof.Rows L2
def spLeast0 : Sp := fun vs H Q _ => ∃ p l : List Nat, vs = [.str (mk p), .str (mk l)] ∧ (Pipe p ∧ Low l) ∧ p.length ≤ 1000 ∧ l.length ≤ 1000 ∧
  ∀ H' r, Same H H' → H r = none → H' r = some (.tup [V.int ((growS p (sizeS l)).1 : Nat), V.int ((growS p (sizeS l)).2 : Nat)]) → Q (.ref r) H'
def spSieve0 : Sp := fun vs H Q _ => ∃ l p : List Nat, vs = [.str (mk l), .str (mk p)] ∧ (Low l ∧ Pipe p) ∧ l.length ≤ 1000 ∧ ∀ H', Same H H' → Q (.str (mk (sv l p))) H'
def spRead0 : Sp := fun vs H Q _ => ∃ (m : Nat) (ws : List (Nat × Nat)), vs = [.str (noteS ws)] ∧ AltW m ws ∧ m ≤ 100 ∧ (1 ≤ ws.length ∧ ws.length ≤ 8) ∧ ∀ H', Same H H' → Q (.str (mk (flatW ws))) H'
def spTrue (K : PySem.W.Frag) : Sp := fun vs H Q _ => ∃ (a : Addr) (ns : List Int), vs = [.ref a] ∧ SqL K H a (ns.map V.int) ∧ ns.length ≤ 63 ∧ ∀ H', Q (.bl true) H'
/-- how many pairs: places where a letter is that before it -/
def cntP : List Nat → Nat
  | a :: b :: r => (if a = b then 1 else 0) + cntP (b :: r)
  | _ => 0
end Tw

set_option Elab.async false
set_option linter.all false
set_option maxRecDepth 100000
set_option maxHeartbeats 2000000
namespace Tw
open PySem PySem.Spec PyProof.Rows L2
theorem upInt (R : Hp → V → V → Prop) (H : Hp) (i : Int) : UpR R H (.int i) (.int i) := .inr (.inr (.inl ⟨i, rfl, rfl⟩))
theorem upTwo {R : Hp → V → V → Prop} {H : Hp} {a b : Addr} {x y : Int} (ha : H a = some (.tup [V.int x, V.int y])) (hb : H b = some (.tup [V.int x, V.int y])) : UpR (UpR R) H (.ref a) (.ref b) := by
  refine .inr (.inr (.inr (.inr (.inr ⟨a, b, _, _, rfl, rfl, ha, hb, rfl, (by show 2 ≤ 1000; decide), fun i u v hu hv => ?_⟩))))
  rw [hu] at hv
  cases hv
  have hm := List.mem_of_getElem? hu
  simp only [List.mem_cons, List.not_mem_nil, or_false] at hm
  rcases hm with e | e
  · rw [e]; exact upInt _ _ _
  · rw [e]; exact upInt _ _ _
theorem two_sh (x y : Int) : SeqAt.shaped (.tuple [.int x, .int y]) = true ∧ PyData.eqv (.tuple [.int x, .int y]) (.tuple [.int x, .int y]) = true := by
  constructor
  · simp [SeqAt.shaped, PyData.canLay0, PyData.canLayAll0, PyData.depth, PyData.depthAll]
  · simp [PyData.eqv, PyData.eqvAll]
theorem pairsR_app (l : List Nat) (a b : Nat) : pairsR (l ++ [a, b]) = pairsR (l ++ [a]) + (if a = b then 1 else 0) := by
  induction l with
  | nil => simp [pairsR]
  | cons c r ih =>
    cases r with
    | nil => simp only [List.nil_append, List.cons_append, pairsR] at ih ⊢; omega
    | cons d s => simp only [List.cons_append, pairsR] at ih ⊢; omega
theorem pairs_rev (l : List Nat) : pairs l.reverse = pairs l := by
  rw [pairs_R, pairs_R]
  induction l with
  | nil => rfl
  | cons a r ih =>
    cases r with
    | nil => rfl
    | cons b s =>
      rw [List.reverse_cons, List.reverse_cons, List.append_assoc]
      show pairsR (s.reverse ++ [b, a]) = _
      rw [pairsR_app, ← List.reverse_cons, ih]
      show _ = (if a = b then 1 else 0) + pairsR (b :: s)
      by_cases h : a = b
      · rw [if_pos h, if_pos h.symm]; omega
      · rw [if_neg h, if_neg (Ne.symm h)]; omega
theorem sizeS_rev (l : List Nat) : sizeS l.reverse = sizeS l := by unfold sizeS; rw [List.length_reverse, pairs_rev]
theorem Low.rev {l : List Nat} (h : Low l) : Low l.reverse := fun c hc => h c (List.mem_reverse.mp hc)
end Tw
namespace Tw
open PySem PySem.Spec PyProof.Rows L2
theorem S_eq : (Str.ofString "S") = mk [83] := by decide +kernel
theorem T_eq : (Str.ofString "T") = mk [84] := by decide +kernel
theorem three_at {v : Int} (h0 : 0 ≤ v) (h1 : v < 3) : ∃ q : List Nat, Pipe q ∧ atI [V.str (Str.ofString ""), V.str (Str.ofString "S"), V.str (Str.ofString "T")] v = some (V.str (mk q)) := by
  obtain ⟨w, rfl⟩ := Int.eq_ofNat_of_zero_le h0
  have hw : w = 0 ∨ w = 1 ∨ w = 2 := by omega
  rw [empty_eq, S_eq, T_eq]
  rcases hw with e | e | e <;> subst e
  · exact ⟨[], fun c hc => (by cases hc), atI_nat rfl⟩
  · exact ⟨[83], fun c hc => .inr (List.mem_singleton.mp hc), atI_nat rfl⟩
  · exact ⟨[84], fun c hc => .inl (List.mem_singleton.mp hc), atI_nat rfl⟩
theorem sv_lowL {l p : List Nat} (h : Low l) : Low (sv l p) := fun c hc => h c (sv_mem hc)
end Tw

set_option Elab.async false
set_option linter.all false
set_option maxRecDepth 100000
set_option maxHeartbeats 2000000
namespace Tw
open PySem PySem.Spec PyProof.Rows L2
/-! zip(list, text): the list at a holds xs at each turn -/
def itLS (xs : List V) (x : Str) : Nat → List V := fun i => [xs.getD i .non, sgn x i]
def ItLS (K : PySem.W.Frag) (a : Addr) (xs : List V) (x : Str) : It :=
  ⟨fun i H => SqL K H a xs ∧ i < min xs.length x.cps.size,
   fun i H v H' => ∃ T : Addr, v = V.ref T ∧ H T = none ∧ H' = upd H T (HO.tup (itLS xs x i)),
   fun i H => SqL K H a xs ∧ min xs.length x.cps.size ≤ i⟩
theorem turn_zipLS {P : Program} {w : World} {K : PySem.W.Frag} {elts : List Expr} {kk : Nat} {tpos : Pos} {z TI TO i1 i2 a : Addr} {xs : List V} {x : Str} {t : Tok}
    (S : ZipSep2 z TI TO i1 i2 [i1, a] [i2]) (hne : a ≠ i1) :
    Turn P w K (Expr.Tuple elts kk tpos) (ItLS K a xs x) [z, TI, TO, i1, i2] z (fun i h => i ≤ min xs.length x.cps.size ∧ IsZip h z TI TO .none ∧ IsTupOf2 h TI (.ref i1) (.ref i2) ∧ (∃ a1 a2, IsTupOf2 h TO a1 a2) ∧ h.IsListIter i1 a i ∧ h.IsStrIter i2 (strIterType x) x t i) where
  mem := by simp
  obj := by
    rintro i h ⟨_, ez, eI, ⟨a1, a2, eO⟩, ⟨o1, e1, _, d1⟩, ⟨o2, e2, _, d2⟩⟩ b hb
    have hb' : b = z ∨ b = TI ∨ b = TO ∨ b = i1 ∨ b = i2 := by simpa using hb
    rcases hb' with q | q | q | q | q
    · rw [q]; exact ⟨_, ez, fun v q => nomatch q⟩
    · rw [q]; exact ⟨_, eI, fun v q => nomatch q⟩
    · rw [q]; exact ⟨_, eO, fun v q => nomatch q⟩
    · rw [q]; exact ⟨o1, e1, fun v q => by rw [d1] at q; cases q⟩
    · rw [q]; exact ⟨o2, e2, fun v q => by rw [d2] at q; cases q⟩
  keep := by
    rintro i h h' ⟨hi, ez, eI, ⟨a1, a2, eO⟩, ⟨o1, e1, r1⟩, ⟨o2, e2, r2⟩⟩ k
    exact ⟨hi, k z (by simp) _ ez, k TI (by simp) _ eI, ⟨a1, a2, k TO (by simp) _ eO⟩, ⟨o1, k i1 (by simp) _ e1, r1⟩, ⟨o2, k i2 (by simp) _ e2, r2⟩⟩
  item := by
    intro X hP hw hK hc i pins s σ H E I hf st hg
    subst hP; subst hw; subst hK
    obtain ⟨hq, hi⟩ := hg
    obtain ⟨_, ez, eI, eO, s1, s2⟩ := st
    obtain ⟨its, rv, pl, _⟩ := I.list hq
    have hA := I.ok.hd hc
    have W0 := WalksT.zipD2 (A := X.A) (prog := X.prog) (w := X.w) S (Draws.list (A := X.A.in1) hA i1 a hne its.toArray) (drawsS (A := X.A.in1) hA i2 x t)
    have lx : its.toArray.size = xs.length := by rw [List.size_toArray, rv.length]
    have hi2 : i < min its.toArray.size x.cps.size := by rw [lx]; exact hi
    refine W0.item i s _ E hi2 ⟨ez, eI, eO, ⟨s1, pl.isList⟩, s2⟩ fun T vals h' tk hv hT tup mid kp => ?_
    obtain ⟨v1, v2, hv1, ⟨c, u, hc2, rfl⟩, rfl⟩ := hv
    have il : i < xs.length := by omega
    obtain ⟨u1, hu1, ru1⟩ := rv.get (List.getElem?_eq_getElem il)
    have hv1 : its.toArray[i]? = some v1 := hv1
    have e1 : u1 = v1 := by
      have : its[i]? = some v1 := by simpa using hv1
      rw [this] at hu1
      exact (Option.some.inj hu1).symm
    have rel : Vals (itLS xs x i) [v1, .str ⟨#[c]⟩ u] := by
      unfold itLS
      have : xs.getD i .non = xs[i] := by simp [List.getD, il]
      rw [this, ← e1]
      exact .cons ru1 (.cons (sgn_rel hc2) .nil)
    refine ⟨_, rfl, W0.go elts kk tpos i T { s with heap := h', toks := tk } _ E mid fun h2 st2 kp2 => ?_⟩
    have sub : ∀ b ∈ [z, TO, i1, i2], b ∈ [z, TI, TO, i1, i2] := fun b hb => by simp at hb; rcases hb with q | q | q | q <;> simp [q]
    have nw : T ∉ [z, TO, i1, i2] := W0.apart i T h' mid
    have tup2 : h2.IsTuple T #[v1, .str ⟨#[c]⟩ u] := by
      obtain ⟨o, ho, r⟩ := tup
      exact ⟨o, kp2 T o nw ho, r⟩
    have new : ObjOk X.prog X.w (upd H T (HO.tup (itLS xs x i))) h2 T (HO.tup (itLS xs x i)) := ⟨by show 2 ≤ sizeLine; decide, _, rel, tup2⟩
    have I1 : Inv X pins σ (upd H T (HO.tup (itLS xs x i))) { s with heap := h2, toks := tk } :=
      I.turnedNew (ch := [z, TO, i1, i2]) (fun b o hb e => kp2 b o hb (kp b o hb e)) (fun b hb => hf b (sub b hb)) hT new
    obtain ⟨f1, f2, f3, ⟨f4, _⟩, f5⟩ := st2
    refine ⟨V.ref T, _, I1, rfl, ⟨T, rfl, I.hok.fresh hT, rfl⟩, ⟨hi, f1, f2, f3, f4, f5⟩, fun b hb => ?_⟩
    have lt : b < s.heap.objs.size := by
      obtain ⟨a1, a2, eO⟩ := eO
      obtain ⟨o1, g1, _⟩ := s1
      obtain ⟨o2, g2, _⟩ := s2
      have hb' : b = z ∨ b = TI ∨ b = TO ∨ b = i1 ∨ b = i2 := by simpa using hb
      rcases hb' with q | q | q | q | q
      · rw [q]; exact Heap.lt_size ez
      · rw [q]; exact Heap.lt_size eI
      · rw [q]; exact Heap.lt_size eO
      · rw [q]; exact Heap.lt_size g1
      · rw [q]; exact Heap.lt_size g2
    have ne : b ≠ T := fun e => by
      rw [e] at lt
      exact absurd (Nat.lt_of_lt_of_le lt hT) (Nat.lt_irrefl _)
    rw [upd_ne ne]
    exact (hf b hb).1
  done := by
    intro X hP hw hK hc i pins s σ H E I hf st hg
    subst hP; subst hw; subst hK
    obtain ⟨hq, hi⟩ := hg
    obtain ⟨hle, ez, eI, eO, s1, s2⟩ := st
    obtain ⟨its, rv, pl, _⟩ := I.list hq
    have hA := I.ok.hd hc
    have W0 := WalksT.zipD2 (A := X.A) (prog := X.prog) (w := X.w) S (Draws.list (A := X.A.in1) hA i1 a hne its.toArray) (drawsS (A := X.A.in1) hA i2 x t)
    have lx : its.toArray.size = xs.length := by rw [List.size_toArray, rv.length]
    have e : i = min its.toArray.size x.cps.size := by rw [lx]; omega
    have sub : ∀ b ∈ [z, TO, i1, i2], b ∈ [z, TI, TO, i1, i2] := fun b hb => by simp at hb; rcases hb with q | q | q | q <;> simp [q]
    rw [e] at s1 s2
    exact W0.done s _ E ⟨ez, eI, eO, ⟨s1, pl.isList⟩, s2⟩ fun h' tk kp => ⟨rfl, I.turnedL (ch := [z, TO, i1, i2]) kp fun b hb => hf b (sub b hb)⟩
  self := fun A i s Q E st q => wpAny_pyIter_zip st.2.1 q
def iZipLS (K : PySem.W.Frag) (ta : TA) : TI := fun σ H R => ta σ H fun vs H1 => ∃ a xs x, vs = [.ref a, .str x] ∧ SqL K H1 a xs ∧ R (ItLS K a xs x) H1
theorem pi_zipLS {X : Cx} {e e2 : Expr} {ta : TA} {p pos tpos : Pos} {elts : List Expr} {kk : Nat} (hg : Gl X "zip") (hm : X.mg "zip" = none) (ha : PA X [e, e2] ta)
    (hs : starEach [e, e2] X.env = (false, eval e X.env) :: starEach [e2] X.env := by rfl) (hpl : (backTo pos (starEach [e2] X.env)).any (·.1) = false := by rfl) :
    PI X (.Tuple elts kk tpos) (.Call (.Name "zip" p) [e, e2] [] pos) (iZipLS X.K ta) := by
  refine ⟨fun pins s σ H R I h => ?_⟩
  refine Call_ (ld_blt I hg hm boot_zip (callWith_type1 (thn (ha.run pos pins s σ H _ I h) fun us s1 hh => ?_) hs hpl))
  obtain ⟨vs, H1, I1, r1, a, xs, x, rfl, hq, q⟩ := hh
  cases r1 with
  | cons r rr =>
    cases rr with
    | cons r' rr =>
      cases rr
      cases r
      obtain ⟨t, rfl⟩ := r'
      obtain ⟨its, rv, pl, _⟩ := I1.list hq
      have la : a < s1.heap.objs.size := pl.lt
      refine zip_begins2 (begins_list a its.toArray) (beginsS x t) pl.isList trivial fun h' hz hTI hTO h1 h2 hsz hk => wpAny_pyIter_zip hz ?_
      have I2 : Inv X pins σ H1 { s1 with heap := h' } := I1.kept (t' := s1.toks) hk
      have S : ZipSep2 (s1.heap.objs.size + 4) (s1.heap.objs.size + 2) (s1.heap.objs.size + 3) s1.heap.objs.size (s1.heap.objs.size + 1) [s1.heap.objs.size, a] [s1.heap.objs.size + 1] :=
        zip_sep2 (fp1 := [a]) (fp2 := []) (fun b hb => by rw [List.mem_singleton.mp hb]; exact la) (by simp)
      refine ⟨s1.heap.objs.size + 4, _, _, _, H1, rfl, I2, turn_zipLS (xs := xs) (x := x) (t := t) S (Nat.ne_of_lt la), ⟨Nat.zero_le _, hz, hTI, ⟨_, _, hTO⟩, ⟨_, h1, rfl, rfl⟩, ⟨_, h2, rfl, rfl⟩⟩, ?_, q⟩
      intro b hb
      have hb' : b = s1.heap.objs.size + 4 ∨ b = s1.heap.objs.size + 2 ∨ b = s1.heap.objs.size + 3 ∨ b = s1.heap.objs.size ∨ b = s1.heap.objs.size + 1 := by simpa using hb
      have hle : s1.heap.objs.size ≤ b := by
        rcases hb' with z | z | z | z | z <;> rw [z] <;> first | exact Nat.le_refl _ | exact Nat.le_add_right _ _
      exact I1.fpOk hle (I1.hok.fresh hle)
theorem walk_zipLS {K : PySem.W.Frag} {a : Addr} {xs : List V} {x : Str} : Walk (ItLS K a xs x) (min xs.length x.cps.size) (fun H => SqL K H a xs) (fun i H v H' => ∃ T : Addr, v = V.ref T ∧ H T = none ∧ H' = upd H T (.tup (itLS xs x i))) :=
  ⟨fun _ _ h g => ⟨g, h⟩, fun _ g => ⟨g, Nat.le_refl _⟩, fun _ _ _ _ _ _ y => y⟩
end Tw

set_option Elab.async false
set_option linter.all false
set_option maxRecDepth 100000
set_option maxHeartbeats 2000000
namespace Tw
open PySem PySem.Spec PyProof.Rows L2
/-! shortest_number, count_shortest: promises -/
def spIdx : Sp := fun vs H Q _ => ∃ x c : Nat, vs = [.str (mk [x]), .str (mk [c])] ∧ (97 ≤ x ∧ x ≤ 122) ∧ (97 ≤ c ∧ c ≤ 122) ∧ x ≠ c ∧ Q (.int (idxN x c : Nat)) H
/-- the row is given: none if it is longer than the least rows for its output, else a number that leads back -/
def spNumX (C0 C1 C2 : Addr) : Sp := fun vs H Q E => ∃ (p r : List Nat) (k : Int), vs = [.str (mk p), .str (mk r), .int k] ∧ p.length ≤ 1000 ∧ r.length ≤ 1000 ∧
  (∀ i, bad okP p = some i → Rz C1 i H E) ∧ (bad okP p = none → ∀ i, bad okL r = some i → Rz C0 i H E) ∧
  (bad okP p = none → bad okL r = none → (k < 2 ∨ 26 < k → RzV C2 (.int k) H E) ∧ (2 ≤ k → k ≤ 26 → (∀ i, bad (okK k) r = some i → Rz C0 i H E) ∧ (bad (okK k) r = none →
    (r.length ≠ (growS p (sizeS (sv r p))).1 → ∀ H', Same H H' → Q .non H') ∧
    (r.length = (growS p (sizeS (sv r p))).1 → ∀ H' n, Same H H' → nthRow p (sv r p) k.toNat n = r → n < (k.toNat - 1) ^ (shapeOf p (sv r p)).2.length → Q (.int (n : Nat)) H'))))
def spCntX (C0 C1 C2 : Addr) : Sp := fun vs H Q E => ∃ (p o : List Nat) (k : Int), vs = [.str (mk p), .str (mk o), .int k] ∧ p.length ≤ 1000 ∧ o.length ≤ 1000 ∧ (bad okP p = none → bad okL o = none → (growS p (sizeS o)).1 ≤ 100000) ∧
  (∀ i, bad okP p = some i → Rz C1 i H E) ∧ (bad okP p = none → ∀ i, bad okL o = some i → Rz C0 i H E) ∧
  (bad okP p = none → bad okL o = none → (k < 2 ∨ 26 < k → RzV C2 (.int k) H E) ∧ (2 ≤ k → k ≤ 26 → (∀ i, bad (okK k) o = some i → Rz C0 i H E) ∧ (bad (okK k) o = none →
    ∀ H', Same H H' → Q (.int ((k - 1) ^ (shapeOf p o).2.length)) H')))
theorem idx_occ : ∀ j, j < 26 → Builtin.Str.occurrences (Str.ofString "abcdefghijklmnopqrstuvwxyz") (mk [j + 97]) 0 (Str.ofString "abcdefghijklmnopqrstuvwxyz").length 1 = [j] := by decide +kernel
theorem frM_snoc : ∀ (l seen : List Nat) (m : Nat), frM seen (l ++ [m]) = frM seen l ++ (if 200 ≤ m ∧ m ∉ seen ∧ m ∉ l then [m] else [])
  | [], seen, m => by
    rw [List.nil_append, frM, frM, frM]
    by_cases h : 200 ≤ m ∧ m ∉ seen
    · rw [if_pos h, if_pos ⟨h.1, h.2, by simp⟩]; rfl
    · rw [if_neg h, if_neg (fun z => h ⟨z.1, z.2.1⟩)]; rfl
  | x :: l, seen, m => by
    have e : (200 ≤ m ∧ m ∉ x :: seen ∧ m ∉ l) ↔ (200 ≤ m ∧ m ∉ seen ∧ m ∉ x :: l) := by
      simp only [List.mem_cons, not_or]
      exact ⟨fun ⟨a, ⟨b, c⟩, d⟩ => ⟨a, c, b, d⟩, fun ⟨a, c, b, d⟩ => ⟨a, ⟨b, c⟩, d⟩⟩
    rw [List.cons_append, frM, frM, frM_snoc l (x :: seen) m]
    simp only [e]
    split <;> rfl
/-- the letters that were seen, with f's letters -/
def addA (f : Nat → Nat) (a : List (Nat × Nat)) (m : Nat) : List (Nat × Nat) := if (lookM a m).isSome then a else a ++ [(m, f m)]
def seenA (f : Nat → Nat) (l : List Nat) : List (Nat × Nat) := l.foldl (addA f) []
theorem addA_diag {f : Nat → Nat} {a : List (Nat × Nat)} (hd : ∀ q ∈ a, q.2 = f q.1) (m : Nat) : ∀ q ∈ addA f a m, q.2 = f q.1 := by
  intro q hq
  unfold addA at hq
  split at hq
  · exact hd q hq
  · rcases List.mem_append.mp hq with h | h
    · exact hd q h
    · rw [List.mem_singleton.mp h]
theorem seenA_diag (f : Nat → Nat) (l : List Nat) : ∀ q ∈ seenA f l, q.2 = f q.1 := by
  have main : ∀ (l : List Nat) (a : List (Nat × Nat)), (∀ q ∈ a, q.2 = f q.1) → ∀ q ∈ l.foldl (addA f) a, q.2 = f q.1 := by
    intro l
    induction l with
    | nil => exact fun a h => h
    | cons m l ih => exact fun a h => ih _ (addA_diag h m)
  exact main l [] (fun _ h => by cases h)
theorem seenA_snoc (f : Nat → Nat) (l : List Nat) (m : Nat) : seenA f (l ++ [m]) = addA f (seenA f l) m := by unfold seenA; rw [List.foldl_append]; rfl
theorem seenA_look (f : Nat → Nat) (l : List Nat) (m : Nat) : lookM (seenA f l) m = if m ∈ l then some (f m) else none := by
  refine rev_ind (P := fun l => lookM (seenA f l) m = if m ∈ l then some (f m) else none) rfl (fun l x ih => ?_) l
  rw [seenA_snoc]
  unfold addA
  by_cases h : (lookM (seenA f l) x).isSome = true
  · rw [if_pos h, ih]
    by_cases e : x = m
    · subst e
      rw [ih] at h
      by_cases hm : x ∈ l
      · rw [if_pos hm, if_pos (List.mem_append_left _ hm)]
      · rw [if_neg hm] at h; cases h
    · have : m ∈ l ++ [x] ↔ m ∈ l := by
        rw [List.mem_append, List.mem_singleton]
        exact ⟨fun z => z.resolve_right fun w => e w.symm, .inl⟩
      simp only [this]
  · rw [if_neg h, lookM_app, lookM_one, ih]
    by_cases e : x = m
    · subst e
      have hm : x ∉ l := fun z => h (by rw [ih, if_pos z]; rfl)
      rw [if_neg hm, if_pos rfl, if_pos (List.mem_append_right _ (List.mem_singleton.mpr rfl))]
      rfl
    · rw [if_neg e, Option.or_none]
      have : m ∈ l ++ [x] ↔ m ∈ l := by
        rw [List.mem_append, List.mem_singleton]
        exact ⟨fun z => z.resolve_right fun w => e w.symm, .inl⟩
      simp only [this]
theorem seenA_len (f : Nat → Nat) (l : List Nat) : (seenA f l).length ≤ l.length := by
  refine rev_ind (P := fun l => (seenA f l).length ≤ l.length) (Nat.le_refl _) (fun l x ih => ?_) l
  rw [seenA_snoc, List.length_append]
  unfold addA
  split
  · exact Nat.le_trans ih (Nat.le_add_right _ _)
  · rw [List.length_append]; exact Nat.add_le_add_right ih _
theorem asgK_putF {f : Nat → Nat} {a : List (Nat × Nat)} (hd : ∀ q ∈ a, q.2 = f q.1) (m : Nat) : putK (asgK a) (mKy m) (.str (mk [f m])) = asgK (addA f a m) := by
  unfold addA
  by_cases h : (lookM a m).isSome = true
  · rw [if_pos h]
    unfold putK
    rw [valV_any, asgK_val, Option.isSome_map, if_pos h]
    unfold asgK
    rw [List.map_map]
    refine List.map_congr_left fun q hq => ?_
    show (if mKy q.1 = mKy m then (mKy q.1, V.str (mk [f m])) else (mKy q.1, V.str (mk [q.2]))) = (mKy q.1, V.str (mk [q.2]))
    by_cases e : q.1 = m
    · rw [if_pos (by rw [e]), hd q hq, e]
    · rw [if_neg (fun z => e (mKy_inj.mp z))]
  · rw [if_neg h]
    refine asgK_put ?_
    cases e : lookM a m with
    | none => rfl
    | some y => rw [e] at h; exact absurd rfl h
theorem asg_putF {H : Hp} {L : Addr} {f : Nat → Nat} {a : List (Nat × Nat)} (h : H L = some (.dK (asgK a))) (hd : ∀ q ∈ a, q.2 = f q.1) (hl : a.length ≤ 1000000) (m : Nat) : DPut H L (mV m) (.str (mk [f m])) (upd H L (.dK (asgK (addA f a m)))) := by
  have z := DPut.k (k := mKy m) (v := V.str (mk [f m])) h (by unfold asgK; rw [List.length_map]; exact line_of hl)
  rw [asgK_putF hd, kV_mKy] at z
  exact z
theorem barF_let : ∀ (bs : List Nat) (n m : Nat), m < 200 → valV (barF n bs) (mKy m) = none
  | [], _, _, _ => rfl
  | b :: bs, n, m, h => by
    have e : mKy m = .inr (mk [m]) := if_pos h
    rw [barF, valV_neg (fun z => by rw [e] at z; cases z)]
    exact barF_let bs (n + 1) m h
theorem bar_any {H : Hp} {d : Addr} {bs : List Nat} (h : H d = some (.dK (barK bs))) (m : Nat) : DGet H d (mV m) (if 200 ≤ m then (bs[m - 200]?).map mV else none) := by
  by_cases g : 200 ≤ m
  · rw [if_pos g]
    have := bar_get h (m - 200)
    rw [show 200 + (m - 200) = m by omega] at this
    exact this
  · rw [if_neg g]
    have z := DGet.k (k := mKy m) h
    rw [kV_mKy] at z
    rw [show valV (barK bs) (mKy m) = none from barF_let bs 0 m (by omega)] at z
    exact z
theorem low_bad0 {l : List Nat} (h : Low l) : bad okL l = none := bad_none.mpr fun c hc => by have := h c hc; unfold okL; simp; omega
theorem pipe_bad0 {p : List Nat} (h : Pipe p) : bad okP p = none := bad_none.mpr fun c hc => by have := h c hc; unfold okP; rcases this with e | e <;> rw [e] <;> rfl
/-- the same where nothing is raised -/
def spNum0 : Sp := fun vs H Q _ => ∃ (p r : List Nat) (k : Nat), vs = [.str (mk p), .str (mk r), .int (k : Nat)] ∧ p.length ≤ 1000 ∧ r.length ≤ 1000 ∧ Pipe p ∧ (2 ≤ k ∧ k ≤ 26) ∧ Kinds (k : Nat) r ∧
  (r.length ≠ (growS p (sizeS (sv r p))).1 → ∀ H', Same H H' → Q .non H') ∧
  (r.length = (growS p (sizeS (sv r p))).1 → ∀ H' n, Same H H' → nthRow p (sv r p) k n = r → n < (k - 1) ^ (shapeOf p (sv r p)).2.length → Q (.int (n : Nat)) H')
theorem kinds_ok {k : Nat} {l : List Nat} (h : Kinds (k : Nat) l) (hk : k ≤ 26) : bad okL l = none ∧ bad (okK (k : Nat)) l = none :=
  ⟨low_bad0 (h.low (by omega)), bad_none.mpr fun c hc => decide_eq_true (by have := h c hc; omega)⟩
theorem num0_of {C0 C1 C2 : Addr} : ∀ vs H Q E, spNum0 vs H Q E → spNumX C0 C1 C2 vs H Q (fun _ _ _ => False) := by
  rintro vs H Q E ⟨p, r, k, rfl, h1, h2, hp, hk, kr, q1, q2⟩
  obtain ⟨b1, b2⟩ := kinds_ok kr hk.2
  have bp := pipe_bad0 hp
  refine ⟨p, r, (k : Nat), rfl, h1, h2, fun i hi => (by rw [bp] at hi; cases hi), fun _ i hi => (by rw [b1] at hi; cases hi), fun _ _ => ⟨fun z => (by omega), fun _ _ => ⟨fun i hi => (by rw [b2] at hi; cases hi), fun _ => ⟨q1, fun e H' n sm hn hlt => ?_⟩⟩⟩⟩
  rw [Int.toNat_natCast] at hn hlt
  exact q2 e H' n sm hn hlt
def spCnt0 : Sp := fun vs H Q _ => ∃ (p o : List Nat) (k : Nat), vs = [.str (mk p), .str (mk o), .int (k : Nat)] ∧ p.length ≤ 1000 ∧ o.length ≤ 1000 ∧ (growS p (sizeS o)).1 ≤ 100000 ∧ Pipe p ∧ (2 ≤ k ∧ k ≤ 26) ∧ Kinds (k : Nat) o ∧
  ∀ H', Same H H' → Q (.int (((k - 1) ^ (shapeOf p o).2.length : Nat) : Int)) H'
theorem cnt0_of {C0 C1 C2 : Addr} : ∀ vs H Q E, spCnt0 vs H Q E → spCntX C0 C1 C2 vs H Q (fun _ _ _ => False) := by
  rintro vs H Q E ⟨p, o, k, rfl, h1, h2, hg, hp, hk, ko, q⟩
  obtain ⟨b1, b2⟩ := kinds_ok ko hk.2
  have bp := pipe_bad0 hp
  refine ⟨p, o, (k : Nat), rfl, h1, h2, fun _ _ => hg, fun i hi => (by rw [bp] at hi; cases hi), fun _ i hi => (by rw [b1] at hi; cases hi), fun _ _ => ⟨fun z => (by omega), fun _ _ => ⟨fun i hi => (by rw [b2] at hi; cases hi), fun _ H' sm => ?_⟩⟩⟩
  have e : (((k : Nat) : Int) - 1) ^ (shapeOf p o).2.length = (((k - 1) ^ (shapeOf p o).2.length : Nat) : Int) := by
    rw [show ((k : Nat) : Int) - 1 = ((k - 1 : Nat) : Int) by omega, Int.natCast_pow]
  rw [e]
  exact q H' sm
def spNthN : Sp := fun vs H Q _ => ∃ (p o : List Nat) (k n : Nat), vs = [.str (mk p), .str (mk o), .int (k : Nat), .int (n : Nat)] ∧ p.length ≤ 1000 ∧ o.length ≤ 1000 ∧ (growS p (sizeS o)).1 ≤ 100000 ∧ Pipe p ∧ (2 ≤ k ∧ k ≤ 26) ∧ Kinds (k : Nat) o ∧ n < (k - 1) ^ (shapeOf p o).2.length ∧
  ∀ H', Same H H' → Q (.str (mk (nthRow p o k n))) H'
theorem nthN_of {C0 C1 C2 : Addr} : ∀ vs H Q E, spNthN vs H Q E → spNthX C0 C1 C2 vs H Q (fun _ _ _ => False) := by
  rintro vs H Q E ⟨p, o, k, n, rfl, h1, h2, hg, hp, hk, ko, hn, q⟩
  obtain ⟨b1, b2⟩ := kinds_ok ko hk.2
  have bp := pipe_bad0 hp
  have e : (((k : Nat) : Int) - 1) ^ (shapeOf p o).2.length = (((k - 1) ^ (shapeOf p o).2.length : Nat) : Int) := by
    rw [show ((k : Nat) : Int) - 1 = ((k - 1 : Nat) : Int) by omega, Int.natCast_pow]
  refine ⟨p, o, (k : Nat), (n : Nat), rfl, h1, h2, fun _ _ => hg, fun i hi => (by rw [bp] at hi; cases hi), fun _ i hi => (by rw [b1] at hi; cases hi), fun _ _ => ⟨fun z => (by omega), fun _ _ => ⟨fun i hi => (by rw [b2] at hi; cases hi), fun _ => ⟨fun z => ?_, fun _ _ H' sm => q H' sm⟩⟩⟩⟩
  rw [e] at z
  omega
/-- the row with a number: its letters, its size, its output -/
theorem digs_24 {n k c : Nat} (hk : 2 ≤ k ∧ k ≤ 26) : ∀ d ∈ digs n (k - 1) c, d ≤ 24 := fun d hd => by have := digs_le c n (k - 1) (by omega) d hd; omega
theorem nth_good {p o : List Nat} {k n : Nat} (hp : Pipe p) (ho : Low o) (hk : 2 ≤ k ∧ k ≤ 26) : NthOk p o (nthRow p o k n) := nth_ok hp ho (digs_len _ _ _) (digs_24 hk)
theorem step_top {bs : List Nat} {k : Nat} (hk : 2 ≤ k) : ∀ (l : List Nat) (a : List (Nat × Nat)) (ds : List Nat), (∀ q ∈ a, q.2 < 97 + k) → (∀ d ∈ ds, d < k - 1) → ∀ q ∈ (l.foldl (stepN bs) (a, ds)).1, q.2 < 97 + k
  | [], _, _, h, _ => h
  | m :: l, a, ds, h, hd => by
    rw [List.foldl_cons]
    unfold stepN
    by_cases e : (lookM a m).isSome = true
    · rw [if_pos e]
      exact step_top hk l a ds h hd
    · rw [if_neg e]
      refine step_top hk l _ _ (fun q hq => ?_) (fun d hd2 => hd d ((List.dropLast_sublist ds).subset hd2))
      rcases List.mem_append.mp hq with hq | hq
      · exact h q hq
      · rw [List.mem_singleton.mp hq]
        have d1 : ds.getLastD 0 < k - 1 := by
          rcases List.eq_nil_or_concat ds with z | ⟨x, y, z⟩
          · rw [z]; show 0 < k - 1; omega
          · rw [List.concat_eq_append] at z
            rw [z, List.getLastD_concat]
            exact hd y (by rw [z]; simp)
        show letAt (ds.getLastD 0) ((lookM a (bs.getD (m - 200) 0)).getD 0) < 97 + k
        have c1 : (lookM a (bs.getD (m - 200) 0)).getD 0 < 97 + k := by
          cases e2 : lookM a (bs.getD (m - 200) 0) with
          | none => show 0 < 97 + k; omega
          | some c => exact h _ (lookM_mem e2)
        unfold letAt
        split <;> omega
theorem nth_kinds {p o : List Nat} {k n : Nat} (hp : Pipe p) (hk : 2 ≤ k ∧ k ≤ 26) (ho : Kinds (k : Nat) o) : Kinds (k : Nat) (nthRow p o k n) := fun c hc => by
  have low := (nth_good (n := n) hp (ho.low (by omega)) hk).low c hc
  refine ⟨low.1, ?_⟩
  unfold nthRow rowN at hc
  obtain ⟨m, hm, rfl⟩ := List.mem_map.mp hc
  have top := step_top (bs := (shapeOf p o).2) hk.1 (shapeOf p o).1 (initM o) (digs n (k - 1) (shapeOf p o).2.length) (fun q hq => by
    have := initM_diag o q hq
    have h2 := ho q.1 this.2
    rw [← this.1]
    omega) (digs_le _ _ _ (by omega))
  cases e : lookM (asgN (shapeOf p o) o (digs n (k - 1) (shapeOf p o).2.length)).1 m with
  | none => show ((0 : Nat) : Int) < 97 + (k : Nat); omega
  | some x =>
    have := top (m, x) (lookM_mem e)
    have : x < 97 + k := this
    show ((x : Nat) : Int) < 97 + (k : Nat)
    omega
end Tw

set_option Elab.async false
set_option linter.all false
set_option maxRecDepth 100000
set_option maxHeartbeats 2000000
namespace Tw
open PySem PySem.Spec PyProof.Rows L2
abbrev s_index_of : Stmt := topS 26
abbrev s_count_shortest : Stmt := topS 28
section
variable {P : Program} {w : World} {K : PySem.W.Frag} {mg : Str → Option Value} {base : Heap}
theorem sc_index_of : FnScope ["letter", "barred_letter"] ["letter", "barred_letter"] (defScope s_index_of) := ⟨rfl, rfl, rfl, by decide +kernel, rfl, by decide +kernel, by decide +kernel⟩
theorem sc_count_shortest : FnScope ["pipeline", "output", "kinds", "barred"] ["pipeline", "output", "kinds"] (defScope s_count_shortest) := ⟨rfl, rfl, rfl, by decide +kernel, rfl, by decide +kernel, by decide +kernel⟩
theorem ok_idx {f : Addr} {fd : FuncData} {k : Nat} {tL : Tok} (F : Fun K "index_of" "index_of" s_index_of f fd) (gL : mg "LETTERS" = some (.str (Str.ofString "abcdefghijklmnopqrstuvwxyz") tL)) : FnOk P w K mg base CX0 (k + 1) f fd ["letter", "barred_letter"] spIdx := by
  refine F.ok sc_index_of (fun vs H Q E h => ?_) (fun cdv A outer s H vs Q E hr h => ?_)
  · obtain ⟨x, c, rfl, _⟩ := h
    rfl
  · obtain ⟨x, c, rfl, hx, hc, ne, q⟩ := h
    refine ⟨_, (pss_cons (ps_if (pt_cmpR op_lt_str (pv 0) (pv 1) (nomark _)) (pss_one (ps_ret (pe_bm PySem.F.plainAttrs_str PySem.F.slot_str_index PySem.F.type_str_index mt_sindex (pe_glob (v := .str (Str.ofString "abcdefghijklmnopqrstuvwxyz")) rfl gL ⟨tL, rfl⟩) (pa_cons (pv 0) pa_nil)))) pss_nil)
 (pss_one (ps_ret (pe_op op_sub (pe_bm PySem.F.plainAttrs_str PySem.F.slot_str_index PySem.F.type_str_index mt_sindex (pe_glob (v := .str (Str.ofString "abcdefghijklmnopqrstuvwxyz")) rfl gL ⟨tL, rfl⟩) (pa_cons (pv 0) pa_nil)) pe_int)))), ?_⟩
    have e : decide ((mk [x]).cps.toList < (mk [c]).cps.toList) = decide (x < c) := by
      refine decide_eq_decide.mpr ?_
      show ([x] : List Nat) < [c] ↔ _
      rw [single_lt]
    have oc : Builtin.Str.occurrences (Str.ofString "abcdefghijklmnopqrstuvwxyz") (mk [x]) 0 (Str.ofString "abcdefghijklmnopqrstuvwxyz").length 1 = [x - 97] := by
      have := idx_occ (x - 97) (by omega)
      rw [show x - 97 + 97 = x by omega] at this
      exact this
    refine ⟨_, rfl, _, rfl, _, _, rfl, rfl, _, rfl, ?_⟩
    rw [e]
    unfold idxN at q
    refine ite2 (fun h => ?_) (fun h => ?_)
    · have h := of_decide_eq_true h
      rw [if_pos h] at q
      exact ⟨by trivial, _, rfl, _, _, _, _, rfl, rfl, oc, q⟩
    · have h : ¬ x < c := fun z => h (decide_eq_true z)
      rw [if_neg h] at q
      refine ⟨by trivial, _, rfl, _, _, _, _, rfl, rfl, oc, _, _, rfl, rfl, ?_⟩
      have e2 : ((x - 97 : Nat) : Int) - 1 = ((x - 98 : Nat) : Int) := by omega
      show Q (V.int (((x - 97 : Nat) : Int) - 1)) H
      rw [e2]
      exact q
theorem ok_cntsh {C0 C1 C2 i0 i1 i2 : Addr} (T0 : TwX.ETxt K C0 i0) (T1 : TwX.ETxt K C1 i1) (T2 : TwX.ETxt K C2 i2) (g0 : mg "InvalidRow" = some (.ref C0)) (g1 : mg "InvalidPipeline" = some (.ref C1)) (g2 : mg "InvalidNumber" = some (.ref C2)) {f fC fD fK fA fT fS fR fO fF : Addr} {fd fdC fdD fdK fdA fdT fdS fdR fdO fdF : FuncData} {k : Nat} (F : Fun K "count_shortest" "count_shortest" s_count_shortest f fd)
    (Dcheck_row : Dfn K mg "check_row" sChkRow ["row"] fC fdC) (Dcheck_pipeline : Dfn K mg "check_pipeline" sChkPipe ["pipeline"] fD fdD) (Dcheck_kinds : Dfn K mg "check_kinds" s_check_kinds ["kinds", "row"] fK fdK) (Dadd_free : Dfn K mg "add_free" s_add_free ["barred", "mark"] fA fdA) (Dshape_before_t : Dfn K mg "shape_before_t" s_shape_before_t ["shape", "barred"] fT fdT)
    (Dshape_before_s : Dfn K mg "shape_before_s" s_shape_before_s ["shape", "count", "barred"] fS fdS) (Druns_of : Dfn K mg "runs_of" sRuns ["row"] fR fdR) (Dshape_of : Dfn K mg "shape_of" s_shape_of ["pipeline", "output"] fO fdO) (Dcount_free : Dfn K mg "count_free" s_count_free ["barred", "kinds"] fF fdF)
    (m_len : mg "len" = none) (m_enumerate : mg "enumerate" = none) (m_range : mg "range" = none) (m_list : mg "list" = none) (m_reversed : mg "reversed" = none) (m_ord : mg "ord" = none) : FnOk P w K mg base (L2.CX P w) (k + 4) f fd ["pipeline", "output", "kinds"] (spCntX C0 C1 C2) := by
  have Gcheck_pipeline : FnOk P w K mg base (L2.CX P w) (k + 3) fD fdD ["pipeline"] (spChkPipeX C1) := ok_chkPipeX (k := k + 1) Dcheck_pipeline.F T1 g1 m_enumerate
  have Gcheck_row : FnOk P w K mg base (L2.CX P w) (k + 3) fC fdC ["row"] (spChkRowX C0) := ok_chkRowX (k := k + 1) Dcheck_row.F T0 g0 m_enumerate
  have Gcheck_kinds : FnOk P w K mg base (L2.CX P w) (k + 3) fK fdK ["kinds", "row"] (spKinds C0 C2) := ok_kinds (k := k + 1) Dcheck_kinds.F T0 g0 T2 g2 m_enumerate m_ord
  have Gshape_of : FnOk P w K mg base CX0 (k + 3) fO fdO ["pipeline", "output"] spShOf := ok_shOf Dshape_of.F Dadd_free Dshape_before_t Dshape_before_s Druns_of m_len m_enumerate m_range m_list m_reversed
  have Gcount_free : FnOk P w K mg base CX0 (k + 3) fF fdF ["barred", "kinds"] spCntFree := ok_cntFree (k := k + 2) Dcount_free.F
  refine F.okX sc_count_shortest (fun vs H Q E h => ?_) (fun cdv A outer s H vs Q E hr h => ?_)
  · obtain ⟨p, o, kk, rfl, _⟩ := h
    rfl
  · obtain ⟨p, o, kk, rfl, hpl, hol, hg, q1, q0, qr⟩ := h
    refine ⟨_, (pss_cons (ps_expr (pe_call (E := E) Gcheck_pipeline hr rfl Dcheck_pipeline.g Dcheck_pipeline.F.kp Dcheck_pipeline.b .nil (passes_call (takes_of rfl rfl rfl rfl) (fun _ _ _ _ h => h)) (pa_cons (pv 0) pa_nil)))
 (pss_cons (ps_expr (pe_call (E := E) Gcheck_row hr rfl Dcheck_row.g Dcheck_row.F.kp Dcheck_row.b .nil (passes_call (takes_of rfl rfl rfl rfl) (fun _ _ _ _ h => h)) (pa_cons (pv 1) pa_nil)))
 (pss_cons (ps_expr (pe_call (E := E) Gcheck_kinds hr rfl Dcheck_kinds.g Dcheck_kinds.F.kp Dcheck_kinds.b .nil (passes_call (takes_of rfl rfl rfl rfl) (fun _ _ _ _ h => h)) (pa_cons (pv 2) (pa_cons (pv 1) pa_nil))))
 (pss_cons (ps_set (i := 3) sc_count_shortest.nd rfl (.inl rfl) (pe_ix ix_tup (pe_call Gshape_of hr rfl Dshape_of.g Dshape_of.F.kp Dshape_of.b .nil pass0 (pa_cons (pv 0) (pa_cons (pv 1) pa_nil))) pe_int (fun _ _ => rfl)))
 (pss_one (ps_ret (pe_call Gcount_free hr rfl Dcount_free.g Dcount_free.F.kp Dcount_free.b .nil pass0 (pa_cons (pv 3) (pa_cons (pv 2) pa_nil))))))))), ?_⟩
    refine ⟨_, rfl, p, rfl, fun hbp H1 sm1 => ?_, q1⟩
    refine ⟨_, rfl, o, rfl, fun hbo H2 sm2 => ?_, fun i hi => (q0 hbp i hi).mono sm1⟩
    have sm12 := sm1.trans sm2
    obtain ⟨qk, qv⟩ := qr hbp hbo
    have hg := hg hbp hbo
    have low := low_of hbo
    refine ⟨_, rfl, _, rfl, kk, o, rfl, by omega, (fun k2 k26 hbk H3 sm3 => ?_), (fun h => (qk h).mono sm12), fun k2 k26 i hi => ((qv k2 k26).1 i hi).mono sm12⟩
    have sm13 := sm12.trans sm3
    have qv := (qv k2 k26).2 hbk
    have o200 : ∀ c ∈ o, c < 200 := fun c hc => by have := low c hc; omega
    refine ⟨_, rfl, _, rfl, p, o, rfl, ⟨pipe_of hbp, hpl⟩, o200, hg, fun H4 t a d sm4 nt ht ha hd => ?_⟩
    have sm14 := sm13.trans sm4
    have S := Shp.run o200 (runs p).reverse (fun q hq => runs_heads (pipe_of hbp) q (List.mem_reverse.mp hq))
    rw [growR_eq] at S
    have S : Shp (shapeOf p o) (growS p (sizeS o)) := S
    have lz : (shapeOf p o).1.length ≤ 100000 := by
      have := congrArg Prod.fst S.size
      show (sizeM (shapeOf p o)).1 ≤ _
      rw [this]; exact hg
    have lb := S.bar
    generalize shapeOf p o = z at *
    refine ⟨t, _, _, _, rfl, rfl, SqT.of ht, atI_nat (j := 1) rfl, ?_⟩
    exact ⟨_, rfl, _, rfl, d, z.2, kk, rfl, hd, by omega, k2, k26, fun H5 sm5 => qv H5 (sm14.trans sm5)⟩
end
end Tw

set_option Elab.async false
set_option linter.all false
set_option maxRecDepth 100000
set_option maxHeartbeats 2000000
namespace Tw
open PySem PySem.Spec PyProof.Rows L2 GenW
/-! yield from over a list -/
section
variable {prog : Program} {w : World} {A : Around} {E : Value → Shared → Prop} {s : Shared}
theorem special_list_item {it t : Addr} {i : Nat} {items : Array Value} {x : Value} {Q : Option Value → Shared → Prop} (hit : s.heap.IsListIter it t i) (ht : s.heap.IsList t items) (hx : items[i]? = some x)
    (hQ : ∀ h', h'.IsListIter it t (i + 1) → Heap.SameBut it s.heap h' → Q (some x) { s with heap := h' }) : wpAny (model prog w) A (callSpecial? (.ref it) "__next__") Q E s := by
  obtain ⟨o, ho, hc, hd⟩ := id hit
  obtain ⟨ol, hol, _, nl, hdl⟩ := ht
  refine wpAny_callSpecial?_slot (name := Str.ofString "__next__") hit.typeIs slot_listiter_next (wpAny_call_entry slot_listiter_next hit.typeIs entry_listiter_next ?_ (args_listiter_next _))
  show wpAny _ _ (field (.ref it) 0 >>= _) _ _ s
  refine wpAny_bind (wpAny_field ho hd (x := .ref t) rfl ?_)
  show wpAny _ _ (if (Value.ref t == Value.none) = true then _ else _) _ _ s
  rw [if_neg (show ¬ ((Value.ref t == Value.none) = true) from Bool.false_ne_true)]
  show wpAny _ _ (field (.ref it) 1 >>= _) _ _ s
  refine wpAny_bind (wpAny_field ho hd (x := .int i 0) rfl ?_)
  show wpAny _ _ (seqItems? (.ref t) >>= _) _ _ s
  refine wpAny_bind (wpAny_seqItems hol hdl ?_)
  simp only [Int.toNat_natCast, hx]
  refine wpAny_bind (wpAny_setField ho hd (by simp) (wpAny_pure ⟨x, rfl, hQ _ ?_ (Heap.SameBut.update ..)⟩))
  exact ⟨_, Heap.get?_update_self _ ho (Obj.isFreed_of_fields (Obj.data_mapFields hd _)), (Obj.cls_mapFields ..).trans hc, by
    rw [Obj.data_mapFields hd]; simp [rawInt]⟩
theorem special_list_end {it t : Addr} {i : Nat} {items : Array Value} {Q : Option Value → Shared → Prop} (hh : A.handled = none) (hit : s.heap.IsListIter it t i) (ht : s.heap.IsList t items) (hx : items[i]? = none)
    (hE : ∀ e h', StopX e h' → Heap.ExtBut it s.heap h' → E e { s with heap := h' }) : wpAny (model prog w) A (callSpecial? (.ref it) "__next__") Q E s := by
  obtain ⟨o, ho, hc, hd⟩ := id hit
  obtain ⟨ol, hol, _, nl, hdl⟩ := ht
  refine wpAny_callSpecial?_slot (name := Str.ofString "__next__") hit.typeIs slot_listiter_next (wpAny_call_entry slot_listiter_next hit.typeIs entry_listiter_next ?_ (args_listiter_next _))
  show wpAny _ _ (field (.ref it) 0 >>= _) _ _ s
  refine wpAny_bind (wpAny_field ho hd (x := .ref t) rfl ?_)
  show wpAny _ _ (if (Value.ref t == Value.none) = true then _ else _) _ _ s
  rw [if_neg (show ¬ ((Value.ref t == Value.none) = true) from Bool.false_ne_true)]
  show wpAny _ _ (field (.ref it) 1 >>= _) _ _ s
  refine wpAny_bind (wpAny_field ho hd (x := .int i 0) rfl ?_)
  show wpAny _ _ (seqItems? (.ref t) >>= _) _ _ s
  refine wpAny_bind (wpAny_seqItems hol hdl ?_)
  simp only [Int.toNat_natCast, hx]
  refine wpAny_bind (wpAny_rule (wpAny_bind (wpAny_setField ho hd (by simp) ?_)))
  show wpAny _ _ (newExc (.type "StopIteration") [] >>= _) _ _ _
  refine wpAny_bind ?_
  simp only [newExc, newTuple]
  refine wpAny_bind (wpAny_newObj_type ?_ (by size_fits))
  refine wpAny_bind (m := firstArgMember _ _) (wpAny_of_eq (a := Value.none) (by first | rfl | (simp only [firstArgMember]; rfl)) ?_)
  refine wpAny_newObj_type ?_ (by size_fits)
  simp only [raiseNew]
  refine wpAny_bind (wpAny_handled ?_)
  first | rw [show A.in1.handled = none from hh] | rw [hh]
  refine wpAny_bind (wpAny_pure (wpAny_throw ?_))
  refine hE _ _ ⟨_, _, _, rfl, Heap.get?_push_size _ rfl, rfl, rfl, ?_⟩ (((Heap.SameBut.update ..).extBut.push _).push _)
  first
    | rfl
    | (rw [Array.getElem?_append_left (by decide)]; rfl)
    | kernel_rfl
end
section
variable {X : Cx} {e : Expr} {yp pos : Pos} {te : TE}
def tYfLst (te : TE) : TYf := fun σ H Q => te σ H fun x H1 => ∃ a xs, x = .ref a ∧ H1 a = some (.lst xs) ∧ Q xs H1
theorem close_list : typeLookup (.type "list_iterator") "close" = pure none := by rw [typeLookup_type, builtinLookup_eq_fast]; kernel_rfl
theorem yf_list (he : PE X e te) : YfE X e (tYfLst te) := by
  refine ⟨fun pins s σ H Q I h => ?_⟩
  refine thn (he.run pins s σ H _ I h) fun v s1 ⟨x, H1, I1, r1, a, xs, ex, ha, hq⟩ => ?_
  subst ex
  obtain rfl : v = Value.ref a := r1
  obtain ⟨hlen, its, c0, rits, hob⟩ := I1.hok a _ ha
  have ht : s1.heap.IsList a its.toArray := ⟨_, hob, rfl, c0, rfl⟩
  refine ⟨"list", ht.typeIs, by decide, wpAny_pyIter_list ht ?_⟩
  have ksz : ∀ b o, s1.heap.get? b = some o → b ≠ s1.heap.objs.size := fun b o e => Nat.ne_of_lt (Heap.lt_size e)
  have kp : ∀ b o, s1.heap.get? b = some o → (s1.heap.push { cls := .type "list_iterator", data := .fields #[.ref a, .int 0 0] }).get? b = some o := fun b o e => Heap.get?_push_of_some _ e
  refine ⟨s1.heap.objs.size, H1, xs, fun j h => h.IsListIter s1.heap.objs.size a j ∧ h.IsList a its.toArray, rfl, I1.kept (t' := s1.toks) kp, .inr I1.sz, Nat.ne_of_gt I1.lt, fun y c hy => ?_, I1.hok.fresh (Nat.le_refl _), fun p hp => ?_,
    ⟨⟨_, Heap.get?_push_size _ rfl, rfl, rfl⟩, ht.push _⟩, ⟨⟨"list_iterator", fun j h q => ?_, close_list, by decide⟩, fun j h h' q hk => ?_, fun A' j x s2 Q' E' hA hx q hQ => ?_, fun A' s2 Q' E' hA q hE => ?_⟩, hq⟩
  · obtain ⟨v, o, ho, _⟩ := I1.cell y c hy
    exact ksz c o ho
  · exact ksz p.1 _ (I1.pin p hp).1
  · obtain ⟨⟨o, ho, hc, _⟩, _⟩ := q
    exact ⟨o, ho, hc⟩
  · obtain ⟨⟨o, ho, r⟩, o2, ho2, r2⟩ := q
    exact ⟨⟨o, hk _ o (.inl rfl) ho, r⟩, o2, hk _ o2 (.inr (by rw [ha]; exact fun z => by cases z)) ho2, r2⟩
  · obtain ⟨q1, q2⟩ := q
    obtain ⟨u, hu, ru⟩ := rits.get hx
    have hne : a ≠ s1.heap.objs.size := ksz a _ hob
    exact special_list_item q1 q2 (x := u) (by simpa using hu) fun h' q1' hs => hQ u h' s2.toks ru ⟨q1', q2.extBut hs.extBut hne⟩ fun b o hb eb => hs.extBut b o hb eb
  · obtain ⟨q1, q2⟩ := q
    have hnone : its.toArray[xs.length]? = none := by
      have e := rits.length
      have e2 : its[xs.length]? = none := List.getElem?_eq_none_iff.mpr (by omega)
      simpa using e2
    exact special_list_end hA q1 q2 hnone fun e h' hS hk => hE e h' s2.toks hS fun b o hb eb => hk b o hb eb
end
end Tw

set_option Elab.async false
set_option linter.all false
set_option maxRecDepth 100000
set_option maxHeartbeats 2000000
namespace Tw
open PySem PySem.Spec PyProof.Rows L2
/-! words of a text, and what a reader makes of them -/
def isDig (c : Nat) : Bool := decide (48 ≤ c) && decide (c ≤ 57)
def Asc (l : List Nat) : Prop := ∀ c ∈ l, c < 128
def wordsL (l : List Nat) : List (List Nat) := TL.spl [32] 0 [] l
theorem split_mk (l : List Nat) : Txt.split (mk l) (Str.ofString " ") = (wordsL l).map mk := by
  rw [space_eq]
  exact SX.split_S (a := l) (b := [32]) (by decide) (by decide)
theorem pre_sp (c : Nat) (r : List Nat) : TL.pre [32] (c :: r) = (c == 32) := by
  unfold TL.pre
  show (([c] : List Nat) == [32]) = (c == 32)
  by_cases h : c = 32
  · subst h; rfl
  · have h1 : (c == 32) = false := by simpa using h
    rw [h1]
    simp [h]
theorem spl_mem : ∀ (l acc w : List Nat), w ∈ TL.spl [32] 0 acc l → ∀ c ∈ w, c ∈ acc ∨ c ∈ l
  | [], acc, w, h, c, hc => by
    rw [TL.spl_nil] at h
    rw [List.mem_singleton.mp h] at hc
    exact .inl hc
  | x :: r, acc, w, h, c, hc => by
    by_cases e : TL.pre [32] (x :: r) = true
    · rw [TL.spl_hit e] at h
      rcases List.mem_cons.mp h with h | h
      · subst h; exact .inl hc
      · rcases spl_mem r [] w h c hc with z | z
        · cases z
        · exact .inr (List.mem_cons_of_mem _ z)
    · rw [TL.spl_miss (by simpa using e)] at h
      rcases spl_mem r (acc ++ [x]) w h c hc with z | z
      · rcases List.mem_append.mp z with z | z
        · exact .inl z
        · rw [List.mem_singleton.mp z]; exact .inr List.mem_cons_self
      · exact .inr (List.mem_cons_of_mem _ z)
theorem wordsL_mem {l w : List Nat} (h : w ∈ wordsL l) : ∀ c ∈ w, c ∈ l := fun c hc => by
  rcases spl_mem l [] w h c hc with z | z
  · cases z
  · exact z
theorem spl_len : ∀ (l acc : List Nat), (TL.spl [32] 0 acc l).length ≤ l.length + 1
  | [], acc => by rw [TL.spl_nil]; exact Nat.le_refl _
  | x :: r, acc => by
    by_cases e : TL.pre [32] (x :: r) = true
    · rw [TL.spl_hit e]
      have := spl_len r []
      show (TL.spl [32] 0 [] r).length + 1 ≤ _
      rw [List.length_cons]
      omega
    · rw [TL.spl_miss (by simpa using e)]
      have := spl_len r (acc ++ [x])
      rw [List.length_cons]
      omega
theorem wordsL_len (l : List Nat) : (wordsL l).length ≤ l.length + 1 := spl_len l []
theorem spl_wlen : ∀ (l acc w : List Nat), w ∈ TL.spl [32] 0 acc l → w.length ≤ acc.length + l.length
  | [], acc, w, h => by
    rw [TL.spl_nil] at h
    rw [List.mem_singleton.mp h]
    exact Nat.le_add_right _ _
  | x :: r, acc, w, h => by
    by_cases e : TL.pre [32] (x :: r) = true
    · rw [TL.spl_hit e] at h
      rcases List.mem_cons.mp h with h | h
      · subst h; omega
      · have := spl_wlen r [] w h
        rw [List.length_cons]
        simp at this
        omega
    · rw [TL.spl_miss (by simpa using e)] at h
      have := spl_wlen r (acc ++ [x]) w h
      rw [List.length_append] at this
      rw [List.length_cons]
      simp at this
      omega
theorem wordsL_wlen {l w : List Nat} (h : w ∈ wordsL l) : w.length ≤ l.length := by
  have := spl_wlen l [] w h
  simpa using this
theorem wordsL_join {ps : List (List Nat)} (hne : ps ≠ []) (h : ∀ p ∈ ps, 32 ∉ p) : wordsL (TL.joinL [32] ps) = ps := TL.spl_join hne h
theorem isDig_all {d : List Nat} : d.all isDig = true ↔ NumText.AllDigits d := by
  rw [List.all_eq_true]
  constructor
  · intro h c hc
    have := h c hc
    unfold isDig at this
    rw [Bool.and_eq_true] at this
    exact ⟨of_decide_eq_true this.1, of_decide_eq_true this.2⟩
  · intro h c hc
    have := h c hc
    unfold isDig
    rw [decide_eq_true this.1, decide_eq_true this.2]
    rfl
theorem uDigit {c : Nat} (h : c < 128) : Unicode.isDigit c = isDig c := by
  have k : ∀ n : _root_.Fin 128, Unicode.isDigit n.val = isDig n.val := by decide +kernel
  exact k ⟨c, h⟩
theorem isdigit_mk {d : List Nat} (h : Asc d) : Txt.isdigit (mk d) = (decide (0 < d.length) && d.all isDig) := by
  unfold Txt.isdigit
  have e : (mk d).cps.all Unicode.isDigit = d.all isDig := by
    show d.toArray.all Unicode.isDigit = _
    rw [← Array.all_toList]
    show d.all Unicode.isDigit = d.all isDig
    rw [Bool.eq_iff_iff, List.all_eq_true, List.all_eq_true]
    exact ⟨fun z c hc => by rw [← uDigit (h c hc)]; exact z c hc, fun z c hc => by rw [uDigit (h c hc)]; exact z c hc⟩
  rw [e, mk_len]
theorem isascii_mk {d : List Nat} (h : Asc d) : Txt.isascii (mk d) = true := by
  unfold Txt.isascii
  show d.toArray.all (fun c => decide (c < 128)) = true
  rw [← Array.all_toList]
  show d.all (fun c => decide (c < 128)) = true
  rw [List.all_eq_true]
  exact fun c hc => decide_eq_true (h c hc)
/-- the signs of a number as it is shown: from 2 on -/
def numOk (d : List Nat) : Bool := d.all isDig && (d.head? != some 48) && (d != [49])
/-- how many sieves a part tells, 0: it is no part -/
def cntL : List Nat → Nat
  | [] => 0
  | k :: d => if k = 84 ∨ k = 83 then (if d = [] then 1 else if numOk d = true then NumText.digitsVal d else 0) else 0
theorem cntL_head {w : List Nat} (h : ¬ cntL w = 0) : ∃ k d, w = k :: d ∧ (k = 84 ∨ k = 83) := by
  cases w with
  | nil => exact absurd rfl h
  | cons k d =>
    refine ⟨k, d, rfl, ?_⟩
    by_cases e : k = 84 ∨ k = 83
    · exact e
    · exact absurd (if_neg e) h
def readL : List (List Nat) → Nat → Option (List (Nat × Nat))
  | [], _ => some []
  | w :: r, b => if cntL w = 0 ∨ w.head? = some b then none else (readL r (w.headD 0)).map fun z => (w.headD 0, cntL w) :: z
def noneL : List Nat := [110, 111, 110, 101]
def readN (l : List Nat) : Option (List (Nat × Nat)) := if l = noneL then some [] else readL (wordsL l) 0
theorem readL_len : ∀ {ws : List (List Nat)} {b : Nat} {rs : List (Nat × Nat)}, readL ws b = some rs → rs.length = ws.length
  | [], _, rs, h => by cases h; rfl
  | w :: r, b, rs, h => by
    unfold readL at h
    split at h
    · cases h
    · obtain ⟨z, hz, rfl⟩ := Option.map_eq_some_iff.mp h
      rw [List.length_cons, List.length_cons, readL_len hz]
/-- reading as a walk -/
def readF (z : Option (List (Nat × Nat) × Nat)) (w : List Nat) : Option (List (Nat × Nat) × Nat) :=
  z.bind fun q => if cntL w = 0 ∨ w.head? = some q.2 then none else some (q.1 ++ [(w.headD 0, cntL w)], w.headD 0)
theorem readF_none : ∀ ws : List (List Nat), ws.foldl readF none = none
  | [] => rfl
  | _ :: r => readF_none r
theorem readF_eq : ∀ (ws : List (List Nat)) (b : Nat) (acc : List (Nat × Nat)), ((ws.foldl readF (some (acc, b))).map (·.1)) = (readL ws b).map (acc ++ ·)
  | [], b, acc => by simp [readL]
  | w :: r, b, acc => by
    rw [List.foldl_cons]
    unfold readL
    by_cases h : cntL w = 0 ∨ w.head? = some b
    · rw [if_pos h]
      have e : readF (some (acc, b)) w = none := by unfold readF; simp [h]
      rw [e, readF_none]
      rfl
    · rw [if_neg h]
      have e : readF (some (acc, b)) w = some (acc ++ [(w.headD 0, cntL w)], w.headD 0) := by unfold readF; simp [h]
      rw [e, readF_eq r]
      cases readL r (w.headD 0) <;> simp
theorem readF_take {ws : List (List Nat)} {i : Nat} {w : List Nat} (h : ws[i]? = some w) (z : Option (List (Nat × Nat) × Nat)) : (ws.take (i + 1)).foldl readF z = readF ((ws.take i).foldl readF z) w := by
  rw [List.take_add_one, h, List.foldl_append]
  rfl
/-- once wrong, wrong to the end -/
theorem readF_stop {ws : List (List Nat)} {i : Nat} {z : Option (List (Nat × Nat) × Nat)} (h : (ws.take i).foldl readF z = none) : ws.foldl readF z = none := by
  rw [← List.take_append_drop i ws, List.foldl_append, h, readF_none]
theorem readL_of {ws : List (List Nat)} {rs : List (Nat × Nat)} {b : Nat} (h : ws.foldl readF (some ([], 0)) = some (rs, b)) : readL ws 0 = some rs := by
  have e := readF_eq ws 0 []
  rw [h] at e
  cases hr : readL ws 0 with
  | none => rw [hr] at e; cases e
  | some q =>
    rw [hr] at e
    have := Option.some.inj e
    simp at this
    rw [this]
theorem readL_none {ws : List (List Nat)} (h : ws.foldl readF (some ([], 0)) = none) : readL ws 0 = none := by
  have e := readF_eq ws 0 []
  rw [h] at e
  cases hr : readL ws 0 with
  | none => rfl
  | some q => rw [hr] at e; cases e
theorem readF_cnt : ∀ {ws : List (List Nat)} {b b2 : Nat} {acc rs : List (Nat × Nat)} {m : Nat}, (∀ w ∈ ws, cntL w ≤ m) → (∀ q ∈ acc, q.2 ≤ m) → ws.foldl readF (some (acc, b)) = some (rs, b2) → ∀ q ∈ rs, q.2 ≤ m
  | [], _, _, acc, rs, m, h, ha, e => by cases e; exact ha
  | w :: r, b, b2, acc, rs, m, h, ha, e => by
    rw [List.foldl_cons] at e
    by_cases hw : cntL w = 0 ∨ w.head? = some b
    · have e1 : readF (some (acc, b)) w = none := by unfold readF; simp [hw]
      rw [e1, readF_none] at e
      cases e
    · have e1 : readF (some (acc, b)) w = some (acc ++ [(w.headD 0, cntL w)], w.headD 0) := by unfold readF; simp [hw]
      rw [e1] at e
      refine readF_cnt (fun z hz => h z (List.mem_cons_of_mem _ hz)) (fun q hq => ?_) e
      rcases List.mem_append.mp hq with hq | hq
      · exact ha q hq
      · rw [List.mem_singleton.mp hq]
        exact h w List.mem_cons_self
theorem readF_len : ∀ {ws : List (List Nat)} {b b2 : Nat} {acc rs : List (Nat × Nat)}, ws.foldl readF (some (acc, b)) = some (rs, b2) → rs.length = acc.length + ws.length
  | [], _, _, acc, rs, e => by cases e; rfl
  | w :: r, b, b2, acc, rs, e => by
    rw [List.foldl_cons] at e
    by_cases hw : cntL w = 0 ∨ w.head? = some b
    · have e1 : readF (some (acc, b)) w = none := by unfold readF; simp [hw]
      rw [e1, readF_none] at e
      cases e
    · have e1 : readF (some (acc, b)) w = some (acc ++ [(w.headD 0, cntL w)], w.headD 0) := by unfold readF; simp [hw]
      rw [e1] at e
      have := readF_len e
      rw [List.length_append, List.length_singleton] at this
      rw [this, List.length_cons]
      omega
theorem reps_sum (ws : List (Nat × Nat)) : ((ws.map fun q => mk (List.replicate q.2 q.1)).map (·.length)).sum = (flatW ws).length := by
  induction ws with
  | nil => rfl
  | cons q r ih =>
    rw [List.map_cons, List.map_cons, List.sum_cons, ih, mk_len, List.length_replicate]
    show _ = (List.replicate q.2 q.1 ++ flatW r).length
    rw [List.length_append, List.length_replicate]
theorem joinE (ys : List (List Nat)) : Txt.join (Str.ofString "") (ys.map mk) = mk ys.flatten := by
  rw [empty_eq]
  have e := SX.join_S [] ys
  refine e.trans ?_
  show mk (TL.joinL [] ys) = mk ys.flatten
  rw [joinL_nil]
theorem join_reps (ws : List (Nat × Nat)) : Txt.join (Str.ofString "") (ws.map fun q => mk (List.replicate q.2 q.1)) = mk (flatW ws) := by
  have := joinE (ws.map fun q => List.replicate q.2 q.1)
  rw [List.map_map] at this
  refine this.trans ?_
  unfold flatW
  rw [List.flatMap_def]
theorem Asc.mem {l w : List Nat} (h : Asc l) (hw : w ∈ wordsL l) : Asc w := fun c hc => h c (wordsL_mem hw c hc)
theorem Asc.tail {c : Nat} {l : List Nat} (h : Asc (c :: l)) : Asc l := fun x hx => h x (List.mem_cons_of_mem _ hx)
theorem none_eq : (Str.ofString "none") = mk noneL := by decide +kernel
def spWritten : Sp := fun vs H Q _ => ∃ d : List Nat, vs = [.str (mk d)] ∧ Asc d ∧ d ≠ [] ∧ d.length ≤ 100000 ∧ ∀ H', Same H H' → Q (.bl (numOk d)) H'
def spCntS : Sp := fun vs H Q _ => ∃ w : List Nat, vs = [.str (mk w)] ∧ Asc w ∧ w.length ≤ 640 ∧ ∀ H', Same H H' → Q (.int (cntL w : Nat)) H'
/-- reading a text: m bounds the numbers -/
def spReadX (C : Addr) : Sp := fun vs H Q E => ∃ (l : List Nat) (m : Nat), vs = [.str (mk l)] ∧ Asc l ∧ l.length ≤ 10000 ∧ (∀ w ∈ wordsL l, w.length ≤ 640 ∧ cntL w ≤ m) ∧ (m ≤ 1000000 ∧ (wordsL l).length * m ≤ 1000000) ∧
  (∀ rs, readN l = some rs → ∀ H', Same H H' → Q (.str (mk (flatW rs))) H') ∧ (readN l = none → RzV C (.str (mk l)) H E)
end Tw

set_option Elab.async false
set_option linter.all false
set_option maxRecDepth 100000
set_option maxHeartbeats 2000000
namespace Tw
open PySem PySem.Spec PyProof.Rows L2
/-! the text of a pipeline is read as what it was -/
def wordL (q : Nat × Nat) : List Nat := q.1 :: (if q.2 = 1 then [] else TL.numL q.2)
theorem wordS_eq (q : Nat × Nat) : wordS q = mk (wordL q) := by
  unfold wordS countS wordL
  by_cases h : q.2 = 1
  · rw [if_pos h, if_pos h, empty_eq, mk_app]
    rfl
  · rw [if_neg h, if_neg h]
    have e : (toString ((q.2 : Nat) : Int) : String) = toString ((q.2 : Nat) : Int) := rfl
    show mk [q.1] ++ Str.ofString (toString ((q.2 : Nat) : Int)) = _
    rw [SX.num_S]
    exact mk_app [q.1] (TL.numL q.2)
theorem noteS_eq (ws : List (Nat × Nat)) : noteS ws = mk (TL.joinL [32] (ws.map wordL)) := by
  unfold noteS
  rw [space_eq]
  have e : ws.map wordS = (ws.map wordL).map SX.S := by
    rw [List.map_map]
    exact List.map_congr_left fun q _ => wordS_eq q
  rw [e]
  exact SX.join_S [32] (ws.map wordL)
theorem numL_head {n : Nat} (h : 1 ≤ n) : (TL.numL n).head? ≠ some 48 := by
  induction n using Nat.strongRecOn with
  | _ n ih =>
    by_cases h10 : n < 10
    · rw [TL.numL_lt h10]
      intro z
      have := Option.some.inj z
      omega
    · rw [TL.numL_step (by omega)]
      have h1 := ih (n / 10) (by omega) (by omega)
      have hn := TL.numL_ne (n / 10)
      cases hd : TL.numL (n / 10) with
      | nil => exact absurd hd hn
      | cons c r => rw [hd] at h1; exact h1
theorem numOk_num {n : Nat} (h : 2 ≤ n) : numOk (TL.numL n) = true := by
  unfold numOk
  rw [isDig_all.mpr (TL.numL_digits n)]
  have h1 : ((TL.numL n).head? != some 48) = true := by simpa using numL_head (n := n) (by omega)
  have h2 : (TL.numL n != [49]) = true := by
    have : TL.numL n ≠ [49] := fun z => by
      have e : TL.numL 1 = [49] := TL.numL_lt (by decide)
      have := TL.numL_inj (z.trans e.symm)
      omega
    simpa using this
  rw [h1, h2]
  rfl
theorem cnt_word {q : Nat × Nat} (hk : q.1 = 84 ∨ q.1 = 83) (h1 : 1 ≤ q.2) : cntL (wordL q) = q.2 := by
  unfold wordL
  show (if q.1 = 84 ∨ q.1 = 83 then _ else _) = _
  rw [if_pos hk]
  by_cases h : q.2 = 1
  · rw [if_pos h, if_pos rfl, h]
  · rw [if_neg h, if_neg (TL.numL_ne q.2), if_pos (numOk_num (by omega)), TL.numL_val]
theorem word_head (q : Nat × Nat) : (wordL q).head? = some q.1 ∧ (wordL q).headD 0 = q.1 := ⟨rfl, rfl⟩
theorem word_free {q : Nat × Nat} (hk : q.1 = 84 ∨ q.1 = 83) : 32 ∉ wordL q := fun h => by
  unfold wordL at h
  rcases List.mem_cons.mp h with e | e
  · omega
  · split at e
    · cases e
    · exact TL.numL_free (.inl (by decide)) e
theorem word_asc {q : Nat × Nat} (hk : q.1 = 84 ∨ q.1 = 83) : Asc (wordL q) := fun c hc => by
  unfold wordL at hc
  rcases List.mem_cons.mp hc with e | e
  · omega
  · split at e
    · cases e
    · have := TL.numL_digits q.2 c e
      omega
theorem word_len {q : Nat × Nat} (h : q.2 ≤ 1000000) : (wordL q).length ≤ 8 := by
  unfold wordL
  rw [List.length_cons]
  split
  · decide
  · have := TL.numL_len (n := q.2) (k := 7) (by decide) (by omega)
    omega
/-- sieves by turns, from one on that is not b -/
def Turns : Nat → List (Nat × Nat) → Prop
  | _, [] => True
  | b, q :: r => q.1 ≠ b ∧ (q.1 = 84 ∨ q.1 = 83) ∧ 1 ≤ q.2 ∧ Turns q.1 r
theorem readL_turns : ∀ {ws : List (Nat × Nat)} {b : Nat}, Turns b ws → readL (ws.map wordL) b = some ws
  | [], _, _ => rfl
  | q :: r, b, h => by
    rw [List.map_cons]
    unfold readL
    rw [cnt_word h.2.1 h.2.2.1, (word_head q).1, (word_head q).2, if_neg (fun z => by
      rcases z with z | z
      · have := h.2.2.1; omega
      · exact h.1 (Option.some.inj z)), readL_turns h.2.2.2]
    rfl
theorem turns_alt {m : Nat} : ∀ {ws : List (Nat × Nat)} {b : Nat}, AltW m ws → (∀ q, ws.head? = some q → q.1 ≠ b) → Turns b ws
  | [], _, _, _ => trivial
  | q :: r, b, h, hb => by
    obtain ⟨h1, h2, _⟩ := h.1 q List.mem_cons_self
    refine ⟨hb q rfl, h1, h2, turns_alt (m := m) ⟨fun z hz => h.1 z (List.mem_cons_of_mem _ hz), fun i a c ha hc => h.2 (i + 1) a c ha hc⟩ fun z hz => ?_⟩
    refine Ne.symm (h.2 0 q z rfl ?_)
    rw [← hz]
    cases r <;> rfl
theorem words_note {ws : List (Nat × Nat)} (hne : ws ≠ []) (h : ∀ q ∈ ws, q.1 = 84 ∨ q.1 = 83) : wordsL (TL.joinL [32] (ws.map wordL)) = ws.map wordL :=
  wordsL_join (fun e => hne (List.map_eq_nil_iff.mp e)) fun p hp => by
    obtain ⟨q, hq, rfl⟩ := List.mem_map.mp hp
    exact word_free (h q hq)
theorem joinL_head {ws : List (Nat × Nat)} {q : Nat × Nat} {r : List (Nat × Nat)} (e : ws = q :: r) : ∃ t, TL.joinL [32] (ws.map wordL) = q.1 :: t := by
  subst e
  cases r with
  | nil => exact ⟨_, rfl⟩
  | cons a b => exact ⟨_, rfl⟩
theorem read_note {ws : List (Nat × Nat)} (hne : ws ≠ []) (h : Turns 0 ws) (hk : ∀ q ∈ ws, q.1 = 84 ∨ q.1 = 83) : readN (TL.joinL [32] (ws.map wordL)) = some ws := by
  unfold readN
  rw [words_note hne hk, readL_turns h]
  obtain ⟨q, r, e⟩ := List.exists_cons_of_ne_nil hne
  obtain ⟨t, et⟩ := joinL_head e
  rw [if_neg]
  intro z
  rw [et] at z
  unfold noneL at z
  have := (List.cons.inj z).1
  have := hk q (by rw [e]; exact List.mem_cons_self)
  omega
theorem joinL_asc {ws : List (Nat × Nat)} (hk : ∀ q ∈ ws, q.1 = 84 ∨ q.1 = 83) : Asc (TL.joinL [32] (ws.map wordL)) := by
  induction ws with
  | nil => exact fun c hc => by cases hc
  | cons q r ih =>
    have h1 := word_asc (hk q List.mem_cons_self)
    cases r with
    | nil => exact h1
    | cons a b =>
      intro c hc
      have hc : c ∈ wordL q ++ ([32] ++ TL.joinL [32] ((a :: b).map wordL)) := hc
      rcases List.mem_append.mp hc with e | e
      · exact h1 c e
      · rcases List.mem_append.mp e with e | e
        · rw [List.mem_singleton.mp e]; decide
        · exact ih (fun z hz => hk z (List.mem_cons_of_mem _ hz)) c e
theorem joinL_len {ws : List (Nat × Nat)} (hk : ∀ q ∈ ws, q.2 ≤ 1000000) : (TL.joinL [32] (ws.map wordL)).length ≤ 9 * ws.length := by
  induction ws with
  | nil => exact Nat.le_refl _
  | cons q r ih =>
    have h1 := word_len (hk q List.mem_cons_self)
    cases r with
    | nil => exact Nat.le_trans h1 (by rw [List.length_singleton]; decide)
    | cons a b =>
      show (wordL q ++ ([32] ++ TL.joinL [32] ((a :: b).map wordL))).length ≤ _
      rw [List.length_append, List.length_append]
      have := ih fun z hz => hk z (List.mem_cons_of_mem _ hz)
      rw [List.length_cons (a := q)]
      have e1 : ([32] : List Nat).length = 1 := rfl
      omega
theorem read0_of {CU : Addr} : ∀ vs H Q E, spRead0 vs H Q E → spReadX CU vs H Q (fun _ _ _ => False) := by
  rintro vs H Q E ⟨m, ws, rfl, alt, hm, ⟨h1, h8⟩, q⟩
  have hne : ws ≠ [] := fun e => by rw [e] at h1; exact absurd h1 (by decide)
  have hk : ∀ q ∈ ws, q.1 = 84 ∨ q.1 = 83 := fun q hq => (alt.1 q hq).1
  have hc : ∀ q ∈ ws, q.2 ≤ 100 := fun q hq => Nat.le_trans (alt.1 q hq).2.2 hm
  have tn : Turns 0 ws := turns_alt alt fun q hq => by
    have := hk q (List.mem_of_mem_head? hq)
    omega
  have hr := read_note hne tn hk
  have hl := joinL_len (ws := ws) fun q hq => by have := hc q hq; omega
  refine ⟨TL.joinL [32] (ws.map wordL), 100, by rw [noteS_eq], joinL_asc hk, by omega, fun w hw => ?_, ⟨by decide, ?_⟩, fun rs hrs => ?_, fun z => ?_⟩
  · rw [words_note hne hk] at hw
    obtain ⟨q, hq, rfl⟩ := List.mem_map.mp hw
    have := hc q hq
    refine ⟨?_, ?_⟩
    · have := word_len (q := q) (by omega)
      omega
    · rw [cnt_word (hk q hq) (alt.1 q hq).2.1]
      exact this
  · rw [words_note hne hk, List.length_map]
    omega
  · rw [hr] at hrs
    cases hrs
    exact q
  · rw [hr] at z
    cases z
end Tw

set_option Elab.async false
set_option linter.all false
set_option maxRecDepth 100000
set_option maxHeartbeats 2000000
namespace Tw
open PySem PySem.Spec PyProof.Rows L2
/-! promises of what raises nothing, from those that may raise -/
theorem low_bad {l : List Nat} (h : Low l) : bad okL l = none := bad_none.mpr (okL_of h)
theorem pipe_bad {l : List Nat} (h : Pipe l) : bad okP l = none := bad_none.mpr (okP_of h)
theorem no_bad {α : Type} {o : Option α} {a : α} {P : Prop} (h : o = none) (e : o = some a) : P := by rw [h] at e; cases e
theorem sieve0_of {C C' : Addr} : ∀ vs H Q E, spSieve0 vs H Q E → spSieveX C C' vs H Q (fun _ _ _ => False) := by
  rintro vs H Q E ⟨l, p, rfl, ⟨h1, h2⟩, h3, q⟩
  exact ⟨l, p, rfl, h3, fun _ _ => q, fun i hi => no_bad (low_bad h1) hi, fun _ i hi => no_bad (pipe_bad h2) hi⟩
theorem least0_of {C C' : Addr} : ∀ vs H Q E, spLeast0 vs H Q E → spLeastX C C' vs H Q (fun _ _ _ => False) := by
  rintro vs H Q E ⟨p, l, rfl, ⟨h1, h2⟩, h3, h4, q⟩
  refine ⟨p, l, rfl, ?_, h4, fun _ _ => q, fun i hi => no_bad (pipe_bad h1) hi, fun _ i hi => no_bad (low_bad h2) hi⟩
  omega
end Tw

set_option Elab.async false
set_option linter.all false
set_option maxRecDepth 100000
set_option maxHeartbeats 2000000
namespace Tw
open PySem PySem.Spec PyProof.Rows L2
/-! an object whose row is sieved -/
theorem nRP : ¬ (("_rows" : Str) = "_pipeline") := by decide +kernel
theorem nPR : ¬ (("_pipeline" : Str) = "_rows") := by decide +kernel
def lfs (L : Addr) (s : Str) : List (Str × V) := [(("_rows" : Str), V.ref L), (("_pipeline" : Str), V.str s)]
theorem lfs_new (L : Addr) (s : Str) : putF "_pipeline" (.str s) (putF "_rows" (.ref L) []) = lfs L s := by
  show (if ("_rows" : Str) = "_pipeline" then [(("_rows" : Str), V.str s)] else (("_rows" : Str), V.ref L) :: putF "_pipeline" (.str s) []) = _
  rw [if_neg nRP]
  rfl
theorem lfs_put (L : Addr) (s t : Str) : putF "_pipeline" (.str t) (lfs L s) = lfs L t := by
  show (if ("_rows" : Str) = "_pipeline" then _ else (("_rows" : Str), V.ref L) :: (if ("_pipeline" : Str) = "_pipeline" then [(("_pipeline" : Str), V.str t)] else _)) = _
  rw [if_neg nRP, if_pos rfl]
  rfl
theorem lfs_rows (L : Addr) (s : Str) : (lfs L s).lookup ("_rows" : Str) = some (.ref L) := by
  show (match (("_rows" : Str) == "_rows") with | true => some (V.ref L) | false => List.lookup ("_rows" : Str) [(("_pipeline" : Str), V.str s)]) = _
  rw [beq_self_eq_true]
theorem lfs_pipe (L : Addr) (s : Str) : (lfs L s).lookup ("_pipeline" : Str) = some (.str s) := by
  have h : (("_pipeline" : Str) == "_rows") = false := by decide +kernel
  show (match (("_pipeline" : Str) == "_rows") with | true => some (V.ref L) | false => (match (("_pipeline" : Str) == "_pipeline") with | true => some (V.str s) | false => none)) = _
  rw [h, beq_self_eq_true]
theorem lfs_no (L : Addr) (s : Str) {m : Str} (h1 : (m == ("_rows" : Str)) = false) (h2 : (m == ("_pipeline" : Str)) = false) : (lfs L s).lookup m = none := by
  show (match (m == ("_rows" : Str)) with | true => some (V.ref L) | false => (match (m == ("_pipeline" : Str)) with | true => some (V.str s) | false => none)) = _
  rw [h1, h2]
/-- an object at p: its list of rows at L -/
structure LiveAt (C : Addr) (H : Hp) (p L : Addr) (rows : List (List Nat)) (pipe : List Nat) : Prop where
  ob : ∃ dx, H p = some (.ins C dx (lfs L (mk pipe)))
  rw : H L = some (.lst (rows.map fun r => V.str (mk r)))
theorem LiveAt.ne {C : Addr} {H : Hp} {p L : Addr} {rows : List (List Nat)} {pipe : List Nat} (h : LiveAt C H p L rows pipe) : p ≠ L := by
  obtain ⟨⟨dx, h1⟩, h2⟩ := h
  exact ne_of h1 h2 (by intro z; cases z)
theorem LiveAt.same {C : Addr} {H H' : Hp} {p L : Addr} {rows : List (List Nat)} {pipe : List Nat} (h : LiveAt C H p L rows pipe) (s : Same H H') : LiveAt C H' p L rows pipe := by
  obtain ⟨⟨dx, h1⟩, h2⟩ := h
  exact ⟨⟨dx, s _ _ h1⟩, s _ _ h2⟩
theorem LiveAt.free {C : Addr} {H : Hp} {p L q : Addr} {rows : List (List Nat)} {pipe : List Nat} (h : LiveAt C H p L rows pipe) (n : H q = none) : q ≠ p ∧ q ≠ L := by
  obtain ⟨⟨dx, h1⟩, h2⟩ := h
  exact ⟨(ne_of_none h1 n).symm, (ne_of_none h2 n).symm⟩
/-- nothing but what stands at p and at L changes -/
def Same2 (p L : Addr) (H H' : Hp) : Prop := ∀ b o, b ≠ p → b ≠ L → H b = some o → H' b = some o
theorem Same2.refl (p L : Addr) (H : Hp) : Same2 p L H H := fun _ _ _ _ h => h
theorem Same2.trans {p L : Addr} {H H1 H2 : Hp} (a : Same2 p L H H1) (b : Same2 p L H1 H2) : Same2 p L H H2 := fun c o n m h => b c o n m (a c o n m h)
theorem Same.two {p L : Addr} {H H' : Hp} (h : Same H H') : Same2 p L H H' := fun b o _ _ e => h b o e
theorem Same2.atP {p L : Addr} (H : Hp) (o : HO) : Same2 p L H (upd H p o) := fun b u n _ h => by rw [upd_ne n]; exact h
theorem Same2.atL {p L : Addr} (H : Hp) (o : HO) : Same2 p L H (upd H L o) := fun b u _ n h => by rw [upd_ne n]; exact h
/-- the rows behind a row, one a sieve -/
def rowsOf (l : List Nat) (p : List Nat) : List (List Nat) := (List.range (p.length + 1)).map fun i => sv l (p.take i)
/-- the rows once more sieves have come -/
def onRows (rows : List (List Nat)) (p : List Nat) : List (List Nat) := p.foldl (fun rs c => rs ++ [once (c == 84) (rs.getLastD [])]) rows
theorem onRows_nil (rows : List (List Nat)) : onRows rows [] = rows := rfl
theorem onRows_app (rows : List (List Nat)) (p q : List Nat) : onRows rows (p ++ q) = onRows (onRows rows p) q := by unfold onRows; rw [List.foldl_append]
theorem onRows_take (rows : List (List Nat)) {p : List Nat} {i c : Nat} (h : p[i]? = some c) : onRows rows (p.take (i + 1)) = onRows rows (p.take i) ++ [once (c == 84) ((onRows rows (p.take i)).getLastD [])] := by
  rw [List.take_add_one, h, onRows_app]
  rfl
theorem onRows_len (rows : List (List Nat)) (p : List Nat) : (onRows rows p).length = rows.length + p.length := by
  induction p generalizing rows with
  | nil => rfl
  | cons c r ih =>
    show (onRows (rows ++ [once (c == 84) (rows.getLastD [])]) r).length = _
    rw [ih, List.length_append, List.length_singleton, List.length_cons]
    omega
def LenR (n : Nat) (rows : List (List Nat)) : Prop := ∀ r ∈ rows, r.length ≤ n
theorem onRows_lenR {n : Nat} {rows : List (List Nat)} (h : LenR n rows) (p : List Nat) : LenR n (onRows rows p) := by
  induction p generalizing rows with
  | nil => exact h
  | cons c r ih =>
    refine ih (rows := rows ++ [once (c == 84) (rows.getLastD [])]) fun x hx => ?_
    rcases List.mem_append.mp hx with hx | hx
    · exact h x hx
    · rw [List.mem_singleton.mp hx]
      refine Nat.le_trans (once_le _ _) ?_
      rcases List.eq_nil_or_concat rows with e | ⟨a, b, e⟩
      · rw [e]; exact Nat.zero_le _
      · rw [List.concat_eq_append] at e
        rw [e, List.getLastD_concat]
        exact h b (by rw [e]; simp)
theorem onRows_ne {rows : List (List Nat)} (h : rows ≠ []) (p : List Nat) : onRows rows p ≠ [] := fun e => by
  have h1 := onRows_len rows p
  rw [e] at h1
  have h2 := List.length_pos_iff.mpr h
  have h3 : (0 : Nat) = rows.length + p.length := h1
  omega
def spLInit (C CR : Addr) : Sp := fun vs H Q E => ∃ (p dx : Addr) (l : List Nat), vs = [.ref p, .str (mk l)] ∧ H p = some (.ins C dx []) ∧
  (bad okL l = none → ∀ H' L, H L = none → LiveAt C H' p L [l] [] → (∀ b o, b ≠ p → H b = some o → H' b = some o) → Q .non H') ∧ ∀ i, bad okL l = some i → Rz CR i H E
def spLRowP (C : Addr) : Sp := fun vs H Q _ => ∃ (p L : Addr) (rows : List (List Nat)) (pipe : List Nat), vs = [.ref p] ∧ LiveAt C H p L rows pipe ∧ rows ≠ [] ∧ Q (.str (mk (rows.getLastD []))) H
def spLPipeP (C : Addr) : Sp := fun vs H Q _ => ∃ (p L : Addr) (rows : List (List Nat)) (pipe : List Nat), vs = [.ref p] ∧ LiveAt C H p L rows pipe ∧ Q (.str (mk pipe)) H
def spLEmptyP (C : Addr) : Sp := fun vs H Q _ => ∃ (p L : Addr) (rows : List (List Nat)) (pipe : List Nat), vs = [.ref p] ∧ LiveAt C H p L rows pipe ∧ rows ≠ [] ∧ Q (.bl (decide (rows.getLastD [] = []))) H
def spLSieve0 (C C1 : Addr) : Sp := fun vs H Q E => ∃ (p L t : Addr) (rows : List (List Nat)) (pipe : List Nat) (ws : List (List Nat)), vs = [.ref p, .ref t] ∧ LiveAt C H p L rows pipe ∧ H t = some (.tup (ws.map fun w => V.str (mk w))) ∧ rows ≠ [] ∧ LenR 1000 rows ∧ rows.length + ws.flatten.length ≤ 100000 ∧ ws.length ≤ 1000 ∧ pipe.length + ws.flatten.length ≤ 100000 ∧
  (bad okP ws.flatten = none → ∀ H', LiveAt C H' p L (onRows rows ws.flatten) (pipe ++ ws.flatten) → Same2 p L H H' → Q .non H') ∧ ∀ i, bad okP ws.flatten = some i → Rz C1 i H E
/-- sieve, called with pipelines one by one -/
def spLSieve (C C1 : Addr) : Sp := fun vs H Q E => ∃ (p L : Addr) (rows : List (List Nat)) (pipe : List Nat) (ws : List (List Nat)), vs = .ref p :: ws.map (fun w => V.str (mk w)) ∧ LiveAt C H p L rows pipe ∧ rows ≠ [] ∧ LenR 1000 rows ∧ rows.length + ws.flatten.length ≤ 100000 ∧ ws.length ≤ 1000 ∧ pipe.length + ws.flatten.length ≤ 100000 ∧
  (bad okP ws.flatten = none → ∀ H', LiveAt C H' p L (onRows rows ws.flatten) (pipe ++ ws.flatten) → Same2 p L H H' → Q .non H') ∧ ∀ i, bad okP ws.flatten = some i → Rz C1 i H E
def spLUndo (C CU : Addr) : Sp := fun vs H Q E => ∃ (p L : Addr) (rows : List (List Nat)) (pipe : List Nat), vs = [.ref p] ∧ LiveAt C H p L rows pipe ∧ rows ≠ [] ∧ pipe.length ≤ 100000 ∧
  (pipe ≠ [] → ∀ H', LiveAt C H' p L rows.dropLast pipe.dropLast → Same2 p L H H' → Q .non H') ∧ (pipe = [] → RzV CU (.int 0) H E)
def spLHist (C : Addr) : SpG := fun vs H Q _ => ∃ (p L : Addr) (rows : List (List Nat)) (pipe : List Nat), vs = [.ref p] ∧ LiveAt C H p L rows pipe ∧ rows.length ≤ 100000 ∧ Q (rows.map fun r => V.str (mk r)) H
structure LTxt (K : PySem.W.Frag) (mg : Str → Option Value) (C : Addr) : Prop where
  cl : Cls K C
  nR : NoAttr K C "_rows"
  nP : NoAttr K C "_pipeline"
  g : mg "SieveRow" = some (.ref C)
theorem lst_last {rows : List (List Nat)} (h : rows ≠ []) : atI (rows.map fun r => V.str (mk r)) (-1) = some (V.str (mk (rows.getLastD []))) := by
  rcases List.eq_nil_or_concat rows with e | ⟨a, b, e⟩
  · exact absurd e h
  · rw [List.concat_eq_append] at e
    rw [e, List.getLastD_concat, List.map_append]
    exact atI_last _ _
theorem cutS_butlast (l : List Nat) : cutS (mk l) none (some (-1)) = mk l.dropLast := by
  unfold cutS
  have e1 : HT.sIx (mk l).length 0 none = 0 := rfl
  have e2 : HT.sIx (mk l).length (mk l).length (some (-1)) = l.length - 1 := by
    rw [mk_len]
    unfold HT.sIx
    show _ = l.length - 1
    simp
    omega
  rw [e1, e2, List.dropLast_eq_take]
  rfl
end Tw

set_option Elab.async false
set_option linter.all false
set_option maxRecDepth 100000
set_option maxHeartbeats 2000000
namespace Tw
open PySem PySem.Spec PyProof.Rows L2
/-! a pipeline is shown as its text -/
def showL (p : List Nat) : List Nat := if p = [] then noneL else TL.joinL [32] ((runs p).map wordL)
theorem joinL_snoc (S : List Nat) (y : List Nat) : ∀ xs : List (List Nat), TL.joinL S (xs ++ [y]) = if xs = [] then y else TL.joinL S xs ++ (S ++ y)
  | [] => rfl
  | [x] => rfl
  | x :: z :: r => by
    have ih := joinL_snoc S y (z :: r)
    rw [if_neg (List.cons_ne_nil _ _)] at ih
    rw [if_neg (List.cons_ne_nil _ _)]
    show x ++ (S ++ TL.joinL S (z :: r ++ [y])) = (x ++ (S ++ TL.joinL S (z :: r))) ++ (S ++ y)
    rw [ih]
    simp only [List.append_assoc]
theorem runs_ne {p : List Nat} (h : p ≠ []) : runs p ≠ [] := fun e => by
  have := flat_runs p
  rw [e] at this
  exact h this.symm
theorem turns_from (b c : Nat) (hb : c ≠ b) : ∀ (l : List Nat) (n : Nat), 1 ≤ n → (c = 84 ∨ c = 83) → Pipe l → Turns b (runsFrom c n l) := by
  intro l
  induction l generalizing b c with
  | nil => exact fun n hn hc _ => ⟨hb, hc, hn, trivial⟩
  | cons d r ih =>
    intro n hn hc hp
    have hd : d = 84 ∨ d = 83 := hp d List.mem_cons_self
    have hr : Pipe r := fun x hx => hp x (List.mem_cons_of_mem _ hx)
    rw [runsFrom]
    by_cases h : d = c
    · rw [if_pos h]
      exact ih b c hb (n + 1) (by omega) hc hr
    · rw [if_neg h]
      exact ⟨hb, hc, hn, ih c d h 1 (Nat.le_refl _) hd hr⟩
theorem turns_runs {p : List Nat} (hp : Pipe p) : Turns 0 (runs p) := by
  cases p with
  | nil => exact trivial
  | cons c r =>
    have hc : c = 84 ∨ c = 83 := hp c List.mem_cons_self
    exact turns_from 0 c (by omega) r 1 (Nat.le_refl _) hc fun x hx => hp x (List.mem_cons_of_mem _ hx)
theorem flatW_runs (p : List Nat) : flatW (runs p) = p := flat_runs p
/-- a pipeline that is shown is read as what it was -/
theorem read_show {p : List Nat} (hp : Pipe p) : ∃ rs, readN (showL p) = some rs ∧ flatW rs = p := by
  by_cases h : p = []
  · subst h
    refine ⟨[], ?_, rfl⟩
    unfold readN showL
    rw [if_pos rfl, if_pos rfl]
  · refine ⟨runs p, ?_, flatW_runs p⟩
    unfold showL
    rw [if_neg h]
    exact read_note (runs_ne h) (turns_runs hp) (runs_heads hp)
theorem showL_len {p : List Nat} (h : p.length ≤ 1000000) : (showL p).length ≤ 9 * p.length + 4 := by
  unfold showL
  split
  · show 4 ≤ _; omega
  · have h1 := joinL_len (ws := runs p) fun q hq => Nat.le_trans (runs_counts q hq) h
    have h2 := runs_le p
    omega
theorem showL_asc {p : List Nat} (hp : Pipe p) : Asc (showL p) := by
  unfold showL
  split
  · exact (by decide : ∀ c ∈ noneL, c < 128)
  · exact joinL_asc (runs_heads hp)
def spShowRun : Sp := fun vs H Q _ => ∃ (c n : Nat), vs = [.str (mk [c]), .int (n : Nat)] ∧ n ≤ 1000000 ∧ ∀ H', Same H H' → Q (.str (mk (wordL (c, n)))) H'
def spShow : Sp := fun vs H Q _ => ∃ p : List Nat, vs = [.str (mk p)] ∧ p.length ≤ 1000 ∧ ∀ H', Same H H' → Q (.str (mk (showL p))) H'
theorem str_num (n : Nat) : Str.ofString (toString ((n : Nat) : Int)) = mk (TL.numL n) := SX.num_S n
/-- what a walk over the letters has made of the runs -/
def OwnI (p : List Nat) (i : Nat) (rs : List (Nat × Nat)) (m : Nat) : Prop :=
  (m = 0 ∧ runs (p.take i) = rs ∧ ∀ r' a n, rs = r' ++ [(a, n)] → ∀ c, p[i]? = some c → a ≠ c) ∨ (∃ c, 1 ≤ m ∧ runs (p.take i) = rs ++ [(c, m)] ∧ p[i]? = some c)
theorem own_step {p : List Nat} {i m c : Nat} {rs : List (Nat × Nat)} (h : OwnI p i rs m) (hc : p[i]? = some c) : runs (p.take (i + 1)) = rs ++ [(c, m + 1)] := by
  rw [runs_take hc]
  rcases h with ⟨rfl, e, h⟩ | ⟨d, h1, e, hd⟩
  · rw [e]
    rcases snoc_cases rs with e2 | ⟨r', q, e2⟩
    · rw [e2]; rfl
    · obtain ⟨a, n⟩ := q
      rw [e2, addRun_snoc, if_neg (h r' a n e2 c hc)]
  · rw [hc] at hd
    cases hd
    rw [e, addRun_snoc, if_pos rfl]
theorem own_on {p : List Nat} {i m c : Nat} {rs : List (Nat × Nat)} (h : OwnI p i rs m) (hc : p[i]? = some c) (hn : p[i + 1]? = some c) : OwnI p (i + 1) rs (m + 1) :=
  .inr ⟨c, by omega, own_step h hc, hn⟩
theorem own_cut {p : List Nat} {i m c : Nat} {rs : List (Nat × Nat)} (h : OwnI p i rs m) (hc : p[i]? = some c) (hn : ¬ p[i + 1]? = some c) : OwnI p (i + 1) (rs ++ [(c, m + 1)]) 0 :=
  .inl ⟨rfl, own_step h hc, fun r' a n e d hd => by
    obtain ⟨_, e2⟩ := List.append_inj' e rfl
    cases e2
    intro z
    rw [z] at hn
    exact hn hd⟩
theorem own_end {p : List Nat} {m : Nat} {rs : List (Nat × Nat)} (h : OwnI p p.length rs m) : runs p = rs := by
  rcases h with ⟨_, e, _⟩ | ⟨c, _, _, hc⟩
  · rw [List.take_length] at e; exact e
  · simp at hc
theorem own_len {p : List Nat} {i m : Nat} {rs : List (Nat × Nat)} (h : OwnI p i rs m) : rs.length ≤ p.length ∧ m ≤ p.length := by
  have h1 : ∀ q ∈ runs (p.take i), q.2 ≤ p.length := fun q hq => Nat.le_trans (runs_counts q hq) (by rw [List.length_take]; omega)
  have h2 := runs_le (p.take i)
  have h3 : (p.take i).length ≤ p.length := by rw [List.length_take]; omega
  rcases h with ⟨rfl, e, _⟩ | ⟨c, _, e, hc⟩
  · rw [e] at h2; omega
  · have := h1 (c, m) (by rw [e]; exact List.mem_append_right _ (List.mem_singleton.mpr rfl))
    rw [e, List.length_append] at h2
    refine ⟨?_, this⟩
    omega
theorem mid_one {p : List Nat} {i c : Nat} : (p.drop i).take 1 = [c] ↔ p[i]? = some c := by
  rw [List.take_one, List.head?_drop]
  cases p[i]? <;> simp
/-- the text so far, and one more word -/
def textR (rs : List (Nat × Nat)) : List Nat := TL.joinL [32] (rs.map wordL)
theorem textR_snoc (rs : List (Nat × Nat)) (q : Nat × Nat) : textR (rs ++ [q]) = textR rs ++ ((if rs = [] then [] else [32]) ++ wordL q) := by
  unfold textR
  rw [List.map_append]
  show TL.joinL [32] (rs.map wordL ++ [wordL q]) = _
  rw [joinL_snoc]
  by_cases h : rs = []
  · subst h
    rfl
  · rw [if_neg h, if_neg (fun e => h (List.map_eq_nil_iff.mp e))]
theorem textR_nil {rs : List (Nat × Nat)} : textR rs = [] ↔ rs = [] := by
  constructor
  · intro h
    cases rs with
    | nil => rfl
    | cons q r =>
      obtain ⟨t, e⟩ := joinL_head (ws := q :: r) rfl
      unfold textR at h
      rw [e] at h
      cases h
  · rintro rfl; rfl
theorem textR_len {p : List Nat} {i m : Nat} {rs : List (Nat × Nat)} (hp : p.length ≤ 1000) (h : OwnI p i rs m) : (textR rs).length ≤ 9000 := by
  have h1 : ∀ q ∈ rs, q.2 ≤ 1000000 := by
    have h0 : ∀ q ∈ runs (p.take i), q.2 ≤ p.length := fun q hq => Nat.le_trans (runs_counts q hq) (by rw [List.length_take]; omega)
    intro q hq
    rcases h with ⟨_, e, _⟩ | ⟨c, _, e, _⟩
    · have := h0 q (by rw [e]; exact hq); omega
    · have := h0 q (by rw [e]; exact List.mem_append_left _ hq); omega
  have h2 := joinL_len h1
  have := (own_len h).1
  unfold textR
  omega
theorem showL_own {p : List Nat} : showL p = if textR (runs p) = [] then noneL else textR (runs p) := by
  unfold showL
  by_cases h : p = []
  · subst h; rfl
  · rw [if_neg h, if_neg (fun e => runs_ne h (textR_nil.mp e))]
    rfl
end Tw
namespace Tw
open PySem PySem.Spec PyProof.Rows L2
def spRead1 : Sp := fun vs H Q _ => ∃ ws : List (Nat × Nat), vs = [.str (mk (textR ws))] ∧ Turns 0 ws ∧ (∀ q ∈ ws, (q.1 = 84 ∨ q.1 = 83) ∧ q.2 ≤ 1000) ∧ (ws ≠ [] ∧ ws.length ≤ 1000) ∧ ∀ H', Same H H' → Q (.str (mk (flatW ws))) H'
theorem turns_pos : ∀ {ws : List (Nat × Nat)} {b : Nat}, Turns b ws → ∀ q ∈ ws, 1 ≤ q.2
  | [], _, _, _, h => by cases h
  | z :: r, b, h, q, hq => by
    rcases List.mem_cons.mp hq with e | e
    · rw [e]; exact h.2.2.1
    · exact turns_pos h.2.2.2 q e
theorem read1_of {CU : Addr} : ∀ vs H Q E, spRead1 vs H Q E → spReadX CU vs H Q (fun _ _ _ => False) := by
  rintro vs H Q E ⟨ws, rfl, tn, hk0, ⟨hne, hl⟩, q⟩
  have hk : ∀ q ∈ ws, q.1 = 84 ∨ q.1 = 83 := fun q hq => (hk0 q hq).1
  have hc : ∀ q ∈ ws, q.2 ≤ 1000 := fun q hq => (hk0 q hq).2
  have hr := read_note hne tn hk
  have hjl := joinL_len (ws := ws) fun q hq => by have := hc q hq; omega
  refine ⟨TL.joinL [32] (ws.map wordL), 1000, rfl, joinL_asc hk, by omega, fun w hw => ?_, ⟨by decide, ?_⟩, fun rs hrs => ?_, fun z => ?_⟩
  · rw [words_note hne hk] at hw
    obtain ⟨q, hq, rfl⟩ := List.mem_map.mp hw
    have := hc q hq
    refine ⟨?_, ?_⟩
    · have := word_len (q := q) (by omega)
      omega
    · rw [cnt_word (hk q hq) (turns_pos tn q hq)]
      exact this
  · rw [words_note hne hk, List.length_map]
    omega
  · rw [hr] at hrs
    cases hrs
    exact q
  · rw [hr] at z
    cases z
end Tw
namespace Tw
open PySem PySem.Spec PyProof.Rows L2
theorem kindAt_lit0 (j : Nat) : atI (Str.ofString "TS").cps.toList ((0 + (j : Int)) % 2) = some (kindAt 0 j) := by
  have := kindAt_lit 0 j
  rw [show (((0 : Nat) : Int) + (0 + (j : Int))) = 0 + (j : Int) by omega] at this
  exact this
theorem wordsum8 {ws : List (Nat × Nat)} (hw : ∀ q ∈ ws, (wordL q).length ≤ 8) : ((ws.map fun q => mk (wordL q)).map (·.length)).sum ≤ 8 * ws.length := by
  induction ws with
  | nil => exact Nat.le_refl _
  | cons q r ih =>
    have h1 := hw q List.mem_cons_self
    have h2 := ih fun z hz => hw z (List.mem_cons_of_mem _ hz)
    rw [List.map_cons, List.map_cons, List.sum_cons, mk_len, List.length_cons]
    omega
end Tw

set_option Elab.async false
set_option linter.all false
set_option maxRecDepth 100000
set_option maxHeartbeats 2000000
namespace Tw
open PySem PySem.Spec PyProof.Rows L2
/-! what the laws about objects share -/
def spLine : Sp := fun vs H Q _ => ∃ (r : Addr) (n : Nat) (c : Int), vs = [.ref r, .int (n : Nat)] ∧ n ≤ 200 ∧ Pool r c H ∧ c < 100000 ∧
  ∀ H' l, SameB r H H' → Pool r (c + 700) H' → Low l → l.length ≤ n → Q (.str (mk l)) H'
/-- one row ahead of a sieve: the least letters between equal neighbours -/
def sepB (t : Bool) (x : Nat) : List Nat := List.replicate (if t then 1 else 2) (if x = 97 then 98 else 97)
def bef1 (t : Bool) : List Nat → List Nat
  | [] => []
  | [x] => List.replicate (if t then 2 else 1) x
  | x :: y :: r => List.replicate (if t then 2 else 1) x ++ ((if x = y then sepB t x else []) ++ bef1 t (y :: r))
def befL (l p : List Nat) : List Nat := p.foldr (fun c a => bef1 (c == 84) a) l
theorem sepB_len (t : Bool) (x : Nat) : (sepB t x).length ≤ 2 := by unfold sepB; rw [List.length_replicate]; split <;> decide
theorem bef1_len (t : Bool) : ∀ l : List Nat, (bef1 t l).length ≤ 4 * l.length
  | [] => Nat.le_refl _
  | [x] => by
    unfold bef1
    rw [List.length_replicate, List.length_singleton]
    split <;> decide
  | x :: y :: r => by
    have ih := bef1_len t (y :: r)
    have h1 := sepB_len t x
    unfold bef1
    rw [List.length_append, List.length_append, List.length_replicate, List.length_cons (a := x)]
    have h2 : (if t then 2 else 1 : Nat) ≤ 2 := by split <;> decide
    have h3 : (if x = y then sepB t x else []).length ≤ 2 := by split; exact h1; exact Nat.zero_le _
    omega
theorem bef1_low (t : Bool) : ∀ l : List Nat, Low l → Low (bef1 t l)
  | [], h => h
  | [x], h => fun c hc => by
    unfold bef1 at hc
    rw [(List.mem_replicate.mp hc).2]
    exact h x (List.mem_singleton.mpr rfl)
  | x :: y :: r, h => fun c hc => by
    have ih := bef1_low t (y :: r) (fun z hz => h z (List.mem_cons_of_mem _ hz))
    unfold bef1 at hc
    rcases List.mem_append.mp hc with e | e
    · rw [(List.mem_replicate.mp e).2]
      exact h x List.mem_cons_self
    · rcases List.mem_append.mp e with e | e
      · split at e
        · unfold sepB at e
          rw [(List.mem_replicate.mp e).2]
          split <;> decide
        · cases e
      · exact ih c e
theorem befL_low {l : List Nat} (h : Low l) (p : List Nat) : Low (befL l p) := by
  induction p with
  | nil => exact h
  | cons c r ih => exact bef1_low _ _ ih
theorem befL_len (l p : List Nat) : (befL l p).length ≤ 4 ^ p.length * l.length := by
  induction p with
  | nil => show l.length ≤ 1 * l.length; omega
  | cons c r ih =>
    have := bef1_len (c == 84) (befL l r)
    show (bef1 (c == 84) (befL l r)).length ≤ 4 ^ (r.length + 1) * l.length
    rw [Nat.pow_succ]
    have e : 4 ^ r.length * 4 * l.length = 4 * (4 ^ r.length * l.length) := by rw [Nat.mul_comm (4 ^ r.length) 4, Nat.mul_assoc]
    rw [e]
    omega
def spBefore : Sp := fun vs H Q _ => ∃ (l p : List Nat), vs = [.str (mk l), .str (mk p)] ∧ Low l ∧ Pipe p ∧ p.length ≤ 1000 ∧ (∀ j, (befL l (p.drop j)).length ≤ 100000) ∧ ∀ H', Same H H' → Q (.str (mk (befL l p))) H'
def LowR (rows : List (List Nat)) : Prop := ∀ r ∈ rows, Low r
def spToldR (C : Addr) : Sp := fun vs H Q _ => ∃ (p L R : Addr) (rows : List (List Nat)) (st : List Nat), vs = [.ref p, .ref R, .str (mk st)] ∧ LiveAt C H p L rows st ∧ H R = some (.lst (rows.map fun r => V.str (mk r))) ∧ rows ≠ [] ∧ rows.length ≤ 1000 ∧ LowR rows ∧ Pipe st ∧ ∀ H', Same H H' → Q (.bl true) H'
def spApplX (C C1 : Addr) : Sp := fun vs H Q E => ∃ (p L S : Addr) (rows : List (List Nat)) (pipe : List Nat) (ws : List (List Nat)), vs = [.ref p, .ref S] ∧ LiveAt C H p L rows pipe ∧ H S = some (.lst (ws.map fun w => V.str (mk w))) ∧ ws.length ≤ 4 ∧ rows ≠ [] ∧ LenR 1000 rows ∧ rows.length + ws.flatten.length ≤ 100000 ∧ pipe.length + ws.flatten.length ≤ 100000 ∧
  (bad okP ws.flatten = none → ∀ H', LiveAt C H' p L (onRows rows ws.flatten) (pipe ++ ws.flatten) → Same2 p L H H' → Q .non H') ∧ ∀ i, bad okP ws.flatten = some i → Rz C1 i H E
def spAppl0 (C : Addr) : Sp := fun vs H Q _ => ∃ (p L S : Addr) (rows : List (List Nat)) (pipe : List Nat) (ws : List (List Nat)), vs = [.ref p, .ref S] ∧ LiveAt C H p L rows pipe ∧ H S = some (.lst (ws.map fun w => V.str (mk w))) ∧ ws.length ≤ 4 ∧ rows ≠ [] ∧ LenR 1000 rows ∧ rows.length + ws.flatten.length ≤ 100000 ∧ pipe.length + ws.flatten.length ≤ 100000 ∧ Pipe ws.flatten ∧
  ∀ H', LiveAt C H' p L (onRows rows ws.flatten) (pipe ++ ws.flatten) → Same2 p L H H' → Q .non H'
theorem appl0_of {C C1 : Addr} : ∀ vs H Q E, spAppl0 C vs H Q E → spApplX C C1 vs H Q (fun _ _ _ => False) := by
  rintro vs H Q E ⟨p, L, S, rows, pipe, ws, rfl, h1, h2, h3, h4, h5, h6, h7, h8, q⟩
  exact ⟨p, L, S, rows, pipe, ws, rfl, h1, h2, h3, h4, h5, h6, h7, fun _ => q, fun i hi => no_bad (pipe_bad h8) hi⟩
def spOn : Sp := fun vs H Q _ => ∃ (R : Addr) (rows : List (List Nat)) (p : List Nat), vs = [.ref R, .str (mk p)] ∧ H R = some (.lst (rows.map fun r => V.str (mk r))) ∧ rows ≠ [] ∧ LowR rows ∧ LenR 1000 rows ∧ rows.length ≤ 1000 ∧ Pipe p ∧ p.length ≤ 1000 ∧
  ∀ H' N, Same H H' → H N = none → H' N = some (.lst ((onRows rows p).map fun r => V.str (mk r))) → Q (.ref N) H'
theorem onRows_low {rows : List (List Nat)} (h : LowR rows) (p : List Nat) : LowR (onRows rows p) := by
  induction p generalizing rows with
  | nil => exact h
  | cons c r ih =>
    refine ih (rows := rows ++ [once (c == 84) (rows.getLastD [])]) fun x hx => ?_
    rcases List.mem_append.mp hx with hx | hx
    · exact h x hx
    · rw [List.mem_singleton.mp hx]
      intro y hy
      have hy := once_mem hy
      rcases List.eq_nil_or_concat rows with e | ⟨a, b, e⟩
      · rw [e] at hy; cases hy
      · rw [List.concat_eq_append] at e
        rw [e, List.getLastD_concat] at hy
        exact h b (by rw [e]; simp) y hy
/-- undo, told: what it gives, or its error -/
def spUndone (C : Addr) : Sp := fun vs H Q _ => ∃ (p L : Addr) (rows : List (List Nat)) (pipe : List Nat), vs = [.ref p] ∧ LiveAt C H p L rows pipe ∧ rows ≠ [] ∧ pipe.length ≤ 100000 ∧
  (pipe ≠ [] → ∀ H' N, LiveAt C H' p L rows.dropLast pipe.dropLast → Same2 p L H H' → H N = none → H' N = some (.lst [.str "none", .non]) → Q (.ref N) H') ∧
  (pipe = [] → ∀ H' N, Same H H' → H N = none → H' N = some (.lst [.str "undo", .int 0]) → Q (.ref N) H')
theorem fnR0 {P : Program} {w : World} {K : PySem.W.Frag} {mg : Str → Option Value} {base : Heap} {k : Nat} {f : Addr} {sp sp0 : Sp} (G : FnR P w K mg base (L2.CX P w) k f sp)
    (h : ∀ vs H Q E, sp0 vs H Q E → sp vs H Q (fun _ _ _ => False)) : FnR P w K mg base CX0 k f sp0 := by
  intro A outer s H us vs Q E hr e0 r q
  refine codeAny_mono (G A outer s H us vs Q (fun _ _ _ => False) hr e0 r (h _ _ _ _ q)) fun r' s' hq => ?_
  match r', hq with
  | .ok (.ret u), hq => exact hq
  | .ok .next, hq => exact hq
  | .ok .brk, hq => exact hq
  | .ok .cont, hq => exact hq
  | .error e, hq =>
    obtain ⟨_, _, _, _, _, _, _, _, _, _, _, _, z⟩ := hq
    exact z.elim
theorem passF {P : Program} {w : World} {X : Cx} : Passes (L2.CX P w) X (fun _ _ _ => False) := fun _ _ _ _ _ _ _ h => by
  obtain ⟨_, _, _, _, _, _, _, _, _, _, _, _, z⟩ := h
  exact z.elim
/-- o.m() of a def with star parameters -/
theorem pe_methR0 {X : Cx} {CX : CXT} {k : Nat} {f C : Addr} {sp : Sp} {E : XK} {m : Str} {pos' apos : Pos} {o : Expr} {ta : TE} {pl : Sem Bool} (he : PE X o ta) (c : Cls X.K C) (hm : Meth X.K C m f) (F : FnR X.prog X.w X.K X.mg X.base CX k f sp) (hr : Room k X.A) (hx : Passes CX X E)
    (ht : eval (.Call (.Attribute o m apos) [] [] pos') X.env = (do
      let ov ← eval o X.env
      standAt apos.atName
      let (f, first) ← holding [ov] (getMethod ov m pl)
      callWith pos' f first (backTo pos' (starEach [] X.env)) (backToKw pos' (keywordEach [] X.env))) := by rfl) :
    PE X (.Call (.Attribute o m apos) [] [] pos') (tMethR C m sp E ta tNil) := by
  refine ⟨fun pins s σ H Q I h => ?_⟩
  refine PySem.W.methodCall_KW (pl := pl) (thn (he.run pins s σ H _ I h) fun u s1 ⟨x, H1, I1, rx, a, dx, fs, ex, ea, l, q⟩ => ?_) ht
  subst ex
  obtain rfl : u = Value.ref a := rx
  refine getmeth_ok I1 ea c hm l ?_
  exact PySem.W.callWith_K0 (first := [.ref a]) I1.kIn hm.kp (wpAny_call (run_fnR (us := [.ref a]) (vs := [.ref a]) F hr hx I1 (.cons rfl .nil) q))
end Tw
namespace Tw
open PySem PySem.Spec PyProof.Rows L2
theorem lt200 {x : Int} (h : x < 100000) : x < 2 ^ 200 := Int.lt_trans h (by decide +kernel)
theorem lit_az2 : TL.tl (Str.ofString "abcdefghijklmnopqrstuvwxyz") = (List.range 26).map (97 + ·) := by decide +kernel
theorem len_az2 : (Str.ofString "abcdefghijklmnopqrstuvwxyz").length ≤ sizeLine := by
  have e : (Str.ofString "abcdefghijklmnopqrstuvwxyz").length = 26 := by decide +kernel
  rw [e, sizeLine_eq]; decide
theorem az_at2 {w : Nat} (h : w < 26) : atI (Str.ofString "abcdefghijklmnopqrstuvwxyz").cps.toList ((w : Nat) : Int) = some (97 + w) := by
  rw [show (Str.ofString "abcdefghijklmnopqrstuvwxyz").cps.toList = (List.range 26).map (97 + ·) from lit_az2]
  refine atI_nat ?_
  rw [List.getElem?_map, List.getElem?_range h]
  rfl
end Tw
namespace Tw
open PySem PySem.Spec PyProof.Rows L2
/-- place by place: what stands ahead of the first i letters -/
def bef1A (t : Bool) (l : List Nat) (i : Nat) : List Nat := (List.range i).flatMap fun j => match l[j]? with
  | some x => List.replicate (if t then 2 else 1) x ++ (if l[j + 1]? = some x then sepB t x else [])
  | none => []
theorem bef1A_cons (t : Bool) (x y : Nat) (r : List Nat) (i : Nat) : bef1A t (x :: y :: r) (i + 1) = List.replicate (if t then 2 else 1) x ++ ((if x = y then sepB t x else []) ++ bef1A t (y :: r) i) := by
  unfold bef1A
  rw [List.range_succ_eq_map, List.flatMap_cons, List.flatMap_map]
  have e : ((x :: y :: r)[0 + 1]? = some x) ↔ x = y := ⟨fun z => (Option.some.inj z).symm, fun z => congrArg some z.symm⟩
  show (List.replicate (if t then 2 else 1) x ++ (if (x :: y :: r)[0 + 1]? = some x then sepB t x else [])) ++ _ = _
  rw [List.append_assoc]
  congr 1
  congr 1
  by_cases h : x = y
  · rw [if_pos h, if_pos (e.mpr h)]
  · rw [if_neg h, if_neg (fun z => h (e.mp z))]
theorem bef1A_all (t : Bool) : ∀ l : List Nat, bef1A t l l.length = bef1 t l
  | [] => rfl
  | [x] => by
    have e : ¬ (([x] : List Nat)[0 + 1]? = some x) := by simp
    unfold bef1A bef1
    show (List.replicate (if t then 2 else 1) x ++ (if ([x] : List Nat)[0 + 1]? = some x then sepB t x else [])) ++ [] = _
    rw [if_neg e, List.append_nil, List.append_nil]
  | x :: y :: r => by
    rw [List.length_cons, bef1A_cons, bef1A_all t (y :: r)]
    rfl
theorem bef1A_len (t : Bool) (l : List Nat) (i : Nat) : (bef1A t l i).length ≤ 4 * i := by
  induction i with
  | zero => exact Nat.le_refl _
  | succ i ih =>
    unfold bef1A at ih ⊢
    rw [List.range_succ, List.flatMap_append, List.length_append, List.flatMap_singleton]
    have : ∀ o : Option Nat, (match o with | some x => List.replicate (if t then 2 else 1) x ++ (if l[i + 1]? = some x then sepB t x else []) | none => [] : List Nat).length ≤ 4 := by
      intro o
      cases o with
      | none => exact Nat.zero_le _
      | some x =>
        show (List.replicate (if t then 2 else 1) x ++ (if l[i + 1]? = some x then sepB t x else [])).length ≤ 4
        rw [List.length_append, List.length_replicate]
        have h1 := sepB_len t x
        have h2 : (if t then 2 else 1 : Nat) ≤ 2 := by split <;> decide
        have h3 : (if l[i + 1]? = some x then sepB t x else []).length ≤ 2 := by split; exact h1; exact Nat.zero_le _
        omega
    have := this l[i]?
    omega
end Tw
namespace Tw
open PySem PySem.Spec PyProof.Rows L2
theorem at_12 (t : Bool) : atI [V.int 1, V.int 2] (if decide (V.str (mk (sOf t)) = V.str (Str.ofString "T")) = true then (1 : Int) else 0) = some (V.int ((if t then 2 else 1 : Nat) : Nat)) := by
  have e : decide (V.str (mk (sOf t)) = V.str (Str.ofString "T")) = t := by
    have := eqT t
    rw [show (Str.ofString "T") = ("T" : Str) from rfl, this]
    cases t <;> rfl
  rw [e]
  cases t
  · exact atI_nat (j := 0) rfl
  · exact atI_nat (j := 1) rfl
theorem at_21 (t : Bool) : atI [V.int 2, V.int 1] (if decide (V.str (mk (sOf t)) = V.str (Str.ofString "T")) = true then (1 : Int) else 0) = some (V.int ((if t then 1 else 2 : Nat) : Nat)) := by
  have e : decide (V.str (mk (sOf t)) = V.str (Str.ofString "T")) = t := by
    have := eqT t
    rw [show (Str.ofString "T") = ("T" : Str) from rfl, this]
    cases t <;> rfl
  rw [e]
  cases t
  · exact atI_nat (j := 0) rfl
  · exact atI_nat (j := 1) rfl
theorem at_ba (x : Nat) : atI [V.str (Str.ofString "b"), V.str (Str.ofString "a")] (if (!decide (V.str (mk [x]) = V.str (Str.ofString "a"))) = true then (1 : Int) else 0) = some (V.str (mk [if x = 97 then 98 else 97])) := by
  have ea : (Str.ofString "a") = mk [97] := by decide +kernel
  have eb : (Str.ofString "b") = mk [98] := by decide +kernel
  rw [ea, eb]
  by_cases h : x = 97
  · subst h
    exact atI_nat (j := 0) rfl
  · have e : (!decide (V.str (mk [x]) = V.str (mk [97]))) = true := by rw [decide_eq_false fun z => h (eq_mk1.mp z)]; rfl
    rw [e, if_neg h]
    exact atI_nat (j := 1) rfl
end Tw
namespace Tw
open PySem PySem.Spec PyProof.Rows L2
/-- a method of the class, by its def -/
structure MDf (K : PySem.W.Frag) (C : Addr) (m qual : Str) (st : Stmt) (ps : List Str) (f : Addr) (fd : FuncData) : Prop where
  F : Fun K m qual st f fd
  b : Binds K fd ps []
  m : Meth K C m f
structure PDf (K : PySem.W.Frag) (C : Addr) (m qual : Str) (st : Stmt) (p f : Addr) (fd : FuncData) : Prop where
  F : Fun K m qual st f fd
  b : Binds K fd ["self"] []
  p : PropOf K C m p f
theorem strs_dp {K : PySem.W.Frag} {H : Hp} : ∀ rows : List (List Nat), DpAll K H (rows.map fun r => V.str (mk r)) (rows.map fun r => PyData.str (mk r))
  | [] => .nil
  | r :: rs => .cons (.str _) (strs_dp rs)
theorem strok_low {l : List Nat} (h : ∀ c ∈ l, c < 55296) : PyData.strOk (mk l) = true := by
  unfold PyData.strOk
  show l.toArray.all _ = true
  rw [← Array.all_toList, List.all_eq_true]
  intro c hc
  have := h c hc
  simp
  omega
theorem strs_sh {rows : List (List Nat)} (h : ∀ r ∈ rows, ∀ c ∈ r, c < 55296) : SeqAt.shaped (.list (rows.map fun r => PyData.str (mk r))) = true := by
  have h1 : ∀ rows : List (List Nat), (∀ r ∈ rows, ∀ c ∈ r, c < 55296) → PyData.canLayAll0 (rows.map fun r => PyData.str (mk r)) = true := by
    intro rows
    induction rows with
    | nil => intro _; simp [PyData.canLayAll0]
    | cons q r ih =>
      intro h
      have e := strok_low (h q List.mem_cons_self)
      simp [PyData.canLayAll0, PyData.canLay0, e, ih fun z hz => h z (List.mem_cons_of_mem _ hz)]
  have h2 : ∀ rows : List (List Nat), PyData.depthAll (rows.map fun r => PyData.str (mk r)) = 0 := by
    intro rows
    induction rows with
    | nil => simp [PyData.depthAll]
    | cons q r ih => simp [PyData.depthAll, PyData.depth, ih]
  unfold SeqAt.shaped
  have h3 := h2 rows
  simp [PyData.canLay0, PyData.depth, h1 rows h, h3]
end Tw
namespace Tw
open PySem PySem.Spec PyProof.Rows L2
theorem three_sh {a b : List Nat} (ha : ∀ c ∈ a, c < 55296) (hb : ∀ c ∈ b, c < 55296) (x : Bool) : SeqAt.shaped (.list [.str (mk a), .str (mk b), .bool x]) = true := by
  have a1 := strok_low ha
  have a2 := strok_low hb
  unfold SeqAt.shaped
  simp [PyData.canLay0, PyData.canLayAll0, PyData.depth, PyData.depthAll, a1, a2]
end Tw
namespace Tw
open PySem PySem.Spec PyProof.Rows L2
theorem eqv_self {d : PyData} (h : SeqAt.shaped d = true) : PyData.eqv d d = true := by
  unfold SeqAt.shaped at h
  rw [Bool.and_eq_true] at h
  exact SeqAt.eqv_refl d h.1
end Tw
namespace Tw
open PySem PySem.Spec PyProof.Rows L2
/-- o.m() in a try's body -/
def tMethS0 (C : Addr) (m : Str) (sp : Sp) (E : L2.St → XK) (ta : TE) : TE := fun σ H Q => ta σ H fun x H1 => ∃ a dx fs, x = .ref a ∧ H1 a = some (.ins C dx fs) ∧ fs.lookup m = none ∧ sp [x] H1 Q (E σ)
theorem pe_methS0 {X : Cx} {CX : CXT} {k : Nat} {f C : Addr} {fd : FuncData} {ps : List Str} {sp : Sp} {E : L2.St → XK} {m : Str} {pos' apos : Pos} {o : Expr} {ta : TE} {pl : Sem Bool} (he : PE X o ta) (c : Cls X.K C) (hm : Meth X.K C m f) (F : FnOk X.prog X.w X.K X.mg X.base CX k f fd ps sp) (hr : Room k X.A) (hb : Binds X.K fd ps []) (hx : ∀ σ, PassesAt CX X σ (E σ))
    (ht : eval (.Call (.Attribute o m apos) [] [] pos') X.env = (do
      let ov ← eval o X.env
      standAt apos.atName
      let (f, first) ← holding [ov] (getMethod ov m pl)
      callWith pos' f first (backTo pos' (starEach [] X.env)) (backToKw pos' (keywordEach [] X.env))) := by rfl) :
    PE X (.Call (.Attribute o m apos) [] [] pos') (tMethS0 C m sp E ta) := by
  refine ⟨fun pins s σ H Q I h => ?_⟩
  refine PySem.W.methodCall_KW (pl := pl) (thn (he.run pins s σ H _ I h) fun u s1 ⟨x, H1, I1, rx, a, dx, fs, ex, ea, l, q⟩ => ?_) ht
  subst ex
  obtain rfl : u = Value.ref a := rx
  refine getmeth_ok I1 ea c hm l ?_
  exact PySem.W.callWith_K0 (first := [.ref a]) I1.kIn hm.kp (run_fnS (us := [.ref a]) (vs := [.ref a]) F hr hb (hx σ) I1 (.cons rfl .nil) q)
end Tw

set_option Elab.async false
set_option linter.all false
set_option maxRecDepth 100000
set_option maxHeartbeats 2000000
namespace Tw
open PySem PySem.Spec PyProof.Rows L2 ClX
/-! calls in a try body whose wish depends on the store; a class held by a variable -/
section
variable {X : Cx} {CX : CXT} {k : Nat} {f C : Addr} {fd : FuncData} {ps : List Str} {sp : Sp} {dvs : List V} {ds : List Value}
theorem run_fnRS {pins : List (Addr × Obj)} {σ : L2.St} {H : Hp} {s : Shared} {E : XK} {Q : VK} {us : List Value} {vs : List V} (F : FnR X.prog X.w X.K X.mg X.base CX k f sp) (hr : Room k X.A) (hx : PassesAt CX X σ E) (I : Inv X pins σ H s) (r : Vals vs us) (h : sp vs H Q E) :
    codeAny (model X.prog X.w) X.A (.call (.ref f) ⟨us, []⟩) (fun r s' => match r with | .ok (.ret v) => EP X pins σ Q v s' | .ok _ => False | .error e => X.xe e s') s := by
  refine codeAny_mono (F X.A X.stack s H us vs Q E hr I.env0 r h) fun r s' hq => ?_
  cases r with
  | error e => exact hx pins H s e s' I hq
  | ok fl =>
    cases fl with
    | ret u => exact I.after hq
    | next => exact False.elim hq
    | brk => exact False.elim hq
    | cont => exact False.elim hq
theorem run_makeS {pins : List (Addr × Obj)} {σ : L2.St} {H : Hp} {s : Shared} {E : XK} {Q : VK} {us : List Value} {vs : List V} (M : Mk X.K C f) (F : FnOk X.prog X.w X.K X.mg X.base CX k f fd ps sp) (hr : Room (k + 1) X.A) (hb : Binds X.K fd ps ds) (hd : Vals dvs ds)
    (hx : PassesAt CX X σ E) (I : Inv X pins σ H s) (r : Vals vs us)
    (h : ∀ x dx, H x = none → H dx = none → dx ≠ x → sp (.ref x :: (vs ++ dvs)) (upd (upd H dx (.own x)) x (.ins C dx [])) (fun v H2 => v = .non ∧ Q (.ref x) H2) E) :
    wpAny (model X.prog X.w) X.A (call (.ref C) us) (EP X pins σ Q) X.xe s := by
  have hq := h (s.heap.objs.size + 1) s.heap.objs.size (I.hok.fresh (Nat.le_succ _)) (I.hok.fresh (Nat.le_refl _)) (Nat.ne_of_lt (Nat.lt_succ_self _))
  have I2 := Inv.made (C := C) I
  have r2 : Vals (V.ref (s.heap.objs.size + 1) :: (vs ++ dvs)) (Value.ref (s.heap.objs.size + 1) :: (us ++ ds)) := .cons rfl (r.append hd)
  have hl : (Value.ref (s.heap.objs.size + 1) :: us ++ ds).length = ps.length := by
    have e := r2.length
    rw [F.len _ _ _ _ hq] at e
    exact e.symm
  refine wpAny_call (make_map (f := f) I.kIn M.makes M.init (beq_iff_eq.mp M.fn) (codeAny_mono (F.run _ X.stack _ _ ⟨Value.ref (s.heap.objs.size + 1) :: us, []⟩ (Value.ref (s.heap.objs.size + 1) :: (us ++ ds)) _ _ E (hr.make C us [])
    (I2.env0.make C us []) (hb _ (Value.ref (s.heap.objs.size + 1) :: us) I2.kIn hl) r2 hq) fun r s' hq' => ?_))
  cases r with
  | error e => exact hx pins _ _ e s' I2 hq'
  | ok fl =>
    cases fl with
    | ret u =>
      obtain ⟨v, H', I3, rv, ev, q3⟩ := I2.after hq'
      subst ev
      exact ⟨rv, ⟨V.ref (s.heap.objs.size + 1), H', I3, rfl, q3⟩⟩
    | next => exact False.elim hq'
    | brk => exact False.elim hq'
    | cont => exact False.elim hq'
end
section
variable {X : Cx} {CX : CXT} {k i : Nat} {f C p g : Addr} {fd : FuncData} {ps : List Str} {sp : Sp} {dvs : List V} {ds : List Value} {x m : Str} {mc : Value} {p' pos apos : Pos} {o e : Expr} {es : List Expr} {ta : TE} {t : TA} {pl : Sem Bool}
/-- C(e, ..) in a try's body -/
def tMakeS (C : Addr) (sp : Sp) (E : L2.St → XK) (t : TA) : TE := fun σ H Q => t σ H fun vs H1 => ∀ x dx, H1 x = none → H1 dx = none → dx ≠ x →
  sp (.ref x :: (vs ++ [])) (upd (upd H1 dx (.own x)) x (.ins C dx [])) (fun v H2 => v = .non ∧ Q (.ref x) H2) (E σ)
theorem pe_makeS {E : L2.St → XK} (M : Mk X.K C f) (F : FnOk X.prog X.w X.K X.mg X.base CX k f fd ps sp) (hr : Room (k + 1) X.A) (hg : Gl X x) (hm : X.mg x = some (.ref C)) (hb : Binds X.K fd ps []) (hx : ∀ σ, PassesAt CX X σ (E σ))
    (ha : PA X (e :: es) t) (hdb : (x == ("__debug__" : Str)) = false := by decide) (he : starEach (e :: es) X.env = (false, eval e X.env) :: starEach es X.env := by rfl) (hpl : (backTo pos (starEach es X.env)).any (·.1) = false := by rfl) :
    PE X (.Call (.Name x p') (e :: es) [] pos) (tMakeS C sp E t) := by
  refine ⟨fun pins s σ H Q I h => ?_⟩
  refine wpAny_Call_Name_kw (ld_glob I hg hm ?_ hdb)
  refine PySem.W.callWith_K (h₀ := X.base) I.ok.mod.kin M.kp (thn (ha.run pos pins s σ H _ I h) fun us s1 ⟨vs, H1, I1, r, q⟩ => ⟨I1.kIn, ?_⟩) he hpl
  exact run_makeS M F hr hb .nil (hx σ) I1 r q
/-- cls(e, ..): the class stands in the i-th slot -/
def tMakeV (i : Nat) (C : Addr) (sp : Sp) (E : XK) (t : TA) : TE := fun σ H Q => σ[i]? = some (some (.ref C)) ∧ t σ H fun vs H1 => ∀ x dx, H1 x = none → H1 dx = none → dx ≠ x →
  sp (.ref x :: (vs ++ [])) (upd (upd H1 dx (.own x)) x (.ins C dx [])) (fun v H2 => v = .non ∧ Q (.ref x) H2) E
theorem pe_makeV {E : XK} (M : Mk X.K C f) (F : FnOk X.prog X.w X.K X.mg X.base CX k f fd ps sp) (hr : Room (k + 1) X.A) (hN : X.N[i]? = some x) (hv : Vis X.env.scope x) (hb : Binds X.K fd ps []) (hx : Passes CX X E)
    (ha : PA X (e :: es) t) (hdb : (x == ("__debug__" : Str)) = false := by decide) (hcd : (x == ("__classdict__" : Str)) = false := by decide) (he : starEach (e :: es) X.env = (false, eval e X.env) :: starEach es X.env := by rfl) (hpl : (backTo pos (starEach es X.env)).any (·.1) = false := by rfl) :
    PE X (.Call (.Name x p') (e :: es) [] pos) (tMakeV i C sp E t) := by
  refine ⟨fun pins s σ H Q I h => ?_⟩
  obtain ⟨hs, ht⟩ := h
  refine wpAny_Call_Name_kw (thn ((pe_var (pos := p') hN hv hdb hcd).run pins s σ H (fun v H1 => v = .ref C ∧ H1 = H) I ⟨.ref C, hs, rfl, rfl⟩) fun u s1 ⟨v, H1, I1, r1, q1⟩ => ?_)
  obtain ⟨rfl, rfl⟩ := q1
  cases r1
  refine PySem.W.callWith_K (h₀ := X.base) I.ok.mod.kin M.kp (thn (ha.run pos pins s1 σ _ _ I1 ht) fun us s2 ⟨vs, H2, I2, r, q⟩ => ⟨I2.kIn, ?_⟩) he hpl
  exact run_make M F hr hb .nil hx I2 r q
/-- the call of a classmethod's record -/
theorem run_cmS {pins : List (Addr × Obj)} {σ : L2.St} {H : Hp} {s : Shared} {E : L2.St → XK} {q : Addr} {Q : VK} {us : List Value} {vs : List V} (F : FnOk X.prog X.w X.K X.mg X.base CX k g fd ps sp) (hr : Room k X.A) (hb : Binds X.K fd ps []) (hx : PassesAt CX X σ (E σ)) (I : Inv X ((q, PySem.W.methodObj (.ref g) (.ref C)) :: pins) σ H s)
    (r : Vals vs us) (h : sp (.ref C :: vs) H Q (E σ)) : wpAny (model X.prog X.w) X.A (call (.ref q) us) (EP X pins σ Q) X.xe s := by
  have hl : (Value.ref C :: us).length = ps.length := by
    have := F.len _ _ _ _ h
    rw [← this]
    show us.length + 1 = vs.length + 1
    rw [r.length]
  have b := hb s (.ref C :: us) I.kIn (by rw [List.append_nil]; exact hl)
  rw [List.append_nil] at b
  have z : wpAny (model X.prog X.w) X.A (call (.ref q) us) (EP X ((q, PySem.W.methodObj (.ref g) (.ref C)) :: pins) σ Q) X.xe s := by
    refine wpAny_call (PySem.W.method_call (pin_at I) (codeAny_mono (F.run X.A X.stack s H ⟨.ref C :: us, []⟩ (.ref C :: us) (.ref C :: vs) Q (E σ) hr I.env0 b (.cons rfl r) h) fun r s' hq => ?_))
    cases r with
    | error e => exact hx _ H s e s' I hq
    | ok fl =>
      cases fl with
      | ret u => exact I.after hq
      | next => exact False.elim hq
      | brk => exact False.elim hq
      | cont => exact False.elim hq
  exact thn z fun _ _ y => unpinE y
def tCMethS (C : Addr) (sp : Sp) (E : L2.St → XK) (ta : TE) (t : TA) : TE := fun σ H Q => ta σ H fun x H1 => x = .ref C ∧ t σ H1 fun vs H2 => sp (.ref C :: vs) H2 Q (E σ)
theorem pe_cmethS {E : L2.St → XK} (he : PE X o ta) (r : CRead X.K C mc) (c : CMet X.K C mc m p g) (F : FnOk X.prog X.w X.K X.mg X.base CX k g fd ps sp) (hr : Room k X.A) (hb : Binds X.K fd ps []) (hx : ∀ σ, PassesAt CX X σ (E σ)) (ha : PA X (e :: es) t)
    (hst : starEach (e :: es) X.env = (false, eval e X.env) :: starEach es X.env := by rfl) (hpl : (backTo pos (starEach es X.env)).any (·.1) = false := by rfl)
    (ht : eval (.Call (.Attribute o m apos) (e :: es) [] pos) X.env = (do
      let ov ← eval o X.env
      standAt apos.atName
      let (f, first) ← holding [ov] (getMethod ov m pl)
      callWith pos f first (backTo pos (starEach (e :: es) X.env)) (backToKw pos (keywordEach [] X.env))) := by rfl) :
    PE X (.Call (.Attribute o m apos) (e :: es) [] pos) (tCMethS C sp E ta t) := by
  refine ⟨fun pins s σ H Q I h => ?_⟩
  refine PySem.W.methodCall_KW (pl := pl) (thn (he.run pins s σ H _ I h) fun u s1 ⟨x, H1, I1, rx, ex, q⟩ => ?_) ht
  subst ex
  obtain rfl : u = Value.ref C := rx
  refine getmethcm_ok I1 r c fun s2 I2 => ?_
  refine callwith_cm I2 (base_none I1 (Nat.le_refl _)) c.fi (thn (ha.run pos _ s2 σ H1 _ I2 q) fun us s3 ⟨vs, H2, I3, rv, q2⟩ => ⟨⟨pin_at I3, I3.kIn⟩, ?_⟩) hst hpl
  exact run_cmS (E := E) F hr hb (hx σ) I3 rv q2
/-- o.m(e, ..) of a def with star parameters, in a try's body -/
def tMethRS (C : Addr) (m : Str) (sp : Sp) (E : L2.St → XK) (ta : TE) (t : TA) : TE := fun σ H Q => ta σ H fun x H1 => ∃ a dx fs, x = .ref a ∧ H1 a = some (.ins C dx fs) ∧ fs.lookup m = none ∧ t σ H1 fun vs H2 => sp (x :: vs) H2 Q (E σ)
theorem pe_methRS {E : L2.St → XK} (he : PE X o ta) (c : Cls X.K C) (hm : Meth X.K C m f) (F : FnR X.prog X.w X.K X.mg X.base CX k f sp) (hr : Room k X.A) (hx : ∀ σ, PassesAt CX X σ (E σ)) (ha : PA X (e :: es) t)
    (hst : starEach (e :: es) X.env = (false, eval e X.env) :: starEach es X.env := by rfl) (hpl : (backTo pos (starEach es X.env)).any (·.1) = false := by rfl)
    (ht : eval (.Call (.Attribute o m apos) (e :: es) [] pos) X.env = (do
      let ov ← eval o X.env
      standAt apos.atName
      let (f, first) ← holding [ov] (getMethod ov m pl)
      callWith pos f first (backTo pos (starEach (e :: es) X.env)) (backToKw pos (keywordEach [] X.env))) := by rfl) :
    PE X (.Call (.Attribute o m apos) (e :: es) [] pos) (tMethRS C m sp E ta t) := by
  refine ⟨fun pins s σ H Q I h => ?_⟩
  refine PySem.W.methodCall_KW (pl := pl) (thn (he.run pins s σ H _ I h) fun u s1 ⟨x, H1, I1, rx, a, dx, fs, ex, ea, l, q⟩ => ?_) ht
  subst ex
  obtain rfl : u = Value.ref a := rx
  refine getmeth_ok I1 ea c hm l ?_
  refine PySem.W.callWith_K (first := [.ref a]) (h₀ := X.base) I.ok.mod.kin hm.kp (thn (ha.run pos pins s1 σ H1 _ I1 q) fun us s2 ⟨vs, H2, I2, r, q2⟩ => ⟨I2.kIn, ?_⟩) hst hpl
  exact wpAny_call (run_fnRS (us := .ref a :: us) (vs := .ref a :: vs) F hr (hx σ) I2 (.cons rfl r) q2)
end
end Tw

set_option Elab.async false
set_option linter.all false
set_option maxRecDepth 100000
namespace Tw
open PySem PySem.Spec PyProof.Rows L2
/-- a cut between two statements, by an own predicate of the store -/
theorem seq_cut {t u : TS} {D : Ends} {σ : L2.St} {H : Hp} (I : L2.St → Hp → Prop) (hu : ∀ σ1 H1, I σ1 H1 → u D σ1 H1) (ht : ∀ nx' : L2.St → Hp → Prop, (∀ σ1 H1, I σ1 H1 → nx' σ1 H1) → t { D with nx := nx' } σ H) : tSeq t u D σ H := ht (u D) hu
end Tw

set_option Elab.async false
set_option linter.all false
set_option maxRecDepth 100000
set_option maxHeartbeats 2000000
namespace Tw
open PySem PySem.Spec PyProof.Rows L2
abbrev s_shortest_number : Stmt := topS 30
section
variable {P : Program} {w : World} {K : PySem.W.Frag} {mg : Str → Option Value} {base : Heap}
theorem sc_shortest_number : FnScope ["pipeline", "row", "kinds", "output", "shape", "barred", "number", "letters", "mark", "letter"] ["pipeline", "row", "kinds"] (defScope s_shortest_number) := ⟨rfl, rfl, rfl, by decide +kernel, rfl, by decide +kernel, by decide +kernel⟩
theorem ok_number {C0 C1 C2 i0 i1 i2 : Addr} (T0 : TwX.ETxt K C0 i0) (T1 : TwX.ETxt K C1 i1) (T2 : TwX.ETxt K C2 i2) (g0 : mg "InvalidRow" = some (.ref C0)) (g1 : mg "InvalidPipeline" = some (.ref C1)) (g2 : mg "InvalidNumber" = some (.ref C2)) {tL : Tok} {f fC fD fK fA fT fS fR fO fV fE fG fZ fI fU : Addr} {fd fdC fdD fdK fdA fdT fdS fdR fdO fdV fdE fdG fdZ fdI fdU : FuncData} {k : Nat} (F : Fun K "shortest_number" "shortest_number" s_shortest_number f fd)
    (Dcheck_row : Dfn K mg "check_row" sChkRow ["row"] fC fdC) (Dcheck_pipeline : Dfn K mg "check_pipeline" sChkPipe ["pipeline"] fD fdD) (Dcheck_kinds : Dfn K mg "check_kinds" s_check_kinds ["kinds", "row"] fK fdK) (Dadd_free : Dfn K mg "add_free" s_add_free ["barred", "mark"] fA fdA) (Dshape_before_t : Dfn K mg "shape_before_t" s_shape_before_t ["shape", "barred"] fT fdT)
    (Dshape_before_s : Dfn K mg "shape_before_s" s_shape_before_s ["shape", "count", "barred"] fS fdS) (Druns_of : Dfn K mg "runs_of" sRuns ["row"] fR fdR) (Dsieve_once : Dfn K mg "sieve_once" sOnce ["row", "kind"] fU fdU) (Dshape_of : Dfn K mg "shape_of" s_shape_of ["pipeline", "output"] fO fdO) (Dsieve : Dfn K mg "sieve" sSieve ["row", "pipeline"] fV fdV) (Dsize : Dfn K mg "size" sSize ["row"] fZ fdZ) (Dgrow : Dfn K mg "grow" s_grow ["pipeline", "row_size"] fG fdG) (Dleast_size : Dfn K mg "least_size" s_least_size ["pipeline", "output"] fE fdE)
    (Dindex_of : Dfn K mg "index_of" s_index_of ["letter", "barred_letter"] fI fdI) (gL : mg "LETTERS" = some (.str (Str.ofString "abcdefghijklmnopqrstuvwxyz") tL))
    (m_len : mg "len" = none) (m_enumerate : mg "enumerate" = none) (m_range : mg "range" = none) (m_list : mg "list" = none) (m_reversed : mg "reversed" = none) (m_ord : mg "ord" = none) (m_zip : mg "zip" = none) : FnOk P w K mg base (L2.CX P w) (k + 6) f fd ["pipeline", "row", "kinds"] (spNumX C0 C1 C2) := by
  have Gcheck_pipeline : FnOk P w K mg base (L2.CX P w) (k + 5) fD fdD ["pipeline"] (spChkPipeX C1) := ok_chkPipeX (k := k + 3) Dcheck_pipeline.F T1 g1 m_enumerate
  have Gcheck_row : FnOk P w K mg base (L2.CX P w) (k + 5) fC fdC ["row"] (spChkRowX C0) := ok_chkRowX (k := k + 3) Dcheck_row.F T0 g0 m_enumerate
  have Gcheck_kinds : FnOk P w K mg base (L2.CX P w) (k + 5) fK fdK ["kinds", "row"] (spKinds C0 C2) := ok_kinds (k := k + 3) Dcheck_kinds.F T0 g0 T2 g2 m_enumerate m_ord
  have Gshape_of : FnOk P w K mg base CX0 (k + 5) fO fdO ["pipeline", "output"] spShOf := ok_shOf (k := k + 2) Dshape_of.F Dadd_free Dshape_before_t Dshape_before_s Druns_of m_len m_enumerate m_range m_list m_reversed
  have Gsieve : FnOk P w K mg base (L2.CX P w) (k + 5) fV fdV ["row", "pipeline"] (spSieveX C0 C1) := ok_sieveX (k := k + 2) Dsieve.F T0 g0 T1 g1 Dcheck_row.F Dcheck_row.b Dcheck_row.g Dcheck_pipeline.F Dcheck_pipeline.b Dcheck_pipeline.g Dsieve_once.F Dsieve_once.b Dsieve_once.g Druns_of.F Druns_of.b Druns_of.g m_enumerate
  have Gleast_size : FnOk P w K mg base (L2.CX P w) (k + 5) fE fdE ["pipeline", "output"] (spLeastX C0 C1) := ok_least (k := k + 1) Dleast_size.F T0 g0 T1 g1 Dcheck_row Dcheck_pipeline Druns_of Dsize Dgrow m_enumerate m_len m_reversed
  have Gindex_of : FnOk P w K mg base CX0 (k + 5) fI fdI ["letter", "barred_letter"] spIdx := ok_idx (k := k + 4) Dindex_of.F gL
  refine F.okX sc_shortest_number (fun vs H Q E h => ?_) (fun cdv A outer s H vs Q E hr h => ?_)
  · obtain ⟨p, r, kk, rfl, _⟩ := h
    rfl
  · obtain ⟨p, r, kk, rfl, hpl, hrl, q1, q0, qr⟩ := h
    refine ⟨_, (pss_cons (ps_expr (pe_call (E := E) Gcheck_pipeline hr rfl Dcheck_pipeline.g Dcheck_pipeline.F.kp Dcheck_pipeline.b .nil (passes_call (takes_of rfl rfl rfl rfl) (fun _ _ _ _ h => h)) (pa_cons (pv 0) pa_nil)))
 (pss_cons (ps_expr (pe_call (E := E) Gcheck_row hr rfl Dcheck_row.g Dcheck_row.F.kp Dcheck_row.b .nil (passes_call (takes_of rfl rfl rfl rfl) (fun _ _ _ _ h => h)) (pa_cons (pv 1) pa_nil)))
 (pss_cons (ps_expr (pe_call (E := E) Gcheck_kinds hr rfl Dcheck_kinds.g Dcheck_kinds.F.kp Dcheck_kinds.b .nil (passes_call (takes_of rfl rfl rfl rfl) (fun _ _ _ _ h => h)) (pa_cons (pv 2) (pa_cons (pv 1) pa_nil))))
 (pss_cons (ps_set (i := 3) sc_shortest_number.nd rfl (.inl rfl) (pe_call (E := E) Gsieve hr rfl Dsieve.g Dsieve.F.kp Dsieve.b .nil (passes_call (takes_of rfl rfl rfl rfl) (fun _ _ _ _ h => h)) (pa_cons (pv 1) (pa_cons (pv 0) pa_nil))))
 (pss_cons (ps_if (pt_cmpR op_gt (pe_callB call_len_str (by rfl) m_len PySem.boot_len (pa_cons (pv 1) pa_nil)) (pe_ix ix_tup (pe_call (E := E) Gleast_size hr rfl Dleast_size.g Dleast_size.F.kp Dleast_size.b .nil (passes_call (takes_of rfl rfl rfl rfl) (fun _ _ _ _ h => h)) (pa_cons (pv 0) (pa_cons (pv 3) pa_nil))) pe_int (fun _ _ => rfl)) (nomark _)) (pss_one (ps_ret pe_non)) pss_nil)
 (pss_cons (ps_asg (pe_call Gshape_of hr rfl Dshape_of.g Dshape_of.F.kp Dshape_of.b .nil pass0 (pa_cons (pv 0) (pa_cons (pv 3) pa_nil))) (pg_tup2 rfl (pg_name (i := 4) sc_shortest_number.nd rfl (.inl rfl) (.inl rfl)) (pg_name (i := 5) sc_shortest_number.nd rfl (.inl rfl) (.inl rfl))))
 (pss_cons (ps_set (i := 6) sc_shortest_number.nd rfl (.inl rfl) pe_int)
 (pss_cons (ps_set (i := 7) sc_shortest_number.nd rfl (.inl rfl) pe_dnewK)
 (pss_cons (ps_for (passes_of rfl) rfl (pi_zipLS (by rfl) m_zip (pa_cons (pv 4) (pa_cons (pv 1) pa_nil))) (pg_tup rfl (pgs_cons (pg_name (i := 8) sc_shortest_number.nd rfl (.inl rfl)) (pgs_cons (pg_name (i := 9) sc_shortest_number.nd rfl (.inl rfl)) pgs_nil)))
  (pss_cons (ps_if (PW.pt (pw_and (pt_cmp (pc_din (hu_of hr) (pv 8) (pv 5))) (pw_and1 (pt_cmp (pc_dnotin (hu_of hr) (pv 8) (pv 7)))))) (pss_one (ps_set (i := 6) sc_shortest_number.nd rfl (.inl rfl) (pe_op op_add (pe_op op_mul (pv 6) (pe_op op_sub (pv 2) pe_int)) (pe_call Gindex_of hr rfl Dindex_of.g Dindex_of.F.kp Dindex_of.b .nil pass0 (pa_cons (pv 9) (pa_cons (pe_dget (hu_of hr) (pv 7) (pe_dget (hu_of hr) (pv 5) (pv 8) (fun _ _ => rfl)) (fun _ _ => rfl)) pa_nil)))))) pss_nil)
 (pss_one (ps_dput (hu_of hr) (pv 7) (pv 8) (pv 9) rfl))))
 (pss_one (ps_ret (pv 6)))))))))))), ?_⟩
    refine ⟨_, rfl, p, rfl, fun hbp H1 sm1 => ?_, q1⟩
    refine ⟨_, rfl, r, rfl, fun hbr H2 sm2 => ?_, fun i hi => (q0 hbp i hi).mono sm1⟩
    have sm12 := sm1.trans sm2
    obtain ⟨qk, qv⟩ := qr hbp hbr
    have lowr := low_of hbr
    refine ⟨_, rfl, _, rfl, kk, r, rfl, by omega, (fun k2 k26 hbk H3 sm3 => ?_), (fun h => (qk h).mono sm12), fun k2 k26 i hi => ((qv k2 k26).1 i hi).mono sm12⟩
    have sm13 := sm12.trans sm3
    obtain ⟨qn, qy⟩ := (qv k2 k26).2 hbk
    have nob : ∀ {l : List Nat} {X : Nat → Prop}, bad okL l = none → ∀ i, bad okL l = some i → X i := fun h i hi => by rw [h] at hi; cases hi
    refine ⟨_, rfl, _, rfl, r, p, rfl, hrl, fun _ _ H4 sm4 => ?_, (fun i hi => by rw [hbr] at hi; cases hi), (fun _ i hi => by rw [hbp] at hi; cases hi)⟩
    have sm14 := sm13.trans sm4
    have lowo : Low (sv r p) := fun c hc => lowr c (sv_mem hc)
    have lo := sv_le r p
    have nbo : bad okL (sv r p) = none := bad_none.mpr fun c hc => bad_none.mp hbr c (sv_mem hc)
    refine ⟨_, rfl, _, rfl, (by rw [mk_len]; exact Nat.le_of_lt (line_of (by omega))), _, rfl, _, rfl, p, sv r p, rfl, hpl, by omega, fun _ _ H5 t sm5 nt ht => ?_, (fun i hi => by rw [hbp] at hi; cases hi), (fun _ i hi => by rw [nbo] at hi; cases hi)⟩
    have sm15 := sm14.trans sm5
    refine ⟨t, _, _, _, rfl, rfl, SqT.of ht, atI_nat (j := 0) rfl, ?_⟩
    rw [mk_len]
    have bnd := sv_bound p r
    have oA : okSz (growS p (sizeS (sv r p))) := growS_ok p (show okSz (sizeS (sv r p)) from pairs_le _)
    have ge := leSz_len oA (show okSz (sizeS r) from pairs_le r) bnd
    have ge : (growS p (sizeS (sv r p))).1 ≤ r.length := ge
    refine ⟨_, _, rfl, rfl, _, rfl, ite2 (fun hb => ?_) (fun hb => ?_)⟩
    · have hb := of_decide_eq_true hb
      exact qn (by omega) H5 sm15
    have el : r.length = (growS p (sizeS (sv r p))).1 := by
      have : ¬ ((growS p (sizeS (sv r p))).1 : Int) < (r.length : Nat) := fun z => hb (decide_eq_true z)
      omega
    have qy := qy el
    have pp := pipe_of hbp
    have o200 : ∀ c ∈ sv r p, c < 200 := fun c hc => by have := lowo c hc; omega
    have kin : ∀ c ∈ r, 97 ≤ c ∧ c < 97 + kk.toNat := fun c hc => by
      have h1 := lowr c hc
      have h2 := bad_none.mp hbk c hc
      have h2 : (c : Int) - 97 < kk := of_decide_eq_true h2
      omega
    obtain ⟨ff, ef, ff0⟩ := shape_of_row pp o200 rfl el
    have S := Shp.run o200 (runs p).reverse (fun q hq => runs_heads pp q (List.mem_reverse.mp hq))
    rw [growR_eq] at S
    have S : Shp (shapeOf p (sv r p)) (growS p (sizeS (sv r p))) := S
    have adj : adjO (Dif ff) none (shapeOf p (sv r p)).1 := (adj_pairs ff _ none).2 (by
      have e := leSz_eq oA (show okSz (sizeS r) from pairs_le r) bnd (by show r.length ≤ _; omega)
      show pairsO none ((shapeOf p (sv r p)).1.map ff) = _
      rw [pairsO_S, ← ef]
      exact (congrArg Prod.snd e).trans (congrArg Prod.snd S.size).symm)
    have hr2 : ∀ m ∈ (shapeOf p (sv r p)).1, 97 ≤ ff m ∧ ff m < 97 + kk.toNat := fun m hm => kin _ (by rw [ef]; exact List.mem_map.mpr ⟨m, hm, rfl⟩)
    obtain ⟨N1, N2⟩ := nth_num pp (fun c hc => kin c (sv_mem hc)) (by omega) ff0 hr2 adj
    rw [← ef] at N1
    have qy := fun H' sm => qy H' (numF p (sv r p) kk.toNat ff) sm N1 N2
    have W : WfS (sv r p) (shapeOf p (sv r p)) := WfS.run o200 _
    have B : FullB (shapeOf p (sv r p)) := FullB.run o200 _ (fun q hq => runs_heads pp q (List.mem_reverse.mp hq))
    have okz := S.ok
    have lb := S.bar
    refine ⟨_, rfl, _, rfl, p, sv r p, rfl, ⟨pp, hpl⟩, o200, by omega, fun H6 t2 a d sm6 nt2 ht2 ha hd => ⟨t2, _, rfl, SqT.of ht2, rfl, _, _, rfl, _, _, rfl, rfl, ?_⟩⟩
    have sm16 := sm15.trans sm6
    unfold numF at qy
    generalize shapeOf p (sv r p) = z at *
    clear N1 N2
    have lr : r.length = z.1.length := by rw [ef, List.length_map]
    have lm : (marksV z.1).length = z.1.length := List.length_map ..
    have hmin : min (marksV z.1).length (mk r).cps.size = z.1.length := by rw [lm, mk_size, lr, Nat.min_self]
    let num : Nat → Nat := fun i => numD (kk.toNat - 1) ((frM [] (z.1.take i)).map (dgM ff z.2))
    have num0 : num 0 = 0 := by show numD _ ((frM [] (z.1.take 0)).map _) = 0; rw [List.take_zero]; rfl
    refine fun L nL => ?_
    have nLa := ne_of_none ha nL
    have nLd := ne_of_none hd nL
    have nLH : H L = none := sm16.free nL
    have sL := same_upd (o := .dK []) nL
    refine ⟨_, rfl, _, rfl, a, marksV z.1, mk r, rfl, SqL.of (sL _ _ ha), for_it walk_zipLS (fun i σ H' => ∃ y8 y9, σ = [some (.str (mk p)), some (.str (mk r)), some (.int kk), some (.str (mk (sv r p))), some (.ref a), some (.ref d), some (.int ((num i : Nat) : Int)), some (.ref L), y8, y9] ∧ Same H H' ∧ H' a = some (.lst (marksV z.1)) ∧ H' d = some (.dK (barK z.2)) ∧ H' L = some (.dK (asgK (seenA ff (z.1.take i)))))
      ⟨none, none, by rw [num0]; rfl, sm16.trans sL, sL _ _ ha, sL _ _ hd, upd_same⟩ (fun _ _ _ _ ⟨_, _, _, _, h, _⟩ => SqL.of h) ?_ ?_⟩
    · rintro i x σ H7 H8 hi ⟨y8, y9, rfl, sm7, ha7, hd7, hL7⟩ ⟨T, rfl, nT, rfl⟩
      rw [hmin] at hi
      have hm : z.1[i]? = some z.1[i] := List.getElem?_eq_getElem hi
      generalize z.1[i] = m at hm
      have hmz : m ∈ z.1 := List.mem_of_getElem? hm
      have tk1 : z.1.take (i + 1) = z.1.take i ++ [m] := by rw [List.take_add_one, hm]; rfl
      have eIt : itLS (marksV z.1) (mk r) i = [mV m, V.str (mk [ff m])] := by
        unfold itLS
        have e1 : (marksV z.1).getD i .non = mV m := by
          unfold marksV
          simp [List.getD, hm]
        have e2 : r[i]? = some (ff m) := by rw [ef, List.getElem?_map, hm]; rfl
        have e3 : sgn (mk r) i = V.str (mk [ff m]) := by
          unfold sgn
          have : (mk r).cps.getD i 0 = ff m := by simp [mk, Array.getD_eq_getD_getElem?, e2]
          rw [this]
          rfl
        rw [e1, e3]
      rw [eIt]
      have sT := same_upd (o := .tup [mV m, V.str (mk [ff m])]) nT
      refine ⟨T, _, rfl, SqT.of upd_same, rfl, _, _, rfl, _, _, rfl, rfl, ?_⟩
      have ha8 := sT _ _ ha7
      have hd8 := sT _ _ hd7
      have hL8 := sT _ _ hL7
      have sm8 := sm7.trans sT
      generalize (upd H7 T (.tup [mV m, V.str (mk [ff m])])) = H8 at sT ha8 hd8 hL8 sm8 ⊢
      dsimp only [gName]
      refine seq_cut (fun σ H' => σ = [some (.str (mk p)), some (.str (mk r)), some (.int kk), some (.str (mk (sv r p))), some (.ref a), some (.ref d), some (.int ((num (i + 1) : Nat) : Int)), some (.ref L), some (mV m), some (.str (mk [ff m]))] ∧ H' = H8) ?_ ?_
      rotate_left
      · intro nx' hnx
        have keep : (200 ≤ m → m ∈ z.1.take i) → num (i + 1) = num i := fun h => by
          show numD _ ((frM [] (z.1.take (i + 1))).map _) = numD _ _
          rw [tk1, frM_snoc, if_neg (fun y => y.2.2 (h y.1)), List.append_nil]
        refine ⟨_, rfl, _, rfl, d, _, rfl, bar_any hd8 m, _, rfl, ?_⟩
        by_cases h2 : 200 ≤ m
        · have hlt := okz m hmz
          have hb : z.2[m - 200]? = some z.2[m - 200] := List.getElem?_eq_getElem (by omega)
          generalize z.2[m - 200] = b at hb
          rw [if_pos h2, hb]
          refine iteT ⟨_, rfl, _, rfl, L, _, rfl, asg_get hL8 m, _, rfl, ?_⟩
          rw [seenA_look]
          by_cases hin : m ∈ z.1.take i
          · rw [if_pos hin]
            exact iteF (hnx _ _ ⟨by rw [keep (fun _ => hin)]; rfl, rfl⟩)
          · rw [if_neg hin]
            have hbi : b ∈ z.1.take i := by
              rcases ordW_at _ _ i m W.ord hm h2 with (h | h) | ⟨b2, h3, h4⟩
              · cases h
              · exact absurd h hin
              · rw [hb] at h3
                cases h3
                exact h4.resolve_left (fun h => by cases h)
            have hbz := List.mem_of_mem_take hbi
            have hbs : z.2.getD (m - 200) 0 = b := by simp [List.getD, hb]
            have gb := bar_any hd8 m
            rw [if_pos h2, hb] at gb
            have gl := asg_get hL8 b
            rw [seenA_look, if_pos hbi] at gl
            have nb := B.bar ff adj (m - 200) b hb
            rw [show 200 + (m - 200) = m by omega] at nb
            have rm := hr2 m hmz
            have rb := hr2 b hbz
            refine iteT ⟨_, rfl, _, rfl, _, _, rfl, rfl, _, _, rfl, rfl, .inr ⟨by omega, by omega⟩, ?_⟩
            refine ⟨_, rfl, _, rfl, _, rfl, _, rfl, d, _, rfl, gb, L, _, rfl, gl, ff m, ff b, rfl, by omega, by omega, nb, _, _, rfl, rfl, ?_⟩
            refine hnx _ _ ⟨?_, rfl⟩
            have en : num (i + 1) = num i * (kk.toNat - 1) + idxN (ff m) (ff b) := by
              show numD _ ((frM [] (z.1.take (i + 1))).map _) = numD _ _ * _ + _
              rw [tk1, frM_snoc, if_pos ⟨h2, by simp, hin⟩, List.map_append, List.map_cons, List.map_nil, numD_snoc]
              unfold dgM
              rw [hbs]
            have ei : ((num i : Nat) : Int) * (kk - 1) + ((idxN (ff m) (ff b) : Nat) : Int) = ((num (i + 1) : Nat) : Int) := by
              rw [en, Int.natCast_add, Int.natCast_mul, show ((kk.toNat - 1 : Nat) : Int) = kk - 1 by omega]
            show _ = _
            rw [← ei]
            rfl
        · rw [if_neg h2]
          exact iteF (hnx _ _ ⟨by rw [keep (fun y => absurd y h2)]; rfl, rfl⟩)
      rintro σ H9 ⟨rfl, rfl⟩
      have ll := seenA_len ff (z.1.take i)
      rw [List.length_take] at ll
      refine ⟨_, rfl, _, rfl, _, rfl, L, _, rfl, asg_putF hL8 (seenA_diag ff _) (by omega) m, ?_⟩
      refine ⟨_, _, rfl, fun b2 u hb2 => ?_, by rw [upd_ne nLa]; exact ha8, by rw [upd_ne nLd]; exact hd8, by rw [upd_same, tk1, seenA_snoc]⟩
      rw [upd_ne (ne_of_none hb2 nLH)]
      exact sm8 b2 u hb2
    · rintro σ H7 ⟨y8, y9, rfl, sm7, ha7, hd7, hL7⟩
      rw [hmin]
      have e := qy H7 sm7
      rw [show frM [] z.1 = frM [] (z.1.take z.1.length) by rw [List.take_length]] at e
      exact ⟨_, rfl, e⟩
end
end Tw

set_option Elab.async false
set_option linter.all false
set_option maxRecDepth 100000
set_option maxHeartbeats 2000000
namespace Tw
open PySem PySem.Spec PyProof.Rows L2
/-! the numbers of shortest rows go by string order -/
theorem letAt_lt {j j' c : Nat} (h : j < j') : letAt j c < letAt j' c := by
  unfold letAt
  split <;> split <;> omega
theorem fold_keep (bs : List Nat) : ∀ (l : List Nat) (a : List (Nat × Nat)) (ds : List Nat) {m c : Nat}, lookM a m = some c → lookM (l.foldl (stepN bs) (a, ds)).1 m = some c
  | [], _, _, _, _, h => h
  | x :: l, a, ds, m, c, h => by
    rw [List.foldl_cons]
    unfold stepN
    by_cases e : (lookM a x).isSome = true
    · rw [if_pos e]; exact fold_keep bs l a ds h
    · rw [if_neg e]; exact fold_keep bs l _ _ (lookM_keep _ h)
/-- digits: the first is the last -/
def ltD : List Nat → List Nat → Prop
  | d :: r, e :: s => d < e ∨ (d = e ∧ ltD r s)
  | _, _ => False
theorem snoc_last {ds : List Nat} (h : ds ≠ []) : ds = ds.dropLast ++ [ds.getLastD 0] := by
  rcases List.eq_nil_or_concat ds with z | ⟨a, b, z⟩
  · exact absurd z h
  · rw [List.concat_eq_append] at z
    subst z
    simp [List.getLastD_concat]
def rowF (bs : List Nat) (l : List Nat) (a : List (Nat × Nat)) (ds : List Nat) : List Nat := l.map fun m => (lookM (l.foldl (stepN bs) (a, ds)).1 m).getD 0
theorem rowF_cons (bs l : List Nat) (m : Nat) (a : List (Nat × Nat)) (ds : List Nat) : rowF bs (m :: l) a ds = ((lookM (stepN bs (a, ds) m).1 m).getD 0) :: rowF bs l (stepN bs (a, ds) m).1 (stepN bs (a, ds) m).2 := by
  unfold rowF
  rw [List.map_cons, List.foldl_cons]
  have hs : ∃ c, lookM (stepN bs (a, ds) m).1 m = some c := by
    unfold stepN
    by_cases e : (lookM a m).isSome = true
    · rw [if_pos e]; exact Option.isSome_iff_exists.mp e
    · rw [if_neg e]
      have e1 : lookM a m = none := by cases h : lookM a m with
        | none => rfl
        | some c => rw [h] at e; exact absurd rfl e
      exact ⟨_, by rw [lookM_app, e1, Option.none_or, lookM_one, if_pos rfl]⟩
  obtain ⟨c, hc⟩ := hs
  have h2 := fold_keep bs l (stepN bs (a, ds) m).1 (stepN bs (a, ds) m).2 hc
  rw [hc]
  have h3 : lookM (l.foldl (stepN bs) (stepN bs (a, ds) m)).1 m = some c := h2
  rw [h3]
theorem row_order (bs : List Nat) : ∀ (l seen : List Nat) (a : List (Nat × Nat)) (ds es : List Nat), (∀ m, 200 ≤ m → ((lookM a m).isSome = true ↔ m ∈ seen)) → (∀ m ∈ l, m < 200 → (lookM a m).isSome = true) →
    (frM seen l).length = ds.length → ds.length = es.length → ltD ds.reverse es.reverse → rowF bs l a ds < rowF bs l a es
  | [], seen, a, ds, es, _, _, hl, _, h => by
    have : ds = [] := List.eq_nil_of_length_eq_zero hl.symm
    subst this
    exact absurd h (by intro z; exact z)
  | m :: l, seen, a, ds, es, hS, hO, hl, he, h => by
    rw [rowF_cons, rowF_cons]
    rw [frM] at hl
    have hO' : ∀ (a' : List (Nat × Nat)), (∀ x c, lookM a x = some c → lookM a' x = some c) → ∀ x ∈ l, x < 200 → (lookM a' x).isSome = true := fun a' k x hx h2 => by
      obtain ⟨c, hc⟩ := Option.isSome_iff_exists.mp (hO x (List.mem_cons_of_mem _ hx) h2)
      rw [k x c hc]; rfl
    by_cases e : (lookM a m).isSome = true
    · have es1 : ∀ zs, stepN bs (a, zs) m = (a, zs) := fun zs => by unfold stepN; rw [if_pos e]
      have nf : ¬ (200 ≤ m ∧ m ∉ seen) := fun z => z.2 ((hS m z.1).mp e)
      rw [if_neg nf] at hl
      rw [es1, es1]
      refine List.Lex.cons (row_order bs l (m :: seen) a ds es (fun x hx => ?_) (hO' a fun _ _ h => h) hl he h)
      rw [hS x hx, List.mem_cons]
      constructor
      · exact .inr
      · rintro (z | z)
        · rw [z] at hx ⊢; exact (hS m hx).mp e
        · exact z
    · have e1 : lookM a m = none := by cases h : lookM a m with
        | none => rfl
        | some c => rw [h] at e; exact absurd rfl e
      have m2 : 200 ≤ m := by
        by_cases z : m < 200
        · exact absurd (hO m List.mem_cons_self z) e
        · omega
      have nf : 200 ≤ m ∧ m ∉ seen := ⟨m2, fun z => e ((hS m m2).mpr z)⟩
      rw [if_pos nf, List.length_cons] at hl
      have dn : ds ≠ [] := fun z => by rw [z] at hl; cases hl
      have en : es ≠ [] := fun z => by rw [z] at he; rw [he] at hl; cases hl
      have sd := snoc_last dn
      have se := snoc_last en
      generalize ds.dropLast = d0 at sd
      generalize ds.getLastD 0 = dx at sd
      generalize es.dropLast = e0 at se
      generalize es.getLastD 0 = ex at se
      subst sd se
      have st : ∀ (z0 : List Nat) (zx : Nat), stepN bs (a, z0 ++ [zx]) m = (a ++ [(m, letAt zx ((lookM a (bs.getD (m - 200) 0)).getD 0))], z0) := fun z0 zx => by
        unfold stepN
        rw [if_neg e]
        simp [List.getLastD_concat]
      have lk : ∀ c, (lookM (a ++ [(m, c)]) m).getD 0 = c := fun c => by rw [lookM_app, e1, Option.none_or, lookM_one, if_pos rfl]; rfl
      rw [st, st]
      show (lookM (a ++ [(m, _)]) m).getD 0 :: _ < (lookM (a ++ [(m, _)]) m).getD 0 :: _
      rw [lk, lk]
      rw [List.reverse_append, List.reverse_append] at h
      have h : dx < ex ∨ (dx = ex ∧ ltD d0.reverse e0.reverse) := h
      rcases h with h | ⟨h, h2⟩
      · exact List.Lex.rel (letAt_lt h)
      · subst h
        refine List.Lex.cons (row_order bs l (m :: seen) _ d0 e0 (fun x hx => ?_) (hO' _ fun x c hc => lookM_keep _ hc) ?_ ?_ h2)
        · rw [lookM_app, lookM_one, List.mem_cons]
          by_cases z : m = x
          · rw [if_pos z]
            cases lookM a x <;> simp [z]
          · rw [if_neg z, Option.or_none, hS x hx]
            exact ⟨.inr, fun q => q.resolve_left fun w => z w.symm⟩
        · rw [List.length_append, List.length_singleton] at hl; omega
        · simp only [List.length_append, List.length_singleton] at he; omega
theorem ltD_app : ∀ (d e r s : List Nat), d.length = e.length → ltD d e → ltD (d ++ r) (e ++ s)
  | [], [], _, _, _, h => h.elim
  | d :: d', e :: e', r, s, hl, h => by
    rcases h with h | ⟨h, h2⟩
    · exact .inl h
    · exact .inr ⟨h, ltD_app d' e' r s (by simpa using hl) h2⟩
theorem ltD_eq : ∀ (d r s : List Nat), ltD r s → ltD (d ++ r) (d ++ s)
  | [], _, _, h => h
  | d :: d', r, s, h => .inr ⟨rfl, ltD_eq d' r s h⟩
theorem digs_order (b : Nat) (hb : 0 < b) : ∀ (c n m : Nat), n < m → m < b ^ c → ltD (digs n b c).reverse (digs m b c).reverse
  | 0, n, m, h1, h2 => by simp at h2; omega
  | c + 1, n, m, h1, h2 => by
    rw [digs, digs, List.reverse_cons, List.reverse_cons]
    have h3 : m / b < b ^ c := by rw [Nat.pow_succ] at h2; exact Nat.div_lt_of_lt_mul (by rw [Nat.mul_comm]; exact h2)
    have h4 : n / b ≤ m / b := Nat.div_le_div_right (Nat.le_of_lt h1)
    by_cases e : n / b = m / b
    · rw [e]
      refine ltD_eq _ _ _ (.inl ?_)
      have q1 := Nat.div_add_mod n b
      have q2 := Nat.div_add_mod m b
      rw [e] at q1
      omega
    · refine ltD_app _ _ _ _ ?_ (digs_order b hb c (n / b) (m / b) (by omega) h3)
      rw [List.length_reverse, List.length_reverse, digs_len, digs_len]
/-- the rows with the numbers 0, 1, .. stand in string order -/
theorem nth_order {p o : List Nat} {k n m : Nat} (hp : Pipe p) (ho : ∀ c ∈ o, c < 200) (hk : 2 ≤ k) (h1 : n < m) (h2 : m < (k - 1) ^ (shapeOf p o).2.length) : nthRow p o k n < nthRow p o k m := by
  have hq : ∀ q ∈ (runs p).reverse, q.1 = 84 ∨ q.1 = 83 := fun q hq => runs_heads hp q (List.mem_reverse.mp hq)
  have W : WfS o (shapeOf p o) := WfS.run ho _
  have ok : okM (shapeOf p o) := (Shp.run ho _ hq).ok
  have B : FullB (shapeOf p o) := FullB.run ho _ hq
  refine row_order (shapeOf p o).2 (shapeOf p o).1 [] (initM o) _ _ (fun x hx => ?_) (fun x hx h => initM_all o x (W.let_ x hx h)) ?_ ?_ (digs_order (k - 1) (by omega) _ n m h1 h2)
  · refine ⟨fun z => ?_, fun z => by cases z⟩
    obtain ⟨q, hq, e⟩ := List.mem_map.mp (lookM_isSome.mp z)
    have := ho q.1 (initM_diag o q hq).2
    omega
  · rw [frM_len B ok, digs_len]
  · rw [digs_len, digs_len]
end Tw

set_option Elab.async false
set_option linter.all false
set_option maxRecDepth 100000
set_option maxHeartbeats 2000000
namespace Tw
open PySem PySem.Spec PyProof.Rows L2
/-! all shortest rows, sieve by sieve -/
def lettersK (k : Nat) : List Nat := (List.range k).map (97 + ·)
theorem lettersK_mem {k c : Nat} : c ∈ lettersK k ↔ 97 ≤ c ∧ c < 97 + k := by
  unfold lettersK
  rw [List.mem_map]
  constructor
  · rintro ⟨j, hj, rfl⟩
    have := List.mem_range.mp hj
    omega
  · rintro ⟨h1, h2⟩
    exact ⟨c - 97, List.mem_range.mpr (by omega), by omega⟩
theorem lettersK_nodup (k : Nat) : (lettersK k).Nodup := by
  refine List.Pairwise.map _ (fun a b h => ?_) List.nodup_range
  show 97 + a ≠ 97 + b
  omega
def sepsX (t : Bool) (k : Nat) (p : Option Nat) (m : Nat) : List (List Nat) := if p = some m then ((lettersK k).filter (fun x => decide (x ≠ m))).map (sepX t) else [[]]
def allEx (t : Bool) (k : Nat) : Option Nat → List Nat → List (List Nat)
  | _, [] => [[]]
  | p, m :: l => (sepsX t k p m).flatMap fun s => (allEx t k (some m) l).map fun z => s ++ (core t m ++ z)
/-- runs that are wanted and parted as they must be -/
structure Tight (t : Bool) (p : Option Nat) (l : List Nat) (rs : List (Nat × Nat)) : Prop where
  alt : alt rs
  hd : hdNe p rs
  wid : ∀ q ∈ rs, q.2 = wid t (keepRun t q)
  kept : kept t rs = l
  dr : dr t rs = pairsO p l
theorem wid_pos (t b : Bool) : 1 ≤ wid t b := by unfold wid; split <;> decide
theorem runsFrom_repl (c : Nat) (l : List Nat) : ∀ (j n : Nat), runsFrom c n (List.replicate j c ++ l) = runsFrom c (n + j) l
  | 0, n => rfl
  | j + 1, n => by
    show runsFrom c n (c :: (List.replicate j c ++ l)) = _
    rw [runsFrom, if_pos rfl, runsFrom_repl c l j (n + 1)]
    rw [show n + 1 + j = n + (j + 1) by omega]
theorem runs_altFrom : ∀ (rs : List (Nat × Nat)) (c n : Nat), alt rs → hdNe (some c) rs → (∀ q ∈ rs, 1 ≤ q.2) → runsFrom c n (flatR rs) = (c, n) :: runs (flatR rs)
  | [], c, n, _, _, _ => rfl
  | (d, j) :: rs, c, n, ha, hd, hp => by
    have h1 := hp (d, j) List.mem_cons_self
    obtain ⟨i, rfl⟩ : ∃ i, j = i + 1 := ⟨j - 1, by have : 1 ≤ j := h1; omega⟩
    have hne : ¬ d = c := fun z => hd (by rw [z])
    rw [flatR_cons]
    show runsFrom c n (d :: (List.replicate i d ++ flatR rs)) = (c, n) :: runs (d :: (List.replicate i d ++ flatR rs))
    rw [runsFrom, if_neg hne]
    rfl
theorem runs_alt : ∀ (rs : List (Nat × Nat)), alt rs → (∀ q ∈ rs, 1 ≤ q.2) → runs (flatR rs) = rs
  | [], _, _ => rfl
  | (d, j) :: rs, ha, hp => by
    have h1 := hp (d, j) List.mem_cons_self
    obtain ⟨i, rfl⟩ : ∃ i, j = i + 1 := ⟨j - 1, by have : 1 ≤ j := h1; omega⟩
    obtain ⟨a1, a2⟩ := alt_tail ha
    have hp' : ∀ q ∈ rs, 1 ≤ q.2 := fun q hq => hp q (List.mem_cons_of_mem _ hq)
    rw [flatR_cons]
    show runsFrom d 1 (List.replicate i d ++ flatR rs) = _
    rw [runsFrom_repl, runs_altFrom rs d (1 + i) a1 a2 hp', runs_alt rs a1 hp', Nat.add_comm]
theorem keep_wid (t b : Bool) (x : Nat) : keepRun t (x, wid t b) = b := by cases t <;> cases b <;> rfl
theorem alt_cons {q : Nat × Nat} {rs : List (Nat × Nat)} (h1 : alt rs) (h2 : hdNe (some q.1) rs) : alt (q :: rs) := by
  cases rs with
  | nil => trivial
  | cons a r => exact ⟨fun z => h2 (by rw [z]), h1⟩
/-- what allEx lists, by its runs -/
theorem ex_tight (t : Bool) (k : Nat) : ∀ (l : List Nat) (p : Option Nat) (z : List Nat), (∀ m ∈ l, 97 ≤ m ∧ m < 97 + k) → z ∈ allEx t k p l → ∃ rs, Tight t p l rs ∧ flatR rs = z ∧ ∀ q ∈ rs, 97 ≤ q.1 ∧ q.1 < 97 + k
  | [], p, z, _, h => by
    rw [allEx, List.mem_singleton] at h
    exact ⟨[], ⟨trivial, trivial, fun q hq => (by cases hq), rfl, rfl⟩, h.symm, fun q hq => by cases hq⟩
  | m :: l, p, z, hm, h => by
    rw [allEx] at h
    obtain ⟨s, hs, h⟩ := List.mem_flatMap.mp h
    obtain ⟨y, hy, rfl⟩ := List.mem_map.mp h
    obtain ⟨rs, T, e, hl⟩ := ex_tight t k l (some m) y (fun x hx => hm x (List.mem_cons_of_mem _ hx)) hy
    have km := keep_wid t true m
    have m1 := hm m List.mem_cons_self
    have am : alt ((m, wid t true) :: rs) := alt_cons T.alt T.hd
    have kk : kept t ((m, wid t true) :: rs) = m :: l := by rw [kept_cons, km, if_pos rfl, T.kept]; rfl
    have dd : dr t ((m, wid t true) :: rs) = pairsO (some m) l := by rw [dr, km, if_pos rfl, T.dr, Nat.zero_add]
    have ww : ∀ q ∈ (m, wid t true) :: rs, q.2 = wid t (keepRun t q) := fun q hq => by
      rcases List.mem_cons.mp hq with e | hq
      · rw [e, km]
      · exact T.wid q hq
    have ll : ∀ q ∈ (m, wid t true) :: rs, 97 ≤ q.1 ∧ q.1 < 97 + k := fun q hq => by
      rcases List.mem_cons.mp hq with e | hq
      · rw [e]; exact m1
      · exact hl q hq
    have ff : flatR ((m, wid t true) :: rs) = core t m ++ y := by rw [flatR_cons, rep_core, e]
    unfold sepsX at hs
    by_cases hp : p = some m
    · rw [if_pos hp] at hs
      obtain ⟨x, hx, rfl⟩ := List.mem_map.mp hs
      obtain ⟨hx1, hx2⟩ := List.mem_filter.mp hx
      have hxm : x ≠ m := of_decide_eq_true hx2
      have kx := keep_wid t false x
      refine ⟨(x, wid t false) :: (m, wid t true) :: rs, ⟨alt_cons am (fun z => hxm (Option.some.inj z)), ?_, ?_, ?_, ?_⟩, ?_, ?_⟩
      · intro z
        rw [hp] at z
        exact hxm (Option.some.inj z).symm
      · intro q hq
        rcases List.mem_cons.mp hq with e | hq
        · rw [e, kx]
        · exact ww q hq
      · rw [kept_cons, kx, if_neg (by decide), kk]; rfl
      · rw [dr, kx, if_neg (by decide), dd, pairsO, if_pos hp]
      · rw [flatR_cons, rep_sep, ff]
      · intro q hq
        rcases List.mem_cons.mp hq with e | hq
        · rw [e]; exact lettersK_mem.mp hx1
        · exact ll q hq
    · rw [if_neg hp, List.mem_singleton] at hs
      subst hs
      exact ⟨_, ⟨am, hp, ww, kk, by rw [dd, pairsO, if_neg hp, Nat.zero_add]⟩, ff, ll⟩
/-- and all such rows are listed -/
theorem tight_ex (t : Bool) (k : Nat) : ∀ (n : Nat) (rs : List (Nat × Nat)) (p : Option Nat), rs.length ≤ n → alt rs → hdNe p rs → (∀ q ∈ rs, q.2 = wid t (keepRun t q)) → dr t rs = pairsO p (kept t rs) → (∀ q ∈ rs, 97 ≤ q.1 ∧ q.1 < 97 + k) → flatR rs ∈ allEx t k p (kept t rs)
  | _, [], p, _, _, _, _, _, _ => List.mem_singleton.mpr rfl
  | 0, q :: rs, p, hn, _, _, _, _, _ => by simp at hn
  | n + 1, q :: rs, p, hn, ha, hp, hw, hd, hl => by
    obtain ⟨h1, h2⟩ := alt_tail ha
    have hq := hw q List.mem_cons_self
    have hw1 : ∀ x ∈ rs, x.2 = wid t (keepRun t x) := fun x hx => hw x (List.mem_cons_of_mem _ hx)
    have hl1 : ∀ x ∈ rs, 97 ≤ x.1 ∧ x.1 < 97 + k := fun x hx => hl x (List.mem_cons_of_mem _ hx)
    have hn1 : rs.length ≤ n := by rw [List.length_cons] at hn; omega
    rw [kept_cons, dr] at hd
    rw [kept_cons, flatR_cons]
    by_cases kq : keepRun t q = true
    · have hp' : p ≠ some q.1 := hp
      rw [if_pos kq, if_pos kq, List.singleton_append, pairsO, if_neg hp'] at hd
      have ih := tight_ex t k n rs (some q.1) hn1 h1 h2 hw1 (by omega) hl1
      rw [if_pos kq, List.singleton_append, allEx]
      refine List.mem_flatMap.mpr ⟨[], ?_, List.mem_map.mpr ⟨flatR rs, ih, ?_⟩⟩
      · unfold sepsX
        rw [if_neg hp']
        exact List.mem_singleton.mpr rfl
      · rw [hq, kq, rep_core]; rfl
    · have kq' : keepRun t q = false := by cases h2 : keepRun t q; rfl; exact absurd h2 kq
      rw [if_neg kq, if_neg kq, List.nil_append] at hd
      rw [if_neg kq, List.nil_append]
      match rs, h1, h2, hw1, hn1, hd, hl1 with
      | [], _, _, _, _, hd, _ => exact absurd hd (by show ¬ (1 + 0 = 0); decide)
      | q2 :: rest, h1, h2, hw1, hn1, hd, hl1 =>
        obtain ⟨g1, g2⟩ := alt_tail h1
        rw [kept_cons, dr] at hd
        rw [kept_cons, flatR_cons]
        by_cases k2 : keepRun t q2 = true
        · have b := (drop_bound t rest (some q2.1) g1).2 g2
          rw [if_pos k2, if_pos k2, List.singleton_append, pairsO] at hd
          by_cases hpe : p = some q2.1
          · rw [if_pos hpe] at hd
            have ih := tight_ex t k n rest (some q2.1) (by rw [List.length_cons] at hn1; omega) g1 g2 (fun x hx => hw1 x (List.mem_cons_of_mem _ hx)) (by omega) (fun x hx => hl1 x (List.mem_cons_of_mem _ hx))
            rw [if_pos k2, List.singleton_append, allEx]
            refine List.mem_flatMap.mpr ⟨sepX t q.1, ?_, List.mem_map.mpr ⟨flatR rest, ih, ?_⟩⟩
            · unfold sepsX
              rw [if_pos hpe]
              refine List.mem_map.mpr ⟨q.1, List.mem_filter.mpr ⟨lettersK_mem.mpr (hl q List.mem_cons_self), decide_eq_true fun z => h2 (congrArg some z)⟩, rfl⟩
            · rw [hq, kq', rep_sep, hw1 q2 List.mem_cons_self, k2, rep_core]
          · rw [if_neg hpe] at hd
            omega
        · have b := (drop_bound t rest p g1).1
          rw [if_neg k2, if_neg k2, List.nil_append] at hd
          omega
end Tw

set_option Elab.async false
set_option linter.all false
set_option maxRecDepth 100000
set_option maxHeartbeats 2000000
namespace Tw
open PySem PySem.Spec PyProof.Rows L2
theorem wid_sum (t : Bool) : ∀ (rs : List (Nat × Nat)), (∀ q ∈ rs, q.2 = wid t (keepRun t q)) → lenR rs = tot t rs
  | [], _ => (by unfold tot; simp [lenR, kept, dr])
  | q :: rs, h => by
    have ih := wid_sum t rs fun x hx => h x (List.mem_cons_of_mem _ hx)
    rw [tot_cons, ← ih, ← h q List.mem_cons_self]
    unfold lenR
    rw [List.map_cons, List.sum_cons]
/-- what allEx lists: the rows in front of a sieve, of the least size -/
theorem allEx_iff {t : Bool} {k : Nat} {l z : List Nat} (hm : ∀ m ∈ l, 97 ≤ m ∧ m < 97 + k) : z ∈ allEx t k none l ↔ (∀ c ∈ z, 97 ≤ c ∧ c < 97 + k) ∧ once t z = l ∧ sizeS z = before1 t (sizeS l) := by
  constructor
  · intro h
    obtain ⟨rs, T, e, hl⟩ := ex_tight t k l none z hm h
    have pos : ∀ q ∈ rs, 1 ≤ q.2 := fun q hq => by rw [T.wid q hq]; exact wid_pos _ _
    have er : runs z = rs := by rw [← e]; exact runs_alt rs T.alt pos
    have eo : once t z = l := by show kept t (runs z) = l; rw [er, T.kept]
    refine ⟨fun c hc => ?_, eo, ?_⟩
    · rw [← e] at hc
      unfold flatR at hc
      obtain ⟨q, hq, hc⟩ := List.mem_flatMap.mp hc
      rw [(List.mem_replicate.mp hc).2]
      exact hl q hq
    · have h1 : z.length = tot t rs := by rw [← lenR_runs, er]; exact wid_sum t rs T.wid
      have h2 := runs_len z
      have h3 := dr_len t rs
      rw [T.kept] at h3
      rw [er] at h2
      have h4 : dr t rs = pairs l := by rw [T.dr]; exact pairsO_S l
      have h5 : tot t rs = l.length * wid t true + dr t rs * wid t false := by unfold tot; rw [T.kept]
      rw [h4] at h3 h5
      cases t
      · have w1 : wid false true = 1 := rfl
        have w2 : wid false false = 2 := rfl
        rw [w1, w2] at h5
        exact Prod.ext (by show z.length = l.length + 2 * pairs l; omega) (by show pairs z = pairs l; omega)
      · have w1 : wid true true = 2 := rfl
        have w2 : wid true false = 1 := rfl
        rw [w1, w2] at h5
        exact Prod.ext (by show z.length = 2 * l.length + pairs l; omega) (by show pairs z = l.length; omega)
  · rintro ⟨hz, eo, es⟩
    subst eo
    have h := congrArg Prod.fst es
    have h : z.length = (before1 t (sizeS (once t z))).1 := h
    have ha := alt_runs z
    obtain ⟨t1, t2⟩ := tot_le t (runs z) (runs_pos z)
    have hd0 : hdNe none (runs z) := by cases runs z with | nil => trivial | cons a b => exact fun q => by cases q
    have d := (drop_bound t (runs z) none ha).2 hd0
    have e1 : pairsO none (kept t (runs z)) = pairs (once t z) := pairsO_S _
    have e2 : tot t (runs z) = (once t z).length * wid t true + dr t (runs z) * wid t false := rfl
    rw [e1] at d
    have e3 : (before1 t (sizeS (once t z))).1 = (once t z).length * wid t true + pairs (once t z) * wid t false := by
      cases t
      · show (once false z).length + 2 * pairs (once false z) = (once false z).length * 1 + pairs (once false z) * 2
        omega
      · show 2 * (once true z).length + pairs (once true z) = (once true z).length * 2 + pairs (once true z) * 1
        omega
    have e4 : dr t (runs z) = pairs (once t z) := by
      have w : 1 ≤ wid t false := wid_pos _ _
      have m1 : pairs (once t z) * wid t false ≤ dr t (runs z) * wid t false := Nat.mul_le_mul_right _ d
      have hl : lenR (runs z) = z.length := lenR_runs z
      have m2 : dr t (runs z) * wid t false = pairs (once t z) * wid t false := by omega
      exact Nat.eq_of_mul_eq_mul_right w m2
    have hw := t2 (by rw [lenR_runs z, h, e3, e2, e4])
    have := tight_ex t k (runs z).length (runs z) none (Nat.le_refl _) ha hd0 hw (by rw [e1, e4]) fun q hq => by
      have hp := runs_pos z q hq
      refine hz q.1 ?_
      have ez : flatR (runs z) = z := flat_runs z
      rw [← ez]
      unfold flatR
      exact List.mem_flatMap.mpr ⟨q, hq, List.mem_replicate.mpr ⟨by omega, rfl⟩⟩
    have ez : flatR (runs z) = z := flat_runs z
    rw [ez] at this
    exact this
theorem core_len (t : Bool) (m : Nat) : (core t m).length = wid t true := by cases t <;> rfl
theorem sepX_inj {t : Bool} {x y : Nat} (h : sepX t x = sepX t y) : x = y := by cases t <;> (cases h; rfl)
theorem seps_len {t : Bool} {k : Nat} {p : Option Nat} {m : Nat} : ∀ s ∈ sepsX t k p m, s.length = if p = some m then wid t false else 0 := by
  intro s hs
  unfold sepsX at hs
  by_cases h : p = some m
  · rw [if_pos h] at hs ⊢
    obtain ⟨x, _, rfl⟩ := List.mem_map.mp hs
    cases t <;> rfl
  · rw [if_neg h] at hs ⊢
    rw [List.mem_singleton.mp hs]; rfl
theorem seps_nodup {t : Bool} {k : Nat} {p : Option Nat} {m : Nat} : (sepsX t k p m).Nodup := by
  unfold sepsX
  by_cases h : p = some m
  · rw [if_pos h]
    exact List.Pairwise.map _ (fun a b hab e => hab (sepX_inj e)) ((lettersK_nodup k).filter _)
  · rw [if_neg h]; exact List.pairwise_singleton _ _
theorem allEx_nodup (t : Bool) (k : Nat) : ∀ (l : List Nat) (p : Option Nat), (allEx t k p l).Nodup
  | [], _ => List.pairwise_singleton _ _
  | m :: l, p => by
    rw [allEx]
    refine List.pairwise_flatMap.mpr ⟨fun s _ => List.Pairwise.map _ (fun a b hab e => hab (List.append_cancel_left (List.append_cancel_left e))) (allEx_nodup t k l (some m)), ?_⟩
    · refine List.Pairwise.imp_of_mem (R := fun a b => a ≠ b) ?_ seps_nodup
      intro a b ha hb hab x hx y hy e
      refine hab ?_
      obtain ⟨u, _, rfl⟩ := List.mem_map.mp hx
      obtain ⟨v, _, rfl⟩ := List.mem_map.mp hy
      exact (List.append_inj e (by rw [seps_len a ha, seps_len b hb])).1
theorem filt_len {m : Nat} : ∀ {L : List Nat}, L.Nodup → m ∈ L → (L.filter (fun x => decide (x ≠ m))).length + 1 = L.length
  | [], _, h => by cases h
  | a :: L, nd, h => by
    obtain ⟨n1, n2⟩ := List.pairwise_cons.mp nd
    by_cases e : a = m
    · subst e
      rw [List.filter_cons, if_neg (by simp)]
      have : L.filter (fun x => decide (x ≠ a)) = L := List.filter_eq_self.mpr fun x hx => decide_eq_true fun z => n1 x hx z.symm
      rw [this]; rfl
    · rw [List.filter_cons, if_pos (by simpa using e)]
      have hm : m ∈ L := (List.mem_cons.mp h).resolve_left fun z => e z.symm
      have := filt_len n2 hm
      rw [List.length_cons, List.length_cons]
      omega
theorem filter_ne_len {k m : Nat} (hm : 97 ≤ m ∧ m < 97 + k) : ((lettersK k).filter (fun x => decide (x ≠ m))).length = k - 1 := by
  have h1 : (lettersK k).length = k := by unfold lettersK; rw [List.length_map, List.length_range]
  have h2 := filt_len (lettersK_nodup k) (lettersK_mem.mpr hm)
  omega
theorem flatMap_const {α β : Type} {n : Nat} : ∀ (L : List α) (f : α → List β), (∀ a ∈ L, (f a).length = n) → (L.flatMap f).length = L.length * n
  | [], _, _ => by simp
  | a :: L, f, h => by
    rw [List.flatMap_cons, List.length_append, h a List.mem_cons_self, flatMap_const L f fun x hx => h x (List.mem_cons_of_mem _ hx), List.length_cons, Nat.succ_mul, Nat.add_comm]
theorem seps_count {t : Bool} {k : Nat} {p : Option Nat} {m : Nat} (hm : 97 ≤ m ∧ m < 97 + k) : (sepsX t k p m).length = (k - 1) ^ (if p = some m then 1 else 0) := by
  unfold sepsX
  by_cases h : p = some m
  · rw [if_pos h, if_pos h, List.length_map, filter_ne_len hm, Nat.pow_one]
  · rw [if_neg h, if_neg h]; rfl
theorem allEx_len (t : Bool) (k : Nat) : ∀ (l : List Nat) (p : Option Nat), (∀ m ∈ l, 97 ≤ m ∧ m < 97 + k) → (allEx t k p l).length = (k - 1) ^ pairsO p l
  | [], _, _ => rfl
  | m :: l, p, h => by
    rw [allEx, flatMap_const (n := (k - 1) ^ pairsO (some m) l), seps_count (h m List.mem_cons_self), pairsO, Nat.pow_add]
    intro s _
    rw [List.length_map, allEx_len t k l (some m) fun x hx => h x (List.mem_cons_of_mem _ hx)]
/-! all sieves -/
def allB (k : Nat) (o : List Nat) : List Nat → List (List Nat)
  | [] => [o]
  | c :: p => (allB k o p).flatMap (allEx (c == 84) k none)
theorem allB_iff {k : Nat} {o : List Nat} (ho : ∀ c ∈ o, 97 ≤ c ∧ c < 97 + k) : ∀ (p r : List Nat), r ∈ allB k o p ↔ (∀ c ∈ r, 97 ≤ c ∧ c < 97 + k) ∧ sv r p = o ∧ sizeS r = growS p (sizeS o)
  | [], r => by
    rw [allB, List.mem_singleton]
    exact ⟨fun e => by subst e; exact ⟨ho, rfl, rfl⟩, fun ⟨_, h, _⟩ => h⟩
  | c :: p, r => by
    rw [allB, List.mem_flatMap]
    constructor
    · rintro ⟨z, hz, hr⟩
      obtain ⟨z1, z2, z3⟩ := (allB_iff ho p z).mp hz
      obtain ⟨r1, r2, r3⟩ := (allEx_iff z1).mp hr
      refine ⟨r1, by rw [sv_cons, r2, z2], by rw [r3, z3, growS_cons]⟩
    · rintro ⟨h1, h2, h3⟩
      have h3' : sizeS r = growS (c :: p) (sizeS (sv r (c :: p))) := by rw [h2]; exact h3
      obtain ⟨m1, m2⟩ := min_tail h3'
      rw [sv_cons] at h2
      have hk : ∀ x ∈ once (c == 84) r, 97 ≤ x ∧ x < 97 + k := fun x hx => h1 x (sv_mem (p := [c]) (by show x ∈ once (c == 84) r; exact hx))
      refine ⟨once (c == 84) r, (allB_iff ho p _).mpr ⟨hk, h2, by rw [m1, h2]⟩, (allEx_iff hk).mpr ⟨h1, rfl, m2⟩⟩
theorem allB_nodup {k : Nat} {o : List Nat} (ho : ∀ c ∈ o, 97 ≤ c ∧ c < 97 + k) : ∀ p : List Nat, (allB k o p).Nodup
  | [] => List.pairwise_singleton _ _
  | c :: p => by
    rw [allB]
    refine List.pairwise_flatMap.mpr ⟨fun s _ => allEx_nodup _ _ _ _, ?_⟩
    refine List.Pairwise.imp_of_mem (R := fun a b => a ≠ b) ?_ (allB_nodup ho p)
    intro a b ha hb hab x hx y hy e
    refine hab ?_
    have ka := ((allB_iff ho p a).mp ha).1
    have kb := ((allB_iff ho p b).mp hb).1
    rw [← ((allEx_iff ka).mp hx).2.1, ← ((allEx_iff kb).mp hy).2.1, e]
theorem allB_len {k : Nat} {o : List Nat} (ho : ∀ c ∈ o, 97 ≤ c ∧ c < 97 + k) : ∀ p : List Nat, (allB k o p).length = (k - 1) ^ sepN p (sizeS o)
  | [] => rfl
  | c :: p => by
    rw [allB, flatMap_const (n := (k - 1) ^ (growS p (sizeS o)).2), allB_len ho p]
    · rw [← Nat.pow_add]; rfl
    · intro a ha
      obtain ⟨k1, _, k3⟩ := (allB_iff ho p a).mp ha
      rw [allEx_len _ _ _ _ k1, pairsO_S, ← k3]
      rfl
/-- the number of a shortest row -/
theorem num_of_row {p r : List Nat} {k : Nat} (hp : Pipe p) (hk : 2 ≤ k ∧ k ≤ 26) (hr : ∀ c ∈ r, 97 ≤ c ∧ c < 97 + k) (el : sizeS r = growS p (sizeS (sv r p))) : ∃ n, nthRow p (sv r p) k n = r ∧ n < (k - 1) ^ (shapeOf p (sv r p)).2.length := by
  have o200 : ∀ c ∈ sv r p, c < 200 := fun c hc => by have := hr c (sv_mem hc); omega
  obtain ⟨ff, ef, ff0⟩ := shape_of_row hp o200 rfl (congrArg Prod.fst el)
  have S := Shp.run o200 (runs p).reverse (fun q hq => runs_heads hp q (List.mem_reverse.mp hq))
  rw [growR_eq] at S
  have S : Shp (shapeOf p (sv r p)) (growS p (sizeS (sv r p))) := S
  have adj : adjO (Dif ff) none (shapeOf p (sv r p)).1 := (adj_pairs ff _ none).2 (by
    show pairsO none ((shapeOf p (sv r p)).1.map ff) = _
    rw [pairsO_S, ← ef]
    exact (congrArg Prod.snd el).trans (congrArg Prod.snd S.size).symm)
  have hr2 : ∀ m ∈ (shapeOf p (sv r p)).1, 97 ≤ ff m ∧ ff m < 97 + k := fun m hm => hr _ (by rw [ef]; exact List.mem_map.mpr ⟨m, hm, rfl⟩)
  obtain ⟨N1, N2⟩ := nth_num hp (fun c hc => hr c (sv_mem hc)) hk ff0 hr2 adj
  rw [← ef] at N1
  exact ⟨_, N1, N2⟩
def rowsN (p o : List Nat) (k : Nat) : List (List Nat) := (List.range ((k - 1) ^ (shapeOf p o).2.length)).map (nthRow p o k)
theorem rowsN_mem {p o : List Nat} {k : Nat} (hp : Pipe p) (hk : 2 ≤ k ∧ k ≤ 26) (ho : ∀ c ∈ o, 97 ≤ c ∧ c < 97 + k) (r : List Nat) : r ∈ rowsN p o k ↔ r ∈ allB k o p := by
  rw [allB_iff ho]
  unfold rowsN
  rw [List.mem_map]
  have lowo : Low o := fun c hc => by have := ho c hc; omega
  have hko : Kinds (k : Nat) o := fun c hc => by have := ho c hc; omega
  constructor
  · rintro ⟨n, hn, rfl⟩
    have NG := nth_good (n := n) hp lowo hk
    have NK := nth_kinds (n := n) hp hk hko
    exact ⟨fun c hc => by have := NK c hc; omega, NG.out, NG.size⟩
  · rintro ⟨h1, h2, h3⟩
    subst h2
    obtain ⟨n, e, hn⟩ := num_of_row hp hk h1 h3
    exact ⟨n, List.mem_range.mpr hn, e⟩
theorem rowsN_sorted {p o : List Nat} {k : Nat} (hp : Pipe p) (hk : 2 ≤ k ∧ k ≤ 26) (ho : ∀ c ∈ o, 97 ≤ c ∧ c < 97 + k) : (rowsN p o k).Pairwise (· < ·) := by
  unfold rowsN
  refine List.pairwise_map.mpr (List.Pairwise.imp_of_mem (R := (· < ·)) (fun {a b} ha hb hab => ?_) List.pairwise_lt_range)
  exact nth_order hp (fun c hc => by have := ho c hc; omega) hk.1 hab (List.mem_range.mp hb)
theorem lt_irr (l : List Nat) : ¬ l < l := List.lt_irrefl l
theorem nodup_of_lt {L : List (List Nat)} (h : L.Pairwise (· < ·)) : L.Nodup := h.imp fun {a b} hab e => by subst e; exact lt_irr _ hab
theorem perm_of_mem {α : Type} [DecidableEq α] : ∀ {A B : List α}, A.Nodup → B.Nodup → (∀ x, x ∈ A ↔ x ∈ B) → A.Perm B
  | [], B, _, _, h => by
    cases B with
    | nil => exact .nil
    | cons b r => exact absurd ((h b).mpr List.mem_cons_self) (by simp)
  | a :: A, B, hA, hB, h => by
    have ha : a ∈ B := (h a).mp List.mem_cons_self
    have pb := List.perm_cons_erase ha
    have nb : (a :: B.erase a).Nodup := pb.nodup_iff.mp hB
    obtain ⟨a1, a2⟩ := List.pairwise_cons.mp hA
    obtain ⟨b1, b2⟩ := List.pairwise_cons.mp nb
    refine (List.Perm.cons a (perm_of_mem a2 b2 fun x => ?_)).trans pb.symm
    constructor
    · intro hx
      have : x ∈ a :: B.erase a := pb.mem_iff.mp ((h x).mp (List.mem_cons_of_mem _ hx))
      rcases List.mem_cons.mp this with e | q
      · exact absurd e.symm (a1 x hx)
      · exact q
    · intro hx
      have : x ∈ a :: A := (h x).mpr (pb.mem_iff.mpr (List.mem_cons_of_mem _ hx))
      rcases List.mem_cons.mp this with e | q
      · exact absurd e.symm (b1 x hx)
      · exact q
theorem allB_perm {p o : List Nat} {k : Nat} (hp : Pipe p) (hk : 2 ≤ k ∧ k ≤ 26) (ho : ∀ c ∈ o, 97 ≤ c ∧ c < 97 + k) : (allB k o p).Perm (rowsN p o k) :=
  perm_of_mem (allB_nodup ho p) (nodup_of_lt (rowsN_sorted hp hk ho)) fun x => (rowsN_mem hp hk ho x).symm
end Tw

set_option Elab.async false
set_option linter.all false
set_option maxRecDepth 100000
set_option maxHeartbeats 2000000
namespace Tw
open PySem PySem.Spec PyProof.Rows L2
/-! sorted of a list of texts, of any length -/
def rSortSt (K : PySem.W.Frag) : List V → Hp → VK → Prop := fun vs H Q => ∃ (a : Addr) (xs : List (List Nat)), vs = [V.ref a] ∧ SqL K H a (xs.map fun x => V.str (mk x)) ∧
  ∀ (ys : List (List Nat)) (p : Addr), ys.Perm xs → ys.Pairwise (fun a b => ¬ b < a) → H p = none → Q (.ref p) (upd H p (.lst (ys.map fun x => V.str (mk x))))
theorem rising_pw : ∀ (r : List Str) (p : Str), risingS p r = true → (p :: r).Pairwise (fun a b => ¬ b.cps.toList < a.cps.toList)
  | [], p, _ => List.pairwise_singleton _ _
  | x :: r, p, h => by
    rw [risingS, Bool.and_eq_true] at h
    have ih := rising_pw r x h.2
    have h1 : ¬ x.cps.toList < p.cps.toList := by
      have := h.1
      rw [ltCps_eq] at this
      simpa using this
    refine List.pairwise_cons.mpr ⟨fun y hy => ?_, ih⟩
    rcases List.mem_cons.mp hy with e | hy
    · rw [e]; exact h1
    · have h2 := (List.pairwise_cons.mp ih).1 y hy
      intro z
      rcases Decidable.em (x.cps.toList < y.cps.toList) with q | q
      · exact h1 (List.lt_trans q z)
      · have e : y.cps.toList = x.cps.toList := by
          rcases Std.Trichotomous.trichotomous (r := fun (a b : List Nat) => a < b) _ _ q h2 with e
          exact e.symm
        rw [e] at z
        exact h1 z
theorem sorted_pw {ss : List Str} (h : sortedS ss = true) : ss.Pairwise (fun a b => ¬ b.cps.toList < a.cps.toList) := by
  cases ss with
  | nil => exact .nil
  | cons x r => exact rising_pw r x h
theorem call_sortedSt {X : Cx} : CallR X (.builtin "sorted") (rSortSt X.K) := by
  intro pins s σ H vs us Q I r h
  obtain ⟨a, xs, rfl, hs, q⟩ := h
  obtain ⟨its, rv, hl, hz⟩ := I.list hs
  rw [Vals.ref1 r]
  have hs' : Vals ((xs.map mk).map V.str) its := by rw [List.map_map]; exact rv
  refine sorted_strsAny hl.isList hs'.strs (by rw [← rv.length]; exact hz) fun out ss h1 h2 h3 => ?_
  obtain ⟨ep, he'⟩ := PyProof.Rows.sortedAll_at s.heap its out
  let ys := ss.map fun x => x.cps.toList
  have es : ss = ys.map mk := by
    show ss = (ss.map fun x => x.cps.toList).map mk
    rw [List.map_map]
    exact (List.map_id ss).symm
  have ev : ss.map V.str = ys.map fun x => V.str (mk x) := by
    conv => lhs; rw [es]
    rw [List.map_map]; rfl
  have py : ys.Perm xs := by
    have p1 := h2.map fun x => x.cps.toList
    have e2 : (xs.map mk).map (fun x => x.cps.toList) = xs := by
      rw [List.map_map]
      exact List.map_id xs
    rw [e2] at p1
    exact p1
  have pw : ys.Pairwise (fun a b => ¬ b < a) := List.pairwise_map.mpr (sorted_pw h3)
  have hlen : (ss.map V.str).length ≤ sizeLine := by
    rw [List.length_map, h2.length_eq, List.length_map]
    rw [List.length_map] at hz
    exact hz
  refine ⟨.ref _, upd H (s.heap.objs.size + 1) (.lst (ss.map V.str)), I.laid (t' := s.toks) (fun _ _ => PyProof.Rows.sortedAll_old) (Nat.le_succ _) ⟨hlen, out.toList, ep, vals_of_strs h1, he'⟩, rfl, ?_⟩
  rw [ev]
  exact q ys _ py pw (I.hok.fresh (Nat.le_succ _))
/-- a sorted list is the one that rises -/
theorem sorted_is {ys L M : List (List Nat)} (h1 : ys.Perm L) (h2 : L.Perm M) (hs : ys.Pairwise (fun a b => ¬ b < a)) (hM : M.Pairwise (· < ·)) : ys = M := by
  refine List.Perm.eq_of_pairwise (le := fun a b => ¬ b < a) (fun a b _ _ h3 h4 => ?_) hs (hM.imp fun {a b} h h5 => lt_irr a (List.lt_trans h h5)) (h1.trans h2)
  rcases Std.Trichotomous.trichotomous (r := fun (a b : List Nat) => a < b) _ _ h4 h3 with e
  exact e
/-! the law's list, place by place -/
def txtV (L : List (List Nat)) : List V := L.map fun x => V.str (mk x)
theorem txtV_app (A B : List (List Nat)) : txtV (A ++ B) = txtV A ++ txtV B := List.map_append
theorem txtV_len (A : List (List Nat)) : (txtV A).length = A.length := List.length_map _
theorem allEx_snoc (t : Bool) (k m : Nat) : ∀ (l : List Nat) (p : Option Nat), allEx t k p (l ++ [m]) = (allEx t k p l).flatMap fun st => (sepsX t k (l.getLast?.or p) m).map fun s => st ++ (s ++ core t m)
  | [], p => by
    show (sepsX t k p m).flatMap (fun s => [[]].map fun z => s ++ (core t m ++ z)) = _
    rw [allEx, List.flatMap_singleton]
    show _ = (sepsX t k p m).map fun s => [] ++ (s ++ core t m)
    rw [List.map_eq_flatMap]
    simp
  | x :: l, p => by
    rw [List.cons_append, allEx, allEx, allEx_snoc t k m l (some x), List.flatMap_assoc]
    have e : (x :: l).getLast?.or p = l.getLast?.or (some x) := by
      cases l with
      | nil => rfl
      | cons a r => rw [List.getLast?_cons_cons]; cases h : (a :: r).getLast? with
        | none => simp at h
        | some q => rfl
    rw [e]
    congr 1
    funext s
    rw [List.map_flatMap, List.flatMap_map]
    congr 1
    funext z
    rw [List.map_map]
    congr 1
    funext y
    simp
theorem allEx_pre {t : Bool} {k : Nat} {l : List Nat} (hk : 2 ≤ k) (hm : ∀ m ∈ l, 97 ≤ m ∧ m < 97 + k) (i : Nat) : (allEx t k none (l.take i)).length ≤ (allEx t k none l).length := by
  rw [allEx_len t k _ _ hm, allEx_len t k _ _ fun m h => hm m (List.mem_of_mem_take h)]
  refine Nat.pow_le_pow_right (by omega) ?_
  have := pairsO_app (l.take i) (l.drop i) none
  rw [List.take_append_drop] at this
  omega
theorem flatMap_pre {α β : Type} (f : α → List β) (L : List α) (i : Nat) : ((L.take i).flatMap f).length ≤ (L.flatMap f).length := by
  conv => rhs; rw [← List.take_append_drop i L]
  rw [List.flatMap_append, List.length_append]
  omega
theorem flatMap_take {α β : Type} (f : α → List β) {L : List α} {i : Nat} {x : α} (h : L[i]? = some x) : (L.take (i + 1)).flatMap f = (L.take i).flatMap f ++ f x := by
  rw [List.take_add_one, h, List.flatMap_append]
  show _ ++ [x].flatMap f = _
  rw [List.flatMap_singleton]
theorem flatMap_one {α β : Type} (f : α → List β) {L : List α} {x : α} (h : x ∈ L) : (f x).length ≤ (L.flatMap f).length := by
  obtain ⟨i, hi⟩ := List.mem_iff_getElem?.mp h
  have := flatMap_pre f L (i + 1)
  rw [flatMap_take f hi, List.length_append] at this
  omega
theorem seps_le {t : Bool} {k : Nat} {p : Option Nat} {m : Nat} : ∀ s ∈ sepsX t k p m, s.length ≤ 2 := fun s hs => by
  rw [seps_len s hs]
  split
  · cases t <;> decide
  · omega
theorem core_le (t : Bool) (m : Nat) : (core t m).length ≤ 2 := by rw [core_len]; cases t <;> decide
theorem allEx_zlen {t : Bool} {k : Nat} : ∀ (l : List Nat) (p : Option Nat), ∀ z ∈ allEx t k p l, z.length ≤ 4 * l.length
  | [], p, z, h => by rw [allEx, List.mem_singleton] at h; rw [h]; exact Nat.zero_le _
  | m :: l, p, z, h => by
    rw [allEx] at h
    obtain ⟨s, hs, h⟩ := List.mem_flatMap.mp h
    obtain ⟨y, hy, rfl⟩ := List.mem_map.mp h
    have h1 := seps_le s hs
    have h2 := core_le t m
    have h3 := allEx_zlen l (some m) y hy
    rw [List.length_append, List.length_append, List.length_cons]
    omega
/-- one place more -/
theorem ex_place {t : Bool} {k : Nat} {l : List Nat} {i m : Nat} (h : l[i]? = some m) : allEx t k none (l.take (i + 1)) = (allEx t k none (l.take i)).flatMap fun st => (sepsX t k (if i = 0 then none else l[i - 1]?) m).map fun s => st ++ (s ++ core t m) := by
  have e : l.take (i + 1) = l.take i ++ [m] := by rw [List.take_add_one, h]; rfl
  have hi : i < l.length := (List.getElem?_eq_some_iff.mp h).1
  rw [e, allEx_snoc, Option.or_none]
  have e2 : (l.take i).getLast? = if i = 0 then none else l[i - 1]? := by
    by_cases z : i = 0
    · subst z; rw [if_pos rfl]; rfl
    · rw [if_neg z, List.getLast?_eq_getElem?, List.length_take, Nat.min_eq_left (by omega), List.getElem?_take_of_lt (by omega)]
  rw [e2]
def spBef9 : Sp := fun vs H Q _ => ∃ (c : Nat) (a : Addr) (kk : Nat) (L : List (List Nat)), vs = [.str (mk [c]), .ref a, .str (mk (lettersK kk))] ∧ (c = 84 ∨ c = 83) ∧ (2 ≤ kk ∧ kk ≤ 26) ∧ H a = some (.lst (txtV L)) ∧ (∀ l ∈ L, (∀ m ∈ l, 97 ≤ m ∧ m < 97 + kk) ∧ l.length ≤ 1000) ∧ (L.flatMap (allEx (c == 84) kk none)).length ≤ 10000 ∧
  ∀ H' N, Same H H' → H N = none → H' N = some (.lst (txtV (L.flatMap (allEx (c == 84) kk none)))) → Q (.ref N) H'
theorem growS_tail (c : Nat) (p : List Nat) (z : Nat × Nat) : (growS p z).1 ≤ (growS (c :: p) z).1 := by
  rw [growS_cons]
  generalize growS p z = w
  cases h : (c == 84)
  · show w.1 ≤ w.1 + 2 * w.2; omega
  · show w.1 ≤ 2 * w.1 + w.2; omega
theorem growS_drop (z : Nat × Nat) : ∀ (i : Nat) (p : List Nat), (growS (p.drop i) z).1 ≤ (growS p z).1
  | 0, p => Nat.le_refl _
  | i + 1, [] => Nat.le_refl _
  | i + 1, c :: p => Nat.le_trans (growS_drop z i p) (growS_tail c p z)
theorem sepN_drop (z : Nat × Nat) : ∀ (i : Nat) (p : List Nat), sepN (p.drop i) z ≤ sepN p z
  | 0, p => Nat.le_refl _
  | i + 1, [] => Nat.le_refl _
  | i + 1, c :: p => Nat.le_trans (sepN_drop z i p) (Nat.le_add_right _ _)
theorem sepN_len (z : Nat × Nat) : ∀ (p : List Nat), sepN p z ≤ p.length * (growS p z).1 + p.length * (z.1 + z.2)
  | [] => Nat.zero_le _
  | c :: p => by
    have h1 := sepN_len z p
    have h2 := growS_tail c p z
    show sepN p z + (growS p z).2 ≤ (p.length + 1) * (growS (c :: p) z).1 + (p.length + 1) * (z.1 + z.2)
    have h3 : (growS p z).2 ≤ (growS (c :: p) z).1 + (z.1 + z.2) := by
      rw [growS_cons]
      generalize growS p z = w
      cases h : (c == 84)
      · show w.2 ≤ w.1 + 2 * w.2 + _; omega
      · show w.2 ≤ 2 * w.1 + w.2 + _; omega
    have h4 : p.length * (growS p z).1 ≤ p.length * (growS (c :: p) z).1 := Nat.mul_le_mul_left _ h2
    rw [Nat.succ_mul, Nat.succ_mul]
    omega
theorem allB_le {k : Nat} {o : List Nat} (hk : 2 ≤ k) (ho : ∀ c ∈ o, 97 ≤ c ∧ c < 97 + k) (p : List Nat) (i : Nat) : (allB k o (p.drop i)).length ≤ (allB k o p).length := by
  rw [allB_len ho, allB_len ho]
  exact Nat.pow_le_pow_right (by omega) (sepN_drop _ i p)
end Tw

set_option Elab.async false
set_option linter.all false
set_option maxRecDepth 100000
set_option maxHeartbeats 2000000
namespace Tw
open PySem PySem.Spec PyProof.Rows L2
abbrev s_law_right : Stmt := topS 48
section
variable {P : Program} {w : World} {K : PySem.W.Frag} {mg : Str → Option Value} {base : Heap}
theorem sc_law_right : FnScope ["source", "kinds_here", "output", "sieves", "span", "many", "here", "spots", "rows", "numbers", "letters", "spot", "row", "letter"] ["source", "kinds_here", "output", "sieves"] (defScope s_law_right) := ⟨rfl, rfl, rfl, by decide +kernel, rfl, by decide +kernel, by decide +kernel⟩
theorem op_neDK {X : Cx} {K : PySem.W.Frag} (e : X.K = K) (hu : X.A.units + 64 < cLine) : OpR X (compareOp .NotEq) (rNeD K) := by
  subst e
  exact op_neD hu
theorem sep_half : ∀ (p : List Nat) {z : Nat × Nat}, z.2 ≤ z.1 → 2 * sepN p z + z.1 ≤ (growS p z).1
  | [], z, _ => by show 2 * 0 + z.1 ≤ z.1; omega
  | c :: p, z, h => by
    have ih := sep_half p h
    have ok : (growS p z).2 ≤ (growS p z).1 := growS_ok p h
    rw [growS_cons]
    show 2 * (sepN p z + (growS p z).2) + z.1 ≤ _
    unfold before1
    cases (c == 84) <;> simp <;> omega
theorem perm_eq {ys L : List (List Nat)} (h : ys.Perm L) (hs : ys.Pairwise (fun a b => ¬ b < a)) (hM : L.Pairwise (fun a b => ¬ b < a)) : ys = L :=
  h.eq_of_pairwise (fun a b _ _ h1 h2 => by
    rcases Std.Trichotomous.trichotomous (r := fun (a b : List Nat) => a < b) a b h2 h1 with e
    exact e) hs hM
theorem upR_ints {H : Hp} {N N2 : Addr} {xs ys : List Int} (h1 : H N = some (.lst (xs.map V.int))) (h2 : H N2 = some (.lst (ys.map V.int))) (e : xs = ys) (l : xs.length ≤ 1000) : UpR (UpR (UpR NoR)) H (.ref N) (.ref N2) := by
  subst e
  refine .inr (.inr (.inr (.inr (.inl ⟨N, N2, _, _, rfl, rfl, h1, h2, rfl, (by rw [List.length_map]; exact l), fun i u v hu hv => ?_⟩))))
  rw [hu] at hv
  cases hv
  rw [List.getElem?_map] at hu
  obtain ⟨x, _, rfl⟩ := Option.map_eq_some_iff.mp hu
  exact .inr (.inr (.inl ⟨x, rfl, rfl⟩))
def spR10 : Sp := fun vs H Q _ => ∃ (r g : Addr) (kk : Nat) (l p : List Nat) (c : Int), vs = [.ref r, .int (kk : Nat), .str (mk l), .str (mk p)] ∧ (2 ≤ kk ∧ kk ≤ 26) ∧ Kinds (kk : Nat) l ∧ l.length ≤ 300 ∧ Pipe p ∧ p.length ≤ 200 ∧ (growS p (sizeS l)).1 ≤ 300 ∧ Src r g c H ∧ c < 400000 ∧
  ∀ H', SameBG r g H H' → Src r g (c + 10) H' → Q (.bl true) H'
theorem ok_right10 {f fV fS fL fN fC fT fP fE fM fD : Addr} {fd fdV fdS fdL fdN fdC fdT fdP fdE fdM fdD : FuncData} {k : Nat} (F : Fun K "_law_right" "_law_right" s_law_right f fd)
    (D_law_sieved : Dfn K mg "_law_sieved" s_law_sieved ["row", "sieves"] fV fdV) (D_law_size : Dfn K mg "_law_size" s_law_size ["row"] fS fdS) (D_law_least : Dfn K mg "_law_least" s_law_least ["sieves", "span"] fL fdL) (D_law_power_of : Dfn K mg "_law_power_of" s_law_power_of ["base", "many"] fP fdP) (D_law_separators : Dfn K mg "_law_separators" s_law_separators ["sieves", "span"] fE fdE) (D_law_same : Dfn K mg "_law_same" s_law_same ["found", "wanted"] fM fdM) (D_law_draw : Dfn K mg "_law_draw" s_law_draw ["source", "many"] fD fdD)
    (Dshortest_number : Dfn K mg "shortest_number" s_shortest_number ["pipeline", "row", "kinds"] fN fdN) (Dcount_shortest : Dfn K mg "count_shortest" s_count_shortest ["pipeline", "output", "kinds"] fC fdC) (Dnth_shortest : Dfn K mg "nth_shortest" s_nth_shortest ["pipeline", "output", "kinds", "number"] fT fdT)
    (G_law_sieved : FnOk P w K mg base CX0 k fV fdV ["row", "sieves"] spLSieved) (G_law_size : FnOk P w K mg base CX0 k fS fdS ["row"] spLSize) (G_law_least : FnOk P w K mg base CX0 k fL fdL ["sieves", "span"] (spLLeast K)) (G_law_power_of : FnOk P w K mg base CX0 k fP fdP ["base", "many"] spLPow) (G_law_separators : FnOk P w K mg base CX0 k fE fdE ["sieves", "span"] (spLSep K)) (G_law_same : FnOk P w K mg base CX0 k fM fdM ["found", "wanted"] (spSameR (UpR (UpR (UpR NoR))))) (G_law_draw : FnOk P w K mg base CX0 k fD fdD ["source", "many"] spSDraw)
    (Gshortest_number : FnOk P w K mg base CX0 k fN fdN ["pipeline", "row", "kinds"] spNum0) (Gcount_shortest : FnOk P w K mg base CX0 k fC fdC ["pipeline", "output", "kinds"] spCnt0) (Gnth_shortest : FnOk P w K mg base CX0 k fT fdT ["pipeline", "output", "kinds", "number"] spNthN)
    (m_min : mg "min" = none) (m_sorted : mg "sorted" = none) : FnOk P w K mg base CX0 (k + 1) f fd ["source", "kinds_here", "output", "sieves"] spR10 := by
  refine F.ok sc_law_right (fun vs H Q E h => ?_) (fun cdv A outer s H vs Q E hr h => ?_)
  · obtain ⟨r, g, kk, l, p, c, rfl, _⟩ := h
    rfl
  · obtain ⟨r, g, kk, l, p, c, rfl, hk, hl, ll, hp, lp, g300, S, hc, q⟩ := h
    refine ⟨_, (pss_cons (ps_set (i := 4) sc_law_right.nd rfl (.inr rfl) (pe_call G_law_least hr rfl D_law_least.g D_law_least.F.kp D_law_least.b .nil pass0 (pa_cons (pv 3) (pa_cons (pe_call G_law_size hr rfl D_law_size.g D_law_size.F.kp D_law_size.b .nil pass0 (pa_cons (pv 2) pa_nil)) pa_nil))))
 (pss_cons (ps_set (i := 5) sc_law_right.nd rfl (.inl rfl) (pe_call G_law_power_of hr rfl D_law_power_of.g D_law_power_of.F.kp D_law_power_of.b .nil pass0 (pa_cons (pe_op op_sub (pv 1) pe_int) (pa_cons (pe_call G_law_separators hr rfl D_law_separators.g D_law_separators.F.kp D_law_separators.b .nil pass0 (pa_cons (pv 3) (pa_cons (pe_call G_law_size hr rfl D_law_size.g D_law_size.F.kp D_law_size.b .nil pass0 (pa_cons (pv 2) pa_nil)) pa_nil))) pa_nil))))
 (pss_cons (ps_if (pt_not (pt_val (pe_call G_law_same hr rfl D_law_same.g D_law_same.F.kp D_law_same.b .nil pass0 (pa_cons (pe_call Gcount_shortest hr rfl Dcount_shortest.g Dcount_shortest.F.kp Dcount_shortest.b .nil pass0 (pa_cons (pv 3) (pa_cons (pv 2) (pa_cons (pv 1) pa_nil)))) (pa_cons (pv 5) pa_nil))))) (pss_one (ps_ret pe_bl)) pss_nil)
 (pss_cons (ps_set (i := 6) sc_law_right.nd rfl (.inl rfl) (pe_call G_law_draw hr rfl D_law_draw.g D_law_draw.F.kp D_law_draw.b .nil pass0 (pa_cons (pv 0) (pa_cons (pv 5) pa_nil))))
 (pss_cons (ps_set (i := 7) sc_law_right.nd rfl (.inl rfl) (pe_callB cr_sortedI (by rfl) m_sorted (by decide +kernel) (pa_cons (pe_lst (pa_cons pe_int (pa_cons (pe_op op_sub (pv 5) pe_int) (pa_cons (pv 6) (pa_cons (pe_callB (call_min2 rfl) (by rfl) m_min boot_min (pa_cons (pe_op op_sub (pv 5) pe_int) (pa_cons (pe_op op_add (pv 6) pe_int) pa_nil))) (pa_cons (pe_call G_law_draw hr rfl D_law_draw.g D_law_draw.F.kp D_law_draw.b .nil pass0 (pa_cons (pv 0) (pa_cons (pv 5) pa_nil))) pa_nil)))))) pa_nil)))
 (pss_cons (ps_setLc (i := 8) (own := [("spot", 11)]) (g := gName 11) (tt := tYes) (by rfl) sc_law_right.nd rfl rfl (sw_true rfl rfl rfl (by decide +kernel)) (pi_list (pv 7)) (blkOk_by (N := ["source", "kinds_here", "output", "sieves", "span", "many", "here", "spots", "rows", "numbers", "letters", "spot", "row", "letter"]) (sc := defScope s_law_right) (by decide +kernel)) (fun _ _ _ _ _ => (pg_name (i := 11) sc_law_right.nd rfl (Or.inl rfl))) (fun _ _ _ _ _ => pts_nil) (fun _ _ _ _ _ => (pe_call Gnth_shortest hr rfl Dnth_shortest.g Dnth_shortest.F.kp Dnth_shortest.b .nil pass0 (pa_cons (pv 3) (pa_cons (pv 2) (pa_cons (pv 1) (pa_cons (pv 11) pa_nil)))))))
 (pss_cons (ps_if (pt_cmpR (op_neD hr.units) (pe_lc (own := [("row", 12)]) (g := gName 12) (by rfl) sc_law_right.nd (pi_list (pv 8)) (blkOk_by (N := ["source", "kinds_here", "output", "sieves", "span", "many", "here", "spots", "rows", "numbers", "letters", "spot", "row", "letter"]) (sc := defScope s_law_right) (by decide +kernel)) (fun _ _ _ _ _ => (pg_name (i := 12) sc_law_right.nd rfl (Or.inl rfl))) (fun _ _ _ _ _ => (pts_one (PW.pt (pw_or (pt_cmpR (op_neDK (K := K) rfl hr.units) (pe_call G_law_size hr rfl D_law_size.g D_law_size.F.kp D_law_size.b .nil pass0 (pa_cons (pv 12) pa_nil)) (pv 4) (nomark _)) (pw_or1 (pt_cmpR op_ne (pe_call G_law_sieved hr rfl D_law_sieved.g D_law_sieved.F.kp D_law_sieved.b .nil pass0 (pa_cons (pv 12) (pa_cons (pv 3) pa_nil))) (pv 2) (nomark _))))))) (fun _ _ _ _ _ => (pv 12))) (pe_lst pa_nil) (nomark _)) (pss_one (ps_ret pe_bl)) pss_nil)
 (pss_cons (ps_setLc (i := 9) (own := [("row", 12)]) (g := gName 12) (tt := tYes) (by rfl) sc_law_right.nd rfl rfl (sw_true rfl rfl rfl (by decide +kernel)) (pi_list (pv 8)) (blkOk_by (N := ["source", "kinds_here", "output", "sieves", "span", "many", "here", "spots", "rows", "numbers", "letters", "spot", "row", "letter"]) (sc := defScope s_law_right) (by decide +kernel)) (fun _ _ _ _ _ => (pg_name (i := 12) sc_law_right.nd rfl (Or.inl rfl))) (fun _ _ _ _ _ => pts_nil) (fun _ _ _ _ _ => (pe_call Gshortest_number hr rfl Dshortest_number.g Dshortest_number.F.kp Dshortest_number.b .nil pass0 (pa_cons (pv 3) (pa_cons (pv 12) (pa_cons (pv 1) pa_nil))))))
 (pss_cons (ps_if (PW.pt (pw_or (pt_cmpR (op_neD hr.units) (pe_callB call_sortedSt (by rfl) m_sorted (by decide +kernel) (pa_cons (pv 8) pa_nil)) (pv 8) (nomark _)) (pw_or1 (pt_not (pt_val (pe_call G_law_same hr rfl D_law_same.g D_law_same.F.kp D_law_same.b .nil pass0 (pa_cons (pv 9) (pa_cons (pv 7) pa_nil)))))))) (pss_one (ps_ret pe_bl)) pss_nil)
 (pss_cons (ps_set (i := 10) sc_law_right.nd rfl (.inr rfl) (pe_slice sl_str pe_str po_none (po_some (pv 1))))
 (pss_one (ps_ret (pe_cmpR (op_eqD hr.units) (pe_lc (own := [("letter", 13)]) (g := gName 13) (by rfl) sc_law_right.nd (pi_str (pe_join pe_str (pv 8))) (blkOk_by (N := ["source", "kinds_here", "output", "sieves", "span", "many", "here", "spots", "rows", "numbers", "letters", "spot", "row", "letter"]) (sc := defScope s_law_right) (by decide +kernel)) (fun _ _ _ _ _ => (pg_name (i := 13) sc_law_right.nd rfl (Or.inl rfl))) (fun _ _ _ _ _ => (pts_one (pt_cmpR op_notIn_sign (pv 13) (pv 10) (by rfl)))) (fun _ _ _ _ _ => (pv 13))) (pe_lst pa_nil) (nomark _)))))))))))))), ?_⟩
    have low : Low l := hl.low (by omega)
    have sb : sepN p (sizeS l) ≤ 150 := by
      have := sep_half p (z := sizeS l) (pairs_le l)
      omega
    have kin : ∀ c ∈ l, 97 ≤ c ∧ c < 97 + kk := fun c hc => by have := hl c hc; omega
    have eN : (kk - 1) ^ sepN p (sizeS l) = (kk - 1) ^ (shapeOf p l).2.length := by
      rw [← allB_len kin p, (allB_perm hp hk kin).length_eq]
      unfold rowsN
      rw [List.length_map, List.length_range]
    have pos : 0 < (kk - 1) ^ (shapeOf p l).2.length := Nat.pow_pos (by omega)
    have big : (kk - 1) ^ sepN p (sizeS l) < 2 ^ 751 := by
      have h1 : (kk - 1) ^ sepN p (sizeS l) ≤ 32 ^ sepN p (sizeS l) := Nat.pow_le_pow_left (by omega) _
      have h2 : (32 : Nat) ^ sepN p (sizeS l) ≤ 32 ^ 150 := Nat.pow_le_pow_right (by decide) sb
      have h3 : (32 : Nat) ^ 150 < 2 ^ 751 := by decide +kernel
      omega
    rw [eN] at big
    have epow : (((kk : Nat) : Int) - 1) ^ sepN p (sizeS l) = (((kk - 1) ^ (shapeOf p l).2.length : Nat) : Int) := by
      rw [← eN, show ((kk : Nat) : Int) - 1 = ((kk - 1 : Nat) : Int) by omega, Int.natCast_pow]
    refine ⟨_, rfl, _, rfl, l, rfl, by omega, low, fun H1 t1 sm1 nt1 ht1 => ?_⟩
    refine ⟨p, t1, l.length, pairs l, rfl, hp, by omega, SqT.of ht1, fun H2 sp sm2 nsp hsp => ?_⟩
    refine ⟨_, rfl, _, _, rfl, rfl, _, rfl, _, rfl, l, rfl, by omega, low, fun H3 t3 sm3 nt3 ht3 => ?_⟩
    refine ⟨p, t3, l.length, pairs l, rfl, hp, by omega, SqT.of ht3, fun H4 sm4 => ?_⟩
    refine ⟨(kk : Nat) - 1, sepN p (l.length, pairs l), rfl, ⟨by omega, by omega⟩, by show sepN p (sizeS l) ≤ _; omega, fun H5 sm5 => ?_⟩
    have epow : (((kk : Nat) : Int) - 1) ^ sepN p (l.length, pairs l) = (((kk - 1) ^ (shapeOf p l).2.length : Nat) : Int) := epow
    rw [epow]
    generalize hM : (kk - 1) ^ (shapeOf p l).2.length = M at *
    have S5 := (((S.same sm1).same sm2).same (sm3.trans sm4)).same sm5
    have hsp5 : H5 sp = some (.tup [V.int ((growS p (sizeS l)).1 : Nat), V.int ((growS p (sizeS l)).2 : Nat)]) := sm5 _ _ (sm4 _ _ (sm3 _ _ hsp))
    have sA := ((sm1.trans sm2).trans (sm3.trans sm4)).trans sm5
    have nspH := sm1.free nsp
    refine ⟨_, rfl, _, rfl, _, rfl, p, l, kk, rfl, by omega, by omega, by omega, hp, hk, hl, fun H6 sm6 => ?_⟩
    rw [hM]
    refine ⟨_, rfl, .int M, .int M, rfl, upInt _ _ _, fun H7 sm7 => ⟨_, rfl, iteF ?_⟩⟩
    have S7 := (S5.same sm6).same sm7
    have hsp7 := sm7 _ _ (sm6 _ _ hsp5)
    have lg : ((M : Nat) : Int).natAbs.log2 < 9000 := by
      have := log2_le_of (i := ((M : Nat) : Int)) (n := 751) (by omega) (by rw [two_pow_cast]; exact Int.ofNat_lt.mpr big)
      omega
    refine ⟨_, rfl, _, rfl, r, g, M, _, rfl, S7, ⟨by omega, lg⟩, by omega, fun H8 v8 sm8 S8 v80 v81 => ?_⟩
    obtain ⟨h8, rfl⟩ := Int.eq_ofNat_of_zero_le v80
    have h8M : h8 < M := by omega
    refine ⟨_, rfl, _, _, rfl, rfl, _, rfl, _, rfl, _, _, rfl, rfl, _, rfl, _, _, rfl, rfl, _, _, rfl, _, rfl, _, rfl, r, g, M, _, rfl, S8, ⟨by omega, lg⟩, by omega, fun H9 v9 sm9 S9 v90 v91 => ?_⟩
    obtain ⟨h9, rfl⟩ := Int.eq_ofNat_of_zero_le v90
    refine ⟨(by show 5 ≤ sizeLine; decide), fun LX nLX => ?_⟩
    have sB1 := same_upd (o := .lst [V.int 0, V.int (((M : Nat) : Int) - 1), V.int (h8 : Nat), V.int (if ((h8 : Nat) : Int) + 1 < ((M : Nat) : Int) - 1 then ((h8 : Nat) : Int) + 1 else ((M : Nat) : Int) - 1), V.int (h9 : Nat)]) nLX
    have hLX : (upd H9 LX (.lst [V.int 0, V.int (((M : Nat) : Int) - 1), V.int (h8 : Nat), V.int (if ((h8 : Nat) : Int) + 1 < ((M : Nat) : Int) - 1 then ((h8 : Nat) : Int) + 1 else ((M : Nat) : Int) - 1), V.int (h9 : Nat)])) LX = some (.lst (List.map V.int ([0, ((M : Nat) : Int) - 1, ((h8 : Nat) : Int), (if ((h8 : Nat) : Int) + 1 < ((M : Nat) : Int) - 1 then ((h8 : Nat) : Int) + 1 else ((M : Nat) : Int) - 1), ((h9 : Nat) : Int)] : List Int))) := upd_same
    generalize upd H9 LX (.lst [V.int 0, V.int (((M : Nat) : Int) - 1), V.int (h8 : Nat), V.int (if ((h8 : Nat) : Int) + 1 < ((M : Nat) : Int) - 1 then ((h8 : Nat) : Int) + 1 else ((M : Nat) : Int) - 1), V.int (h9 : Nat)]) = HX at sB1 hLX ⊢
    refine ⟨LX, ([0, ((M : Nat) : Int) - 1, ((h8 : Nat) : Int), (if ((h8 : Nat) : Int) + 1 < ((M : Nat) : Int) - 1 then ((h8 : Nat) : Int) + 1 else ((M : Nat) : Int) - 1), ((h9 : Nat) : Int)] : List Int), rfl, SqL.of hLX, fun ns SP perm pw nSP => ?_⟩
    obtain ⟨xs, exs, lxs, pxs⟩ : ∃ xs : List Nat, ns = xs.map (fun n : Nat => ((n : Nat) : Int)) ∧ xs.length = 5 ∧ ∀ n ∈ xs, n < M := by
      have mem : ∀ x ∈ ns, 0 ≤ x ∧ x < M := fun x hx => by
        have := perm.mem_iff.mp hx
        simp only [List.mem_cons, List.not_mem_nil, or_false] at this
        rcases this with e | e | e | e | e
        · omega
        · omega
        · omega
        · rw [e]; split <;> omega
        · omega
      refine ⟨ns.map Int.toNat, ?_, by rw [List.length_map, perm.length_eq]; rfl, fun n hn => ?_⟩
      · rw [List.map_map]
        conv => lhs; rw [← List.map_id ns]
        refine List.map_congr_left fun x hx => ?_
        have := mem x hx
        show x = ((x.toNat : Nat) : Int)
        omega
      · obtain ⟨x, hx, rfl⟩ := List.mem_map.mp hn
        have := mem x hx
        omega
    subst exs
    have pwx : xs.Pairwise (· ≤ ·) := (List.pairwise_map.mp pw).imp fun h => Int.ofNat_le.mp h
    clear pw perm v80 v81 v90 v91
    obtain ⟨spr, spg⟩ : sp ≠ r ∧ sp ≠ g := by
      obtain ⟨l', m', t', ns', z1, z2, _⟩ := S7
      exact ⟨fun e => (by rw [e, z1] at hsp7; cases hsp7), fun e => (by rw [e, z2] at hsp7; cases hsp7)⟩
    have hsp9 := sm9 _ _ spr spg (sm8 _ _ spr spg hsp7)
    have sB2 := sB1.trans (same_upd (o := .lst ((xs.map (fun n : Nat => ((n : Nat) : Int))).map V.int)) nSP)
    have hSP : (upd HX SP (.lst ((xs.map (fun n : Nat => ((n : Nat) : Int))).map V.int))) SP = some (.lst (xs.map fun n : Nat => V.int ((n : Nat) : Int))) := by rw [upd_same, List.map_map]; rfl
    generalize upd HX SP (.lst ((xs.map (fun n : Nat => ((n : Nat) : Int))).map V.int)) = HS at sB2 hSP ⊢
    clear hLX sB1 nSP nLX
    have hspS := sB2 _ _ hsp9
    refine ⟨_, rfl, SP, rfl, ⟨_, SqL.of hSP⟩, fun RL nRL => lc_list (xs := xs.map fun n : Nat => V.int ((n : Nat) : Int)) (fun i H2 => Same HS H2 ∧ H2 RL = some (.lst (txtV ((xs.take i).map fun n => nthRow p l kk n)))) ⟨same_upd nRL, upd_same⟩ (fun i H2 _ h => SqL.of (h.1 _ _ hSP)) ?_ ?_⟩
    · rintro i v H2 hv ⟨sm, hRL⟩
      rw [List.getElem?_map] at hv
      obtain ⟨n, hn, rfl⟩ := Option.map_eq_some_iff.mp hv
      have nM := pxs n (List.mem_of_getElem? hn)
      refine ⟨rfl, ?_⟩
      dsimp only [tYes]
      rw [if_pos rfl]
      refine ⟨_, rfl, _, rfl, _, rfl, _, rfl, p, l, kk, n, rfl, by omega, by omega, by omega, hp, hk, hl, by rw [hM]; exact nM, fun H3 sm3 => ⟨_, sm3 _ _ hRL, by rw [txtV_len, List.length_map, List.length_take]; exact line_of (by omega), ?_, ?_⟩⟩
      · intro b o hb
        rw [upd_ne (ne_of_none hb nRL)]
        exact sm3 _ _ (sm b o hb)
      · rw [upd_same, List.take_add_one, hn, List.map_append, txtV_app]
        rfl
    rintro HR ⟨smR, hRL⟩
    rw [List.length_map, List.take_length] at hRL
    have good : ∀ y ∈ xs.map (fun n => nthRow p l kk n), Low y ∧ y.length ≤ 300 ∧ sizeS y = growS p (sizeS l) ∧ sv y p = l ∧ Kinds (kk : Nat) y := fun y hy => by
      obtain ⟨n, hn, rfl⟩ := List.mem_map.mp hy
      have NG := nth_good (n := n) hp low hk
      have e1 : (nthRow p l kk n).length = (growS p (sizeS l)).1 := congrArg Prod.fst NG.size
      exact ⟨NG.low, by omega, NG.size, NG.out, nth_kinds hp hk hl⟩
    have order : ∀ a b, a < b → b < M → nthRow p l kk a < nthRow p l kk b := fun a b h1 h2 => nth_order hp (fun c hc => by have := kin c hc; omega) hk.1 h1 (by rw [hM]; exact h2)
    have pwr : (xs.map fun n => nthRow p l kk n).Pairwise (fun a b => ¬ b < a) := by
      refine List.pairwise_map.mpr ?_
      refine List.Pairwise.imp_of_mem (fun {a b} ha hb h => ?_) pwx
      rcases Nat.lt_or_eq_of_le h with h | h
      · exact List.not_lt.mpr (List.le_of_lt (order a b h (pxs b hb)))
      · rw [h]; exact lt_irr _
    have lr : (xs.map fun n => nthRow p l kk n).length = 5 := by rw [List.length_map]; exact lxs
    refine ⟨_, rfl, RL, rfl, ⟨_, SqL.of hRL⟩, fun D nD => lc_list (xs := txtV (xs.map fun n => nthRow p l kk n)) (fun i H2 => Same HR H2 ∧ H2 D = some (.lst [])) ⟨same_upd nD, upd_same⟩ (fun i H2 _ h => SqL.of (h.1 _ _ hRL)) ?_ ?_⟩
    · rintro i v H2 hv ⟨sm, hD⟩
      unfold txtV at hv
      rw [List.getElem?_map] at hv
      obtain ⟨y, hy, rfl⟩ := Option.map_eq_some_iff.mp hv
      obtain ⟨ly, l300, sy, oy, ky⟩ := good y (List.mem_of_getElem? hy)
      refine ⟨rfl, ?_⟩
      refine ⟨_, rfl, y, rfl, by omega, ly, fun H3 t sm3 nt ht => ?_⟩
      have hs3 := sm3 _ _ (sm _ _ (smR _ _ hspS))
      rw [← sy] at hs3
      have hs3 : H3 sp = some (.tup [V.int (y.length : Nat), V.int (pairs y : Nat)]) := hs3
      obtain ⟨sh, ev⟩ := two_sh (y.length : Nat) (pairs y : Nat)
      refine ⟨_, rfl, _, _, .tup (SqT.of ht) (.cons (.int _) (.cons (.int _) .nil)), .tup (SqT.of hs3) (.cons (.int _) (.cons (.int _) .nil)), sh, sh, _, rfl, ?_⟩
      refine ite_b (c := False) (by rw [ev]; rfl) (fun z => z.elim) fun _ => ?_
      refine ⟨_, rfl, _, rfl, y, p, rfl, ly, hp, by omega, fun H4 sm4 => ⟨_, rfl, rfl, _, rfl, ?_⟩⟩
      rw [oy]
      refine ite_b (c := False) (by rw [decide_eq_true rfl]; rfl) (fun z => z.elim) fun _ => ?_
      exact ⟨(sm.trans sm3).trans sm4, sm4 _ _ (sm3 _ _ hD)⟩
    rintro HD ⟨smD, hD⟩
    refine ⟨(by show 0 ≤ sizeLine; decide), fun W nW => ?_⟩
    have sW := same_upd (o := .lst ([] : List V)) nW
    refine ⟨.list [], .list [], .lst (SqL.of (sW _ _ hD)) .nil, .lst (SqL.of upd_same) .nil, rfl, rfl, _, rfl, iteF ?_⟩
    have sm10 := smD.trans sW
    have hRL10 := sm10 _ _ hRL
    generalize upd HD W (.lst ([] : List V)) = HE at sm10 hRL10 ⊢
    clear sW nW hD smD nD
    refine ⟨_, rfl, RL, rfl, ⟨_, SqL.of hRL10⟩, fun NL nNL => lc_list (xs := txtV (xs.map fun n => nthRow p l kk n)) (fun i H2 => Same HE H2 ∧ H2 NL = some (.lst ((xs.take i).map fun n : Nat => V.int ((n : Nat) : Int)))) ⟨same_upd nNL, upd_same⟩ (fun i H2 _ h => SqL.of (h.1 _ _ hRL10)) ?_ ?_⟩
    · rintro i v H2 hv ⟨sm, hNL⟩
      unfold txtV at hv
      rw [List.getElem?_map, List.getElem?_map] at hv
      obtain ⟨y, hy, rfl⟩ := Option.map_eq_some_iff.mp hv
      obtain ⟨n, hn, rfl⟩ := Option.map_eq_some_iff.mp hy
      have nM := pxs n (List.mem_of_getElem? hn)
      obtain ⟨ly, l300, sy, oy, ky⟩ := good _ (List.mem_map.mpr ⟨n, List.mem_of_getElem? hn, rfl⟩)
      refine ⟨rfl, ?_⟩
      dsimp only [tYes]
      rw [if_pos rfl]
      refine ⟨_, rfl, _, rfl, _, rfl, p, nthRow p l kk n, kk, rfl, by omega, by omega, hp, hk, ky, fun ne => absurd (by rw [oy]; exact congrArg Prod.fst sy) ne, fun _ H3 n' sm3 h1 h2 => ?_⟩
      rw [oy] at h1 h2
      have en : n' = n := by
        rw [hM] at h2
        rcases Nat.lt_trichotomy n' n with h | h | h
        · have := order n' n h nM
          rw [h1] at this
          exact absurd this (lt_irr _)
        · exact h
        · have := order n n' h h2
          rw [h1] at this
          exact absurd this (lt_irr _)
      subst en
      refine ⟨_, sm3 _ _ hNL, by rw [List.length_map, List.length_take]; exact line_of (by omega), ?_, ?_⟩
      · intro b o hb
        rw [upd_ne (ne_of_none hb nNL)]
        exact sm3 _ _ (sm b o hb)
      · rw [upd_same, List.take_add_one, hn, List.map_append]
        rfl
    rintro HN ⟨smN, hNL⟩
    rw [txtV_len, List.length_map, List.take_length] at hNL
    have hRLN := smN _ _ hRL10
    refine ⟨_, rfl, RL, xs.map (fun n => nthRow p l kk n), rfl, SqL.of hRLN, fun ys L py pw nL => ?_⟩
    have eys : ys = xs.map (fun n => nthRow p l kk n) := perm_eq py pw pwr
    subst eys
    have sL := same_upd (o := .lst (txtV (xs.map fun n => nthRow p l kk n))) nL
    have hL : (upd HN L (.lst ((xs.map fun n => nthRow p l kk n).map fun x => V.str (mk x)))) L = some (.lst ((xs.map fun n => nthRow p l kk n).map fun x => V.str (mk x))) := upd_same
    have sL : Same HN (upd HN L (.lst ((xs.map fun n => nthRow p l kk n).map fun x => V.str (mk x)))) := same_upd nL
    generalize upd HN L (.lst ((xs.map fun n => nthRow p l kk n).map fun x => V.str (mk x))) = HL at sL hL ⊢
    have shR := strs_sh (rows := xs.map fun n => nthRow p l kk n) fun y hy c hc => by have := (good y hy).1 c hc; omega
    refine ⟨_, rfl, _, _, .lst (SqL.of hL) (strs_dp _), .lst (SqL.of (sL _ _ hRLN)) (strs_dp _), shR, shR, _, rfl, ?_⟩
    refine ite_b (c := False) (by rw [eqv_self shR]; rfl) (fun z => z.elim) fun _ => ?_
    have hSPL := sL _ _ (smN _ _ (sm10 _ _ (smR _ _ hSP)))
    refine ⟨_, rfl, _, rfl, .ref NL, .ref SP, rfl, upR_ints (xs := xs.map fun n : Nat => ((n : Nat) : Int)) (ys := xs.map fun n : Nat => ((n : Nat) : Int)) (by rw [List.map_map]; exact sL _ _ hNL) (by rw [List.map_map]; exact hSPL) rfl (by rw [List.length_map]; omega), fun HM smM => ⟨_, rfl, iteF ?_⟩⟩
    have e26 : Str.ofString "abcdefghijklmnopqrstuvwxyz" = mk ((List.range 26).map (97 + ·)) := by decide +kernel
    refine ⟨_, rfl, _, rfl, _, rfl, (by decide +kernel), ?_⟩
    rw [e26, cutS_take]
    have smF := ((sm10.trans smN).trans sL).trans smM
    have hRLF := smF _ _ hRL
    have eJ : Txt.join (Str.ofString "") ((xs.map fun n => nthRow p l kk n).map mk) = mk (xs.map fun n => nthRow p l kk n).flatten := joinE _
    refine ⟨⟨_, rfl⟩, _, rfl, _, RL, (xs.map fun n => nthRow p l kk n).map mk, rfl, rfl, .inl (SqL.of (by rw [List.map_map]; exact hRLF)), ?_, ?_⟩
    · have e2 : (Str.ofString "").length = 0 := by decide +kernel
      rw [e2, Nat.mul_zero, Nat.add_zero, List.map_map]
      have b : ∀ Z : List (List Nat), (∀ y ∈ Z, y.length ≤ 300) → (Z.map ((fun x : Str => x.length) ∘ mk)).sum ≤ Z.length * 300 := fun Z => by
        induction Z with
        | nil => intro _; exact Nat.le_refl _
        | cons y Z ih =>
          intro h
          have h1 := h y List.mem_cons_self
          have h2 := ih fun z hz => h z (List.mem_cons_of_mem _ hz)
          rw [List.map_cons, List.sum_cons, List.length_cons, Nat.succ_mul]
          show (mk y).length + _ ≤ _
          rw [mk_len]
          omega
      have := b _ fun y hy => (good y hy).2.1
      rw [lr] at this
      omega
    rw [eJ]
    have fk : ∀ c ∈ (xs.map fun n => nthRow p l kk n).flatten, c ∈ ((List.range 26).map (97 + ·)).take kk := fun c hc => by
      obtain ⟨y, hy, hcy⟩ := List.mem_flatten.mp hc
      have := (good y hy).2.2.2.2 c hcy
      rw [← List.map_take, List.take_range]
      exact List.mem_map.mpr ⟨c - 97, List.mem_range.mpr (by omega), by omega⟩
    refine ⟨_, rfl, fun D nD => lc_it walk_str (fun i H2 => Same HM H2 ∧ H2 D = some (.lst [])) ⟨same_upd nD, upd_same⟩ (fun _ _ _ _ => trivial) ?_ ?_⟩
    · rintro i v H5 H6 hi ⟨sm5, hD⟩ ⟨rfl, c, hc, rfl⟩
      have hc : (xs.map fun n => nthRow p l kk n).flatten[i]? = some c := by
        have := hc
        simpa [mk] using this
      have hm := fk c (List.mem_of_getElem? hc)
      refine ⟨rfl, ?_⟩
      refine ⟨_, rfl, _, rfl, c, _, rfl, rfl, _, rfl, ?_⟩
      refine ite_b (c := False) (by rw [decide_eq_true (show c ∈ (mk (((List.range 26).map (97 + ·)).take kk)).cps.toList from hm)]; rfl) (fun z => z.elim) fun _ => ?_
      exact ⟨sm5, hD⟩
    · rintro H5 ⟨sm5, hD⟩
      refine ⟨(by show 0 ≤ sizeLine; decide), fun W nW => ?_⟩
      have sW := same_upd (o := .lst ([] : List V)) nW
      refine ⟨.list [], .list [], .lst (SqL.of (sW _ _ hD)) .nil, .lst (SqL.of upd_same) .nil, rfl, rfl, ?_⟩
      rw [show PyData.eqv (.list []) (.list []) = true from by decide]
      have sZ := (((sB2.trans smR).trans smF).trans sm5).trans sW
      refine q _ ?_ (((S9.same sZ)).mono (by omega))
      intro b o h1 h2 h3
      exact sZ _ _ (sm9 _ _ h1 h2 (sm8 _ _ h1 h2 ((sm6.trans sm7) _ _ (sA _ _ h3))))
end
end Tw

set_option Elab.async false
set_option linter.all false
set_option maxRecDepth 100000
set_option maxHeartbeats 2000000
namespace Tw
open PySem PySem.Spec PyProof.Rows L2
abbrev s_is_written_count : Stmt := topS 32
abbrev s_count_sieves : Stmt := topS 33
abbrev s_read_pipeline : Stmt := topS 34
section
variable {P : Program} {w : World} {K : PySem.W.Frag} {mg : Str → Option Value} {base : Heap}
theorem sc_is_written_count : FnScope ["digits"] ["digits"] (defScope s_is_written_count) := ⟨rfl, rfl, rfl, by decide +kernel, rfl, by decide +kernel, by decide +kernel⟩
theorem sc_count_sieves : FnScope ["part", "kind", "digits"] ["part"] (defScope s_count_sieves) := ⟨rfl, rfl, rfl, by decide +kernel, rfl, by decide +kernel, by decide +kernel⟩
theorem sc_read_pipeline : FnScope ["text", "runs", "before", "part", "count", "kind"] ["text"] (defScope s_read_pipeline) := ⟨rfl, rfl, rfl, by decide +kernel, rfl, by decide +kernel, by decide +kernel⟩
theorem ok_written {f : Addr} {fd : FuncData} {k : Nat} (F : Fun K "is_written_count" "is_written_count" s_is_written_count f fd) : FnOk P w K mg base CX0 (k + 1) f fd ["digits"] spWritten := by
  refine F.ok sc_is_written_count (fun vs H Q E h => ?_) (fun cdv A outer s H vs Q E hr h => ?_)
  · obtain ⟨d, rfl, _⟩ := h
    rfl
  · obtain ⟨d, rfl, asc, hd, hl, q⟩ := h
    refine ⟨_, (pss_one (ps_ret (pe_and (pe_bm0 PySem.F.plainAttrs_str PySem.F.slot_str_isascii PySem.F.type_str_isascii mt_isascii (pv 0)) (pe_and (pe_bm0 PySem.F.plainAttrs_str PySem.F.slot_str_isdigit PySem.F.type_str_isdigit mt_isdigit (pv 0)) (pe_and (pe_cmpR op_ne (pe_ix ix_str (pv 0) pe_int (fun _ _ => rfl)) pe_str (nomark _)) (pe_one (pe_cmpR op_ne (pv 0) pe_str (nomark _)))))))), ?_⟩
    refine ⟨_, rfl, rfl, _, rfl, rfl, trivial, true, congrArg V.bl (isascii_mk asc), iteT ?_⟩
    have e1 : Txt.isdigit (mk d) = d.all isDig := by
      rw [isdigit_mk asc, decide_eq_true (List.length_pos_iff.mpr hd)]
      rfl
    refine ⟨_, rfl, rfl, _, rfl, rfl, trivial, _, congrArg V.bl e1, ?_⟩
    obtain ⟨c, r, rfl⟩ := List.exists_cons_of_ne_nil hd
    cases h1 : (c :: r).all isDig with
    | false =>
      refine iteF ?_
      have en : numOk (c :: r) = false := by unfold numOk; rw [h1]; rfl
      have := q H (Same.refl H)
      rw [en] at this
      exact this
    | true =>
      refine iteT ?_
      refine ⟨_, rfl, _, _, c, rfl, rfl, (by rw [mk_len]; exact Nat.le_of_lt (line_of (by omega))), atI_nat (j := 0) rfl, rfl, _, rfl, ?_⟩
      have e0 : (Str.ofString "0") = mk [48] := by decide +kernel
      have e11 : (Str.ofString "1") = mk [49] := by decide +kernel
      rw [e0]
      by_cases h48 : c = 48
      · subst h48
        refine iteNS rfl ?_
        have en : numOk (48 :: r) = false := by unfold numOk; rw [h1]; rfl
        have := q H (Same.refl H)
        rw [en] at this
        exact this
      · have e3 : (!decide (V.str (mk [c]) = V.str (mk [48]))) = true := by rw [decide_eq_false fun z => h48 (eq_mk1.mp z)]; rfl
        refine ite_b (c := True) (e3.trans rfl) (fun _ => ?_) (fun z => absurd trivial z)
        refine ⟨_, rfl, rfl, ?_⟩
        rw [e11]
        have en : numOk (c :: r) = (!decide (V.str (mk (c :: r)) = V.str (mk [49]))) := by
          unfold numOk
          rw [h1]
          have e5 : ((c :: r).head? != some 48) = true := by simpa using h48
          rw [e5]
          by_cases h5 : c :: r = [49]
          · rw [h5]; rfl
          · rw [decide_eq_false fun z => h5 (mk_inj.mp (V.str.inj z))]
            simpa using h5
        have := q H (Same.refl H)
        rw [en] at this
        exact this
theorem ok_cntS {f fW : Addr} {fd fdW : FuncData} {k : Nat} (F : Fun K "count_sieves" "count_sieves" s_count_sieves f fd) (Dis_written_count : Dfn K mg "is_written_count" s_is_written_count ["digits"] fW fdW) (m_int : mg "int" = none) : FnOk P w K mg base CX0 (k + 2) f fd ["part"] spCntS := by
  have Gis_written_count : FnOk P w K mg base CX0 (k + 1) fW fdW ["digits"] spWritten := ok_written Dis_written_count.F
  refine F.ok sc_count_sieves (fun vs H Q E h => ?_) (fun cdv A outer s H vs Q E hr h => ?_)
  · obtain ⟨d, rfl, _⟩ := h
    rfl
  · obtain ⟨l, rfl, asc, hl, q⟩ := h
    refine ⟨_, (pss_cons (ps_par (i := 1) (j := 2) rfl sc_count_sieves.nd rfl rfl (by decide) rfl rfl (pa_cons (pe_slice sl_str (pv 0) po_none (po_some pe_int)) (pa_cons (pe_slice sl_str (pv 0) (po_some pe_int) po_none) pa_nil)) (by rfl))
 (pss_cons (ps_if (PW.pt (pw_and (pt_cmpR op_ne (pv 1) pe_str (nomark _)) (pw_and1 (pt_cmpR op_ne (pv 1) pe_str (nomark _))))) (pss_one (ps_ret pe_int)) pss_nil)
 (pss_cons (ps_if (pt_cmpR op_eq (pv 2) pe_str (nomark _)) (pss_one (ps_ret pe_int)) pss_nil)
 (pss_cons (ps_if (pt_val (pe_call Gis_written_count hr rfl Dis_written_count.g Dis_written_count.F.kp Dis_written_count.b .nil pass0 (pa_cons (pv 2) pa_nil))) (pss_one (ps_ret (pe_callTy call_int_str (by rfl) m_int (by decide +kernel) (pa_cons (pv 2) pa_nil)))) pss_nil)
 (pss_one (ps_ret pe_int)))))), ?_⟩
    have hz : (mk l).length ≤ sizeLine := by rw [mk_len]; exact Nat.le_of_lt (line_of (by omega))
    refine ⟨_, rfl, _, rfl, _, rfl, hz, _, rfl, _, rfl, _, rfl, hz, _, _, rfl, ?_⟩
    rw [show (some (1 : Int)) = some ((1 : Nat) : Int) from rfl, cutS_take, cutS_drop]
    have e84 : (Str.ofString "T") = mk [84] := by decide +kernel
    have e83 : (Str.ofString "S") = mk [83] := by decide +kernel
    refine ⟨_, rfl, rfl, _, rfl, ?_⟩
    rw [e84]
    cases l with
    | nil =>
      refine ite_b (c := True) rfl (fun _ => ?_) (fun z => absurd trivial z)
      refine ⟨_, rfl, rfl, _, rfl, ?_⟩
      rw [e83]
      refine ite_b (c := True) rfl (fun _ => ?_) (fun z => absurd trivial z)
      exact q H (Same.refl H)
    | cons c r =>
      have et : (c :: r).take 1 = [c] := rfl
      have ed : (c :: r).drop 1 = r := rfl
      rw [et, ed]
      have rest : (c = 84 ∨ c = 83) → ∀ (Rr : TA), True := fun _ _ => trivial
      by_cases h84 : c = 84 ∨ c = 83
      · have e : cntL (c :: r) = if r = [] then 1 else if numOk r = true then NumText.digitsVal r else 0 := by show (if c = 84 ∨ c = 83 then _ else _) = _; rw [if_pos h84]
        rw [e] at q
        have ascr := asc.tail
        rw [List.length_cons] at hl
        clear e rest et ed
        rcases h84 with rfl | rfl
        case' inl => refine iteNS rfl ?_
        case' inr =>
          refine ite_b (c := True) rfl (fun _ => ?_) (fun z => absurd trivial z)
          refine ⟨_, rfl, rfl, _, rfl, ?_⟩
          rw [e83]
          refine iteNS rfl ?_
        all_goals
          refine ⟨_, rfl, rfl, _, rfl, ?_⟩
          refine ite_b (c := r = []) (decide_eq_decide.mpr ⟨fun z => mk_inj.mp (by rw [← empty_eq]; exact V.str.inj z), fun z => by rw [z, empty_eq]⟩) (fun h0 => ?_) (fun h0 => ?_)
          · rw [if_pos h0] at q
            exact q H (Same.refl H)
          · rw [if_neg h0] at q
            refine ⟨_, rfl, r, rfl, ascr, h0, by omega, fun H1 sm1 => ⟨_, rfl, ?_⟩⟩
            cases hn : numOk r with
            | true =>
              rw [hn, if_pos rfl] at q
              refine iteT ⟨_, rfl, _, _, rfl, SX.int_S (a := r) (by
                unfold numOk at hn
                rw [Bool.and_eq_true, Bool.and_eq_true] at hn
                exact hn.1.1) h0 (by omega), (by rw [mk_len]; omega), q H1 sm1⟩
            | false =>
              rw [hn, if_neg Bool.false_ne_true] at q
              exact iteF (q H1 sm1)
      · have n84 : c ≠ 84 := fun z => h84 (.inl z)
        have n83 : c ≠ 83 := fun z => h84 (.inr z)
        have e3 : ∀ b : Nat, c ≠ b → (!decide (V.str (mk [c]) = V.str (mk [b]))) = true := fun b hb => by rw [decide_eq_false fun z => hb (eq_mk1.mp z)]; rfl
        refine ite_b (c := True) ((e3 _ n84).trans rfl) (fun _ => ?_) (fun z => absurd trivial z)
        refine ⟨_, rfl, rfl, _, rfl, ?_⟩
        rw [e83]
        refine ite_b (c := True) ((e3 _ n83).trans rfl) (fun _ => ?_) (fun z => absurd trivial z)
        have e : cntL (c :: r) = 0 := by show (if c = 84 ∨ c = 83 then _ else _) = _; rw [if_neg h84]
        have := q H (Same.refl H)
        rw [e] at this
        exact this
def tRep : TE := fun σ H Q => tVar 5 σ H fun x H1 => tVar 4 σ H1 fun y H2 => ∃ (l : List Nat) (n : Nat), x = .str (mk l) ∧ y = .int (n : Nat) ∧ (l.length * n ≤ 1000000 ∧ n ≤ 1000000) ∧ Q (.str (mk (reps n l))) H2
theorem rep_lc {H H' : Hp} {p D : Addr} {as : List Addr} {rs : List (Nat × Nat)} {m : Nat} {K : PySem.W.Frag} {Q : Hp → Prop} {s0 s1 s2 s3 s4 s5 : Option V}
    (sm : Same H H') (hp : H' p = some (.lst (as.map V.ref))) (ps : Pairs H' as rs) (nD : H' D = none) (hm : ∀ q ∈ rs, q.2 ≤ m) (m1 : m ≤ 1000000) (hl : rs.length ≤ 100000)
    (hQ : ∀ H2, Same H H2 → H2 D = some (.lst (rs.map fun q => V.str (mk (List.replicate q.2 q.1)))) → Q H2) :
    ∃ W : Nat → Nat → Hp → Prop, (∃ m, W 0 m (upd H' D (.lst []))) ∧ ∀ i m H2, W i m H2 →
      ((Itl K p).stop i H2 ∧ Q H2) ∨ ((Itl K p).go i H2 ∧ ∃ Nx : Hp → Prop, (∀ H3, Nx H3 → ∃ m', m' < m ∧ W (i + 1) m' H3) ∧ ∀ x H3, (Itl K p).yld i H2 x H3 → gTup K 2 (gCons (gName 5) (gCons (gName 4) gNil)) x (wipe [s0, s1, s2, s3, s4, s5] [5, 4]) H3 fun σ2 H4 => wipe σ2 [5, 4] = wipe [s0, s1, s2, s3, s4, s5] [5, 4] ∧ tYes σ2 H4 fun b H5 =>
        if b = true then tRep σ2 H5 fun y H6 => ∃ acc, H6 D = some (.lst acc) ∧ acc.length < sizeLine ∧ Nx (upd H6 D (.lst (acc ++ [y]))) else Nx H5) := by
  refine lc_list (xs := as.map V.ref) (fun i H2 => Same H' H2 ∧ H2 D = some (.lst ((rs.take i).map fun q => V.str (mk (List.replicate q.2 q.1))))) ⟨same_upd nD, by rw [upd_same]; rfl⟩ (fun i H2 _ h => SqL.of (h.1 _ _ hp)) ?_ ?_
  · rintro i x H2 hx ⟨sm2, hD⟩
    rw [List.getElem?_map] at hx
    obtain ⟨a, ha, rfl⟩ := Option.map_eq_some_iff.mp hx
    obtain ⟨q, hq, hqa⟩ := ps.at' ha
    refine ⟨a, _, rfl, SqT.of (sm2 _ _ hqa), rfl, _, _, rfl, _, _, rfl, rfl, rfl, ?_⟩
    dsimp only [tYes]
    rw [if_pos rfl]
    refine ⟨_, rfl, _, rfl, [q.1], q.2, rfl, rfl, ⟨?_, ?_⟩, _, hD, ?_, ?_, ?_⟩
    · have := hm q (List.mem_of_getElem? hq)
      rw [List.length_singleton]
      omega
    · have := hm q (List.mem_of_getElem? hq)
      omega
    · rw [List.length_map]
      refine line_of ?_
      rw [List.length_take]
      omega
    · intro b o hb
      rw [upd_ne (ne_of_none hb nD)]
      exact sm2 b o hb
    · rw [upd_same, List.take_add_one, hq, List.map_append, reps_one]
      rfl
  · rintro H2 ⟨sm2, hD⟩
    refine hQ H2 (sm.trans sm2) ?_
    have e : (as.map V.ref).length = rs.length := by rw [List.length_map, ps.len]
    rw [e, List.take_length] at hD
    exact hD
theorem ok_read {f fC fW CU fI : Addr} {fd fdC fdW : FuncData} {k : Nat} (F : Fun K "read_pipeline" "read_pipeline" s_read_pipeline f fd) (TUnreadable : TwX.ETxt K CU fI) (gUnreadable : mg "Unreadable" = some (.ref CU)) (Dcount_sieves : Dfn K mg "count_sieves" s_count_sieves ["part"] fC fdC) (Dis_written_count : Dfn K mg "is_written_count" s_is_written_count ["digits"] fW fdW) (m_int : mg "int" = none) : FnOk P w K mg base (L2.CX P w) (k + 3) f fd ["text"] (spReadX CU) := by
  have Gcount_sieves : FnOk P w K mg base CX0 (k + 2) fC fdC ["part"] spCntS := ok_cntS Dcount_sieves.F Dis_written_count m_int
  refine F.okX sc_read_pipeline (fun vs H Q E h => ?_) (fun cdv A outer s H vs Q E hr h => ?_)
  · obtain ⟨d, m, rfl, _⟩ := h
    rfl
  · obtain ⟨l, m, rfl, asc, hl, hw, ⟨hm1, hm2⟩, q, qe⟩ := h
    refine ⟨_, (pss_cons (ps_if (pt_cmpR op_eq (pv 0) pe_str (nomark _)) (pss_one (ps_ret pe_str)) pss_nil)
 (pss_cons (ps_set (i := 1) sc_read_pipeline.nd rfl (.inl rfl) (pe_lst pa_nil))
 (pss_cons (ps_set (i := 2) sc_read_pipeline.nd rfl (.inl rfl) pe_str)
 (pss_cons (ps_for (passes_of rfl) rfl (pi_list (pe_split (pv 0) pe_str)) (pg_name (i := 3) sc_read_pipeline.nd rfl (.inl rfl))
  (pss_cons (ps_set (i := 4) sc_read_pipeline.nd rfl (.inl rfl) (pe_call Gcount_sieves hr rfl Dcount_sieves.g Dcount_sieves.F.kp Dcount_sieves.b .nil pass0 (pa_cons (pv 3) pa_nil)))
 (pss_cons (ps_if (PW.pt (pw_or (pt_cmpR op_eq (pv 4) pe_int (nomark _)) (pw_or1 (pt_cmpR op_eq (pe_ix ix_str (pv 3) pe_int (fun _ _ => rfl)) (pv 2) (nomark _))))) (pss_one (ps_raiseR rfl TUnreadable gUnreadable hr (takes_of rfl rfl rfl rfl) (pa_cons (pv 0) pa_nil) rfl)) pss_nil)
 (pss_cons (ps_set (i := 2) sc_read_pipeline.nd rfl (.inl rfl) (pe_ix ix_str (pv 3) pe_int (fun _ _ => rfl)))
 (pss_one (ps_expr (pe_bm PySem.F.plainAttrs_list PySem.F.slot_list_append PySem.F.type_list_append mt_append (pv 1) (pa_cons (pe_tup (pa_cons (pv 2) (pa_cons (pv 4) pa_nil))) pa_nil))))))))
 (pss_one (ps_ret (pe_join pe_str (pe_lc (own := [("kind", 5), ("count", 4)]) (g := gTup K 2 (gCons (gName 5) (gCons (gName 4) gNil))) (tt := tYes) (by rfl) sc_read_pipeline.nd (pi_list (pv 1)) (blkOk_by (N := ["text", "runs", "before", "part", "count", "kind"]) (sc := defScope s_read_pipeline) (by decide +kernel)) (fun _ _ _ _ _ => (pg_tup2 rfl (pg_name (i := 5) sc_read_pipeline.nd rfl (Or.inl rfl) (Or.inr rfl)) (pg_name (i := 4) sc_read_pipeline.nd rfl (Or.inl rfl) (Or.inr rfl)))) (fun _ _ _ _ _ => pts_nil) (fun _ _ _ _ _ => (pe_op op_mulS (pv 5) (pv 4))))))))))), ?_⟩
    have hz : (mk l).length + 2 ≤ sizeLine := by rw [mk_len]; exact Nat.le_of_lt (line_of (by omega))
    refine ⟨_, rfl, rfl, _, rfl, ?_⟩
    rw [none_eq]
    refine ite_b (c := l = noneL) (decide_eq_decide.mpr ⟨fun z => mk_inj.mp (V.str.inj z), fun z => by rw [z]⟩) (fun h0 => ?_) (fun h0 => ?_)
    · have e : readN l = some [] := by unfold readN; rw [if_pos h0]
      have := q [] e H (Same.refl H)
      rw [empty_eq]
      exact this
    have eR : readN l = readL (wordsL l) 0 := by unfold readN; rw [if_neg h0]
    refine ⟨Nat.zero_le _, fun L nL => ?_⟩
    have sL := same_upd (o := .lst ([] : List V)) nL
    refine ⟨_, rfl, ⟨_, rfl⟩, _, _, rfl, rfl, (by decide +kernel), hz, fun p np => ?_⟩
    have sp := same_upd (o := .lst ((Txt.split (mk l) (Str.ofString " ")).map V.str)) np
    have eS : (Txt.split (mk l) (Str.ofString " ")).map V.str = (wordsL l).map fun w => V.str (mk w) := by rw [split_mk, List.map_map]; rfl
    rw [eS] at sp ⊢
    have nLp : p ≠ L := fun z => by rw [z, upd_same] at np; cases np
    refine ⟨p, rfl, ⟨_, SqL.of upd_same⟩, for_list (xs := (wordsL l).map fun w => V.str (mk w)) (fun i σ H' => ∃ y3 y4 acc b as, σ = [some (.str (mk l)), some (.ref L), some (.str (mk (if b = 0 then [] else [b]))), y3, y4, none] ∧ Same H H' ∧ H' p = some (.lst ((wordsL l).map fun w => V.str (mk w))) ∧ H' L = some (.lst (as.map V.ref)) ∧ Pairs H' as acc ∧ ((wordsL l).take i).foldl readF (some ([], 0)) = some (acc, b))
      ⟨none, none, [], 0, [], (by rw [empty_eq]; rfl), sL.trans sp, upd_same, (by rw [upd_ne nLp.symm, upd_same]; rfl), trivial, rfl⟩ (fun i σ H' _ ⟨_, _, _, _, _, _, _, h, _⟩ => SqL.of h) ?_ ?_⟩
    · rintro i x σ H1 hx ⟨y3, y4, acc, b, as, rfl, sm1, hp1, hL1, ps, hf⟩
      rw [List.getElem?_map] at hx
      obtain ⟨w0, hw0, rfl⟩ := Option.map_eq_some_iff.mp hx
      have wm := List.mem_of_getElem? hw0
      obtain ⟨wl, wc⟩ := hw w0 wm
      refine ⟨_, rfl, w0, rfl, asc.mem wm, wl, fun H2 sm2 => ?_⟩
      have ft := readF_take hw0 (some ([], 0))
      rw [hf] at ft
      have out : ∀ H3 : Hp, Same H H3 → ((wordsL l).take (i + 1)).foldl readF (some ([], 0)) = none → ∀ d, H3 d = none → E (.ref CU) (some d) (upd H3 d (xval (.str (mk l)))) := fun H3 s3 hn d hd =>
        qe (eR.trans (readL_none (readF_stop hn))) _ d (s3.trans (same_upd hd)) (s3.free hd) upd_same
      have smA := sm1.trans sm2
      refine ⟨_, rfl, rfl, _, rfl, ?_⟩
      refine ite_b (c := cntL w0 = 0) (decide_eq_decide.mpr ⟨fun z => by have := V.int.inj z; omega, fun z => congrArg V.int (by omega)⟩) (fun hc => ?_) (fun hc => ?_)
      · refine iteT ?_
        refine ⟨_, rfl, _, rfl, fun d hd => out _ smA ?_ d hd⟩
        rw [ft]
        unfold readF
        simp [hc]
      · obtain ⟨k0, d0, rfl, hk⟩ := cntL_head hc
        have e0 : k0 ≠ 0 := by omega
        refine ⟨_, rfl, _, _, k0, rfl, rfl, (by rw [mk_len]; exact Nat.le_of_lt (line_of (by omega))), atI_nat (j := 0) rfl, _, rfl, rfl, _, rfl, ?_⟩
        refine ite_b (c := k0 = b) (decide_eq_decide.mpr ⟨fun z => ?_, fun z => ?_⟩) (fun hb => ?_) (fun hb => ?_)
        · have z := mk_inj.mp (V.str.inj z)
          by_cases b0 : b = 0
          · rw [if_pos b0] at z; cases z
          · rw [if_neg b0] at z; cases z; rfl
        · subst z
          rw [if_neg e0]
          rfl
        · refine ⟨_, rfl, _, rfl, fun d hd => out _ smA ?_ d hd⟩
          rw [ft]
          unfold readF
          simp [hb]
        · have ft2 : readF (some (acc, b)) (k0 :: d0) = some (acc ++ [(k0, cntL (k0 :: d0))], k0) := by unfold readF; simp [hc, hb]
          rw [ft2] at ft
          have hL2 := sm2 _ _ hL1
          refine ⟨_, rfl, _, _, k0, rfl, rfl, (by rw [mk_len]; exact Nat.le_of_lt (line_of (by omega))), atI_nat (j := 0) rfl, ?_⟩
          refine ⟨_, rfl, .inl ⟨rfl, _, SqL.of hL2⟩, _, rfl, _, rfl, (by show 2 ≤ sizeLine; decide), fun t nt => ?_⟩
          have nLt : L ≠ t := ne_of_none hL2 nt
          have st := same_upd (o := .tup [V.str (mk [k0]), V.int (cntL (k0 :: d0) : Nat)]) nt
          refine ⟨L, _, _, rfl, rfl, (by rw [upd_ne nLt]; exact hL2), ?_, ?_⟩
          · refine line_of ?_
            rw [List.length_map, ps.len, readF_len hf, List.length_nil, List.length_take]
            have := wordsL_len l
            omega
          · refine ⟨_, _, acc ++ [(k0, cntL (k0 :: d0))], k0, as ++ [t], (by rw [if_neg e0]; rfl), ?_, ?_, ?_, ?_, ft⟩
            · intro b o hb
              rw [upd_ne (ne_of_none hb nL), upd_ne (ne_of_none (smA b o hb) nt)]
              exact smA b o hb
            · have hp2 := sm2 _ _ hp1
              rw [upd_ne nLp, upd_ne (ne_of_none hp2 nt)]
              exact hp2
            · rw [upd_same, List.map_append]
              rfl
            · refine Pairs.snoc (ps.mono fun b u hb => ?_) ?_
              · have hb2 := sm2 _ _ hb
                rw [upd_ne (ne_of hb2 hL2 tup_ne_lst), upd_ne (ne_of_none hb2 nt)]
                exact hb2
              · rw [upd_ne (Ne.symm nLt), upd_same]
                rfl
    · rintro σ H1 ⟨y3, y4, acc, b, as, rfl, sm1, hp1, hL1, ps, hf⟩
      rw [List.length_map, List.take_length] at hf
      have e := readL_of hf
      have hc := readF_cnt (fun w hw' => (hw w hw').2) (fun q hq => by cases hq) hf
      have hrl := readL_len e
      have hwl := wordsL_len l
      refine ⟨⟨_, rfl⟩, _, rfl, L, rfl, ⟨_, SqL.of hL1⟩, fun D nD => rep_lc sm1 hL1 ps nD hc hm1 (by omega) fun H2 sm2 hD => ?_⟩
      refine ⟨_, D, acc.map fun q => mk (List.replicate q.2 q.1), rfl, rfl, .inl (SqL.of ?_), ?_, ?_⟩
      · rw [hD, List.map_map]
        rfl
      · have e2 : (Str.ofString "").length = 0 := by decide +kernel
        rw [e2, reps_sum]
        have := flatW_len hc
        have h3 : acc.length * m ≤ (wordsL l).length * m := by rw [hrl]; exact Nat.le_refl _
        omega
      · rw [join_reps]
        exact q acc (eR.trans e) H2 sm2
end
end Tw

set_option Elab.async false
set_option linter.all false
set_option maxRecDepth 100000
set_option maxHeartbeats 2000000
namespace Tw
open PySem PySem.Spec PyProof.Rows L2
abbrev s_law : Stmt := topS 49
section
variable {P : Program} {w : World} {K : PySem.W.Frag} {mg : Str → Option Value} {base : Heap}
theorem sc_law : FnScope ["script", "source", "k", "kinds_here", "output", "sieves", "long", "words", "wide", "one", "other"] ["script"] (defScope s_law) := ⟨rfl, rfl, rfl, by decide +kernel, rfl, by decide +kernel, by decide +kernel⟩
theorem join_10 {A B c : Prop} {b : Bool} [Decidable c] (G : Hp → Prop) (Y : Hp → Prop) (e : b = decide c) (h1 : c → (∀ H, Y H → G H) → A) (h2 : ¬ c → (∀ H, Y H → G H) → B) (h3 : ∀ H, Y H → G H) : if b = true then A else B :=
  ite_b e (fun h => h1 h h3) (fun h => h2 h h3)
theorem wordL_small {q : Nat × Nat} (h : q.1 = 84 ∨ q.1 = 83) : ∀ c ∈ wordL q, c < 55296 := fun c hc => by
  have a := joinL_asc (ws := [q]) (fun x hx => by rw [List.mem_singleton.mp hx]; exact h)
  have e : TL.joinL [32] ([q].map wordL) = wordL q := rfl
  rw [e] at a
  have := a c hc
  omega
theorem cnt_rep (c x : Nat) : ∀ n, PyProof.Rows.cnt c (List.replicate n x) = if x = c then (n : Int) else 0
  | 0 => by split <;> rfl
  | n + 1 => by
    rw [List.replicate_succ, PyProof.Rows.cnt_cons, cnt_rep c x n]
    split <;> omega
theorem cnt_app (c : Nat) (l r : List Nat) : PyProof.Rows.cnt c (l ++ r) = PyProof.Rows.cnt c l + PyProof.Rows.cnt c r := by
  induction l with
  | nil => show _ = 0 + _; rw [Int.zero_add]; rfl
  | cons n l ih => rw [List.cons_append, PyProof.Rows.cnt_cons, PyProof.Rows.cnt_cons, ih, Int.add_assoc]
theorem cnt_ab (c : Nat) (h : c = 84) (A B : Nat) : Txt.count (mk (List.replicate A 83 ++ List.replicate B 84)) (mk [c]) = (B : Nat) := by
  subst h
  show Txt.count _ ⟨#[84]⟩ = _
  rw [PyProof.Rows.count_cnt]
  show PyProof.Rows.cnt 84 (List.replicate A 83 ++ List.replicate B 84) = _
  rw [cnt_app, cnt_rep, cnt_rep, if_neg (by decide), if_pos rfl, Int.zero_add]
theorem cnt_ab2 (c : Nat) (h : c = 83) (A B : Nat) : Txt.count (mk (List.replicate A 83 ++ List.replicate B 84)) (mk [c]) = (A : Nat) := by
  subst h
  show Txt.count _ ⟨#[83]⟩ = _
  rw [PyProof.Rows.count_cnt]
  show PyProof.Rows.cnt 83 (List.replicate A 83 ++ List.replicate B 84) = _
  rw [cnt_app, cnt_rep, cnt_rep, if_pos rfl, if_neg (by decide), Int.add_zero]
set_option maxHeartbeats 40000000 in
theorem ok_law (T : KTy K) {f : Addr} {fd : FuncData} (F : Fun K "law" "law" s_law f fd) {f_law_source f_law_draw f_law_same f_law_runs f_law_sieved f_law_size f_law_least f_law_sieves f_law_row f_law_separators f_law_power_of f_law_shorter f_law_right f_count_shortest f_nth_shortest f_shortest_number f_sieve f_read_pipeline : Addr} {fd_law_source fd_law_draw fd_law_same fd_law_runs fd_law_sieved fd_law_size fd_law_least fd_law_sieves fd_law_row fd_law_separators fd_law_power_of fd_law_shorter fd_law_right fd_count_shortest fd_nth_shortest fd_shortest_number fd_sieve fd_read_pipeline : FuncData}
    (D_law_source : Dfn K mg "_law_source" s_law_source ["script"] f_law_source fd_law_source) (D_law_draw : Dfn K mg "_law_draw" s_law_draw ["source", "many"] f_law_draw fd_law_draw) (D_law_same : Dfn K mg "_law_same" s_law_same ["found", "wanted"] f_law_same fd_law_same) (D_law_runs : Dfn K mg "_law_runs" s_law_runs ["row"] f_law_runs fd_law_runs) (D_law_sieved : Dfn K mg "_law_sieved" s_law_sieved ["row", "sieves"] f_law_sieved fd_law_sieved) (D_law_size : Dfn K mg "_law_size" s_law_size ["row"] f_law_size fd_law_size) (D_law_least : Dfn K mg "_law_least" s_law_least ["sieves", "span"] f_law_least fd_law_least) (D_law_sieves : Dfn K mg "_law_sieves" s_law_sieves ["source", "most"] f_law_sieves fd_law_sieves) (D_law_row : Dfn K mg "_law_row" s_law_row ["source", "most", "kinds_here"] f_law_row fd_law_row) (D_law_separators : Dfn K mg "_law_separators" s_law_separators ["sieves", "span"] f_law_separators fd_law_separators) (D_law_power_of : Dfn K mg "_law_power_of" s_law_power_of ["base", "many"] f_law_power_of fd_law_power_of) (D_law_shorter : Dfn K mg "_law_shorter" s_law_shorter ["sieves", "output", "most"] f_law_shorter fd_law_shorter) (D_law_right : Dfn K mg "_law_right" s_law_right ["source", "kinds_here", "output", "sieves"] f_law_right fd_law_right) (Dcount_shortest : Dfn K mg "count_shortest" s_count_shortest ["pipeline", "output", "kinds"] f_count_shortest fd_count_shortest) (Dnth_shortest : Dfn K mg "nth_shortest" s_nth_shortest ["pipeline", "output", "kinds", "number"] f_nth_shortest fd_nth_shortest) (Dshortest_number : Dfn K mg "shortest_number" s_shortest_number ["pipeline", "row", "kinds"] f_shortest_number fd_shortest_number) (Dsieve : Dfn K mg "sieve" sSieve ["row", "pipeline"] f_sieve fd_sieve) (Dread_pipeline : Dfn K mg "read_pipeline" s_read_pipeline ["text"] f_read_pipeline fd_read_pipeline) 
    (m_len : mg "len" = none) (m_range : mg "range" = none) (m_int : mg "int" = none) (m_max : mg "max" = none) (m_min : mg "min" = none) (m_str : mg "str" = none) (m_isinstance : mg "isinstance" = none) (m_bool : mg "bool" = none) (m_list : mg "list" = none) (m_tuple : mg "tuple" = none) (m_sorted : mg "sorted" = none)
    (Gshortest_number : FnOk P w K mg base CX0 7 f_shortest_number fd_shortest_number ["pipeline", "row", "kinds"] spNum0) (Gcount_shortest : FnOk P w K mg base CX0 8 f_count_shortest fd_count_shortest ["pipeline", "output", "kinds"] spCnt0) (Gcount7 : FnOk P w K mg base CX0 7 f_count_shortest fd_count_shortest ["pipeline", "output", "kinds"] spCnt0) (Gnth_shortest : FnOk P w K mg base CX0 7 f_nth_shortest fd_nth_shortest ["pipeline", "output", "kinds", "number"] spNthN) (Gsieve : FnOk P w K mg base CX0 8 f_sieve fd_sieve ["row", "pipeline"] spSieve0) (Gread_pipeline : FnOk P w K mg base CX0 8 f_read_pipeline fd_read_pipeline ["text"] spRead0) : RunA P w K mg base CX0 callerA f fd ["script"] (spTrue K) := by
  have G_law_source : FnOk P w K mg base CX0 8 f_law_source fd_law_source ["script"] (spSource K) := ok_source D_law_source.F m_max
  have G_law_draw : FnOk P w K mg base CX0 8 f_law_draw fd_law_draw ["source", "many"] spSDraw := ok_sdraw D_law_draw.F
  have Gd7 : FnOk P w K mg base CX0 7 f_law_draw fd_law_draw ["source", "many"] spSDraw := ok_sdraw D_law_draw.F
  have G_law_sieves : FnOk P w K mg base CX0 8 f_law_sieves fd_law_sieves ["source", "most"] spLSieves := ok_lsieves D_law_sieves.F D_law_draw m_range
  have G_law_row : FnOk P w K mg base CX0 8 f_law_row fd_law_row ["source", "most", "kinds_here"] spLRow := ok_lrow D_law_row.F D_law_draw m_range m_int
  have Gz7 : FnOk P w K mg base CX0 7 f_law_size fd_law_size ["row"] spLSize := ok_lsize D_law_size.F D_law_runs m_len
  have Gv7 : FnOk P w K mg base CX0 7 f_law_sieved fd_law_sieved ["row", "sieves"] spLSieved := ok_lsvd D_law_sieved.F D_law_runs
  have Gl7 : FnOk P w K mg base CX0 7 f_law_least fd_law_least ["sieves", "span"] (spLLeast K) := ok_lleast D_law_least.F
  have G_law_shorter : FnOk P w K mg base CX0 8 f_law_shorter fd_law_shorter ["sieves", "output", "most"] spLShorter := ok_lshorter D_law_shorter.F D_law_runs D_law_size D_law_least m_len
  have Gs7 : FnOk P w K mg base CX0 7 f_law_separators fd_law_separators ["sieves", "span"] (spLSep K) := ok_lsep D_law_separators.F D_law_least
  have Gp7 : FnOk P w K mg base CX0 7 f_law_power_of fd_law_power_of ["base", "many"] spLPow := ok_lpow D_law_power_of.F m_range
  have G4 : FnOk P w K mg base CX0 4 f_law_same fd_law_same ["found", "wanted"] (spSameR NoR) := no_fn D_law_same.F
  have G5 : FnOk P w K mg base CX0 5 f_law_same fd_law_same ["found", "wanted"] (spSameR (UpR NoR)) := ok_same_up (k := 3) noR_mono T D_law_same G4 m_isinstance m_len m_range m_bool m_int m_str m_list m_tuple
  have G6 : FnOk P w K mg base CX0 6 f_law_same fd_law_same ["found", "wanted"] (spSameR (UpR (UpR NoR))) := ok_same_up (k := 4) (upR_mono noR_mono) T D_law_same G5 m_isinstance m_len m_range m_bool m_int m_str m_list m_tuple
  have Ga7 : FnOk P w K mg base CX0 7 f_law_same fd_law_same ["found", "wanted"] (spSameR (UpR (UpR (UpR NoR)))) := ok_same_up (k := 5) (upR_mono (upR_mono noR_mono)) T D_law_same G6 m_isinstance m_len m_range m_bool m_int m_str m_list m_tuple
  have G_law_right : FnOk P w K mg base CX0 8 f_law_right fd_law_right ["source", "kinds_here", "output", "sieves"] spR10 := ok_right10 (k := 7) D_law_right.F D_law_sieved D_law_size D_law_least D_law_power_of D_law_separators D_law_same D_law_draw Dshortest_number Dcount_shortest Dnth_shortest Gv7 Gz7 Gl7 Gp7 Gs7 Ga7 Gd7 Gshortest_number Gcount7 Gnth_shortest m_min m_sorted
  refine runA_of (k := 8) F sc_law ⟨rfl, by decide, by decide⟩ (fun vs H Q E h => ?_) (fun cdv s H vs Q E hr h => ?_)
  · obtain ⟨a, ns, rfl, _⟩ := h
    rfl
  · obtain ⟨a, ns, rfl, hS0, hlen, q⟩ := h
    refine ⟨_, PSs.nox (pss_cons (ps_set (i := 1) sc_law.nd rfl (.inl rfl) (pe_call G_law_source hr rfl D_law_source.g D_law_source.F.kp D_law_source.b .nil pass0 (pa_cons (pv 0) pa_nil)))
 (pss_cons (ps_for PassesOwn.never rfl (pi_range1 (by rfl) m_range (pa_cons (pe_op op_add pe_int (pe_callB (call_min2 rfl) (by rfl) m_min boot_min (pa_cons pe_int (pa_cons (pe_callB call_len_seq (by rfl) m_len PySem.boot_len (pa_cons (pv 0) pa_nil)) pa_nil)))) pa_nil)) (pg_name (i := 2) sc_law.nd rfl (.inl rfl))
  (pss_cons (ps_set (i := 3) sc_law.nd rfl (.inl rfl) (pe_ix ix_list (pe_lst (pa_cons pe_int (pa_cons pe_int (pa_cons pe_int (pa_cons (pe_op op_add pe_int (pe_call G_law_draw hr rfl D_law_draw.g D_law_draw.F.kp D_law_draw.b .nil pass0 (pa_cons (pv 1) (pa_cons pe_int pa_nil)))) pa_nil))))) (pe_call G_law_draw hr rfl D_law_draw.g D_law_draw.F.kp D_law_draw.b .nil pass0 (pa_cons (pv 1) (pa_cons pe_int pa_nil))) (fun _ _ => rfl)))
 (pss_cons (ps_set (i := 4) sc_law.nd rfl (.inl rfl) (pe_call G_law_row hr rfl D_law_row.g D_law_row.F.kp D_law_row.b .nil pass0 (pa_cons (pv 1) (pa_cons pe_int (pa_cons (pv 3) pa_nil)))))
 (pss_cons (ps_set (i := 5) sc_law.nd rfl (.inl rfl) (pe_call G_law_shorter hr rfl D_law_shorter.g D_law_shorter.F.kp D_law_shorter.b .nil pass0 (pa_cons (pe_call G_law_sieves hr rfl D_law_sieves.g D_law_sieves.F.kp D_law_sieves.b .nil pass0 (pa_cons (pv 1) (pa_cons pe_int pa_nil))) (pa_cons (pv 4) (pa_cons pe_int pa_nil)))))
 (pss_cons (ps_set (i := 6) sc_law.nd rfl (.inl rfl) (pe_call G_law_shorter hr rfl D_law_shorter.g D_law_shorter.F.kp D_law_shorter.b .nil pass0 (pa_cons (pe_op op_add_str (pe_op op_mulS pe_str (pe_op op_add pe_int (pe_call G_law_draw hr rfl D_law_draw.g D_law_draw.F.kp D_law_draw.b .nil pass0 (pa_cons (pv 1) (pa_cons pe_int pa_nil))))) (pe_op op_mulS pe_str (pe_call G_law_draw hr rfl D_law_draw.g D_law_draw.F.kp D_law_draw.b .nil pass0 (pa_cons (pv 1) (pa_cons pe_int pa_nil))))) (pa_cons (pv 4) (pa_cons pe_int pa_nil)))))
 (pss_cons (ps_set (i := 7) sc_law.nd rfl (.inl rfl) (pe_ix ix_list (pe_lst (pa_cons (pe_op op_add_str pe_str (pe_callTy call_str_int (by rfl) m_str (by decide +kernel) (pa_cons (pe_op op_sub (pe_callB call_len_str (by rfl) m_len PySem.boot_len (pa_cons (pv 6) pa_nil)) (pe_bm PySem.F.plainAttrs_str PySem.F.slot_str_count PySem.F.type_str_count mt_count (pv 6) (pa_cons pe_str pa_nil))) pa_nil))) (pa_cons pe_str pa_nil))) (pe_callTy call_int1 (by rfl) m_int (by decide +kernel) (pa_cons (pe_cmpR op_eq (pe_bm PySem.F.plainAttrs_str PySem.F.slot_str_count PySem.F.type_str_count mt_count (pv 6) (pa_cons pe_str pa_nil)) pe_int (nomark _)) pa_nil)) (fun _ _ => rfl)))
 (pss_cons (ps_set (i := 7) sc_law.nd rfl (.inl rfl) (pe_op op_cat (pe_op op_rep (pe_lst (pa_cons (pv 7) pa_nil)) (pe_callTy call_int1 (by rfl) m_int (by decide +kernel) (pa_cons (pe_cmpR op_in_sign pe_str (pv 6) (by rfl)) pa_nil))) (pe_op op_rep (pe_lst (pa_cons pe_str pa_nil)) (pe_bm PySem.F.plainAttrs_str PySem.F.slot_str_count PySem.F.type_str_count mt_count (pv 6) (pa_cons pe_str pa_nil)))))
 (pss_cons (ps_set (i := 6) sc_law.nd rfl (.inl rfl) (pe_ifExp (pt_cmpR (op_neD hr.units) (pv 7) (pe_lst pa_nil) (nomark _)) (pe_call Gread_pipeline hr rfl Dread_pipeline.g Dread_pipeline.F.kp Dread_pipeline.b .nil pass0 (pa_cons (pe_join pe_str (pv 7)) pa_nil)) pe_str))
 (pss_cons (ps_set (i := 8) sc_law.nd rfl (.inl rfl) (pe_call Gsieve hr rfl Dsieve.g Dsieve.F.kp Dsieve.b .nil pass0 (pa_cons (pe_call G_law_row hr rfl D_law_row.g D_law_row.F.kp D_law_row.b .nil pass0 (pa_cons (pv 1) (pa_cons pe_int (pa_cons (pv 3) pa_nil)))) (pa_cons pe_str pa_nil))))
 (pss_one (ps_for PassesOwn.never rfl (pi_list (pe_lst (pa_cons (pe_tup (pa_cons (pv 5) (pa_cons (pv 4) pa_nil))) (pa_cons (pe_tup (pa_cons (pv 6) (pa_cons (pv 4) pa_nil))) (pa_cons (pe_tup (pa_cons (pe_call G_law_shorter hr rfl D_law_shorter.g D_law_shorter.F.kp D_law_shorter.b .nil pass0 (pa_cons (pe_slice sl_str (pv 5) po_none (po_some pe_int)) (pa_cons (pv 8) (pa_cons pe_int pa_nil)))) (pa_cons (pv 8) pa_nil))) pa_nil))))) (pg_tup rfl (pgs_cons (pg_name (i := 9) sc_law.nd rfl (.inl rfl)) (pgs_cons (pg_name (i := 10) sc_law.nd rfl (.inl rfl)) pgs_nil)))
  (pss_one (ps_if (pt_not (pt_val (pe_call G_law_right hr rfl D_law_right.g D_law_right.F.kp D_law_right.b .nil pass0 (pa_cons (pv 1) (pa_cons (pv 3) (pa_cons (pv 10) (pa_cons (pv 9) pa_nil))))))) (pss_one (ps_ret pe_bl)) pss_nil)))))))))))))
 (pss_one (ps_ret (pe_and (pe_cmpR op_eq (pe_call Gcount_shortest hr rfl Dcount_shortest.g Dcount_shortest.F.kp Dcount_shortest.b .nil pass0 (pa_cons pe_str (pa_cons pe_str (pa_cons pe_int pa_nil)))) pe_int (nomark _)) (pe_one (pe_cmpR op_eq (pe_call Gcount_shortest hr rfl Dcount_shortest.g Dcount_shortest.F.kp Dcount_shortest.b .nil pass0 (pa_cons pe_str (pa_cons pe_str (pa_cons pe_int pa_nil)))) pe_int (nomark _)))))))), ?_⟩
    refine ⟨_, rfl, a, ns, rfl, hS0, hlen, fun H1 r g sm1 nr ng S1 => ?_⟩
    have hS1 : SqL K H1 a (ns.map V.int) := sm1.seq hS0
    have nl : ∀ n : Nat, n ≤ 63 → 3 + (if ((n : Nat) : Int) < 8 then ((n : Nat) : Int) else 8) ≤ 11 ∧ 0 ≤ 3 + (if ((n : Nat) : Int) < 8 then ((n : Nat) : Int) else 8) := by
      intro n hn
      split <;> omega
    have nl := nl ((ns.map V.int).length) (by rw [List.length_map]; exact hlen)
    refine ⟨_, rfl, a, _, rfl, .inl hS1, _, _, rfl, _, _, rfl, rfl, _, rfl, by omega, by omega, for_range (fun i σ H' => ∃ y2 y3 y4 y5 y6 y7 y8 y9 y10, σ = [some (.ref a), some (.ref r), y2, y3, y4, y5, y6, y7, y8, y9, y10] ∧ Src r g (2000 * (i : Nat)) H' ∧ i ≤ 11) ⟨none, none, none, none, none, none, none, none, none, rfl, S1.mono (by omega), by omega⟩ ?_ ?_⟩
    · rintro i0 σ H2 hi0 ⟨y2, y3, y4, y5, y6, y7, y8, y9, y10, rfl, S2, i11⟩
      have hi1 : i0 + 1 ≤ 11 := by omega
      have S_eq : Str.ofString "S" = mk [83] := by decide +kernel
      have T_eq : Str.ofString "T" = mk [84] := by decide +kernel
      refine ⟨_, rfl, r, g, 25, _, rfl, S2, ⟨by decide, by decide⟩, by omega, fun H3 v3 sm3 S3 v30 v31 => ⟨_, _, rfl, rfl, (by show 4 ≤ sizeLine; decide), fun L4 nL4 => ?_⟩⟩
      have s4 := same_upd (o := .lst [V.int 2, V.int 3, V.int 26, V.int (2 + v3)]) nL4
      obtain ⟨L4r, L4g⟩ := S3.ne nL4
      have S4 := S3.same s4
      have hL4 : (upd H3 L4 (.lst [V.int 2, V.int 3, V.int 26, V.int (2 + v3)])) L4 = some (.lst [V.int 2, V.int 3, V.int 26, V.int (2 + v3)]) := upd_same
      generalize upd H3 L4 (.lst [V.int 2, V.int 3, V.int 26, V.int (2 + v3)]) = H4 at S4 hL4 ⊢
      refine ⟨_, rfl, r, g, 4, _, rfl, S4, ⟨by decide, by decide⟩, by omega, fun H5 v5 sm5 S5 v50 v51 => ?_⟩
      obtain ⟨kk, akk, hk⟩ : ∃ kk : Nat, atI [V.int 2, V.int 3, V.int 26, V.int (2 + v3)] v5 = some (V.int (kk : Nat)) ∧ 2 ≤ kk ∧ kk ≤ 26 := by
        obtain ⟨w, rfl⟩ := Int.eq_ofNat_of_zero_le v50
        obtain ⟨w3, rfl⟩ := Int.eq_ofNat_of_zero_le v30
        have hw : w = 0 ∨ w = 1 ∨ w = 2 ∨ w = 3 := by omega
        rcases hw with e | e | e | e <;> subst e
        · exact ⟨2, atI_nat (j := 0) rfl, by decide⟩
        · exact ⟨3, atI_nat (j := 1) rfl, by decide⟩
        · exact ⟨26, atI_nat (j := 2) rfl, by decide⟩
        · exact ⟨2 + w3, atI_nat (j := 3) (by show some (V.int (2 + (w3 : Nat))) = some (V.int ((2 + w3 : Nat) : Int)); rw [Int.natCast_add]; rfl), by omega⟩
      refine ⟨L4, _, _, _, rfl, rfl, SqL.of (sm5 _ _ L4r L4g hL4), akk, ?_⟩
      clear akk hL4 s4 S2 S3 S4 sm3 sm5 v30 v31 v50 v51 nL4 L4r L4g
      refine ⟨_, rfl, _, rfl, r, g, 12, kk, _, rfl, by decide, ⟨by omega, by omega⟩, S5, by omega, fun H6 l sm6 S6 hl ll => ?_⟩
      have low : Low l := hl.low (by omega)
      refine ⟨_, rfl, r, g, 12, _, rfl, by decide, S6, by omega, fun H7 p0 sm7 S7 hp0 lp0 => ⟨_, rfl, p0, l, 300, rfl, hp0, by omega, low, by omega, by omega, fun H8 d sm8 g8 => ?_⟩⟩
      have hp : Pipe (p0.drop d) := fun c hc => hp0 c (List.mem_of_mem_drop hc)
      have lp : (p0.drop d).length ≤ 12 := by rw [List.length_drop]; omega
      generalize p0.drop d = p at hp lp g8 ⊢
      have S8 := S7.same sm8
      refine ⟨_, rfl, r, g, 99, _, rfl, S8, ⟨by decide, by decide⟩, by omega, fun H9 v9 sm9 S9 v90 v91 => ?_⟩
      obtain ⟨a9, rfl⟩ := Int.eq_ofNat_of_zero_le v90
      refine ⟨_, _, rfl, rfl, [83], 2 + a9, congrArg V.str S_eq, congrArg V.int (by omega), ⟨by rw [List.length_singleton]; omega, by omega⟩, ?_⟩
      refine ⟨_, rfl, r, g, 2, _, rfl, S9, ⟨by decide, by decide⟩, by omega, fun H10 v10 sm10 S10 v100 v101 => ?_⟩
      obtain ⟨b10, rfl⟩ := Int.eq_ofNat_of_zero_le v100
      refine ⟨[84], b10, congrArg V.str T_eq, rfl, ⟨by rw [List.length_singleton]; omega, by omega⟩, ?_⟩
      rw [reps_one, reps_one]
      refine ⟨_, _, rfl, rfl, (by rw [mk_len, mk_len, List.length_replicate, List.length_replicate]; exact Nat.le_of_lt (line_of (by omega))), ?_⟩
      rw [mk_app]
      have hpl : Pipe (List.replicate (2 + a9) 83 ++ List.replicate b10 84) := fun c hc => by
        rcases List.mem_append.mp hc with h | h
        · exact .inr (List.mem_replicate.mp h).2
        · exact .inl (List.mem_replicate.mp h).2
      refine ⟨_, rfl, _, l, 300, rfl, hpl, by rw [List.length_append, List.length_replicate, List.length_replicate]; omega, low, by omega, by omega, fun H11 d2 sm11 g11 => ?_⟩
      obtain ⟨A, B, eAB, hA, hB⟩ : ∃ A B : Nat, (List.replicate (2 + a9) 83 ++ List.replicate b10 84).drop d2 = List.replicate A 83 ++ List.replicate B 84 ∧ A ≤ 100 ∧ B ≤ 1 := by
        refine ⟨2 + a9 - d2, b10 - (d2 - (2 + a9)), ?_, by omega, by omega⟩
        rw [List.drop_append, List.drop_replicate, List.drop_replicate, List.length_replicate]
      rw [eAB] at g11 ⊢
      clear eAB hpl
      have S11 := S10.same sm11
      have lAB : (List.replicate A 83 ++ List.replicate B 84).length = A + B := by rw [List.length_append, List.length_replicate, List.length_replicate]
      have zl : (mk (List.replicate A 83 ++ List.replicate B 84)).length ≤ sizeLine := by rw [mk_len, lAB]; exact Nat.le_of_lt (line_of (by omega))
      have cT : Txt.count (mk (List.replicate A 83 ++ List.replicate B 84)) (Str.ofString "T") = (B : Nat) := by rw [T_eq]; exact cnt_ab 84 (by decide) A B
      have cS : Txt.count (mk (List.replicate A 83 ++ List.replicate B 84)) (Str.ofString "S") = (A : Nat) := by rw [S_eq]; exact cnt_ab2 83 (by decide) A B
      refine ⟨_, rfl, _, rfl, zl, _, rfl, by trivial, _, _, rfl, rfl, _, _, rfl, rfl, ?_⟩
      rw [cT, mk_len, lAB]
      refine ⟨((A : Nat) : Int), congrArg (fun z => [V.int z]) (show ((A + B : Nat) : Int) - ((B : Nat) : Int) = ((A : Nat) : Int) by omega), (by have := log2_le_of (i := ((A : Nat) : Int)) (n := 64) (by omega) (by omega); omega), _, _, rfl, rfl, ?_, (by show 2 ≤ sizeLine; decide), fun LW nLW => ?_⟩
      · rw [S_eq, mk_len]
        have := int_text_len_1921 (i := ((A : Nat) : Int)) (by have := log2_le_of (i := ((A : Nat) : Int)) (n := 64) (by omega) (by omega); omega)
        exact Nat.le_of_lt (line_of (by show 1 + _ ≤ _; omega))
      have sLW := same_upd (o := .lst [V.str (Str.ofString "S" ++ Str.ofString (toString ((A : Nat) : Int))), V.str (Str.ofString "S")]) nLW
      have hLW : (upd H11 LW (.lst [V.str (Str.ofString "S" ++ Str.ofString (toString ((A : Nat) : Int))), V.str (Str.ofString "S")])) LW = some (.lst [V.str (Str.ofString "S" ++ Str.ofString (toString ((A : Nat) : Int))), V.str (Str.ofString "S")]) := upd_same
      have S12 := S11.same sLW
      generalize upd H11 LW (.lst [V.str (Str.ofString "S" ++ Str.ofString (toString ((A : Nat) : Int))), V.str (Str.ofString "S")]) = H12 at hLW S12 ⊢
      have aw : atI [V.str (Str.ofString "S" ++ Str.ofString (toString ((A : Nat) : Int))), V.str (Str.ofString "S")] (if decide (V.int (A : Nat) = V.int 1) = true then 1 else 0) = some (V.str (wordS (83, A))) := by
        by_cases h : A = 1
        · subst h
          rw [if_pos (by decide)]
          refine (atI_nat (j := 1) (v := V.str (wordS (83, 1))) ?_)
          show some (V.str (Str.ofString "S")) = _
          unfold wordS countS
          rw [if_pos rfl, mk_nil_app, S_eq]
        · rw [if_neg (by rw [decide_eq_false (fun z => h (by have := V.int.inj z; omega))]; exact Bool.false_ne_true)]
          refine (atI_nat (j := 0) (v := V.str (wordS (83, A))) ?_)
          show some (V.str (Str.ofString "S" ++ Str.ofString (toString ((A : Nat) : Int)))) = _
          unfold wordS countS
          rw [if_neg h, S_eq]
      refine ⟨_, rfl, by trivial, _, _, rfl, rfl, rfl, .inr ⟨_, rfl, ?_⟩⟩
      rw [cS]
      refine ⟨LW, _, _, _, rfl, rfl, SqL.of hLW, aw, ?_⟩
      clear aw hLW sLW nLW S11 S10 S9
      refine ⟨_, rfl, (by show 1 ≤ sizeLine; decide), fun LA nLA => ?_⟩
      have sLA := same_upd (o := .lst [V.str (wordS (83, A))]) nLA
      have hLA : (upd H12 LA (.lst [V.str (wordS (83, A))])) LA = some (.lst [V.str (wordS (83, A))]) := upd_same
      have S13 := S12.same sLA
      generalize upd H12 LA (.lst [V.str (wordS (83, A))]) = H13 at hLA S13 ⊢
      refine ⟨_, rfl, 83, _, congrArg V.str S_eq, rfl, .inr ⟨_, rfl, ?_⟩⟩
      have iS : (if decide (83 ∈ (mk (List.replicate A 83 ++ List.replicate B 84)).cps.toList) = true then (1 : Int) else 0) = ((if A = 0 then 0 else 1 : Nat) : Int) := by
        by_cases h : A = 0
        · subst h
          rw [if_pos rfl, if_neg]
          · rfl
          · rw [decide_eq_false]
            · exact Bool.false_ne_true
            · show ¬ 83 ∈ List.replicate 0 83 ++ List.replicate B 84
              intro z
              rcases List.mem_append.mp z with z | z
              · cases z
              · have := (List.mem_replicate.mp z).2
                omega
        · rw [if_neg h, if_pos]
          · rfl
          · refine decide_eq_true ?_
            show 83 ∈ List.replicate A 83 ++ List.replicate B 84
            exact List.mem_append_left _ (List.mem_replicate.mpr ⟨h, rfl⟩)
      rw [iS]
      have iS1 : (if A = 0 then 0 else 1 : Nat) ≤ 1 := by split <;> decide
      generalize hsN : (if A = 0 then 0 else 1 : Nat) = sN at iS1 ⊢
      refine ⟨LA, _, _, rfl, rfl, hLA, by omega, by omega, ?_, fun P1 nP1 => ?_⟩
      · rw [Int.toNat_natCast]; exact Nat.le_of_lt (line_of (by show 1 * sN ≤ _; omega))
      rw [Int.toNat_natCast]
      have sP1 := same_upd (o := .lst (List.replicate sN [V.str (wordS (83, A))]).flatten) nP1
      have hP1 : (upd H13 P1 (.lst (List.replicate sN [V.str (wordS (83, A))]).flatten)) P1 = some (.lst (List.replicate sN [V.str (wordS (83, A))]).flatten) := upd_same
      have S14 := S13.same sP1
      generalize upd H13 P1 (.lst (List.replicate sN [V.str (wordS (83, A))]).flatten) = H14 at hP1 S14 ⊢
      refine ⟨(by show 1 ≤ sizeLine; decide), fun LB nLB => ?_⟩
      have sLB := same_upd (o := .lst [V.str (Str.ofString "T")]) nLB
      have hLB : (upd H14 LB (.lst [V.str (Str.ofString "T")])) LB = some (.lst [V.str (Str.ofString "T")]) := upd_same
      have S15 := S14.same sLB
      have hP1 := sLB _ _ hP1
      generalize upd H14 LB (.lst [V.str (Str.ofString "T")]) = H15 at hLB S15 hP1 ⊢
      refine ⟨_, rfl, by trivial, _, _, rfl, rfl, ?_⟩
      rw [cT]
      refine ⟨LB, _, _, rfl, rfl, hLB, by omega, by omega, ?_, fun P2 nP2 => ?_⟩
      · rw [Int.toNat_natCast]; exact Nat.le_of_lt (line_of (by show 1 * B ≤ _; omega))
      rw [Int.toNat_natCast]
      have sP2 := same_upd (o := .lst (List.replicate B [V.str (Str.ofString "T")]).flatten) nP2
      have hP2 : (upd H15 P2 (.lst (List.replicate B [V.str (Str.ofString "T")]).flatten)) P2 = some (.lst (List.replicate B [V.str (Str.ofString "T")]).flatten) := upd_same
      have S16 := S15.same sP2
      have hP1 := sP2 _ _ hP1
      generalize upd H15 P2 (.lst (List.replicate B [V.str (Str.ofString "T")]).flatten) = H16 at hP2 S16 hP1 ⊢
      obtain ⟨ws, eW, aW, lW, fW⟩ : ∃ ws : List (Nat × Nat), (List.replicate sN [V.str (wordS (83, A))]).flatten ++ (List.replicate B [V.str (Str.ofString "T")]).flatten = (ws.map wordL).map (fun y => V.str (mk y)) ∧ AltW 100 ws ∧ ws.length ≤ 2 ∧ flatW ws = List.replicate A 83 ++ List.replicate B 84 := by
        have w1 : V.str (Str.ofString "T") = V.str (mk (wordL (84, 1))) := by rw [T_eq]; rfl
        have w2 : V.str (wordS (83, A)) = V.str (mk (wordL (83, A))) := by rw [wordS_eq]
        rw [w1, w2]
        rcases Nat.eq_zero_or_pos A with hA0 | hA0
        · have s0 : sN = 0 := by rw [← hsN, if_pos hA0]
          subst s0
          subst hA0
          rcases (show B = 0 ∨ B = 1 by omega) with e | e <;> subst e
          · exact ⟨[], rfl, ⟨fun _ h => (nomatch h), fun _ _ _ h => (nomatch h)⟩, by decide, rfl⟩
          · refine ⟨[(84, 1)], rfl, ⟨fun q h => (by rw [List.mem_singleton.mp h]; exact ⟨.inl rfl, by decide, by decide⟩), fun i a b _ h => ?_⟩, by decide, rfl⟩
            cases h
        · have s0 : sN = 1 := by rw [← hsN, if_neg (by omega)]
          subst s0
          rcases (show B = 0 ∨ B = 1 by omega) with e | e <;> subst e
          · refine ⟨[(83, A)], rfl, ⟨fun q h => (by rw [List.mem_singleton.mp h]; exact ⟨.inr rfl, hA0, hA⟩), fun i a b _ h => ?_⟩, by show 1 ≤ 2; decide, by unfold flatW; simp⟩
            cases h
          · refine ⟨[(83, A), (84, 1)], rfl, ⟨fun q h => ?_, fun i a b h1 h2 => ?_⟩, by show 2 ≤ 2; decide, by unfold flatW; simp⟩
            · rcases List.mem_cons.mp h with h | h
              · rw [h]; exact ⟨.inr rfl, hA0, hA⟩
              · rw [List.mem_singleton.mp h]; exact ⟨.inl rfl, by show 1 ≤ 1; decide, by show 1 ≤ 100; decide⟩
            · match i, h1, h2 with
              | 0, h1, h2 => cases h1; cases h2; show 83 ≠ 84; decide
              | _ + 1, h1, h2 => cases h2
      refine ⟨P1, P2, _, _, rfl, rfl, hP1, hP2, ?_, fun PW nPW => ?_⟩
      · rw [← List.length_append, eW, List.length_map, List.length_map]; exact Nat.le_of_lt (line_of (by omega))
      rw [eW]
      have sPW := same_upd (o := .lst ((ws.map wordL).map (fun y => V.str (mk y)))) nPW
      have hPW : (upd H16 PW (.lst ((ws.map wordL).map (fun y => V.str (mk y))))) PW = some (.lst ((ws.map wordL).map (fun y => V.str (mk y)))) := upd_same
      have S17 := S16.same sPW
      generalize upd H16 PW (.lst ((ws.map wordL).map (fun y => V.str (mk y)))) = H17 at hPW S17 ⊢
      clear S12 S13 S14 S15 S16 sLA sP1 sLB sP2 sPW hLA hLB hP1 hP2 nP1 nP2 nLA nLB nPW eW
      refine ⟨_, rfl, (by show 0 ≤ sizeLine; decide), fun E0 nE0 => ?_⟩
      have sE := same_upd (o := .lst ([] : List V)) nE0
      have hE : (upd H17 E0 (.lst ([] : List V))) E0 = some (.lst ([] : List V)) := upd_same
      have S18 := S17.same sE
      have hPW := sE _ _ hPW
      generalize upd H17 E0 (.lst ([] : List V)) = H18 at hE S18 hPW ⊢
      have hq : ∀ q ∈ ws, q.1 = 84 ∨ q.1 = 83 := fun q h => (aW.1 q h).1
      have shW := strs_sh (rows := ws.map wordL) fun y hy c hc => by
        obtain ⟨q, h, rfl⟩ := List.mem_map.mp hy
        exact wordL_small (hq q h) c hc
      refine ⟨_, _, .lst (SqL.of hPW) (strs_dp _), .lst (SqL.of hE) .nil, shW, rfl, _, rfl, ?_⟩
      refine' join_10 _ (fun H' => Same H18 H') (c := ws ≠ []) ?_ (fun hne cont => ?_) (fun he cont => ?_) ?_
      rotate_left
      · cases ws with
        | nil => rfl
        | cons q r => rfl
      · have l1 : 1 ≤ ws.length := List.length_pos_iff.mpr hne
        have hPW2 : H18 PW = some (.lst ((ws.map wordS).map V.str)) := by
          rw [hPW, List.map_map, List.map_map]
          congr 2
          refine List.map_congr_left fun q _ => ?_
          show V.str (mk (wordL q)) = V.str (wordS q)
          rw [wordS_eq]
        refine ⟨⟨_, rfl⟩, _, rfl, _, PW, ws.map wordS, rfl, rfl, .inl (SqL.of hPW2), ?_, ?_⟩
        · have := words_sum (ws := ws) fun q h => Nat.le_trans (aW.1 q h).2.2 (by decide)
          rw [space_len, List.length_map]
          omega
        refine ⟨100, ws, rfl, aW, by decide, ⟨l1, by omega⟩, fun H19 sm19 => ?_⟩
        rw [fW]
        exact cont H19 sm19
      · have e0 : List.replicate A 83 ++ List.replicate B 84 = [] := by
          rw [← fW, show ws = [] from Decidable.byContradiction he]
          rfl
        have : Str.ofString "" = mk (List.replicate A 83 ++ List.replicate B 84) := by rw [e0, empty_eq]
        have key : ∀ (x y : Str), x = y → ∀ (σ : L2.St) (H : Hp) (Q : VK), Q (V.str y) H → tC (V.str x) σ H Q := fun x y e σ H Q h => by subst e; exact h
        exact key _ _ this _ _ _ (cont H18 (Same.refl _))
      intro H19 sm19
      have S19 := S18.same sm19
      clear hE hPW S17 S18 sE
      refine ⟨_, rfl, _, rfl, r, g, 200, kk, _, rfl, by decide, ⟨by omega, by omega⟩, S19, by omega, fun H20 wl sm20 S20 hwl lwl => ?_⟩
      have loww : Low wl := hwl.low (by omega)
      refine ⟨wl, [], by rw [empty_eq]; rfl, ⟨loww, fun _ h => (nomatch h)⟩, by omega, fun H21 sm21 => ?_⟩
      have S21 := S20.same sm21
      rw [show sv wl [] = wl from rfl]
      refine ⟨_, rfl, _, rfl, (by show 2 ≤ sizeLine; decide), fun T1 nT1 => ?_⟩
      have s1 := same_upd (o := .tup [V.str (mk p), V.str (mk l)]) nT1
      have hT1 : (upd H21 T1 (.tup [V.str (mk p), V.str (mk l)])) T1 = some (.tup [V.str (mk p), V.str (mk l)]) := upd_same
      have S22 := S21.same s1
      generalize upd H21 T1 (.tup [V.str (mk p), V.str (mk l)]) = H22 at s1 hT1 S22 ⊢
      refine ⟨_, rfl, _, rfl, (by show 2 ≤ sizeLine; decide), fun T2 nT2 => ?_⟩
      have s2 := same_upd (o := .tup [V.str (mk (List.replicate A 83 ++ List.replicate B 84)), V.str (mk l)]) nT2
      have hT2 : (upd H22 T2 (.tup [V.str (mk (List.replicate A 83 ++ List.replicate B 84)), V.str (mk l)])) T2 = some (.tup [V.str (mk (List.replicate A 83 ++ List.replicate B 84)), V.str (mk l)]) := upd_same
      have hT1 := s2 _ _ hT1
      have S23 := S22.same s2
      generalize upd H22 T2 (.tup [V.str (mk (List.replicate A 83 ++ List.replicate B 84)), V.str (mk l)]) = H23 at s2 hT1 hT2 S23 ⊢
      refine ⟨_, rfl, _, rfl, _, rfl, (by rw [mk_len]; exact Nat.le_of_lt (line_of (by omega))), ?_⟩
      rw [show (some (2 : Int)) = some ((2 : Nat) : Int) from rfl, cutS_take]
      have hp2 : Pipe (p.take 2) := fun c hc => hp c (List.mem_of_mem_take hc)
      refine ⟨_, rfl, p.take 2, wl, 300, rfl, hp2, by rw [List.length_take]; omega, loww, by omega, by omega, fun H24 d3 sm24 g24 => ?_⟩
      have hp3 : Pipe ((p.take 2).drop d3) := fun c hc => hp2 c (List.mem_of_mem_drop hc)
      have lp3 : ((p.take 2).drop d3).length ≤ 200 := by rw [List.length_drop, List.length_take]; omega
      generalize (p.take 2).drop d3 = p3 at hp3 lp3 g24 ⊢
      have S24 := S23.same sm24
      refine ⟨_, rfl, (by show 2 ≤ sizeLine; decide), fun T3 nT3 => ?_⟩
      have s3 := same_upd (o := .tup [V.str (mk p3), V.str (mk wl)]) nT3
      have hT3 : (upd H24 T3 (.tup [V.str (mk p3), V.str (mk wl)])) T3 = some (.tup [V.str (mk p3), V.str (mk wl)]) := upd_same
      have hT1 := s3 _ _ (sm24 _ _ hT1)
      have hT2 := s3 _ _ (sm24 _ _ hT2)
      have S25 := S24.same s3
      generalize upd H24 T3 (.tup [V.str (mk p3), V.str (mk wl)]) = H25 at hT1 hT2 hT3 S25 ⊢
      refine ⟨(by show 3 ≤ sizeLine; decide), fun LL nLL => ?_⟩
      have sL := same_upd (o := .lst [V.ref T1, V.ref T2, V.ref T3]) nLL
      have hLL : (upd H25 LL (.lst [V.ref T1, V.ref T2, V.ref T3])) LL = some (.lst [V.ref T1, V.ref T2, V.ref T3]) := upd_same
      obtain ⟨LLr, LLg⟩ := S25.ne nLL
      have hT1 := sL _ _ hT1
      have hT2 := sL _ _ hT2
      have hT3 := sL _ _ hT3
      have S26 := S25.same sL
      generalize upd H25 LL (.lst [V.ref T1, V.ref T2, V.ref T3]) = H26 at hT1 hT2 hT3 S26 hLL ⊢
      have tne : ∀ {b : Addr} {x y : V}, H26 b = some (.tup [x, y]) → b ≠ r ∧ b ≠ g := fun {b x y} h => by
        obtain ⟨l, m, t, ns, h1, h2, _⟩ := S26
        exact ⟨fun e => (by rw [e, h1] at h; cases h), fun e => (by rw [e, h2] at h; cases h)⟩
      have elt : ∀ (i : Nat) (x : V), [V.ref T1, V.ref T2, V.ref T3][i]? = some x → ∃ (T : Addr) (q o : List Nat), x = .ref T ∧ H26 T = some (.tup [V.str (mk q), V.str (mk o)]) ∧ Kinds (kk : Nat) o ∧ o.length ≤ 300 ∧ Pipe q ∧ q.length ≤ 200 ∧ (growS q (sizeS o)).1 ≤ 300 := fun i x hx => by
        have hAB : Pipe (List.replicate A 83 ++ List.replicate B 84) := fun c hc => by
          rcases List.mem_append.mp hc with h | h
          · exact .inr (List.mem_replicate.mp h).2
          · exact .inl (List.mem_replicate.mp h).2
        match i, hx with
        | 0, hx => cases hx; exact ⟨T1, p, l, rfl, hT1, hl, by omega, hp, by omega, g8⟩
        | 1, hx => cases hx; exact ⟨T2, _, l, rfl, hT2, hl, by omega, hAB, by omega, g11⟩
        | 2, hx => cases hx; exact ⟨T3, p3, wl, rfl, hT3, hwl, by omega, hp3, lp3, g24⟩
        | _ + 3, hx => cases hx
      refine ⟨LL, rfl, ⟨_, SqL.of hLL⟩, for_list (xs := [V.ref T1, V.ref T2, V.ref T3]) (fun i σ H' => ∃ y9 y10, σ = [some (.ref a), some (.ref r), some (.int (0 + (i0 : Nat))), some (.int (kk : Nat)), some (.str (mk l)), some (.str (mk p)), some (.str (mk (List.replicate A 83 ++ List.replicate B 84))), some (.ref PW), some (.str (mk wl)), y9, y10] ∧ Src r g (2000 * (i0 : Nat) + 1000 + 20 * (i : Nat)) H' ∧ SameBG r g H26 H')
        ⟨y9, y10, rfl, S26.mono (by omega), fun _ _ _ _ h => h⟩ (fun _ _ _ _ ⟨_, _, _, _, sm⟩ => SqL.of (sm _ _ LLr LLg hLL)) ?_ ?_⟩
      · rintro i x σ H27 hx ⟨y9, y10, rfl, S27, sm27⟩
        obtain ⟨T, q, o, rfl, hT, ko, lo, pq, lq, gq⟩ := elt i x hx
        have hi3 : i < 3 := (List.getElem?_eq_some_iff.mp hx).1
        have hT27 := sm27 _ _ (tne hT).1 (tne hT).2 hT
        refine ⟨T, _, rfl, SqT.of hT27, rfl, _, _, rfl, _, _, rfl, rfl, ?_⟩
        refine ⟨_, rfl, _, rfl, _, rfl, _, rfl, r, g, kk, o, q, _, rfl, hk, ko, lo, pq, lq, gq, S27, by omega, fun H28 sm28 S28 => ⟨_, rfl, iteF ?_⟩⟩
        exact ⟨_, _, rfl, S28.mono (by omega), fun b o' h1 h2 h3 => sm28 _ _ h1 h2 (sm27 _ _ h1 h2 h3)⟩
      · rintro σ H27 ⟨y9, y10, rfl, S27, sm27⟩
        have e3 : [V.ref T1, V.ref T2, V.ref T3].length = 3 := rfl
        rw [e3] at S27
        exact ⟨_, _, _, _, _, _, _, _, _, rfl, S27.mono (by omega), hi1⟩
    · rintro σ H2 ⟨y2, y3, y4, y5, y6, y7, y8, y9, y10, rfl, S2, i11⟩
      have e1 : Str.ofString "TS" = mk [84, 83] := by decide +kernel
      have e2 : Str.ofString "aa" = mk [97, 97] := by decide +kernel
      have e3 : Str.ofString "aab" = mk [97, 97, 98] := by decide +kernel
      have k2 : Kinds (2 : Nat) [97, 97] := fun c hc => (by simp only [List.mem_cons, List.not_mem_nil, or_false] at hc; omega)
      have k3 : Kinds (5 : Nat) [97, 97, 98] := fun c hc => (by simp only [List.mem_cons, List.not_mem_nil, or_false] at hc; omega)
      refine ⟨[84, 83], [97, 97], 2, by rw [e1, e2]; rfl, by decide, by decide, by decide +kernel, fun c hc => (by simp only [List.mem_cons, List.not_mem_nil, or_false] at hc; omega), ⟨by decide, by decide⟩, k2, fun H3 sm3 => ?_⟩
      rw [show (2 - 1) ^ (shapeOf [84, 83] [97, 97]).2.length = 1 from by decide +kernel]
      refine ⟨rfl, _, rfl, ?_⟩
      rw [show decide (V.int ((1 : Nat) : Int) = V.int 1) = true from by decide]
      refine iteT ⟨[], [97, 97, 98], 5, by rw [empty_eq, e3]; rfl, by decide, by decide, by decide +kernel, fun _ h => (nomatch h), ⟨by decide, by decide⟩, k3, fun H4 sm4 => ?_⟩
      rw [show (5 - 1) ^ (shapeOf [] [97, 97, 98]).2.length = 1 from by decide +kernel]
      refine ⟨rfl, ?_⟩
      rw [show decide (V.int ((1 : Nat) : Int) = V.int 1) = true from by decide]
      exact q _
end
end Tw

set_option Elab.async false
set_option linter.all false
set_option maxRecDepth 100000
set_option maxHeartbeats 2000000
namespace Tw
open PySem PySem.Spec PyProof.Rows L2
theorem all_mk {l : PySem.W.OpenLaw} {w : World} {K : PySem.W.Frag} {h : Heap} {mg : Str → Option Value} {fa f0 CS : Addr} (X : K.In h) (G : h.Ns mainGlobals mg) (hfa : mg "law" = some (.ref fa))
    {od0 an0 : Option Addr} {sl0 : Array (Option Value)} {oc0 kV0 dc0 pm0 cd0 ct0 : Value}
    {tL : Tok}
    {f1 : Addr} {od1 an1 : Option Addr} {sl1 : Array (Option Value)} {oc1 kV1 dc1 pm1 cd1 ct1 : Value}
    {f2 : Addr} {od2 an2 : Option Addr} {sl2 : Array (Option Value)} {oc2 kV2 dc2 pm2 cd2 ct2 : Value}
    {f3 : Addr} {od3 an3 : Option Addr} {sl3 : Array (Option Value)} {oc3 kV3 dc3 pm3 cd3 ct3 : Value}
    {f4 : Addr} {od4 an4 : Option Addr} {sl4 : Array (Option Value)} {oc4 kV4 dc4 pm4 cd4 ct4 : Value}
    {f5 : Addr} {od5 an5 : Option Addr} {sl5 : Array (Option Value)} {oc5 kV5 dc5 pm5 cd5 ct5 : Value}
    {f6 : Addr} {od6 an6 : Option Addr} {sl6 : Array (Option Value)} {oc6 kV6 dc6 pm6 cd6 ct6 : Value}
    {f7 : Addr} {od7 an7 : Option Addr} {sl7 : Array (Option Value)} {oc7 kV7 dc7 pm7 cd7 ct7 : Value}
    {f8 : Addr} {od8 an8 : Option Addr} {sl8 : Array (Option Value)} {oc8 kV8 dc8 pm8 cd8 ct8 : Value}
    {f9 : Addr} {od9 an9 : Option Addr} {sl9 : Array (Option Value)} {oc9 kV9 dc9 pm9 cd9 ct9 : Value}
    {f10 : Addr} {od10 an10 : Option Addr} {sl10 : Array (Option Value)} {oc10 kV10 dc10 pm10 cd10 ct10 : Value}
    {f11 : Addr} {od11 an11 : Option Addr} {sl11 : Array (Option Value)} {oc11 kV11 dc11 pm11 cd11 ct11 : Value}
    {f12 : Addr} {od12 an12 : Option Addr} {sl12 : Array (Option Value)} {oc12 kV12 dc12 pm12 cd12 ct12 : Value}
    {f13 : Addr} {od13 an13 : Option Addr} {sl13 : Array (Option Value)} {oc13 kV13 dc13 pm13 cd13 ct13 : Value}
    {f14 : Addr} {od14 an14 : Option Addr} {sl14 : Array (Option Value)} {oc14 kV14 dc14 pm14 cd14 ct14 : Value}
    {f15 : Addr} {od15 an15 : Option Addr} {sl15 : Array (Option Value)} {oc15 kV15 dc15 pm15 cd15 ct15 : Value}
    {f16 : Addr} {od16 an16 : Option Addr} {sl16 : Array (Option Value)} {oc16 kV16 dc16 pm16 cd16 ct16 : Value}
    {f17 : Addr} {od17 an17 : Option Addr} {sl17 : Array (Option Value)} {oc17 kV17 dc17 pm17 cd17 ct17 : Value}
    {f18 : Addr} {od18 an18 : Option Addr} {sl18 : Array (Option Value)} {oc18 kV18 dc18 pm18 cd18 ct18 : Value}
    {f19 : Addr} {od19 an19 : Option Addr} {sl19 : Array (Option Value)} {oc19 kV19 dc19 pm19 cd19 ct19 : Value}
    {f20 : Addr} {od20 an20 : Option Addr} {sl20 : Array (Option Value)} {oc20 kV20 dc20 pm20 cd20 ct20 : Value}
    {f21 : Addr} {od21 an21 : Option Addr} {sl21 : Array (Option Value)} {oc21 kV21 dc21 pm21 cd21 ct21 : Value}
    {f22 : Addr} {od22 an22 : Option Addr} {sl22 : Array (Option Value)} {oc22 kV22 dc22 pm22 cd22 ct22 : Value}
    {f23 : Addr} {od23 an23 : Option Addr} {sl23 : Array (Option Value)} {oc23 kV23 dc23 pm23 cd23 ct23 : Value}
    {f24 : Addr} {od24 an24 : Option Addr} {sl24 : Array (Option Value)} {oc24 kV24 dc24 pm24 cd24 ct24 : Value}
    {f25 : Addr} {od25 an25 : Option Addr} {sl25 : Array (Option Value)} {oc25 kV25 dc25 pm25 cd25 ct25 : Value}
    {f26 : Addr} {od26 an26 : Option Addr} {sl26 : Array (Option Value)} {oc26 kV26 dc26 pm26 cd26 ct26 : Value}
    {f27 : Addr} {od27 an27 : Option Addr} {sl27 : Array (Option Value)} {oc27 kV27 dc27 pm27 cd27 ct27 : Value}
    {f28 : Addr} {od28 an28 : Option Addr} {sl28 : Array (Option Value)} {oc28 kV28 dc28 pm28 cd28 ct28 : Value}
    {f29 : Addr} {od29 an29 : Option Addr} {sl29 : Array (Option Value)} {oc29 kV29 dc29 pm29 cd29 ct29 : Value}
    {f30 : Addr} {od30 an30 : Option Addr} {sl30 : Array (Option Value)} {oc30 kV30 dc30 pm30 cd30 ct30 : Value}
    {f31 : Addr} {od31 an31 : Option Addr} {sl31 : Array (Option Value)} {oc31 kV31 dc31 pm31 cd31 ct31 : Value}
    {f32 : Addr} {od32 an32 : Option Addr} {sl32 : Array (Option Value)} {oc32 kV32 dc32 pm32 cd32 ct32 : Value}
    {f33 : Addr} {od33 an33 : Option Addr} {sl33 : Array (Option Value)} {oc33 kV33 dc33 pm33 cd33 ct33 : Value}
    {f34 : Addr} {od34 an34 : Option Addr} {sl34 : Array (Option Value)} {oc34 kV34 dc34 pm34 cd34 ct34 : Value}
    {f35 : Addr} {od35 an35 : Option Addr} {sl35 : Array (Option Value)} {oc35 kV35 dc35 pm35 cd35 ct35 : Value}
    {f36 : Addr} {od36 an36 : Option Addr} {sl36 : Array (Option Value)} {oc36 kV36 dc36 pm36 cd36 ct36 : Value}
    {C0 fI0 : Addr} {nm0 q0 : Str} {N0 : Addr} {bs0 : List Value} {sn0 : List Str} {sub0 : List Value} {ab0 : Bool} {col0 : Option Bool} {dd0 : Option Addr} {mA0 mB0 mC0 mD0 mE0 : Option Value} {odI0 anI0 : Option Addr} {slI0 : Array (Option Value)} {ocI0 dcI0 pmI0 cdI0 ctI0 : Value} {pA0 pB0 pC0 pD0 pE0 pF0 : Pos}
    {C1 fI1 : Addr} {nm1 q1 : Str} {N1 : Addr} {bs1 : List Value} {sn1 : List Str} {sub1 : List Value} {ab1 : Bool} {col1 : Option Bool} {dd1 : Option Addr} {mA1 mB1 mC1 mD1 mE1 : Option Value} {odI1 anI1 : Option Addr} {slI1 : Array (Option Value)} {ocI1 dcI1 pmI1 cdI1 ctI1 : Value} {pA1 pB1 pC1 pD1 pE1 pF1 : Pos}
    {C2 fI2 : Addr} {nm2 q2 : Str} {N2 : Addr} {bs2 : List Value} {sn2 : List Str} {sub2 : List Value} {ab2 : Bool} {col2 : Option Bool} {dd2 : Option Addr} {mA2 mB2 mC2 mD2 mE2 : Option Value} {odI2 anI2 : Option Addr} {slI2 : Array (Option Value)} {ocI2 dcI2 pmI2 cdI2 ctI2 : Value} {pA2 pB2 pC2 pD2 pE2 pF2 : Pos}
    {C3 fI3 : Addr} {nm3 q3 : Str} {N3 : Addr} {bs3 : List Value} {sn3 : List Str} {sub3 : List Value} {ab3 : Bool} {col3 : Option Bool} {dd3 : Option Addr} {mA3 mB3 mC3 mD3 mE3 : Option Value} {odI3 anI3 : Option Addr} {slI3 : Array (Option Value)} {ocI3 dcI3 pmI3 cdI3 ctI3 : Value} {pA3 pB3 pC3 pD3 pE3 pF3 : Pos}
    (aS : PySem.W.nsIn K mainGlobals "SieveError" = some (some (.ref CS)))
    (xC0 : PySem.W.nsIn K mainGlobals "InvalidRow" = some (some (.ref C0)))
    (xL0 : K.lookup C0 = some (excClassObj nm0 q0 C0 N0 bs0 [.ref CS, .type "ValueError", .type "Exception", .type "BaseException", .type "object"] true sn0 sub0 ab0 col0 dd0 mA0 mB0 mC0 mD0 mE0 "ValueError.__new__"))
    (xA0 : PySem.W.findIn K (.ref C0) "__setattr__" = some (some (.builtin "object.__setattr__")))
    (xG0 : PySem.W.findIn K (.ref C0) "__getattribute__" = some (some (.builtin "BaseException.__getattribute__")))
    (xH0 : PySem.W.findIn K (.ref C0) "__getattr__" = some none)
    (xN0 : PySem.W.findIn K (.ref C0) "value" = some none)
    (xI0 : PySem.W.findIn K (.ref C0) "__init__" = some (some (.ref fI0)))
    (xT0 : PySem.W.typeIn K (.ref fI0) = some (.type "function"))
    (xF0 : K.lookup fI0 = some ⟨ocI0, odI0, .func (PySem.W.fnOf "__init__" "InvalidRow.__init__" (TwX.iA pA0 pB0) (TwX.iB pC0 pD0 pE0 pF0) TwX.iS .none .none dcI0 pmI0 anI0 cdI0 ctI0), slI0⟩)
    (xO0 : PySem.W.codeIn K cdI0 "InvalidRow.__init__" = true)
    (xK0 : PySem.W.keepIn K (.ref C0) = true)
    (xE0 : PySem.W.subIn K (.ref C0) (.type "BaseException") = some true)
    (xY0 : PySem.W.typeIn K (.ref C0) = some (.type "type"))
    (xD0 : PySem.W.hasDictIn K C0 = true)
    (xP0 : PySem.W.findIn K (.ref C0) "__class__" = some (some (.builtin "object.__class__")))
    (xM0 : PySem.W.mroIn K C0 (.type "object") = some true)
    (xC1 : PySem.W.nsIn K mainGlobals "InvalidPipeline" = some (some (.ref C1)))
    (xL1 : K.lookup C1 = some (excClassObj nm1 q1 C1 N1 bs1 [.ref CS, .type "ValueError", .type "Exception", .type "BaseException", .type "object"] true sn1 sub1 ab1 col1 dd1 mA1 mB1 mC1 mD1 mE1 "ValueError.__new__"))
    (xA1 : PySem.W.findIn K (.ref C1) "__setattr__" = some (some (.builtin "object.__setattr__")))
    (xG1 : PySem.W.findIn K (.ref C1) "__getattribute__" = some (some (.builtin "BaseException.__getattribute__")))
    (xH1 : PySem.W.findIn K (.ref C1) "__getattr__" = some none)
    (xN1 : PySem.W.findIn K (.ref C1) "value" = some none)
    (xI1 : PySem.W.findIn K (.ref C1) "__init__" = some (some (.ref fI1)))
    (xT1 : PySem.W.typeIn K (.ref fI1) = some (.type "function"))
    (xF1 : K.lookup fI1 = some ⟨ocI1, odI1, .func (PySem.W.fnOf "__init__" "InvalidPipeline.__init__" (TwX.iA pA1 pB1) (TwX.iB pC1 pD1 pE1 pF1) TwX.iS .none .none dcI1 pmI1 anI1 cdI1 ctI1), slI1⟩)
    (xO1 : PySem.W.codeIn K cdI1 "InvalidPipeline.__init__" = true)
    (xK1 : PySem.W.keepIn K (.ref C1) = true)
    (xE1 : PySem.W.subIn K (.ref C1) (.type "BaseException") = some true)
    (xY1 : PySem.W.typeIn K (.ref C1) = some (.type "type"))
    (xD1 : PySem.W.hasDictIn K C1 = true)
    (xP1 : PySem.W.findIn K (.ref C1) "__class__" = some (some (.builtin "object.__class__")))
    (xM1 : PySem.W.mroIn K C1 (.type "object") = some true)
    (xC2 : PySem.W.nsIn K mainGlobals "InvalidNumber" = some (some (.ref C2)))
    (xL2 : K.lookup C2 = some (excClassObj nm2 q2 C2 N2 bs2 [.ref CS, .type "ValueError", .type "Exception", .type "BaseException", .type "object"] true sn2 sub2 ab2 col2 dd2 mA2 mB2 mC2 mD2 mE2 "ValueError.__new__"))
    (xA2 : PySem.W.findIn K (.ref C2) "__setattr__" = some (some (.builtin "object.__setattr__")))
    (xG2 : PySem.W.findIn K (.ref C2) "__getattribute__" = some (some (.builtin "BaseException.__getattribute__")))
    (xH2 : PySem.W.findIn K (.ref C2) "__getattr__" = some none)
    (xN2 : PySem.W.findIn K (.ref C2) "value" = some none)
    (xI2 : PySem.W.findIn K (.ref C2) "__init__" = some (some (.ref fI2)))
    (xT2 : PySem.W.typeIn K (.ref fI2) = some (.type "function"))
    (xF2 : K.lookup fI2 = some ⟨ocI2, odI2, .func (PySem.W.fnOf "__init__" "InvalidNumber.__init__" (TwX.iA pA2 pB2) (TwX.iB pC2 pD2 pE2 pF2) TwX.iS .none .none dcI2 pmI2 anI2 cdI2 ctI2), slI2⟩)
    (xO2 : PySem.W.codeIn K cdI2 "InvalidNumber.__init__" = true)
    (xK2 : PySem.W.keepIn K (.ref C2) = true)
    (xE2 : PySem.W.subIn K (.ref C2) (.type "BaseException") = some true)
    (xY2 : PySem.W.typeIn K (.ref C2) = some (.type "type"))
    (xD2 : PySem.W.hasDictIn K C2 = true)
    (xP2 : PySem.W.findIn K (.ref C2) "__class__" = some (some (.builtin "object.__class__")))
    (xM2 : PySem.W.mroIn K C2 (.type "object") = some true)
    (xC3 : PySem.W.nsIn K mainGlobals "Unreadable" = some (some (.ref C3)))
    (xL3 : K.lookup C3 = some (excClassObj nm3 q3 C3 N3 bs3 [.ref CS, .type "ValueError", .type "Exception", .type "BaseException", .type "object"] true sn3 sub3 ab3 col3 dd3 mA3 mB3 mC3 mD3 mE3 "ValueError.__new__"))
    (xA3 : PySem.W.findIn K (.ref C3) "__setattr__" = some (some (.builtin "object.__setattr__")))
    (xG3 : PySem.W.findIn K (.ref C3) "__getattribute__" = some (some (.builtin "BaseException.__getattribute__")))
    (xH3 : PySem.W.findIn K (.ref C3) "__getattr__" = some none)
    (xN3 : PySem.W.findIn K (.ref C3) "value" = some none)
    (xI3 : PySem.W.findIn K (.ref C3) "__init__" = some (some (.ref fI3)))
    (xT3 : PySem.W.typeIn K (.ref fI3) = some (.type "function"))
    (xF3 : K.lookup fI3 = some ⟨ocI3, odI3, .func (PySem.W.fnOf "__init__" "Unreadable.__init__" (TwX.iA pA3 pB3) (TwX.iB pC3 pD3 pE3 pF3) TwX.iS .none .none dcI3 pmI3 anI3 cdI3 ctI3), slI3⟩)
    (xO3 : PySem.W.codeIn K cdI3 "Unreadable.__init__" = true)
    (xK3 : PySem.W.keepIn K (.ref C3) = true)
    (xE3 : PySem.W.subIn K (.ref C3) (.type "BaseException") = some true)
    (xY3 : PySem.W.typeIn K (.ref C3) = some (.type "type"))
    (xD3 : PySem.W.hasDictIn K C3 = true)
    (xP3 : PySem.W.findIn K (.ref C3) "__class__" = some (some (.builtin "object.__class__")))
    (xM3 : PySem.W.mroIn K C3 (.type "object") = some true)
    (hcn : PySem.W.specialIn K (.builtin "object.__class__") "__get__" = some (some (.builtin "getset_descriptor.__get__")))
    (hct : PySem.W.takesIn K (.builtin "object.__class__") = some true)
    (ky_bb : PySem.W.kitOne K (.type "bool") (.type "bool") = some true)
    (ky_ib : PySem.W.kitOne K (.type "int") (.type "bool") = some false)
    (ky_ii : PySem.W.kitOne K (.type "int") (.type "int") = some true)
    (ky_sb : PySem.W.kitOne K (.type "str") (.type "bool") = some false)
    (ky_si : PySem.W.kitOne K (.type "str") (.type "int") = some false)
    (ky_ss : PySem.W.kitOne K (.type "str") (.type "str") = some true)
    (ky_lb : PySem.W.kitOne K (.type "list") (.type "bool") = some false)
    (ky_li : PySem.W.kitOne K (.type "list") (.type "int") = some false)
    (ky_ls : PySem.W.kitOne K (.type "list") (.type "str") = some false)
    (ky_ll : PySem.W.kitOne K (.type "list") (.type "list") = some true)
    (ky_lt : PySem.W.kitOne K (.type "list") (.type "tuple") = some false)
    (ky_tb : PySem.W.kitOne K (.type "tuple") (.type "bool") = some false)
    (ky_ti : PySem.W.kitOne K (.type "tuple") (.type "int") = some false)
    (ky_ts : PySem.W.kitOne K (.type "tuple") (.type "str") = some false)
    (ky_tl : PySem.W.kitOne K (.type "tuple") (.type "list") = some false)
    (ky_tt : PySem.W.kitOne K (.type "tuple") (.type "tuple") = some true)
    (gL : PySem.W.nsIn K mainGlobals "LETTERS" = some (some (.str (Str.ofString "abcdefghijklmnopqrstuvwxyz") tL)))
    (a0 : PySem.W.nsIn K mainGlobals "law" = some (some (.ref f0))) (l0 : K.lookup f0 = some ⟨oc0, od0, .func (PySem.W.fnOf "law" "law" (defArgs s_law) (defBody s_law) (defScope s_law) .none kV0 dc0 pm0 an0 cd0 ct0), sl0⟩) (c0 : PySem.W.codeIn K cd0 "law" = true) (k0 : PySem.W.keepIn K (.ref f0) = true)
    (a1 : PySem.W.nsIn K mainGlobals "_law_source" = some (some (.ref f1))) (l1 : K.lookup f1 = some ⟨oc1, od1, .func (PySem.W.fnOf "_law_source" "_law_source" (defArgs s_law_source) (defBody s_law_source) (defScope s_law_source) .none kV1 dc1 pm1 an1 cd1 ct1), sl1⟩) (c1 : PySem.W.codeIn K cd1 "_law_source" = true) (k1 : PySem.W.keepIn K (.ref f1) = true)
    (a2 : PySem.W.nsIn K mainGlobals "_law_draw" = some (some (.ref f2))) (l2 : K.lookup f2 = some ⟨oc2, od2, .func (PySem.W.fnOf "_law_draw" "_law_draw" (defArgs s_law_draw) (defBody s_law_draw) (defScope s_law_draw) .none kV2 dc2 pm2 an2 cd2 ct2), sl2⟩) (c2 : PySem.W.codeIn K cd2 "_law_draw" = true) (k2 : PySem.W.keepIn K (.ref f2) = true)
    (a3 : PySem.W.nsIn K mainGlobals "_law_same" = some (some (.ref f3))) (l3 : K.lookup f3 = some ⟨oc3, od3, .func (PySem.W.fnOf "_law_same" "_law_same" (defArgs s_law_same) (defBody s_law_same) (defScope s_law_same) .none kV3 dc3 pm3 an3 cd3 ct3), sl3⟩) (c3 : PySem.W.codeIn K cd3 "_law_same" = true) (k3 : PySem.W.keepIn K (.ref f3) = true)
    (a4 : PySem.W.nsIn K mainGlobals "_law_runs" = some (some (.ref f4))) (l4 : K.lookup f4 = some ⟨oc4, od4, .func (PySem.W.fnOf "_law_runs" "_law_runs" (defArgs s_law_runs) (defBody s_law_runs) (defScope s_law_runs) .none kV4 dc4 pm4 an4 cd4 ct4), sl4⟩) (c4 : PySem.W.codeIn K cd4 "_law_runs" = true) (k4 : PySem.W.keepIn K (.ref f4) = true)
    (a5 : PySem.W.nsIn K mainGlobals "_law_sieved" = some (some (.ref f5))) (l5 : K.lookup f5 = some ⟨oc5, od5, .func (PySem.W.fnOf "_law_sieved" "_law_sieved" (defArgs s_law_sieved) (defBody s_law_sieved) (defScope s_law_sieved) .none kV5 dc5 pm5 an5 cd5 ct5), sl5⟩) (c5 : PySem.W.codeIn K cd5 "_law_sieved" = true) (k5 : PySem.W.keepIn K (.ref f5) = true)
    (a6 : PySem.W.nsIn K mainGlobals "_law_size" = some (some (.ref f6))) (l6 : K.lookup f6 = some ⟨oc6, od6, .func (PySem.W.fnOf "_law_size" "_law_size" (defArgs s_law_size) (defBody s_law_size) (defScope s_law_size) .none kV6 dc6 pm6 an6 cd6 ct6), sl6⟩) (c6 : PySem.W.codeIn K cd6 "_law_size" = true) (k6 : PySem.W.keepIn K (.ref f6) = true)
    (a7 : PySem.W.nsIn K mainGlobals "_law_least" = some (some (.ref f7))) (l7 : K.lookup f7 = some ⟨oc7, od7, .func (PySem.W.fnOf "_law_least" "_law_least" (defArgs s_law_least) (defBody s_law_least) (defScope s_law_least) .none kV7 dc7 pm7 an7 cd7 ct7), sl7⟩) (c7 : PySem.W.codeIn K cd7 "_law_least" = true) (k7 : PySem.W.keepIn K (.ref f7) = true)
    (a8 : PySem.W.nsIn K mainGlobals "_law_sieves" = some (some (.ref f8))) (l8 : K.lookup f8 = some ⟨oc8, od8, .func (PySem.W.fnOf "_law_sieves" "_law_sieves" (defArgs s_law_sieves) (defBody s_law_sieves) (defScope s_law_sieves) .none kV8 dc8 pm8 an8 cd8 ct8), sl8⟩) (c8 : PySem.W.codeIn K cd8 "_law_sieves" = true) (k8 : PySem.W.keepIn K (.ref f8) = true)
    (a9 : PySem.W.nsIn K mainGlobals "_law_row" = some (some (.ref f9))) (l9 : K.lookup f9 = some ⟨oc9, od9, .func (PySem.W.fnOf "_law_row" "_law_row" (defArgs s_law_row) (defBody s_law_row) (defScope s_law_row) .none kV9 dc9 pm9 an9 cd9 ct9), sl9⟩) (c9 : PySem.W.codeIn K cd9 "_law_row" = true) (k9 : PySem.W.keepIn K (.ref f9) = true)
    (a10 : PySem.W.nsIn K mainGlobals "_law_separators" = some (some (.ref f10))) (l10 : K.lookup f10 = some ⟨oc10, od10, .func (PySem.W.fnOf "_law_separators" "_law_separators" (defArgs s_law_separators) (defBody s_law_separators) (defScope s_law_separators) .none kV10 dc10 pm10 an10 cd10 ct10), sl10⟩) (c10 : PySem.W.codeIn K cd10 "_law_separators" = true) (k10 : PySem.W.keepIn K (.ref f10) = true)
    (a11 : PySem.W.nsIn K mainGlobals "_law_power_of" = some (some (.ref f11))) (l11 : K.lookup f11 = some ⟨oc11, od11, .func (PySem.W.fnOf "_law_power_of" "_law_power_of" (defArgs s_law_power_of) (defBody s_law_power_of) (defScope s_law_power_of) .none kV11 dc11 pm11 an11 cd11 ct11), sl11⟩) (c11 : PySem.W.codeIn K cd11 "_law_power_of" = true) (k11 : PySem.W.keepIn K (.ref f11) = true)
    (a12 : PySem.W.nsIn K mainGlobals "_law_shorter" = some (some (.ref f12))) (l12 : K.lookup f12 = some ⟨oc12, od12, .func (PySem.W.fnOf "_law_shorter" "_law_shorter" (defArgs s_law_shorter) (defBody s_law_shorter) (defScope s_law_shorter) .none kV12 dc12 pm12 an12 cd12 ct12), sl12⟩) (c12 : PySem.W.codeIn K cd12 "_law_shorter" = true) (k12 : PySem.W.keepIn K (.ref f12) = true)
    (a13 : PySem.W.nsIn K mainGlobals "_law_right" = some (some (.ref f13))) (l13 : K.lookup f13 = some ⟨oc13, od13, .func (PySem.W.fnOf "_law_right" "_law_right" (defArgs s_law_right) (defBody s_law_right) (defScope s_law_right) .none kV13 dc13 pm13 an13 cd13 ct13), sl13⟩) (c13 : PySem.W.codeIn K cd13 "_law_right" = true) (k13 : PySem.W.keepIn K (.ref f13) = true)
    (a14 : PySem.W.nsIn K mainGlobals "count_shortest" = some (some (.ref f14))) (l14 : K.lookup f14 = some ⟨oc14, od14, .func (PySem.W.fnOf "count_shortest" "count_shortest" (defArgs s_count_shortest) (defBody s_count_shortest) (defScope s_count_shortest) .none kV14 dc14 pm14 an14 cd14 ct14), sl14⟩) (c14 : PySem.W.codeIn K cd14 "count_shortest" = true) (k14 : PySem.W.keepIn K (.ref f14) = true)
    (a15 : PySem.W.nsIn K mainGlobals "nth_shortest" = some (some (.ref f15))) (l15 : K.lookup f15 = some ⟨oc15, od15, .func (PySem.W.fnOf "nth_shortest" "nth_shortest" (defArgs s_nth_shortest) (defBody s_nth_shortest) (defScope s_nth_shortest) .none kV15 dc15 pm15 an15 cd15 ct15), sl15⟩) (c15 : PySem.W.codeIn K cd15 "nth_shortest" = true) (k15 : PySem.W.keepIn K (.ref f15) = true)
    (a16 : PySem.W.nsIn K mainGlobals "shortest_number" = some (some (.ref f16))) (l16 : K.lookup f16 = some ⟨oc16, od16, .func (PySem.W.fnOf "shortest_number" "shortest_number" (defArgs s_shortest_number) (defBody s_shortest_number) (defScope s_shortest_number) .none kV16 dc16 pm16 an16 cd16 ct16), sl16⟩) (c16 : PySem.W.codeIn K cd16 "shortest_number" = true) (k16 : PySem.W.keepIn K (.ref f16) = true)
    (a17 : PySem.W.nsIn K mainGlobals "sieve" = some (some (.ref f17))) (l17 : K.lookup f17 = some ⟨oc17, od17, .func (PySem.W.fnOf "sieve" "sieve" (defArgs sSieve) (defBody sSieve) (defScope sSieve) .none kV17 dc17 pm17 an17 cd17 ct17), sl17⟩) (c17 : PySem.W.codeIn K cd17 "sieve" = true) (k17 : PySem.W.keepIn K (.ref f17) = true)
    (a18 : PySem.W.nsIn K mainGlobals "read_pipeline" = some (some (.ref f18))) (l18 : K.lookup f18 = some ⟨oc18, od18, .func (PySem.W.fnOf "read_pipeline" "read_pipeline" (defArgs s_read_pipeline) (defBody s_read_pipeline) (defScope s_read_pipeline) .none kV18 dc18 pm18 an18 cd18 ct18), sl18⟩) (c18 : PySem.W.codeIn K cd18 "read_pipeline" = true) (k18 : PySem.W.keepIn K (.ref f18) = true)
    (a19 : PySem.W.nsIn K mainGlobals "check_row" = some (some (.ref f19))) (l19 : K.lookup f19 = some ⟨oc19, od19, .func (PySem.W.fnOf "check_row" "check_row" (defArgs sChkRow) (defBody sChkRow) (defScope sChkRow) .none kV19 dc19 pm19 an19 cd19 ct19), sl19⟩) (c19 : PySem.W.codeIn K cd19 "check_row" = true) (k19 : PySem.W.keepIn K (.ref f19) = true)
    (a20 : PySem.W.nsIn K mainGlobals "check_pipeline" = some (some (.ref f20))) (l20 : K.lookup f20 = some ⟨oc20, od20, .func (PySem.W.fnOf "check_pipeline" "check_pipeline" (defArgs sChkPipe) (defBody sChkPipe) (defScope sChkPipe) .none kV20 dc20 pm20 an20 cd20 ct20), sl20⟩) (c20 : PySem.W.codeIn K cd20 "check_pipeline" = true) (k20 : PySem.W.keepIn K (.ref f20) = true)
    (a21 : PySem.W.nsIn K mainGlobals "runs_of" = some (some (.ref f21))) (l21 : K.lookup f21 = some ⟨oc21, od21, .func (PySem.W.fnOf "runs_of" "runs_of" (defArgs sRuns) (defBody sRuns) (defScope sRuns) .none kV21 dc21 pm21 an21 cd21 ct21), sl21⟩) (c21 : PySem.W.codeIn K cd21 "runs_of" = true) (k21 : PySem.W.keepIn K (.ref f21) = true)
    (a22 : PySem.W.nsIn K mainGlobals "sieve_once" = some (some (.ref f22))) (l22 : K.lookup f22 = some ⟨oc22, od22, .func (PySem.W.fnOf "sieve_once" "sieve_once" (defArgs sOnce) (defBody sOnce) (defScope sOnce) .none kV22 dc22 pm22 an22 cd22 ct22), sl22⟩) (c22 : PySem.W.codeIn K cd22 "sieve_once" = true) (k22 : PySem.W.keepIn K (.ref f22) = true)
    (a23 : PySem.W.nsIn K mainGlobals "size" = some (some (.ref f23))) (l23 : K.lookup f23 = some ⟨oc23, od23, .func (PySem.W.fnOf "size" "size" (defArgs sSize) (defBody sSize) (defScope sSize) .none kV23 dc23 pm23 an23 cd23 ct23), sl23⟩) (c23 : PySem.W.codeIn K cd23 "size" = true) (k23 : PySem.W.keepIn K (.ref f23) = true)
    (a24 : PySem.W.nsIn K mainGlobals "grow" = some (some (.ref f24))) (l24 : K.lookup f24 = some ⟨oc24, od24, .func (PySem.W.fnOf "grow" "grow" (defArgs s_grow) (defBody s_grow) (defScope s_grow) .none kV24 dc24 pm24 an24 cd24 ct24), sl24⟩) (c24 : PySem.W.codeIn K cd24 "grow" = true) (k24 : PySem.W.keepIn K (.ref f24) = true)
    (a25 : PySem.W.nsIn K mainGlobals "least_size" = some (some (.ref f25))) (l25 : K.lookup f25 = some ⟨oc25, od25, .func (PySem.W.fnOf "least_size" "least_size" (defArgs s_least_size) (defBody s_least_size) (defScope s_least_size) .none kV25 dc25 pm25 an25 cd25 ct25), sl25⟩) (c25 : PySem.W.codeIn K cd25 "least_size" = true) (k25 : PySem.W.keepIn K (.ref f25) = true)
    (a26 : PySem.W.nsIn K mainGlobals "index_of" = some (some (.ref f26))) (l26 : K.lookup f26 = some ⟨oc26, od26, .func (PySem.W.fnOf "index_of" "index_of" (defArgs s_index_of) (defBody s_index_of) (defScope s_index_of) .none kV26 dc26 pm26 an26 cd26 ct26), sl26⟩) (c26 : PySem.W.codeIn K cd26 "index_of" = true) (k26 : PySem.W.keepIn K (.ref f26) = true)
    (a27 : PySem.W.nsIn K mainGlobals "is_written_count" = some (some (.ref f27))) (l27 : K.lookup f27 = some ⟨oc27, od27, .func (PySem.W.fnOf "is_written_count" "is_written_count" (defArgs s_is_written_count) (defBody s_is_written_count) (defScope s_is_written_count) .none kV27 dc27 pm27 an27 cd27 ct27), sl27⟩) (c27 : PySem.W.codeIn K cd27 "is_written_count" = true) (k27 : PySem.W.keepIn K (.ref f27) = true)
    (a28 : PySem.W.nsIn K mainGlobals "count_sieves" = some (some (.ref f28))) (l28 : K.lookup f28 = some ⟨oc28, od28, .func (PySem.W.fnOf "count_sieves" "count_sieves" (defArgs s_count_sieves) (defBody s_count_sieves) (defScope s_count_sieves) .none kV28 dc28 pm28 an28 cd28 ct28), sl28⟩) (c28 : PySem.W.codeIn K cd28 "count_sieves" = true) (k28 : PySem.W.keepIn K (.ref f28) = true)
    (a29 : PySem.W.nsIn K mainGlobals "check_kinds" = some (some (.ref f29))) (l29 : K.lookup f29 = some ⟨oc29, od29, .func (PySem.W.fnOf "check_kinds" "check_kinds" (defArgs s_check_kinds) (defBody s_check_kinds) (defScope s_check_kinds) .none kV29 dc29 pm29 an29 cd29 ct29), sl29⟩) (c29 : PySem.W.codeIn K cd29 "check_kinds" = true) (k29 : PySem.W.keepIn K (.ref f29) = true)
    (a30 : PySem.W.nsIn K mainGlobals "add_free" = some (some (.ref f30))) (l30 : K.lookup f30 = some ⟨oc30, od30, .func (PySem.W.fnOf "add_free" "add_free" (defArgs s_add_free) (defBody s_add_free) (defScope s_add_free) .none kV30 dc30 pm30 an30 cd30 ct30), sl30⟩) (c30 : PySem.W.codeIn K cd30 "add_free" = true) (k30 : PySem.W.keepIn K (.ref f30) = true)
    (a31 : PySem.W.nsIn K mainGlobals "shape_before_t" = some (some (.ref f31))) (l31 : K.lookup f31 = some ⟨oc31, od31, .func (PySem.W.fnOf "shape_before_t" "shape_before_t" (defArgs s_shape_before_t) (defBody s_shape_before_t) (defScope s_shape_before_t) .none kV31 dc31 pm31 an31 cd31 ct31), sl31⟩) (c31 : PySem.W.codeIn K cd31 "shape_before_t" = true) (k31 : PySem.W.keepIn K (.ref f31) = true)
    (a32 : PySem.W.nsIn K mainGlobals "shape_before_s" = some (some (.ref f32))) (l32 : K.lookup f32 = some ⟨oc32, od32, .func (PySem.W.fnOf "shape_before_s" "shape_before_s" (defArgs s_shape_before_s) (defBody s_shape_before_s) (defScope s_shape_before_s) .none kV32 dc32 pm32 an32 cd32 ct32), sl32⟩) (c32 : PySem.W.codeIn K cd32 "shape_before_s" = true) (k32 : PySem.W.keepIn K (.ref f32) = true)
    (a33 : PySem.W.nsIn K mainGlobals "shape_of" = some (some (.ref f33))) (l33 : K.lookup f33 = some ⟨oc33, od33, .func (PySem.W.fnOf "shape_of" "shape_of" (defArgs s_shape_of) (defBody s_shape_of) (defScope s_shape_of) .none kV33 dc33 pm33 an33 cd33 ct33), sl33⟩) (c33 : PySem.W.codeIn K cd33 "shape_of" = true) (k33 : PySem.W.keepIn K (.ref f33) = true)
    (a34 : PySem.W.nsIn K mainGlobals "count_free" = some (some (.ref f34))) (l34 : K.lookup f34 = some ⟨oc34, od34, .func (PySem.W.fnOf "count_free" "count_free" (defArgs s_count_free) (defBody s_count_free) (defScope s_count_free) .none kV34 dc34 pm34 an34 cd34 ct34), sl34⟩) (c34 : PySem.W.codeIn K cd34 "count_free" = true) (k34 : PySem.W.keepIn K (.ref f34) = true)
    (a35 : PySem.W.nsIn K mainGlobals "digits_of" = some (some (.ref f35))) (l35 : K.lookup f35 = some ⟨oc35, od35, .func (PySem.W.fnOf "digits_of" "digits_of" (defArgs s_digits_of) (defBody s_digits_of) (defScope s_digits_of) .none kV35 dc35 pm35 an35 cd35 ct35), sl35⟩) (c35 : PySem.W.codeIn K cd35 "digits_of" = true) (k35 : PySem.W.keepIn K (.ref f35) = true)
    (a36 : PySem.W.nsIn K mainGlobals "letter_at" = some (some (.ref f36))) (l36 : K.lookup f36 = some ⟨oc36, od36, .func (PySem.W.fnOf "letter_at" "letter_at" (defArgs s_letter_at) (defBody s_letter_at) (defScope s_letter_at) .none kV36 dc36 pm36 an36 cd36 ct36), sl36⟩) (c36 : PySem.W.codeIn K cd36 "letter_at" = true) (k36 : PySem.W.keepIn K (.ref f36) = true)
    (z1 : PySem.W.nsIn K mainGlobals "len" = some none)
    (z2 : PySem.W.nsIn K mainGlobals "enumerate" = some none)
    (z3 : PySem.W.nsIn K mainGlobals "range" = some none)
    (z4 : PySem.W.nsIn K mainGlobals "list" = some none)
    (z5 : PySem.W.nsIn K mainGlobals "reversed" = some none)
    (z6 : PySem.W.nsIn K mainGlobals "ord" = some none)
    (z7 : PySem.W.nsIn K mainGlobals "divmod" = some none)
    (z8 : PySem.W.nsIn K mainGlobals "int" = some none)
    (z9 : PySem.W.nsIn K mainGlobals "max" = some none)
    (z10 : PySem.W.nsIn K mainGlobals "min" = some none)
    (z11 : PySem.W.nsIn K mainGlobals "zip" = some none)
    (z12 : PySem.W.nsIn K mainGlobals "str" = some none)
    (z13 : PySem.W.nsIn K mainGlobals "isinstance" = some none)
    (z14 : PySem.W.nsIn K mainGlobals "bool" = some none)
    (z15 : PySem.W.nsIn K mainGlobals "tuple" = some none)
    (z16 : PySem.W.nsIn K mainGlobals "sorted" = some none)
    : ∃ fd : FuncData, (∀ (s : Shared) (v : Value), BindsTo s fd ⟨[v], []⟩ [("script", v)]) ∧ ∀ base : Heap, K.In base → base.Ns mainGlobals mg → RunA l.prog w K mg base CX0 callerA fa fd ["script"] (spTrue K) := by
  have e := hfa.symm.trans (PySem.W.mg_of X G a0)
  cases e
  have T0 : TwX.ETxt K C0 fI0 := { cls := ⟨nm0, q0, N0, bs0, _, sn0, sub0, ab0, col0, dd0, mA0, mB0, mC0, mD0, mE0, xL0, rfl⟩, sa := xA0, ga := xG0, gg := xH0, noN := xN0, iC := xI0, tC := xT0, kC := xK0, exC := xE0, tyC := xY0, hdC := xD0, cl := xP0, cn := hcn, ct := hct, cm := xM0, fn := ⟨_, _, _, _, _, _, _, _, _, _, _, _, _, _, _, xF0, xO0⟩ }
  have g_InvalidRow := PySem.W.mg_of X G xC0
  have T1 : TwX.ETxt K C1 fI1 := { cls := ⟨nm1, q1, N1, bs1, _, sn1, sub1, ab1, col1, dd1, mA1, mB1, mC1, mD1, mE1, xL1, rfl⟩, sa := xA1, ga := xG1, gg := xH1, noN := xN1, iC := xI1, tC := xT1, kC := xK1, exC := xE1, tyC := xY1, hdC := xD1, cl := xP1, cn := hcn, ct := hct, cm := xM1, fn := ⟨_, _, _, _, _, _, _, _, _, _, _, _, _, _, _, xF1, xO1⟩ }
  have g_InvalidPipeline := PySem.W.mg_of X G xC1
  have T2 : TwX.ETxt K C2 fI2 := { cls := ⟨nm2, q2, N2, bs2, _, sn2, sub2, ab2, col2, dd2, mA2, mB2, mC2, mD2, mE2, xL2, rfl⟩, sa := xA2, ga := xG2, gg := xH2, noN := xN2, iC := xI2, tC := xT2, kC := xK2, exC := xE2, tyC := xY2, hdC := xD2, cl := xP2, cn := hcn, ct := hct, cm := xM2, fn := ⟨_, _, _, _, _, _, _, _, _, _, _, _, _, _, _, xF2, xO2⟩ }
  have g_InvalidNumber := PySem.W.mg_of X G xC2
  have T3 : TwX.ETxt K C3 fI3 := { cls := ⟨nm3, q3, N3, bs3, _, sn3, sub3, ab3, col3, dd3, mA3, mB3, mC3, mD3, mE3, xL3, rfl⟩, sa := xA3, ga := xG3, gg := xH3, noN := xN3, iC := xI3, tC := xT3, kC := xK3, exC := xE3, tyC := xY3, hdC := xD3, cl := xP3, cn := hcn, ct := hct, cm := xM3, fn := ⟨_, _, _, _, _, _, _, _, _, _, _, _, _, _, _, xF3, xO3⟩ }
  have g_Unreadable := PySem.W.mg_of X G xC3
  have D_law_source := dfn_mk (st := s_law_source) (ps := ["script"]) X G a1 l1 c1 k1 fun _ _ _ _ _ _ us hl => match us, hl with | [_], _ => rfl
  have D_law_draw := dfn_mk (st := s_law_draw) (ps := ["source", "many"]) X G a2 l2 c2 k2 fun _ _ _ _ _ _ us hl => match us, hl with | [_, _], _ => rfl
  have D_law_same := dfn_mk (st := s_law_same) (ps := ["found", "wanted"]) X G a3 l3 c3 k3 fun _ _ _ _ _ _ us hl => match us, hl with | [_, _], _ => rfl
  have D_law_runs := dfn_mk (st := s_law_runs) (ps := ["row"]) X G a4 l4 c4 k4 fun _ _ _ _ _ _ us hl => match us, hl with | [_], _ => rfl
  have D_law_sieved := dfn_mk (st := s_law_sieved) (ps := ["row", "sieves"]) X G a5 l5 c5 k5 fun _ _ _ _ _ _ us hl => match us, hl with | [_, _], _ => rfl
  have D_law_size := dfn_mk (st := s_law_size) (ps := ["row"]) X G a6 l6 c6 k6 fun _ _ _ _ _ _ us hl => match us, hl with | [_], _ => rfl
  have D_law_least := dfn_mk (st := s_law_least) (ps := ["sieves", "span"]) X G a7 l7 c7 k7 fun _ _ _ _ _ _ us hl => match us, hl with | [_, _], _ => rfl
  have D_law_sieves := dfn_mk (st := s_law_sieves) (ps := ["source", "most"]) X G a8 l8 c8 k8 fun _ _ _ _ _ _ us hl => match us, hl with | [_, _], _ => rfl
  have D_law_row := dfn_mk (st := s_law_row) (ps := ["source", "most", "kinds_here"]) X G a9 l9 c9 k9 fun _ _ _ _ _ _ us hl => match us, hl with | [_, _, _], _ => rfl
  have D_law_separators := dfn_mk (st := s_law_separators) (ps := ["sieves", "span"]) X G a10 l10 c10 k10 fun _ _ _ _ _ _ us hl => match us, hl with | [_, _], _ => rfl
  have D_law_power_of := dfn_mk (st := s_law_power_of) (ps := ["base", "many"]) X G a11 l11 c11 k11 fun _ _ _ _ _ _ us hl => match us, hl with | [_, _], _ => rfl
  have D_law_shorter := dfn_mk (st := s_law_shorter) (ps := ["sieves", "output", "most"]) X G a12 l12 c12 k12 fun _ _ _ _ _ _ us hl => match us, hl with | [_, _, _], _ => rfl
  have D_law_right := dfn_mk (st := s_law_right) (ps := ["source", "kinds_here", "output", "sieves"]) X G a13 l13 c13 k13 fun _ _ _ _ _ _ us hl => match us, hl with | [_, _, _, _], _ => rfl
  have D_count_shortest := dfn_mk (st := s_count_shortest) (ps := ["pipeline", "output", "kinds"]) X G a14 l14 c14 k14 fun _ _ _ _ _ _ us hl => match us, hl with | [_, _, _], _ => rfl
  have D_nth_shortest := dfn_mk (st := s_nth_shortest) (ps := ["pipeline", "output", "kinds", "number"]) X G a15 l15 c15 k15 fun _ _ _ _ _ _ us hl => match us, hl with | [_, _, _, _], _ => rfl
  have D_shortest_number := dfn_mk (st := s_shortest_number) (ps := ["pipeline", "row", "kinds"]) X G a16 l16 c16 k16 fun _ _ _ _ _ _ us hl => match us, hl with | [_, _, _], _ => rfl
  have D_sieve := dfn_mk (st := sSieve) (ps := ["row", "pipeline"]) X G a17 l17 c17 k17 fun _ _ _ _ _ _ us hl => match us, hl with | [_, _], _ => rfl
  have D_read_pipeline := dfn_mk (st := s_read_pipeline) (ps := ["text"]) X G a18 l18 c18 k18 fun _ _ _ _ _ _ us hl => match us, hl with | [_], _ => rfl
  have D_check_row := dfn_mk (st := sChkRow) (ps := ["row"]) X G a19 l19 c19 k19 fun _ _ _ _ _ _ us hl => match us, hl with | [_], _ => rfl
  have D_check_pipeline := dfn_mk (st := sChkPipe) (ps := ["pipeline"]) X G a20 l20 c20 k20 fun _ _ _ _ _ _ us hl => match us, hl with | [_], _ => rfl
  have D_runs_of := dfn_mk (st := sRuns) (ps := ["row"]) X G a21 l21 c21 k21 fun _ _ _ _ _ _ us hl => match us, hl with | [_], _ => rfl
  have D_sieve_once := dfn_mk (st := sOnce) (ps := ["row", "kind"]) X G a22 l22 c22 k22 fun _ _ _ _ _ _ us hl => match us, hl with | [_, _], _ => rfl
  have D_size := dfn_mk (st := sSize) (ps := ["row"]) X G a23 l23 c23 k23 fun _ _ _ _ _ _ us hl => match us, hl with | [_], _ => rfl
  have D_grow := dfn_mk (st := s_grow) (ps := ["pipeline", "row_size"]) X G a24 l24 c24 k24 fun _ _ _ _ _ _ us hl => match us, hl with | [_, _], _ => rfl
  have D_least_size := dfn_mk (st := s_least_size) (ps := ["pipeline", "output"]) X G a25 l25 c25 k25 fun _ _ _ _ _ _ us hl => match us, hl with | [_, _], _ => rfl
  have D_index_of := dfn_mk (st := s_index_of) (ps := ["letter", "barred_letter"]) X G a26 l26 c26 k26 fun _ _ _ _ _ _ us hl => match us, hl with | [_, _], _ => rfl
  have D_is_written_count := dfn_mk (st := s_is_written_count) (ps := ["digits"]) X G a27 l27 c27 k27 fun _ _ _ _ _ _ us hl => match us, hl with | [_], _ => rfl
  have D_count_sieves := dfn_mk (st := s_count_sieves) (ps := ["part"]) X G a28 l28 c28 k28 fun _ _ _ _ _ _ us hl => match us, hl with | [_], _ => rfl
  have D_check_kinds := dfn_mk (st := s_check_kinds) (ps := ["kinds", "row"]) X G a29 l29 c29 k29 fun _ _ _ _ _ _ us hl => match us, hl with | [_, _], _ => rfl
  have D_add_free := dfn_mk (st := s_add_free) (ps := ["barred", "mark"]) X G a30 l30 c30 k30 fun _ _ _ _ _ _ us hl => match us, hl with | [_, _], _ => rfl
  have D_shape_before_t := dfn_mk (st := s_shape_before_t) (ps := ["shape", "barred"]) X G a31 l31 c31 k31 fun _ _ _ _ _ _ us hl => match us, hl with | [_, _], _ => rfl
  have D_shape_before_s := dfn_mk (st := s_shape_before_s) (ps := ["shape", "count", "barred"]) X G a32 l32 c32 k32 fun _ _ _ _ _ _ us hl => match us, hl with | [_, _, _], _ => rfl
  have D_shape_of := dfn_mk (st := s_shape_of) (ps := ["pipeline", "output"]) X G a33 l33 c33 k33 fun _ _ _ _ _ _ us hl => match us, hl with | [_, _], _ => rfl
  have D_count_free := dfn_mk (st := s_count_free) (ps := ["barred", "kinds"]) X G a34 l34 c34 k34 fun _ _ _ _ _ _ us hl => match us, hl with | [_, _], _ => rfl
  have D_digits_of := dfn_mk (st := s_digits_of) (ps := ["number", "base", "count"]) X G a35 l35 c35 k35 fun _ _ _ _ _ _ us hl => match us, hl with | [_, _, _], _ => rfl
  have D_letter_at := dfn_mk (st := s_letter_at) (ps := ["digit", "barred_letter"]) X G a36 l36 c36 k36 fun _ _ _ _ _ _ us hl => match us, hl with | [_, _], _ => rfl
  have m_len := PySem.W.mg_none_of X G z1
  have m_enumerate := PySem.W.mg_none_of X G z2
  have m_range := PySem.W.mg_none_of X G z3
  have m_list := PySem.W.mg_none_of X G z4
  have m_reversed := PySem.W.mg_none_of X G z5
  have m_ord := PySem.W.mg_none_of X G z6
  have m_divmod := PySem.W.mg_none_of X G z7
  have m_int := PySem.W.mg_none_of X G z8
  have m_max := PySem.W.mg_none_of X G z9
  have m_min := PySem.W.mg_none_of X G z10
  have m_zip := PySem.W.mg_none_of X G z11
  have m_str := PySem.W.mg_none_of X G z12
  have m_isinstance := PySem.W.mg_none_of X G z13
  have m_bool := PySem.W.mg_none_of X G z14
  have m_tuple := PySem.W.mg_none_of X G z15
  have m_sorted := PySem.W.mg_none_of X G z16
  have TY : KTy K := ⟨ky_bb, ky_ib, ky_ii, ky_sb, ky_si, ky_ss, ky_lb, ky_li, ky_ls, ky_ll, ky_lt, ky_tb, ky_ti, ky_ts, ky_tl, ky_tt⟩
  have Z : KN K mg (fun i => match i with | 0 => C0 | 1 => C1 | _ => C2) (fun i => match i with | 0 => fI0 | 1 => fI1 | _ => fI2) CS := ⟨fun i hi => match i, hi with | 0, _ => T0 | 1, _ => T1 | 2, _ => T2, PySem.W.mg_of X G xC0, PySem.W.mg_of X G xC1, PySem.W.mg_of X G xC2⟩
  exact ⟨PySem.W.fnOf "law" "law" (defArgs s_law) (defBody s_law) (defScope s_law) .none kV0 dc0 pm0 an0 cd0 ct0, fun s v => .of_eq rfl, fun base _ _ => ok_law TY (fun_mk l0 c0 k0) D_law_source D_law_draw D_law_same D_law_runs D_law_sieved D_law_size D_law_least D_law_sieves D_law_row D_law_separators D_law_power_of D_law_shorter D_law_right D_count_shortest D_nth_shortest D_shortest_number D_sieve D_read_pipeline m_len m_range m_int m_max m_min m_str m_isinstance m_bool m_list m_tuple m_sorted (fn0 (ok_number (k := 1) T0 T1 T2 g_InvalidRow g_InvalidPipeline g_InvalidNumber D_shortest_number.F D_check_row D_check_pipeline D_check_kinds D_add_free D_shape_before_t D_shape_before_s D_runs_of D_sieve_once D_shape_of D_sieve D_size D_grow D_least_size D_index_of (PySem.W.mg_of X G gL) m_len m_enumerate m_range m_list m_reversed m_ord m_zip) num0_of) (fn0 (ok_cntsh (k := 4) T0 T1 T2 g_InvalidRow g_InvalidPipeline g_InvalidNumber D_count_shortest.F D_check_row D_check_pipeline D_check_kinds D_add_free D_shape_before_t D_shape_before_s D_runs_of D_shape_of D_count_free m_len m_enumerate m_range m_list m_reversed m_ord) cnt0_of) (fn0 (ok_cntsh (k := 3) T0 T1 T2 g_InvalidRow g_InvalidPipeline g_InvalidNumber D_count_shortest.F D_check_row D_check_pipeline D_check_kinds D_add_free D_shape_before_t D_shape_before_s D_runs_of D_shape_of D_count_free m_len m_enumerate m_range m_list m_reversed m_ord) cnt0_of) (fn0 (ok_nth (k := 3) Z D_nth_shortest.F D_check_row D_check_pipeline D_check_kinds D_add_free D_shape_before_t D_shape_before_s D_runs_of D_shape_of D_count_free D_digits_of D_letter_at (PySem.W.mg_of X G gL) m_len m_enumerate m_range m_list m_reversed m_ord m_divmod) nthN_of) (fn0 (ok_sieveX (k := 5) D_sieve.F T0 g_InvalidRow T1 g_InvalidPipeline D_check_row.F D_check_row.b D_check_row.g D_check_pipeline.F D_check_pipeline.b D_check_pipeline.g D_sieve_once.F D_sieve_once.b D_sieve_once.g D_runs_of.F D_runs_of.b D_runs_of.g m_enumerate) sieve0_of) (fn0 (ok_read (k := 5) D_read_pipeline.F T3 g_Unreadable D_count_sieves D_is_written_count m_int) read0_of)⟩
end Tw

open PySem PySem.W PyProof.Rows in
set_option maxRecDepth 100000 in
set_option maxHeartbeats 0 in
theorem PySem.Challenge.cw_twinsieve_k10_longer_shortest_rows_holds : PySem.Challenge.rw_twinsieve_k10_longer_shortest_rows.Holds := by
  w_on; o_law; k_head; (case hw => w_witness2)
  k_fill
  refine Tw.walkA_of (l := PySem.Challenge.rw_twinsieve_k10_longer_shortest_rows) (n := 63) (x := "script") (sp := fun w => Tw.spTrue _) rfl (by decide) rfl (fun w h Y => PySem.W.kIn_of Y) ?F (fun _ _ a ns hl _ hS => ⟨a, ns, rfl, hS, hl, fun _ => rfl⟩)
  case F =>
    intro w mg fa h KX G hmg
    refine' Tw.all_mk KX G hmg ?aS ?xC0 ?xL0 ?xA0 ?xG0 ?xH0 ?xN0 ?xI0 ?xT0 ?xF0 ?xO0 ?xK0 ?xE0 ?xY0 ?xD0 ?xP0 ?xM0 ?xC1 ?xL1 ?xA1 ?xG1 ?xH1 ?xN1 ?xI1 ?xT1 ?xF1 ?xO1 ?xK1 ?xE1 ?xY1 ?xD1 ?xP1 ?xM1 ?xC2 ?xL2 ?xA2 ?xG2 ?xH2 ?xN2 ?xI2 ?xT2 ?xF2 ?xO2 ?xK2 ?xE2 ?xY2 ?xD2 ?xP2 ?xM2 ?xC3 ?xL3 ?xA3 ?xG3 ?xH3 ?xN3 ?xI3 ?xT3 ?xF3 ?xO3 ?xK3 ?xE3 ?xY3 ?xD3 ?xP3 ?xM3 ?hcn ?hct ?ky_bb ?ky_ib ?ky_ii ?ky_sb ?ky_si ?ky_ss ?ky_lb ?ky_li ?ky_ls ?ky_ll ?ky_lt ?ky_tb ?ky_ti ?ky_ts ?ky_tl ?ky_tt ?gL ?a0 ?l0 ?c0 ?k0 ?a1 ?l1 ?c1 ?k1 ?a2 ?l2 ?c2 ?k2 ?a3 ?l3 ?c3 ?k3 ?a4 ?l4 ?c4 ?k4 ?a5 ?l5 ?c5 ?k5 ?a6 ?l6 ?c6 ?k6 ?a7 ?l7 ?c7 ?k7 ?a8 ?l8 ?c8 ?k8 ?a9 ?l9 ?c9 ?k9 ?a10 ?l10 ?c10 ?k10 ?a11 ?l11 ?c11 ?k11 ?a12 ?l12 ?c12 ?k12 ?a13 ?l13 ?c13 ?k13 ?a14 ?l14 ?c14 ?k14 ?a15 ?l15 ?c15 ?k15 ?a16 ?l16 ?c16 ?k16 ?a17 ?l17 ?c17 ?k17 ?a18 ?l18 ?c18 ?k18 ?a19 ?l19 ?c19 ?k19 ?a20 ?l20 ?c20 ?k20 ?a21 ?l21 ?c21 ?k21 ?a22 ?l22 ?c22 ?k22 ?a23 ?l23 ?c23 ?k23 ?a24 ?l24 ?c24 ?k24 ?a25 ?l25 ?c25 ?k25 ?a26 ?l26 ?c26 ?k26 ?a27 ?l27 ?c27 ?k27 ?a28 ?l28 ?c28 ?k28 ?a29 ?l29 ?c29 ?k29 ?a30 ?l30 ?c30 ?k30 ?a31 ?l31 ?c31 ?k31 ?a32 ?l32 ?c32 ?k32 ?a33 ?l33 ?c33 ?k33 ?a34 ?l34 ?c34 ?k34 ?a35 ?l35 ?c35 ?k35 ?a36 ?l36 ?c36 ?k36 ?z1 ?z2 ?z3 ?z4 ?z5 ?z6 ?z7 ?z8 ?z9 ?z10 ?z11 ?z12 ?z13 ?z14 ?z15 ?z16
    (case aS => first | k_is | rfl)
    (case xC0 => first | k_is | rfl)
    (case xL0 => first | k_is | rfl)
    (case xA0 => first | k_is | rfl)
    (case xG0 => first | k_is | rfl)
    (case xH0 => first | k_is | rfl)
    (case xN0 => first | k_is | rfl)
    (case xI0 => first | k_is | rfl)
    (case xT0 => first | k_is | rfl)
    (case xF0 => first | k_is | rfl)
    (case xO0 => first | k_is | rfl)
    (case xK0 => first | k_is | rfl)
    (case xE0 => first | k_is | rfl)
    (case xY0 => first | k_is | rfl)
    (case xD0 => first | k_is | rfl)
    (case xP0 => first | k_is | rfl)
    (case xM0 => first | k_is | rfl)
    (case xC1 => first | k_is | rfl)
    (case xL1 => first | k_is | rfl)
    (case xA1 => first | k_is | rfl)
    (case xG1 => first | k_is | rfl)
    (case xH1 => first | k_is | rfl)
    (case xN1 => first | k_is | rfl)
    (case xI1 => first | k_is | rfl)
    (case xT1 => first | k_is | rfl)
    (case xF1 => first | k_is | rfl)
    (case xO1 => first | k_is | rfl)
    (case xK1 => first | k_is | rfl)
    (case xE1 => first | k_is | rfl)
    (case xY1 => first | k_is | rfl)
    (case xD1 => first | k_is | rfl)
    (case xP1 => first | k_is | rfl)
    (case xM1 => first | k_is | rfl)
    (case xC2 => first | k_is | rfl)
    (case xL2 => first | k_is | rfl)
    (case xA2 => first | k_is | rfl)
    (case xG2 => first | k_is | rfl)
    (case xH2 => first | k_is | rfl)
    (case xN2 => first | k_is | rfl)
    (case xI2 => first | k_is | rfl)
    (case xT2 => first | k_is | rfl)
    (case xF2 => first | k_is | rfl)
    (case xO2 => first | k_is | rfl)
    (case xK2 => first | k_is | rfl)
    (case xE2 => first | k_is | rfl)
    (case xY2 => first | k_is | rfl)
    (case xD2 => first | k_is | rfl)
    (case xP2 => first | k_is | rfl)
    (case xM2 => first | k_is | rfl)
    (case xC3 => first | k_is | rfl)
    (case xL3 => first | k_is | rfl)
    (case xA3 => first | k_is | rfl)
    (case xG3 => first | k_is | rfl)
    (case xH3 => first | k_is | rfl)
    (case xN3 => first | k_is | rfl)
    (case xI3 => first | k_is | rfl)
    (case xT3 => first | k_is | rfl)
    (case xF3 => first | k_is | rfl)
    (case xO3 => first | k_is | rfl)
    (case xK3 => first | k_is | rfl)
    (case xE3 => first | k_is | rfl)
    (case xY3 => first | k_is | rfl)
    (case xD3 => first | k_is | rfl)
    (case xP3 => first | k_is | rfl)
    (case xM3 => first | k_is | rfl)
    (case hcn => first | k_is | rfl)
    (case hct => first | k_is | rfl)
    (case ky_bb => first | k_is | rfl)
    (case ky_ib => first | k_is | rfl)
    (case ky_ii => first | k_is | rfl)
    (case ky_sb => first | k_is | rfl)
    (case ky_si => first | k_is | rfl)
    (case ky_ss => first | k_is | rfl)
    (case ky_lb => first | k_is | rfl)
    (case ky_li => first | k_is | rfl)
    (case ky_ls => first | k_is | rfl)
    (case ky_ll => first | k_is | rfl)
    (case ky_lt => first | k_is | rfl)
    (case ky_tb => first | k_is | rfl)
    (case ky_ti => first | k_is | rfl)
    (case ky_ts => first | k_is | rfl)
    (case ky_tl => first | k_is | rfl)
    (case ky_tt => first | k_is | rfl)
    (case gL => first | k_is | rfl)
    (case a0 => first | k_is | rfl)
    (case l0 => first | k_is | rfl)
    (case c0 => first | k_is | rfl)
    (case k0 => first | k_is | rfl)
    (case a1 => first | k_is | rfl)
    (case l1 => first | k_is | rfl)
    (case c1 => first | k_is | rfl)
    (case k1 => first | k_is | rfl)
    (case a2 => first | k_is | rfl)
    (case l2 => first | k_is | rfl)
    (case c2 => first | k_is | rfl)
    (case k2 => first | k_is | rfl)
    (case a3 => first | k_is | rfl)
    (case l3 => first | k_is | rfl)
    (case c3 => first | k_is | rfl)
    (case k3 => first | k_is | rfl)
    (case a4 => first | k_is | rfl)
    (case l4 => first | k_is | rfl)
    (case c4 => first | k_is | rfl)
    (case k4 => first | k_is | rfl)
    (case a5 => first | k_is | rfl)
    (case l5 => first | k_is | rfl)
    (case c5 => first | k_is | rfl)
    (case k5 => first | k_is | rfl)
    (case a6 => first | k_is | rfl)
    (case l6 => first | k_is | rfl)
    (case c6 => first | k_is | rfl)
    (case k6 => first | k_is | rfl)
    (case a7 => first | k_is | rfl)
    (case l7 => first | k_is | rfl)
    (case c7 => first | k_is | rfl)
    (case k7 => first | k_is | rfl)
    (case a8 => first | k_is | rfl)
    (case l8 => first | k_is | rfl)
    (case c8 => first | k_is | rfl)
    (case k8 => first | k_is | rfl)
    (case a9 => first | k_is | rfl)
    (case l9 => first | k_is | rfl)
    (case c9 => first | k_is | rfl)
    (case k9 => first | k_is | rfl)
    (case a10 => first | k_is | rfl)
    (case l10 => first | k_is | rfl)
    (case c10 => first | k_is | rfl)
    (case k10 => first | k_is | rfl)
    (case a11 => first | k_is | rfl)
    (case l11 => first | k_is | rfl)
    (case c11 => first | k_is | rfl)
    (case k11 => first | k_is | rfl)
    (case a12 => first | k_is | rfl)
    (case l12 => first | k_is | rfl)
    (case c12 => first | k_is | rfl)
    (case k12 => first | k_is | rfl)
    (case a13 => first | k_is | rfl)
    (case l13 => first | k_is | rfl)
    (case c13 => first | k_is | rfl)
    (case k13 => first | k_is | rfl)
    (case a14 => first | k_is | rfl)
    (case l14 => first | k_is | rfl)
    (case c14 => first | k_is | rfl)
    (case k14 => first | k_is | rfl)
    (case a15 => first | k_is | rfl)
    (case l15 => first | k_is | rfl)
    (case c15 => first | k_is | rfl)
    (case k15 => first | k_is | rfl)
    (case a16 => first | k_is | rfl)
    (case l16 => first | k_is | rfl)
    (case c16 => first | k_is | rfl)
    (case k16 => first | k_is | rfl)
    (case a17 => first | k_is | rfl)
    (case l17 => first | k_is | rfl)
    (case c17 => first | k_is | rfl)
    (case k17 => first | k_is | rfl)
    (case a18 => first | k_is | rfl)
    (case l18 => first | k_is | rfl)
    (case c18 => first | k_is | rfl)
    (case k18 => first | k_is | rfl)
    (case a19 => first | k_is | rfl)
    (case l19 => first | k_is | rfl)
    (case c19 => first | k_is | rfl)
    (case k19 => first | k_is | rfl)
    (case a20 => first | k_is | rfl)
    (case l20 => first | k_is | rfl)
    (case c20 => first | k_is | rfl)
    (case k20 => first | k_is | rfl)
    (case a21 => first | k_is | rfl)
    (case l21 => first | k_is | rfl)
    (case c21 => first | k_is | rfl)
    (case k21 => first | k_is | rfl)
    (case a22 => first | k_is | rfl)
    (case l22 => first | k_is | rfl)
    (case c22 => first | k_is | rfl)
    (case k22 => first | k_is | rfl)
    (case a23 => first | k_is | rfl)
    (case l23 => first | k_is | rfl)
    (case c23 => first | k_is | rfl)
    (case k23 => first | k_is | rfl)
    (case a24 => first | k_is | rfl)
    (case l24 => first | k_is | rfl)
    (case c24 => first | k_is | rfl)
    (case k24 => first | k_is | rfl)
    (case a25 => first | k_is | rfl)
    (case l25 => first | k_is | rfl)
    (case c25 => first | k_is | rfl)
    (case k25 => first | k_is | rfl)
    (case a26 => first | k_is | rfl)
    (case l26 => first | k_is | rfl)
    (case c26 => first | k_is | rfl)
    (case k26 => first | k_is | rfl)
    (case a27 => first | k_is | rfl)
    (case l27 => first | k_is | rfl)
    (case c27 => first | k_is | rfl)
    (case k27 => first | k_is | rfl)
    (case a28 => first | k_is | rfl)
    (case l28 => first | k_is | rfl)
    (case c28 => first | k_is | rfl)
    (case k28 => first | k_is | rfl)
    (case a29 => first | k_is | rfl)
    (case l29 => first | k_is | rfl)
    (case c29 => first | k_is | rfl)
    (case k29 => first | k_is | rfl)
    (case a30 => first | k_is | rfl)
    (case l30 => first | k_is | rfl)
    (case c30 => first | k_is | rfl)
    (case k30 => first | k_is | rfl)
    (case a31 => first | k_is | rfl)
    (case l31 => first | k_is | rfl)
    (case c31 => first | k_is | rfl)
    (case k31 => first | k_is | rfl)
    (case a32 => first | k_is | rfl)
    (case l32 => first | k_is | rfl)
    (case c32 => first | k_is | rfl)
    (case k32 => first | k_is | rfl)
    (case a33 => first | k_is | rfl)
    (case l33 => first | k_is | rfl)
    (case c33 => first | k_is | rfl)
    (case k33 => first | k_is | rfl)
    (case a34 => first | k_is | rfl)
    (case l34 => first | k_is | rfl)
    (case c34 => first | k_is | rfl)
    (case k34 => first | k_is | rfl)
    (case a35 => first | k_is | rfl)
    (case l35 => first | k_is | rfl)
    (case c35 => first | k_is | rfl)
    (case k35 => first | k_is | rfl)
    (case a36 => first | k_is | rfl)
    (case l36 => first | k_is | rfl)
    (case c36 => first | k_is | rfl)
    (case k36 => first | k_is | rfl)
    (case z1 => first | k_is | rfl)
    (case z2 => first | k_is | rfl)
    (case z3 => first | k_is | rfl)
    (case z4 => first | k_is | rfl)
    (case z5 => first | k_is | rfl)
    (case z6 => first | k_is | rfl)
    (case z7 => first | k_is | rfl)
    (case z8 => first | k_is | rfl)
    (case z9 => first | k_is | rfl)
    (case z10 => first | k_is | rfl)
    (case z11 => first | k_is | rfl)
    (case z12 => first | k_is | rfl)
    (case z13 => first | k_is | rfl)
    (case z14 => first | k_is | rfl)
    (case z15 => first | k_is | rfl)
    (case z16 => first | k_is | rfl)

