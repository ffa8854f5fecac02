import PyProof.Rows.All
import Wide.All
import OpenK.AllK
import Wide.FinOn
import PySem.Challenge.RW_twinsieve_k27_totals_and_listing_errors
import HandS.Iter
import KE.GoesEnum
import HandS.Walk
import HandS.ForMost
import HandS.Wide
import HandS.Steps
import PyProof.StrBlock2
import PyProof.ReprRoads
import PyProof.StrLawsRepr
import PyProof.FitsInt
import HandS.ForSpec
import HandS.ExcIs
import HandS.IsInst
import HandS.ExcValue
import HandS.TryOnly
import HandS.SetFor
import HandS.GenList
import HandS.Gcd
set_option Elab.async false
set_option linter.all false
set_option maxRecDepth 100000
set_option maxHeartbeats 2000000
namespace Tw
open PySem PySem.Spec PyProof.Rows L2

/-! walks that give out a tuple of plain values each turn -/
def ItP (f : Nat → List V) (n : Nat) : It :=
  ⟨fun i _ => i < n,
   fun i H v H' => ∃ T : Addr, v = V.ref T ∧ H T = none ∧ H' = upd H T (HO.tup (f i)),
   fun i _ => n ≤ i⟩

theorem turnP {P : Program} {w : World} {K : PySem.W.Frag} {elts : List Expr} {kk : Nat} {tpos : Pos}
    {a : Addr} {fp wr : List Addr} {n : Nat} {Pt : Nat → Array Value → Prop} {Sx : Nat → Heap → Prop} {Mid : Nat → Addr → Heap → Prop}
    (f : Nat → List V)
    (W : ∀ A : Around, A.handled = none → WalksT P w A a fp wr n Pt Sx Mid)
    (ma : a ∈ fp)
    (obj : ∀ i h, Sx i h → ∀ b ∈ fp, ∃ o, h.get? b = some o ∧ ∀ v, o.data ≠ .cell v)
    (rel : ∀ i vals, i < n → Pt i vals → ∃ us : List Value, vals = us.toArray ∧ Vals (f i) us)
    (len : ∀ i, (f i).length ≤ sizeLine)
    (sf : ∀ (A : Around) (i : Nat) (s : Shared) (Q : Value → Shared → Prop) (E : Value → Shared → Prop), Sx i s.heap → Q (.ref a) s → wpAny (model P w) A (pyIter (.ref a)) Q E s) :
    Turn P w K (Expr.Tuple elts kk tpos) (ItP f n) fp a (fun i h => i ≤ n ∧ Sx i h) where
  mem := ma
  obj := fun i h st => obj i h st.2
  keep := fun i h h' st k => ⟨st.1, (W { handled := none, depth := 0, units := 0, frames := none, guards := none } rfl).frame i h h' st.2 k⟩
  item := by
    intro X hP hw hK hc i pins s σ H E I hf st hg
    subst hP; subst hw; subst hK
    have hi : i < n := hg
    have W0 := W X.A (I.ok.hd hc)
    refine W0.item i s _ E hi st.2 fun T vals h' tk hv hT tup mid kp => ?_
    obtain ⟨us, rfl, rv⟩ := rel i vals hi hv
    refine ⟨_, rfl, W0.go elts kk tpos i T { s with heap := h', toks := tk } _ E mid fun h2 st2 kp2 => ?_⟩
    have nw : T ∉ wr := W0.apart i T h' mid
    have tup2 : h2.IsTuple T us.toArray := by
      obtain ⟨o, ho, r⟩ := tup
      exact ⟨o, kp2 T o nw ho, r⟩
    have new : ObjOk X.prog X.w (upd H T (HO.tup (f i))) h2 T (HO.tup (f i)) := ⟨len i, us, rv, tup2⟩
    have I1 : Inv X pins σ (upd H T (HO.tup (f i))) { s with heap := h2, toks := tk } :=
      I.turnedNew (ch := wr) (fun b o hb e => kp2 b o hb (kp b o hb e)) (fun b hb => hf b (W0.sub b hb)) hT new
    refine ⟨V.ref T, _, I1, rfl, ⟨T, rfl, I.hok.fresh hT, rfl⟩, ⟨hi, st2⟩, fun b hb => ?_⟩
    have ne : b ≠ T := fun e => by
      obtain ⟨o, ho, _⟩ := obj i s.heap st.2 b hb
      have l := Heap.lt_size ho
      rw [e] at l
      exact absurd (Nat.lt_of_lt_of_le l hT) (Nat.lt_irrefl _)
    rw [upd_ne ne]
    exact (hf b hb).1
  done := by
    intro X hP hw hK hc i pins s σ H E I hf st hg
    subst hP; subst hw; subst hK
    have hi : n ≤ i := hg
    have e : i = n := Nat.le_antisymm st.1 hi
    subst e
    have W0 := W X.A (I.ok.hd hc)
    exact W0.done s _ E st.2 fun h' tk kp => ⟨rfl, I.turnedL (ch := wr) kp fun b hb => hf b (W0.sub b hb)⟩
  self := fun A i s Q E st q => sf A i s Q E st.2 q

theorem walkP {f : Nat → List V} {n : Nat} : Walk (ItP f n) n (fun _ => True) (fun i H v H' => ∃ T : Addr, v = V.ref T ∧ H T = none ∧ H' = upd H T (HO.tup (f i))) :=
  ⟨fun _ _ h _ => h, fun _ _ => Nat.le_refl _, fun _ _ _ _ _ _ y => y⟩

/-- a text's iterator, whatever its signs -/
theorem drawsS {P : Program} {w : World} {A : Around} (hh : A.handled = none) (it : Addr) (x : Str) (t : Tok) :
    Draws P w A it [it] x.cps.size (fun i v => ∃ c u, x.cps[i]? = some c ∧ v = .str ⟨#[c]⟩ u) (fun i h => h.IsStrIter it (strIterType x) x t i) := by
  unfold strIterType
  split
  · exact Draws.strAscii hh it x t
  · exact Draws.strWide hh it x t
theorem beginsS (x : Str) (t : Tok) : Begins (.str x t) { cls := .type (strIterType x), data := .fields #[.str x t, .int 0 0] } fun _ => True where
  iter := fun prog w A E s Q _ h => by
    cases ha : x.cps.all (· < 128)
    · exact wpAny_pyIter_wide ha (by simpa [strIterType, ha] using h)
    · exact wpAny_pyIter_ascii ha (by simpa [strIterType, ha] using h)
  keeps := fun _ _ _ _ => trivial
  free := rfl
def sgn (x : Str) (i : Nat) : V := V.str ⟨#[x.cps.getD i 0]⟩
theorem sgn_rel {x : Str} {i c : Nat} {u : Tok} (h : x.cps[i]? = some c) : RelV (sgn x i) (.str ⟨#[c]⟩ u) := by
  have e : x.cps.getD i 0 = c := by
    rw [Array.getD_eq_getD_getElem?, h]; rfl
  exact ⟨u, by rw [e]⟩

/-! enumerate(text) -/
def iEnumS (ta : TA) : TI := fun σ H R => ta σ H fun vs H1 => ∃ x : Str, vs = [V.str x] ∧ R (ItP (fun i => [V.int (i : Nat), sgn x i]) x.cps.size) H1
theorem pi_enumS {X : Cx} {e : Expr} {ta : TA} {p pos tpos : Pos} {elts : List Expr} {kk : Nat} (hg : Gl X "enumerate") (hm : X.mg "enumerate" = none) (ha : PA X [e] ta)
    (hs : starEach [e] X.env = [(false, eval e X.env)] := by rfl) : PI X (.Tuple elts kk tpos) (.Call (.Name "enumerate" p) [e] [] pos) (iEnumS ta) := by
  refine ⟨fun pins s σ H R I h => ?_⟩
  refine Call_ (ld_blt I hg hm boot_enumerate (callWith_type1 (thn (ha.run pos pins s σ H _ I h) fun us s1 hh => ?_) hs rfl))
  obtain ⟨vs, H1, I1, r1, x, rfl, q⟩ := hh
  cases r1 with
  | cons r rr =>
    cases rr
    obtain ⟨t, rfl⟩ := r
    refine call_enumerate_str fun h' he hit hsz hk => wpAny_pyIter_enum he ?_
    have I2 : Inv X pins σ H1 { s1 with heap := h' } := I1.kept (t' := s1.toks) hk
    refine ⟨s1.heap.objs.size + 1, [s1.heap.objs.size + 1, s1.heap.objs.size], _, _, H1, rfl, I2,
      turnP (wr := [s1.heap.objs.size + 1, s1.heap.objs.size]) (fun i => [V.int (i : Nat), sgn x i])
        (fun A hA => WalksT.enumerateD (drawsS (A := A.in1) hA s1.heap.objs.size x t) (s1.heap.objs.size + 1) (Nat.succ_ne_self _) (by simp) (by simp))
        (by simp) ?_ ?_ ?_ ?_, ⟨Nat.zero_le _, ⟨_, he⟩, hit⟩, ?_, q⟩
    · rintro i h ⟨⟨old, e1⟩, o, e2, c2, d2⟩ b hb
      rcases List.mem_cons.mp hb with z | z
      · rw [z]; exact ⟨_, e1, fun v q => nomatch q⟩
      · rw [List.mem_singleton.mp z]; exact ⟨o, e2, fun v q => by rw [d2] at q; cases q⟩
    · rintro i vals hi ⟨t1, y, ⟨c, u, hc, rfl⟩, rfl⟩
      exact ⟨[.int i t1, .str ⟨#[c]⟩ u], rfl, .cons ⟨t1, rfl⟩ (.cons (sgn_rel hc) .nil)⟩
    · intro i
      show 2 ≤ sizeLine
      decide
    · rintro A i s Q E ⟨⟨old, e1⟩, _⟩ q
      exact wpAny_pyIter_enum e1 q
    · intro b hb
      have hle : s1.heap.objs.size ≤ b := by
        rcases List.mem_cons.mp hb with z | z
        · rw [z]; exact Nat.le_succ _
        · rw [List.mem_singleton.mp z]; exact Nat.le_refl _
      exact I1.fpOk hle (I1.hok.fresh hle)

/-! zip(text, text) -/
def iZipS (ta : TA) : TI := fun σ H R => ta σ H fun vs H1 => ∃ x y : Str, vs = [V.str x, V.str y] ∧ R (ItP (fun i => [sgn x i, sgn y i]) (min x.cps.size y.cps.size)) H1
theorem pi_zipS {X : Cx} {e e2 : Expr} {ta : TA} {p pos tpos : Pos} {elts : List Expr} {kk : Nat} (hg : Gl X "zip") (hm : X.mg "zip" = none) (ha : PA X [e, e2] ta)
    (hs : starEach [e, e2] X.env = (false, eval e X.env) :: starEach [e2] X.env := by rfl) (hpl : (backTo pos (starEach [e2] X.env)).any (·.1) = false := by rfl) :
    PI X (.Tuple elts kk tpos) (.Call (.Name "zip" p) [e, e2] [] pos) (iZipS ta) := by
  refine ⟨fun pins s σ H R I h => ?_⟩
  refine Call_ (ld_blt I hg hm boot_zip (callWith_type1 (thn (ha.run pos pins s σ H _ I h) fun us s1 hh => ?_) hs hpl))
  obtain ⟨vs, H1, I1, r1, x, y, rfl, q⟩ := hh
  cases r1 with
  | cons r rr =>
    cases rr with
    | cons r' rr =>
      cases rr
      obtain ⟨t, rfl⟩ := r
      obtain ⟨t', rfl⟩ := r'
      refine zip_begins2 (beginsS x t) (beginsS y t') trivial trivial fun h' hz hTI hTO h1 h2 hsz hk => wpAny_pyIter_zip hz ?_
      have I2 : Inv X pins σ H1 { s1 with heap := h' } := I1.kept (t' := s1.toks) hk
      have S : ZipSep2 (s1.heap.objs.size + 4) (s1.heap.objs.size + 2) (s1.heap.objs.size + 3) s1.heap.objs.size (s1.heap.objs.size + 1) [s1.heap.objs.size] [s1.heap.objs.size + 1] :=
        zip_sep2 (fp1 := []) (fp2 := []) (by simp) (by simp)
      refine ⟨s1.heap.objs.size + 4, _, _, _, H1, rfl, I2,
        turnP (fun i => [sgn x i, sgn y i])
          (fun A hA => WalksT.zipD2 S (drawsS (A := A.in1) hA s1.heap.objs.size x t) (drawsS (A := A.in1) hA (s1.heap.objs.size + 1) y t'))
          (by simp) ?_ ?_ ?_ ?_, ⟨Nat.zero_le _, hz, hTI, ⟨_, _, hTO⟩, ⟨_, h1, rfl, rfl⟩, ⟨_, h2, rfl, rfl⟩⟩, ?_, q⟩
      · rintro i h ⟨ez, eI, ⟨a1, a2, eO⟩, ⟨o1, e1, _, d1⟩, ⟨o2, e2, _, d2⟩⟩ b hb
        have hb' : b = s1.heap.objs.size + 4 ∨ b = s1.heap.objs.size + 2 ∨ b = s1.heap.objs.size + 3 ∨ b = s1.heap.objs.size ∨ b = s1.heap.objs.size + 1 := by simpa using hb
        rcases hb' with z | z | z | z | z
        · rw [z]; exact ⟨_, ez, fun v q => nomatch q⟩
        · rw [z]; exact ⟨_, eI, fun v q => nomatch q⟩
        · rw [z]; exact ⟨_, eO, fun v q => nomatch q⟩
        · rw [z]; exact ⟨o1, e1, fun v q => by rw [d1] at q; cases q⟩
        · rw [z]; exact ⟨o2, e2, fun v q => by rw [d2] at q; cases q⟩
      · rintro i vals hi ⟨v1, v2, ⟨c, u, hc, rfl⟩, ⟨c2, u2, hc2, rfl⟩, rfl⟩
        exact ⟨[.str ⟨#[c]⟩ u, .str ⟨#[c2]⟩ u2], rfl, .cons (sgn_rel hc) (.cons (sgn_rel hc2) .nil)⟩
      · intro i
        show 2 ≤ sizeLine
        decide
      · rintro A i s Q E ⟨ez, _⟩ q
        exact wpAny_pyIter_zip ez q
      · intro b hb
        have hb' : b = s1.heap.objs.size + 4 ∨ b = s1.heap.objs.size + 2 ∨ b = s1.heap.objs.size + 3 ∨ b = s1.heap.objs.size ∨ b = s1.heap.objs.size + 1 := by simpa using hb
        have hle : s1.heap.objs.size ≤ b := by
          rcases hb' with z | z | z | z | z <;> rw [z] <;> first | exact Nat.le_refl _ | exact Nat.le_add_right _ _
        exact I1.fpOk hle (I1.hok.fresh hle)
end Tw

set_option Elab.async false
set_option linter.all false
set_option maxRecDepth 100000
set_option maxHeartbeats 2000000
namespace Tw
open PySem PySem.Spec PyProof.Rows L2

/-- a text by its signs -/
def mk (l : List Nat) : Str := ⟨l.toArray⟩
theorem mk_len (l : List Nat) : (mk l).length = l.length := by simp [mk, Str.length]
theorem mk_app (a b : List Nat) : mk a ++ mk b = mk (a ++ b) := TL.ext_tl (by rw [TL.tl_append]; rfl)
theorem mk_inj {a b : List Nat} : mk a = mk b ↔ a = b := ⟨fun h => by
  have e := congrArg TL.tl h
  exact e, fun h => by rw [h]⟩
theorem mk_tl (x : Str) : mk (TL.tl x) = x := TL.mk_tl x
def reps (n : Nat) (l : List Nat) : List Nat := (List.replicate n l).flatten

theorem foldl_app (l : List Nat) : ∀ (n : Nat) (acc : List Nat), ((List.replicate n l.toArray).foldl (· ++ ·) acc.toArray).toList = acc ++ (List.replicate n l).flatten
  | 0, acc => by simp
  | n + 1, acc => by
    rw [List.replicate_succ, List.foldl_cons]
    have e : acc.toArray ++ l.toArray = (acc ++ l).toArray := by simp
    rw [e, foldl_app l n (acc ++ l), List.replicate_succ, List.flatten_cons, List.append_assoc]
theorem txt_mul (l : List Nat) (n : Nat) : Txt.mul (mk l) (n : Int) = mk (reps n l) := by
  unfold Txt.mul
  by_cases h1 : (n : Int) < 1
  · rw [if_pos h1]
    have e : n = 0 := by omega
    subst e
    rfl
  · rw [if_neg h1]
    by_cases h2 : ((n : Int) == 1 || (mk l).length == 0) = true
    · rw [if_pos h2]
      rcases Bool.or_eq_true _ _ ▸ h2 with h | h
      · have e : n = 1 := by have := eq_of_beq h; omega
        subst e
        simp [reps]
      · have e : (mk l).length = 0 := eq_of_beq h
        rw [mk_len] at e
        have e2 : l = [] := List.eq_nil_of_length_eq_zero e
        subst e2
        have z : reps n [] = [] := by simp [reps]
        rw [z]
    · rw [if_neg h2]
      refine TL.ext_tl ?_
      have := foldl_app l n []
      simpa [TL.tl, mk, reps] using this
theorem mulOk_of {l : List Nat} {n : Nat} (h : l.length * n ≤ 1000000) (hn : n ≤ 1000000) : MulOk (mk l) (n : Int) := by
  refine ⟨?_, fun h1 h2 => ?_, fun h1 h2 => ?_⟩
  · have a : ¬ (n : Int) < -(2 ^ 63) := by omega
    have b : ¬ (n : Int) ≥ 2 ^ 63 := by omega
    rw [decide_eq_false a, decide_eq_false b]; rfl
  · rw [mk_len]
    intro h3
    have hpos : (0 : Int) < n := by omega
    have h4 : (l.length : Int) * n ≤ 1000000 := by
      rw [← Int.natCast_mul]
      exact Int.ofNat_le.mpr h
    have h5 : ((2 : Int) ^ 63 - 1) / n + 1 ≤ l.length := h3
    have h6 := Int.lt_ediv_add_one_mul_self ((2 : Int) ^ 63 - 1) hpos
    have h7 : (((2 : Int) ^ 63 - 1) / n + 1) * n ≤ (l.length : Int) * n := Int.mul_le_mul_of_nonneg_right h5 (by omega)
    omega
  · rw [mk_len]
    show decide _ = false
    refine decide_eq_false ?_
    rw [Int.toNat_natCast]
    have : sizeLine = 16777216 := sizeLine_eq
    omega
section
variable {X : Cx}
/-- text * int -/
theorem op_mulS : OpR X (binaryOp .Mult) (fun x y H Q => ∃ (l : List Nat) (n : Nat), x = .str (mk l) ∧ y = .int (n : Nat) ∧ (l.length * n ≤ 1000000 ∧ n ≤ 1000000) ∧ Q (.str (mk (reps n l))) H) := by
  intro pins s σ H x y v u Q I rx ry h
  obtain ⟨l, n, rfl, rfl, hz, q⟩ := h
  obtain ⟨t, rfl⟩ := rx
  obtain ⟨t', rfl⟩ := ry
  refine SB.mul (mulOk_of hz.1 hz.2) fun t2 k => ⟨.str (mk (reps n l)), H, I.tok _, ⟨t2, ?_⟩, q⟩
  rw [txt_mul]
/-- a power of a great int -/
def CPowW (i j : Int) : Prop := 0 ≤ j ∧ j ≤ 1000 ∧ i.natAbs.log2 < 10000
theorem op_powW : OpR X (binaryOp .Pow) (rI CPowW fun i j => .int (i ^ j.toNat)) := opI fun i j _ _ _ _ _ hc q => by
  refine pow_int hc.1 ?_ q
  have b : Builtin.Int.intBits i ≤ i.natAbs.log2 + 1 := by
    unfold Builtin.Int.intBits
    split <;> omega
  have h1 := hc.2.2
  have h2 : (Builtin.Int.intBits i : Int) ≤ 10000 := by omega
  have h3 : (Builtin.Int.intBits i : Int) * j ≤ 10000 * 1000 := Int.mul_le_mul h2 hc.2.1 hc.1 (by decide)
  omega
end
end Tw

set_option Elab.async false
set_option linter.all false
set_option maxRecDepth 100000
set_option maxHeartbeats 2000000
namespace Tw
open PySem PySem.Spec PyProof.Rows L2

/-! repr of data, where it is known that no repr runs around -/
theorem call_reprD {X : Cx} (hg : X.A.guards = some []) (hu : X.A.units + 64 < cLine) :
    CallR X (.builtin "repr") (fun xs H Q => ∃ (p : Addr) (d : PyData), xs = [V.ref p] ∧ Dp X.K H (V.ref p) d ∧ d.showable = true ∧ d.hasDict = false ∧ d.depth ≤ 50 ∧ d.shown.length ≤ sizeLine ∧ Q (V.str d.shown) H) := by
  intro pins s σ H xs us Q I r h
  obtain ⟨p, d, rfl, hd, h1, h2, h3, h4, q⟩ := h
  obtain ⟨u, rfl, ru⟩ := vals1 r
  obtain ⟨as, rd⟩ := Dp.reads I d _ _ hd ru
  obtain rfl : u = Value.ref p := ru
  exact repr_of_reads' rd h1 (PyData.noDict_hsm h2) hg (by omega) (fun _ _ e => e) (fun h' u2 tk hk => ⟨V.str d.shown, H, I.kept hk, ⟨u2, rfl⟩, q⟩) h4

/-! a def called from outside, at one stack that is known -/
def RunA (P : Program) (w : World) (K : PySem.W.Frag) (mg : Str → Option Value) (base : Heap) (CX : CXT) (A : Around) (f : Addr) (fd : FuncData) (ps : List Str) (sp : Sp) : Prop :=
  ∀ (s : Shared) (H : Hp) (args : Args) (us : List Value) (vs : List V) (Q : VK) (E : XK), Env0 P w K mg base A [] s H → BindsTo s fd args (ps.zip us) → Vals vs us → sp vs H Q E →
    codeAny (model P w) A (.call (.ref f) args) (CR CX [] P w H s Q E) s
section
variable {P : Program} {w : World} {K : PySem.W.Frag} {mg : Str → Option Value} {base : Heap} {CX : CXT} {A : Around}
theorem runA_of {x qual : Str} {st : Stmt} {f : Addr} {fd : FuncData} {N ps : List Str} {k : Nat} {sp : Sp} (F : Fun K x qual st f fd) (S : FnScope N ps (defScope st)) (hr : Room (k + 1) A)
    (len : ∀ vs H Q E, sp vs H Q E → vs.length = ps.length)
    (hbody : ∀ (cdv : Value) (s : Shared) (H : Hp) (vs : List V) (Q : VK) (E : XK), Room k (A.deeper (envOfC qual (defScope st) s.heap.objs.size f cdv)) → sp vs H Q E →
      ∃ t, PSs (cxOf CX P w K mg base N qual (defScope st) f cdv A [] s H E) (defBody st) t ∧ t { nx := fun _ H' => Q .non H', rt := Q } (start N vs) H) : RunA P w K mg base CX A f fd ps sp := by
  obtain ⟨oc, od, kV, doc, pm, an, cdv, ct, osl, rfl, lk, hcd⟩ := F.ex
  intro s H args us vs Q E e0 hb rv hsp
  have all : ∀ b o, base.get? b = some o → s.heap.get? b = some o := fun b o e => (e0.bs b o e).1
  have KX : K.In s.heap := e0.mod.kin.keeps all
  have par : ∀ y ∈ ps.zip us, (defScope st).names.lookup y.1 = some .local ∨ ((defScope st).names.lookup y.1 = some .cell ∧ ((cellsFrom (s.heap.objs.size + 1) (defScope st).names []).lookup y.1).isSome = true) := by
    rintro ⟨n, v⟩ hy
    exact (S.par n (List.of_mem_zip hy).1).imp id fun q => ⟨q, PySem.W.cellsFrom_some _ _ _ (.inl q)⟩
  refine codeAny_call_function hr.depth (KX _ _ lk) rfl S.co S.gen rfl (PySem.W.codeRec_of KX hcd) (hb _ _ _ _ ?_)
  refine wpAny_newFunctionEnv_cells S.kind par fun env he s1 x => ?_
  subst he
  refine ⟨(e0.mod.nolimit.keeps all).keeps x.toInCall.keep, codeAny_func ?_⟩
  obtain ⟨t, ht, hq⟩ := hbody cdv s H vs Q E (hr.deeper _) hsp
  refine wpAny_mono (ht.run [] s1 (start N vs) H _ (inv_start S hr.hd e0 (len _ _ _ _ hsp) rv x) hq) (fun fl s' hs => ?_) fun _ _ hs => hs
  cases fl with
  | ret u =>
    obtain ⟨v, σ', H', J, rv', q⟩ := hs
    exact ⟨v, H', J.os, J.bare, J.base, J.hok, rv', q⟩
  | next =>
    obtain ⟨σ', H', J, q⟩ := hs
    exact ⟨V.non, H', J.os, J.bare, J.base, J.hok, rfl, q⟩
  | brk =>
    obtain ⟨_, _, _, q⟩ := hs
    exact q.elim
  | cont =>
    obtain ⟨_, _, _, q⟩ := hs
    exact q.elim
/-- the law's call -/
theorem law_callA {mb : Str → Option Value} {fa a : Addr} {fd : FuncData} {x : Str} {sp : Sp} {s₁ : Shared} {vs : List Value} {ns : List Int}
    (KX : K.In s₁.heap) (hns : s₁.heap.Ns mainGlobals mg) (hb : s₁.heap.Ns builtinsNs mb) (hbb : ∀ x : Str, x ≠ "__name__" → mb x = bootBuiltins x) (hlim : s₁.heap.NoLimit) (hg : s₁.gens = #[])
    (ha : s₁.heap.get? a = some { cls := .type "list", data := .seq vs.toArray }) (hi : IntsAre vs ns) (hl : ns.length ≤ sizeLine)
    (F : ∀ base : Heap, K.In base → base.Ns mainGlobals mg → RunA P w K mg base CX callerA fa fd [x] sp) (hbind : ∀ (s : Shared) (u : Value), BindsTo s fd ⟨[u], []⟩ [(x, u)])
    (hsp : ∀ H : Hp, Only H → SqL K H a (ns.map V.int) → sp [.ref a] H (fun v _ => v = .bl true) fun _ _ _ => False)
    (hCX : ∀ H e s', CX [] H s₁ (fun _ _ _ => False) e s' → False) :
    codeAny (model P w) callerA (.call (.ref fa) ⟨[.ref a], []⟩) (fun r s' => r = .ok (.ret (.bool true)) ∧ OldK s₁.heap s'.heap ∧ s'.os = s₁.os ∧ AllBare s'.gens) s₁ := by
  have rv := vals_ints hi
  have lv := hi.length
  -- the abstract heap: the script alone, if it is no object of the written part
  have main : ∀ H : Hp, (∀ b u, H b = some u → b = a ∧ u = .frz { cls := .type "list", data := .seq vs.toArray } (.lst (ns.map V.int)) ∧ K.lookup a = none) → SqL K H a (ns.map V.int) →
      codeAny (model P w) callerA (.call (.ref fa) ⟨[.ref a], []⟩) (fun r s' => r = .ok (.ret (.bool true)) ∧ OldK s₁.heap s'.heap ∧ s'.os = s₁.os ∧ AllBare s'.gens) s₁ := by
    intro H hH hS
    have only : Only H := fun b => by
      cases q : H b with
      | none => exact .inl rfl
      | some u => exact .inr ⟨_, _, by rw [(hH b u q).2.1]⟩
    have hok : HOk P w H s₁.heap := fun b u q => by
      obtain ⟨rfl, rfl, _⟩ := hH b u q
      exact ⟨ha, by rw [List.length_map]; exact hl, vs, _, rv, ha⟩
    -- what stands apart from the script stands in the base
    have apart : ∀ b o, s₁.heap.get? b = some o → (b = a → K.lookup a ≠ none ∨ False) → H b = none := fun b o e h => by
      cases q : H b with
      | none => rfl
      | some u =>
        obtain ⟨e1, _, e3⟩ := hH b u q
        exact absurd e3 ((h e1).elim id False.elim)
    have nsB : ∀ {b : Addr} {m : Str → Option Value}, s₁.heap.Ns b m → (hidT s₁.heap H).Ns b m := by
      rintro b m ⟨o, es, ep, e, d, r⟩
      refine ⟨o, es, ep, hidT_get e ?_, d, r⟩
      cases q : H b with
      | none => rfl
      | some u =>
        rw [(hH b u q).1, ha] at e
        cases e
        exact Data.noConfusion d
    have kB : K.In (hidT s₁.heap H) := fun b o e => hidT_get (KX b o e) (by
      cases q : H b with
      | none => rfl
      | some u =>
        obtain ⟨e1, _, e3⟩ := hH b u q
        rw [e1, e3] at e
        cases e)
    obtain ⟨mc, c1, c2⟩ := hlim
    have e0 : Env0 P w K mg (hidT s₁.heap H) callerA [] s₁ H :=
      ⟨rfl, ⟨kB, nsB hns, ⟨mb, nsB hb, hbb⟩, ⟨mc, nsB c1, c2⟩⟩, fun b o e => of_hidT e, Nat.le_of_eq (hidT_size _ _), trivial, fun b hb => absurd hb (by intro z; cases z), hok, .of_eq hg⟩
    refine codeAny_mono (F _ kB (nsB hns) s₁ H ⟨[.ref a], []⟩ [.ref a] [.ref a] _ _ e0 (hbind s₁ (.ref a)) (.cons rfl .nil) (hsp H only hS)) fun r s' h => ?_
    match r, h with
    | .error e, h => exact (hCX H e s' h).elim
    | .ok .next, h => exact False.elim h
    | .ok .brk, h => exact False.elim h
    | .ok .cont, h => exact False.elim h
    | .ok (.ret u), h =>
      obtain ⟨v, H', os, bare, un, hok', r', q⟩ := h
      have q' : v = V.bl true := q
      rw [q'] at r'
      have eu : u = Value.bool true := r'
      rw [eu]
      refine ⟨rfl, OldK.of_keep fun b o e => ?_, os, bare⟩
      cases q2 : H b with
      | none => exact un.keep b o e q2 (by intro z; cases z) (by intro z; cases z)
      | some u2 =>
        obtain ⟨e1, e2, _⟩ := hH b u2 q2
        rw [e2] at q2
        have t2 := (hok' b _ (un.frzs b _ _ q2)).1
        rw [e1] at e t2 ⊢
        rw [ha] at e
        rw [← e]
        exact t2
  cases hk : K.lookup a with
  | some o =>
    have e := KX a o hk
    rw [ha] at e
    cases e
    exact main (fun _ => none) (fun b u z => nomatch z) (.inr ⟨_, vs.toArray, _, hk, rfl, rfl, rfl, by rw [List.size_toArray, lv]; exact hl, by simpa using rv⟩)
  | none =>
    refine main (fun b => if b = a then some (.frz { cls := .type "list", data := .seq vs.toArray } (.lst (ns.map V.int))) else none) (fun b u z => ?_) (.inl (.inr ⟨_, if_pos rfl⟩))
    by_cases hb : b = a
    · have z' := (if_pos hb).symm.trans z
      exact ⟨hb, (Option.some.inj z').symm, hk⟩
    · have z' := (if_neg hb).symm.trans z
      cases z'
end
theorem walkA_of {l : PySem.W.OpenLaw} {n : Nat} {q : Program} {loose : List Str} {XP : (Str → Option Value) → Heap → Prop} {YP : World → Heap → Prop} {d : DefRec} {K : Params → PySem.W.Frag} {sp : World → Sp} {x : Str}
    (hn : l.most = some n) (hn2 : n ≤ sizeLine) (hdf : d.params.defaults = [])
    (hY : ∀ (w : World) (h : Heap), YP w h → (K w.params).In h)
    (F : ∀ (w : World) (mg : Str → Option Value) (fa : Addr) (h : Heap), (K w.params).In h → h.Ns mainGlobals mg → mg d.name = some (.ref fa) →
      ∃ fd : FuncData, (∀ (s : Shared) (u : Value), BindsTo s fd ⟨[u], []⟩ [(x, u)]) ∧
        ∀ base : Heap, (K w.params).In base → base.Ns mainGlobals mg → RunA l.prog w (K w.params) mg base CX0 callerA fa fd [x] (sp w))
    (hsp : ∀ (w : World) (H : Hp) (a : Addr) (ns : List Int), ns.length ≤ n → Only H → SqL (K w.params) H a (ns.map V.int) → sp w [.ref a] H (fun v _ => v = .bl true) fun _ _ _ => False) :
    PySem.W.WalkO q loose XP YP l.row.toRowW d [] (fun f vs => PySem.call f vs) := by
  refine Att.attach_call hn hdf fun w s₀ s₁ mg mb fa o pm cd doc a vs ns G Y ho hd hcd hmg hobj hints hlen hg => ?_
  have KX := hY w _ Y
  obtain ⟨fd, hb, hF⟩ := F w mg fa _ KX G.T.g hmg
  exact law_callA KX G.T.g G.T.b G.T.builtins G.T.nolimit hg hobj hints (Nat.le_trans hlen hn2) hF hb (fun H hO hS => hsp w H a ns hlen hO hS) fun _ _ _ h => h
end Tw

set_option Elab.async false
set_option linter.all false
set_option maxRecDepth 100000
set_option maxHeartbeats 2000000
namespace Tw
open PySem PySem.Spec PyProof.Rows L2
/-! a call by keywords alone -/
section
variable {X : Cx} {CX : CXT} {k : Nat} {f : Addr} {fd : FuncData} {ps ks : List Str} {sp : Sp} {E : XK} {x : Str} {p pos : Pos} {kws : List Keyword} {tk : TA} {g : List Value → List Value → List Value} {gV : List V → List V → List V}
theorem pe_callK0 (F : FnOk X.prog X.w X.K X.mg X.base CX k f fd ps sp) (hr : Room k X.A) (hg : Gl X x) (hm : X.mg x = some (.ref f)) (hk : PySem.W.keepIn X.K (.ref f) = true)
    (hb : KBinds X.K fd ps ks g gV) (hx : Passes CX X E) (hkw : PK X kws tk)
    (hall : (backToKw pos (keywordEach kws X.env)).all (·.1.isSome) = true := by rfl)
    (hks : (backToKw pos (keywordEach kws X.env)).filterMap (·.1) = ks := by rfl)
    (hdb : (x == ("__debug__" : Str)) = false := by decide)
    (hpl : ((backTo pos (starEach [] X.env)).any (·.1) || (backToKw pos (keywordEach kws X.env)).any (·.1.isNone)) = false := by rfl) :
    PE X (.Call (.Name x p) [] kws pos) (fun σ H Q => tk σ H fun zs H2 => sp (gV [] zs) H2 Q E) := by
  refine ⟨fun pins s σ H Q I h => wpAny_Call_Name_kw (ld_glob I hg hm ?_ hdb)⟩
  refine PySem.W.callWith_KW0 (h₀ := X.base) I.ok.mod.kin hk hall (thn (hkw.run pos pins s σ H _ I h) ?_) hpl
  rintro ws s2 ⟨zs, H2, I2, rz, q⟩
  refine ⟨I2.kIn, ?_⟩
  rw [hks]
  exact run_fnk (us := []) (vs := []) F hr hb hx I2 .nil rz q
end
theorem fun_kbinds {K : PySem.W.Frag} {x qual : Str} {st : Stmt} {f : Addr} {fd : FuncData} {ps ks : List Str} {g : List Value → List Value → List Value} {gV : List V → List V → List V} (F : Fun K x qual st f fd)
    (h : ∀ (kV doc pm : Value) (an : Option Addr) (cdv ct : Value) (us ws : List Value), (g us ws).length = ps.length → bindArgs (PySem.W.fnOf x qual (defArgs st) (defBody st) (defScope st) .none kV doc pm an cdv ct) ⟨us, ks.zip ws⟩ = pure (ps.zip (g us ws)))
    (rel : ∀ {vs : List V} {us : List Value} {zs : List V} {ws : List Value}, Vals vs us → Vals zs ws → Vals (gV vs zs) (g us ws)) : KBinds K fd ps ks g gV := by
  obtain ⟨oc, od, kV, doc, pm, an, cdv, ct, osl, rfl, lk, hcd⟩ := F.ex
  exact ⟨fun s us ws _ hl => .of_eq (h kV doc pm an cdv ct us ws hl), rel⟩
theorem vals_rev {zs : List V} {ws : List Value} (h : Vals zs ws) : Vals zs.reverse ws.reverse := by
  induction h with
  | nil => exact .nil
  | cons r t ih =>
    rw [List.reverse_cons, List.reverse_cons]
    exact Vals.append ih (.cons r .nil)

/-! how long a text repr makes -/
theorem textFrom_le : ∀ (ts : List Str) (k : Nat) (acc : Str), (textFrom k acc ts).length ≤ acc.length + piled ts
  | [], _, acc => by
    show acc.length ≤ _
    omega
  | t :: r, k, acc => by
    have ih := textFrom_le r (k + 1) (acc ++ (if k > 0 then ", " else "" : String) ++ t)
    have e : (((if k > 0 then ", " else "" : String) : Str)).length ≤ 2 := by split <;> decide
    rw [piled_cons]
    rw [strLen_append, strLen_append] at ih
    have h : (textFrom k acc (t :: r)) = textFrom (k + 1) (acc ++ (if k > 0 then ", " else "" : String) ++ t) r := rfl
    rw [h]
    omega
theorem listText_le (ts : List Str) : (listText ts).length ≤ 2 + piled ts := by
  unfold listText
  rw [strLen_append]
  have h := textFrom_le ts 0 "["
  have e1 : (("[" : String) : Str).length = 1 := by decide
  have e2 : (("]" : String) : Str).length = 1 := by decide
  rw [e1] at h
  rw [e2]
  omega
theorem join_le (ts : List Str) : (Str.join ", " ts).length ≤ piled ts := by
  cases ts with
  | nil => exact Nat.zero_le _
  | cons t r =>
    have := join_length_add (t :: r) (by simp)
    omega
theorem tupleText_le (ts : List Str) : (tupleText ts).length ≤ 3 + piled ts := by
  unfold tupleText
  rw [strLen_append, strLen_append]
  have h := join_le ts
  have e1 : (("(" : String) : Str).length = 1 := by decide
  have e3 : (((if ts.length == 1 then ",)" else ")" : String) : Str)).length ≤ 2 := by split <;> decide
  rw [e1]
  omega
end Tw

set_option linter.all false
namespace Tw
/-! the mathematics of runs: plain Lean -/
/-- the runs of c repeated n times (so far) and then l -/
def runsFrom (c n : Nat) : List Nat → List (Nat × Nat)
  | [] => [(c, n)]
  | d :: r => if d = c then runsFrom c (n + 1) r else (c, n) :: runsFrom d 1 r
def runs : List Nat → List (Nat × Nat)
  | [] => []
  | c :: r => runsFrom c 1 r
/-- one more letter behind the runs so far -/
def addRun (rs : List (Nat × Nat)) (d : Nat) : List (Nat × Nat) :=
  match rs.getLast? with
  | some (c, n) => if c = d then rs.dropLast ++ [(d, n + 1)] else rs ++ [(d, 1)]
  | none => [(d, 1)]
theorem addRun_snoc (acc : List (Nat × Nat)) (c n d : Nat) : addRun (acc ++ [(c, n)]) d = if c = d then acc ++ [(d, n + 1)] else acc ++ [(c, n)] ++ [(d, 1)] := by
  simp [addRun]
theorem foldl_addRun : ∀ (l : List Nat) (acc : List (Nat × Nat)) (c n : Nat), l.foldl addRun (acc ++ [(c, n)]) = acc ++ runsFrom c n l
  | [], acc, c, n => rfl
  | d :: r, acc, c, n => by
    rw [List.foldl_cons, addRun_snoc, runsFrom]
    by_cases h : d = c
    · subst h
      rw [if_pos rfl, if_pos rfl]
      exact foldl_addRun r acc d (n + 1)
    · rw [if_neg (Ne.symm h), if_neg h]
      rw [foldl_addRun r (acc ++ [(c, n)]) d 1, List.append_assoc]
      rfl
theorem runs_foldl (l : List Nat) : l.foldl addRun [] = runs l := by
  cases l with
  | nil => rfl
  | cons c r => exact foldl_addRun r [] c 1
theorem runs_take {l : List Nat} {i c : Nat} (h : l[i]? = some c) : runs (l.take (i + 1)) = addRun (runs (l.take i)) c := by
  have e : l.take (i + 1) = l.take i ++ [c] := by
    rw [List.take_add_one, h]; rfl
  rw [← runs_foldl, ← runs_foldl, e, List.foldl_append]
  rfl
/-- what is kept of the runs: t is true for the sieve T -/
def keepRun (t : Bool) (p : Nat × Nat) : Bool := if t then decide (1 < p.2) else decide (p.2 = 1)
def kept (t : Bool) (rs : List (Nat × Nat)) : List Nat := (rs.filter (keepRun t)).map Prod.fst
def once (t : Bool) (l : List Nat) : List Nat := kept t (runs l)
/-- the same place by place: b tells if the one before is the same -/
def pend (t : Bool) : Bool → Nat → List Nat → List Nat
  | b, c, [] => if b = t then [c] else []
  | b, c, d :: r => if d = c then pend t true c r else (if b = t then [c] else []) ++ pend t false d r
theorem kept_cons (t : Bool) (p : Nat × Nat) (rs : List (Nat × Nat)) : kept t (p :: rs) = (if keepRun t p = true then [p.1] else []) ++ kept t rs := by
  unfold kept
  rw [List.filter_cons]
  split <;> simp
theorem keepRun_is (t : Bool) (c n : Nat) (hn : 1 ≤ n) : (keepRun t (c, n) = true) = (decide (2 ≤ n) = t) := by
  unfold keepRun
  cases t
  · by_cases h : n = 1
    · subst h; simp
    · have : 2 ≤ n := by omega
      simp [h, this]
  · by_cases h : 2 ≤ n
    · have : 1 < n := h
      simp [this, h]
    · have : ¬ 1 < n := h
      simp [this, h]
theorem kept_from (t : Bool) : ∀ (l : List Nat) (c n : Nat), 1 ≤ n → kept t (runsFrom c n l) = pend t (decide (2 ≤ n)) c l
  | [], c, n, hn => by
    have e := keepRun_is t c n hn
    rw [runsFrom, kept_cons, pend]
    simp only [e]
    simp [kept]
  | d :: r, c, n, hn => by
    rw [runsFrom, pend]
    by_cases h : d = c
    · subst h
      rw [if_pos rfl, if_pos rfl, kept_from t r d (n + 1) (by omega)]
      have : 2 ≤ n + 1 := by omega
      rw [decide_eq_true this]
    · have e := keepRun_is t c n hn
      rw [if_neg h, if_neg h, kept_cons, kept_from t r d 1 (by omega)]
      simp only [e]
      rfl
theorem once_cons (t : Bool) (c : Nat) (r : List Nat) : once t (c :: r) = pend t false c r := kept_from t r c 1 (by omega)
/-- the letter at i is kept, judged by its neighbours -/
def before (l : List Nat) (i : Nat) : Bool := decide (0 < i) && decide (l[i - 1]? = l[i]?)
def behind (l : List Nat) (i : Nat) : Bool := decide (i + 1 < l.length) && decide (l[i + 1]? = l[i]?)
def keepAt (t : Bool) (l : List Nat) (i : Nat) : Bool := (before l i == t) && !behind l i
def upTo (t : Bool) (l : List Nat) : Nat → List Nat
  | 0 => []
  | i + 1 => upTo t l i ++ (if keepAt t l i = true then [l.getD i 0] else [])
theorem upTo_rest (t : Bool) (l : List Nat) : ∀ (m i : Nat), i + m = l.length → upTo t l l.length = upTo t l i ++ (match l.drop i with | [] => [] | c :: r => pend t (before l i) c r)
  | 0, i, h => by
    have e : i = l.length := by omega
    subst e
    simp
  | m + 1, i, h => by
    have hi : i < l.length := by omega
    have hd : l.drop i = l[i] :: l.drop (i + 1) := List.drop_eq_getElem_cons hi
    have ih := upTo_rest t l m (i + 1) (by omega)
    rw [ih, upTo, List.append_assoc]
    congr 1
    rw [hd]
    have gi : l[i]? = some l[i] := List.getElem?_eq_getElem hi
    have gd : l.getD i 0 = l[i] := by simp [List.getD, gi]
    by_cases h2 : i + 1 < l.length
    · have hd2 : l.drop (i + 1) = l[i + 1] :: l.drop (i + 2) := List.drop_eq_getElem_cons h2
      have gi2 : l[i + 1]? = some l[i + 1] := List.getElem?_eq_getElem h2
      rw [hd2]
      simp only [pend]
      have bn : before l (i + 1) = decide (l[i] = l[i + 1]) := by
        unfold before
        simp [gi, gi2]
      have bh : behind l i = decide (l[i + 1] = l[i]) := by
        unfold behind
        simp [gi, gi2, h2]
      by_cases hc : l[i + 1] = l[i]
      · rw [if_pos hc]
        have k : keepAt t l i = false := by unfold keepAt; rw [bh, decide_eq_true hc]; simp
        rw [k, bn, decide_eq_true hc.symm, hc]
        simp
      · rw [if_neg hc]
        have k : keepAt t l i = (before l i == t) := by unfold keepAt; rw [bh, decide_eq_false hc]; simp
        rw [k, bn, decide_eq_false (Ne.symm hc), gd]
        simp
    · have hd2 : l.drop (i + 1) = [] := List.drop_eq_nil_of_le (by omega)
      rw [hd2]
      have bh : behind l i = false := by unfold behind; simp [h2]
      have k : keepAt t l i = (before l i == t) := by unfold keepAt; rw [bh]; simp
      simp only [pend]
      rw [k, gd]
      simp
theorem once_upTo (t : Bool) (l : List Nat) : upTo t l l.length = once t l := by
  cases l with
  | nil => rfl
  | cons c r =>
    have h := upTo_rest t (c :: r) (c :: r).length 0 (by simp)
    rw [h, once_cons]
    simp [upTo, before]
/-- pairs, counted place by place -/
def pairsUp (l : List Nat) : Nat → Nat
  | 0 => 0
  | i + 1 => pairsUp l i + (if l[i]? = l[i + 1]? then 1 else 0)
def pairs (l : List Nat) : Nat := pairsUp l (l.length - 1)
def pairsR : List Nat → Nat
  | c :: d :: r => (if c = d then 1 else 0) + pairsR (d :: r)
  | _ => 0
theorem pairsUp_cons (c : Nat) (l : List Nat) : ∀ i, pairsUp (c :: l) (i + 1) = (if some c = l[0]? then 1 else 0) + pairsUp l i
  | 0 => by simp [pairsUp]
  | i + 1 => by
    rw [pairsUp, pairsUp_cons c l i, pairsUp]
    simp only [List.getElem?_cons_succ]
    omega
theorem pairs_R : ∀ l : List Nat, pairs l = pairsR l
  | [] => rfl
  | [_] => rfl
  | c :: d :: r => by
    have ih := pairs_R (d :: r)
    unfold pairs at ih ⊢
    show pairsUp (c :: d :: r) (r.length + 1) = _
    rw [pairsUp_cons c (d :: r) r.length, pairsR, ← ih]
    have e : (some c = (d :: r)[0]?) = (c = d) := by simp
    simp only [e]
    rfl
theorem runsFrom_len : ∀ (l : List Nat) (c n : Nat), (runsFrom c n l).length + pairsR (c :: l) = l.length + 1
  | [], c, n => rfl
  | d :: r, c, n => by
    rw [runsFrom, pairsR]
    by_cases h : d = c
    · subst h
      rw [if_pos rfl, if_pos rfl]
      have := runsFrom_len r d (n + 1)
      simp only [List.length_cons]
      omega
    · rw [if_neg h, if_neg (Ne.symm h)]
      have := runsFrom_len r d 1
      simp only [List.length_cons]
      omega
theorem runs_len (l : List Nat) : (runs l).length + pairs l = l.length := by
  rw [pairs_R]
  cases l with
  | nil => rfl
  | cons c r => exact runsFrom_len r c 1
theorem runsFrom_pos : ∀ (l : List Nat) (c n : Nat), 1 ≤ n → ∀ p ∈ runsFrom c n l, 1 ≤ p.2
  | [], c, n, hn => by simp [runsFrom, hn]
  | d :: r, c, n, hn => by
    rw [runsFrom]
    split
    · exact runsFrom_pos r c (n + 1) (by omega)
    · intro p hp
      rcases List.mem_cons.mp hp with rfl | hp
      · exact hn
      · exact runsFrom_pos r d 1 (by omega) p hp
theorem runs_pos (l : List Nat) : ∀ p ∈ runs l, 1 ≤ p.2 := by
  cases l with
  | nil => simp [runs]
  | cons c r => exact runsFrom_pos r c 1 (by omega)
theorem kept_both : ∀ rs : List (Nat × Nat), (∀ p ∈ rs, 1 ≤ p.2) → (kept true rs).length + (kept false rs).length = rs.length
  | [], _ => rfl
  | p :: rs, h => by
    have ih := kept_both rs fun q hq => h q (List.mem_cons_of_mem _ hq)
    have hp := h p List.mem_cons_self
    rw [kept_cons, kept_cons]
    simp only [List.length_append, List.length_cons]
    have e1 := keepRun_is true p.1 p.2 hp
    have e2 := keepRun_is false p.1 p.2 hp
    by_cases c : 2 ≤ p.2
    · simp [e1, e2, c]; omega
    · simp [e1, e2, c]; omega
theorem once_both (l : List Nat) : (once true l).length + (once false l).length = l.length - pairs l := by
  have h1 := kept_both (runs l) (runs_pos l)
  have h2 := runs_len l
  unfold once
  omega
/-- letters of what is kept are letters of the row -/
theorem runsFrom_mem : ∀ (l : List Nat) (c n : Nat), ∀ p ∈ runsFrom c n l, p.1 ∈ c :: l
  | [], c, n => by simp [runsFrom]
  | d :: r, c, n => by
    rw [runsFrom]
    split
    · rename_i h
      intro p hp
      have := runsFrom_mem r c (n + 1) p hp
      rcases List.mem_cons.mp this with h | h
      · rw [h]; exact List.mem_cons_self
      · exact List.mem_cons_of_mem _ (List.mem_cons_of_mem _ h)
    · intro p hp
      rcases List.mem_cons.mp hp with rfl | hp
      · exact List.mem_cons_self
      · exact List.mem_cons_of_mem _ (runsFrom_mem r d 1 p hp)
theorem runs_mem (l : List Nat) : ∀ p ∈ runs l, p.1 ∈ l := by
  cases l with
  | nil => simp [runs]
  | cons c r => exact runsFrom_mem r c 1
theorem once_mem {t : Bool} {l : List Nat} {c : Nat} (h : c ∈ once t l) : c ∈ l := by
  obtain ⟨p, hp, rfl⟩ := List.mem_map.mp h
  exact runs_mem l p (List.mem_filter.mp hp).1
theorem runs_le (l : List Nat) : (runs l).length ≤ l.length := by have := runs_len l; omega
theorem kept_le (t : Bool) (rs : List (Nat × Nat)) : (kept t rs).length ≤ rs.length := by
  unfold kept
  rw [List.length_map]
  exact List.length_filter_le _ _
theorem once_le (t : Bool) (l : List Nat) : (once t l).length ≤ l.length := Nat.le_trans (kept_le t _) (runs_le l)
theorem kept_append (t : Bool) (a b : List (Nat × Nat)) : kept t (a ++ b) = kept t a ++ kept t b := by simp [kept]
end Tw

set_option Elab.async false
set_option linter.all false
set_option maxRecDepth 100000
set_option maxHeartbeats 2000000
namespace Tw
open PySem PySem.Spec PyProof.Rows L2
section
variable {P : Program} {w : World} {K : PySem.W.Frag} {mg : Str → Option Value} {base : Heap}
theorem ite_b {b : Bool} {c A B : Prop} [Decidable c] (e : b = decide c) (h1 : c → A) (h2 : ¬ c → B) : if b = true then A else B := by
  by_cases h : c
  · rw [e, decide_eq_true h, if_pos rfl]
    exact h1 h
  · rw [e, decide_eq_false h, if_neg Bool.false_ne_true]
    exact h2 h
theorem ixN_last {α : Type} (xs : List α) (n : Nat) (v : α) (h : xs.length = n) : ixN (xs ++ [v]).length (-1) = some n := by
  unfold ixN
  rw [if_neg (by decide), if_pos (by rw [List.length_append]; show -((xs.length + 1 : Nat) : Int) ≤ -1; omega), List.length_append]
  congr 1
  show ((-1 : Int) + ((xs.length + 1 : Nat) : Int)).toNat = n
  omega
theorem same_upd {H : Hp} {p : Addr} {o : HO} (h : H p = none) : Same H (upd H p o) := fun b x e => by
  rw [upd_ne (ne_of_none e h)]
  exact e
/-- only letters from a to z -/
def Low (l : List Nat) : Prop := ∀ c ∈ l, 97 ≤ c ∧ c ≤ 122
theorem sgn_at {l : List Nat} {i c : Nat} (h : l[i]? = some c) : sgn (mk l) i = V.str (mk [c]) := by
  have e : (mk l).cps.getD i 0 = c := by
    rw [Array.getD_eq_getD_getElem?]
    show (l.toArray[i]?).getD 0 = c
    rw [List.getElem?_toArray, h]
    rfl
  show V.str ⟨#[(mk l).cps.getD i 0]⟩ = V.str (mk [c])
  rw [e]
  rfl
theorem single_lt (a b : Nat) : (([a] : List Nat) < [b]) ↔ a < b := by
  rw [List.cons_lt_cons_iff]
  simp
theorem ge_a {c : Nat} (h : 97 ≤ c) : (!decide ((mk [c]).cps.toList < (Str.ofString "a").cps.toList)) = true := by
  have e : (Str.ofString "a").cps.toList = [97] := by decide +kernel
  have e2 : (mk [c]).cps.toList = [c] := rfl
  rw [e, e2]
  have : ¬ ([c] : List Nat) < [97] := fun z => by have := (single_lt _ _).mp z; omega
  rw [decide_eq_false this]; rfl
theorem le_z {c : Nat} (h : c ≤ 122) : (!decide ((Str.ofString "z").cps.toList < (mk [c]).cps.toList)) = true := by
  have e : (Str.ofString "z").cps.toList = [122] := by decide +kernel
  have e2 : (mk [c]).cps.toList = [c] := rfl
  rw [e, e2]
  have : ¬ ([122] : List Nat) < [c] := fun z => by have := (single_lt _ _).mp z; omega
  rw [decide_eq_false this]; rfl
theorem mk_size (l : List Nat) : (mk l).cps.size = l.length := by simp [mk]
def spChkRow : Sp := fun vs H Q _ => ∃ l : List Nat, vs = [.str (mk l)] ∧ Low l ∧ ∀ H', Same H H' → Q .non H'
/-- only T and S -/
def Pipe (p : List Nat) : Prop := ∀ c ∈ p, c = 84 ∨ c = 83
def spChkPipe : Sp := fun vs H Q _ => ∃ l : List Nat, vs = [.str (mk l)] ∧ Pipe l ∧ ∀ H', Same H H' → Q .non H'
theorem str_T : (V.str "T") = V.str (mk [84]) := by decide +kernel
theorem str_S : (V.str "S") = V.str (mk [83]) := by decide +kernel
theorem eq_mk1 {a b : Nat} : (V.str (mk [a]) = V.str (mk [b])) ↔ a = b := by
  constructor
  · intro h
    have e := mk_inj.mp (V.str.inj h)
    exact List.head_eq_of_cons_eq e
  · intro h
    rw [h]
def tupOf (q : Nat × Nat) : HO := .tup [V.str (mk [q.1]), V.int (q.2 : Nat)]
def Pairs (H : Hp) : List Addr → List (Nat × Nat) → Prop
  | [], [] => True
  | a :: as, q :: rs => H a = some (tupOf q) ∧ Pairs H as rs
  | _, _ => False
theorem Pairs.snoc {H : Hp} : ∀ {as : List Addr} {rs : List (Nat × Nat)} {a : Addr} {q : Nat × Nat}, Pairs H as rs → H a = some (tupOf q) → Pairs H (as ++ [a]) (rs ++ [q])
  | [], [], _, _, _, h => ⟨h, trivial⟩
  | _ :: _, _ :: _, _, _, h, h2 => ⟨h.1, Pairs.snoc h.2 h2⟩
  | [], _ :: _, _, _, h, _ => h.elim
  | _ :: _, [], _, _, h, _ => h.elim
theorem Pairs.last {H : Hp} : ∀ {as : List Addr} {rs : List (Nat × Nat)} {q : Nat × Nat}, Pairs H as (rs ++ [q]) → ∃ as' a, as = as' ++ [a] ∧ Pairs H as' rs ∧ H a = some (tupOf q)
  | [], [], _, h => h.elim
  | [], _ :: _, _, h => h.elim
  | [a], [], q, h => ⟨[], a, rfl, trivial, h.1⟩
  | _ :: _ :: _, [], _, h => h.2.elim
  | b :: as, r :: rs, q, h => by
    obtain ⟨as', a, e, h1, h2⟩ := Pairs.last (as := as) (rs := rs) (q := q) h.2
    exact ⟨b :: as', a, by rw [e]; rfl, ⟨h.1, h1⟩, h2⟩
theorem Pairs.len {H : Hp} : ∀ {as : List Addr} {rs : List (Nat × Nat)}, Pairs H as rs → as.length = rs.length
  | [], [], _ => rfl
  | _ :: as, _ :: rs, h => by rw [List.length_cons, List.length_cons, Pairs.len h.2]
  | [], _ :: _, h => h.elim
  | _ :: _, [], h => h.elim
theorem Pairs.mono {H H' : Hp} : ∀ {as : List Addr} {rs : List (Nat × Nat)}, (∀ a q, H a = some (tupOf q) → H' a = some (tupOf q)) → Pairs H as rs → Pairs H' as rs
  | [], [], _, _ => trivial
  | _ :: as, _ :: rs, k, h => ⟨k _ _ h.1, Pairs.mono k h.2⟩
  | [], _ :: _, _, h => h.elim
  | _ :: _, [], _, h => h.elim
theorem Pairs.at {H : Hp} : ∀ {as : List Addr} {rs : List (Nat × Nat)} {j : Nat} {q : Nat × Nat}, Pairs H as rs → rs[j]? = some q → ∃ a, as[j]? = some a ∧ H a = some (tupOf q)
  | [], [], _, _, _, e => by simp at e
  | a :: _, r :: _, 0, q, h, e => by
    have e' : r = q := Option.some.inj e
    exact ⟨a, rfl, e' ▸ h.1⟩
  | _ :: as, _ :: rs, j + 1, q, h, e => Pairs.at (as := as) (rs := rs) (j := j) h.2 e
  | [], _ :: _, _, _, h, _ => h.elim
  | _ :: _, [], _, _, h, _ => h.elim
theorem tup_ne_lst {q : Nat × Nat} {xs : List V} : tupOf q ≠ HO.lst xs := fun z => nomatch z
def spRuns : Sp := fun vs H Q _ => ∃ l : List Nat, vs = [.str (mk l)] ∧ l.length ≤ 1000 ∧ ∀ H' p as, Same H H' → H p = none → H' p = some (.lst (as.map V.ref)) → Pairs H' as (runs l) → Q (.ref p) H'
theorem snoc_cases (rs : List (Nat × Nat)) : rs = [] ∨ ∃ r' q, rs = r' ++ [q] := by
  cases e : rs.getLast? with
  | none => exact .inl (List.getLast?_eq_none_iff.mp e)
  | some q =>
    refine .inr ⟨rs.dropLast, q, ?_⟩
    obtain ⟨ys, h⟩ := List.getLast?_eq_some_iff.mp e
    rw [h, List.dropLast_concat]
theorem joinL_nil : ∀ ls : List (List Nat), TL.joinL [] ls = ls.flatten
  | [] => rfl
  | [x] => by simp [TL.joinL]
  | x :: y :: r => by
    have ih := joinL_nil (y :: r)
    simp [TL.joinL] at ih ⊢
    exact ih
theorem join_signs (l : List Nat) : Txt.join "" (l.map fun c => mk [c]) = mk l := by
  refine TL.ext_tl ?_
  rw [TL.join_eq, TL.tl_join]
  have e : TL.tl ("" : Str) = [] := by decide +kernel
  rw [e, joinL_nil, List.map_map]
  show (l.map (fun c => [c])).flatten = l
  induction l with
  | nil => rfl
  | cons c r ih => rw [List.map_cons, List.flatten_cons, ih]; rfl
theorem Pairs.at' {H : Hp} : ∀ {as : List Addr} {rs : List (Nat × Nat)} {j : Nat} {a : Addr}, Pairs H as rs → as[j]? = some a → ∃ q, rs[j]? = some q ∧ H a = some (tupOf q)
  | [], [], _, _, _, e => by simp at e
  | b :: _, r :: _, 0, a, h, e => by
    have e' : b = a := Option.some.inj e
    exact ⟨r, rfl, e' ▸ h.1⟩
  | _ :: as, _ :: rs, j + 1, q, h, e => Pairs.at' (as := as) (rs := rs) (j := j) h.2 e
  | [], _ :: _, _, _, h, _ => h.elim
  | _ :: _, [], _, _, h, _ => h.elim
theorem kept_take {t : Bool} {rs : List (Nat × Nat)} {i : Nat} {q : Nat × Nat} (h : rs[i]? = some q) : kept t (rs.take (i + 1)) = kept t (rs.take i) ++ (if keepRun t q = true then [q.1] else []) := by
  have e : rs.take (i + 1) = rs.take i ++ [q] := by
    rw [List.take_add_one, h]; rfl
  rw [e, kept_append, kept_cons]
  simp [kept]
theorem pg_tup2 {X : Cx} {x1 x2 : Str} {p1 p2 : Pos} {k : Nat} {pos : Pos} {t1 t2 : TG} (hc : X.calm = true) (h1 : PG X (.Name x1 p1) t1) (h2 : PG X (.Name x2 p2) t2) :
    PG X (.Tuple [.Name x1 p1, .Name x2 p2] k pos) (gTup X.K 2 (gCons t1 (gCons t2 gNil))) := pg_tup hc (pgs_cons h1 (pgs_cons h2 pgs_nil))
def sOf (t : Bool) : List Nat := [if t then 84 else 83]
theorem eqT (t : Bool) : decide (V.str (mk (sOf t)) = V.str "T") = decide (t = true) := by
  rw [str_T]
  refine decide_eq_decide.mpr ?_
  cases t
  · exact ⟨fun z => absurd (eq_mk1.mp z) (by decide), fun z => nomatch z⟩
  · exact ⟨fun _ => rfl, fun _ => rfl⟩
def spOnce : Sp := fun vs H Q _ => ∃ (l : List Nat) (t : Bool), vs = [.str (mk l), .str (mk (sOf t))] ∧ l.length ≤ 1000 ∧ ∀ H', Same H H' → Q (.str (mk (once t l))) H'
def signs (l : List Nat) : List V := l.map fun c => V.str (mk [c])
theorem signs_app (a b : List Nat) : signs (a ++ b) = signs a ++ signs b := by simp [signs]
theorem signs_len (a : List Nat) : (signs a).length = a.length := by simp [signs]
/-- the reading of both comprehensions: test tells what the test at a run asks -/
theorem once_lc {t : Bool} {l : List Nat} {H H' : Hp} {p D : Addr} {as : List Addr} {K : PySem.W.Frag} {tt : TT} {Q : Hp → Prop} {s0 s1 s2 s3 s4 : Option V}
    (sm : Same H H') (hl : l.length ≤ 1000) (hp : H' p = some (.lst (as.map V.ref))) (ps : Pairs H' as (runs l)) (nD : H' D = none)
    (hT : ∀ (q : Nat × Nat) (H2 : Hp) (R : Bool → Hp → Prop), R (keepRun t q) H2 → tt [s0, s1, s2, some (V.str (mk [q.1])), some (V.int (q.2 : Nat))] H2 R)
    (hQ : ∀ H2, Same H H2 → H2 D = some (.lst (signs (once t l))) → Q H2) :
    ∃ W : Nat → Nat → Hp → Prop, (∃ m, W 0 m (upd H' D (.lst []))) ∧ ∀ i m H2, W i m H2 →
      ((Itl K p).stop i H2 ∧ Q H2) ∨ ((Itl K p).go i H2 ∧ ∃ Nx : Hp → Prop, (∀ H3, Nx H3 → ∃ m', m' < m ∧ W (i + 1) m' H3) ∧ ∀ x H3, (Itl K p).yld i H2 x H3 → gTup K 2 (gCons (gName 3) (gCons (gName 4) gNil)) x (wipe [s0, s1, s2, s3, s4] [3, 4]) H3 fun σ2 H4 => wipe σ2 [3, 4] = wipe [s0, s1, s2, s3, s4] [3, 4] ∧ tt σ2 H4 fun b H5 =>
        if b = true then tVar 3 σ2 H5 fun y H6 => ∃ acc, H6 D = some (.lst acc) ∧ acc.length < sizeLine ∧ Nx (upd H6 D (.lst (acc ++ [y]))) else Nx H5) := by
  refine lc_list (xs := as.map V.ref) (fun i H2 => Same H' H2 ∧ H2 D = some (.lst (signs (kept t ((runs l).take i))))) ⟨same_upd nD, upd_same⟩ (fun i H2 _ h => SqL.of (h.1 _ _ hp)) ?_ ?_
  · rintro i x H2 hx ⟨sm2, hD⟩
    rw [List.getElem?_map] at hx
    obtain ⟨a, ha, rfl⟩ := Option.map_eq_some_iff.mp hx
    obtain ⟨q, hq, hqa⟩ := ps.at' ha
    refine ⟨a, _, rfl, SqT.of (sm2 _ _ hqa), rfl, _, _, rfl, _, _, rfl, rfl, rfl, hT q H2 _ ?_⟩
    have kt := kept_take (t := t) hq
    have hlen : (signs (kept t ((runs l).take i))).length < sizeLine := by
      rw [signs_len]
      refine small1000 (Nat.le_trans (kept_le t _) ?_)
      rw [List.length_take]
      have := runs_le l
      omega
    by_cases c : keepRun t q = true
    · rw [c]
      rw [if_pos c] at kt
      refine iteT ⟨_, rfl, _, hD, hlen, ?_, ?_⟩
      · intro b o hb
        rw [upd_ne (ne_of_none hb nD)]
        exact sm2 b o hb
      · rw [upd_same, kt, signs_app]
        rfl
    · have c' : keepRun t q = false := by
        cases h : keepRun t q
        · rfl
        · exact absurd h c
      rw [if_neg c, List.append_nil] at kt
      rw [c']
      refine iteF ⟨sm2, ?_⟩
      rw [kt]
      exact hD
  · rintro H2 ⟨sm2, hD⟩
    refine hQ H2 (sm.trans sm2) ?_
    have e : (as.map V.ref).length = (runs l).length := by rw [List.length_map, ps.len]
    rw [e, List.take_length] at hD
    exact hD
/-- the sieves of a pipeline, from left to right -/
def sv (l p : List Nat) : List Nat := p.foldl (fun r c => once (c == 84) r) l
theorem sv_take {l p : List Nat} {i c : Nat} (h : p[i]? = some c) : sv l (p.take (i + 1)) = once (c == 84) (sv l (p.take i)) := by
  have e : p.take (i + 1) = p.take i ++ [c] := by
    rw [List.take_add_one, h]; rfl
  unfold sv
  rw [e, List.foldl_append]
  rfl
theorem sv_le (l : List Nat) : ∀ p : List Nat, (sv l p).length ≤ l.length := by
  intro p
  induction p generalizing l with
  | nil => exact Nat.le_refl _
  | cons c p ih => exact Nat.le_trans (ih _) (once_le _ _)
theorem sv_mem {l : List Nat} : ∀ {p : List Nat} {c : Nat}, c ∈ sv l p → c ∈ l := by
  intro p
  induction p generalizing l with
  | nil => exact fun h => h
  | cons d p ih => exact fun h => once_mem (ih h)
theorem pipe_sign {c : Nat} (h : c = 84 ∨ c = 83) : (V.str ⟨#[c]⟩) = V.str (mk (sOf (c == 84))) := by
  rcases h with e | e <;> subst e <;> rfl
def spSize : Sp := fun vs H Q _ => ∃ l : List Nat, vs = [.str (mk l)] ∧ (Low l ∧ l.length ≤ 1000) ∧ ∀ H' p, Same H H' → H p = none → H' p = some (.tup [V.int (l.length : Nat), V.int (pairs l : Nat)]) → Q (.ref p) H'
theorem len_line {n : Nat} (h : n ≤ 1000) : n ≤ sizeLine := Nat.le_of_lt (small1000 h)
def spSieve : Sp := fun vs H Q _ => ∃ l p : List Nat, vs = [.str (mk l), .str (mk p)] ∧ (Low l ∧ l.length ≤ 1000 ∧ Pipe p) ∧ ∀ H', Same H H' → Q (.str (mk (sv l p))) H'
def bigD : Int := 2 ^ 12600
/-- a draw's state: digits, seed, counter -/
structure RngOk (d s c : Int) : Prop where
  d0 : 0 ≤ d
  d1 : d < bigD
  s0 : 0 ≤ s
  s1 : s < 2305843009213693952
  c0 : 0 ≤ c
  c1 : c < 4294967296
def rngO (d s c : Int) : HO := .lst [V.int d, V.int s, V.int c]
theorem cut_any (ns : List Int) (a b : Nat) : ∃ ms : List Int, ((ns.map V.int).drop a).take b = ms.map V.int ∧ ms.length ≤ ns.length :=
  ⟨(ns.drop a).take b, by rw [List.map_take, List.map_drop], by rw [List.length_take, List.length_drop]; omega⟩
theorem cut_ints (ns : List Int) (lo hi : Option Int) : ∃ ms : List Int, cutV (ns.map V.int) lo hi = ms.map V.int ∧ ms.length ≤ ns.length := by
  exact cut_any ns _ _
theorem pow2_le {a b : Nat} (h : a ≤ b) : (2 : Int) ^ a ≤ 2 ^ b := by
  rw [two_pow_cast, two_pow_cast]
  exact Int.ofNat_le.mpr (Nat.pow_le_pow_right (by decide) h)
theorem bigD_lt {i : Nat} {d r : Int} (hi : i < 63) (h0 : 0 ≤ d) (h1 : d < 2 ^ (200 * i)) (r0 : 0 ≤ r) (r1 : r < 10 ^ 60) : 0 ≤ d * 10 ^ 60 + r ∧ d * 10 ^ 60 + r < 2 ^ (200 * (i + 1)) := by
  have e : (2 : Int) ^ (200 * (i + 1)) = 2 ^ (200 * i) * 2 ^ 200 := by
    rw [← Int.pow_add]; congr 1
  have p : (10 : Int) ^ 60 ≤ 2 ^ 200 := by decide +kernel
  have h2 : (d + 1) * 10 ^ 60 ≤ 2 ^ (200 * i) * 2 ^ 200 := Int.mul_le_mul (by omega) p (by decide +kernel) (two_pow_nn _)
  have h3 : (d + 1) * 10 ^ 60 = d * 10 ^ 60 + 10 ^ 60 := by rw [Int.add_mul, Int.one_mul]
  have h4 : 0 ≤ d * 10 ^ 60 := Int.mul_nonneg h0 (by decide +kernel)
  rw [e]
  omega
def spRng (K : PySem.W.Frag) : Sp := fun vs H Q _ => ∃ (a : Addr) (ns : List Int), vs = [.ref a] ∧ SqL K H a (ns.map V.int) ∧ ns.length ≤ 63 ∧
  ∀ H' r d s, Same H H' → H r = none → H' r = some (rngO d s 0) → RngOk d s 0 → Q (.ref r) H'
theorem pow1018 : (10 : Int) ^ (18 : Int).toNat = 1000000000000000000 := by decide +kernel
theorem pow1060 : (10 : Int) ^ (60 : Int).toNat = 10 ^ 60 := rfl
theorem log2_le_of {i : Int} {n : Nat} (h0 : 0 ≤ i) (h : i < 2 ^ n) : i.natAbs.log2 ≤ n := by
  have e : i.natAbs < 2 ^ n := by
    have : ((i.natAbs : Nat) : Int) < ((2 ^ n : Nat) : Int) := by
      rw [Int.natAbs_of_nonneg h0, ← two_pow_cast]
      exact h
    exact Int.ofNat_lt.mp this
  by_cases z : i.natAbs = 0
  · rw [z]
    exact Nat.zero_le _
  · exact Nat.le_of_lt ((Nat.log2_lt z).mpr e)
def spDraw : Sp := fun vs H Q _ => ∃ (r : Addr) (m d s c : Int), vs = [.ref r, .int m] ∧ H r = some (rngO d s c) ∧ RngOk d s c ∧ (0 < m ∧ m < 2 ^ 200) ∧ c + 1 < 4294967296 ∧
  ∀ d' c' v, RngOk d' s c' → c' ≤ c + 1 → 0 ≤ v → v < m → Q (.int v) (upd H r (rngO d' s c'))
theorem emod_both (a : Int) {b : Int} (h : 0 < b) : 0 ≤ a % b ∧ a % b < b := ⟨Int.emod_nonneg _ (Int.ne_of_gt h), Int.emod_lt_of_pos _ h⟩
theorem pick {xs : List Int} {v : Int} (h0 : 0 ≤ v) (h1 : v < (xs.length : Nat)) : ∃ x, x ∈ xs ∧ atI (xs.map V.int) v = some (V.int x) := by
  obtain ⟨j, rfl⟩ := Int.eq_ofNat_of_zero_le h0
  have hj : j < xs.length := Int.ofNat_lt.mp h1
  refine ⟨xs[j], List.getElem_mem hj, atI_nat ?_⟩
  rw [List.getElem?_map, List.getElem?_eq_getElem hj]
  rfl
theorem cutS_take (l : List Nat) (n : Nat) : cutS (mk l) none (some (n : Int)) = mk (l.take n) := by
  unfold cutS
  rw [HT.sIx_none, HT.sIx_nat, mk_len]
  show mk (((mk l).cps.toList.drop 0).take (min n l.length - 0)) = _
  show mk ((l.drop 0).take (min n l.length - 0)) = _
  rw [List.drop_zero, Nat.sub_zero]
  congr 1
  by_cases h : n ≤ l.length
  · rw [Nat.min_eq_left h]
  · rw [Nat.min_eq_right (by omega), List.take_of_length_le (by omega), List.take_of_length_le (by omega)]
theorem cutS_drop (l : List Nat) (n : Nat) : cutS (mk l) (some (n : Int)) none = mk (l.drop n) := by
  unfold cutS
  rw [HT.sIx_none, HT.sIx_nat, mk_len]
  show mk ((l.drop (min n l.length)).take (l.length - min n l.length)) = _
  congr 1
  by_cases h : n ≤ l.length
  · rw [Nat.min_eq_left h, List.take_of_length_le (by rw [List.length_drop]; omega)]
  · rw [Nat.min_eq_right (by omega), List.drop_of_length_le (by omega), List.drop_of_length_le (by omega), List.take_nil]
theorem alpha_at {v : Int} (h0 : 0 ≤ v) (h1 : v < 26) : ∃ c : Nat, atI (Str.ofString "abcdefghijklmnopqrstuvwxyz").cps.toList v = some c ∧ 97 ≤ c ∧ c ≤ 122 := by
  obtain ⟨j, rfl⟩ := Int.eq_ofNat_of_zero_le h0
  have e : (Str.ofString "abcdefghijklmnopqrstuvwxyz").cps.toList = (List.range 26).map (· + 97) := by decide +kernel
  refine ⟨j + 97, atI_nat ?_, by omega, by omega⟩
  rw [e, List.getElem?_map, List.getElem?_range (by omega)]
  rfl
/-- all but what stands at r is as it was -/
def SameB (r : Addr) (H H' : Hp) : Prop := ∀ b o, b ≠ r → H b = some o → H' b = some o
theorem SameB.refl (r : Addr) (H : Hp) : SameB r H H := fun _ _ _ h => h
theorem SameB.trans {r : Addr} {H H1 H2 : Hp} (a : SameB r H H1) (b : SameB r H1 H2) : SameB r H H2 := fun c o n h => b c o n (a c o n h)
theorem SameB.at (r : Addr) (H : Hp) (o : HO) : SameB r H (upd H r o) := fun b u n h => by rw [upd_ne n]; exact h
theorem Same.b {r : Addr} {H H' : Hp} (h : Same H H') : SameB r H H' := fun b o _ e => h b o e
theorem SameB.seq {K : PySem.W.Frag} {r : Addr} {H H' : Hp} {a : Addr} {xs : List V} (e : SameB r H H') (n : a ≠ r) (h : SqL K H a xs) : SqL K H' a xs := by
  rcases h with (h | ⟨o, h⟩) | h
  · exact .inl (.inl (e _ _ n h))
  · exact .inl (.inr ⟨o, e _ _ n h⟩)
  · exact .inr h
theorem reps_len (n : Nat) (l : List Nat) : (reps n l).length = n * l.length := by
  unfold reps
  rw [List.length_flatten, List.map_replicate, List.sum_replicate_nat]
theorem reps_mem {n : Nat} {l : List Nat} {c : Nat} (h : c ∈ reps n l) : c ∈ l := by
  obtain ⟨x, hx, hc⟩ := List.mem_flatten.mp h
  rw [(List.mem_replicate.mp hx).2] at hc
  exact hc
def spWord : Sp := fun vs H Q _ => ∃ (r : Addr) (n : Nat) (d s c : Int), vs = [.ref r, .int (n : Nat)] ∧ n ≤ 200 ∧ H r = some (rngO d s c) ∧ RngOk d s c ∧ c + 1000 < 4294967296 ∧
  ∀ H' d' c' l, SameB r H H' → H' r = some (rngO d' s c') → RngOk d' s c' → c' ≤ c + 1000 → Low l → l.length ≤ n → Q (.str (mk l)) H'
theorem atI_of {α : Type} {xs : List α} {i : Int} {j : Nat} {v : α} (e : i = (j : Nat)) (h : xs[j]? = some v) : atI xs i = some v := by
  subst e
  exact atI_nat h
theorem eqS (t : Bool) : decide (V.str (mk (sOf t)) = V.str "S") = decide (t = false) := by
  rw [str_S]
  refine decide_eq_decide.mpr ?_
  cases t
  · exact ⟨fun _ => rfl, fun _ => rfl⟩
  · exact ⟨fun z => absurd (eq_mk1.mp z) (by decide), fun z => nomatch z⟩
theorem eq1 (c d : Nat) : decide (V.str ⟨#[c]⟩ = V.str ⟨#[d]⟩) = decide (c = d) := decide_eq_decide.mpr eq_mk1
theorem before_pos {l : List Nat} {i c d : Nat} (h : 0 < i) (hc : l[i - 1]? = some c) (hd : l[i]? = some d) : before l i = decide (c = d) := by
  unfold before
  rw [hc, hd, decide_eq_true h, Bool.true_and]
  exact decide_eq_decide.mpr ⟨fun z => Option.some.inj z, fun z => by rw [z]⟩
theorem before_zero {l : List Nat} {i : Nat} (h : ¬ 0 < i) : before l i = false := by
  unfold before
  rw [decide_eq_false h, Bool.false_and]
theorem behind_in {l : List Nat} {i c d : Nat} (h : i + 1 < l.length) (hc : l[i + 1]? = some c) (hd : l[i]? = some d) : behind l i = decide (c = d) := by
  unfold behind
  rw [hc, hd, decide_eq_true h, Bool.true_and]
  exact decide_eq_decide.mpr ⟨fun z => Option.some.inj z, fun z => by rw [z]⟩
theorem behind_out {l : List Nat} {i : Nat} (h : ¬ i + 1 < l.length) : behind l i = false := by
  unfold behind
  rw [decide_eq_false h, Bool.false_and]
def spOnceL : Sp := fun vs H Q _ => ∃ (l : List Nat) (t : Bool), vs = [.str (mk l), .str (mk (sOf t))] ∧ l.length ≤ 1000 ∧ Q (.str (mk (once t l))) H
theorem pairsUp_le (l : List Nat) : ∀ i, pairsUp l i ≤ i
  | 0 => Nat.le_refl _
  | i + 1 => by
    have := pairsUp_le l i
    rw [pairsUp]
    split <;> omega
def spPairs : Sp := fun vs H Q _ => ∃ (l : List Nat), vs = [.str (mk l)] ∧ l.length ≤ 1000 ∧ ∀ H', Same H H' → Q (.int (pairs l : Nat)) H'
theorem log2_small {n : Nat} (h : n ≤ 100000) : ((n : Int)).natAbs.log2 < 1920 := by
  rw [Int.natAbs_natCast]
  by_cases z : n = 0
  · subst z; decide
  · have : n < 2 ^ 17 := by omega
    have := (Nat.log2_lt z).mpr this
    omega
def dSz (a b : Nat) : PyData := .list [.tuple [.int (a : Nat), .int (b : Nat)], .tuple [.int (a : Nat), .int (b : Nat)]]
theorem int_len {n : Nat} (h : n ≤ 100000) : (Str.ofString (toString (n : Int))).length ≤ 1921 := int_text_len_1921 (log2_small h)
theorem dSz_ok {a b : Nat} (ha : a ≤ 100000) (hb : b ≤ 100000) : (dSz a b).showable = true ∧ (dSz a b).hasDict = false ∧ (dSz a b).depth ≤ 50 ∧ (dSz a b).shown.length ≤ sizeLine := by
  refine ⟨?_, rfl, by show 2 ≤ 50; decide, ?_⟩
  · have h1 := decide_eq_true (log2_small ha)
    have h2 := decide_eq_true (log2_small hb)
    simp only [dSz, PyData.showable, PyData.showableAll, h1, h2, Bool.and_self]
  · have h1 := int_len ha
    have h2 := int_len hb
    have e : (dSz a b).shown = listText [tupleText [Str.ofString (toString (a : Int)), Str.ofString (toString (b : Int))], tupleText [Str.ofString (toString (a : Int)), Str.ofString (toString (b : Int))]] := rfl
    rw [e]
    have t1 := tupleText_le [Str.ofString (toString (a : Int)), Str.ofString (toString (b : Int))]
    have t2 := listText_le [tupleText [Str.ofString (toString (a : Int)), Str.ofString (toString (b : Int))], tupleText [Str.ofString (toString (a : Int)), Str.ofString (toString (b : Int))]]
    simp only [piled_cons, piled_nil] at t1 t2
    have : sizeLine = 16777216 := sizeLine_eq
    omega
def dTx (l : List Nat) : PyData := .list [.str (mk l), .str (mk l)]
theorem dTx_ok {l : List Nat} (hl : l.length ≤ 10000) (low : ∀ c ∈ l, c < 16 ^ 8) : (dTx l).showable = true ∧ (dTx l).hasDict = false ∧ (dTx l).depth ≤ 50 ∧ (dTx l).shown.length ≤ sizeLine := by
  refine ⟨rfl, rfl, by show 1 ≤ 50; decide, ?_⟩
  have e : (dTx l).shown = listText [reprText (mk l), reprText (mk l)] := rfl
  rw [e]
  have h := StrLaws.reprText_len (mk l) low
  rw [mk_len] at h
  have t2 := listText_le [reprText (mk l), reprText (mk l)]
  simp only [piled_cons, piled_nil] at t2
  have : sizeLine = 16777216 := sizeLine_eq
  omega
/-- a def of the text: it stands at f, its name holds it, its arguments bind one by one -/
structure Dfn (K : PySem.W.Frag) (mg : Str → Option Value) (x : Str) (st : Stmt) (ps : List Str) (f : Addr) (fd : FuncData) : Prop where
  F : Fun K x x st f fd
  b : Binds K fd ps []
  g : mg x = some (.ref f)
theorem empty_mk : (V.str "") = V.str (mk []) := by decide +kernel
theorem sv_one (l : List Nat) (t : Bool) : sv l (sOf t) = once t l := by cases t <;> rfl
theorem pipe_one (t : Bool) : Pipe (sOf t) := fun c hc => by
  have e := List.mem_singleton.mp hc
  cases t
  · exact .inr e
  · exact .inl e
theorem dfn_mk {K : PySem.W.Frag} {mg : Str → Option Value} {h : Heap} (X : K.In h) (G : h.Ns mainGlobals mg) {x : Str} {st : Stmt} {ps : List Str} {f : Addr} {oc : Value} {od an : Option Addr} {sl : Array (Option Value)} {kV dc pm cd ct : Value}
    (a : PySem.W.nsIn K mainGlobals x = some (some (.ref f))) (l : K.lookup f = some ⟨oc, od, .func (PySem.W.fnOf x x (defArgs st) (defBody st) (defScope st) .none kV dc pm an cd ct), sl⟩)
    (c : PySem.W.codeIn K cd x = true) (k : PySem.W.keepIn K (.ref f) = true)
    (b : ∀ (kV doc pm : Value) (an : Option Addr) (cdv ct : Value) (us : List Value), us.length = ps.length → bindArgs (PySem.W.fnOf x x (defArgs st) (defBody st) (defScope st) .none kV doc pm an cdv ct) ⟨us, []⟩ = pure (ps.zip us)) :
    Dfn K mg x st ps f (PySem.W.fnOf x x (defArgs st) (defBody st) (defScope st) .none kV dc pm an cd ct) :=
  ⟨fun_mk l c k, (fun_mk l c k).binds b, PySem.W.mg_of X G a⟩
end
end Tw

set_option Elab.async false
set_option linter.all false
set_option maxRecDepth 100000
set_option maxHeartbeats 2000000
namespace TwX
open PySem PySem.W PySem.Calls PyProof.Rows PySem.HandSPX
/-! an own error class whose __init__ stores its one argument as value -/
def iA (p1 p2 : Pos) : Arguments := { posonlyargs := [], args := [{ arg := "self", annotation := none, pos := p1 }, { arg := "value", annotation := none, pos := p2 }], vararg := none, kwonlyargs := [], kw_defaults := [], kwarg := none, defaults := [] }
def iB (q1 q2 q3 q4 : Pos) : List Stmt := [.Assign [.Attribute (.Name "self" q1) "value" q2] (.Name "value" q3) q4]
def iS : Scope := { kind := .function, names := [(PySem.Str.ofString "self", .local), (PySem.Str.ofString "value", .local)], isGenerator := false, isCoroutine := false, more := [] }
/-- what the written part says of the class at C, and of its __init__, at fI -/
structure ETxt (K : Frag) (C fI : Addr) : Prop where
  cls : ∃ nm q N bs bm sn sub ab col dd k0 k1 k2 k3 k5, K.lookup C = some (excClassObj nm q C N bs bm true sn sub ab col dd k0 k1 k2 k3 k5 "ValueError.__new__") ∧ refsVE bm = true
  sa : findIn K (.ref C) "__setattr__" = some (some (.builtin "object.__setattr__"))
  ga : findIn K (.ref C) "__getattribute__" = some (some (.builtin "BaseException.__getattribute__"))
  gg : findIn K (.ref C) "__getattr__" = some none
  noN : findIn K (.ref C) "value" = some none
  iC : findIn K (.ref C) "__init__" = some (some (.ref fI))
  tC : typeIn K (.ref fI) = some (.type "function")
  kC : keepIn K (.ref C) = true
  exC : subIn K (.ref C) (.type "BaseException") = some true
  tyC : typeIn K (.ref C) = some (.type "type")
  hdC : hasDictIn K C = true
  cl : findIn K (.ref C) "__class__" = some (some (.builtin "object.__class__"))
  cn : specialIn K (.builtin "object.__class__") "__get__" = some (some (.builtin "getset_descriptor.__get__"))
  ct : takesIn K (.builtin "object.__class__") = some true
  cm : mroIn K C (.type "object") = some true
  fn : ∃ (qn : Str) (oc : Value) (od : Option Addr) (doc pm : Value) (an : Option Addr) (cdv ct : Value) (osl : Array (Option Value)) (p1 p2 q1 q2 q3 q4 : Pos),
    K.lookup fI = some ⟨oc, od, .func (fnOf "__init__" qn (iA p1 p2) (iB q1 q2 q3 q4) iS .none .none doc pm an cdv ct), osl⟩ ∧ codeIn K cdv qn = true
theorem one_size (v : Value) : [v].length ≤ sizeLine := by
  rw [sizeLine_eq]
  exact (by decide : 1 ≤ 16777216)
theorem ldC {M : Model} {s : Shared} {name : Str} {scope : Scope} {L a : Addr} {cd : Value} {m : Str → Option Value} {x : Str} {pos : Pos} {v : Value} {Q : Value → Shared → Prop} {A : Around} {E : Value → Shared → Prop} (hn : s.heap.Ns L m) (hv : m x = some v) (h : Q v s)
    (hk : scope.kind = .function := by rfl) (hl : (envOfC name scope L a cd).kindOf x = some .local := by rfl) (hd : (x == ("__debug__" : Str)) = false := by decide) :
    wpAny M A (eval (.Name x pos) (envOfC name scope L a cd)) Q E s := wpAny_Name (wpAny_loadName_local hk hl hn hv h) hd
/-- what __init__ leaves of a fresh exception at x -/
structure InitEnd (h h' : Heap) (x C dx t1 : Addr) (v : Value) : Prop where
  keep : ∀ b o, b ≠ x → h.get? b = some o → h'.get? b = some o
  obj : h'.get? x = some { cls := .ref C, dict := some dx, data := .fields #[.ref t1, .none, .none, .none, .bool false, .none] }
  dbig : h.objs.size ≤ dx
  dne : dx ≠ x
  ns : h'.Ns1 dx (fun y => if y = "value" then some v else none)
/-- a made one -/
structure OwnMade (h h' : Heap) (e C d : Addr) (v : Value) : Prop where
  keep : ∀ b o, h.get? b = some o → h'.get? b = some o
  new : h.objs.size ≤ e
  obj : ∃ oe vs, h'.get? e = some oe ∧ oe.cls = .ref C ∧ oe.dict = some d ∧ oe.data = .fields vs ∧ vs[1]? = some .none
  dbig : h.objs.size ≤ d
  dne : d ≠ e
  ns : h'.Ns1 d (fun y => if y = "value" then some v else none)
section
variable {prog : Program} {w : World} {A : Around} {E : Value → Shared → Prop} {R : Result → Shared → Prop} {s : Shared} {K : Frag} {C fI : Addr}
theorem e_init (T : ETxt K C fI) {x t0 : Addr} {v : Value} {args : Args} (X : K.In s.heap) (hlim : s.heap.NoLimit) (hx : s.heap.get? x = some (excO C t0)) (hnx : K.lookup x = none) (hroom : A.depth < recursionLimit)
    (hargs : args = ⟨[.ref x, v], []⟩ ∨ args = ⟨[.ref x], [("value", v)]⟩)
    (hq : ∀ h' tk dx, InitEnd s.heap h' x C dx t0 v → R (.ok (.ret .none)) { s with heap := h', toks := tk }) :
    codeAny (model prog w) A (.call (.ref fI) args) R s := by
  obtain ⟨qn, oc, od, doc, pm, an, cdv, ct, osl, p1, p2, q1, q2, q3, q4, ho, hcd⟩ := T.fn
  obtain ⟨nm, q, N, bs, bm, sn, sub, ab, col, dd, k0, k1, k2, k3, k5, hC, hbm⟩ := T.cls
  have hcl : clsIn K C = some { name := nm, bases := bs, mro := .ref C :: bm, ns := N, qualname := q, hasDict := true, slotNames := sn, subclasses := sub, abstract := ab, collection := col, hasDel := false } := by unfold clsIn; rw [hC] <;> rfl
  have hbind : ∀ sh : Shared, BindsTo sh (fnOf "__init__" qn (iA p1 p2) (iB q1 q2 q3 q4) iS .none .none doc pm an cdv ct) args [("self", .ref x), ("value", v)] := by
    intro sh
    rcases hargs with e | e
    · rw [e]
      exact BindsTo.of_eq (by first | rfl | with_unfolding_all rfl)
    · rw [e]
      exact BindsTo.of_eq (by first | rfl | with_unfolding_all rfl)
  refine Att.call_fn (binds := [("self", .ref x), ("value", v)]) X hlim ho hcd hroom (hbind _) (by first | rfl | decide | with_unfolding_all rfl) (fun s₁ IC => ?_) rfl rfl rfl
  obtain ⟨h₁, tk₁, rfl⟩ := IC.toInCall.same
  have k : ∀ b o, s.heap.get? b = some o → h₁.get? b = some o := IC.toInCall.keep
  have hn := IC.toInCall.ns
  have X₁ : K.In h₁ := X.keeps k
  have hx₁ := k _ _ hx
  show wpAny _ _ (execs _ _) _ _ _
  refine wpAny_execs_cons (plainObj_wpAny_Assign_Attribute ?_)
  refine ldC (v := v) hn (by first | rfl | with_unfolding_all rfl | kernel_rfl) (ldC (v := .ref x) hn (by first | rfl | with_unfolding_all rfl | kernel_rfl) ?_)
  refine set_plain X₁ (ox := excO C t0) (od := none) ⟨hx₁, rfl, rfl, trivial⟩ T.sa ?_
  refine exc_osa X₁ hx₁ hcl (show refsVE (.ref C :: bm) = true from hbm) rfl T.noN (fun h₃ tk₃ dx k₃ dn dne hx₃ hn₃ => ?_)
  show wpAny _ _ (execs _ _) _ _ _
  have z : s.heap.objs.size < h₁.objs.size := hn.lt
  exact wpAny_execs_nil (hq h₃ tk₃ dx ⟨fun b o hb e => k₃ b o hb (k b o e), hx₃, Nat.le_of_lt (Nat.lt_of_lt_of_le z dn), dne, hn₃⟩)
theorem e_made (T : ETxt K C fI) {v : Value} (X : K.In s.heap) (hlim : s.heap.NoLimit) (hroom : A.depth + 1 < recursionLimit)
    (hq : ∀ h' tk e d, OwnMade s.heap h' e C d v → R (.ok (.ret (.ref e))) { s with heap := h', toks := tk }) :
    codeAny (model prog w) A (.call (.ref C) ⟨[v], []⟩) R s := by
  obtain ⟨nm, q, N, bs, bm, sn, sub, ab, col, dd, k0, k1, k2, k3, k5, hC, hbm⟩ := T.cls
  obtain ⟨hp, g, dr, tk, os⟩ := s
  have k : ∀ b o, hp.get? b = some o → ((hp.push (kdv_tup [v])).push (excO C hp.objs.size)).get? b = some o := fun b o e => Heap.get?_push_of_some _ (Heap.get?_push_of_some _ e)
  have hget : ((hp.push (kdv_tup [v])).push (excO C hp.objs.size)).get? (hp.objs.size + 1) = some (excO C hp.objs.size) := by heap_get
  have hnx : K.lookup (hp.objs.size + 1) = none := by
    cases e : K.lookup (hp.objs.size + 1) with
    | none => rfl
    | some o =>
      have z : hp.get? (hp.objs.size + 1) = some o := X _ _ e
      exact absurd (Nat.lt_of_succ_lt (Heap.lt_size z)) (Nat.lt_irrefl _)
  refine call_own F.excBase_ValueError (fun X => refsVE_contains X bm hbm) (X _ _ hC) (looks_findIn X T.iC) (fun self => bind_fn X self T.tC) (one_size v) ?_
  refine e_init (s := ⟨(hp.push (kdv_tup [v])).push (excO C hp.objs.size), g, dr, tk, os⟩) T (X.keeps k) (hlim.keeps k) hget hnx ?_ (.inl rfl) fun h' tk' dx ⟨k', hx, dn, dne, hns⟩ => ?_
  · show A.depth + 1 < recursionLimit
    exact hroom
  · have old : ∀ b o, hp.get? b = some o → h'.get? b = some o := fun b o e => k' b o (Nat.ne_of_lt (Nat.lt_succ_of_lt (Heap.lt_size e))) (k b o e)
    have z : hp.objs.size + 1 + 1 ≤ dx := by
      first
        | (simpa only [Heap.size_push] using dn)
        | exact dn
        | (have q := dn; rw [Heap.size_push, Heap.size_push] at q; exact q)
    exact ⟨rfl, hq h' tk' (hp.objs.size + 1) dx ⟨old, Nat.le_succ _, ⟨_, _, hx, rfl, rfl, rfl, rfl⟩, Nat.le_trans (Nat.le_trans (Nat.le_succ _) (Nat.le_succ _)) z, dne, hns⟩⟩
end
end TwX

set_option Elab.async false
set_option linter.all false
set_option maxRecDepth 100000
set_option maxHeartbeats 4000000
namespace TwX
open PySem PySem.W PySem.Calls PyProof.Rows PySem.HandSPX
/-! the same class called with its argument by name -/
section
variable {M : Model} {prog : Program} {w : World} {A : Around} {E : Value → Shared → Prop} {R : Result → Shared → Prop} {h : Heap} {g : Array GenState} {d : Drawn} {t : Nat} {os : OsState}
variable {nm q : Str} {C N : Addr} {bs bm bmB : List Value} {hdct : Bool} {sn : List Str} {sub : List Value} {ab : Bool} {col : Option Bool} {dd : Option Addr} {k0 k1 k2 k3 k5 : Option Value} {B newId initId : String}
theorem newK_check (F : ExcBaseFacts B newId initId bmB) (hT : ∀ X : String, bm.contains (.type X) = bmB.contains (.type X)) {n : Str} {v : Value} {Q : Unit → Shared → Prop}
    (hC : h.get? C = some (excClassObj nm q C N bs bm hdct sn sub ab col dd k0 k1 k2 k3 k5 newId)) (hq : Q () ⟨h, g, d, t, os⟩) : wpAny M A (checkBuiltinCall newId ⟨[.ref C], [(n, v)]⟩) Q E ⟨h, g, d, t, os⟩ := by
  have c1 : (Value.ref C :: bm).contains (.type B) = true := by rw [List.contains_cons, hT, F.hasB, Bool.or_true]
  have c2 := F.noStar
  simp only [checkBuiltinCall, F.newKind, F.newSplit, F.newRow]
  repeat (first | refine wpAny_loadPart_at hC ?_ | (refine wpAny_isSubtype_exc hC ?_; rw [c1]) | refine wpAny_staticBase_exc hC ?_ | refine wpAny_madeBy_exc hC ?_ | simp only [bne_self_eq_false, Bool.false_eq_true, if_false] | wp_step)
  exact hq
theorem newK_made (F : ExcBaseFacts B newId initId bmB) (hT : ∀ X : String, bm.contains (.type X) = bmB.contains (.type X)) {n : Str} {v : Value}
    (hC : h.get? C = some (excClassObj nm q C N bs bm hdct sn sub ab col dd k0 k1 k2 k3 k5 newId))
    (hq : R (.ok (.ret (.ref (h.objs.size + 1)))) ⟨(h.push (kdv_tup [])).push (excO C h.objs.size), g, d, t, os⟩) :
    codeAny (model prog w) A (.builtin newId ⟨[.ref C], [(n, v)]⟩) R ⟨h, g, d, t, os⟩ := by
  have c0 := F.ends
  have c1 : (Value.ref C :: bm).contains (.type B) = true := by rw [List.contains_cons, hT, F.hasB, Bool.or_true]
  have c2 : (Value.ref C :: bm).contains (.type "AttributeError") = false := by rw [List.contains_cons, hT, F.noAttr]; rfl
  have c3 : (Value.ref C :: bm).contains (.type "NameError") = false := by rw [List.contains_cons, hT, F.noName]; rfl
  refine codeAny_builtinAt F.entry ?_
  unfold Builtin.«BaseException.__new__»
  refine PySem.wpAt_bind ?_
  show PySem.wpAt _ _ _ (stack >>= _) _ _ _
  refine PySem.wpAt_bind (PySem.wpAt_stack fun p below => PySem.wpAt_of_wpAny ?_)
  wp_walk
  refine PySem.wpAt_of_wpAny ?_
  rw [F.owner]
  repeat (first | with_reducible refine wpAny_madeHere_exc F.canon hC ?_ | with_reducible refine wpAny_loadPart_at hC ?_ | (with_reducible refine wpAny_isSubtype_exc hC ?_; first | rw [c1] | rw [c2] | rw [c3]) | wp_step)
  show R _ _
  rw [Heap.size_push]
  exact hq
theorem typeK (F : ExcBaseFacts B newId initId bmB) (hT : ∀ X : String, bm.contains (.type X) = bmB.contains (.type X)) {n : Str} {v : Value} {fI : Addr} {Q : Fin → Shared → Prop}
    (hC : h.get? C = some (excClassObj nm q C N bs bm hdct sn sub ab col dd k0 k1 k2 k3 k5 newId))
    (hi : W.Looks (model prog w) h (typeLookup (.ref C) "__init__") (some (.ref fI))) (hb : ∀ self, W.Looks (model prog w) h (bindSpecial (.ref fI) self) (.ref fI, [self]))
    (hq : codeAny (model prog w) A (.call (.ref fI) ⟨[.ref (h.objs.size + 1)], [(n, v)]⟩)
      (fun r s' => match r with | .ok (.ret v) => v = .none ∧ Q (.done (.ret (.ref (h.objs.size + 1)))) s' | .ok _ => False | .error e => E e s')
      ⟨(h.push (kdv_tup [])).push (excO C h.objs.size), g, d, t, os⟩) :
    wpAny (model prog w) A (Builtin.«type.__call__» ⟨[.ref C], [(n, v)]⟩) Q E ⟨h, g, d, t, os⟩ := by
  repeat (first | with_reducible refine wpAny_loadPart_at hC ?_ | with_reducible refine wpAny_madeBy_exc hC ?_ | wp_step)
  refine codeAny_call_builtin_code (Code.quiet_builtin _ F.quiet) (newK_check F hT hC ?_)
  refine newK_made F hT hC ?_
  show wpAny _ _ _ _ _ _
  have k : ∀ b o, h.get? b = some o → ((h.push (kdv_tup [])).push (excO C h.objs.size)).get? b = some o := fun b o e => Heap.get?_push_of_some _ (Heap.get?_push_of_some _ e)
  have hC₁ := k _ _ hC
  have hget : ((h.push (kdv_tup [])).push (excO C h.objs.size)).get? (h.objs.size + 1) = some (excO C h.objs.size) := by heap_get
  have c4 : (Value.ref C :: bm).contains (.ref C) = true := by simp
  have i1 := hi.keeps k
  have b1 := (hb (.ref (h.objs.size + 1))).keeps k
  unfold isInstance
  repeat (first | with_reducible refine wpAny_loadPart_at hget ?_ | (with_reducible refine wpAny_isSubtype_exc hC₁ ?_; rw [c4]) | wp_step)
  show wpAny _ _ (typeLookup (.ref C) _) _ _ _
  refine i1.at ?_
  refine wpAny_holding (wpAny_bind (b1.at ?_))
  refine wpAny_bind (wpAny_call (codeAny_mono hq fun r s' z => ?_))
  rcases r with e | (v | _ | _ | _) <;> first | exact z | exact z.elim | skip
  obtain ⟨rfl, z⟩ := z
  first
    | exact wpAny_pure (wpAny_pure z)
    | (wp_walk; exact z)
end
section
variable {prog : Program} {w : World} {A : Around} {E : Value → Shared → Prop} {R : Result → Shared → Prop} {s : Shared} {K : Frag} {C fI : Addr}
theorem tcK_check {hp : Heap} {g : Array GenState} {d : Drawn} {t : Nat} {os : OsState} {M : Model} {n : Str} {v : Value} {Q : Unit → Shared → Prop} {nm q : Str} {N : Addr} {bs bm : List Value} {hdct : Bool} {sn : List Str} {sub : List Value} {ab : Bool} {col : Option Bool} {dd : Option Addr} {k0 k1 k2 k3 k5 : Option Value} {newId : String}
    (hC : hp.get? C = some (excClassObj nm q C N bs bm hdct sn sub ab col dd k0 k1 k2 k3 k5 newId)) (hq : Q () ⟨hp, g, d, t, os⟩) : wpAny M A (checkBuiltinCall "type.__call__" ⟨[.ref C], [(n, v)]⟩) Q E ⟨hp, g, d, t, os⟩ := by
  have f3 := tc_sub
  have hT : (⟨hp, g, d, t, os⟩ : Shared).TypeIs (.ref C) "type" := ⟨_, hC, rfl⟩
  simp only [checkBuiltinCall, tc_kind, tc_split]
  repeat (any_goals (first | assumption | with_reducible refine wpAny_loadPart_at hC ?_ | with_reducible refine wpAny_onRaise ?_ | with_reducible refine wpAny_map ?_ | wp_step))
theorem e_madeK (T : ETxt K C fI) {v : Value} (X : K.In s.heap) (hlim : s.heap.NoLimit) (hroom : A.depth + 1 < recursionLimit)
    (hq : ∀ h' tk e d, OwnMade s.heap h' e C d v → R (.ok (.ret (.ref e))) { s with heap := h', toks := tk }) :
    codeAny (model prog w) A (.call (.ref C) ⟨[], [("value", v)]⟩) R s := by
  obtain ⟨nm, q, N, bs, bm, sn, sub, ab, col, dd, k0, k1, k2, k3, k5, hC, hbm⟩ := T.cls
  obtain ⟨hp, g, dr, tk, os⟩ := s
  have hC1 := X _ _ hC
  have f1 := tc_lookup
  have f2 := tc_bind (.ref C)
  have hTy : (⟨hp, g, dr, tk, os⟩ : Shared).TypeIs (.ref C) "type" := ⟨_, hC1, rfl⟩
  have k : ∀ b o, hp.get? b = some o → ((hp.push (kdv_tup [])).push (excO C hp.objs.size)).get? b = some o := fun b o e => Heap.get?_push_of_some _ (Heap.get?_push_of_some _ e)
  have hget : ((hp.push (kdv_tup [])).push (excO C hp.objs.size)).get? (hp.objs.size + 1) = some (excO C hp.objs.size) := by heap_get
  have hnx : K.lookup (hp.objs.size + 1) = none := by
    cases e : K.lookup (hp.objs.size + 1) with
    | none => rfl
    | some o =>
      have z : hp.get? (hp.objs.size + 1) = some o := X _ _ e
      exact absurd (Nat.lt_of_succ_lt (Heap.lt_size z)) (Nat.lt_irrefl _)
  refine codeAny_of_tree ?_
  show wpAny _ _ (callAny (.ref C) _) _ _ _
  repeat (any_goals (first | assumption | with_reducible refine wpAny_loadPart_at hC1 ?_ | wp_step))
  refine ⟨rfl, ?_⟩
  refine codeAny_call_builtin_at (Code.quiet_builtin _ (by decide +kernel)) entry_typeCall (tcK_check hC1 ?_)
  refine typeK F.excBase_ValueError (fun X => refsVE_contains X bm hbm) hC1 (looks_findIn X T.iC) (fun self => bind_fn X self T.tC) ?_
  refine e_init (s := ⟨(hp.push (kdv_tup [])).push (excO C hp.objs.size), g, dr, tk, os⟩) T (X.keeps k) (hlim.keeps k) hget hnx ?_ (.inr rfl) fun h' tk' dx ⟨k', hx, dn, dne, hns⟩ => ?_
  · show A.depth + 1 < recursionLimit
    exact hroom
  · have old : ∀ b o, hp.get? b = some o → h'.get? b = some o := fun b o e => k' b o (Nat.ne_of_lt (Nat.lt_succ_of_lt (Heap.lt_size e))) (k b o e)
    have z : hp.objs.size + 1 + 1 ≤ dx := by
      first
        | (simpa only [Heap.size_push] using dn)
        | exact dn
        | (have q := dn; rw [Heap.size_push, Heap.size_push] at q; exact q)
    exact ⟨rfl, hq h' tk' (hp.objs.size + 1) dx ⟨old, Nat.le_succ _, ⟨_, _, hx, rfl, rfl, rfl, rfl⟩, Nat.le_trans (Nat.le_trans (Nat.le_succ _) (Nat.le_succ _)) z, dne, hns⟩⟩
end
end TwX

set_option Elab.async false
set_option linter.all false
set_option maxRecDepth 100000
set_option maxHeartbeats 4000000
namespace PySem.W
open PySem PySem.Spec PySem.Calls PyProof.Rows
section
variable {prog : Program} {w : World} {A : Around} {E : Value → Shared → Prop} {s : Shared} {K : Frag} {x D : Addr} {ox : Obj} {od : Option Obj}
theorem twx_find {C : Addr} {name : Str} {a g : Value} (hc : (clsIn K C).isSome = true) (ha : findIn K (.ref C) name = some (some a)) (hg : specialIn K a "__get__" = some (some g)) (ht : takesIn K a = some true) : findObj K C od name = some (.bind g a) := by
  obtain ⟨cd, hc⟩ := Option.isSome_iff_exists.mp hc
  unfold findObj
  rw [hc, Option.bind_some, ha, Option.bind_some]
  simp [hg, ht]
/-- x.__class__, x an own error with or without attributes -/
theorem twx_class {fI : Addr} {Q : Option Value → Shared → Prop} (T : TwX.ETxt K D fI) (X : K.In s.heap) (I : InstAt s.heap x ox D od) (h : Q (some (.ref D)) { s with toks := s.toks + 1 }) : wpAny (model prog w) A (getAttr? (.ref x) "__class__") Q E s := by
  have hf : findObj K D od "__class__" = some (.bind (.builtin "getset_descriptor.__get__") (.builtin "object.__class__")) := twx_find (by obtain ⟨cd, hc, _⟩ := any_some T.hdC; rw [hc]; rfl) T.cl T.cn T.ct
  obtain ⟨hp, g, d, t, os⟩ := s
  have L0 := I.type (M := model prog w)
  have L1 := looks_findIn (M := model prog w) X T.ga
  have L2 := looks_findIn (M := model prog w) X T.gg
  have L3 := looks_find (M := model prog w) X I hf
  have sub : Looks (model prog w) hp (isInstance (.ref x) (.type "BaseException")) true := L0.andThen (looks_subIn X T.exC)
  have z0 : (false && onTheHeap (Value.builtin "BaseException.__getattribute__")) = false := rfl
  have z1 : (onTheHeap (Value.ref D) && Value.builtin "BaseException.__getattribute__" == Value.builtin "object.__getattribute__") = false := by
    have z2 : (Value.builtin "BaseException.__getattribute__" == Value.builtin "object.__getattribute__") = false := by decide +kernel
    rw [z2]; rfl
  unfold getAttr? getAttrBy? getAttrBy
  refine wpAny_bind (wpAny_mkText (wpAny_bind (wpAny_attempt (wpAny_holding (wpAny_bind (L0.at (wpAny_bind (L1.at ?_))))))))
  show wpAny _ _ (if (onTheHeap (Value.ref D) && Value.builtin "BaseException.__getattribute__" == Value.builtin "object.__getattribute__") = true then _ else _) _ _ _
  rw [z1, if_neg Bool.false_ne_true]
  unfold getAttrByItsOwn hookBefore
  refine wpAny_bind ?_
  rw [if_pos (show onTheHeap (Value.ref D) = true from rfl)]
  refine L2.at ?_
  refine wpAny_bind (wpAny_attempt (wpAny_holding ?_))
  unfold callGetattribute
  rw [z0, if_neg Bool.false_ne_true]
  unfold boundAndCalled
  rw [PySem.F.excAttr_ValueError.ga.bind (.ref x)]
  refine wpAny_bind (wpAny_pure ?_)
  show wpAny _ _ (call (.builtin "BaseException.__getattribute__") [.ref x, .str "__class__" t]) _ _ _
  refine wpAny_call (codeAny_call_builtin PySem.F.excAttr_ValueError.ga.plain PySem.F.entry_bexc_ga ?_)
  refine @check_slot (model prog w) _ _ ⟨hp, g, d, t + 1, os⟩ "BaseException.__getattribute__" "BaseException" "__getattribute__" (.ref x) [.str "__class__" t] [] _ (by decide +kernel) (by decide +kernel) sub (PySem.F.args_bexc_ga (.ref x) (.str "__class__" t)) ?_
  unfold Builtin.«object.__getattribute__»
  refine wpAny_bind (wpAny_of_eq (a := ((Value.ref x : Value), [Value.str "__class__" t])) (by first | rfl | (simp only [slotArgs]; rfl)) ?_)
  refine wpAny_bind (wpAny_pure (wpAny_bind (L0.at (wpAny_bind (L3.at ?_)))))
  show wpAny _ _ (holding [Value.builtin "object.__class__"] (call (.builtin "getset_descriptor.__get__") [.builtin "object.__class__", .ref x, .ref D]) >>= ret) _ _ _
  refine wpAny_bind (wpAny_holding (wpAny_call (class_get (s := ⟨hp, g, d, t + 1, os⟩) (ox := ox) (od := od) X I T.cm ?_)))
  refine wpAny_pure ?_
  show wpAny _ _ (handedOut (.ref D)) _ _ _
  rw [handedOut_of (v := .ref D) rfl]
  first
    | exact wpAny_pure (wpAny_pure h)
    | exact wpAny_pure h
    | exact wpAny_pure (wpAny_bind (wpAny_pure (wpAny_pure h)))
theorem twx_kit {fI : Addr} (T : TwX.ETxt K D fI) : KitX K (.ref x) (.ref D) (fun h => ∃ ox od, InstAt h x ox D od) where
  ty := fun _ _ _ ⟨_, _, I⟩ => I.type
  it := fun _ _ X _ => by
    obtain ⟨cdD, hcD, _⟩ := any_some T.hdC
    unfold clsIn at hcD
    split at hcD
    · rename_i c' d' cd' sl' ho
      intro A' Q' E' s' k q
      unfold isType loadHead
      exact wpAny_bind (wpAny_loadPart (k _ _ (X _ _ ho)) (wpAny_pure q))
    · cases hcD
  ne := fun h tp dd its n sl X htp => by
    obtain ⟨cdD, hcD, _⟩ := any_some T.hdC
    refine Bool.eq_false_iff.mpr fun q => ?_
    have e : D = tp := Value.ref.inj (beq_iff_eq.mp q)
    subst e
    unfold clsIn at hcD
    split at hcD
    · rename_i c' d' cd' sl' ho
      have z := (X _ _ ho).symm.trans htp
      cases z
    · cases hcD
  ca := fun X I k => by
    obtain ⟨ox, od, I⟩ := I
    exact twx_class T X I k
end
end PySem.W
namespace Tw
open PySem PySem.Spec PyProof.Rows L2
/-- an own error at a, of the class at C, its attributes in the dict at d -/
def ExcV (C d a : Addr) : HO := .ext fun h => ∃ (oe : Obj) (vs : Array Value), h.get? a = some oe ∧ oe.cls = .ref C ∧ oe.dict = some d ∧ oe.data = .fields vs ∧ vs[1]? = some Value.none
def xval (v : V) : HO := .xd [(("value" : Str), v)]
theorem relO_val {v : V} {v' : Value} (r : RelV v v') (f : Str) : RelO (List.lookup f [(("value" : Str), v)]) (if f = "value" then some v' else none) := by
  by_cases hw : f = "value"
  · subst hw
    rw [if_pos rfl]
    have q : List.lookup ("value" : Str) [(("value" : Str), v)] = some v := by simp [List.lookup]
    rw [q]
    exact r
  · rw [if_neg hw]
    have qw : (f == ("value" : Str)) = false := by simpa using hw
    have q2 : List.lookup f [(("value" : Str), v)] = none := by simp [List.lookup, qw]
    rw [q2]
    trivial
theorem excV_ok {P : Program} {w : World} {H : Hp} {h : Heap} {C d a : Addr} {oe : Obj} {vs : Array Value} (e : h.get? a = some oe) (h1 : oe.cls = .ref C) (h2 : oe.dict = some d) (h3 : oe.data = .fields vs) (h4 : vs[1]? = some Value.none) : ObjOk P w H h a (ExcV C d a) :=
  ⟨⟨oe, vs, e, h1, h2, h3, h4⟩, ⟨oe, e⟩, fun _ _ ⟨o, v, q, r⟩ k => ⟨o, v, k o q, r⟩⟩
section
variable {X : Cx} {pins : List (Addr × Obj)} {σ : L2.St} {H : Hp} {s : Shared} {C fI : Addr}
/-- behind a made one -/
theorem inv_made {h' : Heap} {tk' : Nat} {e d : Addr} {v : V} {v' : Value} (I : Inv X pins σ H s) (rv : RelV v v') (M : TwX.OwnMade s.heap h' e C d v') :
    H d = none ∧ H e = none ∧ e ≠ d ∧ Inv X pins σ (upd (upd H d (xval v)) e (ExcV C d e)) { s with heap := h', toks := tk' } := by
  obtain ⟨oe, fv, hoe, hc, hd, hdat, h1⟩ := M.obj
  have hns := M.ns
  obtain ⟨G', g1, g2⟩ := restrict h' fun b => decide (b ≠ e)
  have gk : ∀ b, b ≠ e → G'.get? b = h'.get? b := fun b hb => g1 b (decide_eq_true hb)
  have ge : G'.get? e = none := g2 e (by simp)
  have old : ∀ b o, s.heap.get? b = some o → G'.get? b = some o := fun b o q => (gk b (Nat.ne_of_lt (Nat.lt_of_lt_of_le (Heap.lt_size q) M.new))).trans (M.keep b o q)
  have nd : H d = none := I.hok.fresh M.dbig
  have ne : H e = none := I.hok.fresh M.new
  have ob : ObjOk X.prog X.w (upd H d (xval v)) G' d (xval v) := ⟨_, hns.at (fun o q => (gk d M.dne).trans q), fun f => relO_val rv f⟩
  have J : Inv X pins σ (upd H d (xval v)) { s with heap := G', toks := tk' } := I.laid (t' := tk') old M.dbig ob
  have ne2 : upd H d (xval v) e = none := by
    rw [upd_ne (Ne.symm M.dne)]
    exact ne
  refine ⟨nd, ne, Ne.symm M.dne, J.laidN (fun b o q => ?_) ge ne2 (excV_ok hoe hc hd hdat h1)⟩
  by_cases hb : b = e
  · have q' : G'.get? b = some o := q
    rw [hb, ge] at q'
    cases q'
  · rw [← gk b hb]
    exact q
def tMkE (C : Addr) (ta : TA) : TE := fun σ H Q => ta σ H fun vs H1 => ∃ v, vs = [v] ∧ ∀ e d, H1 d = none → H1 e = none → e ≠ d → Q (.ref e) (upd (upd H1 d (xval v)) e (ExcV C d e))
theorem pe_mkE {a : Expr} {ta : TA} {x : Str} {p pos : Pos} {k : Nat} (T : TwX.ETxt X.K C fI) (gC : X.mg x = some (.ref C)) (hr : Room k X.A) (ha : PA X [a] ta) (hg : Gl X x) (hdb : (x == ("__debug__" : Str)) = false := by decide)
    (he : starEach (a :: []) X.env = (false, eval a X.env) :: starEach [] X.env := by rfl) (hpl : (backTo pos (starEach [] X.env)).any (·.1) = false := by rfl) :
    PE X (.Call (.Name x p) [a] [] pos) (tMkE C ta) := by
  refine ⟨fun pins s σ H Q I h => wpAny_Call_Name_kw (ld_glob I hg gC ?_ hdb)⟩
  refine PySem.W.callWith_K (h₀ := X.base) I.ok.mod.kin T.kC (thn (ha.run pos pins s σ H _ I h) fun us s1 hh => ?_) he hpl
  obtain ⟨vs, H1, I1, r1, v, rfl, q1⟩ := hh
  obtain ⟨v', rfl, rv⟩ := vals1 r1
  refine ⟨I1.kIn, ?_⟩
  show wpAny _ _ (call (.ref C) [v']) _ _ _
  refine wpAny_call (TwX.e_made T I1.kIn I1.nolimit (by have := hr.dp; omega) fun h' tk' e d M => ?_)
  obtain ⟨nd, ne, ed, J⟩ := inv_made (tk' := tk') I1 rv M
  exact ⟨.ref e, _, J, rfl, q1 e d nd ne ed⟩
theorem pe_mkEK {a : Expr} {te : TE} {x : Str} {p pos kp : Pos} {k : Nat} (T : TwX.ETxt X.K C fI) (gC : X.mg x = some (.ref C)) (hr : Room k X.A) (ha : PE X a te) (hg : Gl X x) (hdb : (x == ("__debug__" : Str)) = false := by decide)
    (hall : (backToKw pos (keywordEach [⟨some "value", a, kp⟩] X.env)).all (·.1.isSome) = true := by rfl)
    (hks : (backToKw pos (keywordEach [⟨some "value", a, kp⟩] X.env)).filterMap (·.1) = [("value" : Str)] := by rfl)
    (hpl : ((backTo pos (starEach [] X.env)).any (·.1) || (backToKw pos (keywordEach [⟨some "value", a, kp⟩] X.env)).any (·.1.isNone)) = false := by rfl) :
    PE X (.Call (.Name x p) [] [⟨some "value", a, kp⟩] pos) (tMkE C (tCons te tNil)) := by
  refine ⟨fun pins s σ H Q I h => wpAny_Call_Name_kw (ld_glob I hg gC ?_ hdb)⟩
  refine PySem.W.callWith_KW0 (h₀ := X.base) I.ok.mod.kin T.kC hall (thn ((pk_cons (nm := some "value") ha pk_nil).run pos pins s σ H _ I h) fun us s1 hh => ?_) hpl
  obtain ⟨vs, H1, I1, r1, v, rfl, q1⟩ := hh
  obtain ⟨v', rfl, rv⟩ := vals1 r1
  refine ⟨I1.kIn, ?_⟩
  rw [hks]
  show wpAny _ _ (call (.ref C) [] [("value", v')]) _ _ _
  refine wpAny_call (TwX.e_madeK T I1.kIn I1.nolimit (by have := hr.dp; omega) fun h' tk' e d M => ?_)
  obtain ⟨nd, ne, ed, J⟩ := inv_made (tk' := tk') I1 rv M
  exact ⟨.ref e, _, J, rfl, q1 e d nd ne ed⟩
theorem inst_of {C d a : Addr} (I : Inv X pins σ H s) (h : H a = some (ExcV C d a)) (hd : ∃ v, H d = some (xval v)) : ∃ oe od, PySem.W.InstAt s.heap a oe C (some od) ∧ s.heap.get? d = some od := by
  obtain ⟨⟨oe, vs, e, h1, h2, h3, _⟩, _, _⟩ := I.hok a _ h
  obtain ⟨v, hv⟩ := hd
  have x : ObjOk X.prog X.w H s.heap d (.xd [(("value" : Str), v)]) := I.hok d _ hv
  obtain ⟨mA, hns, _⟩ := x
  obtain ⟨od, ho, hl⟩ := lookIn_ns hns
  exact ⟨oe, od, ⟨e, h1, by unfold PySem.W.notCls; rw [h3] <;> rfl, by rw [h2]; exact ho⟩, ho⟩
/-- error.value -/
def tValE (K : PySem.W.Frag) (te : TE) : TE := fun σ H Q => te σ H fun x H1 => ∃ (a C d fI : Addr) (v : V), x = .ref a ∧ H1 a = some (ExcV C d a) ∧ TwX.ETxt K C fI ∧ H1 d = some (xval v) ∧ Q v H1
theorem pe_valE {e : Expr} {te : TE} {pos : Pos} (he : PE X e te) (hb : attributeBase e "value" X.env (eval e X.env) = eval e X.env := by rfl) : PE X (.Attribute e "value" pos) (tValE X.K te) := by
  refine ⟨fun pins s σ H Q I h => attr_of hb (thn (he.run pins s σ H _ I h) fun u s1 hh => ?_)⟩
  obtain ⟨x, H1, I1, rx, a, C, d, fI, v, rfl, ha, T, hv, q⟩ := hh
  obtain rfl : u = Value.ref a := rx
  obtain ⟨⟨oe, vs, e, h1, h2, h3, _⟩, _, _⟩ := I1.hok a _ ha
  have hx : ObjOk X.prog X.w H1 s1.heap d (.xd [(("value" : Str), v)]) := I1.hok d _ hv
  obtain ⟨mA, hns, hr⟩ := hx
  obtain ⟨od, ho, hl⟩ := lookIn_ns hns
  have l : List.lookup ("value" : Str) [(("value" : Str), v)] = some v := by simp [List.lookup]
  obtain ⟨u, hu, ru⟩ := RelO.some_of (v := v) (o := mA "value") (by rw [← l]; exact hr "value")
  have J : PySem.W.InstAt s1.heap a oe C (some od) := ⟨e, h1, by unfold PySem.W.notCls; rw [h3] <;> rfl, by rw [h2]; exact ho⟩
  exact HandSPX.exc_get I1.kIn J T.ga T.gg T.exC (PySem.W.findObj_own T.hdC T.noN rfl (by rw [hl, hu])) (handed_of ru) ⟨v, H1, I1.tok _, ru, q⟩
/-- isinstance(error, class) -/
theorem call_isV : CallR X (.builtin "isinstance") (fun xs H Q => ∃ (a C d fI : Addr) (c : V) (u : Value) (b : Bool), xs = [.ref a, c] ∧ H a = some (ExcV C d a) ∧ (∃ v, H d = some (xval v)) ∧ TwX.ETxt X.K C fI ∧ ClsV c u ∧ PySem.W.kitOne X.K (.ref C) u = some b ∧ Q (.bl b) H) := by
  intro pins s σ H xs us Q I r h
  obtain ⟨a, C, d, fI, c, u, b, rfl, ha, hd, T, k, e, q⟩ := h
  obtain ⟨u1, u2, rfl, r1, r2⟩ := vals2 r
  obtain rfl : u1 = Value.ref a := r1
  have e2 := k.eq r2
  subst e2
  obtain ⟨oe, od, J, _⟩ := inst_of I ha hd
  exact PySem.W.kia_one (PySem.W.twx_kit T) I.kIn ⟨oe, some od, J⟩ e (fun z => nomatch z) fun tk => ⟨.bl b, H, I.tok tk, rfl, q⟩
end
end Tw

set_option Elab.async false
set_option linter.all false
set_option maxRecDepth 100000
set_option maxHeartbeats 2000000
namespace Tw
open PySem PySem.Spec PyProof.Rows L2
/-- repr of any data, where it is known that no repr runs around -/
theorem call_reprV {X : Cx} (hg : X.A.guards = some []) (hu : X.A.units + 64 < cLine) :
    CallR X (.builtin "repr") (fun xs H Q => ∃ (x : V) (d : PyData), xs = [x] ∧ Dp X.K H x d ∧ d.showable = true ∧ d.hasDict = false ∧ d.depth ≤ 50 ∧ d.shown.length ≤ sizeLine ∧ Q (V.str d.shown) H) := by
  intro pins s σ H xs us Q I r h
  obtain ⟨x, d, rfl, hd, h1, h2, h3, h4, q⟩ := h
  cases hd with
  | non =>
    obtain ⟨u, rfl, ru⟩ := vals1 r
    obtain rfl : u = Value.none := ru
    exact PySem.P.repr_of_none ⟨V.str _, H, I.tok _, ⟨_, rfl⟩, q⟩
  | bl b =>
    obtain ⟨u, rfl, ru⟩ := vals1 r
    obtain rfl : u = Value.bool b := ru
    exact PySem.P.repr_of_bool ⟨V.str (PyData.bool b).shown, H, I.tok _, ⟨s.toks, by cases b <;> rfl⟩, q⟩
  | int i =>
    obtain ⟨u, rfl, t, rfl⟩ := vals1 r
    exact PySem.P.repr_of_int (of_decide_eq_true h1) ⟨V.str _, H, I.tok _, ⟨_, rfl⟩, q⟩
  | str z =>
    obtain ⟨u, rfl, t, rfl⟩ := vals1 r
    exact PySem.P.repr_of_str ⟨V.str _, H, I.tok _, ⟨_, rfl⟩, q⟩ h4
  | lst hs hall => exact call_reprD hg hu pins s σ H _ us Q I r ⟨_, _, rfl, .lst hs hall, h1, h2, h3, h4, q⟩
  | tup hs hall => exact call_reprD hg hu pins s σ H _ us Q I r ⟨_, _, rfl, .tup hs hall, h1, h2, h3, h4, q⟩
theorem same_seqT {K : PySem.W.Frag} {H H' : Hp} {a : Addr} {xs : List V} (e : Same H H') (h : SqT K H a xs) : SqT K H' a xs := by
  rcases h with (h | ⟨o, h⟩) | h
  · exact .inl (.inl (e _ _ h))
  · exact .inl (.inr ⟨o, e _ _ h⟩)
  · exact .inr h
mutual
theorem dp_same {K : PySem.W.Frag} {H H' : Hp} (e : Same H H') : ∀ {x : V} {d : PyData}, Dp K H x d → Dp K H' x d
  | _, _, .non => .non
  | _, _, .bl b => .bl b
  | _, _, .int i => .int i
  | _, _, .str z => .str z
  | _, _, .lst hs h => .lst (e.seq hs) (dps_same e h)
  | _, _, .tup hs h => .tup (same_seqT e hs) (dps_same e h)
theorem dps_same {K : PySem.W.Frag} {H H' : Hp} (e : Same H H') : ∀ {xs : List V} {ds : List PyData}, DpAll K H xs ds → DpAll K H' xs ds
  | _, _, .nil => .nil
  | _, _, .cons a b => .cons (dp_same e a) (dps_same e b)
end
end Tw

set_option Elab.async false
set_option linter.all false
set_option maxRecDepth 100000
set_option maxHeartbeats 4000000
namespace Tw
open PySem PySem.Spec PyProof.Rows L2
/-- a caught own error at a, of the class at C, its attributes in the dict at d -/
def ExcR (C d a : Addr) : HO := .ext fun h => ∃ (oe : Obj) (vs : Array Value), h.get? a = some oe ∧ oe.cls = .ref C ∧ oe.dict = some d ∧ oe.data = .fields vs
theorem excR_ok {P : Program} {w : World} {H : Hp} {h : Heap} {C d a : Addr} {oe : Obj} {vs : Array Value} (e : h.get? a = some oe) (h1 : oe.cls = .ref C) (h2 : oe.dict = some d) (h3 : oe.data = .fields vs) : ObjOk P w H h a (ExcR C d a) :=
  ⟨⟨oe, vs, e, h1, h2, h3⟩, ⟨oe, e⟩, fun _ _ ⟨o, v, q, r⟩ k => ⟨o, v, k o q, r⟩⟩
section
variable {X : Cx} {pins : List (Addr × Obj)} {σ : L2.St} {H : Hp} {s : Shared} {C fI : Addr}
/-! raise -/
def tMkR (C : Addr) (ta : TA) : L2.St → Hp → XK → Prop := fun σ H Q => ta σ H fun vs H1 => ∃ v, vs = [v] ∧ ∀ d, H1 d = none → Q (.ref C) (some d) (upd H1 d (xval v))
theorem pmk_R {a : Expr} {ta : TA} {x : Str} {p pos : Pos} {k : Nat} (T : TwX.ETxt X.K C fI) (gC : X.mg x = some (.ref C)) (hr : Room k X.A) (ha : PA X [a] ta) (hg : Gl X x) (hdb : (x == ("__debug__" : Str)) = false := by decide)
    (he : starEach (a :: []) X.env = (false, eval a X.env) :: starEach [] X.env := by rfl) (hpl : (backTo pos (starEach [] X.env)).any (·.1) = false := by rfl) :
    PMk X (.Call (.Name x p) [a] [] pos) (tMkR C ta) := by
  intro pins s σ H Q I h
  refine wpAny_Call_Name_kw (ld_glob I hg gC ?_ hdb)
  refine PySem.W.callWith_K (h₀ := X.base) I.ok.mod.kin T.kC (thn (ha.run pos pins s σ H _ I h) fun us s1 hh => ?_) he hpl
  obtain ⟨vs, H1, I1, r1, v, rfl, q1⟩ := hh
  obtain ⟨v', rfl, rv⟩ := vals1 r1
  refine ⟨I1.kIn, ?_⟩
  show wpAny _ _ (call (.ref C) [v']) _ _ _
  refine wpAny_call (TwX.e_made T I1.kIn I1.nolimit (by have := hr.dp; omega) fun h' tk' e d M => ?_)
  obtain ⟨oe, fv, hoe, hc, hd, hdat, h1⟩ := M.obj
  have hns := M.ns
  obtain ⟨G', g1, g2⟩ := restrict h' fun b => decide (b ≠ e)
  have gk : ∀ b, b ≠ e → G'.get? b = h'.get? b := fun b hb => g1 b (decide_eq_true hb)
  have ge : G'.get? e = none := g2 e (by simp)
  have old : ∀ b o, s1.heap.get? b = some o → G'.get? b = some o := fun b o q => (gk b (Nat.ne_of_lt (Nat.lt_of_lt_of_le (Heap.lt_size q) M.new))).trans (M.keep b o q)
  have ob : ObjOk X.prog X.w (upd H1 d (xval v)) G' d (xval v) := ⟨_, hns.at (fun o q => (gk d M.dne).trans q), fun f => relO_val rv f⟩
  have J : Inv X pins σ (upd H1 d (xval v)) { s1 with heap := G', toks := tk' } := I1.laid (t' := tk') old M.dbig ob
  refine ⟨e, oe, fv, { s1 with heap := G', toks := tk' }, _, .ref C, some d, rfl, J, fun b o q => ?_, ge, hoe, ⟨hc, hd⟩, hdat, h1, ?_, rfl, I1.bare, raises_own T.exC T.tyC, q1 d (I1.hok.fresh M.dbig)⟩
  · by_cases hb : b = e
    · have q' : G'.get? b = some o := q
      rw [hb, ge] at q'; cases q'
    · exact (gk b hb).symm.trans q
  · rw [upd_ne (Ne.symm M.dne)]
    exact I1.hok.fresh M.new
def tRaiseR (C : Addr) (W : WX) (ta : TA) : TS := fun _ σ H => tMkR C ta σ H fun cls d H' => W cls d σ H'
theorem ps_raiseR {a : Expr} {ta : TA} {W : WX} {x : Str} {p pos pos2 : Pos} {k : Nat} (hc : X.calm = true) (T : TwX.ETxt X.K C fI) (gC : X.mg x = some (.ref C)) (hr : Room k X.A) (tk : Takes X W) (ha : PA X [a] ta) (hg : Gl X x) (hdb : (x == ("__debug__" : Str)) = false := by decide)
    (he : starEach (a :: []) X.env = (false, eval a X.env) :: starEach [] X.env := by rfl) (hpl : (backTo pos (starEach [] X.env)).any (·.1) = false := by rfl) :
    PS X (.Raise (some (.Call (.Name x p) [a] [] pos)) none pos2) (tRaiseR C W ta) := ps_raise hc tk (pmk_R T gC hr ha hg hdb he hpl)

/-! a caught error is tracked -/
theorem inv_track {a d : Addr} {oe : Obj} {vs : Array Value} (I : Inv X pins σ H s) (e : s.heap.get? a = some oe) (hc : oe.cls = .ref C) (hd : oe.dict = some d) (hf : oe.data = .fields vs) (na : H a = none)
    (nL : a ≠ X.env.locals) (n0 : X.s_0.heap.get? a = none) (np : ∀ p ∈ X.pn ++ pins, p.1 ≠ a) : Inv X pins σ (upd H a (ExcR C d a)) s := by
  refine ⟨I.ok, I.os, I.bare, ⟨I.base.keep, I.base.slot, fun b o q n hx => ?_, I.base.there, fun b xs q => ?_, fun b o u q => ?_, fun b ps q => ?_⟩, I.loc, I.cell, ?_, fun x c q => ?_, fun p hp => ?_, I.hok.laidN (fun b u q => q) na (excR_ok e hc hd hf), I.len⟩
  · rw [upd_ne (fun z => by rw [z, n0] at q; cases q)]
    exact I.base.free b o q n hx
  · have q2 := I.base.tups b xs q
    rw [upd_ne (ne_of_none q2 na)]; exact q2
  · have q2 := I.base.frzs b o u q
    rw [upd_ne (ne_of_none q2 na)]; exact q2
  · obtain ⟨m, q2⟩ := I.base.tbls b ps q
    exact ⟨m, by rw [upd_ne (ne_of_none q2 na)]; exact q2⟩
  · rw [upd_ne (Ne.symm nL)]; exact I.free
  · have nc : c ≠ a := fun z => by
      obtain ⟨v, o, ho, hd'⟩ := I.cell x c q
      rw [z, e] at ho
      cases ho
      rw [hf] at hd'
      cases hd'
    rw [upd_ne nc]; exact I.freeC x c q
  · obtain ⟨h1, h2, h3⟩ := I.pin p hp
    exact ⟨h1, by rw [upd_ne (np p hp)]; exact h2, h3⟩
end
/-- what the clause 'except x as n' wishes; behind the suite the error stays tracked -/
def wKeep (K : PySem.W.Frag) (c : Value) (i : Nat) (ts : Addr → Value → Option Addr → TS) (Wout : WX) (D : Ends) : WX := fun cls d σ H =>
  ∃ b, PySem.W.exmOne K cls c = some b ∧ (b = true → ∃ C dd, cls = .ref C ∧ d = some dd ∧ ∀ a, H a = none → ts a cls d { nx := fun σ' H' => H' a = none → D.nx (σ'.set i none) (upd H' a (ExcR C dd a)), rt := fun _ _ => False } (σ.set i (some (.ref a))) H) ∧
    (b = false → Wout cls d σ H)
section
variable {X : Cx} {x n : Str} {c : Value} {i : Nat} {body suite : List Stmt} {b₀ : Stmt} {np pos pos' : Pos} {tb : WX → TS} {ts : Addr → Value → Option Addr → TS} {Wout : WX}
theorem ps_try_keep (hs : X.stack = X.env :: X.outer) (hf : X.env.frame = some X.env.locals) (hex : X.ex = []) (hN : X.N.Nodup) (hi : X.N[i]? = some n) (hln : X.env.kindOf n = some .local) (hc : Names X x c) (tk : Takes X Wout)
    (hb : ∀ (W : WX) (pn : List (Addr × Obj)) (xe : Value → Shared → Prop), Takes (X.tr pn xe) W → PassesOwn (model X.prog X.w) X.A X.env xe → PSs (X.tr pn xe) body (tb W))
    (hsu : ∀ (a : Addr) (oe : Obj) (cls : Value) (d : Option Addr) (pn : List (Addr × Obj)), Zc cls d oe → (∃ vs, oe.data = .fields vs) → PSs (X.suite a ((a, oe) :: pn)) (b₀ :: suite) (ts a cls d)) :
    PS X (.Try body [.ExceptHandler (some (.Name x np)) (some n) (b₀ :: suite) pos'] [] [] pos) (fun D σ H => tb (wKeep X.K c i ts Wout D) D σ H) := by
  refine ⟨fun pins s σ H D I h => ?_⟩
  have ok := I.ok
  have hfr : X.A.frames = some (X.env :: X.outer) := by rw [ok.frames, hs]
  have hloc : Loc X.env.scope n := .inl hln
  refine wpAny_Try_except ?_
  refine wpAny_mono ((hb (wKeep X.K c i ts Wout D) (X.pn ++ pins) (fun e s₁ => wpAny (model X.prog X.w) X.A (noteFrame e X.env) (fun _ s₂ => wpAny (model X.prog X.w) X.A (setFlight e none) (fun _ s₃ =>
    wpAny (model X.prog X.w) X.A (handleBy e X.env [.ExceptHandler (some (.Name x np)) (some n) (b₀ :: suite) pos']) (SP X pins D) X.xe s₃) X.xe s₂) X.xe s₁) (fun u s' xx => ?_) PassesOwn.looking).run [] s σ H D (I.toTry _) h) (fun f s1 hsp => ?_) (fun e s1 he => he)
  · obtain ⟨a, B, sI, pins', σ', H', cls, d, rfl, J', nb, up, sky, na, os, ag, b, hb1, hyes, hno⟩ := xx
    have J : Inv X pins σ' H' sI := J'.ofTry ok
    have sky' : Sky B (X.env :: X.outer) a (Zc cls d) X.env.locals s'.heap := by rw [← hs]; exact sky
    show wpAny (model X.prog X.w) X.A (noteFrame (.ref a) X.env) _ _ _
    refine Sky.land Zc.steady hfr hf sky' fun h3 fl3 up3 => ?_
    have J3 : Inv X pins σ' H' { s' with heap := h3 } := J.landed nb fl3.1 (up.trans up3) os ag
    obtain ⟨oe3, vs3, he3, hz3, hd3⟩ := fl3.there
    have notFr : ∀ {h : Heap} {o : Obj} {vs : Array Value}, h.FunFrames B (X.env :: X.outer) → h.get? a = some o → o.data = .fields vs → a ∉ frs (X.env :: X.outer) := fun {h o vs} ff e dd hm => by
      obtain ⟨_, o', e', hnf⟩ := ff.mem hm
      rw [e] at e'; cases e'
      exact hnf _ dd
    have nfr := notFr fl3.2.2.1 he3 hd3
    have nL : a ≠ X.env.locals := fun z => nfr (List.mem_filterMap.mpr ⟨X.env, List.mem_cons_self, by rw [hf, z]⟩)
    have nF : a ∉ X.fs := fun hm => by
      obtain ⟨e, he, q⟩ := List.mem_filterMap.mp hm
      exact nfr (List.mem_filterMap.mpr ⟨e, List.mem_cons_of_mem _ he, q⟩)
    have nI : sI.heap.get? a = none := by
      cases q : sI.heap.get? a with
      | none => rfl
      | some o =>
        have z := nb a o q (by rw [hs]; exact nfr)
        rw [fl3.2.1] at z
        cases z
    have n0 : X.s_0.heap.get? a = none := by
      cases q : X.s_0.heap.get? a with
      | none => rfl
      | some o =>
        obtain ⟨o', z⟩ := J.base.there a o q (by rw [hex]; exact fun z => nomatch z)
        rw [nI] at z
        cases z
    have nP : ∀ p ∈ X.pn ++ pins, p.1 ≠ a := fun p hp z => by
      have q := (J.pin p hp).1
      rw [z, nI] at q
      cases q
    have S3 := J3.suite he3 hd3 na nL nF
    refine wpAny_handleBy_cons (codeAny_handlers_test ?_) (by intro q; cases q)
    have LT : PySem.W.Looks (model X.prog X.w) h3 (typeOf (.ref a)) cls := fun A Q E s k q => wpAny_typeOf_ref (k _ _ he3) (by rw [hz3.1]; exact q)
    have LM := PySem.W.exm_one (M := model X.prog X.w) (J3.kIn) LT hb1
    have test : ∀ {Q : Value → Shared → Prop} {E : Value → Shared → Prop}, Q c { s' with heap := h3 } → wpAny (model X.prog X.w) (X.A.mark (some (.ref a))) (eval (.Name x np) X.env) Q E { s' with heap := h3 } := fun {Q E} q => by
      obtain ⟨hg, hdbg, hm | ⟨hm, hv, hnn⟩⟩ := hc
      · exact ld_glob (X := X.suite a ((a, oe3) :: (X.pn ++ pins))) S3 hg hm q hdbg
      · exact ld_blt (X := X.suite a ((a, oe3) :: (X.pn ++ pins))) S3 hg hm hv q hnn hdbg
    refine test (LM.here ?_)
    cases b with
    | true =>
      obtain ⟨C, dd, hcls, hdd, hyes⟩ := hyes rfl
      refine codeAny_handlers_suite_as ?_
      refine HandSPX.lands_againZ fl3 fun h4 fl4 up4 => ?_
      have J4 : Inv X pins σ' H' { s' with heap := h4 } := J.landed nb fl4.1 ((up.trans up3).trans up4) os ag
      obtain ⟨oe4, vs4, he4, hz4, hd4⟩ := fl4.there
      have S4 := J4.suite he4 hd4 na nL nF
      refine store_ok (X := X.suite a ((a, oe4) :: (X.pn ++ pins))) (v := .ref a) S4 hN hi hloc rfl (fun s5 S5 => ?_) (.inr hln)
      refine wpAny_mono ((hsu a oe4 cls d (X.pn ++ pins) hz4 ⟨_, hd4⟩).run [] s5 _ H' _ S5 (hyes a na)) (fun f s6 hsp => ?_) (fun _ _ z => False.elim z)
      have end_ : ∀ {σ6 : L2.St} {H6 : Hp} {Q : Shared → Prop}, Inv (X.suite a ((a, oe4) :: (X.pn ++ pins))) [] σ6 H6 s6 → (∀ s7, H6 a = none → Inv X pins (σ6.set i none) (upd H6 a (ExcR C dd a)) s7 → Q s7) →
          wpAny (model X.prog X.w) X.A (do bindName X.env n .none; unbindBehindTheSuite X.env n pos') (fun _ s7 => Q s7) X.xe s6 := fun {σ6 H6 Q} S6 hq => by
        refine gone_ok (X := X.suite a ((a, oe4) :: (X.pn ++ pins))) (pos := pos') S6 hN hi hln fun s7 S7 => ?_
        obtain ⟨p1, p2, p3, p4, p5⟩ := S7.pin (a, oe4) (List.mem_append_left _ List.mem_cons_self)
        have J7 : Inv X pins (σ6.set i none) H6 s7 := S7.unsuite ok
        exact hq s7 p2 (inv_track J7 p1 (hz4.1.trans hcls) (hz4.2.trans hdd) hd4 p2 nL n0 nP)
      cases f with
      | next =>
        obtain ⟨σ6, H6, S6, q6⟩ := hsp
        exact end_ S6 fun s7 z J7 => ⟨_, _, J7, q6 z⟩
      | brk =>
        obtain ⟨σ6, H6, S6, q6⟩ := hsp
        exact q6.elim
      | cont =>
        obtain ⟨σ6, H6, S6, q6⟩ := hsp
        exact q6.elim
      | ret u =>
        obtain ⟨v6, σ6, H6, S6, r6, q6⟩ := hsp
        exact False.elim q6
    | false =>
      show wpAny _ X.A (handleBy (.ref a) X.env []) _ _ _
      refine wpAny_handleBy_nil ?_
      obtain ⟨k1, k2, k3, oe, vs, T, oT, ts', he, hz, hd, h1, hr⟩ := id fl3
      unfold PySem.passOn
      refine wpAny_bind (wpAny_field he hd h1 ?_)
      rw [if_neg (show ¬ ((Value.ref T == Value.none) = true) from by simp)]
      have fin : wpAny (model X.prog X.w) X.A (setFlight (.ref a) X.env.frame) (fun _ s4 => wpAny (model X.prog X.w) X.A (throw (.ref a) : Sem Flow) (SP X pins D) X.xe s4) X.xe { s' with heap := h3 } := by
        rw [hf]
        refine HandSPX.setFlight_upZ fl3 fun h4 hh4 up4 => wpAny_throw (tk _ _ ?_)
        exact ⟨a, B, sI, pins, σ', H', cls, d, rfl, J, nb, (up.trans up3).trans up4, .inr (.inr (by rw [hs]; exact hh4)), na, os, ag, hno rfl⟩
      first
        | exact wpAny_bind (wpAny_pure (wpAny_bind fin))
        | exact wpAny_bind fin
  · cases f with
    | next =>
      obtain ⟨σ', H', J', q⟩ := hsp
      exact wpAny_execs_nil ⟨σ', H', J'.ofTry ok, q⟩
    | brk =>
      obtain ⟨σ', H', J', q⟩ := hsp
      exact ⟨σ', H', J'.ofTry ok, q⟩
    | cont =>
      obtain ⟨σ', H', J', q⟩ := hsp
      exact ⟨σ', H', J'.ofTry ok, q⟩
    | ret u =>
      obtain ⟨v, σ', H', J', r, q⟩ := hsp
      exact ⟨v, σ', H', J'.ofTry ok, r, q⟩
end
/-! its class and its value are asked -/
section
variable {X : Cx} {pins : List (Addr × Obj)} {σ : L2.St} {H : Hp} {s : Shared} {C fI : Addr}
theorem inst_ofR {C d a : Addr} (I : Inv X pins σ H s) (h : H a = some (ExcR C d a)) (hd : ∃ v, H d = some (xval v)) : ∃ oe od, PySem.W.InstAt s.heap a oe C (some od) ∧ s.heap.get? d = some od := by
  obtain ⟨⟨oe, vs, e, h1, h2, h3⟩, _, _⟩ := I.hok a _ h
  obtain ⟨v, hv⟩ := hd
  have x : ObjOk X.prog X.w H s.heap d (.xd [(("value" : Str), v)]) := I.hok d _ hv
  obtain ⟨mA, hns, _⟩ := x
  obtain ⟨od, ho, hl⟩ := lookIn_ns hns
  exact ⟨oe, od, ⟨e, h1, by unfold PySem.W.notCls; rw [h3] <;> rfl, by rw [h2]; exact ho⟩, ho⟩
def tValR (K : PySem.W.Frag) (te : TE) : TE := fun σ H Q => te σ H fun x H1 => ∃ (a C d fI : Addr) (v : V), x = .ref a ∧ H1 a = some (ExcR C d a) ∧ TwX.ETxt K C fI ∧ H1 d = some (xval v) ∧ Q v H1
theorem pe_valR {e : Expr} {te : TE} {pos : Pos} (he : PE X e te) (hb : attributeBase e "value" X.env (eval e X.env) = eval e X.env := by rfl) : PE X (.Attribute e "value" pos) (tValR X.K te) := by
  refine ⟨fun pins s σ H Q I h => attr_of hb (thn (he.run pins s σ H _ I h) fun u s1 hh => ?_)⟩
  obtain ⟨x, H1, I1, rx, a, C, d, fI, v, rfl, ha, T, hv, q⟩ := hh
  obtain rfl : u = Value.ref a := rx
  obtain ⟨⟨oe, vs, e, h1, h2, h3⟩, _, _⟩ := I1.hok a _ ha
  have hx : ObjOk X.prog X.w H1 s1.heap d (.xd [(("value" : Str), v)]) := I1.hok d _ hv
  obtain ⟨mA, hns, hr⟩ := hx
  obtain ⟨od, ho, hl⟩ := lookIn_ns hns
  have l : List.lookup ("value" : Str) [(("value" : Str), v)] = some v := by simp [List.lookup]
  obtain ⟨u, hu, ru⟩ := RelO.some_of (v := v) (o := mA "value") (by rw [← l]; exact hr "value")
  have J : PySem.W.InstAt s1.heap a oe C (some od) := ⟨e, h1, by unfold PySem.W.notCls; rw [h3] <;> rfl, by rw [h2]; exact ho⟩
  exact HandSPX.exc_get I1.kIn J T.ga T.gg T.exC (PySem.W.findObj_own T.hdC T.noN rfl (by rw [hl, hu])) (handed_of ru) ⟨v, H1, I1.tok _, ru, q⟩
theorem call_isR : CallR X (.builtin "isinstance") (fun xs H Q => ∃ (a C d fI : Addr) (c : V) (u : Value) (b : Bool), xs = [.ref a, c] ∧ H a = some (ExcR C d a) ∧ (∃ v, H d = some (xval v)) ∧ TwX.ETxt X.K C fI ∧ ClsV c u ∧ PySem.W.kitOne X.K (.ref C) u = some b ∧ Q (.bl b) H) := by
  intro pins s σ H xs us Q I r h
  obtain ⟨a, C, d, fI, c, u, b, rfl, ha, hd, T, k, e, q⟩ := h
  obtain ⟨u1, u2, rfl, r1, r2⟩ := vals2 r
  obtain rfl : u1 = Value.ref a := r1
  have e2 := k.eq r2
  subst e2
  obtain ⟨oe, od, J, _⟩ := inst_ofR I ha hd
  exact PySem.W.kia_one (PySem.W.twx_kit T) I.kIn ⟨oe, some od, J⟩ e (fun z => nomatch z) fun tk => ⟨.bl b, H, I.tok tk, rfl, q⟩
theorem call_isTR : CallR X (.builtin "isinstance") (fun xs H Q => ∃ (a C d fI tp : Addr) (cs : List V) (us : List Value) (b : Bool), xs = [.ref a, .ref tp] ∧ H a = some (ExcR C d a) ∧ (∃ v, H d = some (xval v)) ∧ TwX.ETxt X.K C fI ∧ H tp = some (.tup cs) ∧ Paired ClsV cs us ∧ PySem.W.kitAny X.K (.ref C) us = some b ∧ Q (.bl b) H) := by
  intro pins s σ H xs us Q I r h
  obtain ⟨a, C, d, fI, tp, cs, ws, b, rfl, ha, hd, T, hT, k, e, q⟩ := h
  obtain ⟨u1, u2, rfl, r1, r2⟩ := vals2 r
  obtain rfl : u1 = Value.ref a := r1
  cases (show u2 = Value.ref tp from r2)
  obtain ⟨oe, od, J, _⟩ := inst_ofR I ha hd
  obtain ⟨_, its, rv, o, h1, h2, n, h3⟩ := (show ObjOk X.prog X.w H s.heap tp (.tup cs) from I.hok tp _ hT)
  have e3 := ClsV.all k rv
  subst e3
  obtain ⟨oc, od', dt, sl⟩ := o
  simp only at h2 h3
  subst h2 h3
  exact PySem.W.kia_tup (PySem.W.twx_kit T) I.kIn ⟨oe, some od, J⟩ h1 e (fun z => nomatch z) fun tk => ⟨.bl b, H, I.tok tk, rfl, q⟩
/-- xs.count(y), flat items -/
theorem mt_countV : MtR X "list.count" (fun x xs H Q => ∃ (p : Addr) (ys : List V) (y : V), x = .ref p ∧ xs = [y] ∧ SqL X.K H p ys ∧ flatV y = true ∧ ys.all flatV = true ∧ Q (.int (ys.countP (fun z => eqV z y) : Nat)) H) := by
  intro pins s σ H x xs v us Q I rx rxs h
  obtain ⟨p, ys, y, rfl, rfl, hs, fy, fys, q⟩ := h
  cases rx
  cases rxs with
  | cons ry rt =>
    rename_i uy ut
    cases rt
    obtain ⟨its, rv, ⟨⟨cls, dd, data, sl⟩, n, ho, hc, hdn, hd⟩, hlen⟩ := I.list hs
    simp only at hc hd
    subst hc hd
    refine call_meets PySem.F.slot_list_count ⟨_, ho, rfl⟩ PySem.F.entry_list_count (PySem.F.args_list_count_2 _ _)
      (SeqAt.list_countAt p its.toArray n dd sl uy (eqU y)) ⟨ho, fun u' hu' => mem_eqAt ry fy rv fys u' (by simpa using hu'), ?_⟩
    have ec : ∀ (zs : List V) (ws : List Value), Vals zs ws → zs.all flatV = true → ws.countP (eqU y) = zs.countP (fun z => eqV z y) := by
      intro zs ws r
      induction r with
      | nil => intro _; rfl
      | cons r1 _ ih =>
        intro f
        rw [List.all_cons, Bool.and_eq_true] at f
        rw [List.countP_cons, List.countP_cons, ih f.2, eqU_of r1 f.1]
    refine ⟨.int (ys.countP (fun z => eqV z y) : Nat), H, I.tok _, ⟨s.toks, ?_⟩, q⟩
    show Value.int ((its.toArray.toList.countP (eqU y) : Nat) : Int) s.toks = _
    have e1 : its.toArray.toList = its := rfl
    rw [e1, ec ys its rv fys]
end
end Tw

set_option Elab.async false
set_option linter.all false
set_option maxRecDepth 100000
set_option maxHeartbeats 4000000
namespace Tw
open PySem PySem.Spec PyProof.Rows L2 GenW
/-! the first turn of a generator -/
abbrev TF1 := (V → Hp → Prop) → L2.St → Hp → Prop
structure F1 (X : Cx) (sts : List Stmt) (t : TF1) : Prop where
  run : ∀ (A : Around) (R : GenEnd) (Y : Protocol) (s₀ : Shared) (c : Code) (fs : List Frame) (K : Flow → Sem PySem.Fin) (J : Value → Sem PySem.Fin) (gd : Bool → Bool) (lv : List Value → List Value) (pins : List (Addr × Obj)) (s : Shared) (σ : L2.St) (H : Hp) (Q : V → Hp → Prop),
    A.over c fs = X.A → splitAtGen fs = none → fs.any Frame.guarded = false → gd false = false →
    (∀ x v σ' H' s' kap, RelV x v → Inv X pins σ' H' s' → Q x H' → Y 0 s₀ v s' kap) →
    (∀ e s', X.xe e s' → Seg (model X.prog X.w) A R Y 1 s₀ c (J e) fs s') →
    Inv X pins σ H s → t Q σ H → Seg (model X.prog X.w) A R Y 1 s₀ c ((execs sts X.env).wrap K J gd lv) fs s
section
variable {X : Cx} {st : Stmt} {rest : List Stmt}
def tF1Cons (t : TS) (u : TF1) : TF1 := fun Q σ H => t { nx := fun σ' H' => u Q σ' H', rt := fun _ _ => False } σ H
theorem f1_cons {t : TS} {u : TF1} (a : PS X st t) (b : F1 X rest u) : F1 X (st :: rest) (tF1Cons t u) := by
  refine ⟨fun A R Y s₀ c fs K J gd lv pins s σ H Q ho hsp hg hgd hY hE I ht => ?_⟩
  refine seg_execs_cons (seg_wrap ?_)
  rw [ho]
  refine wpAny_mono (a.run pins s σ H _ I ht) (fun f s' hs => ?_) fun e s' he => hE e s' he
  cases f with
  | next =>
    obtain ⟨σ', H', I', q⟩ := hs
    exact b.run A R Y s₀ c fs K J gd lv pins s' σ' H' Q ho hsp hg hgd hY hE I' q
  | brk => obtain ⟨_, _, _, q⟩ := hs; exact q.elim
  | cont => obtain ⟨_, _, _, q⟩ := hs; exact q.elim
  | ret u => obtain ⟨_, _, _, _, _, q⟩ := hs; exact False.elim q
def tF1Yield (te : TE) : TF1 := fun Q σ H => te σ H fun x H1 => Q x H1
theorem f1_yield {e : Expr} {yp pos : Pos} {te : TE} (he : PE X e te) (hco : X.env.scope.isCoroutine = false := by rfl) (hi : interactive X.env = false := by rfl) : F1 X (.Expr (.Yield (some e) yp) pos :: rest) (tF1Yield te) := by
  refine ⟨fun A R Y s₀ c fs K J gd lv pins s σ H Q ho hsp hg hgd hY hE I ht => ?_⟩
  refine seg_execs_cons (seg_Expr_Yield hsp hgd hg ?_ hco hi)
  rw [ho]
  refine wpAny_mono (he.run pins s σ H _ I ht) (fun v s' hv => ?_) fun e s' hx => hE e s' hx
  obtain ⟨x, H1, I1, rv, q⟩ := hv
  intro kap _
  exact hY x v σ H1 s' kap rv I1 q
end
/-- how a generator's first turn ends otherwise: an exception leaves it -/
def RF1 (P : Program) (w : World) (outer : List Env) (H : Hp) (s : Shared) (a : Addr) (g : Nat) (E : XK) : GenEnd := fun _ _ r s₁ =>
  ((r = .ok (.ret .none) ∨ r = .ok .next) ∧ False) ∨ ∃ e, r = .error e ∧ (CX P w outer H s E e s₁ ∧ s₁.heap.IsGen a g)
def YF1 (P : Program) (w : World) (outer : List Env) (H : Hp) (s : Shared) (Q : V → Hp → Prop) : Protocol := fun _ _ v s₁ _ =>
  ∃ x H', RelV x v ∧ s₁.os = s.os ∧ AllBare s₁.gens ∧ Un (frs outer) [] H H' s.heap s₁.heap ∧ HOk P w H' s₁.heap ∧ Q x H'
/-- what a call of a generator def gives, told of its first turn alone -/
def GMade1 (P : Program) (w : World) (k : Nat) (outer : List Env) (H : Hp) (s : Shared) (Q : V → Hp → Prop) (E : XK) (u : Value) (s' : Shared) : Prop :=
  ∃ (a : Addr) (g : Nat) (c : Code), u = .ref a ∧ s.heap.objs.size ≤ a ∧ s'.heap.IsGen a g ∧ s'.gens[g]? = some (.fresh c) ∧ s'.os = s.os ∧ AllBare s'.gens ∧ s'.heap.NoLimit ∧ (∀ b o, s.heap.get? b = some o → s'.heap.get? b = some o) ∧
    ∀ (A : Around) (s2 : Shared), Room k A → A.frames = some outer → (∀ b o, s'.heap.get? b = some o → s2.heap.get? b = some o) → s2.os = s.os → AllBare s2.gens →
      Seg (model P w) A (RF1 P w outer H s a g E) (YF1 P w outer H s Q) 1 s2 c ((model P w).den c) [] s2
abbrev SpF := List V → Hp → (V → Hp → Prop) → XK → Prop
structure GFn1 (P : Program) (w : World) (K : PySem.W.Frag) (mg : Str → Option Value) (base : Heap) (k : Nat) (f : Addr) (fd : FuncData) (ps : List Str) (sp : SpF) : Prop where
  len : ∀ vs H Q E, sp vs H Q E → vs.length = ps.length
  run : ∀ (A : Around) (outer : List Env) (s : Shared) (H : Hp) (args : Args) (us : List Value) (vs : List V) (Q : V → Hp → Prop) (E : XK), Room k A → Env0 P w K mg base A outer s H → BindsTo s fd args (ps.zip us) → Vals vs us → sp vs H Q E →
    codeAny (model P w) A (.call (.ref f) args) (fun r s' => match r with | .ok (.ret u) => GMade1 P w k outer H s Q E u s' | _ => False) s
theorem gfn1_of {P : Program} {w : World} {K : PySem.W.Frag} {mg : Str → Option Value} {base : Heap} {k : Nat} {f : Addr} {x qual : Str} {st : Stmt} {fd : FuncData}
    {N ps : List Str} {sp : SpF} (F : Fun K x qual st f fd) (S : GScope N ps (defScope st))
    (len : ∀ vs H Q E, sp vs H Q E → vs.length = ps.length)
    (hbody : ∀ (cdv : Value) (A : Around) (outer : List Env) (s : Shared) (H : Hp) (vs : List V) (Q : V → Hp → Prop) (E : XK) (pn : List (Addr × Obj)), Room k (A.deeper (envOfC qual (defScope st) s.heap.objs.size f cdv)) → sp vs H Q E →
      ∃ t, F1 (gcxOf P w K mg base N qual (defScope st) f cdv A outer s H E pn) (defBody st) t ∧ t Q (start N vs) H) :
    GFn1 P w K mg base (k + 1) f fd ps sp := by
  obtain ⟨oc, od, kV, doc, pm, an, cdv, ct, osl, rfl, lk, hcd⟩ := F.ex
  refine ⟨len, fun A outer s H args us vs Q E hr e0 hb r hsp => ?_⟩
  have hl := len _ _ _ _ hsp
  have KX : K.In s.heap := e0.mod.kin.keeps fun b o e => (e0.bs b o e).1
  have lim : s.heap.NoLimit := e0.mod.nolimit.keeps fun b o e => (e0.bs b o e).1
  have hkind : ∀ y ∈ ps.zip us, (defScope st).names.lookup y.1 = some .local ∨ ((defScope st).names.lookup y.1 = some .cell ∧ ((cellsFrom (s.heap.objs.size + 1) (defScope st).names []).lookup y.1).isSome = true) := fun ⟨n, v⟩ hy => by
    rcases S.par n (List.of_mem_zip hy).1 with q | q
    · exact .inl q
    · exact .inr ⟨q, PySem.W.cellsFrom_some _ _ _ (.inl q)⟩
  refine codeAny_call_generator hr.depth (KX _ _ lk) rfl S.co S.gen rfl (PySem.W.codeRec_of KX hcd) (hb _ _ _ _ ?_)
  refine wpAny_newFunctionEnv_cells S.kind hkind fun env he s1 x => ?_
  subst he
  have lim1 : s1.heap.NoLimit := lim.keeps x.toInCall.keep
  refine ⟨lim1, ?_⟩
  obtain ⟨h1, tk, es1, hk1⟩ := x.done
  have os1 : s1.os = s.os := by rw [es1]
  have gen1 : s1.gens = s.gens := by rw [es1]
  have lt1 : s.heap.objs.size < s1.heap.objs.size := x.toInCall.ns.lt
  have sz1 : s.heap.objs.size ≤ s1.heap.objs.size := Nat.le_of_lt lt1
  have kp1 : ∀ b o, s.heap.get? b = some o → s1.heap.get? b = some o := x.toInCall.keep
  have main : ∀ (go : Obj) (nm qn : Value) (tk2 : Nat), go.cls = .type "generator" → go.data = .fields #[.int s1.gens.size 0, nm, qn] → go.slots = #[] → (∀ h : Heap, (h.push go).get? h.objs.size = some go) →
      GMade1 P w (k + 1) outer H s Q E (.ref s1.heap.objs.size) { s1 with gens := s1.gens.push (.fresh (.func (defBody st) (envOfC qual (defScope st) s.heap.objs.size f cdv))), toks := tk2, heap := s1.heap.push go } := by
    intro go nm qn tk2 hgc hgd0 hgs hgp
    have hgen : ∀ h : Heap, h.get? s1.heap.objs.size = some go → h.IsGen s1.heap.objs.size s1.gens.size := fun h e => ⟨go, nm, qn, e, hgc, hgd0, hgs⟩
    have hpushed : (s1.heap.push go).get? s1.heap.objs.size = some go := hgp _
    refine ⟨s1.heap.objs.size, s1.gens.size, _, rfl, sz1, hgen _ hpushed, Array.getElem?_push_size .., os1, ?_, lim1.keeps fun b o e => Heap.get?_push_of_some _ e, fun b o e => Heap.get?_push_of_some _ (kp1 b o e), ?_⟩
    · exact AllBare.push (by rw [gen1]; exact e0.bare) rfl
    intro Aw s2 hrw hfr hk2 hos hba
    have e0w : Env0 P w K mg base Aw outer s H := ⟨hfr, e0.mod, e0.bs, e0.bsz, e0.funs, e0.frf, e0.hok, e0.bare⟩
    obtain ⟨t, ht, hq⟩ := hbody cdv Aw outer s H vs Q E [(s1.heap.objs.size, go)] (hrw.deeper _) hsp
    have I1 : Inv (gcxOf P w K mg base N qual (defScope st) f cdv Aw outer s H E []) [] (start N vs) H s1 := inv_startG S hrw.hd e0w hl r x
    have kp2 : ∀ b o, s1.heap.get? b = some o → s2.heap.get? b = some o := fun b o e => hk2 b o (Heap.get?_push_of_some _ e)
    have I2 : Inv (gcxOf P w K mg base N qual (defScope st) f cdv Aw outer s H E []) [] (start N vs) H s2 :=
      I1.call' (ch := []) (hos.trans os1.symm) (Un.kept kp2) (I1.hok.kept kp2) hba fun b z => by simp at z
    have hea : s2.heap.get? s1.heap.objs.size = some go := hk2 s1.heap.objs.size go hpushed
    have hgd : ∀ v, go.data ≠ .cell v := fun v q => by rw [hgd0] at q; cases q
    have I3 : Inv (gcxOf P w K mg base N qual (defScope st) f cdv Aw outer s H E [(s1.heap.objs.size, go)]) [] (start N vs) H s2 := Inv.pinnedG I2 fun p hp => by
      rw [List.append_nil] at hp
      rw [List.mem_singleton.mp hp]
      exact ⟨hea, I1.hok.fresh (Nat.le_refl _), Nat.ne_of_gt lt1, I1.nofs (Nat.le_refl _), hgd⟩
    refine seg_func ?_
    refine ht.run Aw _ _ s2 _ [] _ _ id id [] s2 (start N vs) H Q over_func rfl rfl rfl ?_ ?_ I3 hq
    · intro xx v σ' H' s' kap rv I' hQ
      exact ⟨xx, H', rv, I'.os, I'.bare, I'.base, I'.hok, hQ⟩
    · intro e s' hx
      refine seg_wrap ?_
      rw [over_func]
      refine wpAny_mono (show wpAny (model P w) (Aw.deeper (envOfC qual (defScope st) s.heap.objs.size f cdv)) (leaving (envOfC qual (defScope st) s.heap.objs.size f cdv) e) (fun _ s'' => CX P w outer H s E e s'' ∧ ∀ p ∈ [(s1.heap.objs.size, go)], s''.heap.get? p.1 = some p.2) (fun _ _ => False) s' from hx) (fun _ s'' q => ?_) fun _ s'' q => q.elim
      exact seg_end (.error e) (.inr ⟨e, rfl, q.1, hgen _ (q.2 (s1.heap.objs.size, go) (List.mem_singleton.mpr rfl))⟩)
  exact main _ _ _ _ rfl rfl rfl fun h => Heap.get?_push_size _ rfl

/-! a for loop that stops behind the first item -/
/-- .. and the class ends no iterator -/
def EG (K : PySem.W.Frag) (E : XK) : XK := fun cls d H => E cls d H ∧ PySem.W.subIn K cls (.type "StopIteration") = some false
abbrev TGen1 := L2.St → Hp → (V → Hp → Prop) → Prop
structure PGen1 (X : Cx) (k : Nat) (e : Expr) (tg : TGen1) (E : L2.St → XK) : Prop where
  run : ∀ (pins : List (Addr × Obj)) (s : Shared) (σ : L2.St) (H : Hp) (cont : V → Hp → Prop), Inv X pins σ H s → tg σ H cont → wpAny (model X.prog X.w) X.A (eval e X.env)
    (fun u s' => ∃ H1 sc, Inv X pins σ H1 sc ∧ GMade1 X.prog X.w k X.stack H1 sc cont (EG X.K (E σ)) u s') X.xe s
section
variable {X : Cx} {k : Nat} {f : Addr} {fd : FuncData} {ps : List Str} {sp : SpF} {x : Str} {p pos pos' : Pos}
def tCallG1 (K : PySem.W.Frag) (sp : SpF) (E : L2.St → XK) (t : TA) : TGen1 := fun σ H cont => t σ H fun vs H1 => sp vs H1 cont (EG K (E σ))
theorem pgen1_call {E : L2.St → XK} {e : Expr} {es : List Expr} {t : TA} (F : GFn1 X.prog X.w X.K X.mg X.base k f fd ps sp) (hr : Room k X.A) (hg : Gl X x) (hm : X.mg x = some (.ref f)) (hk : PySem.W.keepIn X.K (.ref f) = true) (hb : Binds X.K fd ps [])
    (ha : PA X (e :: es) t) (hdb : (x == ("__debug__" : Str)) = false := by decide) (he : starEach (e :: es) X.env = (false, eval e X.env) :: starEach es X.env := by rfl) (hpl : (backTo pos' (starEach es X.env)).any (·.1) = false := by rfl) :
    PGen1 X k (.Call (.Name x p) (e :: es) [] pos') (tCallG1 X.K sp E t) E := by
  refine ⟨fun pins s σ H cont I h => ?_⟩
  refine wpAny_Call_Name_kw (ld_glob I hg hm ?_ hdb)
  refine PySem.W.callWith_K (h₀ := X.base) I.ok.mod.kin hk (thn (ha.run pos' pins s σ H _ I h) fun us s1 ⟨vs, H1, I1, r, q⟩ => ⟨I1.kIn, ?_⟩) he hpl
  have hl2 : us.length = ps.length := by rw [← r.length]; exact F.len _ _ _ _ q
  have hb2 := hb s1 us I1.kIn (by rw [List.append_nil]; exact hl2)
  rw [List.append_nil] at hb2
  refine wpAny_call (codeAny_mono (F.run X.A X.stack s1 H1 ⟨us, []⟩ us vs cont _ hr I1.env0 hb2 r q) fun r' s' hq => ?_)
  cases r' with
  | error e => exact False.elim hq
  | ok fl =>
    cases fl with
    | ret u => exact ⟨H1, s1, I1, hq⟩
    | next => exact False.elim hq
    | brk => exact False.elim hq
    | cont => exact False.elim hq
/-- for tg in g(..): break -/
def tForBreak (tg : TGen1) (g : TG) : TS := fun D σ H => tg σ H fun x H1 => g x σ H1 fun σ2 H2 => D.nx σ2 H2
theorem ps_forBreak {iter : Expr} {n : Str} {np bp : Pos} {tg : TGen1} {g : TG} {E : L2.St → XK} (hp : PassesOwn (model X.prog X.w) X.A X.env X.xe) (hc : X.calm = true) (h : PGen1 X k iter tg E) (hx : ∀ σ, PassesAt (CX X.prog X.w) X σ (E σ)) (hr : Room (k + 3) X.A) (hg : PG X (.Name n np) g)
    (hs : ∀ x, foldedSetIterable iter X.env x = pure x := by intro _; rfl) : PS X (.For (.Name n np) iter [.Break bp] [] pos) (tForBreak tg g) := by
  refine ⟨fun pins s σ H D I hq => ?_⟩
  refine wpAny_For (thn (h.run pins s σ H _ I hq) fun u s1 ⟨H1, sc, I1, hG⟩ => ?_) hs
  obtain ⟨a, g', c, rfl, ha1, hg1, hgs, hos, hb, hl, hkp, wake⟩ := hG
  refine wpAny_pyIter_gen hg1 ?_
  refine codeAny_forLoop_any (fun n s' => n = 0 ∧ s' = s1) ?_ 0 ⟨rfl, rfl⟩
  rintro m s3 ⟨rfl, rfl⟩
  have hgo : (GenState.fresh c).Goes (model X.prog X.w) X.A.in1 (RF1 X.prog X.w X.stack H1 sc a g' (EG X.K (E σ))) (YF1 X.prog X.w X.stack H1 sc fun x H1 => g x σ H1 fun σ2 H2 => D.nx σ2 H2) 1 (.send .none) (s3.setGen g' .running) := by
    refine ⟨rfl, wake X.A.in1 (s3.setGen g' .running) ⟨hr.hd, ?_, ?_⟩ I1.ok.frames (fun b o e => e) hos (allBare_setGen hb rfl)⟩
    · have := hr.dp
      show X.A.depth + 3 * k + 5 < _
      omega
    · have := hr.un
      show X.A.units + 1 + 16 * k + 200 < _
      omega
  refine wpAny_passesOwn hp ?_
  refine wpAny_mono (next_genG (A := X.A) (F := fun _ _ _ => False) (Er := fun e s₁ => CX X.prog X.w X.stack H1 sc (EG X.K (E σ)) e s₁ ∧ s₁.heap.IsGen a g') (Q := fun r s4 => ∃ v, r = some v ∧ ∃ x H', RelV x v ∧ Inv X pins σ H' s4 ∧ g x σ H' fun σ2 H2 => D.nx σ2 H2) (E := X.xe) (I1.ok.hd hc) hl (by have := hr.dp; omega) hg1 hgs hgo (fun v s₁ gs' hbare hv => ?_) (fun s₁ z => z.elim) fun e s₁ he => ?_) (fun r s4 h4 => ?_) fun _ _ z => z
  · obtain ⟨x, H', rv, os, bare, un, hok, q⟩ := hv
    refine ⟨v, rfl, x, H', rv, ?_, q⟩
    have J := I1.call' (ch := []) (s' := s₁.setGen g' gs') os un hok (allBare_setGen bare hbare) fun b z => by simp at z
    exact J
  · obtain ⟨hcx, hig⟩ := he
    have kin : X.K.In s₁.heap := by
      obtain ⟨a, B, H', cls, d, _, fl, _, ub, _⟩ := id hcx
      refine I1.ok.mod.kin.keeps fun b o eb => fl.1 b o (ub.keep b o (I1.bs b o eb).1 (I1.bs b o eb).2 fun hm => ?_)
      rcases List.mem_cons.mp (I1.stkSub b hm) with z | z
      · have h1 := Heap.lt_size eb
        have h2 := Nat.le_trans I1.ok.bsz I1.ok.above
        rw [z] at h1
        exact absurd (Nat.lt_of_lt_of_le h1 h2) (Nat.lt_irrefl _)
      · exact I1.ok.nofr eb z
    refine ⟨hig, notStop_of (fun cls d H' z => z.2) kin hcx, hx σ pins H1 sc e _ I1 ?_⟩
    obtain ⟨a, B, H', cls, d, z1, fl, z2, ub, z3, z4, z5, z6⟩ := hcx
    exact ⟨a, B, H', cls, d, z1, fl, z2, ub, z3, z4, allBare_setGen z5 rfl, z6.1⟩
  · obtain ⟨v, rfl, x, H', rv, I4, q⟩ := h4
    refine wpAny_passesOwn hp ?_
    unfold letOwnedTupleGo
    refine wpAny_pure ?_
    refine wpAny_passesOwn hp (thn (hg.run pins s4 σ H' x v _ I4 rv q) fun _ s6 ⟨σ6, H6, I6, q6⟩ => ?_)
    refine wpAny_passesOwn hp ?_
    exact wpAny_execs_cons (show wpAny (model X.prog X.w) X.A (exec (.Break bp) X.env) _ _ _ from wpAny_bind (wpAny_standAt (wpAny_pure ⟨σ6, H6, I6, q6⟩)))
end
end Tw

set_option Elab.async false
set_option linter.all false
set_option maxRecDepth 100000
set_option maxHeartbeats 4000000
namespace Tw
open PySem PySem.Spec PyProof.Rows L2 GenW
/-! the first turn of a generator, which may also end at once -/
abbrev TF2 := (V → Hp → Prop) → (Hp → Prop) → L2.St → Hp → Prop
structure F2 (X : Cx) (sts : List Stmt) (t : TF2) : Prop where
  run : ∀ (A : Around) (R : GenEnd) (Y : Protocol) (s₀ : Shared) (c : Code) (fs : List Frame) (K : Flow → Sem PySem.Fin) (J : Value → Sem PySem.Fin) (gd : Bool → Bool) (lv : List Value → List Value) (pins : List (Addr × Obj)) (s : Shared) (σ : L2.St) (H : Hp) (Q : V → Hp → Prop) (N : Hp → Prop),
    A.over c fs = X.A → splitAtGen fs = none → fs.any Frame.guarded = false → gd false = false →
    (∀ x v σ' H' s' kap, RelV x v → Inv X pins σ' H' s' → Q x H' → Y 0 s₀ v s' kap) →
    (∀ σ' H' s', Inv X pins σ' H' s' → N H' → Seg (model X.prog X.w) A R Y 1 s₀ c (K .next) fs s') →
    (∀ e s', X.xe e s' → Seg (model X.prog X.w) A R Y 1 s₀ c (J e) fs s') →
    Inv X pins σ H s → t Q N σ H → Seg (model X.prog X.w) A R Y 1 s₀ c ((execs sts X.env).wrap K J gd lv) fs s
section
variable {X : Cx} {st : Stmt} {rest : List Stmt}
def tF2Cons (t : TS) (u : TF2) : TF2 := fun Q N σ H => t { nx := fun σ' H' => u Q N σ' H', rt := fun _ _ => False } σ H
theorem f2_cons {t : TS} {u : TF2} (a : PS X st t) (b : F2 X rest u) : F2 X (st :: rest) (tF2Cons t u) := by
  refine ⟨fun A R Y s₀ c fs K J gd lv pins s σ H Q N ho hsp hg hgd hY hN hE I ht => ?_⟩
  refine seg_execs_cons (seg_wrap ?_)
  rw [ho]
  refine wpAny_mono (a.run pins s σ H _ I ht) (fun f s' hs => ?_) fun e s' he => hE e s' he
  cases f with
  | next =>
    obtain ⟨σ', H', I', q⟩ := hs
    exact b.run A R Y s₀ c fs K J gd lv pins s' σ' H' Q N ho hsp hg hgd hY hN hE I' q
  | brk => obtain ⟨_, _, _, q⟩ := hs; exact q.elim
  | cont => obtain ⟨_, _, _, q⟩ := hs; exact q.elim
  | ret u => obtain ⟨_, _, _, _, _, q⟩ := hs; exact False.elim q
def tF2Yield (te : TE) : TF2 := fun Q _ σ H => te σ H fun x H1 => Q x H1
theorem f2_yield {e : Expr} {yp pos : Pos} {te : TE} (he : PE X e te) (hco : X.env.scope.isCoroutine = false := by rfl) (hi : interactive X.env = false := by rfl) : F2 X (.Expr (.Yield (some e) yp) pos :: rest) (tF2Yield te) := by
  refine ⟨fun A R Y s₀ c fs K J gd lv pins s σ H Q N ho hsp hg hgd hY hN hE I ht => ?_⟩
  refine seg_execs_cons (seg_Expr_Yield hsp hgd hg ?_ hco hi)
  rw [ho]
  refine wpAny_mono (he.run pins s σ H _ I ht) (fun v s' hv => ?_) fun e s' hx => hE e s' hx
  obtain ⟨x, H1, I1, rv, q⟩ := hv
  intro kap _
  exact hY x v σ H1 s' kap rv I1 q
def tF2While (tc : TT) (tb : TF2) : TF2 := fun Q N σ H => tc σ H fun b H1 => if b = true then tb Q (fun _ => False) σ H1 else N H1
theorem f2_while {test : Expr} {body : List Stmt} {pos : Pos} {tc : TT} {tb : TF2} (hp : PassesOwn (model X.prog X.w) X.A X.env X.xe) (hc : PT X test tc) (hb : F2 X body tb) : F2 X [.While test body [] pos] (tF2While tc tb) := by
  refine ⟨fun A R Y s₀ c fs K J gd lv pins s σ H Q N ho hsp hg hgd hY hN hE I ht => ?_⟩
  refine seg_execs_cons (seg_While fun p => ?_)
  have ov : ∀ kk : Result → Sem PySem.Fin, A.over (.whileLoop test body [] X.env) (.ret kk none (gd false) (lv []) c p [] :: fs) = X.A := fun kk => (over_loop rfl rfl).trans ho
  have sp : ∀ kk : Result → Sem PySem.Fin, splitAtGen (.ret kk none (gd false) (lv []) c p [] :: fs) = none := fun kk => by
    show (splitAtGen fs).map _ = none
    rw [hsp]; rfl
  have gu : ∀ kk : Result → Sem PySem.Fin, (Frame.ret kk none (gd false) (lv []) c p [] :: fs).any Frame.guarded = false := fun kk => by
    show (gd false || fs.any Frame.guarded) = false
    rw [hgd, hg]; rfl
  have back : ∀ (K2 : Flow → Sem PySem.Fin) (e : Value) (s' : Shared), cameBackBy (model X.prog X.w) X.A X.env X.xe e s' → Seg (model X.prog X.w) A R Y 1 s₀ c (((Sem.raise e : Sem Flow).onRaise (cameBack X.env)).wrap K2 J gd lv) fs s' := fun K2 e s' hcb => by
    show Seg _ _ _ _ _ _ _ (((cameBack X.env e).bind fun _ => (Sem.raise e : Sem Flow)).wrap K2 J gd lv) _ _
    rw [Sem.bind_eq_wrap, Sem.wrap_wrap]
    refine seg_wrap ?_
    rw [ho]
    exact wpAny_mono hcb (fun _ s2 hx => hE e s2 hx) fun x s2 hx => hE x s2 hx
  have ee : ∀ (K2 : Flow → Sem PySem.Fin) (x : Value) (s' : Shared), X.xe x s' → Seg (model X.prog X.w) A R Y 1 s₀ (.whileLoop test body [] X.env)
      ((do noteFrame x X.env; theTreesLotGoes x : Sem Unit).wrap (fun _ => .raise x) .raise id id)
      (.ret (fun r => ((match r with | .ok f => (.pure f : Sem Flow) | .error e => .raise e).onRaise (cameBack X.env)).wrap K2 J gd lv) none (gd false) (lv []) c p [] :: fs) s' := fun K2 x s' hx => by
    refine seg_wrap ?_
    rw [ov _]
    refine wpAny_bind (wpAny_mono (hp x s' hx) (fun _ s2 hcb => wpAny_theTreesLotGoes ?_) fun y s2 hcb => ?_)
    · exact seg_leaf (.error x) (back K2 x s2 hcb)
    · exact seg_leaf (.error y) (back K2 y s2 hcb)
  refine seg_whileLoop ?_
  rw [ov _]
  refine wpAny_mono (hc.run pins s σ H _ I ht) (fun b s' hb' => ?_) fun x s' hx => ee _ x s' hx
  obtain ⟨H2, I2, q2⟩ := hb'
  cases b with
  | true =>
    rw [if_pos rfl]
    rw [if_pos rfl] at q2
    exact hb.run A R Y s₀ _ _ _ _ id id pins s' σ H2 Q (fun _ => False) (ov _) (sp _) (gu _) rfl hY (fun _ _ _ _ z => z.elim) (fun e s2 hx => ee _ e s2 hx) I2 q2
  | false =>
    rw [if_neg Bool.false_ne_true]
    rw [if_neg Bool.false_ne_true] at q2
    refine seg_execs_nil ?_
    exact seg_leaf (.ok .next) (show Seg (model X.prog X.w) A R Y 1 s₀ c ((execs [] X.env).wrap K J gd lv) fs s' from seg_execs_nil (hN σ H2 s' I2 q2))
end
def EF2 (P : Program) (w : World) (outer : List Env) (H : Hp) (s : Shared) (N : Hp → Prop) (s₁ : Shared) : Prop :=
  ∃ H', s₁.os = s.os ∧ AllBare s₁.gens ∧ Un (frs outer) [] H H' s.heap s₁.heap ∧ HOk P w H' s₁.heap ∧ N H'
def RF2 (P : Program) (w : World) (outer : List Env) (H : Hp) (s : Shared) (a : Addr) (g : Nat) (N : Hp → Prop) (E : XK) : GenEnd := fun _ _ r s₁ =>
  ((r = .ok (.ret .none) ∨ r = .ok .next) ∧ EF2 P w outer H s N s₁) ∨ ∃ e, r = .error e ∧ (CX P w outer H s E e s₁ ∧ s₁.heap.IsGen a g)
def GMade2 (P : Program) (w : World) (k : Nat) (outer : List Env) (H : Hp) (s : Shared) (Q : V → Hp → Prop) (N : Hp → Prop) (E : XK) (u : Value) (s' : Shared) : Prop :=
  ∃ (a : Addr) (g : Nat) (c : Code), u = .ref a ∧ s.heap.objs.size ≤ a ∧ s'.heap.IsGen a g ∧ s'.gens[g]? = some (.fresh c) ∧ s'.os = s.os ∧ AllBare s'.gens ∧ s'.heap.NoLimit ∧ (∀ b o, s.heap.get? b = some o → s'.heap.get? b = some o) ∧
    ∀ (A : Around) (s2 : Shared), Room k A → A.frames = some outer → (∀ b o, s'.heap.get? b = some o → s2.heap.get? b = some o) → s2.os = s.os → AllBare s2.gens →
      Seg (model P w) A (RF2 P w outer H s a g N E) (YF1 P w outer H s Q) 1 s2 c ((model P w).den c) [] s2
abbrev SpF2 := List V → Hp → (V → Hp → Prop) → (Hp → Prop) → XK → Prop
structure GFn2 (P : Program) (w : World) (K : PySem.W.Frag) (mg : Str → Option Value) (base : Heap) (k : Nat) (f : Addr) (fd : FuncData) (ps : List Str) (sp : SpF2) : Prop where
  len : ∀ vs H Q N E, sp vs H Q N E → vs.length = ps.length
  run : ∀ (A : Around) (outer : List Env) (s : Shared) (H : Hp) (args : Args) (us : List Value) (vs : List V) (Q : V → Hp → Prop) (N : Hp → Prop) (E : XK), Room k A → Env0 P w K mg base A outer s H → BindsTo s fd args (ps.zip us) → Vals vs us → sp vs H Q N E →
    codeAny (model P w) A (.call (.ref f) args) (fun r s' => match r with | .ok (.ret u) => GMade2 P w k outer H s Q N E u s' | _ => False) s
theorem gfn2_of {P : Program} {w : World} {K : PySem.W.Frag} {mg : Str → Option Value} {base : Heap} {k : Nat} {f : Addr} {x qual : Str} {st : Stmt} {fd : FuncData}
    {N0 ps : List Str} {sp : SpF2} (F : Fun K x qual st f fd) (S : GScope N0 ps (defScope st))
    (len : ∀ vs H Q N E, sp vs H Q N E → vs.length = ps.length)
    (hbody : ∀ (cdv : Value) (A : Around) (outer : List Env) (s : Shared) (H : Hp) (vs : List V) (Q : V → Hp → Prop) (N : Hp → Prop) (E : XK) (pn : List (Addr × Obj)), Room k (A.deeper (envOfC qual (defScope st) s.heap.objs.size f cdv)) → sp vs H Q N E →
      ∃ t, F2 (gcxOf P w K mg base N0 qual (defScope st) f cdv A outer s H E pn) (defBody st) t ∧ t Q N (start N0 vs) H) :
    GFn2 P w K mg base (k + 1) f fd ps sp := by
  obtain ⟨oc, od, kV, doc, pm, an, cdv, ct, osl, rfl, lk, hcd⟩ := F.ex
  refine ⟨len, fun A outer s H args us vs Q N E hr e0 hb r hsp => ?_⟩
  have hl := len _ _ _ _ _ hsp
  have KX : K.In s.heap := e0.mod.kin.keeps fun b o e => (e0.bs b o e).1
  have lim : s.heap.NoLimit := e0.mod.nolimit.keeps fun b o e => (e0.bs b o e).1
  have hkind : ∀ y ∈ ps.zip us, (defScope st).names.lookup y.1 = some .local ∨ ((defScope st).names.lookup y.1 = some .cell ∧ ((cellsFrom (s.heap.objs.size + 1) (defScope st).names []).lookup y.1).isSome = true) := fun ⟨n, v⟩ hy => by
    rcases S.par n (List.of_mem_zip hy).1 with q | q
    · exact .inl q
    · exact .inr ⟨q, PySem.W.cellsFrom_some _ _ _ (.inl q)⟩
  refine codeAny_call_generator hr.depth (KX _ _ lk) rfl S.co S.gen rfl (PySem.W.codeRec_of KX hcd) (hb _ _ _ _ ?_)
  refine wpAny_newFunctionEnv_cells S.kind hkind fun env he s1 x => ?_
  subst he
  have lim1 : s1.heap.NoLimit := lim.keeps x.toInCall.keep
  refine ⟨lim1, ?_⟩
  obtain ⟨h1, tk, es1, hk1⟩ := x.done
  have os1 : s1.os = s.os := by rw [es1]
  have gen1 : s1.gens = s.gens := by rw [es1]
  have lt1 : s.heap.objs.size < s1.heap.objs.size := x.toInCall.ns.lt
  have sz1 : s.heap.objs.size ≤ s1.heap.objs.size := Nat.le_of_lt lt1
  have kp1 : ∀ b o, s.heap.get? b = some o → s1.heap.get? b = some o := x.toInCall.keep
  have main : ∀ (go : Obj) (nm qn : Value) (tk2 : Nat), go.cls = .type "generator" → go.data = .fields #[.int s1.gens.size 0, nm, qn] → go.slots = #[] → (∀ h : Heap, (h.push go).get? h.objs.size = some go) →
      GMade2 P w (k + 1) outer H s Q N E (.ref s1.heap.objs.size) { s1 with gens := s1.gens.push (.fresh (.func (defBody st) (envOfC qual (defScope st) s.heap.objs.size f cdv))), toks := tk2, heap := s1.heap.push go } := by
    intro go nm qn tk2 hgc hgd0 hgs hgp
    have hgen : ∀ h : Heap, h.get? s1.heap.objs.size = some go → h.IsGen s1.heap.objs.size s1.gens.size := fun h e => ⟨go, nm, qn, e, hgc, hgd0, hgs⟩
    have hpushed : (s1.heap.push go).get? s1.heap.objs.size = some go := hgp _
    refine ⟨s1.heap.objs.size, s1.gens.size, _, rfl, sz1, hgen _ hpushed, Array.getElem?_push_size .., os1, ?_, lim1.keeps fun b o e => Heap.get?_push_of_some _ e, fun b o e => Heap.get?_push_of_some _ (kp1 b o e), ?_⟩
    · exact AllBare.push (by rw [gen1]; exact e0.bare) rfl
    intro Aw s2 hrw hfr hk2 hos hba
    have e0w : Env0 P w K mg base Aw outer s H := ⟨hfr, e0.mod, e0.bs, e0.bsz, e0.funs, e0.frf, e0.hok, e0.bare⟩
    obtain ⟨t, ht, hq⟩ := hbody cdv Aw outer s H vs Q N E [(s1.heap.objs.size, go)] (hrw.deeper _) hsp
    have I1 : Inv (gcxOf P w K mg base N0 qual (defScope st) f cdv Aw outer s H E []) [] (start N0 vs) H s1 := inv_startG S hrw.hd e0w hl r x
    have kp2 : ∀ b o, s1.heap.get? b = some o → s2.heap.get? b = some o := fun b o e => hk2 b o (Heap.get?_push_of_some _ e)
    have I2 : Inv (gcxOf P w K mg base N0 qual (defScope st) f cdv Aw outer s H E []) [] (start N0 vs) H s2 :=
      I1.call' (ch := []) (hos.trans os1.symm) (Un.kept kp2) (I1.hok.kept kp2) hba fun b z => by simp at z
    have hea : s2.heap.get? s1.heap.objs.size = some go := hk2 s1.heap.objs.size go hpushed
    have hgd : ∀ v, go.data ≠ .cell v := fun v q => by rw [hgd0] at q; cases q
    have I3 : Inv (gcxOf P w K mg base N0 qual (defScope st) f cdv Aw outer s H E [(s1.heap.objs.size, go)]) [] (start N0 vs) H s2 := Inv.pinnedG I2 fun p hp => by
      rw [List.append_nil] at hp
      rw [List.mem_singleton.mp hp]
      exact ⟨hea, I1.hok.fresh (Nat.le_refl _), Nat.ne_of_gt lt1, I1.nofs (Nat.le_refl _), hgd⟩
    refine seg_func ?_
    refine ht.run Aw _ _ s2 _ [] _ _ id id [] s2 (start N0 vs) H Q N over_func rfl rfl rfl ?_ ?_ ?_ I3 hq
    · intro xx v σ' H' s' kap rv I' hQ
      exact ⟨xx, H', rv, I'.os, I'.bare, I'.base, I'.hok, hQ⟩
    · intro σ' H' s' I' hN
      exact seg_end (.ok (.ret .none)) (.inl ⟨.inl rfl, H', I'.os, I'.bare, I'.base, I'.hok, hN⟩)
    · intro e s' hx
      refine seg_wrap ?_
      rw [over_func]
      refine wpAny_mono (show wpAny (model P w) (Aw.deeper (envOfC qual (defScope st) s.heap.objs.size f cdv)) (leaving (envOfC qual (defScope st) s.heap.objs.size f cdv) e) (fun _ s'' => CX P w outer H s E e s'' ∧ ∀ p ∈ [(s1.heap.objs.size, go)], s''.heap.get? p.1 = some p.2) (fun _ _ => False) s' from hx) (fun _ s'' q => ?_) fun _ s'' q => q.elim
      exact seg_end (.error e) (.inr ⟨e, rfl, q.1, hgen _ (q.2 (s1.heap.objs.size, go) (List.mem_singleton.mpr rfl))⟩)
  exact main _ _ _ _ rfl rfl rfl fun h => Heap.get?_push_size _ rfl
abbrev TGen2 := L2.St → Hp → (V → Hp → Prop) → (Hp → Prop) → Prop
structure PGen2 (X : Cx) (k : Nat) (e : Expr) (tg : TGen2) (E : L2.St → XK) : Prop where
  run : ∀ (pins : List (Addr × Obj)) (s : Shared) (σ : L2.St) (H : Hp) (cont : V → Hp → Prop) (N : Hp → Prop), Inv X pins σ H s → tg σ H cont N → wpAny (model X.prog X.w) X.A (eval e X.env)
    (fun u s' => ∃ H1 sc, Inv X pins σ H1 sc ∧ GMade2 X.prog X.w k X.stack H1 sc cont N (EG X.K (E σ)) u s') X.xe s
section
variable {X : Cx} {k : Nat} {f : Addr} {fd : FuncData} {ps : List Str} {sp : SpF2} {x : Str} {p pos pos' : Pos}
def tCallG2 (K : PySem.W.Frag) (sp : SpF2) (E : L2.St → XK) (t : TA) : TGen2 := fun σ H cont N => t σ H fun vs H1 => sp vs H1 cont N (EG K (E σ))
theorem pgen2_call {E : L2.St → XK} {e : Expr} {es : List Expr} {t : TA} (F : GFn2 X.prog X.w X.K X.mg X.base k f fd ps sp) (hr : Room k X.A) (hg : Gl X x) (hm : X.mg x = some (.ref f)) (hk : PySem.W.keepIn X.K (.ref f) = true) (hb : Binds X.K fd ps [])
    (ha : PA X (e :: es) t) (hdb : (x == ("__debug__" : Str)) = false := by decide) (he : starEach (e :: es) X.env = (false, eval e X.env) :: starEach es X.env := by rfl) (hpl : (backTo pos' (starEach es X.env)).any (·.1) = false := by rfl) :
    PGen2 X k (.Call (.Name x p) (e :: es) [] pos') (tCallG2 X.K sp E t) E := by
  refine ⟨fun pins s σ H cont N I h => ?_⟩
  refine wpAny_Call_Name_kw (ld_glob I hg hm ?_ hdb)
  refine PySem.W.callWith_K (h₀ := X.base) I.ok.mod.kin hk (thn (ha.run pos' pins s σ H _ I h) fun us s1 ⟨vs, H1, I1, r, q⟩ => ⟨I1.kIn, ?_⟩) he hpl
  have hl2 : us.length = ps.length := by rw [← r.length]; exact F.len _ _ _ _ _ q
  have hb2 := hb s1 us I1.kIn (by rw [List.append_nil]; exact hl2)
  rw [List.append_nil] at hb2
  refine wpAny_call (codeAny_mono (F.run X.A X.stack s1 H1 ⟨us, []⟩ us vs cont N _ hr I1.env0 hb2 r q) fun r' s' hq => ?_)
  cases r' with
  | error e => exact False.elim hq
  | ok fl =>
    cases fl with
    | ret u => exact ⟨H1, s1, I1, hq⟩
    | next => exact False.elim hq
    | brk => exact False.elim hq
    | cont => exact False.elim hq
/-- for tg in g(..): break, where g may yield nothing -/
def tForBreak2 (tg : TGen2) (g : TG) : TS := fun D σ H => tg σ H (fun x H1 => g x σ H1 fun σ2 H2 => D.nx σ2 H2) (fun H1 => D.nx σ H1)
theorem ps_forBreak2 {iter : Expr} {n : Str} {np bp : Pos} {tg : TGen2} {g : TG} {E : L2.St → XK} (hp : PassesOwn (model X.prog X.w) X.A X.env X.xe) (hc : X.calm = true) (h : PGen2 X k iter tg E) (hx : ∀ σ, PassesAt (CX X.prog X.w) X σ (E σ)) (hr : Room (k + 3) X.A) (hg : PG X (.Name n np) g)
    (hs : ∀ x, foldedSetIterable iter X.env x = pure x := by intro _; rfl) : PS X (.For (.Name n np) iter [.Break bp] [] pos) (tForBreak2 tg g) := by
  refine ⟨fun pins s σ H D I hq => ?_⟩
  refine wpAny_For (thn (h.run pins s σ H _ _ I hq) fun u s1 ⟨H1, sc, I1, hG⟩ => ?_) hs
  obtain ⟨a, g', c, rfl, ha1, hg1, hgs, hos, hb, hl, hkp, wake⟩ := hG
  refine wpAny_pyIter_gen hg1 ?_
  refine codeAny_forLoop_any (fun n s' => n = 0 ∧ s' = s1) ?_ 0 ⟨rfl, rfl⟩
  rintro m s3 ⟨rfl, rfl⟩
  have hgo : (GenState.fresh c).Goes (model X.prog X.w) X.A.in1 (RF2 X.prog X.w X.stack H1 sc a g' (fun H1 => D.nx σ H1) (EG X.K (E σ))) (YF1 X.prog X.w X.stack H1 sc fun x H1 => g x σ H1 fun σ2 H2 => D.nx σ2 H2) 1 (.send .none) (s3.setGen g' .running) := by
    refine ⟨rfl, wake X.A.in1 (s3.setGen g' .running) ⟨hr.hd, ?_, ?_⟩ I1.ok.frames (fun b o e => e) hos (allBare_setGen hb rfl)⟩
    · have := hr.dp
      show X.A.depth + 3 * k + 5 < _
      omega
    · have := hr.un
      show X.A.units + 1 + 16 * k + 200 < _
      omega
  refine wpAny_passesOwn hp ?_
  refine wpAny_mono (next_genG (A := X.A) (F := fun _ _ s₁ => EF2 X.prog X.w X.stack H1 sc (fun H1 => D.nx σ H1) s₁) (Er := fun e s₁ => CX X.prog X.w X.stack H1 sc (EG X.K (E σ)) e s₁ ∧ s₁.heap.IsGen a g')
    (Q := fun r s4 => match r with | some v => ∃ x H', RelV x v ∧ Inv X pins σ H' s4 ∧ g x σ H' fun σ2 H2 => D.nx σ2 H2 | none => ∃ H', Inv X pins σ H' s4 ∧ D.nx σ H') (E := X.xe) (I1.ok.hd hc) hl (by have := hr.dp; omega) hg1 hgs hgo (fun v s₁ gs' hbare hv => ?_) (fun s₁ z h' hk => ?_) fun e s₁ he => ?_) (fun r s4 h4 => ?_) fun _ _ z => z
  · obtain ⟨x, H', rv, os, bare, un, hok, q⟩ := hv
    refine ⟨x, H', rv, ?_, q⟩
    have J := I1.call' (ch := []) (s' := s₁.setGen g' gs') os un hok (allBare_setGen bare hbare) fun b z => by simp at z
    exact J
  · obtain ⟨H', os, bare, un, hok, q⟩ := z
    have J := I1.call' (ch := []) (s' := s₁.setGen g' .finished) os un hok (allBare_setGen bare rfl) fun b z => by simp at z
    exact ⟨H', J.kept (t' := s₁.toks) hk, q⟩
  · obtain ⟨hcx, hig⟩ := he
    have kin : X.K.In s₁.heap := by
      obtain ⟨a, B, H', cls, d, _, fl, _, ub, _⟩ := id hcx
      refine I1.ok.mod.kin.keeps fun b o eb => fl.1 b o (ub.keep b o (I1.bs b o eb).1 (I1.bs b o eb).2 fun hm => ?_)
      rcases List.mem_cons.mp (I1.stkSub b hm) with z | z
      · have h1 := Heap.lt_size eb
        have h2 := Nat.le_trans I1.ok.bsz I1.ok.above
        rw [z] at h1
        exact absurd (Nat.lt_of_lt_of_le h1 h2) (Nat.lt_irrefl _)
      · exact I1.ok.nofr eb z
    refine ⟨hig, notStop_of (fun cls d H' z => z.2) kin hcx, hx σ pins H1 sc e _ I1 ?_⟩
    obtain ⟨a, B, H', cls, d, z1, fl, z2, ub, z3, z4, z5, z6⟩ := hcx
    exact ⟨a, B, H', cls, d, z1, fl, z2, ub, z3, z4, allBare_setGen z5 rfl, z6.1⟩
  · cases r with
    | some v =>
      obtain ⟨x, H', rv, I4, q⟩ := h4
      refine wpAny_passesOwn hp ?_
      unfold letOwnedTupleGo
      refine wpAny_pure ?_
      refine wpAny_passesOwn hp (thn (hg.run pins s4 σ H' x v _ I4 rv q) fun _ s6 ⟨σ6, H6, I6, q6⟩ => ?_)
      refine wpAny_passesOwn hp ?_
      exact wpAny_execs_cons (show wpAny (model X.prog X.w) X.A (exec (.Break bp) X.env) _ _ _ from wpAny_bind (wpAny_standAt (wpAny_pure ⟨σ6, H6, I6, q6⟩)))
    | none =>
      obtain ⟨H', I4, q⟩ := h4
      exact wpAny_execs_nil ⟨σ, H', I4, q⟩
end
end Tw

set_option Elab.async false
set_option linter.all false
set_option maxRecDepth 100000
set_option maxHeartbeats 4000000
namespace Tw
open PySem PySem.Spec PyProof.Rows L2
section
variable {prog : Program} {w : World} {A : Around} {E : Value → Shared → Prop} {s : Shared}
theorem ent_heappop : entryFor table "_heapq.heappop" = some Builtin.«_heapq.heappop» := entryFor_of_tree (by kernel_rfl)
theorem sub_ll : isSubtype (.type "list") (.type "list") = pure true := by first | rfl | kernel_rfl | (unfold isSubtype; rfl)
theorem heappop_one {l : Addr} {o : Obj} {u : Value} {n : Nat} {Q : Value → Shared → Prop} (ho : s.heap.get? l = some o) (hc : o.cls = .type "list") (hd : o.data = .seq #[u] n) (h : Q u { s with heap := s.heap.update l (Obj.mapSeq (·.pop)) }) :
    wpAny (model prog w) A (call (.builtin "_heapq.heappop") [.ref l]) Q E s := by
  refine Calls.call_function_entry (by decide +kernel) (by decide +kernel) ent_heappop (by unfold argsOk; kernel_rfl) ?_
  refine wpAny_bind ?_
  refine wpAny_bind ?_
  refine wpAny_of_eq (a := Value.ref l) rfl ?_
  refine wpAny_bind ?_
  refine wpAny_bind (wpAny_isInstance (T := "list") (b := true) ⟨o, ho, hc⟩ sub_ll ?_)
  refine wpAny_pure ?_
  refine wpAny_pure ?_
  refine wpAny_bind ?_
  refine wpAny_bind (wpAny_seqItems ho hd ?_)
  refine wpAny_pure ?_
  refine wpAny_bind (wpAny_updateSeq ho hd ?_ (by show 1 ≤ sizeLine; rw [sizeLine_eq]; decide) (by show 0 ≤ _; omega))
  exact wpAny_pure ⟨u, rfl, h⟩
theorem ns_gone {K : PySem.W.Frag} {h : Heap} {ns : Addr} {m : Str → Option Value} {n : Str} (X : K.In h) (G : h.Ns ns m) (e : PySem.W.nsIn K ns n = some none) : m n = none := by
  rcases G with ⟨ob, ens, epp, hob, hdat, -, hfin⟩
  cases q : K.lookup ns with
  | none =>
    simp only [PySem.W.nsIn, q] at e
    cases e
  | some o2 =>
    have h2 := (X _ _ q).symm.trans hob
    cases h2
    obtain ⟨c, d, dat, sl⟩ := ob
    obtain rfl : dat = _ := hdat
    simp only [PySem.W.nsIn, q] at e
    rw [← hfin n]
    cases f : ens.toList.find? (·.key.isStr n) with
    | some y => rw [f] at e; cases e
    | none =>
      unfold nsFind findBy
      rw [← Array.find?_toList, f]
      rfl
/-- what the statics say of the digits of a text -/
def DigOk (s : Shared) : Prop := ∃ mc, s.heap.Ns cStatics mc ∧ mc "sys.int_max_str_digits" = none
theorem int_repr_wide (a : Int) (t : Tok) (hs : a.natAbs.log2 < 12000) : GivesAt DigOk (Builtin.«int.__repr__» ⟨[.int a t], []⟩) (.str (toString a)) := by
  intro prog w A R s ⟨mc, hn, hm⟩ hq
  have fin := (Gives.tree (.str (Str.ofString (toString a)))) prog w A R s hq
  unfold Builtin.«int.__repr__»
  refine wpAny_bind (wpAny_of_eq (a := (Value.int a t, a)) rfl ?_)
  refine wpAny_bind ?_
  by_cases hb : a.natAbs.log2 < 1920
  · unfold Builtin.overDigitLimit?
    rw [if_pos hb]
    exact wpAny_pure fin
  · unfold Builtin.overDigitLimit?
    rw [if_neg hb]
    unfold Builtin.intMaxStrDigits
    refine wpAny_bind (wpAny_bind (wpAny_nsGet hn ?_))
    rw [hm]
    refine wpAny_pure ?_
    have h1 : ¬ (a.natAbs.log2 / 30 + 1 > 1000) := by omega
    have h2 : ((4300 : Nat) == 0 || decide (a.natAbs.log2 < 3 * 4300)) = true := by
      rw [decide_eq_true (by omega), Bool.or_true]
    show wpAny _ _ (if a.natAbs.log2 / 30 + 1 > 1000 then _ else _) _ _ _
    rw [if_neg h1]
    show wpAny _ _ (if ((4300 : Nat) == 0 || decide (a.natAbs.log2 < 3 * 4300)) = true then _ else _) _ _ _
    rw [if_pos h2]
    exact wpAny_pure fin
theorem int_text_wide {a : Int} (h : a.natAbs.log2 < 12000) : (Str.ofString (toString a)).length ≤ sizeLine := by
  have e := int_text_length_le (k := 12000) (by decide) h
  rw [PySem.ofString_length, sizeLine_eq]; omega
theorem repr_wide {a : Int} {t : Tok} {Q : Value → Shared → Prop} (ha : a.natAbs.log2 < 12000) (hd : DigOk s) (h : Q (.str (toString a) s.toks) { s with toks := s.toks + 1 }) : wpAny (model prog w) A (call (.builtin "repr") [.int a t]) Q E s := by
  refine Calls.call_function_entry F.kind_repr F.plain_repr F.entry_repr (F.args_repr1 (.int a t)) ?_
  have hv : [Value.int a t].any Value.onHeap = false := rfl
  unfold Builtin.«repr»
  refine wpAny_bind (m := oneArg "repr" _) (wpAny_pure ?_)
  simp only [cRoomFor, hv, Bool.false_eq_true, if_false, pure_bind]
  refine wpAny_bind (wpAny_specialOf (name := Str.ofString "__repr__") (typeIs_int s a t) F.slot_int_repr.lookup ?_)
  refine wpAny_bind (m := callSpecialIfBound? (.int a t) (Str.ofString "__repr__")) (wpAny_callSpecialIfBound?_slot (name := Str.ofString "__repr__") (typeIs_int s a t) F.slot_int_repr
    (call_givesAt F.slot_int_repr (typeIs_int s a t) F.entry_int_repr (F.args_int_repr_1 _) (int_repr_wide a t ha) hd ⟨int_text_wide ha, ?_⟩))
  exact wpAny_bind (wpAny_isInstance (T := "str") (b := true) rfl isSubtype_str_str (wpAny_pure ⟨_, rfl, h⟩))
end
section
variable {X : Cx}
theorem digOk_of {pins : List (Addr × Obj)} {σ : L2.St} {H : Hp} {s : Shared} (I : Inv X pins σ H s) (h : PySem.W.nsIn X.K cStatics "sys.int_max_str_digits" = some none) : DigOk s := by
  obtain ⟨mc, hn, _⟩ := I.nolimit
  exact ⟨mc, hn, ns_gone I.kIn hn h⟩
theorem call_reprW (h : PySem.W.nsIn X.K cStatics "sys.int_max_str_digits" = some none) : CallR X (.builtin "repr") (fun xs H Q => ∃ i, xs = [.int i] ∧ i.natAbs.log2 < 12000 ∧ Q (.str (toString i)) H) := by
  intro pins s σ H xs us Q I r ⟨i, e, hz, q⟩
  subst e
  obtain ⟨u, rfl, t, rfl⟩ := vals1 r
  exact repr_wide hz (digOk_of I h) ⟨.str _, H, I.tok _, ⟨_, rfl⟩, q⟩
theorem call_heappop1 : CallR X (.builtin "_heapq.heappop") (fun xs H Q => ∃ l y, xs = [.ref l] ∧ H l = some (.lst [y]) ∧ Q y (upd H l (.lst []))) := by
  intro pins s σ H xs us Q I r ⟨l, y, e, hl, q⟩
  subst e
  obtain ⟨u, rfl, ru⟩ := vals1 r
  obtain rfl : u = Value.ref l := ru
  obtain ⟨z, its, n, rr, hle, e⟩ := I.lstM hl
  obtain ⟨u, rfl, ru⟩ := vals1 rr
  refine heappop_one e rfl rfl ⟨y, _, I.lset (its' := []) hl e ?_ .nil ?_, ru, q⟩
  · rfl
  · exact Nat.zero_le _
/-! the caught error inside of its suite -/
theorem inst_pin {a d C : Addr} {oe : Obj} {pins : List (Addr × Obj)} {σ : L2.St} {H : Hp} {s : Shared} (I : Inv X pins σ H s) (hm : (a, oe) ∈ X.pn) (hz : Zc (.ref C) (some d) oe) (hf : ∃ vs, oe.data = .fields vs) (hd : ∃ v, H d = some (xval v)) :
    ∃ oe od, PySem.W.InstAt s.heap a oe C (some od) ∧ s.heap.get? d = some od := by
  obtain ⟨hget, _⟩ := I.pin (a, oe) (List.mem_append_left _ hm)
  obtain ⟨vs, h3⟩ := hf
  obtain ⟨h1, h2⟩ := hz
  obtain ⟨v, hv⟩ := hd
  have x : ObjOk X.prog X.w H s.heap d (.xd [(("value" : Str), v)]) := I.hok d _ hv
  obtain ⟨mA, hns, _⟩ := x
  obtain ⟨od, ho, hl⟩ := lookIn_ns hns
  exact ⟨oe, od, ⟨hget, h1, by unfold PySem.W.notCls; rw [h3] <;> rfl, by rw [h2]; exact ho⟩, ho⟩
theorem call_isP {a : Addr} {oe : Obj} {cls : Value} {dd : Option Addr} (hm : (a, oe) ∈ X.pn) (hz : Zc cls dd oe) (hf : ∃ vs, oe.data = .fields vs) :
    CallR X (.builtin "isinstance") (fun xs H Q => ∃ (C d fI : Addr) (c : V) (u : Value) (b : Bool), cls = .ref C ∧ dd = some d ∧ xs = [.ref a, c] ∧ (∃ v, H d = some (xval v)) ∧ TwX.ETxt X.K C fI ∧ ClsV c u ∧ PySem.W.kitOne X.K (.ref C) u = some b ∧ Q (.bl b) H) := by
  intro pins s σ H xs us Q I r h
  obtain ⟨C, d, fI, c, u, b, rfl, rfl, rfl, hd, T, k, e, q⟩ := h
  obtain ⟨u1, u2, rfl, r1, r2⟩ := vals2 r
  obtain rfl : u1 = Value.ref a := r1
  have e2 := k.eq r2
  subst e2
  obtain ⟨oe, od, J, _⟩ := inst_pin I hm hz hf hd
  exact PySem.W.kia_one (PySem.W.twx_kit T) I.kIn ⟨oe, some od, J⟩ e (fun z => nomatch z) fun tk => ⟨.bl b, H, I.tok tk, rfl, q⟩
theorem call_isTP {a : Addr} {oe : Obj} {cls : Value} {dd : Option Addr} (hm : (a, oe) ∈ X.pn) (hz : Zc cls dd oe) (hf : ∃ vs, oe.data = .fields vs) :
    CallR X (.builtin "isinstance") (fun xs H Q => ∃ (C d fI tp : Addr) (cs : List V) (us : List Value) (b : Bool), cls = .ref C ∧ dd = some d ∧ xs = [.ref a, .ref tp] ∧ (∃ v, H d = some (xval v)) ∧ TwX.ETxt X.K C fI ∧ H tp = some (.tup cs) ∧ Paired ClsV cs us ∧ PySem.W.kitAny X.K (.ref C) us = some b ∧ Q (.bl b) H) := by
  intro pins s σ H xs us Q I r h
  obtain ⟨C, d, fI, tp, cs, ws, b, rfl, rfl, rfl, hd, T, hT, k, e, q⟩ := h
  obtain ⟨u1, u2, rfl, r1, r2⟩ := vals2 r
  obtain rfl : u1 = Value.ref a := r1
  cases (show u2 = Value.ref tp from r2)
  obtain ⟨oe, od, J, _⟩ := inst_pin I hm hz hf hd
  obtain ⟨_, its, rv, o, h1, h2, n, h3⟩ := (show ObjOk X.prog X.w H s.heap tp (.tup cs) from I.hok tp _ hT)
  have e3 := ClsV.all k rv
  subst e3
  obtain ⟨oc, od', dt, sl⟩ := o
  simp only at h2 h3
  subst h2 h3
  exact PySem.W.kia_tup (PySem.W.twx_kit T) I.kIn ⟨oe, some od, J⟩ h1 e (fun z => nomatch z) fun tk => ⟨.bl b, H, I.tok tk, rfl, q⟩
def tValP (K : PySem.W.Frag) (a : Addr) (cls : Value) (dd : Option Addr) (te : TE) : TE := fun σ H Q => te σ H fun x H1 => ∃ (C d fI : Addr) (v : V), cls = .ref C ∧ dd = some d ∧ x = .ref a ∧ TwX.ETxt K C fI ∧ H1 d = some (xval v) ∧ Q v H1
theorem pe_valP {a : Addr} {oe : Obj} {cls : Value} {dd : Option Addr} {e : Expr} {te : TE} {pos : Pos} (hm : (a, oe) ∈ X.pn) (hz : Zc cls dd oe) (hf : ∃ vs, oe.data = .fields vs) (he : PE X e te) (hb : attributeBase e "value" X.env (eval e X.env) = eval e X.env := by rfl) :
    PE X (.Attribute e "value" pos) (tValP X.K a cls dd te) := by
  refine ⟨fun pins s σ H Q I h => attr_of hb (thn (he.run pins s σ H _ I h) fun u s1 hh => ?_)⟩
  obtain ⟨x, H1, I1, rx, C, d, fI, v, rfl, rfl, rfl, T, hv, q⟩ := hh
  obtain rfl : u = Value.ref a := rx
  obtain ⟨hget, _⟩ := I1.pin (a, oe) (List.mem_append_left _ hm)
  obtain ⟨vs, h3⟩ := hf
  obtain ⟨h1, h2⟩ := hz
  have hx : ObjOk X.prog X.w H1 s1.heap d (.xd [(("value" : Str), v)]) := I1.hok d _ hv
  obtain ⟨mA, hns, hr⟩ := hx
  obtain ⟨od, ho, hl⟩ := lookIn_ns hns
  have l : List.lookup ("value" : Str) [(("value" : Str), v)] = some v := by simp [List.lookup]
  obtain ⟨u, hu, ru⟩ := RelO.some_of (v := v) (o := mA "value") (by rw [← l]; exact hr "value")
  have J : PySem.W.InstAt s1.heap a oe C (some od) := ⟨hget, h1, by unfold PySem.W.notCls; rw [h3] <;> rfl, by rw [h2]; exact ho⟩
  exact HandSPX.exc_get I1.kIn J T.ga T.gg T.exC (PySem.W.findObj_own T.hdC T.noN rfl (by rw [hl, hu])) (handed_of ru) ⟨v, H1, I1.tok _, ru, q⟩
end
end Tw

set_option Elab.async false
set_option linter.all false
set_option maxRecDepth 100000
set_option maxHeartbeats 2000000
namespace Tw
open PySem PySem.Spec PyProof.Rows L2
def spPipeL : Sp := fun vs H Q _ => ∃ (r : Addr) (n : Nat) (d s c : Int), vs = [.ref r, .int (n : Nat)] ∧ n ≤ 12 ∧ H r = some (rngO d s c) ∧ RngOk d s c ∧ c + 60 < 4294967296 ∧
  ∀ H' d' c' l, SameB r H H' → H' r = some (rngO d' s c') → RngOk d' s c' → c' ≤ c + 50 → Pipe l → l.length ≤ n → Q (.str (mk l)) H'
theorem style_at {v : Int} (h0 : 0 ≤ v) (h1 : v < 4) : ∃ z : List Nat, atI [V.str "TS", V.str "TTTS", V.str "SSST", V.str "TS"] v = some (V.str (mk z)) ∧ atI [V.int 2, V.int 4, V.int 4, V.int 2] v = some (V.int (z.length : Nat)) ∧ Pipe z ∧ 1 ≤ z.length ∧ z.length ≤ 4 := by
  have e0 : V.str "TS" = V.str (mk [84, 83]) := by decide +kernel
  have e1 : V.str "TTTS" = V.str (mk [84, 84, 84, 83]) := by decide +kernel
  have e2 : V.str "SSST" = V.str (mk [83, 83, 83, 84]) := by decide +kernel
  obtain ⟨j, rfl⟩ := Int.eq_ofNat_of_zero_le h0
  have hj : j = 0 ∨ j = 1 ∨ j = 2 ∨ j = 3 := by omega
  have pp : ∀ z : List Nat, (∀ c ∈ z, c = 84 ∨ c = 83) → Pipe z := fun z h => h
  rw [e0, e1, e2]
  rcases hj with rfl | rfl | rfl | rfl
  · exact ⟨[84, 83], atI_nat rfl, atI_nat rfl, pp _ (by decide), by decide, by decide⟩
  · exact ⟨[84, 84, 84, 83], atI_nat rfl, atI_nat rfl, pp _ (by decide), by decide, by decide⟩
  · exact ⟨[83, 83, 83, 84], atI_nat rfl, atI_nat rfl, pp _ (by decide), by decide, by decide⟩
  · exact ⟨[84, 83], atI_nat rfl, atI_nat rfl, pp _ (by decide), by decide, by decide⟩
/-- the first sign that isn't good -/
def bad (g : Nat → Bool) (l : List Nat) : Option Nat := l.findIdx? fun c => !g c
def badV : Option Nat → V
  | none => .non
  | some i => .int (i : Nat)
/-- the signs that aren't good stand at ss -/
def SpotsOf (g : Nat → Bool) (f : List Nat) (ss : List Int) : Prop := (∀ x ∈ ss, ∃ j : Nat, x = (j : Nat) ∧ j < f.length) ∧ ∀ j c, f[j]? = some c → (g c = false ↔ ((j : Nat) : Int) ∈ ss)
theorem spots_nil {g : Nat → Bool} {f : List Nat} (h : ∀ c ∈ f, g c = true) : SpotsOf g f [] :=
  ⟨fun x hx => (by cases hx), fun j c e => ⟨fun z => (by rw [h c (List.mem_of_getElem? e)] at z; cases z), fun z => (by cases z)⟩⟩
theorem spots_more {g : Nat → Bool} {f : List Nat} {ss : List Int} {j : Nat} {o : Nat} (h : SpotsOf g f ss) (hj : j < f.length) (ho : g o = false) : SpotsOf g ((f.take j ++ [o]) ++ f.drop (j + 1)) (ss ++ [((j : Nat) : Int)]) := by
  have e : (f.take j ++ [o]) ++ f.drop (j + 1) = f.set j o := by
    rw [List.set_eq_take_append_cons_drop, if_pos hj, List.append_assoc]
    rfl
  rw [e]
  refine ⟨fun x hx => ?_, fun i c hi => ?_⟩
  · rw [List.length_set]
    rcases List.mem_append.mp hx with hx | hx
    · exact h.1 x hx
    · exact ⟨j, List.mem_singleton.mp hx, hj⟩
  · by_cases hij : j = i
    · subst hij
      rw [List.getElem?_set_self hj] at hi
      cases hi
      exact ⟨fun _ => List.mem_append_right _ (List.mem_singleton.mpr rfl), fun _ => ho⟩
    · rw [List.getElem?_set_ne hij] at hi
      rw [h.2 i c hi]
      refine ⟨fun z => List.mem_append_left _ z, fun z => ?_⟩
      rcases List.mem_append.mp z with z | z
      · exact z
      · have := List.mem_singleton.mp z
        omega
theorem spots_none {g : Nat → Bool} {f : List Nat} (h : SpotsOf g f []) : bad g f = none := by
  unfold bad
  rw [List.findIdx?_eq_none_iff]
  intro c hc
  obtain ⟨j, hj⟩ := List.getElem?_of_mem hc
  cases e : g c with
  | true => rfl
  | false => exact absurd ((h.2 j c hj).mp e) (by simp)
theorem spots_min {g : Nat → Bool} {f : List Nat} {ss : List Int} {m : Int} (h : SpotsOf g f ss) (hm : m ∈ ss) (hle : ∀ y ∈ ss, m ≤ y) : ∃ i : Nat, m = (i : Nat) ∧ bad g f = some i := by
  obtain ⟨i, rfl, hi⟩ := h.1 m hm
  refine ⟨i, rfl, ?_⟩
  unfold bad
  rw [List.findIdx?_eq_some_iff_getElem]
  refine ⟨hi, ?_, fun j hj => ?_⟩
  · have := (h.2 i _ (List.getElem?_eq_getElem hi)).mpr hm
    rw [this]; rfl
  · have hjl : j < f.length := by omega
    cases e : g f[j] with
    | true => simp [e]
    | false =>
      have := hle _ ((h.2 j _ (List.getElem?_eq_getElem hjl)).mp e)
      omega
def spSpoilt : Sp := fun vs H Q _ => ∃ (r : Addr) (l od : List Nat) (g : Nat → Bool) (d s c : Int), vs = [.ref r, .str (mk l), .str (mk od)] ∧ (∀ x ∈ l, g x = true) ∧ (∀ x ∈ od, g x = false) ∧ (0 < od.length ∧ od.length ≤ 100) ∧ l.length ≤ 200 ∧ H r = some (rngO d s c) ∧ RngOk d s c ∧ c + 20 < 4294967296 ∧
  ∀ H' d' c' p l', SameB r H H' → H' r = some (rngO d' s c') → RngOk d' s c' → c' ≤ c + 10 → l'.length = l.length → H p = none → p ≠ r → H' p = some (.lst [V.str (mk l'), badV (bad g l')]) → Q (.ref p) H'
end Tw
namespace Tw
open PySem PySem.Spec PyProof.Rows L2
theorem dps_ints {K : PySem.W.Frag} {H : Hp} : ∀ ns : List Int, DpAll K H (ns.map V.int) (ns.map PyData.int)
  | [] => .nil
  | n :: ns => .cons (.int n) (dps_ints ns)
theorem shaped_ints : ∀ ns : List Int, SeqAt.shaped (.list (ns.map PyData.int)) = true := by
  intro ns
  unfold SeqAt.shaped
  induction ns with
  | nil => rfl
  | cons n ns ih => first | exact ih | (rw [List.map_cons]; unfold SeqAt.shapedAll; rw [ih]; rfl) | skip
theorem eqv_nil (ds : List PyData) : PyData.eqv (.list ds) (.list []) = ds.isEmpty := by cases ds <;> rfl
end Tw

set_option Elab.async false
set_option linter.all false
set_option maxRecDepth 100000
set_option maxHeartbeats 2000000
namespace Tw
open PySem PySem.Spec PyProof.Rows L2
def okL (c : Nat) : Bool := decide (97 ≤ c) && decide (c ≤ 122)
def okP (c : Nat) : Bool := c == 84 || c == 83
/-- an error of the class at C with the value v leaves -/
def RzV (C : Addr) (v : V) (H : Hp) (E : XK) : Prop := ∀ H' d, Same H H' → H d = none → H' d = some (xval v) → E (.ref C) (some d) H'
abbrev Rz (C : Addr) (i : Nat) (H : Hp) (E : XK) : Prop := RzV C (.int (i : Nat)) H E
theorem RzV.mono {C : Addr} {v : V} {H H1 : Hp} {E : XK} (h : RzV C v H E) (s : Same H H1) : RzV C v H1 E := fun H' d s1 hd e => h H' d (s.trans s1) (s.free hd) e
theorem bad_none {g : Nat → Bool} {l : List Nat} : bad g l = none ↔ ∀ c ∈ l, g c = true := by
  unfold bad
  rw [List.findIdx?_eq_none_iff]
  exact ⟨fun h c hc => by have := h c hc; simpa using this, fun h c hc => by rw [h c hc]; rfl⟩
theorem bad_some {g : Nat → Bool} {l : List Nat} {i c : Nat} (hi : l[i]? = some c) (hc : g c = false) (hb : ∀ j c, j < i → l[j]? = some c → g c = true) : bad g l = some i := by
  unfold bad
  obtain ⟨hl, rfl⟩ := List.getElem?_eq_some_iff.mp hi
  rw [List.findIdx?_eq_some_iff_getElem]
  refine ⟨hl, by rw [hc]; rfl, fun j hj => ?_⟩
  have := hb j _ hj (List.getElem?_eq_getElem (by omega))
  simp [this]
theorem low_of {l : List Nat} (h : bad okL l = none) : Low l := fun c hc => by
  have := bad_none.mp h c hc
  unfold okL at this
  rw [Bool.and_eq_true] at this
  exact ⟨of_decide_eq_true this.1, of_decide_eq_true this.2⟩
theorem okL_of {l : List Nat} (h : Low l) : ∀ c ∈ l, okL c = true := fun c hc => by
  unfold okL
  rw [decide_eq_true (h c hc).1, decide_eq_true (h c hc).2]
  rfl
theorem pipe_of {l : List Nat} (h : bad okP l = none) : Pipe l := fun c hc => by
  have := bad_none.mp h c hc
  unfold okP at this
  rw [Bool.or_eq_true] at this
  exact this.imp (fun z => by simpa using z) fun z => by simpa using z
theorem okP_of {l : List Nat} (h : Pipe l) : ∀ c ∈ l, okP c = true := fun c hc => by
  unfold okP
  rcases h c hc with e | e <;> subst e <;> rfl
theorem ge_a' {c : Nat} (h : ¬ 97 ≤ c) : (!decide ((mk [c]).cps.toList < (Str.ofString "a").cps.toList)) = false := by
  have e : (Str.ofString "a").cps.toList = [97] := by decide +kernel
  have e2 : (mk [c]).cps.toList = [c] := rfl
  rw [e, e2]
  have : ([c] : List Nat) < [97] := (single_lt _ _).mpr (by omega)
  rw [decide_eq_true this]; rfl
theorem le_z' {c : Nat} (h : ¬ c ≤ 122) : (!decide ((Str.ofString "z").cps.toList < (mk [c]).cps.toList)) = false := by
  have e : (Str.ofString "z").cps.toList = [122] := by decide +kernel
  have e2 : (mk [c]).cps.toList = [c] := rfl
  rw [e, e2]
  have : ([122] : List Nat) < [c] := (single_lt _ _).mpr (by omega)
  rw [decide_eq_true this]; rfl
def spChkRowX (C : Addr) : Sp := fun vs H Q E => ∃ l : List Nat, vs = [.str (mk l)] ∧ (bad okL l = none → ∀ H', Same H H' → Q .non H') ∧ ∀ i, bad okL l = some i → Rz C i H E
def spChkPipeX (C : Addr) : Sp := fun vs H Q E => ∃ l : List Nat, vs = [.str (mk l)] ∧ (bad okP l = none → ∀ H', Same H H' → Q .non H') ∧ ∀ i, bad okP l = some i → Rz C i H E
def spSizeX (C : Addr) : Sp := fun vs H Q E => ∃ l : List Nat, vs = [.str (mk l)] ∧ l.length ≤ 1000 ∧ (bad okL l = none → ∀ H' p, Same H H' → H p = none → H' p = some (.tup [V.int (l.length : Nat), V.int (pairs l : Nat)]) → Q (.ref p) H') ∧
  ∀ i, bad okL l = some i → Rz C i H E
def spSieveX (C C' : Addr) : Sp := fun vs H Q E => ∃ l p : List Nat, vs = [.str (mk l), .str (mk p)] ∧ l.length ≤ 1000 ∧ (bad okL l = none → bad okP p = none → ∀ H', Same H H' → Q (.str (mk (sv l p))) H') ∧
  (∀ i, bad okL l = some i → Rz C i H E) ∧ (bad okL l = none → ∀ i, bad okP p = some i → Rz C' i H E)
/-- the first turn of stages -/
def spStages1 (C C' : Addr) : SpF := fun vs H Q E => ∃ l p : List Nat, vs = [.str (mk l), .str (mk p)] ∧ (bad okL l = none → bad okP p = none → ∀ H', Same H H' → Q (.str (mk l)) H') ∧
  (∀ i, bad okL l = some i → Rz C i H E) ∧ (bad okL l = none → ∀ i, bad okP p = some i → Rz C' i H E)
theorem opt_cases {α : Type} (o : Option α) {P : Prop} (h1 : o = none → P) (h2 : ∀ a, o = some a → P) : P := by
  cases o with
  | none => exact h1 rfl
  | some a => exact h2 a rfl
/-! a call by keywords alone, of a def that may raise -/
section
variable {X : Cx} {CX : CXT} {k : Nat} {f : Addr} {fd : FuncData} {ps ks : List Str} {sp : Sp} {E : L2.St → XK} {x : Str} {p pos : Pos} {kws : List Keyword} {tk : TA} {g : List Value → List Value → List Value} {gV : List V → List V → List V}
def tCallKS (sp : Sp) (gV : List V → List V → List V) (E : L2.St → XK) (tk : TA) : TE := fun σ H Q => tk σ H fun zs H2 => sp (gV [] zs) H2 Q (E σ)
theorem pe_callKS0 (F : FnOk X.prog X.w X.K X.mg X.base CX k f fd ps sp) (hr : Room k X.A) (hg : Gl X x) (hm : X.mg x = some (.ref f)) (hk : PySem.W.keepIn X.K (.ref f) = true)
    (hb : KBinds X.K fd ps ks g gV) (hx : ∀ σ, PassesAt CX X σ (E σ)) (hkw : PK X kws tk)
    (hall : (backToKw pos (keywordEach kws X.env)).all (·.1.isSome) = true := by rfl)
    (hks : (backToKw pos (keywordEach kws X.env)).filterMap (·.1) = ks := by rfl)
    (hdb : (x == ("__debug__" : Str)) = false := by decide)
    (hpl : ((backTo pos (starEach [] X.env)).any (·.1) || (backToKw pos (keywordEach kws X.env)).any (·.1.isNone)) = false := by rfl) :
    PE X (.Call (.Name x p) [] kws pos) (tCallKS sp gV E tk) := by
  refine ⟨fun pins s σ H Q I h => wpAny_Call_Name_kw (ld_glob I hg hm ?_ hdb)⟩
  refine PySem.W.callWith_KW0 (h₀ := X.base) I.ok.mod.kin hk hall (thn (hkw.run pos pins s σ H _ I h) ?_) hpl
  rintro ws s2 ⟨zs, H2, I2, rz, q⟩
  refine ⟨I2.kIn, ?_⟩
  rw [hks]
  have r2 := hb.rel (.nil : Vals [] []) rz
  have hl : (g [] ws).length = ps.length := by rw [← r2.length]; exact F.len _ _ _ _ q
  refine wpAny_call (codeAny_mono (F.run X.A X.stack s2 H2 ⟨[], ks.zip ws⟩ (g [] ws) (gV [] zs) Q (E σ) hr I2.env0 (hb.to s2 [] ws I2.kIn hl) r2 q) fun r s' hq => ?_)
  cases r with
  | error e => exact hx σ pins H2 s2 e s' I2 hq
  | ok fl =>
    cases fl with
    | ret u => exact I2.after hq
    | next => exact False.elim hq
    | brk => exact False.elim hq
    | cont => exact False.elim hq
end
end Tw

set_option Elab.async false
set_option linter.all false
set_option maxRecDepth 100000
set_option maxHeartbeats 2000000
namespace Tw
open PySem PySem.Spec PyProof.Rows L2
/-! the draws out of a dict -/
def bagD (g : Addr) (l t f : Int) : List (L2.Key × V) := [(.inr "great", .ref g), (.inr "left", .int l), (.inr "turn", .int t), (.inr "fold", .int f)]
theorem k_gl : ¬ (Sum.inr ("great" : Str) : L2.Key) = .inr "left" := by decide +kernel
theorem k_gt : ¬ (Sum.inr ("great" : Str) : L2.Key) = .inr "turn" := by decide +kernel
theorem k_gf : ¬ (Sum.inr ("great" : Str) : L2.Key) = .inr "fold" := by decide +kernel
theorem k_lt : ¬ (Sum.inr ("left" : Str) : L2.Key) = .inr "turn" := by decide +kernel
theorem k_lf : ¬ (Sum.inr ("left" : Str) : L2.Key) = .inr "fold" := by decide +kernel
theorem k_tf : ¬ (Sum.inr ("turn" : Str) : L2.Key) = .inr "fold" := by decide +kernel
section
variable {H : Hp} {b g : Addr} {l t f : Int}
theorem bag_getG (h : H b = some (.dK (bagD g l t f))) : DGet H b (.str "great") (some (.ref g)) := by
  have e := DGet.k (k := .inr "great") h
  rw [show valV (bagD g l t f) (.inr "great") = some (.ref g) from valV_pos rfl] at e
  exact e
theorem bag_getL (h : H b = some (.dK (bagD g l t f))) : DGet H b (.str "left") (some (.int l)) := by
  have e := DGet.k (k := .inr "left") h
  rw [show valV (bagD g l t f) (.inr "left") = some (.int l) from (valV_neg k_gl).trans (valV_pos rfl)] at e
  exact e
theorem bag_getT (h : H b = some (.dK (bagD g l t f))) : DGet H b (.str "turn") (some (.int t)) := by
  have e := DGet.k (k := .inr "turn") h
  rw [show valV (bagD g l t f) (.inr "turn") = some (.int t) from (valV_neg k_gt).trans ((valV_neg k_lt).trans (valV_pos rfl))] at e
  exact e
theorem bag_getF (h : H b = some (.dK (bagD g l t f))) : DGet H b (.str "fold") (some (.int f)) := by
  have e := DGet.k (k := .inr "fold") h
  rw [show valV (bagD g l t f) (.inr "fold") = some (.int f) from (valV_neg k_gf).trans ((valV_neg k_lf).trans ((valV_neg k_tf).trans (valV_pos rfl)))] at e
  exact e
theorem bag_small {g : Addr} {l t f : Int} : (bagD g l t f).length < sizeLine := by show 4 < sizeLine; rw [sizeLine_eq]; decide
theorem bag_putL (h : H b = some (.dK (bagD g l t f))) (l' : Int) : DPut H b (.str "left") (.int l') (upd H b (.dK (bagD g l' t f))) := by
  have e := DPut.k (k := .inr "left") (v := .int l') h bag_small
  rw [show putK (bagD g l t f) (.inr "left") (.int l') = bagD g l' t f from by
    unfold putK
    rw [valV_any, show valV (bagD g l t f) (.inr "left") = some (.int l) from (valV_neg k_gl).trans (valV_pos rfl), Option.isSome_some]
    refine (if_pos rfl).trans ?_
    simp only [bagD, List.map_cons, List.map_nil, if_neg k_gl, if_neg (Ne.symm k_lt), if_neg (Ne.symm k_lf), if_true]] at e
  exact e
theorem bag_putT (h : H b = some (.dK (bagD g l t f))) (t' : Int) : DPut H b (.str "turn") (.int t') (upd H b (.dK (bagD g l t' f))) := by
  have e := DPut.k (k := .inr "turn") (v := .int t') h bag_small
  rw [show putK (bagD g l t f) (.inr "turn") (.int t') = bagD g l t' f from by
    unfold putK
    rw [valV_any, show valV (bagD g l t f) (.inr "turn") = some (.int t) from (valV_neg k_gt).trans ((valV_neg k_lt).trans (valV_pos rfl)), Option.isSome_some]
    refine (if_pos rfl).trans ?_
    simp only [bagD, List.map_cons, List.map_nil, if_neg k_gt, if_neg k_lt, if_neg (Ne.symm k_tf), if_true]] at e
  exact e
end
theorem bag_merge (g : Addr) (f : Int) : mergeK [] [(.inr "great", .ref g), (.inr "left", .int 0), (.inr "turn", .int 0), (.inr "fold", .int f)] = bagD g 0 0 f := by
  show putK (putK (putK (putK ([] : List (L2.Key × V)) (.inr "great") (.ref g)) (.inr "left") (.int 0)) (.inr "turn") (.int 0)) (.inr "fold") (.int f) = _
  have e1 : putK ([] : List (L2.Key × V)) (.inr "great") (.ref g) = [(.inr "great", .ref g)] := putK_new _ valV_nil
  have e2 : putK [((.inr "great", .ref g) : L2.Key × V)] (.inr "left") (.int 0) = [(.inr "great", .ref g), (.inr "left", .int 0)] := putK_new _ ((valV_neg k_gl).trans valV_nil)
  have e3 : putK [((.inr "great", .ref g) : L2.Key × V), (.inr "left", .int 0)] (.inr "turn") (.int 0) = [(.inr "great", .ref g), (.inr "left", .int 0), (.inr "turn", .int 0)] := putK_new _ ((valV_neg k_gt).trans ((valV_neg k_lt).trans valV_nil))
  rw [e1, e2, e3]
  exact putK_new _ ((valV_neg k_gf).trans ((valV_neg k_lf).trans ((valV_neg k_tf).trans valV_nil)))
/-- all but what stands at b and at g is as it was -/
def SameBG (b g : Addr) (H H' : Hp) : Prop := ∀ c o, c ≠ b → c ≠ g → H c = some o → H' c = some o
theorem SameBG.refl (b g : Addr) (H : Hp) : SameBG b g H H := fun _ _ _ _ h => h
theorem SameBG.trans {b g : Addr} {H H1 H2 : Hp} (x : SameBG b g H H1) (y : SameBG b g H1 H2) : SameBG b g H H2 := fun c o n m h => y c o n m (x c o n m h)
theorem SameBG.atB (b g : Addr) (H : Hp) (o : HO) : SameBG b g H (upd H b o) := fun c u n _ h => by rw [upd_ne n]; exact h
theorem SameBG.atG (b g : Addr) (H : Hp) (o : HO) : SameBG b g H (upd H g o) := fun c u _ n h => by rw [upd_ne n]; exact h
theorem Same.bg {b g : Addr} {H H' : Hp} (h : Same H H') : SameBG b g H H' := fun c o _ _ e => h c o e
/-- a bag stands at b, its list at g -/
def Bag (b g : Addr) (t f : Int) (H : Hp) : Prop := ∃ l ns, H b = some (.dK (bagD g l t f)) ∧ H g = some (.lst (List.map V.int ns)) ∧ 0 ≤ t ∧ 0 ≤ f ∧ f < 2305843009213693952
theorem Bag.same {b g : Addr} {t f : Int} {H H' : Hp} (h : Bag b g t f H) (s : Same H H') : Bag b g t f H' := by
  obtain ⟨l, ns, h1, h2, r⟩ := h
  exact ⟨l, ns, s _ _ h1, s _ _ h2, r⟩
def spBag (K : PySem.W.Frag) : Sp := fun vs H Q _ => ∃ (a : Addr) (ns : List Int), vs = [.ref a] ∧ SqL K H a (ns.map V.int) ∧ ns.length ≤ 63 ∧
  ∀ H' b g f, Same H H' → H b = none → H g = none → Bag b g 0 f H' → Q (.ref b) H'
def spBDraw : Sp := fun vs H Q _ => ∃ (b g : Addr) (t f m : Int), vs = [.ref b, .int m] ∧ Bag b g t f H ∧ (0 < m ∧ m < 2 ^ 200) ∧ t + 1 < 4294967296 ∧
  ∀ H' t' v, SameBG b g H H' → Bag b g t' f H' → t' ≤ t + 1 → 0 ≤ v → v < m → Q (.int v) H'
/-- a promise that raises is also one that does not, where it does not -/
theorem fn0 {P : Program} {w : World} {K : PySem.W.Frag} {mg : Str → Option Value} {base : Heap} {k : Nat} {f : Addr} {fd : FuncData} {ps : List Str} {sp sp0 : Sp} (G : FnOk P w K mg base (L2.CX P w) k f fd ps sp)
    (h : ∀ vs H Q E, sp0 vs H Q E → sp vs H Q (fun _ _ _ => False)) : FnOk P w K mg base CX0 k f fd ps sp0 := by
  refine ⟨fun vs H Q E q => G.len _ _ _ _ (h _ _ _ _ q), fun A outer s H args us vs Q E hr e0 hb r q => ?_⟩
  refine codeAny_mono (G.run A outer s H args us vs Q (fun _ _ _ => False) hr e0 hb r (h _ _ _ _ q)) fun r' s' hq => ?_
  match r', hq with
  | .ok (.ret u), hq => exact hq
  | .ok .next, hq => exact hq
  | .ok .brk, hq => exact hq
  | .ok .cont, hq => exact hq
  | .error e, hq =>
    obtain ⟨_, _, _, _, _, _, _, _, _, _, _, _, z⟩ := hq
    exact z.elim
def spNN (C : Addr) : Sp := fun vs H Q E => ∃ n : Int, vs = [.int n] ∧ (0 ≤ n → ∀ H', Same H H' → Q .non H') ∧ (n < 0 → RzV C (.int n) H E)
/-- the sums of sizes over all pipelines of j sieves -/
def totP : Nat → Int × Int
  | 0 => (2, 1)
  | j + 1 => (3 * (totP j).1 + 3 * (totP j).2, (totP j).1 + (totP j).2)
theorem totP_eq : ∀ j, totP (j + 1) = (9 * 4 ^ j, 3 * 4 ^ j)
  | 0 => rfl
  | j + 1 => by
    rw [totP, totP_eq j]
    show (3 * (9 * 4 ^ j) + 3 * (3 * 4 ^ j), 9 * 4 ^ j + 3 * 4 ^ j) = ((9 * 4 ^ (j + 1), 3 * 4 ^ (j + 1)) : Int × Int)
    rw [Int.pow_succ]
    refine Prod.ext ?_ ?_
    · show 3 * (9 * 4 ^ j) + 3 * (3 * 4 ^ j) = 9 * (4 ^ j * 4)
      omega
    · show 9 * 4 ^ j + 3 * 4 ^ j = 3 * (4 ^ j * 4)
      omega
def spTot (C : Addr) : Sp := fun vs H Q E => ∃ n : Int, vs = [.int n] ∧ n ≤ 100000 ∧ (∀ j : Nat, n = (j : Nat) → ∀ H', Same H H' → Q (.int (totP j).1) H') ∧ (n < 0 → RzV C (.int n) H E)
theorem seqIndex_zero (n : Nat) : seqIndex? 0 (n + 1) = some 0 := by
  unfold seqIndex?
  simp
end Tw

set_option Elab.async false
set_option linter.all false
set_option maxRecDepth 100000
set_option maxHeartbeats 2000000
namespace Tw
open PySem PySem.Spec PyProof.Rows L2
/-- the five classes -/
structure K4 (K : PySem.W.Frag) (mg : Str → Option Value) (C fI : Nat → Addr) (CS : Addr) : Prop where
  T : ∀ i, i < 5 → TwX.ETxt K (C i) (fI i)
  g0 : mg "InvalidRow" = some (.ref (C 0))
  g1 : mg "InvalidPipeline" = some (.ref (C 1))
  g2 : mg "InvalidNumber" = some (.ref (C 2))
  g3 : mg "NothingToUndo" = some (.ref (C 3))
  g4 : mg "Unreadable" = some (.ref (C 4))
  gS : mg "SieveError" = some (.ref CS)
  kt : ∀ i j, i < 5 → j < 5 → PySem.W.kitOne K (.ref (C i)) (.ref (C j)) = some (decide (i = j))
  kV : ∀ i, i < 5 → PySem.W.kitOne K (.ref (C i)) (.type "ValueError") = some true
  ex : ∀ i, i < 5 → PySem.W.exmOne K (.ref (C i)) (.ref CS) = some true
  st : ∀ i, i < 5 → PySem.W.subIn K (.ref (C i)) (.type "StopIteration") = some false
/-- isinstance of the caught error, by names -/
def rIsP (K : PySem.W.Frag) (a : Addr) (cls : Value) (dd : Option Addr) : List V → Hp → VK → Prop := fun xs H Q => ∃ (C d fI : Addr) (c : V) (u : Value) (b : Bool), cls = .ref C ∧ dd = some d ∧ xs = [.ref a, c] ∧ (∃ v, H d = some (xval v)) ∧ TwX.ETxt K C fI ∧ ClsV c u ∧ PySem.W.kitOne K (.ref C) u = some b ∧ Q (.bl b) H
def rIsTP (K : PySem.W.Frag) (a : Addr) (cls : Value) (dd : Option Addr) : List V → Hp → VK → Prop := fun xs H Q => ∃ (C d fI tp : Addr) (cs : List V) (us : List Value) (b : Bool), cls = .ref C ∧ dd = some d ∧ xs = [.ref a, .ref tp] ∧ (∃ v, H d = some (xval v)) ∧ TwX.ETxt K C fI ∧ H tp = some (.tup cs) ∧ Paired ClsV cs us ∧ PySem.W.kitAny K (.ref C) us = some b ∧ Q (.bl b) H
theorem pin_mem {X : Cx} {a : Addr} {oe : Obj} {pn : List (Addr × Obj)} : (a, oe) ∈ (X.suite a ((a, oe) :: pn)).pn := List.mem_cons_self
def totV : Nat → Int
  | 0 => 2
  | j + 1 => 9 * 4 ^ j
theorem totV_eq : ∀ j, (totP j).1 = totV j
  | 0 => rfl
  | j + 1 => by rw [totP_eq]; rfl
theorem four_pow (j : Nat) : (4 : Int) ^ j = 2 ^ (2 * j) := by rw [show (4 : Int) = 2 ^ 2 from rfl, ← Int.pow_mul]
theorem totV_log (j : Nat) (h : j ≤ 5000) : (totV j).natAbs.log2 < 12000 := by
  cases j with
  | zero => decide
  | succ j =>
    have e : totV (j + 1) = 9 * 4 ^ j := rfl
    have h0 : (0 : Int) ≤ 9 * 4 ^ j := Int.mul_nonneg (by decide) (by rw [four_pow]; exact two_pow_nn _)
    have h1 : 9 * (4 : Int) ^ j < 2 ^ (2 * j + 4) := by
      rw [four_pow, Int.pow_add]
      have := two_pow_nn (2 * j)
      have z : (1 : Int) ≤ 2 ^ (2 * j) := by
        rw [two_pow_cast]
        exact Int.ofNat_le.mpr (Nat.one_le_two_pow)
      show 9 * (2 : Int) ^ (2 * j) < 2 ^ (2 * j) * 16
      omega
    rw [e]
    have := log2_le_of h0 h1
    omega
def spTot0 : Sp := fun vs H Q _ => ∃ j : Nat, vs = [.int (j : Nat)] ∧ j ≤ 100000 ∧ ∀ H', Same H H' → Q (.int (totV j)) H'
end Tw

set_option Elab.async false
set_option linter.all false
set_option maxRecDepth 100000
set_option maxHeartbeats 2000000
namespace Tw
open PySem PySem.Spec PyProof.Rows L2
def topS (i : Nat) : Stmt := PySem.Challenge.pw_twinsieve_k27_totals_and_listing_errors.main.body.getD i (.Pass ⟨0, 0, 0, 0⟩)
abbrev s_law_bag : Stmt := topS 18
abbrev s_law_draw : Stmt := topS 19
section
variable {P : Program} {w : World} {K : PySem.W.Frag} {mg : Str → Option Value} {base : Heap}
theorem sc_law_bag : FnScope ["script", "fold", "great", "cell"] ["script"] (defScope s_law_bag) := ⟨rfl, rfl, rfl, by decide +kernel, rfl, by decide +kernel, by decide +kernel⟩
theorem sc_law_draw : FnScope ["bag", "many", "drawn", "turn", "mixed"] ["bag", "many"] (defScope s_law_draw) := ⟨rfl, rfl, rfl, by decide +kernel, rfl, by decide +kernel, by decide +kernel⟩
theorem ok_bag {f : Addr} {fd : FuncData} {k : Nat} (F : Fun K "_law_bag" "_law_bag" s_law_bag f fd) (m_abs : mg "abs" = none) : FnOk P w K mg base CX0 (k + 1) f fd ["script"] (spBag K) := by
  refine F.ok sc_law_bag (fun vs H Q E h => ?_) (fun cdv A outer s H vs Q E hr h => ?_)
  · obtain ⟨a, ns, rfl, _⟩ := h
    rfl
  · obtain ⟨a, ns, rfl, hS, hlen, q⟩ := h
    refine ⟨_, (pss_cons (ps_par (i := 1) (j := 2) rfl sc_law_bag.nd rfl rfl (by decide) rfl rfl (pa_cons pe_int (pa_cons (pe_lst pa_nil) pa_nil)) (by rfl))
 (pss_cons (ps_for PassesOwn.never rfl (pi_list (pv 0)) (pg_name (i := 3) sc_law_bag.nd rfl (.inl rfl))
  (pss_cons (ps_set (i := 1) sc_law_bag.nd rfl (.inl rfl) (pe_op op_mod (pe_op op_add (pe_op op_mul (pv 1) pe_int) (pv 3)) pe_int))
 (pss_one (ps_if (pt_cmpR op_ge (pe_callB call_abs (by rfl) m_abs (by decide +kernel) (pa_cons (pv 3) pa_nil)) (pe_op op_pow pe_int pe_int) (nomark _)) (pss_one (ps_expr (pe_bm PySem.F.plainAttrs_list PySem.F.slot_list_append PySem.F.type_list_append mt_append (pv 2) (pa_cons (pe_callB call_abs (by rfl) m_abs (by decide +kernel) (pa_cons (pv 3) pa_nil)) pa_nil)))) pss_nil))))
 (pss_one (ps_ret (pe_disp (pps_cons pe_str (pv 2) (pps_cons pe_str pe_int (pps_cons pe_str pe_int (pps_cons pe_str (pv 1) pps_nil)))) (by rfl) (by rfl) (fun z => by cases z) (by decide)))))), ?_⟩
    refine ⟨Nat.zero_le _, fun g ng => ⟨_, _, rfl, ?_⟩⟩
    have smg := same_upd (o := .lst []) ng
    refine ⟨_, rfl, a, rfl, ⟨_, smg.seq hS⟩, for_list (xs := ns.map V.int) (fun i σ H' => ∃ f ms y3, σ = [some (.ref a), some (.int f), some (.ref g), y3] ∧ H' = upd H g (.lst (List.map V.int ms)) ∧ ms.length ≤ i ∧ 0 ≤ f ∧ f < 2305843009213693951) ?_ ?_ ?_ ?_⟩
    · exact ⟨11, [], none, rfl, rfl, Nat.zero_le _, by decide, by decide⟩
    · rintro i σ H' hi ⟨f, ms, y3, rfl, rfl, _⟩
      exact (same_upd ng).seq hS
    · rintro i x σ H' hx ⟨f0, ms, y3, rfl, rfl, hm, h0, h1⟩
      rw [List.getElem?_map] at hx
      obtain ⟨z, hz, rfl⟩ := Option.map_eq_some_iff.mp hx
      have hi : i < 63 := by
        have := (List.getElem?_eq_some_iff.mp hz).1
        omega
      have e := emod_both (f0 * 1000003 + z) (b := 2305843009213693951) (by decide)
      refine ⟨_, rfl, _, _, rfl, rfl, .inr ⟨by decide, by decide⟩, _, rfl, _, _, rfl, rfl, _, _, rfl, rfl, (by show (0 : Int) < 2305843009213693951; decide), ?_⟩
      refine ⟨_, rfl, _, rfl, _, _, rfl, rfl, ⟨by decide, by decide, by decide⟩, _, _, rfl, rfl, _, rfl, ?_⟩
      refine ite2 (fun hb => ?_) (fun hb => ?_)
      · refine ⟨_, rfl, .inl ⟨rfl, _, SqL.of upd_same⟩, _, rfl, _, rfl, g, _, _, rfl, rfl, upd_same, ?_, ?_⟩
        · rw [List.length_map]
          exact small1000 (by omega)
        · refine ⟨_, ms ++ [if z < 0 then -z else z], _, rfl, ?_, ?_, e.1, e.2⟩
          · rw [List.map_append, upd_upd]
            rfl
          · rw [List.length_append]
            show ms.length + 1 ≤ _
            omega
      · exact ⟨_, ms, _, rfl, rfl, by omega, e.1, e.2⟩
    · rintro σ H' ⟨f0, ms, y3, rfl, rfl, hm, h0, h1⟩
      intro b nb
      have nbg : b ≠ g := fun z => by rw [z, upd_same] at nb; cases nb
      refine ⟨_, rfl, _, rfl, ?_⟩
      refine ⟨upd_same, [(.inr "great", .ref g), (.inr "left", .int 0), (.inr "turn", .int 0), (.inr "fold", .int f0)], rfl, (by show 4 ≤ 15; decide), ?_⟩
      rw [bag_merge, upd_upd]
      have nbH : H b = none := by rw [upd_ne nbg] at nb; exact nb
      refine q _ b g f0 ((same_upd ng).trans (same_upd nb)) nbH ng ⟨0, ms, upd_same, by rw [upd_ne (Ne.symm nbg)]; exact upd_same, by decide, h0, by omega⟩
theorem ok_bdraw {f : Addr} {fd : FuncData} {k : Nat} (F : Fun K "_law_draw" "_law_draw" s_law_draw f fd) (m_len : mg "len" = none) : FnOk P w K mg base CX0 (k + 1) f fd ["bag", "many"] spBDraw := by
  refine F.ok sc_law_draw (fun vs H Q E h => ?_) (fun cdv A outer s H vs Q E hr h => ?_)
  · obtain ⟨b, g, t, f, m, rfl, _⟩ := h
    rfl
  · obtain ⟨b, g, t, f0, m, rfl, ⟨l, ns, hb, hg, t0, f00, f01⟩, ⟨m0, m1⟩, ht, q⟩ := h
    have cd : ∀ x, CDivW x m := fun x => by
      refine ⟨m0, ?_⟩
      have := log2_le_of (Int.le_of_lt m0) m1
      omega
    have nbg : b ≠ g := ne_of hb hg (by intro z; cases z)
    refine ⟨_, (pss_cons (ps_if (PW.pt (pw_and (pt_cmpR op_lt (pe_dget (hu_of hr) (pv 0) pe_str (fun _ _ => rfl)) (pv 1) (nomark _)) (pw_and1 (pt_cmpR op_gt (pe_callB call_len_seq (by rfl) m_len PySem.boot_len (pa_cons (pe_dget (hu_of hr) (pv 0) pe_str (fun _ _ => rfl)) pa_nil)) pe_int (nomark _))))) (pss_one (ps_dput (hu_of hr) (pv 0) pe_str (pe_bm PySem.F.plainAttrs_list PySem.F.slot_list_pop PySem.F.type_list_pop mt_popAt (pe_dget (hu_of hr) (pv 0) pe_str (fun _ _ => rfl)) (pa_cons pe_int pa_nil)) rfl)) pss_nil)
 (pss_cons (ps_if (pt_cmpR op_ge (pe_dget (hu_of hr) (pv 0) pe_str (fun _ _ => rfl)) (pv 1) (nomark _)) (pss_cons (ps_set (i := 2) sc_law_draw.nd rfl (.inl rfl) (pe_op op_mod (pe_dget (hu_of hr) (pv 0) pe_str (fun _ _ => rfl)) (pv 1)))
 (pss_cons (ps_dput (hu_of hr) (pv 0) pe_str (pe_op op_fdivW (pe_dget (hu_of hr) (pv 0) pe_str (fun _ _ => rfl)) (pv 1)) rfl)
 (pss_one (ps_ret (pv 2))))) pss_nil)
 (pss_cons (ps_daug (hu_of hr) (pv 0) pe_str pe_int in_add (fun _ _ _ => rfl))
 (pss_cons (ps_set (i := 3) sc_law_draw.nd rfl (.inl rfl) (pe_dget (hu_of hr) (pv 0) pe_str (fun _ _ => rfl)))
 (pss_cons (ps_set (i := 4) sc_law_draw.nd rfl (.inl rfl) (pe_op op_add (pe_op op_mul (pe_op op_add (pe_dget (hu_of hr) (pv 0) pe_str (fun _ _ => rfl)) (pe_op op_mul pe_int (pv 3))) (pe_op op_pow (pe_op op_add (pv 3) pe_int) pe_int)) (pe_op op_mul pe_int (pv 3))))
 (pss_one (ps_ret (pe_op op_mod (pe_op op_fdivW (pe_op op_mod (pe_op op_pow (pe_op op_mod (pv 4) pe_int) pe_int) (pe_op op_add (pe_op op_pow pe_int pe_int) pe_int)) pe_int) (pv 1))))))))), ?_⟩
    refine ⟨_, rfl, b, _, rfl, bag_getL hb, _, rfl, _, _, rfl, rfl, _, rfl, ?_⟩
    refine ite2 (fun h1 => ?A) (fun h1 => ?B)
    case' A =>
      refine ⟨_, rfl, b, _, rfl, bag_getG hb, g, _, rfl, .inl (SqL.of hg), _, _, rfl, rfl, _, rfl, ?_⟩
      refine ite2 (fun h2 => ?C) (fun h2 => ?D)
      case' C =>
        obtain ⟨x, xs, rfl⟩ : ∃ x xs, ns = x :: xs := by
          cases ns with
          | nil => simp at h2
          | cons x xs => exact ⟨x, xs, rfl⟩
        refine ⟨_, rfl, b, _, rfl, bag_getG hb, .inl ⟨rfl, _, SqL.of hg⟩, g, _, 0, 0, .int x, rfl, rfl, hg, by decide, by decide, (by rw [List.length_map]; exact seqIndex_zero _), rfl, ?_⟩
        have hb1 : (upd H g (.lst (List.map V.int xs))) b = some (.dK (bagD g l t f0)) := by rw [upd_ne nbg]; exact hb
        refine ⟨_, rfl, b, _, rfl, bag_putL hb1 x, ?_⟩
        have hb2 : (upd (upd H g (.lst (List.map V.int xs))) b (.dK (bagD g x t f0))) b = some (.dK (bagD g x t f0)) := upd_same
        have hg2 : (upd (upd H g (.lst (List.map V.int xs))) b (.dK (bagD g x t f0))) g = some (.lst (List.map V.int xs)) := by rw [upd_ne (Ne.symm nbg)]; exact upd_same
        have sm2 : SameBG b g H (upd (upd H g (.lst (List.map V.int xs))) b (.dK (bagD g x t f0))) := (SameBG.atG _ _ _ _).trans (SameBG.atB _ _ _ _)
      case' D =>
        have hb2 := hb
        have hg2 := hg
        have sm2 := SameBG.refl b g H
    case' B =>
      have hb2 := hb
      have hg2 := hg
      have sm2 := SameBG.refl b g H
    all_goals
      refine ⟨_, rfl, b, _, rfl, bag_getL hb2, _, rfl, _, _, rfl, rfl, _, rfl, ?_⟩
      refine ite2 (fun h3 => ?_) (fun h3 => ?_)
      · refine ⟨_, rfl, b, _, rfl, bag_getL hb2, _, rfl, _, _, rfl, rfl, m0, ?_⟩
        refine ⟨_, rfl, b, _, rfl, bag_getL hb2, _, rfl, _, _, rfl, rfl, cd _, _, rfl, b, _, rfl, bag_putL hb2 _, ?_⟩
        refine ⟨_, rfl, ?_⟩
        exact q _ t _ (sm2.trans (SameBG.atB _ _ _ _)) ⟨_, _, upd_same, by rw [upd_ne (Ne.symm nbg)]; exact hg2, t0, f00, f01⟩ (by omega) (emod_both _ m0).1 (emod_both _ m0).2
      · refine ⟨_, rfl, b, _, rfl, bag_getT hb2, _, _, rfl, rfl, _, bag_putT hb2 _, ?_⟩
        refine ⟨_, rfl, b, _, rfl, bag_getT upd_same, ?_⟩
        have b1 : -(2 ^ 64) < f0 + 17 * (t + 1) ∧ f0 + 17 * (t + 1) < 2 ^ 64 := by omega
        refine ⟨_, rfl, b, _, rfl, bag_getF upd_same, _, rfl, _, _, rfl, rfl, .inl ⟨by decide, by decide⟩, _, _, rfl, rfl, _, rfl, _, _, rfl, rfl, _, _, rfl, rfl, ⟨by decide, by decide, by omega⟩, _, _, rfl, rfl, .inl b1, _, rfl, _, _, rfl, rfl, .inl ⟨by decide, by decide⟩, _, _, rfl, rfl, ?_⟩
        refine ⟨_, rfl, _, _, rfl, rfl, (by show (0 : Int) < 2305843009213693951; decide), ?_⟩
        have e1 := emod_both ((f0 + 17 * (t + 1)) * (t + 1 + 29) ^ (2 : Int).toNat + 7919 * (t + 1)) (b := 2305843009213693951) (by decide)
        refine ⟨_, _, rfl, rfl, ⟨by decide, by decide, by omega⟩, _, _, rfl, rfl, ⟨by decide, by decide, by decide⟩, _, _, rfl, rfl, _, _, rfl, rfl, (by show (0 : Int) < 10 ^ (18 : Int).toNat + 9; decide +kernel), _, _, rfl, rfl, ⟨by decide, by decide +kernel⟩, _, rfl, _, _, rfl, rfl, m0, ?_⟩
        exact q _ (t + 1) _ (sm2.trans (SameBG.atB _ _ _ _)) ⟨_, _, upd_same, by rw [upd_ne (Ne.symm nbg)]; exact hg2, by omega, f00, f01⟩ (by omega) (emod_both _ m0).1 (emod_both _ m0).2
end
end Tw

set_option Elab.async false
set_option linter.all false
set_option maxRecDepth 100000
set_option maxHeartbeats 2000000
namespace Tw
open PySem PySem.Spec PyProof.Rows L2
abbrev s_check_not_negative : Stmt := topS 9
abbrev s_total_cost : Stmt := topS 16
abbrev s_count_pipelines : Stmt := topS 15
abbrev s_pipelines : Stmt := topS 14
section
variable {P : Program} {w : World} {K : PySem.W.Frag} {mg : Str → Option Value} {base : Heap}
theorem sc_check_not_negative : FnScope ["number"] ["number"] (defScope s_check_not_negative) := ⟨rfl, rfl, rfl, by decide +kernel, rfl, by decide +kernel, by decide +kernel⟩
theorem sc_total_cost : FnScope ["sieves", "costs", "pairs", "_"] ["sieves"] (defScope s_total_cost) := ⟨rfl, rfl, rfl, by decide +kernel, rfl, by decide +kernel, by decide +kernel⟩
theorem sc_count_pipelines : FnScope ["limit", "count", "waiting", "cost", "pairs"] ["limit"] (defScope s_count_pipelines) := ⟨rfl, rfl, rfl, by decide +kernel, rfl, by decide +kernel, by decide +kernel⟩
theorem sc_pipelines : GScope ["limit", "cost", "pairs", "waiting", "pipeline", "kind", "new_cost", "new_pairs"] ["limit"] (defScope s_pipelines) := ⟨rfl, rfl, rfl, by decide +kernel, rfl, by decide +kernel, by decide +kernel⟩
theorem ok_nn {f C fI : Addr} {fd : FuncData} {k : Nat} (F : Fun K "check_not_negative" "check_not_negative" s_check_not_negative f fd) (TInvalidNumber : TwX.ETxt K C fI) (gInvalidNumber : mg "InvalidNumber" = some (.ref C)) : FnOk P w K mg base (L2.CX P w) (k + 2) f fd ["number"] (spNN C) := by
  refine F.okX sc_check_not_negative (fun vs H Q E h => ?_) (fun cdv A outer s H vs Q E hr h => ?_)
  · obtain ⟨n, rfl, _⟩ := h
    rfl
  · obtain ⟨n, rfl, q, qe⟩ := h
    refine ⟨_, (pss_one (ps_if (pt_cmpR op_lt (pv 0) pe_int (nomark _)) (pss_one (ps_raiseR rfl TInvalidNumber gInvalidNumber hr (takes_of rfl rfl rfl rfl) (pa_cons (pv 0) pa_nil) rfl)) pss_nil)), ?_⟩
    refine ⟨_, rfl, _, _, rfl, rfl, _, rfl, ite2 (fun hb => ?_) (fun hb => ?_)⟩
    · exact ⟨_, rfl, _, rfl, fun d hd => qe (of_decide_eq_true hb) _ d (same_upd hd) hd upd_same⟩
    · have hn : ¬ n < 0 := fun z => hb (decide_eq_true z)
      exact q (by omega) H (Same.refl H)
theorem ok_total {f fN C fI aS : Addr} {fd fdN : FuncData} {k : Nat} (F : Fun K "total_cost" "total_cost" s_total_cost f fd) (TInvalidNumber : TwX.ETxt K C fI) (gInvalidNumber : mg "InvalidNumber" = some (.ref C))
    (Dcheck_not_negative : Dfn K mg "check_not_negative" s_check_not_negative ["number"] fN fdN) (gS : mg "START" = some (.ref aS)) (hS : ∀ H, SqT K H aS [V.int 2, V.int 1]) (m_range : mg "range" = none) : FnOk P w K mg base (L2.CX P w) (k + 3) f fd ["sieves"] (spTot C) := by
  have Gcheck_not_negative : FnOk P w K mg base (L2.CX P w) (k + 2) fN fdN ["number"] (spNN C) := ok_nn Dcheck_not_negative.F TInvalidNumber gInvalidNumber
  refine F.okX sc_total_cost (fun vs H Q E h => ?_) (fun cdv A outer s H vs Q E hr h => ?_)
  · obtain ⟨n, rfl, _⟩ := h
    rfl
  · obtain ⟨n, rfl, hn, q, qe⟩ := h
    refine ⟨_, (pss_cons (ps_expr (pe_call (E := E) Gcheck_not_negative hr rfl Dcheck_not_negative.g Dcheck_not_negative.F.kp Dcheck_not_negative.b .nil (passes_call (takes_of rfl rfl rfl rfl) (fun _ _ _ _ h => h)) (pa_cons (pv 0) pa_nil)))
 (pss_cons (ps_asg (pe_glob (v := .ref aS) rfl gS rfl) (pg_tup2 rfl (pg_name (i := 1) sc_total_cost.nd rfl (.inl rfl) (.inl rfl)) (pg_name (i := 2) sc_total_cost.nd rfl (.inl rfl) (.inl rfl))))
 (pss_cons (ps_for (passes_of rfl) rfl (pi_range1 (by rfl) m_range (pa_cons (pv 0) pa_nil)) (pg_name (i := 3) sc_total_cost.nd rfl (.inl rfl))
  (pss_one (ps_par (i := 1) (j := 2) rfl sc_total_cost.nd rfl rfl (by decide) rfl rfl (pa_cons (pe_op op_add (pe_op op_mul pe_int (pv 1)) (pe_op op_mul pe_int (pv 2))) (pa_cons (pe_op op_add (pv 1) (pv 2)) pa_nil)) (by rfl))))
 (pss_one (ps_ret (pv 1)))))), ?_⟩
    refine ⟨_, rfl, n, rfl, fun h0 H1 sm1 => ?_, qe⟩
    refine ⟨aS, _, rfl, hS _, rfl, _, _, rfl, _, _, rfl, rfl, ?_⟩
    refine ⟨_, rfl, _, rfl, by omega, by omega, for_range (lo := 0) (n := n.toNat) (fun i σ H' => ∃ y3, σ = [some (.int n), some (.int (totP i).1), some (.int (totP i).2), y3] ∧ Same H H') ⟨none, rfl, sm1⟩ ?_ ?_⟩
    · rintro i σ H2 hi ⟨y3, rfl, sm2⟩
      refine ⟨_, rfl, _, _, rfl, rfl, .inl ⟨by decide, by decide⟩, _, rfl, _, _, rfl, rfl, .inl ⟨by decide, by decide⟩, _, _, rfl, rfl, _, rfl, _, rfl, _, _, rfl, rfl, _, _, rfl, ?_⟩
      exact ⟨_, rfl, sm2⟩
    · rintro σ H2 ⟨y3, rfl, sm2⟩
      exact ⟨_, rfl, q n.toNat (by omega) H2 sm2⟩
def spCnt8 (C : Addr) : Sp := fun vs H Q E => ∃ n : Int, vs = [.int n] ∧ n ≤ 8 ∧ (0 ≤ n → ∀ H' c, Same H H' → Q (.int c) H') ∧ (n < 0 → RzV C (.int n) H E)
theorem ok_cnt8 {f fN C fI aS : Addr} {fd fdN : FuncData} {k : Nat} (F : Fun K "count_pipelines" "count_pipelines" s_count_pipelines f fd) (TInvalidNumber : TwX.ETxt K C fI) (gInvalidNumber : mg "InvalidNumber" = some (.ref C))
    (Dcheck_not_negative : Dfn K mg "check_not_negative" s_check_not_negative ["number"] fN fdN) (gS : mg "START" = some (.ref aS)) (hS : ∀ H, SqT K H aS [V.int 2, V.int 1]) : FnOk P w K mg base (L2.CX P w) (k + 3) f fd ["limit"] (spCnt8 C) := by
  have Gcheck_not_negative : FnOk P w K mg base (L2.CX P w) (k + 2) fN fdN ["number"] (spNN C) := ok_nn Dcheck_not_negative.F TInvalidNumber gInvalidNumber
  refine F.okX sc_count_pipelines (fun vs H Q E h => ?_) (fun cdv A outer s H vs Q E hr h => ?_)
  · obtain ⟨n, rfl, _⟩ := h
    rfl
  · obtain ⟨n, rfl, hn, q, qe⟩ := h
    refine ⟨_, (pss_cons (ps_expr (pe_call (E := E) Gcheck_not_negative hr rfl Dcheck_not_negative.g Dcheck_not_negative.F.kp Dcheck_not_negative.b .nil (passes_call (takes_of rfl rfl rfl rfl) (fun _ _ _ _ h => h)) (pa_cons (pv 0) pa_nil)))
 (pss_cons (ps_if (pt_cmpR op_lt (pv 0) (pe_ix ix_tup (pe_glob (v := .ref aS) rfl gS rfl) pe_int (fun _ _ => rfl)) (nomark _)) (pss_one (ps_ret pe_int)) pss_nil)
 (pss_cons (ps_set (i := 1) sc_count_pipelines.nd rfl (.inl rfl) pe_int)
 (pss_cons (ps_set (i := 2) sc_count_pipelines.nd rfl (.inl rfl) (pe_lst (pa_cons (pe_glob (v := .ref aS) rfl gS rfl) pa_nil)))
 (pss_cons (ps_while (passes_of rfl) (pt_truth (pv 2) (by intro _; rfl)) (pss_cons (ps_asg (pe_bm0 PySem.F.plainAttrs_list PySem.F.slot_list_pop PySem.F.type_list_pop mt_pop (pv 2)) (pg_tup2 rfl (pg_name (i := 3) sc_count_pipelines.nd rfl (.inl rfl) (.inl rfl)) (pg_name (i := 4) sc_count_pipelines.nd rfl (.inl rfl) (.inl rfl))))
 (pss_cons (ps_while (passes_of rfl) (pt_cmpR op_le (pe_op op_add (pe_op op_mul pe_int (pv 3)) (pv 4)) (pv 0) (nomark _)) (pss_cons (ps_set (i := 1) sc_count_pipelines.nd rfl (.inl rfl) (pe_op op_add (pv 1) pe_int))
 (pss_cons (ps_expr (pe_bm PySem.F.plainAttrs_list PySem.F.slot_list_append PySem.F.type_list_append mt_append (pv 2) (pa_cons (pe_tup (pa_cons (pe_op op_add (pe_op op_mul pe_int (pv 3)) (pv 4)) (pa_cons (pv 3) pa_nil))) pa_nil)))
 (pss_one (ps_set (i := 3) sc_count_pipelines.nd rfl (.inl rfl) (pe_op op_add (pv 3) (pe_op op_mul pe_int (pv 4))))))))
 (pss_one (ps_set (i := 1) sc_count_pipelines.nd rfl (.inl rfl) (pe_op op_add (pe_op op_add (pv 1) pe_int) (pe_op op_fdivN (pe_op op_sub (pv 0) (pv 3)) (pe_op op_mul pe_int (pv 4)))))))))
 (pss_one (ps_ret (pv 1)))))))), ?_⟩
    refine ⟨_, rfl, n, rfl, fun h0 H1 sm1 => ?_, qe⟩
    refine ⟨_, rfl, aS, _, _, _, rfl, rfl, hS _, atI_nat (j := 0) rfl, _, _, rfl, rfl, _, rfl, ite2 (fun hb => ?_) (fun hb => ?_)⟩
    · exact q h0 H1 _ sm1
    · refine ⟨(by show 1 ≤ sizeLine; decide), fun wl nw => ?_⟩
      have nwH : H wl = none := sm1.free nw
      refine ⟨fun m σ H' => ∃ c y3 y4 ws, σ = [some (.int n), some (.int c), some (.ref wl), y3, y4] ∧ Same H H' ∧ H' wl = some (.lst ws) ∧
        ((m = 2 ∧ ws = [.ref aS]) ∨ (m = 1 ∧ ∃ p, ws = [.ref p] ∧ H' p = some (.tup [V.int 5, V.int 2])) ∨ (m = 0 ∧ ws = [])), ⟨2, 0, none, none, _, rfl, sm1.trans (same_upd nw), upd_same, .inl ⟨rfl, rfl⟩⟩, ?_⟩
      rintro m σ H2 ⟨c, y3, y4, ws, rfl, sm2, hw, hm⟩
      refine ⟨_, rfl, _, .inl ⟨ws, SqL.of hw, rfl⟩, ?_⟩
      have fin : ∀ (cost pairs : Int) (ws1 : List V) (M m2 : Nat) (N : L2.St → Hp → Prop), pairs = 1 ∨ pairs = 2 → True := fun _ _ _ _ _ _ _ => trivial
      rcases hm with ⟨rfl, rfl⟩ | ⟨rfl, p, rfl, hp⟩ | ⟨rfl, rfl⟩
      · refine iteT ⟨_, fun _ _ z => z, ?_⟩
        refine ⟨_, rfl, .inl ⟨rfl, _, SqL.of hw⟩, wl, _, _, rfl, rfl, hw, rfl, aS, _, rfl, hS _, rfl, _, _, rfl, _, _, rfl, rfl, ?_⟩
        refine ⟨fun m σ H' => ∃ c, Same H H' ∧ ((m = 1 ∧ σ = [some (.int n), some (.int c), some (.ref wl), some (.int 2), some (.int 1)] ∧ H' wl = some (.lst [])) ∨ (m = 0 ∧ σ = [some (.int n), some (.int c), some (.ref wl), some (.int 4), some (.int 1)] ∧ ∃ p, H' wl = some (.lst [.ref p]) ∧ H' p = some (.tup [V.int 5, V.int 2]))), ⟨1, c, ?_, .inl ⟨rfl, rfl, upd_same⟩⟩, ?_⟩
        · intro b o hb
          rw [upd_ne (ne_of_none hb nwH)]
          exact sm2 b o hb
        · rintro m σ H3 ⟨c3, sm3, ⟨rfl, rfl, hw3⟩ | ⟨rfl, rfl, p, hw3, hp3⟩⟩
          · refine ⟨_, rfl, _, _, rfl, rfl, .inl ⟨by decide, by decide⟩, _, rfl, _, _, rfl, rfl, _, rfl, _, _, rfl, rfl, _, rfl, ite2 (fun h5 => ?_) (fun h5 => ?_)⟩
            · refine ⟨_, fun _ _ z => z, ?_⟩
              refine ⟨_, rfl, _, _, rfl, rfl, ?_⟩
              refine ⟨_, rfl, .inl ⟨rfl, _, SqL.of hw3⟩, _, rfl, _, _, rfl, rfl, .inl ⟨by decide, by decide⟩, _, rfl, _, _, rfl, rfl, _, rfl, (by show 2 ≤ sizeLine; decide), fun p np => ?_⟩
              have nwp : wl ≠ p := ne_of_none hw3 np
              refine ⟨wl, _, _, rfl, rfl, (by rw [upd_ne nwp]; exact hw3), (by show 0 < sizeLine; rw [sizeLine_eq]; decide), ?_⟩
              refine ⟨_, rfl, _, rfl, _, _, rfl, rfl, .inl ⟨by decide, by decide⟩, _, _, rfl, rfl, 0, Nat.zero_lt_one, _, ?_, .inr ⟨rfl, rfl, p, upd_same, ?_⟩⟩
              · intro b o hb
                rw [upd_ne (ne_of_none hb nwH), upd_ne (ne_of_none (sm3 b o hb) np)]
                exact sm3 b o hb
              · rw [upd_ne (Ne.symm nwp)]; exact upd_same
            · refine ⟨_, rfl, _, _, rfl, rfl, _, rfl, _, rfl, _, _, rfl, rfl, _, rfl, _, _, rfl, rfl, .inl ⟨by decide, by decide⟩, _, _, rfl, rfl, ⟨by decide, by decide⟩, _, _, rfl, rfl, 0, by omega, _, _, _, _, rfl, sm3, hw3, .inr (.inr ⟨rfl, rfl⟩)⟩
          · refine ⟨_, rfl, _, _, rfl, rfl, .inl ⟨by decide, by decide⟩, _, rfl, _, _, rfl, rfl, _, rfl, _, _, rfl, rfl, _, rfl, ite2 (fun h5 => ?_) (fun h5 => ?_)⟩
            · have := of_decide_eq_true h5
              omega
            · refine ⟨_, rfl, _, _, rfl, rfl, _, rfl, _, rfl, _, _, rfl, rfl, _, rfl, _, _, rfl, rfl, .inl ⟨by decide, by decide⟩, _, _, rfl, rfl, ⟨by decide, by decide⟩, _, _, rfl, rfl, 1, by omega, _, _, _, _, rfl, sm3, hw3, .inr (.inl ⟨rfl, p, rfl, hp3⟩)⟩
      · refine iteT ⟨_, fun _ _ z => z, ?_⟩
        refine ⟨_, rfl, .inl ⟨rfl, _, SqL.of hw⟩, wl, _, _, rfl, rfl, hw, rfl, p, _, rfl, SqT.of (by rw [upd_ne (ne_of hp hw (by intro z; cases z))]; exact hp), rfl, _, _, rfl, _, _, rfl, rfl, ?_⟩
        refine ⟨fun m σ H' => Same H H' ∧ H' wl = some (.lst []) ∧ σ = [some (.int n), some (.int c), some (.ref wl), some (.int 5), some (.int 2)], ⟨0, ?_, upd_same, rfl⟩, ?_⟩
        · intro b o hb
          rw [upd_ne (ne_of_none hb nwH)]
          exact sm2 b o hb
        · rintro m σ H3 ⟨sm3, hw3, rfl⟩
          refine ⟨_, rfl, _, _, rfl, rfl, .inl ⟨by decide, by decide⟩, _, rfl, _, _, rfl, rfl, _, rfl, _, _, rfl, rfl, _, rfl, ite2 (fun h5 => ?_) (fun h5 => ?_)⟩
          · have := of_decide_eq_true h5
            omega
          · refine ⟨_, rfl, _, _, rfl, rfl, _, rfl, _, rfl, _, _, rfl, rfl, _, rfl, _, _, rfl, rfl, .inl ⟨by decide, by decide⟩, _, _, rfl, rfl, ⟨by decide, by decide⟩, _, _, rfl, rfl, 0, by omega, _, _, _, _, rfl, sm3, hw3, .inr (.inr ⟨rfl, rfl⟩)⟩
      · exact iteF ⟨_, rfl, q h0 H2 _ sm2⟩
def spPipes1 (C : Addr) : SpF2 := fun vs H Q N E => ∃ n : Int, vs = [.int n] ∧ (0 ≤ n → (∀ x H', Same H H' → Q x H') ∧ ∀ H', Same H H' → N H') ∧ (n < 0 → RzV C (.int n) H E)
theorem ok_pipes1 {f fN C fI aS : Addr} {fd fdN : FuncData} {k : Nat} (F : Fun K "pipelines" "pipelines" s_pipelines f fd) (TInvalidNumber : TwX.ETxt K C fI) (gInvalidNumber : mg "InvalidNumber" = some (.ref C))
    (Dcheck_not_negative : Dfn K mg "check_not_negative" s_check_not_negative ["number"] fN fdN) (gS : mg "START" = some (.ref aS)) (hS : ∀ H, SqT K H aS [V.int 2, V.int 1]) (gP : mg "heappop" = some (.builtin "_heapq.heappop")) : GFn2 P w K mg base (k + 3) f fd ["limit"] (spPipes1 C) := by
  have Gcheck_not_negative : FnOk P w K mg base (L2.CX P w) (k + 2) fN fdN ["number"] (spNN C) := ok_nn Dcheck_not_negative.F TInvalidNumber gInvalidNumber
  refine gfn2_of F sc_pipelines (fun vs H Q N E h => ?_) (fun cdv A outer s H vs Q N E pn hr h => ?_)
  · obtain ⟨n, rfl, _⟩ := h
    rfl
  · obtain ⟨n, rfl, q, qe⟩ := h
    refine ⟨_, f2_cons (ps_expr (pe_call (E := E) Gcheck_not_negative hr rfl Dcheck_not_negative.g Dcheck_not_negative.F.kp Dcheck_not_negative.b .nil (passes_call takes_gcx (fun _ _ _ _ h => h)) (pa_cons (pv 0) pa_nil)))
      (f2_cons (ps_asg (pe_glob (v := .ref aS) rfl gS rfl) (pg_tup2 rfl (pg_name (i := 1) sc_pipelines.nd rfl (.inl rfl) (.inl rfl)) (pg_name (i := 2) sc_pipelines.nd rfl (.inl rfl) (.inl rfl))))
      (f2_cons (ps_set (i := 3) sc_pipelines.nd rfl (.inl rfl) (pe_lst (pa_cons (pe_tup (pa_cons (pv 1) (pa_cons pe_str (pa_cons (pv 2) pa_nil)))) pa_nil)))
      (f2_while owns_gcx (pt_cmpR op_le (pe_ix ix_tup (pe_ix ix_list (pv 3) pe_int (fun _ _ => rfl)) pe_int (fun _ _ => rfl)) (pv 0) (nomark _))
        (f2_cons (ps_asg (pe_callBfun call_heappop1 rfl gP (pa_cons (pv 3) pa_nil)) (pg_tup rfl (pgs_cons (pg_name (i := 1) sc_pipelines.nd rfl (.inl rfl)) (pgs_cons (pg_name (i := 4) sc_pipelines.nd rfl (.inl rfl)) (pgs_cons (pg_name (i := 2) sc_pipelines.nd rfl (.inl rfl)) pgs_nil)))))
        (f2_yield (pv 4)))))), ?_⟩
    refine ⟨_, rfl, n, rfl, fun h0 H1 sm1 => ?_, qe⟩
    obtain ⟨q1, q2⟩ := q h0
    refine ⟨aS, _, rfl, hS _, rfl, _, _, rfl, _, _, rfl, rfl, ?_⟩
    refine ⟨_, rfl, _, rfl, (by show 3 ≤ sizeLine; decide), fun t nt => ⟨(by show 1 ≤ sizeLine; decide), fun l nl => ?_⟩⟩
    have smt := same_upd (o := .tup [V.int 2, V.str "", V.int 1]) nt
    have sml := same_upd (o := .lst [V.ref t]) nl
    have ht := sml _ _ (upd_same (H := H1) (a := t) (o := .tup [V.int 2, V.str "", V.int 1]))
    have ntl : t ≠ l := ne_of_none upd_same nl
    have smA := sm1.trans (smt.trans sml)
    refine ⟨_, rfl, l, _, _, _, rfl, rfl, SqL.of upd_same, atI_nat (j := 0) rfl, t, _, _, _, rfl, rfl, SqT.of ht, atI_nat (j := 0) rfl, _, rfl, _, _, rfl, rfl, _, rfl, ite2 (fun hb => ?_) (fun hb => ?_)⟩
    · refine ⟨_, rfl, l, _, rfl, upd_same, t, _, rfl, SqT.of (by rw [upd_ne ntl]; exact ht), rfl, _, _, rfl, _, _, rfl, _, _, rfl, rfl, ?_⟩
      refine ⟨_, rfl, q1 _ _ ?_⟩
      intro b o hb
      rw [upd_upd, upd_ne (ne_of_none (smt _ _ (sm1 _ _ hb)) nl)]
      exact smt _ _ (sm1 _ _ hb)
    · exact q2 _ smA
end
end Tw

set_option Elab.async false
set_option linter.all false
set_option maxRecDepth 100000
set_option maxHeartbeats 2000000
namespace Tw
open PySem PySem.Spec PyProof.Rows L2
abbrev s_law_caught : Stmt := topS 20
section
variable {P : Program} {w : World} {K : PySem.W.Frag} {mg : Str → Option Value} {base : Heap}
theorem sc_law_caught : FnScope ["which", "number", "stream", "e"] ["which", "number"] (defScope s_law_caught) := ⟨rfl, rfl, rfl, by decide +kernel, rfl, by decide +kernel, by decide +kernel⟩
def CauAt (H H' : Hp) (x : V) (n : Int) : Prop := if n < 0 then ∃ q, x = .ref q ∧ H q = none ∧ H' q = some (.tup [.bl true, .bl true, .int n]) else x = .non
def spCau : Sp := fun vs H Q _ => ∃ (w : Nat) (n : Int), vs = [.int (w : Nat), .int n] ∧ w < 3 ∧ n ≤ 8 ∧ ∀ H' x, Same H H' → CauAt H H' x n → Q x H'
theorem ok_cau {C fI : Nat → Addr} {CS aS : Addr} (Z : K4 K mg C fI CS) {f fN fT fC fP : Addr} {fd fdN fdT fdC fdP : FuncData} {k : Nat} (F : Fun K "_law_caught" "_law_caught" s_law_caught f fd)
    (DN : Dfn K mg "check_not_negative" s_check_not_negative ["number"] fN fdN) (DT : Dfn K mg "total_cost" s_total_cost ["sieves"] fT fdT) (DC : Dfn K mg "count_pipelines" s_count_pipelines ["limit"] fC fdC) (DP : Dfn K mg "pipelines" s_pipelines ["limit"] fP fdP)
    (gS : mg "START" = some (.ref aS)) (hS : ∀ H, SqT K H aS [V.int 2, V.int 1]) (gP : mg "heappop" = some (.builtin "_heapq.heappop")) (m_range : mg "range" = none) (m_isinstance : mg "isinstance" = none) (mv : mg "ValueError" = none) : FnOk P w K mg base CX0 (k + 7) f fd ["which", "number"] spCau := by
  have GT : FnOk P w K mg base (L2.CX P w) (k + 3) fT fdT ["sieves"] (spTot (C 2)) := ok_total DT.F (Z.T 2 (by decide)) Z.g2 DN gS hS m_range
  have GC : FnOk P w K mg base (L2.CX P w) (k + 3) fC fdC ["limit"] (spCnt8 (C 2)) := ok_cnt8 DC.F (Z.T 2 (by decide)) Z.g2 DN gS hS
  have GP : GFn2 P w K mg base (k + 3) fP fdP ["limit"] (spPipes1 (C 2)) := ok_pipes1 DP.F (Z.T 2 (by decide)) Z.g2 DN gS hS gP
  refine F.ok sc_law_caught (fun vs H Q E h => ?_) (fun cdv A outer s H vs Q E hr h => ?_)
  · obtain ⟨w, n, rfl, _⟩ := h
    rfl
  · obtain ⟨wy, n, rfl, hw, hn, q⟩ := h
    have hr3 := hr.mono (j := k + 3) (by omega)
    have hr6 := hr.mono (j := k + 6) (by omega)
    refine ⟨_, pss_cons (ps_try_as (i := 3) (tb := fun W => tIfS (tTest (tOp rEq (tVar 0) (tC (.int 0)))) (tForBreak2 (tCallG2 K (spPipes1 (C 2)) (WE W) (tCons (tVar 1) tNil)) (gName 2)) (tIfS (tTest (tOp rEq (tVar 0) (tC (.int 1)))) (tDrop (tCallS (spCnt8 (C 2)) (WE W) (tCons (tVar 1) tNil))) (tDrop (tCallS (spTot (C 2)) (WE W) (tCons (tVar 1) tNil)))))
        (ts := fun a cls dd => tSeq (tIfS (tTest (tCB (rIsTP K a cls dd) (tCons (tVar 3) (tCons (tTup (tCons (tC (.ref (C 1))) (tCons (tC (.ref (C 0))) (tCons (tC (.ref (C 3))) (tCons (tC (.ref (C 4))) tNil))))) tNil)))) (tRet (tC (.str "odd"))) tNext)
          (tRet (tTup (tCons (tCB (rIsP K a cls dd) (tCons (tVar 3) (tCons (tC (.ref (C 2))) tNil))) (tCons (tCB (rIsP K a cls dd) (tCons (tVar 3) (tCons (tC (.ty "ValueError")) tNil))) (tCons (tValP K a cls dd (tVar 3)) tNil)))))) (Wout := fun _ _ _ _ => False)
        rfl rfl sc_law_caught.nd rfl rfl ⟨rfl, by decide, Or.inl Z.gS⟩ takes0
      (fun W pn xe tk po => (pss_one (ps_if (pt_cmpR op_eq (pv 0) pe_int (nomark _)) (pss_one (by exact (ps_forBreak2 (E := WE W) po rfl (by exact (pgen2_call GP hr3 rfl DP.g DP.F.kp DP.b (pa_cons (pv 1) pa_nil))) (fun σ => passAt tk σ) hr6 (pg_name (i := 2) sc_law_caught.nd rfl (.inl rfl)))))
        (pss_one (ps_if (pt_cmpR op_eq (pv 0) pe_int (nomark _)) (pss_one (ps_expr (by exact (pe_callS GC hr3 rfl DC.g DC.F.kp DC.b (fun σ => passAt tk σ) (pa_cons (pv 1) pa_nil))))) (pss_one (ps_expr (by exact (pe_callS GT hr3 rfl DT.g DT.F.kp DT.b (fun σ => passAt tk σ) (pa_cons (pv 1) pa_nil))))))))))
      (fun a oe cls d pn hz hf => pss_cons (ps_if (pt_val (pe_callB (r := rIsTP K a cls d) (call_isTP pin_mem hz hf) (by rfl) m_isinstance (by decide +kernel) (pa_cons (pv 3) (pa_cons (pe_tup (pa_cons (pe_glob (v := .ref (C 1)) rfl Z.g1 rfl) (pa_cons (pe_glob (v := .ref (C 0)) rfl Z.g0 rfl) (pa_cons (pe_glob (v := .ref (C 3)) rfl Z.g3 rfl) (pa_cons (pe_glob (v := .ref (C 4)) rfl Z.g4 rfl) pa_nil))))) pa_nil)))) (pss_one (ps_ret pe_str)) pss_nil)
        (pss_one (ps_ret (pe_tup (pa_cons (pe_callB (r := rIsP K a cls d) (call_isP pin_mem hz hf) (by rfl) m_isinstance (by decide +kernel) (pa_cons (pv 3) (pa_cons (pe_glob (v := .ref (C 2)) rfl Z.g2 rfl) pa_nil)))
          (pa_cons (pe_callB (r := rIsP K a cls d) (call_isP pin_mem hz hf) (by rfl) m_isinstance (by decide +kernel) (pa_cons (pv 3) (pa_cons (pe_bltn (v := .ty "ValueError") (u := .type "ValueError") (by rfl) mv (by decide +kernel) rfl) pa_nil)))
          (pa_cons (pe_valP pin_mem hz hf (pv 3)) pa_nil))))))))
      (pss_one (ps_ret pe_non)), ?_⟩
    have fine : ¬ n < 0 → ∀ H', Same H H' → Q .non H' := fun h0 H' sm => q H' _ sm (by unfold CauAt; rw [if_neg h0])
    have rz : n < 0 → RzV (C 2) (.int n) H (WE (wAs K (.ref CS) 3 (fun a cls dd => tSeq (tIfS (tTest (tCB (rIsTP K a cls dd) (tCons (tVar 3) (tCons (tTup (tCons (tC (.ref (C 1))) (tCons (tC (.ref (C 0))) (tCons (tC (.ref (C 3))) (tCons (tC (.ref (C 4))) tNil))))) tNil)))) (tRet (tC (.str "odd"))) tNext)
          (tRet (tTup (tCons (tCB (rIsP K a cls dd) (tCons (tVar 3) (tCons (tC (.ref (C 2))) tNil))) (tCons (tCB (rIsP K a cls dd) (tCons (tVar 3) (tCons (tC (.ty "ValueError")) tNil))) (tCons (tValP K a cls dd (tVar 3)) tNil)))))) (fun _ _ _ _ => False)
          { nx := fun σ' H' => Q .non H', rt := Q }) [some (.int (wy : Nat)), some (.int n), none, none]) := by
      intro h0 H' d sm hd ev
      refine ⟨true, Z.ex 2 (by decide), fun _ => fun a na => ?_, fun z => by cases z⟩
      have hk : ∀ m, m ≠ 2 → m < 5 → PySem.W.kitOne K (.ref (C 2)) (.ref (C m)) = some false := fun m h1 h2 => by
        rw [Z.kt 2 m (by decide) h2, decide_eq_false (Ne.symm h1)]
      refine ⟨_, rfl, (by show 4 ≤ sizeLine; decide), fun tp ntp => ?_⟩
      have sm1 := same_upd (o := .tup [V.ref (C 1), V.ref (C 0), V.ref (C 3), V.ref (C 4)]) ntp
      have ev1 := sm1 _ _ ev
      refine ⟨C 2, d, fI 2, tp, _, [.ref (C 1), .ref (C 0), .ref (C 3), .ref (C 4)], false, rfl, rfl, rfl, ⟨_, ev1⟩, Z.T 2 (by decide), upd_same, .cons (.own _) (.cons (.own _) (.cons (.own _) (.cons (.own _) .nil))),
        kitAny_cons (hk 1 (by decide) (by decide)) (fun _ => kitAny_cons (hk 0 (by decide) (by decide)) (fun _ => kitAny_cons (hk 3 (by decide) (by decide)) (fun _ => kitAny_cons (hk 4 (by decide) (by decide)) (fun _ => rfl) (fun z => nomatch z)) (fun z => nomatch z)) (fun z => nomatch z)) (fun z => nomatch z), _, rfl, iteF ?_⟩
      refine ⟨_, rfl, C 2, d, fI 2, _, _, _, rfl, rfl, rfl, ⟨_, ev1⟩, Z.T 2 (by decide), .own _, Z.kt 2 2 (by decide) (by decide), ?_⟩
      refine ⟨_, rfl, C 2, d, fI 2, _, _, _, rfl, rfl, rfl, ⟨_, ev1⟩, Z.T 2 (by decide), .ty _, Z.kV 2 (by decide), ?_⟩
      refine ⟨_, rfl, C 2, d, fI 2, _, rfl, rfl, rfl, Z.T 2 (by decide), ev1, ?_⟩
      refine ⟨(by show 3 ≤ sizeLine; decide), fun tq ntq => ?_⟩
      have sm2 := sm.trans sm1
      refine q _ _ (sm2.trans (same_upd ntq)) ?_
      unfold CauAt
      rw [if_pos h0]
      exact ⟨tq, rfl, sm2.free ntq, upd_same⟩
    have eqn : ∀ j : Nat, decide (V.int (wy : Nat) = V.int (j : Nat)) = decide (wy = j) := fun j => decide_eq_decide.mpr ⟨fun z => by have := V.int.inj z; omega, fun z => by rw [z]⟩
    refine ⟨_, rfl, rfl, _, rfl, ite_b (c := wy = 0) (eqn 0) (fun e0 => ?_) (fun e0 => ?_)⟩
    · refine ⟨_, rfl, n, rfl, fun h0 => ⟨fun x H' sm => ?_, fun H' sm => ?_⟩, fun h0 H' d sm hd ev => ⟨rz h0 H' d sm hd ev, Z.st 2 (by decide)⟩⟩
      · exact fine (by omega) H' sm
      · exact fine (by omega) H' sm
    · refine ⟨_, rfl, rfl, _, rfl, ite_b (c := wy = 1) (eqn 1) (fun e1 => ?_) (fun e1 => ?_)⟩
      · exact ⟨_, rfl, n, rfl, hn, fun h0 H' c sm => fine (by omega) H' sm, rz⟩
      · exact ⟨_, rfl, n, rfl, by omega, fun j hj H' sm => fine (by omega) H' sm, rz⟩
end
end Tw

set_option Elab.async false
set_option linter.all false
set_option maxRecDepth 100000
set_option maxHeartbeats 2000000
namespace Tw
open PySem PySem.Spec PyProof.Rows L2
abbrev s_law : Stmt := topS 21
section
variable {P : Program} {w : World} {K : PySem.W.Frag} {mg : Str → Option Value} {base : Heap}
theorem sc_law : FnScope ["script", "bag", "turn", "many", "due", "step", "number", "which", "wanted"] ["script"] (defScope s_law) := ⟨rfl, rfl, rfl, by decide +kernel, rfl, by decide +kernel, by decide +kernel⟩
theorem kb_total {K : PySem.W.Frag} {f : Addr} {fd : FuncData} (F : Fun K "total_cost" "total_cost" s_total_cost f fd) : KBinds K fd ["sieves"] ["sieves"] (fun us ws => us ++ ws) (fun us ws => us ++ ws) :=
  fun_kbinds F (fun kV dc pm an cd ct us ws hl => match us, ws, hl with
    | [], [_], _ => rfl
    | [_], [], _ => rfl
    | [], [], h => by cases h
    | [], _ :: _ :: _, h => by simp at h
    | [_], _ :: _, h => by simp at h
    | _ :: _ :: _, _, h => by simp at h) (fun a b => Vals.append a b)
def spLaw (K : PySem.W.Frag) : Sp := fun vs H Q _ => ∃ (a : Addr) (ns : List Int), vs = [.ref a] ∧ SqL K H a (ns.map V.int) ∧ ns.length ≤ 63 ∧ ∀ H', Q (.bl true) H'
def dWant (n : Int) : PyData := if n < 0 then .tuple [.bool true, .bool true, .int n] else .none
theorem dp_want {K : PySem.W.Frag} {H H' : Hp} {x : V} {n : Int} (h : CauAt H H' x n) : Dp K H' x (dWant n) := by
  unfold CauAt at h
  unfold dWant
  by_cases h0 : n < 0
  · rw [if_pos h0] at h ⊢
    obtain ⟨q, rfl, _, e⟩ := h
    exact .tup (SqT.of e) (.cons (.bl _) (.cons (.bl _) (.cons (.int _) .nil)))
  · rw [if_neg h0] at h ⊢
    rw [h]
    exact .non
theorem want_sh (n : Int) : SeqAt.shaped (dWant n) = true ∧ PyData.eqv (dWant n) (dWant n) = true := by
  unfold dWant
  split
  · exact ⟨rfl, SeqAt.eqv_refl _ rfl⟩
  · exact ⟨rfl, rfl⟩
theorem ok_law {C fI : Nat → Addr} {CS aS : Addr} (Z : K4 K mg C fI CS) {f fB fD fX fN fT fC fP : Addr} {fd fdB fdD fdX fdN fdT fdC fdP : FuncData} (F : Fun K "law" "law" s_law f fd)
    (D_law_bag : Dfn K mg "_law_bag" s_law_bag ["script"] fB fdB) (D_law_draw : Dfn K mg "_law_draw" s_law_draw ["bag", "many"] fD fdD) (D_law_caught : Dfn K mg "_law_caught" s_law_caught ["which", "number"] fX fdX)
    (DN : Dfn K mg "check_not_negative" s_check_not_negative ["number"] fN fdN) (Dtotal_cost : Dfn K mg "total_cost" s_total_cost ["sieves"] fT fdT) (DC : Dfn K mg "count_pipelines" s_count_pipelines ["limit"] fC fdC) (DP : Dfn K mg "pipelines" s_pipelines ["limit"] fP fdP)
    (gS : mg "START" = some (.ref aS)) (hS : ∀ H, SqT K H aS [V.int 2, V.int 1]) (gP : mg "heappop" = some (.builtin "_heapq.heappop")) (hdig : PySem.W.nsIn K cStatics "sys.int_max_str_digits" = some none)
    (m_range : mg "range" = none) (m_isinstance : mg "isinstance" = none) (mv : mg "ValueError" = none) (m_abs : mg "abs" = none) (m_len : mg "len" = none) (m_min : mg "min" = none) (m_repr : mg "repr" = none) :
    RunA P w K mg base CX0 callerA f fd ["script"] (spLaw K) := by
  have G_law_bag : FnOk P w K mg base CX0 7 fB fdB ["script"] (spBag K) := ok_bag D_law_bag.F m_abs
  have G_law_draw : FnOk P w K mg base CX0 7 fD fdD ["bag", "many"] spBDraw := ok_bdraw D_law_draw.F m_len
  have G_law_caught : FnOk P w K mg base CX0 7 fX fdX ["which", "number"] spCau := ok_cau (k := 0) Z D_law_caught.F DN Dtotal_cost DC DP gS hS gP m_range m_isinstance mv
  have Gt : FnOk P w K mg base (L2.CX P w) 7 fT fdT ["sieves"] (spTot (C 2)) := ok_total (k := 4) Dtotal_cost.F (Z.T 2 (by decide)) Z.g2 DN gS hS m_range
  have Gtotal_cost : FnOk P w K mg base CX0 7 fT fdT ["sieves"] spTot0 := fn0 Gt fun vs H Q E h => by
    obtain ⟨j, rfl, hj, q⟩ := h
    refine ⟨_, rfl, by omega, fun j' e H' sm => ?_, fun h => by omega⟩
    have : j' = j := by omega
    subst this
    rw [totV_eq]
    exact q H' sm
  refine runA_of (k := 7) F sc_law ⟨rfl, by decide, by decide⟩ (fun vs H Q E h => ?_) (fun cdv s H vs Q E hr h => ?_)
  · obtain ⟨a, ns, rfl, _⟩ := h
    rfl
  · obtain ⟨a, ns, rfl, hS0, hlen, q⟩ := h
    refine ⟨_, PSs.nox (pss_cons (ps_set (i := 1) sc_law.nd rfl (.inl rfl) (pe_call G_law_bag hr rfl D_law_bag.g D_law_bag.F.kp D_law_bag.b .nil pass0 (pa_cons (pv 0) pa_nil)))
 (pss_cons (ps_for PassesOwn.never rfl (pi_range1 (by rfl) m_range (pa_cons (pe_op op_add pe_int (pe_callB (call_min2 rfl) (by rfl) m_min boot_min (pa_cons pe_int (pa_cons (pe_callB call_len_seq (by rfl) m_len PySem.boot_len (pa_cons (pv 0) pa_nil)) pa_nil)))) pa_nil)) (pg_name (i := 2) sc_law.nd rfl (.inl rfl))
  (pss_cons (ps_set (i := 3) sc_law.nd rfl (.inl rfl) (pe_op op_add pe_int (pe_call G_law_draw hr rfl D_law_draw.g D_law_draw.F.kp D_law_draw.b .nil pass0 (pa_cons (pv 1) (pa_cons (pe_ix ix_tup (pe_tup (pa_cons pe_int (pa_cons pe_int pa_nil))) (pe_call G_law_draw hr rfl D_law_draw.g D_law_draw.F.kp D_law_draw.b .nil pass0 (pa_cons (pv 1) (pa_cons pe_int pa_nil))) (fun _ _ => rfl)) pa_nil)))))
 (pss_cons (ps_set (i := 4) sc_law.nd rfl (.inl rfl) pe_int)
 (pss_cons (ps_for PassesOwn.never rfl (pi_range1 (by rfl) m_range (pa_cons (pe_op op_sub (pv 3) pe_int) pa_nil)) (pg_name (i := 5) sc_law.nd rfl (.inl rfl))
  (pss_one (ps_set (i := 4) sc_law.nd rfl (.inl rfl) (pe_op op_mul (pv 4) pe_int))))
 (pss_cons (ps_if (PW.pt (pw_or (pt_cmpR op_ne (pe_callB (call_reprW hdig) (by rfl) m_repr boot_repr (pa_cons (pe_call Gtotal_cost hr rfl Dtotal_cost.g Dtotal_cost.F.kp Dtotal_cost.b .nil pass0 (pa_cons (pv 3) pa_nil)) pa_nil)) (pe_callB (call_reprW hdig) (by rfl) m_repr boot_repr (pa_cons (pv 4) pa_nil)) (nomark _)) (pw_or (pt_cmpR op_ne (pe_callK0 Gtotal_cost hr rfl Dtotal_cost.g Dtotal_cost.F.kp (kb_total Dtotal_cost.F) pass0 (pk_cons (pv 3) pk_nil)) (pv 4) (nomark _)) (pw_or1 (pt_cmpR op_ne (pe_call Gtotal_cost hr rfl Dtotal_cost.g Dtotal_cost.F.kp Dtotal_cost.b .nil pass0 (pa_cons pe_int pa_nil)) pe_int (nomark _)))))) (pss_one (ps_ret pe_bl)) pss_nil)
 (pss_cons (ps_set (i := 6) sc_law.nd rfl (.inl rfl) (pe_ix ix_tup (pe_tup (pa_cons (pe_call G_law_draw hr rfl D_law_draw.g D_law_draw.F.kp D_law_draw.b .nil pass0 (pa_cons (pv 1) (pa_cons pe_int pa_nil))) (pa_cons (pe_un un_neg pe_int) (pa_cons (pe_op op_sub pe_int (pe_call G_law_draw hr rfl D_law_draw.g D_law_draw.F.kp D_law_draw.b .nil pass0 (pa_cons (pv 1) (pa_cons (pe_op op_pow pe_int pe_int) pa_nil)))) pa_nil)))) (pe_call G_law_draw hr rfl D_law_draw.g D_law_draw.F.kp D_law_draw.b .nil pass0 (pa_cons (pv 1) (pa_cons pe_int pa_nil))) (fun _ _ => rfl)))
 (pss_one (ps_for PassesOwn.never rfl (pi_range1 (by rfl) m_range (pa_cons pe_int pa_nil)) (pg_name (i := 7) sc_law.nd rfl (.inl rfl))
  (pss_cons (ps_set (i := 8) sc_law.nd rfl (.inl rfl) pe_non)
 (pss_cons (ps_if (pt_cmpR op_lt (pv 6) pe_int (nomark _)) (pss_one (ps_set (i := 8) sc_law.nd rfl (.inl rfl) (pe_tup (pa_cons pe_bl (pa_cons pe_bl (pa_cons (pv 6) pa_nil)))))) pss_nil)
 (pss_one (ps_if (pt_cmpR (op_neD hr.units) (pe_call G_law_caught hr rfl D_law_caught.g D_law_caught.F.kp D_law_caught.b .nil pass0 (pa_cons (pv 7) (pa_cons (pv 6) pa_nil))) (pv 8) (nomark _)) (pss_one (ps_ret pe_bl)) pss_nil))))))))))))
 (pss_one (ps_ret pe_bl)))), ?_⟩
    refine ⟨_, rfl, a, ns, rfl, hS0, hlen, fun H1 b g f0 sm1 nb ng B1 => ?_⟩
    have hS1 : SqL K H1 a (ns.map V.int) := sm1.seq hS0
    have nl : (if (((ns.map V.int).length : Nat) : Int) < 9 then (((ns.map V.int).length : Nat) : Int) else 9) ≤ 9 ∧ 0 ≤ (if (((ns.map V.int).length : Nat) : Int) < 9 then (((ns.map V.int).length : Nat) : Int) else 9) := by
      split <;> omega
    refine ⟨_, rfl, a, _, rfl, .inl hS1, _, _, rfl, _, _, rfl, rfl, _, rfl, by omega, by omega, for_range (fun i σ H' => ∃ t y2 y3 y4 y5 y6 y7 y8, σ = [some (.ref a), some (.ref b), y2, y3, y4, y5, y6, y7, y8] ∧ Bag b g t f0 H' ∧ t ≤ 10 * (i : Nat) ∧ i ≤ 12)
      ⟨0, none, none, none, none, none, none, none, rfl, B1, by omega, by omega⟩ ?_ ?_⟩
    · rintro i0 σ H2 hi0 ⟨t2, y2, y3, y4, y5, y6, y7, y8, rfl, B2, le2, i12⟩
      have hi1 : i0 + 1 ≤ 12 := by omega
      -- how many
      refine ⟨_, rfl, (by show 2 ≤ sizeLine; decide), fun tp ntp => ?_⟩
      have sp := same_upd (o := .tup [V.int 20, V.int 1000]) ntp
      refine ⟨_, rfl, b, g, t2, f0, 2, rfl, B2.same sp, ⟨by decide, by decide⟩, by omega, fun H3 t3 v3 sm3 B3 le3 v30 v31 => ?_⟩
      have ntb : tp ≠ b := by obtain ⟨_, _, h1, _⟩ := B2; exact Ne.symm (ne_of_none h1 ntp)
      have ntg : tp ≠ g := by obtain ⟨_, _, _, h1, _⟩ := B2; exact Ne.symm (ne_of_none h1 ntp)
      obtain ⟨mx, hmx, amx⟩ := pick (xs := [20, 1000]) v30 v31
      have mx2 : 20 ≤ mx ∧ mx ≤ 1000 := (by decide : ∀ x ∈ ([20, 1000] : List Int), 20 ≤ x ∧ x ≤ 1000) mx hmx
      refine ⟨tp, _, _, _, rfl, rfl, SqT.of (sm3 _ _ ntb ntg upd_same), amx, ?_⟩
      refine ⟨b, g, t3, f0, mx, rfl, B3, ⟨by omega, Int.lt_of_le_of_lt mx2.2 (by decide)⟩, by omega, fun H4 t4 v4 sm4 B4 le4 v40 v41 => ?_⟩
      refine ⟨_, _, rfl, rfl, ?_⟩
      obtain ⟨j, rfl⟩ := Int.eq_ofNat_of_zero_le v40
      have hj : j < 1000 := by omega
      -- what is due
      refine ⟨_, rfl, _, _, rfl, rfl, ((j : Nat) : Int), congrArg (fun z => [V.int z]) (show (1 + (j : Int)) - 1 = (j : Nat) by omega), by omega, by omega, for_range (n := j) (fun i σ H' => ∃ y5, σ = [some (.ref a), some (.ref b), some (.int (0 + (i0 : Nat))), some (.int (1 + (j : Nat))), some (.int (9 * 4 ^ i)), y5, y6, y7, y8] ∧ H' = H4) ⟨y5, rfl, rfl⟩ ?_ ?_⟩
      · rintro i σ H5 hi ⟨y5, rfl, rfl⟩
        refine ⟨_, rfl, _, _, rfl, rfl, .inr ⟨by decide, by decide⟩, ?_⟩
        refine ⟨some (.int (0 + (i : Nat))), ?_, rfl⟩
        rw [Int.pow_succ, ← Int.mul_assoc]
        rfl
      · rintro σ H5 ⟨y5, rfl, rfl⟩
        have e1 : (1 + (j : Int)) = ((j + 1 : Nat) : Int) := by omega
        rw [e1]
        have lg := totV_log (j + 1) (by omega)
        refine ⟨_, rfl, j + 1, rfl, by omega, fun H6 sm6 => ⟨_, rfl, lg, _, rfl, _, rfl, lg, rfl, _, rfl, iteNS rfl ?_⟩⟩
        refine ⟨_, rfl, j + 1, rfl, by omega, fun H7 sm7 => ⟨_, rfl, rfl, _, rfl, iteNS rfl ?_⟩⟩
        refine ⟨0, rfl, by omega, fun H8 sm8 => ⟨rfl, _, rfl, iteNS rfl ?_⟩⟩
        have B8 := B4.same (sm6.trans (sm7.trans sm8))
        -- the number
        refine ⟨_, rfl, b, g, t4, f0, 9, rfl, B8, ⟨by decide, by decide⟩, by omega, fun H9 t9 v9 sm9 B9 le9 v90 v91 => ?_⟩
        refine ⟨_, rfl, ?_⟩
        refine ⟨_, rfl, _, _, rfl, rfl, ⟨by decide, by decide, by decide⟩, b, g, t9, f0, _, rfl, B9, ⟨by decide +kernel, by decide +kernel⟩, by omega, fun Ha ta va sma Ba lea va0 va1 => ?_⟩
        refine ⟨_, _, rfl, rfl, (by show 3 ≤ sizeLine; decide), fun tq ntq => ?_⟩
        have sq := same_upd (o := .tup [V.int v9, V.int (-1), V.int (0 - va)]) ntq
        refine ⟨_, rfl, b, g, ta, f0, 3, rfl, Ba.same sq, ⟨by decide, by decide⟩, by omega, fun Hb tb vb smb Bb leb vb0 vb1 => ?_⟩
        have nqb : tq ≠ b := by obtain ⟨_, _, h1, _⟩ := Ba; exact Ne.symm (ne_of_none h1 ntq)
        have nqg : tq ≠ g := by obtain ⟨_, _, _, h1, _⟩ := Ba; exact Ne.symm (ne_of_none h1 ntq)
        obtain ⟨n, hn, an⟩ := pick (xs := [v9, -1, 0 - va]) vb0 vb1
        have n8 : n ≤ 8 := by
          simp only [List.mem_cons, List.not_mem_nil, or_false] at hn
          rcases hn with e | e | e <;> omega
        refine ⟨tq, _, _, _, rfl, rfl, SqT.of (smb _ _ nqb nqg upd_same), an, ?_⟩
        refine ⟨_, rfl, by decide, by decide, for_range (fun i σ H' => ∃ y7 y8, σ = [some (.ref a), some (.ref b), some (.int (0 + (i0 : Nat))), some (.int ((j + 1 : Nat) : Int)), some (.int (9 * 4 ^ j)), y5, some (.int n), y7, y8] ∧ Same Hb H') ⟨y7, y8, rfl, Same.refl _⟩ ?_ ?_⟩
        · rintro i σ Hc hi ⟨y7, y8, rfl, smc⟩
          have hi3 : i < 3 := hi
          refine ⟨_, rfl, _, _, rfl, rfl, _, rfl, ?_⟩
          have main : ∀ Hd y, Same Hb Hd → CauAt Hc Hd y n → ∀ (R : L2.St → Hp → Prop), (∀ H', Same Hb H' → R [some (.ref a), some (.ref b), some (.int (0 + (i0 : Nat))), some (.int ((j + 1 : Nat) : Int)), some (.int (9 * 4 ^ j)), y5, some (.int n), some (.int (0 + (i : Nat))), some y] H') → True := fun _ _ _ _ _ _ => trivial
          refine ite2 (fun hb => ?A) (fun hb => ?B)
          case' A =>
            have hneg := of_decide_eq_true hb
            refine ⟨_, rfl, (by show 3 ≤ sizeLine; decide), fun tw ntw => ?_⟩
            have smw := smc.trans (same_upd (o := .tup [V.bl true, V.bl true, V.int n]) ntw)
            have cw : CauAt Hc (upd Hc tw (.tup [V.bl true, V.bl true, V.int n])) (.ref tw) n := by
              unfold CauAt
              rw [if_pos hneg]
              exact ⟨tw, rfl, ntw, upd_same⟩
          case' B =>
            have hneg : ¬ n < 0 := fun z => hb (decide_eq_true z)
            have smw := smc
            have cw : CauAt Hc Hc .non n := by
              unfold CauAt
              rw [if_neg hneg]
          all_goals
            refine ⟨_, rfl, _, rfl, i, n, congrArg (fun z => [V.int z, V.int n]) (Int.zero_add _), hi3, n8, fun He x sme ce => ?_⟩
            refine ⟨_, rfl, dWant n, dWant n, dp_want ce, dp_same sme (dp_want cw), (want_sh n).1, (want_sh n).1, _, rfl, ?_⟩
            rw [(want_sh n).2]
            exact iteF ⟨_, _, rfl, smw.trans sme⟩
        · rintro σ Hc ⟨y7, y8, rfl, smc⟩
          exact ⟨tb, _, _, _, _, _, _, _, rfl, Bb.same smc, by omega, hi1⟩
    · rintro σ H2 ⟨t2, y2, y3, y4, y5, y6, y7, y8, rfl, B2, le2, i12⟩
      exact q _
end
end Tw

set_option Elab.async false
set_option linter.all false
set_option maxRecDepth 100000
set_option maxHeartbeats 2000000
namespace Tw
open PySem PySem.Spec PyProof.Rows L2
theorem all_mk {l : PySem.W.OpenLaw} {w : World} {K : PySem.W.Frag} {h : Heap} {mg : Str → Option Value} {fa f0 CS : Addr} (X : K.In h) (G : h.Ns mainGlobals mg) (hfa : mg "law" = some (.ref fa))
    {od0 an0 : Option Addr} {sl0 : Array (Option Value)} {oc0 kV0 dc0 pm0 cd0 ct0 : Value}
    {aT : Addr} {dT : Option Addr} {tA tB : Tok} {nT : Nat} {slT : Array (Option Value)}
    {f1 : Addr} {od1 an1 : Option Addr} {sl1 : Array (Option Value)} {oc1 kV1 dc1 pm1 cd1 ct1 : Value}
    {f2 : Addr} {od2 an2 : Option Addr} {sl2 : Array (Option Value)} {oc2 kV2 dc2 pm2 cd2 ct2 : Value}
    {f3 : Addr} {od3 an3 : Option Addr} {sl3 : Array (Option Value)} {oc3 kV3 dc3 pm3 cd3 ct3 : Value}
    {f4 : Addr} {od4 an4 : Option Addr} {sl4 : Array (Option Value)} {oc4 kV4 dc4 pm4 cd4 ct4 : Value}
    {f5 : Addr} {od5 an5 : Option Addr} {sl5 : Array (Option Value)} {oc5 kV5 dc5 pm5 cd5 ct5 : Value}
    {f6 : Addr} {od6 an6 : Option Addr} {sl6 : Array (Option Value)} {oc6 kV6 dc6 pm6 cd6 ct6 : Value}
    {f7 : Addr} {od7 an7 : Option Addr} {sl7 : Array (Option Value)} {oc7 kV7 dc7 pm7 cd7 ct7 : Value}
    {C0 fI0 : Addr} {nm0 q0 : Str} {N0 : Addr} {bs0 : List Value} {sn0 : List Str} {sub0 : List Value} {ab0 : Bool} {col0 : Option Bool} {dd0 : Option Addr} {mA0 mB0 mC0 mD0 mE0 : Option Value} {odI0 anI0 : Option Addr} {slI0 : Array (Option Value)} {ocI0 dcI0 pmI0 cdI0 ctI0 : Value} {pA0 pB0 pC0 pD0 pE0 pF0 : Pos}
    {C1 fI1 : Addr} {nm1 q1 : Str} {N1 : Addr} {bs1 : List Value} {sn1 : List Str} {sub1 : List Value} {ab1 : Bool} {col1 : Option Bool} {dd1 : Option Addr} {mA1 mB1 mC1 mD1 mE1 : Option Value} {odI1 anI1 : Option Addr} {slI1 : Array (Option Value)} {ocI1 dcI1 pmI1 cdI1 ctI1 : Value} {pA1 pB1 pC1 pD1 pE1 pF1 : Pos}
    {C2 fI2 : Addr} {nm2 q2 : Str} {N2 : Addr} {bs2 : List Value} {sn2 : List Str} {sub2 : List Value} {ab2 : Bool} {col2 : Option Bool} {dd2 : Option Addr} {mA2 mB2 mC2 mD2 mE2 : Option Value} {odI2 anI2 : Option Addr} {slI2 : Array (Option Value)} {ocI2 dcI2 pmI2 cdI2 ctI2 : Value} {pA2 pB2 pC2 pD2 pE2 pF2 : Pos}
    {C3 fI3 : Addr} {nm3 q3 : Str} {N3 : Addr} {bs3 : List Value} {sn3 : List Str} {sub3 : List Value} {ab3 : Bool} {col3 : Option Bool} {dd3 : Option Addr} {mA3 mB3 mC3 mD3 mE3 : Option Value} {odI3 anI3 : Option Addr} {slI3 : Array (Option Value)} {ocI3 dcI3 pmI3 cdI3 ctI3 : Value} {pA3 pB3 pC3 pD3 pE3 pF3 : Pos}
    {C4 fI4 : Addr} {nm4 q4 : Str} {N4 : Addr} {bs4 : List Value} {sn4 : List Str} {sub4 : List Value} {ab4 : Bool} {col4 : Option Bool} {dd4 : Option Addr} {mA4 mB4 mC4 mD4 mE4 : Option Value} {odI4 anI4 : Option Addr} {slI4 : Array (Option Value)} {ocI4 dcI4 pmI4 cdI4 ctI4 : Value} {pA4 pB4 pC4 pD4 pE4 pF4 : Pos}
    (aS : PySem.W.nsIn K mainGlobals "SieveError" = some (some (.ref CS)))
    (xC0 : PySem.W.nsIn K mainGlobals "InvalidRow" = some (some (.ref C0)))
    (xL0 : K.lookup C0 = some (excClassObj nm0 q0 C0 N0 bs0 [.ref CS, .type "ValueError", .type "Exception", .type "BaseException", .type "object"] true sn0 sub0 ab0 col0 dd0 mA0 mB0 mC0 mD0 mE0 "ValueError.__new__"))
    (xA0 : PySem.W.findIn K (.ref C0) "__setattr__" = some (some (.builtin "object.__setattr__")))
    (xG0 : PySem.W.findIn K (.ref C0) "__getattribute__" = some (some (.builtin "BaseException.__getattribute__")))
    (xH0 : PySem.W.findIn K (.ref C0) "__getattr__" = some none)
    (xN0 : PySem.W.findIn K (.ref C0) "value" = some none)
    (xI0 : PySem.W.findIn K (.ref C0) "__init__" = some (some (.ref fI0)))
    (xT0 : PySem.W.typeIn K (.ref fI0) = some (.type "function"))
    (xF0 : K.lookup fI0 = some ⟨ocI0, odI0, .func (PySem.W.fnOf "__init__" "InvalidRow.__init__" (TwX.iA pA0 pB0) (TwX.iB pC0 pD0 pE0 pF0) TwX.iS .none .none dcI0 pmI0 anI0 cdI0 ctI0), slI0⟩)
    (xO0 : PySem.W.codeIn K cdI0 "InvalidRow.__init__" = true)
    (xK0 : PySem.W.keepIn K (.ref C0) = true)
    (xE0 : PySem.W.subIn K (.ref C0) (.type "BaseException") = some true)
    (xY0 : PySem.W.typeIn K (.ref C0) = some (.type "type"))
    (xD0 : PySem.W.hasDictIn K C0 = true)
    (xP0 : PySem.W.findIn K (.ref C0) "__class__" = some (some (.builtin "object.__class__")))
    (xM0 : PySem.W.mroIn K C0 (.type "object") = some true)
    (xC1 : PySem.W.nsIn K mainGlobals "InvalidPipeline" = some (some (.ref C1)))
    (xL1 : K.lookup C1 = some (excClassObj nm1 q1 C1 N1 bs1 [.ref CS, .type "ValueError", .type "Exception", .type "BaseException", .type "object"] true sn1 sub1 ab1 col1 dd1 mA1 mB1 mC1 mD1 mE1 "ValueError.__new__"))
    (xA1 : PySem.W.findIn K (.ref C1) "__setattr__" = some (some (.builtin "object.__setattr__")))
    (xG1 : PySem.W.findIn K (.ref C1) "__getattribute__" = some (some (.builtin "BaseException.__getattribute__")))
    (xH1 : PySem.W.findIn K (.ref C1) "__getattr__" = some none)
    (xN1 : PySem.W.findIn K (.ref C1) "value" = some none)
    (xI1 : PySem.W.findIn K (.ref C1) "__init__" = some (some (.ref fI1)))
    (xT1 : PySem.W.typeIn K (.ref fI1) = some (.type "function"))
    (xF1 : K.lookup fI1 = some ⟨ocI1, odI1, .func (PySem.W.fnOf "__init__" "InvalidPipeline.__init__" (TwX.iA pA1 pB1) (TwX.iB pC1 pD1 pE1 pF1) TwX.iS .none .none dcI1 pmI1 anI1 cdI1 ctI1), slI1⟩)
    (xO1 : PySem.W.codeIn K cdI1 "InvalidPipeline.__init__" = true)
    (xK1 : PySem.W.keepIn K (.ref C1) = true)
    (xE1 : PySem.W.subIn K (.ref C1) (.type "BaseException") = some true)
    (xY1 : PySem.W.typeIn K (.ref C1) = some (.type "type"))
    (xD1 : PySem.W.hasDictIn K C1 = true)
    (xP1 : PySem.W.findIn K (.ref C1) "__class__" = some (some (.builtin "object.__class__")))
    (xM1 : PySem.W.mroIn K C1 (.type "object") = some true)
    (xC2 : PySem.W.nsIn K mainGlobals "InvalidNumber" = some (some (.ref C2)))
    (xL2 : K.lookup C2 = some (excClassObj nm2 q2 C2 N2 bs2 [.ref CS, .type "ValueError", .type "Exception", .type "BaseException", .type "object"] true sn2 sub2 ab2 col2 dd2 mA2 mB2 mC2 mD2 mE2 "ValueError.__new__"))
    (xA2 : PySem.W.findIn K (.ref C2) "__setattr__" = some (some (.builtin "object.__setattr__")))
    (xG2 : PySem.W.findIn K (.ref C2) "__getattribute__" = some (some (.builtin "BaseException.__getattribute__")))
    (xH2 : PySem.W.findIn K (.ref C2) "__getattr__" = some none)
    (xN2 : PySem.W.findIn K (.ref C2) "value" = some none)
    (xI2 : PySem.W.findIn K (.ref C2) "__init__" = some (some (.ref fI2)))
    (xT2 : PySem.W.typeIn K (.ref fI2) = some (.type "function"))
    (xF2 : K.lookup fI2 = some ⟨ocI2, odI2, .func (PySem.W.fnOf "__init__" "InvalidNumber.__init__" (TwX.iA pA2 pB2) (TwX.iB pC2 pD2 pE2 pF2) TwX.iS .none .none dcI2 pmI2 anI2 cdI2 ctI2), slI2⟩)
    (xO2 : PySem.W.codeIn K cdI2 "InvalidNumber.__init__" = true)
    (xK2 : PySem.W.keepIn K (.ref C2) = true)
    (xE2 : PySem.W.subIn K (.ref C2) (.type "BaseException") = some true)
    (xY2 : PySem.W.typeIn K (.ref C2) = some (.type "type"))
    (xD2 : PySem.W.hasDictIn K C2 = true)
    (xP2 : PySem.W.findIn K (.ref C2) "__class__" = some (some (.builtin "object.__class__")))
    (xM2 : PySem.W.mroIn K C2 (.type "object") = some true)
    (xC3 : PySem.W.nsIn K mainGlobals "NothingToUndo" = some (some (.ref C3)))
    (xL3 : K.lookup C3 = some (excClassObj nm3 q3 C3 N3 bs3 [.ref CS, .type "ValueError", .type "Exception", .type "BaseException", .type "object"] true sn3 sub3 ab3 col3 dd3 mA3 mB3 mC3 mD3 mE3 "ValueError.__new__"))
    (xA3 : PySem.W.findIn K (.ref C3) "__setattr__" = some (some (.builtin "object.__setattr__")))
    (xG3 : PySem.W.findIn K (.ref C3) "__getattribute__" = some (some (.builtin "BaseException.__getattribute__")))
    (xH3 : PySem.W.findIn K (.ref C3) "__getattr__" = some none)
    (xN3 : PySem.W.findIn K (.ref C3) "value" = some none)
    (xI3 : PySem.W.findIn K (.ref C3) "__init__" = some (some (.ref fI3)))
    (xT3 : PySem.W.typeIn K (.ref fI3) = some (.type "function"))
    (xF3 : K.lookup fI3 = some ⟨ocI3, odI3, .func (PySem.W.fnOf "__init__" "NothingToUndo.__init__" (TwX.iA pA3 pB3) (TwX.iB pC3 pD3 pE3 pF3) TwX.iS .none .none dcI3 pmI3 anI3 cdI3 ctI3), slI3⟩)
    (xO3 : PySem.W.codeIn K cdI3 "NothingToUndo.__init__" = true)
    (xK3 : PySem.W.keepIn K (.ref C3) = true)
    (xE3 : PySem.W.subIn K (.ref C3) (.type "BaseException") = some true)
    (xY3 : PySem.W.typeIn K (.ref C3) = some (.type "type"))
    (xD3 : PySem.W.hasDictIn K C3 = true)
    (xP3 : PySem.W.findIn K (.ref C3) "__class__" = some (some (.builtin "object.__class__")))
    (xM3 : PySem.W.mroIn K C3 (.type "object") = some true)
    (xC4 : PySem.W.nsIn K mainGlobals "Unreadable" = some (some (.ref C4)))
    (xL4 : K.lookup C4 = some (excClassObj nm4 q4 C4 N4 bs4 [.ref CS, .type "ValueError", .type "Exception", .type "BaseException", .type "object"] true sn4 sub4 ab4 col4 dd4 mA4 mB4 mC4 mD4 mE4 "ValueError.__new__"))
    (xA4 : PySem.W.findIn K (.ref C4) "__setattr__" = some (some (.builtin "object.__setattr__")))
    (xG4 : PySem.W.findIn K (.ref C4) "__getattribute__" = some (some (.builtin "BaseException.__getattribute__")))
    (xH4 : PySem.W.findIn K (.ref C4) "__getattr__" = some none)
    (xN4 : PySem.W.findIn K (.ref C4) "value" = some none)
    (xI4 : PySem.W.findIn K (.ref C4) "__init__" = some (some (.ref fI4)))
    (xT4 : PySem.W.typeIn K (.ref fI4) = some (.type "function"))
    (xF4 : K.lookup fI4 = some ⟨ocI4, odI4, .func (PySem.W.fnOf "__init__" "Unreadable.__init__" (TwX.iA pA4 pB4) (TwX.iB pC4 pD4 pE4 pF4) TwX.iS .none .none dcI4 pmI4 anI4 cdI4 ctI4), slI4⟩)
    (xO4 : PySem.W.codeIn K cdI4 "Unreadable.__init__" = true)
    (xK4 : PySem.W.keepIn K (.ref C4) = true)
    (xE4 : PySem.W.subIn K (.ref C4) (.type "BaseException") = some true)
    (xY4 : PySem.W.typeIn K (.ref C4) = some (.type "type"))
    (xD4 : PySem.W.hasDictIn K C4 = true)
    (xP4 : PySem.W.findIn K (.ref C4) "__class__" = some (some (.builtin "object.__class__")))
    (xM4 : PySem.W.mroIn K C4 (.type "object") = some true)
    (hcn : PySem.W.specialIn K (.builtin "object.__class__") "__get__" = some (some (.builtin "getset_descriptor.__get__")))
    (hct : PySem.W.takesIn K (.builtin "object.__class__") = some true)
    (t00 : PySem.W.kitOne K (.ref C0) (.ref C0) = some true)
    (t01 : PySem.W.kitOne K (.ref C0) (.ref C1) = some false)
    (t02 : PySem.W.kitOne K (.ref C0) (.ref C2) = some false)
    (t03 : PySem.W.kitOne K (.ref C0) (.ref C3) = some false)
    (t04 : PySem.W.kitOne K (.ref C0) (.ref C4) = some false)
    (v0 : PySem.W.kitOne K (.ref C0) (.type "ValueError") = some true)
    (e0 : PySem.W.exmOne K (.ref C0) (.ref CS) = some true)
    (s0 : PySem.W.subIn K (.ref C0) (.type "StopIteration") = some false)
    (t10 : PySem.W.kitOne K (.ref C1) (.ref C0) = some false)
    (t11 : PySem.W.kitOne K (.ref C1) (.ref C1) = some true)
    (t12 : PySem.W.kitOne K (.ref C1) (.ref C2) = some false)
    (t13 : PySem.W.kitOne K (.ref C1) (.ref C3) = some false)
    (t14 : PySem.W.kitOne K (.ref C1) (.ref C4) = some false)
    (v1 : PySem.W.kitOne K (.ref C1) (.type "ValueError") = some true)
    (e1 : PySem.W.exmOne K (.ref C1) (.ref CS) = some true)
    (s1 : PySem.W.subIn K (.ref C1) (.type "StopIteration") = some false)
    (t20 : PySem.W.kitOne K (.ref C2) (.ref C0) = some false)
    (t21 : PySem.W.kitOne K (.ref C2) (.ref C1) = some false)
    (t22 : PySem.W.kitOne K (.ref C2) (.ref C2) = some true)
    (t23 : PySem.W.kitOne K (.ref C2) (.ref C3) = some false)
    (t24 : PySem.W.kitOne K (.ref C2) (.ref C4) = some false)
    (v2 : PySem.W.kitOne K (.ref C2) (.type "ValueError") = some true)
    (e2 : PySem.W.exmOne K (.ref C2) (.ref CS) = some true)
    (s2 : PySem.W.subIn K (.ref C2) (.type "StopIteration") = some false)
    (t30 : PySem.W.kitOne K (.ref C3) (.ref C0) = some false)
    (t31 : PySem.W.kitOne K (.ref C3) (.ref C1) = some false)
    (t32 : PySem.W.kitOne K (.ref C3) (.ref C2) = some false)
    (t33 : PySem.W.kitOne K (.ref C3) (.ref C3) = some true)
    (t34 : PySem.W.kitOne K (.ref C3) (.ref C4) = some false)
    (v3 : PySem.W.kitOne K (.ref C3) (.type "ValueError") = some true)
    (e3 : PySem.W.exmOne K (.ref C3) (.ref CS) = some true)
    (s3 : PySem.W.subIn K (.ref C3) (.type "StopIteration") = some false)
    (t40 : PySem.W.kitOne K (.ref C4) (.ref C0) = some false)
    (t41 : PySem.W.kitOne K (.ref C4) (.ref C1) = some false)
    (t42 : PySem.W.kitOne K (.ref C4) (.ref C2) = some false)
    (t43 : PySem.W.kitOne K (.ref C4) (.ref C3) = some false)
    (t44 : PySem.W.kitOne K (.ref C4) (.ref C4) = some true)
    (v4 : PySem.W.kitOne K (.ref C4) (.type "ValueError") = some true)
    (e4 : PySem.W.exmOne K (.ref C4) (.ref CS) = some true)
    (s4 : PySem.W.subIn K (.ref C4) (.type "StopIteration") = some false)
    (gT : PySem.W.nsIn K mainGlobals "START" = some (some (.ref aT)))
    (lT : K.lookup aT = some ⟨.type "tuple", dT, .seq #[.int 2 tA, .int 1 tB] nT, slT⟩)
    (gH : PySem.W.nsIn K mainGlobals "heappop" = some (some (.builtin "_heapq.heappop")))
    (hdig : PySem.W.nsIn K cStatics "sys.int_max_str_digits" = some none)
    (a0 : PySem.W.nsIn K mainGlobals "law" = some (some (.ref f0))) (l0 : K.lookup f0 = some ⟨oc0, od0, .func (PySem.W.fnOf "law" "law" (defArgs s_law) (defBody s_law) (defScope s_law) .none kV0 dc0 pm0 an0 cd0 ct0), sl0⟩) (c0 : PySem.W.codeIn K cd0 "law" = true) (k0 : PySem.W.keepIn K (.ref f0) = true)
    (a1 : PySem.W.nsIn K mainGlobals "_law_bag" = some (some (.ref f1))) (l1 : K.lookup f1 = some ⟨oc1, od1, .func (PySem.W.fnOf "_law_bag" "_law_bag" (defArgs s_law_bag) (defBody s_law_bag) (defScope s_law_bag) .none kV1 dc1 pm1 an1 cd1 ct1), sl1⟩) (c1 : PySem.W.codeIn K cd1 "_law_bag" = true) (k1 : PySem.W.keepIn K (.ref f1) = true)
    (a2 : PySem.W.nsIn K mainGlobals "_law_draw" = some (some (.ref f2))) (l2 : K.lookup f2 = some ⟨oc2, od2, .func (PySem.W.fnOf "_law_draw" "_law_draw" (defArgs s_law_draw) (defBody s_law_draw) (defScope s_law_draw) .none kV2 dc2 pm2 an2 cd2 ct2), sl2⟩) (c2 : PySem.W.codeIn K cd2 "_law_draw" = true) (k2 : PySem.W.keepIn K (.ref f2) = true)
    (a3 : PySem.W.nsIn K mainGlobals "_law_caught" = some (some (.ref f3))) (l3 : K.lookup f3 = some ⟨oc3, od3, .func (PySem.W.fnOf "_law_caught" "_law_caught" (defArgs s_law_caught) (defBody s_law_caught) (defScope s_law_caught) .none kV3 dc3 pm3 an3 cd3 ct3), sl3⟩) (c3 : PySem.W.codeIn K cd3 "_law_caught" = true) (k3 : PySem.W.keepIn K (.ref f3) = true)
    (a4 : PySem.W.nsIn K mainGlobals "check_not_negative" = some (some (.ref f4))) (l4 : K.lookup f4 = some ⟨oc4, od4, .func (PySem.W.fnOf "check_not_negative" "check_not_negative" (defArgs s_check_not_negative) (defBody s_check_not_negative) (defScope s_check_not_negative) .none kV4 dc4 pm4 an4 cd4 ct4), sl4⟩) (c4 : PySem.W.codeIn K cd4 "check_not_negative" = true) (k4 : PySem.W.keepIn K (.ref f4) = true)
    (a5 : PySem.W.nsIn K mainGlobals "total_cost" = some (some (.ref f5))) (l5 : K.lookup f5 = some ⟨oc5, od5, .func (PySem.W.fnOf "total_cost" "total_cost" (defArgs s_total_cost) (defBody s_total_cost) (defScope s_total_cost) .none kV5 dc5 pm5 an5 cd5 ct5), sl5⟩) (c5 : PySem.W.codeIn K cd5 "total_cost" = true) (k5 : PySem.W.keepIn K (.ref f5) = true)
    (a6 : PySem.W.nsIn K mainGlobals "count_pipelines" = some (some (.ref f6))) (l6 : K.lookup f6 = some ⟨oc6, od6, .func (PySem.W.fnOf "count_pipelines" "count_pipelines" (defArgs s_count_pipelines) (defBody s_count_pipelines) (defScope s_count_pipelines) .none kV6 dc6 pm6 an6 cd6 ct6), sl6⟩) (c6 : PySem.W.codeIn K cd6 "count_pipelines" = true) (k6 : PySem.W.keepIn K (.ref f6) = true)
    (a7 : PySem.W.nsIn K mainGlobals "pipelines" = some (some (.ref f7))) (l7 : K.lookup f7 = some ⟨oc7, od7, .func (PySem.W.fnOf "pipelines" "pipelines" (defArgs s_pipelines) (defBody s_pipelines) (defScope s_pipelines) .none kV7 dc7 pm7 an7 cd7 ct7), sl7⟩) (c7 : PySem.W.codeIn K cd7 "pipelines" = true) (k7 : PySem.W.keepIn K (.ref f7) = true)
    (z1 : PySem.W.nsIn K mainGlobals "range" = some none)
    (z2 : PySem.W.nsIn K mainGlobals "isinstance" = some none)
    (z3 : PySem.W.nsIn K mainGlobals "ValueError" = some none)
    (z4 : PySem.W.nsIn K mainGlobals "abs" = some none)
    (z5 : PySem.W.nsIn K mainGlobals "len" = some none)
    (z6 : PySem.W.nsIn K mainGlobals "min" = some none)
    (z7 : PySem.W.nsIn K mainGlobals "repr" = some none)
    : ∃ fd : FuncData, (∀ (s : Shared) (v : Value), BindsTo s fd ⟨[v], []⟩ [("script", v)]) ∧ ∀ base : Heap, K.In base → base.Ns mainGlobals mg → RunA l.prog w K mg base CX0 callerA fa fd ["script"] (spLaw K) := by
  have e := hfa.symm.trans (PySem.W.mg_of X G a0)
  cases e
  have T0 : TwX.ETxt K C0 fI0 := { cls := ⟨nm0, q0, N0, bs0, _, sn0, sub0, ab0, col0, dd0, mA0, mB0, mC0, mD0, mE0, xL0, rfl⟩, sa := xA0, ga := xG0, gg := xH0, noN := xN0, iC := xI0, tC := xT0, kC := xK0, exC := xE0, tyC := xY0, hdC := xD0, cl := xP0, cn := hcn, ct := hct, cm := xM0, fn := ⟨_, _, _, _, _, _, _, _, _, _, _, _, _, _, _, xF0, xO0⟩ }
  have T1 : TwX.ETxt K C1 fI1 := { cls := ⟨nm1, q1, N1, bs1, _, sn1, sub1, ab1, col1, dd1, mA1, mB1, mC1, mD1, mE1, xL1, rfl⟩, sa := xA1, ga := xG1, gg := xH1, noN := xN1, iC := xI1, tC := xT1, kC := xK1, exC := xE1, tyC := xY1, hdC := xD1, cl := xP1, cn := hcn, ct := hct, cm := xM1, fn := ⟨_, _, _, _, _, _, _, _, _, _, _, _, _, _, _, xF1, xO1⟩ }
  have T2 : TwX.ETxt K C2 fI2 := { cls := ⟨nm2, q2, N2, bs2, _, sn2, sub2, ab2, col2, dd2, mA2, mB2, mC2, mD2, mE2, xL2, rfl⟩, sa := xA2, ga := xG2, gg := xH2, noN := xN2, iC := xI2, tC := xT2, kC := xK2, exC := xE2, tyC := xY2, hdC := xD2, cl := xP2, cn := hcn, ct := hct, cm := xM2, fn := ⟨_, _, _, _, _, _, _, _, _, _, _, _, _, _, _, xF2, xO2⟩ }
  have T3 : TwX.ETxt K C3 fI3 := { cls := ⟨nm3, q3, N3, bs3, _, sn3, sub3, ab3, col3, dd3, mA3, mB3, mC3, mD3, mE3, xL3, rfl⟩, sa := xA3, ga := xG3, gg := xH3, noN := xN3, iC := xI3, tC := xT3, kC := xK3, exC := xE3, tyC := xY3, hdC := xD3, cl := xP3, cn := hcn, ct := hct, cm := xM3, fn := ⟨_, _, _, _, _, _, _, _, _, _, _, _, _, _, _, xF3, xO3⟩ }
  have T4 : TwX.ETxt K C4 fI4 := { cls := ⟨nm4, q4, N4, bs4, _, sn4, sub4, ab4, col4, dd4, mA4, mB4, mC4, mD4, mE4, xL4, rfl⟩, sa := xA4, ga := xG4, gg := xH4, noN := xN4, iC := xI4, tC := xT4, kC := xK4, exC := xE4, tyC := xY4, hdC := xD4, cl := xP4, cn := hcn, ct := hct, cm := xM4, fn := ⟨_, _, _, _, _, _, _, _, _, _, _, _, _, _, _, xF4, xO4⟩ }
  have D_law_bag := dfn_mk (st := s_law_bag) (ps := ["script"]) X G a1 l1 c1 k1 fun _ _ _ _ _ _ us hl => match us, hl with | [_], _ => rfl
  have D_law_draw := dfn_mk (st := s_law_draw) (ps := ["bag", "many"]) X G a2 l2 c2 k2 fun _ _ _ _ _ _ us hl => match us, hl with | [_, _], _ => rfl
  have D_law_caught := dfn_mk (st := s_law_caught) (ps := ["which", "number"]) X G a3 l3 c3 k3 fun _ _ _ _ _ _ us hl => match us, hl with | [_, _], _ => rfl
  have D_check_not_negative := dfn_mk (st := s_check_not_negative) (ps := ["number"]) X G a4 l4 c4 k4 fun _ _ _ _ _ _ us hl => match us, hl with | [_], _ => rfl
  have D_total_cost := dfn_mk (st := s_total_cost) (ps := ["sieves"]) X G a5 l5 c5 k5 fun _ _ _ _ _ _ us hl => match us, hl with | [_], _ => rfl
  have D_count_pipelines := dfn_mk (st := s_count_pipelines) (ps := ["limit"]) X G a6 l6 c6 k6 fun _ _ _ _ _ _ us hl => match us, hl with | [_], _ => rfl
  have D_pipelines := dfn_mk (st := s_pipelines) (ps := ["limit"]) X G a7 l7 c7 k7 fun _ _ _ _ _ _ us hl => match us, hl with | [_], _ => rfl
  have m_range := PySem.W.mg_none_of X G z1
  have m_isinstance := PySem.W.mg_none_of X G z2
  have m_ValueError := PySem.W.mg_none_of X G z3
  have m_abs := PySem.W.mg_none_of X G z4
  have m_len := PySem.W.mg_none_of X G z5
  have m_min := PySem.W.mg_none_of X G z6
  have m_repr := PySem.W.mg_none_of X G z7
  have Z : K4 K mg (fun i => match i with | 0 => C0 | 1 => C1 | 2 => C2 | 3 => C3 | _ => C4) (fun i => match i with | 0 => fI0 | 1 => fI1 | 2 => fI2 | 3 => fI3 | _ => fI4) CS := {
    T := fun i hi => match i, hi with | 0, _ => T0 | 1, _ => T1 | 2, _ => T2 | 3, _ => T3 | 4, _ => T4
    g0 := PySem.W.mg_of X G xC0
    g1 := PySem.W.mg_of X G xC1
    g2 := PySem.W.mg_of X G xC2
    g3 := PySem.W.mg_of X G xC3
    g4 := PySem.W.mg_of X G xC4
    gS := PySem.W.mg_of X G aS
    kt := fun i j hi hj => match i, j, hi, hj with | 0, 0, _, _ => t00 | 0, 1, _, _ => t01 | 0, 2, _, _ => t02 | 0, 3, _, _ => t03 | 0, 4, _, _ => t04 | 1, 0, _, _ => t10 | 1, 1, _, _ => t11 | 1, 2, _, _ => t12 | 1, 3, _, _ => t13 | 1, 4, _, _ => t14 | 2, 0, _, _ => t20 | 2, 1, _, _ => t21 | 2, 2, _, _ => t22 | 2, 3, _, _ => t23 | 2, 4, _, _ => t24 | 3, 0, _, _ => t30 | 3, 1, _, _ => t31 | 3, 2, _, _ => t32 | 3, 3, _, _ => t33 | 3, 4, _, _ => t34 | 4, 0, _, _ => t40 | 4, 1, _, _ => t41 | 4, 2, _, _ => t42 | 4, 3, _, _ => t43 | 4, 4, _, _ => t44
    kV := fun i hi => match i, hi with | 0, _ => v0 | 1, _ => v1 | 2, _ => v2 | 3, _ => v3 | 4, _ => v4
    ex := fun i hi => match i, hi with | 0, _ => e0 | 1, _ => e1 | 2, _ => e2 | 3, _ => e3 | 4, _ => e4
    st := fun i hi => match i, hi with | 0, _ => s0 | 1, _ => s1 | 2, _ => s2 | 3, _ => s3 | 4, _ => s4 }
  have hS : ∀ H, SqT K H aT [V.int 2, V.int 1] := fun H => .inr ⟨_, _, _, lT, rfl, rfl, (by show 2 ≤ sizeLine; decide), .cons ⟨_, rfl⟩ (.cons ⟨_, rfl⟩ .nil)⟩
  exact ⟨PySem.W.fnOf "law" "law" (defArgs s_law) (defBody s_law) (defScope s_law) .none kV0 dc0 pm0 an0 cd0 ct0, fun s v => .of_eq rfl, fun base _ _ => ok_law Z (fun_mk l0 c0 k0) D_law_bag D_law_draw D_law_caught D_check_not_negative D_total_cost D_count_pipelines D_pipelines (PySem.W.mg_of X G gT) hS (PySem.W.mg_of X G gH) hdig m_range m_isinstance m_ValueError m_abs m_len m_min m_repr⟩
end Tw

open PySem PySem.W PyProof.Rows in
set_option maxRecDepth 100000 in
set_option maxHeartbeats 0 in
theorem PySem.Challenge.cw_twinsieve_k27_totals_and_listing_errors_holds : PySem.Challenge.rw_twinsieve_k27_totals_and_listing_errors.Holds := by
  w_on; o_law; k_head; (case hw => w_witness2)
  k_fill
  refine Tw.walkA_of (l := PySem.Challenge.rw_twinsieve_k27_totals_and_listing_errors) (n := 63) (x := "script") (sp := fun w => Tw.spLaw _) rfl (by decide) rfl (fun w h Y => PySem.W.kIn_of Y) ?F (fun _ _ a ns hl _ hS => ⟨a, ns, rfl, hS, hl, fun _ => rfl⟩)
  case F =>
    intro w mg fa h KX G hmg
    refine' Tw.all_mk KX G hmg ?aS ?xC0 ?xL0 ?xA0 ?xG0 ?xH0 ?xN0 ?xI0 ?xT0 ?xF0 ?xO0 ?xK0 ?xE0 ?xY0 ?xD0 ?xP0 ?xM0 ?xC1 ?xL1 ?xA1 ?xG1 ?xH1 ?xN1 ?xI1 ?xT1 ?xF1 ?xO1 ?xK1 ?xE1 ?xY1 ?xD1 ?xP1 ?xM1 ?xC2 ?xL2 ?xA2 ?xG2 ?xH2 ?xN2 ?xI2 ?xT2 ?xF2 ?xO2 ?xK2 ?xE2 ?xY2 ?xD2 ?xP2 ?xM2 ?xC3 ?xL3 ?xA3 ?xG3 ?xH3 ?xN3 ?xI3 ?xT3 ?xF3 ?xO3 ?xK3 ?xE3 ?xY3 ?xD3 ?xP3 ?xM3 ?xC4 ?xL4 ?xA4 ?xG4 ?xH4 ?xN4 ?xI4 ?xT4 ?xF4 ?xO4 ?xK4 ?xE4 ?xY4 ?xD4 ?xP4 ?xM4 ?hcn ?hct ?t00 ?t01 ?t02 ?t03 ?t04 ?v0 ?e0 ?s0 ?t10 ?t11 ?t12 ?t13 ?t14 ?v1 ?e1 ?s1 ?t20 ?t21 ?t22 ?t23 ?t24 ?v2 ?e2 ?s2 ?t30 ?t31 ?t32 ?t33 ?t34 ?v3 ?e3 ?s3 ?t40 ?t41 ?t42 ?t43 ?t44 ?v4 ?e4 ?s4 ?gT ?lT ?gH ?hdig ?a0 ?l0 ?c0 ?k0 ?a1 ?l1 ?c1 ?k1 ?a2 ?l2 ?c2 ?k2 ?a3 ?l3 ?c3 ?k3 ?a4 ?l4 ?c4 ?k4 ?a5 ?l5 ?c5 ?k5 ?a6 ?l6 ?c6 ?k6 ?a7 ?l7 ?c7 ?k7 ?z1 ?z2 ?z3 ?z4 ?z5 ?z6 ?z7
    (case aS => first | k_is | rfl)
    (case xC0 => first | k_is | rfl)
    (case xL0 => first | k_is | rfl)
    (case xA0 => first | k_is | rfl)
    (case xG0 => first | k_is | rfl)
    (case xH0 => first | k_is | rfl)
    (case xN0 => first | k_is | rfl)
    (case xI0 => first | k_is | rfl)
    (case xT0 => first | k_is | rfl)
    (case xF0 => first | k_is | rfl)
    (case xO0 => first | k_is | rfl)
    (case xK0 => first | k_is | rfl)
    (case xE0 => first | k_is | rfl)
    (case xY0 => first | k_is | rfl)
    (case xD0 => first | k_is | rfl)
    (case xP0 => first | k_is | rfl)
    (case xM0 => first | k_is | rfl)
    (case xC1 => first | k_is | rfl)
    (case xL1 => first | k_is | rfl)
    (case xA1 => first | k_is | rfl)
    (case xG1 => first | k_is | rfl)
    (case xH1 => first | k_is | rfl)
    (case xN1 => first | k_is | rfl)
    (case xI1 => first | k_is | rfl)
    (case xT1 => first | k_is | rfl)
    (case xF1 => first | k_is | rfl)
    (case xO1 => first | k_is | rfl)
    (case xK1 => first | k_is | rfl)
    (case xE1 => first | k_is | rfl)
    (case xY1 => first | k_is | rfl)
    (case xD1 => first | k_is | rfl)
    (case xP1 => first | k_is | rfl)
    (case xM1 => first | k_is | rfl)
    (case xC2 => first | k_is | rfl)
    (case xL2 => first | k_is | rfl)
    (case xA2 => first | k_is | rfl)
    (case xG2 => first | k_is | rfl)
    (case xH2 => first | k_is | rfl)
    (case xN2 => first | k_is | rfl)
    (case xI2 => first | k_is | rfl)
    (case xT2 => first | k_is | rfl)
    (case xF2 => first | k_is | rfl)
    (case xO2 => first | k_is | rfl)
    (case xK2 => first | k_is | rfl)
    (case xE2 => first | k_is | rfl)
    (case xY2 => first | k_is | rfl)
    (case xD2 => first | k_is | rfl)
    (case xP2 => first | k_is | rfl)
    (case xM2 => first | k_is | rfl)
    (case xC3 => first | k_is | rfl)
    (case xL3 => first | k_is | rfl)
    (case xA3 => first | k_is | rfl)
    (case xG3 => first | k_is | rfl)
    (case xH3 => first | k_is | rfl)
    (case xN3 => first | k_is | rfl)
    (case xI3 => first | k_is | rfl)
    (case xT3 => first | k_is | rfl)
    (case xF3 => first | k_is | rfl)
    (case xO3 => first | k_is | rfl)
    (case xK3 => first | k_is | rfl)
    (case xE3 => first | k_is | rfl)
    (case xY3 => first | k_is | rfl)
    (case xD3 => first | k_is | rfl)
    (case xP3 => first | k_is | rfl)
    (case xM3 => first | k_is | rfl)
    (case xC4 => first | k_is | rfl)
    (case xL4 => first | k_is | rfl)
    (case xA4 => first | k_is | rfl)
    (case xG4 => first | k_is | rfl)
    (case xH4 => first | k_is | rfl)
    (case xN4 => first | k_is | rfl)
    (case xI4 => first | k_is | rfl)
    (case xT4 => first | k_is | rfl)
    (case xF4 => first | k_is | rfl)
    (case xO4 => first | k_is | rfl)
    (case xK4 => first | k_is | rfl)
    (case xE4 => first | k_is | rfl)
    (case xY4 => first | k_is | rfl)
    (case xD4 => first | k_is | rfl)
    (case xP4 => first | k_is | rfl)
    (case xM4 => first | k_is | rfl)
    (case hcn => first | k_is | rfl)
    (case hct => first | k_is | rfl)
    (case t00 => first | k_is | rfl)
    (case t01 => first | k_is | rfl)
    (case t02 => first | k_is | rfl)
    (case t03 => first | k_is | rfl)
    (case t04 => first | k_is | rfl)
    (case v0 => first | k_is | rfl)
    (case e0 => first | k_is | rfl)
    (case s0 => first | k_is | rfl)
    (case t10 => first | k_is | rfl)
    (case t11 => first | k_is | rfl)
    (case t12 => first | k_is | rfl)
    (case t13 => first | k_is | rfl)
    (case t14 => first | k_is | rfl)
    (case v1 => first | k_is | rfl)
    (case e1 => first | k_is | rfl)
    (case s1 => first | k_is | rfl)
    (case t20 => first | k_is | rfl)
    (case t21 => first | k_is | rfl)
    (case t22 => first | k_is | rfl)
    (case t23 => first | k_is | rfl)
    (case t24 => first | k_is | rfl)
    (case v2 => first | k_is | rfl)
    (case e2 => first | k_is | rfl)
    (case s2 => first | k_is | rfl)
    (case t30 => first | k_is | rfl)
    (case t31 => first | k_is | rfl)
    (case t32 => first | k_is | rfl)
    (case t33 => first | k_is | rfl)
    (case t34 => first | k_is | rfl)
    (case v3 => first | k_is | rfl)
    (case e3 => first | k_is | rfl)
    (case s3 => first | k_is | rfl)
    (case t40 => first | k_is | rfl)
    (case t41 => first | k_is | rfl)
    (case t42 => first | k_is | rfl)
    (case t43 => first | k_is | rfl)
    (case t44 => first | k_is | rfl)
    (case v4 => first | k_is | rfl)
    (case e4 => first | k_is | rfl)
    (case s4 => first | k_is | rfl)
    (case gT => first | k_is | rfl)
    (case lT => first | k_is | rfl)
    (case gH => first | k_is | rfl)
    (case hdig => first | k_is | rfl)
    (case a0 => first | k_is | rfl)
    (case l0 => first | k_is | rfl)
    (case c0 => first | k_is | rfl)
    (case k0 => first | k_is | rfl)
    (case a1 => first | k_is | rfl)
    (case l1 => first | k_is | rfl)
    (case c1 => first | k_is | rfl)
    (case k1 => first | k_is | rfl)
    (case a2 => first | k_is | rfl)
    (case l2 => first | k_is | rfl)
    (case c2 => first | k_is | rfl)
    (case k2 => first | k_is | rfl)
    (case a3 => first | k_is | rfl)
    (case l3 => first | k_is | rfl)
    (case c3 => first | k_is | rfl)
    (case k3 => first | k_is | rfl)
    (case a4 => first | k_is | rfl)
    (case l4 => first | k_is | rfl)
    (case c4 => first | k_is | rfl)
    (case k4 => first | k_is | rfl)
    (case a5 => first | k_is | rfl)
    (case l5 => first | k_is | rfl)
    (case c5 => first | k_is | rfl)
    (case k5 => first | k_is | rfl)
    (case a6 => first | k_is | rfl)
    (case l6 => first | k_is | rfl)
    (case c6 => first | k_is | rfl)
    (case k6 => first | k_is | rfl)
    (case a7 => first | k_is | rfl)
    (case l7 => first | k_is | rfl)
    (case c7 => first | k_is | rfl)
    (case k7 => first | k_is | rfl)
    (case z1 => first | k_is | rfl)
    (case z2 => first | k_is | rfl)
    (case z3 => first | k_is | rfl)
    (case z4 => first | k_is | rfl)
    (case z5 => first | k_is | rfl)
    (case z6 => first | k_is | rfl)
    (case z7 => first | k_is | rfl)

