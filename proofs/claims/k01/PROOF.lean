import PyProof.Rows.All
import Wide.All
import OpenK.AllK
import Wide.FinOn
import PySem.Challenge.RW_twinsieve_k01_errors_and_their_values
import HandS.Iter
import KE.GoesEnum
import HandS.Walk
import HandS.ForMost
import HandS.Wide
import HandS.Steps
import PyProof.StrBlock2
import PyProof.ReprRoads
import PyProof.StrLawsRepr
import PyProof.FitsInt
import HandS.ForSpec
import HandS.ExcIs
import HandS.IsInst
import HandS.ExcValue
set_option Elab.async false
set_option linter.all false
set_option maxRecDepth 100000
set_option maxHeartbeats 2000000
namespace Tw
open PySem PySem.Spec PyProof.Rows L2

/-! walks that give out a tuple of plain values each turn -/
def ItP (f : Nat → List V) (n : Nat) : It :=
  ⟨fun i _ => i < n,
   fun i H v H' => ∃ T : Addr, v = V.ref T ∧ H T = none ∧ H' = upd H T (HO.tup (f i)),
   fun i _ => n ≤ i⟩

theorem turnP {P : Program} {w : World} {K : PySem.W.Frag} {elts : List Expr} {kk : Nat} {tpos : Pos}
    {a : Addr} {fp wr : List Addr} {n : Nat} {Pt : Nat → Array Value → Prop} {Sx : Nat → Heap → Prop} {Mid : Nat → Addr → Heap → Prop}
    (f : Nat → List V)
    (W : ∀ A : Around, A.handled = none → WalksT P w A a fp wr n Pt Sx Mid)
    (ma : a ∈ fp)
    (obj : ∀ i h, Sx i h → ∀ b ∈ fp, ∃ o, h.get? b = some o ∧ ∀ v, o.data ≠ .cell v)
    (rel : ∀ i vals, i < n → Pt i vals → ∃ us : List Value, vals = us.toArray ∧ Vals (f i) us)
    (len : ∀ i, (f i).length ≤ sizeLine)
    (sf : ∀ (A : Around) (i : Nat) (s : Shared) (Q : Value → Shared → Prop) (E : Value → Shared → Prop), Sx i s.heap → Q (.ref a) s → wpAny (model P w) A (pyIter (.ref a)) Q E s) :
    Turn P w K (Expr.Tuple elts kk tpos) (ItP f n) fp a (fun i h => i ≤ n ∧ Sx i h) where
  mem := ma
  obj := fun i h st => obj i h st.2
  keep := fun i h h' st k => ⟨st.1, (W { handled := none, depth := 0, units := 0, frames := none, guards := none } rfl).frame i h h' st.2 k⟩
  item := by
    intro X hP hw hK hc i pins s σ H E I hf st hg
    subst hP; subst hw; subst hK
    have hi : i < n := hg
    have W0 := W X.A (I.ok.hd hc)
    refine W0.item i s _ E hi st.2 fun T vals h' tk hv hT tup mid kp => ?_
    obtain ⟨us, rfl, rv⟩ := rel i vals hi hv
    refine ⟨_, rfl, W0.go elts kk tpos i T { s with heap := h', toks := tk } _ E mid fun h2 st2 kp2 => ?_⟩
    have nw : T ∉ wr := W0.apart i T h' mid
    have tup2 : h2.IsTuple T us.toArray := by
      obtain ⟨o, ho, r⟩ := tup
      exact ⟨o, kp2 T o nw ho, r⟩
    have new : ObjOk X.prog X.w (upd H T (HO.tup (f i))) h2 T (HO.tup (f i)) := ⟨len i, us, rv, tup2⟩
    have I1 : Inv X pins σ (upd H T (HO.tup (f i))) { s with heap := h2, toks := tk } :=
      I.turnedNew (ch := wr) (fun b o hb e => kp2 b o hb (kp b o hb e)) (fun b hb => hf b (W0.sub b hb)) hT new
    refine ⟨V.ref T, _, I1, rfl, ⟨T, rfl, I.hok.fresh hT, rfl⟩, ⟨hi, st2⟩, fun b hb => ?_⟩
    have ne : b ≠ T := fun e => by
      obtain ⟨o, ho, _⟩ := obj i s.heap st.2 b hb
      have l := Heap.lt_size ho
      rw [e] at l
      exact absurd (Nat.lt_of_lt_of_le l hT) (Nat.lt_irrefl _)
    rw [upd_ne ne]
    exact (hf b hb).1
  done := by
    intro X hP hw hK hc i pins s σ H E I hf st hg
    subst hP; subst hw; subst hK
    have hi : n ≤ i := hg
    have e : i = n := Nat.le_antisymm st.1 hi
    subst e
    have W0 := W X.A (I.ok.hd hc)
    exact W0.done s _ E st.2 fun h' tk kp => ⟨rfl, I.turnedL (ch := wr) kp fun b hb => hf b (W0.sub b hb)⟩
  self := fun A i s Q E st q => sf A i s Q E st.2 q

theorem walkP {f : Nat → List V} {n : Nat} : Walk (ItP f n) n (fun _ => True) (fun i H v H' => ∃ T : Addr, v = V.ref T ∧ H T = none ∧ H' = upd H T (HO.tup (f i))) :=
  ⟨fun _ _ h _ => h, fun _ _ => Nat.le_refl _, fun _ _ _ _ _ _ y => y⟩

/-- a text's iterator, whatever its signs -/
theorem drawsS {P : Program} {w : World} {A : Around} (hh : A.handled = none) (it : Addr) (x : Str) (t : Tok) :
    Draws P w A it [it] x.cps.size (fun i v => ∃ c u, x.cps[i]? = some c ∧ v = .str ⟨#[c]⟩ u) (fun i h => h.IsStrIter it (strIterType x) x t i) := by
  unfold strIterType
  split
  · exact Draws.strAscii hh it x t
  · exact Draws.strWide hh it x t
theorem beginsS (x : Str) (t : Tok) : Begins (.str x t) { cls := .type (strIterType x), data := .fields #[.str x t, .int 0 0] } fun _ => True where
  iter := fun prog w A E s Q _ h => by
    cases ha : x.cps.all (· < 128)
    · exact wpAny_pyIter_wide ha (by simpa [strIterType, ha] using h)
    · exact wpAny_pyIter_ascii ha (by simpa [strIterType, ha] using h)
  keeps := fun _ _ _ _ => trivial
  free := rfl
def sgn (x : Str) (i : Nat) : V := V.str ⟨#[x.cps.getD i 0]⟩
theorem sgn_rel {x : Str} {i c : Nat} {u : Tok} (h : x.cps[i]? = some c) : RelV (sgn x i) (.str ⟨#[c]⟩ u) := by
  have e : x.cps.getD i 0 = c := by
    rw [Array.getD_eq_getD_getElem?, h]; rfl
  exact ⟨u, by rw [e]⟩

/-! enumerate(text) -/
def iEnumS (ta : TA) : TI := fun σ H R => ta σ H fun vs H1 => ∃ x : Str, vs = [V.str x] ∧ R (ItP (fun i => [V.int (i : Nat), sgn x i]) x.cps.size) H1
theorem pi_enumS {X : Cx} {e : Expr} {ta : TA} {p pos tpos : Pos} {elts : List Expr} {kk : Nat} (hg : Gl X "enumerate") (hm : X.mg "enumerate" = none) (ha : PA X [e] ta)
    (hs : starEach [e] X.env = [(false, eval e X.env)] := by rfl) : PI X (.Tuple elts kk tpos) (.Call (.Name "enumerate" p) [e] [] pos) (iEnumS ta) := by
  refine ⟨fun pins s σ H R I h => ?_⟩
  refine Call_ (ld_blt I hg hm boot_enumerate (callWith_type1 (thn (ha.run pos pins s σ H _ I h) fun us s1 hh => ?_) hs rfl))
  obtain ⟨vs, H1, I1, r1, x, rfl, q⟩ := hh
  cases r1 with
  | cons r rr =>
    cases rr
    obtain ⟨t, rfl⟩ := r
    refine call_enumerate_str fun h' he hit hsz hk => wpAny_pyIter_enum he ?_
    have I2 : Inv X pins σ H1 { s1 with heap := h' } := I1.kept (t' := s1.toks) hk
    refine ⟨s1.heap.objs.size + 1, [s1.heap.objs.size + 1, s1.heap.objs.size], _, _, H1, rfl, I2,
      turnP (wr := [s1.heap.objs.size + 1, s1.heap.objs.size]) (fun i => [V.int (i : Nat), sgn x i])
        (fun A hA => WalksT.enumerateD (drawsS (A := A.in1) hA s1.heap.objs.size x t) (s1.heap.objs.size + 1) (Nat.succ_ne_self _) (by simp) (by simp))
        (by simp) ?_ ?_ ?_ ?_, ⟨Nat.zero_le _, ⟨_, he⟩, hit⟩, ?_, q⟩
    · rintro i h ⟨⟨old, e1⟩, o, e2, c2, d2⟩ b hb
      rcases List.mem_cons.mp hb with z | z
      · rw [z]; exact ⟨_, e1, fun v q => nomatch q⟩
      · rw [List.mem_singleton.mp z]; exact ⟨o, e2, fun v q => by rw [d2] at q; cases q⟩
    · rintro i vals hi ⟨t1, y, ⟨c, u, hc, rfl⟩, rfl⟩
      exact ⟨[.int i t1, .str ⟨#[c]⟩ u], rfl, .cons ⟨t1, rfl⟩ (.cons (sgn_rel hc) .nil)⟩
    · intro i
      show 2 ≤ sizeLine
      decide
    · rintro A i s Q E ⟨⟨old, e1⟩, _⟩ q
      exact wpAny_pyIter_enum e1 q
    · intro b hb
      have hle : s1.heap.objs.size ≤ b := by
        rcases List.mem_cons.mp hb with z | z
        · rw [z]; exact Nat.le_succ _
        · rw [List.mem_singleton.mp z]; exact Nat.le_refl _
      exact I1.fpOk hle (I1.hok.fresh hle)

/-! zip(text, text) -/
def iZipS (ta : TA) : TI := fun σ H R => ta σ H fun vs H1 => ∃ x y : Str, vs = [V.str x, V.str y] ∧ R (ItP (fun i => [sgn x i, sgn y i]) (min x.cps.size y.cps.size)) H1
theorem pi_zipS {X : Cx} {e e2 : Expr} {ta : TA} {p pos tpos : Pos} {elts : List Expr} {kk : Nat} (hg : Gl X "zip") (hm : X.mg "zip" = none) (ha : PA X [e, e2] ta)
    (hs : starEach [e, e2] X.env = (false, eval e X.env) :: starEach [e2] X.env := by rfl) (hpl : (backTo pos (starEach [e2] X.env)).any (·.1) = false := by rfl) :
    PI X (.Tuple elts kk tpos) (.Call (.Name "zip" p) [e, e2] [] pos) (iZipS ta) := by
  refine ⟨fun pins s σ H R I h => ?_⟩
  refine Call_ (ld_blt I hg hm boot_zip (callWith_type1 (thn (ha.run pos pins s σ H _ I h) fun us s1 hh => ?_) hs hpl))
  obtain ⟨vs, H1, I1, r1, x, y, rfl, q⟩ := hh
  cases r1 with
  | cons r rr =>
    cases rr with
    | cons r' rr =>
      cases rr
      obtain ⟨t, rfl⟩ := r
      obtain ⟨t', rfl⟩ := r'
      refine zip_begins2 (beginsS x t) (beginsS y t') trivial trivial fun h' hz hTI hTO h1 h2 hsz hk => wpAny_pyIter_zip hz ?_
      have I2 : Inv X pins σ H1 { s1 with heap := h' } := I1.kept (t' := s1.toks) hk
      have S : ZipSep2 (s1.heap.objs.size + 4) (s1.heap.objs.size + 2) (s1.heap.objs.size + 3) s1.heap.objs.size (s1.heap.objs.size + 1) [s1.heap.objs.size] [s1.heap.objs.size + 1] :=
        zip_sep2 (fp1 := []) (fp2 := []) (by simp) (by simp)
      refine ⟨s1.heap.objs.size + 4, _, _, _, H1, rfl, I2,
        turnP (fun i => [sgn x i, sgn y i])
          (fun A hA => WalksT.zipD2 S (drawsS (A := A.in1) hA s1.heap.objs.size x t) (drawsS (A := A.in1) hA (s1.heap.objs.size + 1) y t'))
          (by simp) ?_ ?_ ?_ ?_, ⟨Nat.zero_le _, hz, hTI, ⟨_, _, hTO⟩, ⟨_, h1, rfl, rfl⟩, ⟨_, h2, rfl, rfl⟩⟩, ?_, q⟩
      · rintro i h ⟨ez, eI, ⟨a1, a2, eO⟩, ⟨o1, e1, _, d1⟩, ⟨o2, e2, _, d2⟩⟩ b hb
        have hb' : b = s1.heap.objs.size + 4 ∨ b = s1.heap.objs.size + 2 ∨ b = s1.heap.objs.size + 3 ∨ b = s1.heap.objs.size ∨ b = s1.heap.objs.size + 1 := by simpa using hb
        rcases hb' with z | z | z | z | z
        · rw [z]; exact ⟨_, ez, fun v q => nomatch q⟩
        · rw [z]; exact ⟨_, eI, fun v q => nomatch q⟩
        · rw [z]; exact ⟨_, eO, fun v q => nomatch q⟩
        · rw [z]; exact ⟨o1, e1, fun v q => by rw [d1] at q; cases q⟩
        · rw [z]; exact ⟨o2, e2, fun v q => by rw [d2] at q; cases q⟩
      · rintro i vals hi ⟨v1, v2, ⟨c, u, hc, rfl⟩, ⟨c2, u2, hc2, rfl⟩, rfl⟩
        exact ⟨[.str ⟨#[c]⟩ u, .str ⟨#[c2]⟩ u2], rfl, .cons (sgn_rel hc) (.cons (sgn_rel hc2) .nil)⟩
      · intro i
        show 2 ≤ sizeLine
        decide
      · rintro A i s Q E ⟨ez, _⟩ q
        exact wpAny_pyIter_zip ez q
      · intro b hb
        have hb' : b = s1.heap.objs.size + 4 ∨ b = s1.heap.objs.size + 2 ∨ b = s1.heap.objs.size + 3 ∨ b = s1.heap.objs.size ∨ b = s1.heap.objs.size + 1 := by simpa using hb
        have hle : s1.heap.objs.size ≤ b := by
          rcases hb' with z | z | z | z | z <;> rw [z] <;> first | exact Nat.le_refl _ | exact Nat.le_add_right _ _
        exact I1.fpOk hle (I1.hok.fresh hle)
end Tw

set_option Elab.async false
set_option linter.all false
set_option maxRecDepth 100000
set_option maxHeartbeats 2000000
namespace Tw
open PySem PySem.Spec PyProof.Rows L2

/-- a text by its signs -/
def mk (l : List Nat) : Str := ⟨l.toArray⟩
theorem mk_len (l : List Nat) : (mk l).length = l.length := by simp [mk, Str.length]
theorem mk_app (a b : List Nat) : mk a ++ mk b = mk (a ++ b) := TL.ext_tl (by rw [TL.tl_append]; rfl)
theorem mk_inj {a b : List Nat} : mk a = mk b ↔ a = b := ⟨fun h => by
  have e := congrArg TL.tl h
  exact e, fun h => by rw [h]⟩
theorem mk_tl (x : Str) : mk (TL.tl x) = x := TL.mk_tl x
def reps (n : Nat) (l : List Nat) : List Nat := (List.replicate n l).flatten

theorem foldl_app (l : List Nat) : ∀ (n : Nat) (acc : List Nat), ((List.replicate n l.toArray).foldl (· ++ ·) acc.toArray).toList = acc ++ (List.replicate n l).flatten
  | 0, acc => by simp
  | n + 1, acc => by
    rw [List.replicate_succ, List.foldl_cons]
    have e : acc.toArray ++ l.toArray = (acc ++ l).toArray := by simp
    rw [e, foldl_app l n (acc ++ l), List.replicate_succ, List.flatten_cons, List.append_assoc]
theorem txt_mul (l : List Nat) (n : Nat) : Txt.mul (mk l) (n : Int) = mk (reps n l) := by
  unfold Txt.mul
  by_cases h1 : (n : Int) < 1
  · rw [if_pos h1]
    have e : n = 0 := by omega
    subst e
    rfl
  · rw [if_neg h1]
    by_cases h2 : ((n : Int) == 1 || (mk l).length == 0) = true
    · rw [if_pos h2]
      rcases Bool.or_eq_true _ _ ▸ h2 with h | h
      · have e : n = 1 := by have := eq_of_beq h; omega
        subst e
        simp [reps]
      · have e : (mk l).length = 0 := eq_of_beq h
        rw [mk_len] at e
        have e2 : l = [] := List.eq_nil_of_length_eq_zero e
        subst e2
        have z : reps n [] = [] := by simp [reps]
        rw [z]
    · rw [if_neg h2]
      refine TL.ext_tl ?_
      have := foldl_app l n []
      simpa [TL.tl, mk, reps] using this
theorem mulOk_of {l : List Nat} {n : Nat} (h : l.length * n ≤ 1000000) (hn : n ≤ 1000000) : MulOk (mk l) (n : Int) := by
  refine ⟨?_, fun h1 h2 => ?_, fun h1 h2 => ?_⟩
  · have a : ¬ (n : Int) < -(2 ^ 63) := by omega
    have b : ¬ (n : Int) ≥ 2 ^ 63 := by omega
    rw [decide_eq_false a, decide_eq_false b]; rfl
  · rw [mk_len]
    intro h3
    have hpos : (0 : Int) < n := by omega
    have h4 : (l.length : Int) * n ≤ 1000000 := by
      rw [← Int.natCast_mul]
      exact Int.ofNat_le.mpr h
    have h5 : ((2 : Int) ^ 63 - 1) / n + 1 ≤ l.length := h3
    have h6 := Int.lt_ediv_add_one_mul_self ((2 : Int) ^ 63 - 1) hpos
    have h7 : (((2 : Int) ^ 63 - 1) / n + 1) * n ≤ (l.length : Int) * n := Int.mul_le_mul_of_nonneg_right h5 (by omega)
    omega
  · rw [mk_len]
    show decide _ = false
    refine decide_eq_false ?_
    rw [Int.toNat_natCast]
    have : sizeLine = 16777216 := sizeLine_eq
    omega
section
variable {X : Cx}
/-- text * int -/
theorem op_mulS : OpR X (binaryOp .Mult) (fun x y H Q => ∃ (l : List Nat) (n : Nat), x = .str (mk l) ∧ y = .int (n : Nat) ∧ (l.length * n ≤ 1000000 ∧ n ≤ 1000000) ∧ Q (.str (mk (reps n l))) H) := by
  intro pins s σ H x y v u Q I rx ry h
  obtain ⟨l, n, rfl, rfl, hz, q⟩ := h
  obtain ⟨t, rfl⟩ := rx
  obtain ⟨t', rfl⟩ := ry
  refine SB.mul (mulOk_of hz.1 hz.2) fun t2 k => ⟨.str (mk (reps n l)), H, I.tok _, ⟨t2, ?_⟩, q⟩
  rw [txt_mul]
/-- a power of a great int -/
def CPowW (i j : Int) : Prop := 0 ≤ j ∧ j ≤ 1000 ∧ i.natAbs.log2 < 10000
theorem op_powW : OpR X (binaryOp .Pow) (rI CPowW fun i j => .int (i ^ j.toNat)) := opI fun i j _ _ _ _ _ hc q => by
  refine pow_int hc.1 ?_ q
  have b : Builtin.Int.intBits i ≤ i.natAbs.log2 + 1 := by
    unfold Builtin.Int.intBits
    split <;> omega
  have h1 := hc.2.2
  have h2 : (Builtin.Int.intBits i : Int) ≤ 10000 := by omega
  have h3 : (Builtin.Int.intBits i : Int) * j ≤ 10000 * 1000 := Int.mul_le_mul h2 hc.2.1 hc.1 (by decide)
  omega
end
end Tw

set_option Elab.async false
set_option linter.all false
set_option maxRecDepth 100000
set_option maxHeartbeats 2000000
namespace Tw
open PySem PySem.Spec PyProof.Rows L2

/-! repr of data, where it is known that no repr runs around -/
theorem call_reprD {X : Cx} (hg : X.A.guards = some []) (hu : X.A.units + 64 < cLine) :
    CallR X (.builtin "repr") (fun xs H Q => ∃ (p : Addr) (d : PyData), xs = [V.ref p] ∧ Dp X.K H (V.ref p) d ∧ d.showable = true ∧ d.hasDict = false ∧ d.depth ≤ 50 ∧ d.shown.length ≤ sizeLine ∧ Q (V.str d.shown) H) := by
  intro pins s σ H xs us Q I r h
  obtain ⟨p, d, rfl, hd, h1, h2, h3, h4, q⟩ := h
  obtain ⟨u, rfl, ru⟩ := vals1 r
  obtain ⟨as, rd⟩ := Dp.reads I d _ _ hd ru
  obtain rfl : u = Value.ref p := ru
  exact repr_of_reads' rd h1 (PyData.noDict_hsm h2) hg (by omega) (fun _ _ e => e) (fun h' u2 tk hk => ⟨V.str d.shown, H, I.kept hk, ⟨u2, rfl⟩, q⟩) h4

/-! a def called from outside, at one stack that is known -/
def RunA (P : Program) (w : World) (K : PySem.W.Frag) (mg : Str → Option Value) (base : Heap) (CX : CXT) (A : Around) (f : Addr) (fd : FuncData) (ps : List Str) (sp : Sp) : Prop :=
  ∀ (s : Shared) (H : Hp) (args : Args) (us : List Value) (vs : List V) (Q : VK) (E : XK), Env0 P w K mg base A [] s H → BindsTo s fd args (ps.zip us) → Vals vs us → sp vs H Q E →
    codeAny (model P w) A (.call (.ref f) args) (CR CX [] P w H s Q E) s
section
variable {P : Program} {w : World} {K : PySem.W.Frag} {mg : Str → Option Value} {base : Heap} {CX : CXT} {A : Around}
theorem runA_of {x qual : Str} {st : Stmt} {f : Addr} {fd : FuncData} {N ps : List Str} {k : Nat} {sp : Sp} (F : Fun K x qual st f fd) (S : FnScope N ps (defScope st)) (hr : Room (k + 1) A)
    (len : ∀ vs H Q E, sp vs H Q E → vs.length = ps.length)
    (hbody : ∀ (cdv : Value) (s : Shared) (H : Hp) (vs : List V) (Q : VK) (E : XK), Room k (A.deeper (envOfC qual (defScope st) s.heap.objs.size f cdv)) → sp vs H Q E →
      ∃ t, PSs (cxOf CX P w K mg base N qual (defScope st) f cdv A [] s H E) (defBody st) t ∧ t { nx := fun _ H' => Q .non H', rt := Q } (start N vs) H) : RunA P w K mg base CX A f fd ps sp := by
  obtain ⟨oc, od, kV, doc, pm, an, cdv, ct, osl, rfl, lk, hcd⟩ := F.ex
  intro s H args us vs Q E e0 hb rv hsp
  have all : ∀ b o, base.get? b = some o → s.heap.get? b = some o := fun b o e => (e0.bs b o e).1
  have KX : K.In s.heap := e0.mod.kin.keeps all
  have par : ∀ y ∈ ps.zip us, (defScope st).names.lookup y.1 = some .local ∨ ((defScope st).names.lookup y.1 = some .cell ∧ ((cellsFrom (s.heap.objs.size + 1) (defScope st).names []).lookup y.1).isSome = true) := by
    rintro ⟨n, v⟩ hy
    exact (S.par n (List.of_mem_zip hy).1).imp id fun q => ⟨q, PySem.W.cellsFrom_some _ _ _ (.inl q)⟩
  refine codeAny_call_function hr.depth (KX _ _ lk) rfl S.co S.gen rfl (PySem.W.codeRec_of KX hcd) (hb _ _ _ _ ?_)
  refine wpAny_newFunctionEnv_cells S.kind par fun env he s1 x => ?_
  subst he
  refine ⟨(e0.mod.nolimit.keeps all).keeps x.toInCall.keep, codeAny_func ?_⟩
  obtain ⟨t, ht, hq⟩ := hbody cdv s H vs Q E (hr.deeper _) hsp
  refine wpAny_mono (ht.run [] s1 (start N vs) H _ (inv_start S hr.hd e0 (len _ _ _ _ hsp) rv x) hq) (fun fl s' hs => ?_) fun _ _ hs => hs
  cases fl with
  | ret u =>
    obtain ⟨v, σ', H', J, rv', q⟩ := hs
    exact ⟨v, H', J.os, J.bare, J.base, J.hok, rv', q⟩
  | next =>
    obtain ⟨σ', H', J, q⟩ := hs
    exact ⟨V.non, H', J.os, J.bare, J.base, J.hok, rfl, q⟩
  | brk =>
    obtain ⟨_, _, _, q⟩ := hs
    exact q.elim
  | cont =>
    obtain ⟨_, _, _, q⟩ := hs
    exact q.elim
/-- the law's call -/
theorem law_callA {mb : Str → Option Value} {fa a : Addr} {fd : FuncData} {x : Str} {sp : Sp} {s₁ : Shared} {vs : List Value} {ns : List Int}
    (KX : K.In s₁.heap) (hns : s₁.heap.Ns mainGlobals mg) (hb : s₁.heap.Ns builtinsNs mb) (hbb : ∀ x : Str, x ≠ "__name__" → mb x = bootBuiltins x) (hlim : s₁.heap.NoLimit) (hg : s₁.gens = #[])
    (ha : s₁.heap.get? a = some { cls := .type "list", data := .seq vs.toArray }) (hi : IntsAre vs ns) (hl : ns.length ≤ sizeLine)
    (F : ∀ base : Heap, K.In base → base.Ns mainGlobals mg → RunA P w K mg base CX callerA fa fd [x] sp) (hbind : ∀ (s : Shared) (u : Value), BindsTo s fd ⟨[u], []⟩ [(x, u)])
    (hsp : ∀ H : Hp, Only H → SqL K H a (ns.map V.int) → sp [.ref a] H (fun v _ => v = .bl true) fun _ _ _ => False)
    (hCX : ∀ H e s', CX [] H s₁ (fun _ _ _ => False) e s' → False) :
    codeAny (model P w) callerA (.call (.ref fa) ⟨[.ref a], []⟩) (fun r s' => r = .ok (.ret (.bool true)) ∧ OldK s₁.heap s'.heap ∧ s'.os = s₁.os ∧ AllBare s'.gens) s₁ := by
  have rv := vals_ints hi
  have lv := hi.length
  -- the abstract heap: the script alone, if it is no object of the written part
  have main : ∀ H : Hp, (∀ b u, H b = some u → b = a ∧ u = .frz { cls := .type "list", data := .seq vs.toArray } (.lst (ns.map V.int)) ∧ K.lookup a = none) → SqL K H a (ns.map V.int) →
      codeAny (model P w) callerA (.call (.ref fa) ⟨[.ref a], []⟩) (fun r s' => r = .ok (.ret (.bool true)) ∧ OldK s₁.heap s'.heap ∧ s'.os = s₁.os ∧ AllBare s'.gens) s₁ := by
    intro H hH hS
    have only : Only H := fun b => by
      cases q : H b with
      | none => exact .inl rfl
      | some u => exact .inr ⟨_, _, by rw [(hH b u q).2.1]⟩
    have hok : HOk P w H s₁.heap := fun b u q => by
      obtain ⟨rfl, rfl, _⟩ := hH b u q
      exact ⟨ha, by rw [List.length_map]; exact hl, vs, _, rv, ha⟩
    -- what stands apart from the script stands in the base
    have apart : ∀ b o, s₁.heap.get? b = some o → (b = a → K.lookup a ≠ none ∨ False) → H b = none := fun b o e h => by
      cases q : H b with
      | none => rfl
      | some u =>
        obtain ⟨e1, _, e3⟩ := hH b u q
        exact absurd e3 ((h e1).elim id False.elim)
    have nsB : ∀ {b : Addr} {m : Str → Option Value}, s₁.heap.Ns b m → (hidT s₁.heap H).Ns b m := by
      rintro b m ⟨o, es, ep, e, d, r⟩
      refine ⟨o, es, ep, hidT_get e ?_, d, r⟩
      cases q : H b with
      | none => rfl
      | some u =>
        rw [(hH b u q).1, ha] at e
        cases e
        exact Data.noConfusion d
    have kB : K.In (hidT s₁.heap H) := fun b o e => hidT_get (KX b o e) (by
      cases q : H b with
      | none => rfl
      | some u =>
        obtain ⟨e1, _, e3⟩ := hH b u q
        rw [e1, e3] at e
        cases e)
    obtain ⟨mc, c1, c2⟩ := hlim
    have e0 : Env0 P w K mg (hidT s₁.heap H) callerA [] s₁ H :=
      ⟨rfl, ⟨kB, nsB hns, ⟨mb, nsB hb, hbb⟩, ⟨mc, nsB c1, c2⟩⟩, fun b o e => of_hidT e, Nat.le_of_eq (hidT_size _ _), trivial, fun b hb => absurd hb (by intro z; cases z), hok, .of_eq hg⟩
    refine codeAny_mono (F _ kB (nsB hns) s₁ H ⟨[.ref a], []⟩ [.ref a] [.ref a] _ _ e0 (hbind s₁ (.ref a)) (.cons rfl .nil) (hsp H only hS)) fun r s' h => ?_
    match r, h with
    | .error e, h => exact (hCX H e s' h).elim
    | .ok .next, h => exact False.elim h
    | .ok .brk, h => exact False.elim h
    | .ok .cont, h => exact False.elim h
    | .ok (.ret u), h =>
      obtain ⟨v, H', os, bare, un, hok', r', q⟩ := h
      have q' : v = V.bl true := q
      rw [q'] at r'
      have eu : u = Value.bool true := r'
      rw [eu]
      refine ⟨rfl, OldK.of_keep fun b o e => ?_, os, bare⟩
      cases q2 : H b with
      | none => exact un.keep b o e q2 (by intro z; cases z) (by intro z; cases z)
      | some u2 =>
        obtain ⟨e1, e2, _⟩ := hH b u2 q2
        rw [e2] at q2
        have t2 := (hok' b _ (un.frzs b _ _ q2)).1
        rw [e1] at e t2 ⊢
        rw [ha] at e
        rw [← e]
        exact t2
  cases hk : K.lookup a with
  | some o =>
    have e := KX a o hk
    rw [ha] at e
    cases e
    exact main (fun _ => none) (fun b u z => nomatch z) (.inr ⟨_, vs.toArray, _, hk, rfl, rfl, rfl, by rw [List.size_toArray, lv]; exact hl, by simpa using rv⟩)
  | none =>
    refine main (fun b => if b = a then some (.frz { cls := .type "list", data := .seq vs.toArray } (.lst (ns.map V.int))) else none) (fun b u z => ?_) (.inl (.inr ⟨_, if_pos rfl⟩))
    by_cases hb : b = a
    · have z' := (if_pos hb).symm.trans z
      exact ⟨hb, (Option.some.inj z').symm, hk⟩
    · have z' := (if_neg hb).symm.trans z
      cases z'
end
theorem walkA_of {l : PySem.W.OpenLaw} {n : Nat} {q : Program} {loose : List Str} {XP : (Str → Option Value) → Heap → Prop} {YP : World → Heap → Prop} {d : DefRec} {K : Params → PySem.W.Frag} {sp : World → Sp} {x : Str}
    (hn : l.most = some n) (hn2 : n ≤ sizeLine) (hdf : d.params.defaults = [])
    (hY : ∀ (w : World) (h : Heap), YP w h → (K w.params).In h)
    (F : ∀ (w : World) (mg : Str → Option Value) (fa : Addr) (h : Heap), (K w.params).In h → h.Ns mainGlobals mg → mg d.name = some (.ref fa) →
      ∃ fd : FuncData, (∀ (s : Shared) (u : Value), BindsTo s fd ⟨[u], []⟩ [(x, u)]) ∧
        ∀ base : Heap, (K w.params).In base → base.Ns mainGlobals mg → RunA l.prog w (K w.params) mg base CX0 callerA fa fd [x] (sp w))
    (hsp : ∀ (w : World) (H : Hp) (a : Addr) (ns : List Int), ns.length ≤ n → Only H → SqL (K w.params) H a (ns.map V.int) → sp w [.ref a] H (fun v _ => v = .bl true) fun _ _ _ => False) :
    PySem.W.WalkO q loose XP YP l.row.toRowW d [] (fun f vs => PySem.call f vs) := by
  refine Att.attach_call hn hdf fun w s₀ s₁ mg mb fa o pm cd doc a vs ns G Y ho hd hcd hmg hobj hints hlen hg => ?_
  have KX := hY w _ Y
  obtain ⟨fd, hb, hF⟩ := F w mg fa _ KX G.T.g hmg
  exact law_callA KX G.T.g G.T.b G.T.builtins G.T.nolimit hg hobj hints (Nat.le_trans hlen hn2) hF hb (fun H hO hS => hsp w H a ns hlen hO hS) fun _ _ _ h => h
end Tw

set_option Elab.async false
set_option linter.all false
set_option maxRecDepth 100000
set_option maxHeartbeats 2000000
namespace Tw
open PySem PySem.Spec PyProof.Rows L2
/-! a call by keywords alone -/
section
variable {X : Cx} {CX : CXT} {k : Nat} {f : Addr} {fd : FuncData} {ps ks : List Str} {sp : Sp} {E : XK} {x : Str} {p pos : Pos} {kws : List Keyword} {tk : TA} {g : List Value → List Value → List Value} {gV : List V → List V → List V}
theorem pe_callK0 (F : FnOk X.prog X.w X.K X.mg X.base CX k f fd ps sp) (hr : Room k X.A) (hg : Gl X x) (hm : X.mg x = some (.ref f)) (hk : PySem.W.keepIn X.K (.ref f) = true)
    (hb : KBinds X.K fd ps ks g gV) (hx : Passes CX X E) (hkw : PK X kws tk)
    (hall : (backToKw pos (keywordEach kws X.env)).all (·.1.isSome) = true := by rfl)
    (hks : (backToKw pos (keywordEach kws X.env)).filterMap (·.1) = ks := by rfl)
    (hdb : (x == ("__debug__" : Str)) = false := by decide)
    (hpl : ((backTo pos (starEach [] X.env)).any (·.1) || (backToKw pos (keywordEach kws X.env)).any (·.1.isNone)) = false := by rfl) :
    PE X (.Call (.Name x p) [] kws pos) (fun σ H Q => tk σ H fun zs H2 => sp (gV [] zs) H2 Q E) := by
  refine ⟨fun pins s σ H Q I h => wpAny_Call_Name_kw (ld_glob I hg hm ?_ hdb)⟩
  refine PySem.W.callWith_KW0 (h₀ := X.base) I.ok.mod.kin hk hall (thn (hkw.run pos pins s σ H _ I h) ?_) hpl
  rintro ws s2 ⟨zs, H2, I2, rz, q⟩
  refine ⟨I2.kIn, ?_⟩
  rw [hks]
  exact run_fnk (us := []) (vs := []) F hr hb hx I2 .nil rz q
end
theorem fun_kbinds {K : PySem.W.Frag} {x qual : Str} {st : Stmt} {f : Addr} {fd : FuncData} {ps ks : List Str} {g : List Value → List Value → List Value} {gV : List V → List V → List V} (F : Fun K x qual st f fd)
    (h : ∀ (kV doc pm : Value) (an : Option Addr) (cdv ct : Value) (us ws : List Value), (g us ws).length = ps.length → bindArgs (PySem.W.fnOf x qual (defArgs st) (defBody st) (defScope st) .none kV doc pm an cdv ct) ⟨us, ks.zip ws⟩ = pure (ps.zip (g us ws)))
    (rel : ∀ {vs : List V} {us : List Value} {zs : List V} {ws : List Value}, Vals vs us → Vals zs ws → Vals (gV vs zs) (g us ws)) : KBinds K fd ps ks g gV := by
  obtain ⟨oc, od, kV, doc, pm, an, cdv, ct, osl, rfl, lk, hcd⟩ := F.ex
  exact ⟨fun s us ws _ hl => .of_eq (h kV doc pm an cdv ct us ws hl), rel⟩
theorem vals_rev {zs : List V} {ws : List Value} (h : Vals zs ws) : Vals zs.reverse ws.reverse := by
  induction h with
  | nil => exact .nil
  | cons r t ih =>
    rw [List.reverse_cons, List.reverse_cons]
    exact Vals.append ih (.cons r .nil)

/-! how long a text repr makes -/
theorem textFrom_le : ∀ (ts : List Str) (k : Nat) (acc : Str), (textFrom k acc ts).length ≤ acc.length + piled ts
  | [], _, acc => by
    show acc.length ≤ _
    omega
  | t :: r, k, acc => by
    have ih := textFrom_le r (k + 1) (acc ++ (if k > 0 then ", " else "" : String) ++ t)
    have e : (((if k > 0 then ", " else "" : String) : Str)).length ≤ 2 := by split <;> decide
    rw [piled_cons]
    rw [strLen_append, strLen_append] at ih
    have h : (textFrom k acc (t :: r)) = textFrom (k + 1) (acc ++ (if k > 0 then ", " else "" : String) ++ t) r := rfl
    rw [h]
    omega
theorem listText_le (ts : List Str) : (listText ts).length ≤ 2 + piled ts := by
  unfold listText
  rw [strLen_append]
  have h := textFrom_le ts 0 "["
  have e1 : (("[" : String) : Str).length = 1 := by decide
  have e2 : (("]" : String) : Str).length = 1 := by decide
  rw [e1] at h
  rw [e2]
  omega
theorem join_le (ts : List Str) : (Str.join ", " ts).length ≤ piled ts := by
  cases ts with
  | nil => exact Nat.zero_le _
  | cons t r =>
    have := join_length_add (t :: r) (by simp)
    omega
theorem tupleText_le (ts : List Str) : (tupleText ts).length ≤ 3 + piled ts := by
  unfold tupleText
  rw [strLen_append, strLen_append]
  have h := join_le ts
  have e1 : (("(" : String) : Str).length = 1 := by decide
  have e3 : (((if ts.length == 1 then ",)" else ")" : String) : Str)).length ≤ 2 := by split <;> decide
  rw [e1]
  omega
end Tw

set_option linter.all false
namespace Tw
/-! the mathematics of runs: plain Lean -/
/-- the runs of c repeated n times (so far) and then l -/
def runsFrom (c n : Nat) : List Nat → List (Nat × Nat)
  | [] => [(c, n)]
  | d :: r => if d = c then runsFrom c (n + 1) r else (c, n) :: runsFrom d 1 r
def runs : List Nat → List (Nat × Nat)
  | [] => []
  | c :: r => runsFrom c 1 r
/-- one more letter behind the runs so far -/
def addRun (rs : List (Nat × Nat)) (d : Nat) : List (Nat × Nat) :=
  match rs.getLast? with
  | some (c, n) => if c = d then rs.dropLast ++ [(d, n + 1)] else rs ++ [(d, 1)]
  | none => [(d, 1)]
theorem addRun_snoc (acc : List (Nat × Nat)) (c n d : Nat) : addRun (acc ++ [(c, n)]) d = if c = d then acc ++ [(d, n + 1)] else acc ++ [(c, n)] ++ [(d, 1)] := by
  simp [addRun]
theorem foldl_addRun : ∀ (l : List Nat) (acc : List (Nat × Nat)) (c n : Nat), l.foldl addRun (acc ++ [(c, n)]) = acc ++ runsFrom c n l
  | [], acc, c, n => rfl
  | d :: r, acc, c, n => by
    rw [List.foldl_cons, addRun_snoc, runsFrom]
    by_cases h : d = c
    · subst h
      rw [if_pos rfl, if_pos rfl]
      exact foldl_addRun r acc d (n + 1)
    · rw [if_neg (Ne.symm h), if_neg h]
      rw [foldl_addRun r (acc ++ [(c, n)]) d 1, List.append_assoc]
      rfl
theorem runs_foldl (l : List Nat) : l.foldl addRun [] = runs l := by
  cases l with
  | nil => rfl
  | cons c r => exact foldl_addRun r [] c 1
theorem runs_take {l : List Nat} {i c : Nat} (h : l[i]? = some c) : runs (l.take (i + 1)) = addRun (runs (l.take i)) c := by
  have e : l.take (i + 1) = l.take i ++ [c] := by
    rw [List.take_add_one, h]; rfl
  rw [← runs_foldl, ← runs_foldl, e, List.foldl_append]
  rfl
/-- what is kept of the runs: t is true for the sieve T -/
def keepRun (t : Bool) (p : Nat × Nat) : Bool := if t then decide (1 < p.2) else decide (p.2 = 1)
def kept (t : Bool) (rs : List (Nat × Nat)) : List Nat := (rs.filter (keepRun t)).map Prod.fst
def once (t : Bool) (l : List Nat) : List Nat := kept t (runs l)
/-- the same place by place: b tells if the one before is the same -/
def pend (t : Bool) : Bool → Nat → List Nat → List Nat
  | b, c, [] => if b = t then [c] else []
  | b, c, d :: r => if d = c then pend t true c r else (if b = t then [c] else []) ++ pend t false d r
theorem kept_cons (t : Bool) (p : Nat × Nat) (rs : List (Nat × Nat)) : kept t (p :: rs) = (if keepRun t p = true then [p.1] else []) ++ kept t rs := by
  unfold kept
  rw [List.filter_cons]
  split <;> simp
theorem keepRun_is (t : Bool) (c n : Nat) (hn : 1 ≤ n) : (keepRun t (c, n) = true) = (decide (2 ≤ n) = t) := by
  unfold keepRun
  cases t
  · by_cases h : n = 1
    · subst h; simp
    · have : 2 ≤ n := by omega
      simp [h, this]
  · by_cases h : 2 ≤ n
    · have : 1 < n := h
      simp [this, h]
    · have : ¬ 1 < n := h
      simp [this, h]
theorem kept_from (t : Bool) : ∀ (l : List Nat) (c n : Nat), 1 ≤ n → kept t (runsFrom c n l) = pend t (decide (2 ≤ n)) c l
  | [], c, n, hn => by
    have e := keepRun_is t c n hn
    rw [runsFrom, kept_cons, pend]
    simp only [e]
    simp [kept]
  | d :: r, c, n, hn => by
    rw [runsFrom, pend]
    by_cases h : d = c
    · subst h
      rw [if_pos rfl, if_pos rfl, kept_from t r d (n + 1) (by omega)]
      have : 2 ≤ n + 1 := by omega
      rw [decide_eq_true this]
    · have e := keepRun_is t c n hn
      rw [if_neg h, if_neg h, kept_cons, kept_from t r d 1 (by omega)]
      simp only [e]
      rfl
theorem once_cons (t : Bool) (c : Nat) (r : List Nat) : once t (c :: r) = pend t false c r := kept_from t r c 1 (by omega)
/-- the letter at i is kept, judged by its neighbours -/
def before (l : List Nat) (i : Nat) : Bool := decide (0 < i) && decide (l[i - 1]? = l[i]?)
def behind (l : List Nat) (i : Nat) : Bool := decide (i + 1 < l.length) && decide (l[i + 1]? = l[i]?)
def keepAt (t : Bool) (l : List Nat) (i : Nat) : Bool := (before l i == t) && !behind l i
def upTo (t : Bool) (l : List Nat) : Nat → List Nat
  | 0 => []
  | i + 1 => upTo t l i ++ (if keepAt t l i = true then [l.getD i 0] else [])
theorem upTo_rest (t : Bool) (l : List Nat) : ∀ (m i : Nat), i + m = l.length → upTo t l l.length = upTo t l i ++ (match l.drop i with | [] => [] | c :: r => pend t (before l i) c r)
  | 0, i, h => by
    have e : i = l.length := by omega
    subst e
    simp
  | m + 1, i, h => by
    have hi : i < l.length := by omega
    have hd : l.drop i = l[i] :: l.drop (i + 1) := List.drop_eq_getElem_cons hi
    have ih := upTo_rest t l m (i + 1) (by omega)
    rw [ih, upTo, List.append_assoc]
    congr 1
    rw [hd]
    have gi : l[i]? = some l[i] := List.getElem?_eq_getElem hi
    have gd : l.getD i 0 = l[i] := by simp [List.getD, gi]
    by_cases h2 : i + 1 < l.length
    · have hd2 : l.drop (i + 1) = l[i + 1] :: l.drop (i + 2) := List.drop_eq_getElem_cons h2
      have gi2 : l[i + 1]? = some l[i + 1] := List.getElem?_eq_getElem h2
      rw [hd2]
      simp only [pend]
      have bn : before l (i + 1) = decide (l[i] = l[i + 1]) := by
        unfold before
        simp [gi, gi2]
      have bh : behind l i = decide (l[i + 1] = l[i]) := by
        unfold behind
        simp [gi, gi2, h2]
      by_cases hc : l[i + 1] = l[i]
      · rw [if_pos hc]
        have k : keepAt t l i = false := by unfold keepAt; rw [bh, decide_eq_true hc]; simp
        rw [k, bn, decide_eq_true hc.symm, hc]
        simp
      · rw [if_neg hc]
        have k : keepAt t l i = (before l i == t) := by unfold keepAt; rw [bh, decide_eq_false hc]; simp
        rw [k, bn, decide_eq_false (Ne.symm hc), gd]
        simp
    · have hd2 : l.drop (i + 1) = [] := List.drop_eq_nil_of_le (by omega)
      rw [hd2]
      have bh : behind l i = false := by unfold behind; simp [h2]
      have k : keepAt t l i = (before l i == t) := by unfold keepAt; rw [bh]; simp
      simp only [pend]
      rw [k, gd]
      simp
theorem once_upTo (t : Bool) (l : List Nat) : upTo t l l.length = once t l := by
  cases l with
  | nil => rfl
  | cons c r =>
    have h := upTo_rest t (c :: r) (c :: r).length 0 (by simp)
    rw [h, once_cons]
    simp [upTo, before]
/-- pairs, counted place by place -/
def pairsUp (l : List Nat) : Nat → Nat
  | 0 => 0
  | i + 1 => pairsUp l i + (if l[i]? = l[i + 1]? then 1 else 0)
def pairs (l : List Nat) : Nat := pairsUp l (l.length - 1)
def pairsR : List Nat → Nat
  | c :: d :: r => (if c = d then 1 else 0) + pairsR (d :: r)
  | _ => 0
theorem pairsUp_cons (c : Nat) (l : List Nat) : ∀ i, pairsUp (c :: l) (i + 1) = (if some c = l[0]? then 1 else 0) + pairsUp l i
  | 0 => by simp [pairsUp]
  | i + 1 => by
    rw [pairsUp, pairsUp_cons c l i, pairsUp]
    simp only [List.getElem?_cons_succ]
    omega
theorem pairs_R : ∀ l : List Nat, pairs l = pairsR l
  | [] => rfl
  | [_] => rfl
  | c :: d :: r => by
    have ih := pairs_R (d :: r)
    unfold pairs at ih ⊢
    show pairsUp (c :: d :: r) (r.length + 1) = _
    rw [pairsUp_cons c (d :: r) r.length, pairsR, ← ih]
    have e : (some c = (d :: r)[0]?) = (c = d) := by simp
    simp only [e]
    rfl
theorem runsFrom_len : ∀ (l : List Nat) (c n : Nat), (runsFrom c n l).length + pairsR (c :: l) = l.length + 1
  | [], c, n => rfl
  | d :: r, c, n => by
    rw [runsFrom, pairsR]
    by_cases h : d = c
    · subst h
      rw [if_pos rfl, if_pos rfl]
      have := runsFrom_len r d (n + 1)
      simp only [List.length_cons]
      omega
    · rw [if_neg h, if_neg (Ne.symm h)]
      have := runsFrom_len r d 1
      simp only [List.length_cons]
      omega
theorem runs_len (l : List Nat) : (runs l).length + pairs l = l.length := by
  rw [pairs_R]
  cases l with
  | nil => rfl
  | cons c r => exact runsFrom_len r c 1
theorem runsFrom_pos : ∀ (l : List Nat) (c n : Nat), 1 ≤ n → ∀ p ∈ runsFrom c n l, 1 ≤ p.2
  | [], c, n, hn => by simp [runsFrom, hn]
  | d :: r, c, n, hn => by
    rw [runsFrom]
    split
    · exact runsFrom_pos r c (n + 1) (by omega)
    · intro p hp
      rcases List.mem_cons.mp hp with rfl | hp
      · exact hn
      · exact runsFrom_pos r d 1 (by omega) p hp
theorem runs_pos (l : List Nat) : ∀ p ∈ runs l, 1 ≤ p.2 := by
  cases l with
  | nil => simp [runs]
  | cons c r => exact runsFrom_pos r c 1 (by omega)
theorem kept_both : ∀ rs : List (Nat × Nat), (∀ p ∈ rs, 1 ≤ p.2) → (kept true rs).length + (kept false rs).length = rs.length
  | [], _ => rfl
  | p :: rs, h => by
    have ih := kept_both rs fun q hq => h q (List.mem_cons_of_mem _ hq)
    have hp := h p List.mem_cons_self
    rw [kept_cons, kept_cons]
    simp only [List.length_append, List.length_cons]
    have e1 := keepRun_is true p.1 p.2 hp
    have e2 := keepRun_is false p.1 p.2 hp
    by_cases c : 2 ≤ p.2
    · simp [e1, e2, c]; omega
    · simp [e1, e2, c]; omega
theorem once_both (l : List Nat) : (once true l).length + (once false l).length = l.length - pairs l := by
  have h1 := kept_both (runs l) (runs_pos l)
  have h2 := runs_len l
  unfold once
  omega
/-- letters of what is kept are letters of the row -/
theorem runsFrom_mem : ∀ (l : List Nat) (c n : Nat), ∀ p ∈ runsFrom c n l, p.1 ∈ c :: l
  | [], c, n => by simp [runsFrom]
  | d :: r, c, n => by
    rw [runsFrom]
    split
    · rename_i h
      intro p hp
      have := runsFrom_mem r c (n + 1) p hp
      rcases List.mem_cons.mp this with h | h
      · rw [h]; exact List.mem_cons_self
      · exact List.mem_cons_of_mem _ (List.mem_cons_of_mem _ h)
    · intro p hp
      rcases List.mem_cons.mp hp with rfl | hp
      · exact List.mem_cons_self
      · exact List.mem_cons_of_mem _ (runsFrom_mem r d 1 p hp)
theorem runs_mem (l : List Nat) : ∀ p ∈ runs l, p.1 ∈ l := by
  cases l with
  | nil => simp [runs]
  | cons c r => exact runsFrom_mem r c 1
theorem once_mem {t : Bool} {l : List Nat} {c : Nat} (h : c ∈ once t l) : c ∈ l := by
  obtain ⟨p, hp, rfl⟩ := List.mem_map.mp h
  exact runs_mem l p (List.mem_filter.mp hp).1
theorem runs_le (l : List Nat) : (runs l).length ≤ l.length := by have := runs_len l; omega
theorem kept_le (t : Bool) (rs : List (Nat × Nat)) : (kept t rs).length ≤ rs.length := by
  unfold kept
  rw [List.length_map]
  exact List.length_filter_le _ _
theorem once_le (t : Bool) (l : List Nat) : (once t l).length ≤ l.length := Nat.le_trans (kept_le t _) (runs_le l)
theorem kept_append (t : Bool) (a b : List (Nat × Nat)) : kept t (a ++ b) = kept t a ++ kept t b := by simp [kept]
end Tw

set_option Elab.async false
set_option linter.all false
set_option maxRecDepth 100000
set_option maxHeartbeats 2000000
namespace Tw
open PySem PySem.Spec PyProof.Rows L2
section
variable {P : Program} {w : World} {K : PySem.W.Frag} {mg : Str → Option Value} {base : Heap}
theorem ite_b {b : Bool} {c A B : Prop} [Decidable c] (e : b = decide c) (h1 : c → A) (h2 : ¬ c → B) : if b = true then A else B := by
  by_cases h : c
  · rw [e, decide_eq_true h, if_pos rfl]
    exact h1 h
  · rw [e, decide_eq_false h, if_neg Bool.false_ne_true]
    exact h2 h
theorem ixN_last {α : Type} (xs : List α) (n : Nat) (v : α) (h : xs.length = n) : ixN (xs ++ [v]).length (-1) = some n := by
  unfold ixN
  rw [if_neg (by decide), if_pos (by rw [List.length_append]; show -((xs.length + 1 : Nat) : Int) ≤ -1; omega), List.length_append]
  congr 1
  show ((-1 : Int) + ((xs.length + 1 : Nat) : Int)).toNat = n
  omega
theorem same_upd {H : Hp} {p : Addr} {o : HO} (h : H p = none) : Same H (upd H p o) := fun b x e => by
  rw [upd_ne (ne_of_none e h)]
  exact e
/-- only letters from a to z -/
def Low (l : List Nat) : Prop := ∀ c ∈ l, 97 ≤ c ∧ c ≤ 122
theorem sgn_at {l : List Nat} {i c : Nat} (h : l[i]? = some c) : sgn (mk l) i = V.str (mk [c]) := by
  have e : (mk l).cps.getD i 0 = c := by
    rw [Array.getD_eq_getD_getElem?]
    show (l.toArray[i]?).getD 0 = c
    rw [List.getElem?_toArray, h]
    rfl
  show V.str ⟨#[(mk l).cps.getD i 0]⟩ = V.str (mk [c])
  rw [e]
  rfl
theorem single_lt (a b : Nat) : (([a] : List Nat) < [b]) ↔ a < b := by
  rw [List.cons_lt_cons_iff]
  simp
theorem ge_a {c : Nat} (h : 97 ≤ c) : (!decide ((mk [c]).cps.toList < (Str.ofString "a").cps.toList)) = true := by
  have e : (Str.ofString "a").cps.toList = [97] := by decide +kernel
  have e2 : (mk [c]).cps.toList = [c] := rfl
  rw [e, e2]
  have : ¬ ([c] : List Nat) < [97] := fun z => by have := (single_lt _ _).mp z; omega
  rw [decide_eq_false this]; rfl
theorem le_z {c : Nat} (h : c ≤ 122) : (!decide ((Str.ofString "z").cps.toList < (mk [c]).cps.toList)) = true := by
  have e : (Str.ofString "z").cps.toList = [122] := by decide +kernel
  have e2 : (mk [c]).cps.toList = [c] := rfl
  rw [e, e2]
  have : ¬ ([122] : List Nat) < [c] := fun z => by have := (single_lt _ _).mp z; omega
  rw [decide_eq_false this]; rfl
theorem mk_size (l : List Nat) : (mk l).cps.size = l.length := by simp [mk]
def spChkRow : Sp := fun vs H Q _ => ∃ l : List Nat, vs = [.str (mk l)] ∧ Low l ∧ ∀ H', Same H H' → Q .non H'
/-- only T and S -/
def Pipe (p : List Nat) : Prop := ∀ c ∈ p, c = 84 ∨ c = 83
def spChkPipe : Sp := fun vs H Q _ => ∃ l : List Nat, vs = [.str (mk l)] ∧ Pipe l ∧ ∀ H', Same H H' → Q .non H'
theorem str_T : (V.str "T") = V.str (mk [84]) := by decide +kernel
theorem str_S : (V.str "S") = V.str (mk [83]) := by decide +kernel
theorem eq_mk1 {a b : Nat} : (V.str (mk [a]) = V.str (mk [b])) ↔ a = b := by
  constructor
  · intro h
    have e := mk_inj.mp (V.str.inj h)
    exact List.head_eq_of_cons_eq e
  · intro h
    rw [h]
def tupOf (q : Nat × Nat) : HO := .tup [V.str (mk [q.1]), V.int (q.2 : Nat)]
def Pairs (H : Hp) : List Addr → List (Nat × Nat) → Prop
  | [], [] => True
  | a :: as, q :: rs => H a = some (tupOf q) ∧ Pairs H as rs
  | _, _ => False
theorem Pairs.snoc {H : Hp} : ∀ {as : List Addr} {rs : List (Nat × Nat)} {a : Addr} {q : Nat × Nat}, Pairs H as rs → H a = some (tupOf q) → Pairs H (as ++ [a]) (rs ++ [q])
  | [], [], _, _, _, h => ⟨h, trivial⟩
  | _ :: _, _ :: _, _, _, h, h2 => ⟨h.1, Pairs.snoc h.2 h2⟩
  | [], _ :: _, _, _, h, _ => h.elim
  | _ :: _, [], _, _, h, _ => h.elim
theorem Pairs.last {H : Hp} : ∀ {as : List Addr} {rs : List (Nat × Nat)} {q : Nat × Nat}, Pairs H as (rs ++ [q]) → ∃ as' a, as = as' ++ [a] ∧ Pairs H as' rs ∧ H a = some (tupOf q)
  | [], [], _, h => h.elim
  | [], _ :: _, _, h => h.elim
  | [a], [], q, h => ⟨[], a, rfl, trivial, h.1⟩
  | _ :: _ :: _, [], _, h => h.2.elim
  | b :: as, r :: rs, q, h => by
    obtain ⟨as', a, e, h1, h2⟩ := Pairs.last (as := as) (rs := rs) (q := q) h.2
    exact ⟨b :: as', a, by rw [e]; rfl, ⟨h.1, h1⟩, h2⟩
theorem Pairs.len {H : Hp} : ∀ {as : List Addr} {rs : List (Nat × Nat)}, Pairs H as rs → as.length = rs.length
  | [], [], _ => rfl
  | _ :: as, _ :: rs, h => by rw [List.length_cons, List.length_cons, Pairs.len h.2]
  | [], _ :: _, h => h.elim
  | _ :: _, [], h => h.elim
theorem Pairs.mono {H H' : Hp} : ∀ {as : List Addr} {rs : List (Nat × Nat)}, (∀ a q, H a = some (tupOf q) → H' a = some (tupOf q)) → Pairs H as rs → Pairs H' as rs
  | [], [], _, _ => trivial
  | _ :: as, _ :: rs, k, h => ⟨k _ _ h.1, Pairs.mono k h.2⟩
  | [], _ :: _, _, h => h.elim
  | _ :: _, [], _, h => h.elim
theorem Pairs.at {H : Hp} : ∀ {as : List Addr} {rs : List (Nat × Nat)} {j : Nat} {q : Nat × Nat}, Pairs H as rs → rs[j]? = some q → ∃ a, as[j]? = some a ∧ H a = some (tupOf q)
  | [], [], _, _, _, e => by simp at e
  | a :: _, r :: _, 0, q, h, e => by
    have e' : r = q := Option.some.inj e
    exact ⟨a, rfl, e' ▸ h.1⟩
  | _ :: as, _ :: rs, j + 1, q, h, e => Pairs.at (as := as) (rs := rs) (j := j) h.2 e
  | [], _ :: _, _, _, h, _ => h.elim
  | _ :: _, [], _, _, h, _ => h.elim
theorem tup_ne_lst {q : Nat × Nat} {xs : List V} : tupOf q ≠ HO.lst xs := fun z => nomatch z
def spRuns : Sp := fun vs H Q _ => ∃ l : List Nat, vs = [.str (mk l)] ∧ l.length ≤ 1000 ∧ ∀ H' p as, Same H H' → H p = none → H' p = some (.lst (as.map V.ref)) → Pairs H' as (runs l) → Q (.ref p) H'
theorem snoc_cases (rs : List (Nat × Nat)) : rs = [] ∨ ∃ r' q, rs = r' ++ [q] := by
  cases e : rs.getLast? with
  | none => exact .inl (List.getLast?_eq_none_iff.mp e)
  | some q =>
    refine .inr ⟨rs.dropLast, q, ?_⟩
    obtain ⟨ys, h⟩ := List.getLast?_eq_some_iff.mp e
    rw [h, List.dropLast_concat]
theorem joinL_nil : ∀ ls : List (List Nat), TL.joinL [] ls = ls.flatten
  | [] => rfl
  | [x] => by simp [TL.joinL]
  | x :: y :: r => by
    have ih := joinL_nil (y :: r)
    simp [TL.joinL] at ih ⊢
    exact ih
theorem join_signs (l : List Nat) : Txt.join "" (l.map fun c => mk [c]) = mk l := by
  refine TL.ext_tl ?_
  rw [TL.join_eq, TL.tl_join]
  have e : TL.tl ("" : Str) = [] := by decide +kernel
  rw [e, joinL_nil, List.map_map]
  show (l.map (fun c => [c])).flatten = l
  induction l with
  | nil => rfl
  | cons c r ih => rw [List.map_cons, List.flatten_cons, ih]; rfl
theorem Pairs.at' {H : Hp} : ∀ {as : List Addr} {rs : List (Nat × Nat)} {j : Nat} {a : Addr}, Pairs H as rs → as[j]? = some a → ∃ q, rs[j]? = some q ∧ H a = some (tupOf q)
  | [], [], _, _, _, e => by simp at e
  | b :: _, r :: _, 0, a, h, e => by
    have e' : b = a := Option.some.inj e
    exact ⟨r, rfl, e' ▸ h.1⟩
  | _ :: as, _ :: rs, j + 1, q, h, e => Pairs.at' (as := as) (rs := rs) (j := j) h.2 e
  | [], _ :: _, _, _, h, _ => h.elim
  | _ :: _, [], _, _, h, _ => h.elim
theorem kept_take {t : Bool} {rs : List (Nat × Nat)} {i : Nat} {q : Nat × Nat} (h : rs[i]? = some q) : kept t (rs.take (i + 1)) = kept t (rs.take i) ++ (if keepRun t q = true then [q.1] else []) := by
  have e : rs.take (i + 1) = rs.take i ++ [q] := by
    rw [List.take_add_one, h]; rfl
  rw [e, kept_append, kept_cons]
  simp [kept]
theorem pg_tup2 {X : Cx} {x1 x2 : Str} {p1 p2 : Pos} {k : Nat} {pos : Pos} {t1 t2 : TG} (hc : X.calm = true) (h1 : PG X (.Name x1 p1) t1) (h2 : PG X (.Name x2 p2) t2) :
    PG X (.Tuple [.Name x1 p1, .Name x2 p2] k pos) (gTup X.K 2 (gCons t1 (gCons t2 gNil))) := pg_tup hc (pgs_cons h1 (pgs_cons h2 pgs_nil))
def sOf (t : Bool) : List Nat := [if t then 84 else 83]
theorem eqT (t : Bool) : decide (V.str (mk (sOf t)) = V.str "T") = decide (t = true) := by
  rw [str_T]
  refine decide_eq_decide.mpr ?_
  cases t
  · exact ⟨fun z => absurd (eq_mk1.mp z) (by decide), fun z => nomatch z⟩
  · exact ⟨fun _ => rfl, fun _ => rfl⟩
def spOnce : Sp := fun vs H Q _ => ∃ (l : List Nat) (t : Bool), vs = [.str (mk l), .str (mk (sOf t))] ∧ l.length ≤ 1000 ∧ ∀ H', Same H H' → Q (.str (mk (once t l))) H'
def signs (l : List Nat) : List V := l.map fun c => V.str (mk [c])
theorem signs_app (a b : List Nat) : signs (a ++ b) = signs a ++ signs b := by simp [signs]
theorem signs_len (a : List Nat) : (signs a).length = a.length := by simp [signs]
/-- the reading of both comprehensions: test tells what the test at a run asks -/
theorem once_lc {t : Bool} {l : List Nat} {H H' : Hp} {p D : Addr} {as : List Addr} {K : PySem.W.Frag} {tt : TT} {Q : Hp → Prop} {s0 s1 s2 s3 s4 : Option V}
    (sm : Same H H') (hl : l.length ≤ 1000) (hp : H' p = some (.lst (as.map V.ref))) (ps : Pairs H' as (runs l)) (nD : H' D = none)
    (hT : ∀ (q : Nat × Nat) (H2 : Hp) (R : Bool → Hp → Prop), R (keepRun t q) H2 → tt [s0, s1, s2, some (V.str (mk [q.1])), some (V.int (q.2 : Nat))] H2 R)
    (hQ : ∀ H2, Same H H2 → H2 D = some (.lst (signs (once t l))) → Q H2) :
    ∃ W : Nat → Nat → Hp → Prop, (∃ m, W 0 m (upd H' D (.lst []))) ∧ ∀ i m H2, W i m H2 →
      ((Itl K p).stop i H2 ∧ Q H2) ∨ ((Itl K p).go i H2 ∧ ∃ Nx : Hp → Prop, (∀ H3, Nx H3 → ∃ m', m' < m ∧ W (i + 1) m' H3) ∧ ∀ x H3, (Itl K p).yld i H2 x H3 → gTup K 2 (gCons (gName 3) (gCons (gName 4) gNil)) x (wipe [s0, s1, s2, s3, s4] [3, 4]) H3 fun σ2 H4 => wipe σ2 [3, 4] = wipe [s0, s1, s2, s3, s4] [3, 4] ∧ tt σ2 H4 fun b H5 =>
        if b = true then tVar 3 σ2 H5 fun y H6 => ∃ acc, H6 D = some (.lst acc) ∧ acc.length < sizeLine ∧ Nx (upd H6 D (.lst (acc ++ [y]))) else Nx H5) := by
  refine lc_list (xs := as.map V.ref) (fun i H2 => Same H' H2 ∧ H2 D = some (.lst (signs (kept t ((runs l).take i))))) ⟨same_upd nD, upd_same⟩ (fun i H2 _ h => SqL.of (h.1 _ _ hp)) ?_ ?_
  · rintro i x H2 hx ⟨sm2, hD⟩
    rw [List.getElem?_map] at hx
    obtain ⟨a, ha, rfl⟩ := Option.map_eq_some_iff.mp hx
    obtain ⟨q, hq, hqa⟩ := ps.at' ha
    refine ⟨a, _, rfl, SqT.of (sm2 _ _ hqa), rfl, _, _, rfl, _, _, rfl, rfl, rfl, hT q H2 _ ?_⟩
    have kt := kept_take (t := t) hq
    have hlen : (signs (kept t ((runs l).take i))).length < sizeLine := by
      rw [signs_len]
      refine small1000 (Nat.le_trans (kept_le t _) ?_)
      rw [List.length_take]
      have := runs_le l
      omega
    by_cases c : keepRun t q = true
    · rw [c]
      rw [if_pos c] at kt
      refine iteT ⟨_, rfl, _, hD, hlen, ?_, ?_⟩
      · intro b o hb
        rw [upd_ne (ne_of_none hb nD)]
        exact sm2 b o hb
      · rw [upd_same, kt, signs_app]
        rfl
    · have c' : keepRun t q = false := by
        cases h : keepRun t q
        · rfl
        · exact absurd h c
      rw [if_neg c, List.append_nil] at kt
      rw [c']
      refine iteF ⟨sm2, ?_⟩
      rw [kt]
      exact hD
  · rintro H2 ⟨sm2, hD⟩
    refine hQ H2 (sm.trans sm2) ?_
    have e : (as.map V.ref).length = (runs l).length := by rw [List.length_map, ps.len]
    rw [e, List.take_length] at hD
    exact hD
/-- the sieves of a pipeline, from left to right -/
def sv (l p : List Nat) : List Nat := p.foldl (fun r c => once (c == 84) r) l
theorem sv_take {l p : List Nat} {i c : Nat} (h : p[i]? = some c) : sv l (p.take (i + 1)) = once (c == 84) (sv l (p.take i)) := by
  have e : p.take (i + 1) = p.take i ++ [c] := by
    rw [List.take_add_one, h]; rfl
  unfold sv
  rw [e, List.foldl_append]
  rfl
theorem sv_le (l : List Nat) : ∀ p : List Nat, (sv l p).length ≤ l.length := by
  intro p
  induction p generalizing l with
  | nil => exact Nat.le_refl _
  | cons c p ih => exact Nat.le_trans (ih _) (once_le _ _)
theorem sv_mem {l : List Nat} : ∀ {p : List Nat} {c : Nat}, c ∈ sv l p → c ∈ l := by
  intro p
  induction p generalizing l with
  | nil => exact fun h => h
  | cons d p ih => exact fun h => once_mem (ih h)
theorem pipe_sign {c : Nat} (h : c = 84 ∨ c = 83) : (V.str ⟨#[c]⟩) = V.str (mk (sOf (c == 84))) := by
  rcases h with e | e <;> subst e <;> rfl
def spSize : Sp := fun vs H Q _ => ∃ l : List Nat, vs = [.str (mk l)] ∧ (Low l ∧ l.length ≤ 1000) ∧ ∀ H' p, Same H H' → H p = none → H' p = some (.tup [V.int (l.length : Nat), V.int (pairs l : Nat)]) → Q (.ref p) H'
theorem len_line {n : Nat} (h : n ≤ 1000) : n ≤ sizeLine := Nat.le_of_lt (small1000 h)
def spSieve : Sp := fun vs H Q _ => ∃ l p : List Nat, vs = [.str (mk l), .str (mk p)] ∧ (Low l ∧ l.length ≤ 1000 ∧ Pipe p) ∧ ∀ H', Same H H' → Q (.str (mk (sv l p))) H'
def bigD : Int := 2 ^ 12600
/-- a draw's state: digits, seed, counter -/
structure RngOk (d s c : Int) : Prop where
  d0 : 0 ≤ d
  d1 : d < bigD
  s0 : 0 ≤ s
  s1 : s < 2305843009213693952
  c0 : 0 ≤ c
  c1 : c < 4294967296
def rngO (d s c : Int) : HO := .lst [V.int d, V.int s, V.int c]
theorem cut_any (ns : List Int) (a b : Nat) : ∃ ms : List Int, ((ns.map V.int).drop a).take b = ms.map V.int ∧ ms.length ≤ ns.length :=
  ⟨(ns.drop a).take b, by rw [List.map_take, List.map_drop], by rw [List.length_take, List.length_drop]; omega⟩
theorem cut_ints (ns : List Int) (lo hi : Option Int) : ∃ ms : List Int, cutV (ns.map V.int) lo hi = ms.map V.int ∧ ms.length ≤ ns.length := by
  exact cut_any ns _ _
theorem pow2_le {a b : Nat} (h : a ≤ b) : (2 : Int) ^ a ≤ 2 ^ b := by
  rw [two_pow_cast, two_pow_cast]
  exact Int.ofNat_le.mpr (Nat.pow_le_pow_right (by decide) h)
theorem bigD_lt {i : Nat} {d r : Int} (hi : i < 63) (h0 : 0 ≤ d) (h1 : d < 2 ^ (200 * i)) (r0 : 0 ≤ r) (r1 : r < 10 ^ 60) : 0 ≤ d * 10 ^ 60 + r ∧ d * 10 ^ 60 + r < 2 ^ (200 * (i + 1)) := by
  have e : (2 : Int) ^ (200 * (i + 1)) = 2 ^ (200 * i) * 2 ^ 200 := by
    rw [← Int.pow_add]; congr 1
  have p : (10 : Int) ^ 60 ≤ 2 ^ 200 := by decide +kernel
  have h2 : (d + 1) * 10 ^ 60 ≤ 2 ^ (200 * i) * 2 ^ 200 := Int.mul_le_mul (by omega) p (by decide +kernel) (two_pow_nn _)
  have h3 : (d + 1) * 10 ^ 60 = d * 10 ^ 60 + 10 ^ 60 := by rw [Int.add_mul, Int.one_mul]
  have h4 : 0 ≤ d * 10 ^ 60 := Int.mul_nonneg h0 (by decide +kernel)
  rw [e]
  omega
def spRng (K : PySem.W.Frag) : Sp := fun vs H Q _ => ∃ (a : Addr) (ns : List Int), vs = [.ref a] ∧ SqL K H a (ns.map V.int) ∧ ns.length ≤ 63 ∧
  ∀ H' r d s, Same H H' → H r = none → H' r = some (rngO d s 0) → RngOk d s 0 → Q (.ref r) H'
theorem pow1018 : (10 : Int) ^ (18 : Int).toNat = 1000000000000000000 := by decide +kernel
theorem pow1060 : (10 : Int) ^ (60 : Int).toNat = 10 ^ 60 := rfl
theorem log2_le_of {i : Int} {n : Nat} (h0 : 0 ≤ i) (h : i < 2 ^ n) : i.natAbs.log2 ≤ n := by
  have e : i.natAbs < 2 ^ n := by
    have : ((i.natAbs : Nat) : Int) < ((2 ^ n : Nat) : Int) := by
      rw [Int.natAbs_of_nonneg h0, ← two_pow_cast]
      exact h
    exact Int.ofNat_lt.mp this
  by_cases z : i.natAbs = 0
  · rw [z]
    exact Nat.zero_le _
  · exact Nat.le_of_lt ((Nat.log2_lt z).mpr e)
def spDraw : Sp := fun vs H Q _ => ∃ (r : Addr) (m d s c : Int), vs = [.ref r, .int m] ∧ H r = some (rngO d s c) ∧ RngOk d s c ∧ (0 < m ∧ m < 2 ^ 200) ∧ c + 1 < 4294967296 ∧
  ∀ d' c' v, RngOk d' s c' → c' ≤ c + 1 → 0 ≤ v → v < m → Q (.int v) (upd H r (rngO d' s c'))
theorem emod_both (a : Int) {b : Int} (h : 0 < b) : 0 ≤ a % b ∧ a % b < b := ⟨Int.emod_nonneg _ (Int.ne_of_gt h), Int.emod_lt_of_pos _ h⟩
theorem pick {xs : List Int} {v : Int} (h0 : 0 ≤ v) (h1 : v < (xs.length : Nat)) : ∃ x, x ∈ xs ∧ atI (xs.map V.int) v = some (V.int x) := by
  obtain ⟨j, rfl⟩ := Int.eq_ofNat_of_zero_le h0
  have hj : j < xs.length := Int.ofNat_lt.mp h1
  refine ⟨xs[j], List.getElem_mem hj, atI_nat ?_⟩
  rw [List.getElem?_map, List.getElem?_eq_getElem hj]
  rfl
theorem cutS_take (l : List Nat) (n : Nat) : cutS (mk l) none (some (n : Int)) = mk (l.take n) := by
  unfold cutS
  rw [HT.sIx_none, HT.sIx_nat, mk_len]
  show mk (((mk l).cps.toList.drop 0).take (min n l.length - 0)) = _
  show mk ((l.drop 0).take (min n l.length - 0)) = _
  rw [List.drop_zero, Nat.sub_zero]
  congr 1
  by_cases h : n ≤ l.length
  · rw [Nat.min_eq_left h]
  · rw [Nat.min_eq_right (by omega), List.take_of_length_le (by omega), List.take_of_length_le (by omega)]
theorem cutS_drop (l : List Nat) (n : Nat) : cutS (mk l) (some (n : Int)) none = mk (l.drop n) := by
  unfold cutS
  rw [HT.sIx_none, HT.sIx_nat, mk_len]
  show mk ((l.drop (min n l.length)).take (l.length - min n l.length)) = _
  congr 1
  by_cases h : n ≤ l.length
  · rw [Nat.min_eq_left h, List.take_of_length_le (by rw [List.length_drop]; omega)]
  · rw [Nat.min_eq_right (by omega), List.drop_of_length_le (by omega), List.drop_of_length_le (by omega), List.take_nil]
theorem alpha_at {v : Int} (h0 : 0 ≤ v) (h1 : v < 26) : ∃ c : Nat, atI (Str.ofString "abcdefghijklmnopqrstuvwxyz").cps.toList v = some c ∧ 97 ≤ c ∧ c ≤ 122 := by
  obtain ⟨j, rfl⟩ := Int.eq_ofNat_of_zero_le h0
  have e : (Str.ofString "abcdefghijklmnopqrstuvwxyz").cps.toList = (List.range 26).map (· + 97) := by decide +kernel
  refine ⟨j + 97, atI_nat ?_, by omega, by omega⟩
  rw [e, List.getElem?_map, List.getElem?_range (by omega)]
  rfl
/-- all but what stands at r is as it was -/
def SameB (r : Addr) (H H' : Hp) : Prop := ∀ b o, b ≠ r → H b = some o → H' b = some o
theorem SameB.refl (r : Addr) (H : Hp) : SameB r H H := fun _ _ _ h => h
theorem SameB.trans {r : Addr} {H H1 H2 : Hp} (a : SameB r H H1) (b : SameB r H1 H2) : SameB r H H2 := fun c o n h => b c o n (a c o n h)
theorem SameB.at (r : Addr) (H : Hp) (o : HO) : SameB r H (upd H r o) := fun b u n h => by rw [upd_ne n]; exact h
theorem Same.b {r : Addr} {H H' : Hp} (h : Same H H') : SameB r H H' := fun b o _ e => h b o e
theorem SameB.seq {K : PySem.W.Frag} {r : Addr} {H H' : Hp} {a : Addr} {xs : List V} (e : SameB r H H') (n : a ≠ r) (h : SqL K H a xs) : SqL K H' a xs := by
  rcases h with (h | ⟨o, h⟩) | h
  · exact .inl (.inl (e _ _ n h))
  · exact .inl (.inr ⟨o, e _ _ n h⟩)
  · exact .inr h
theorem reps_len (n : Nat) (l : List Nat) : (reps n l).length = n * l.length := by
  unfold reps
  rw [List.length_flatten, List.map_replicate, List.sum_replicate_nat]
theorem reps_mem {n : Nat} {l : List Nat} {c : Nat} (h : c ∈ reps n l) : c ∈ l := by
  obtain ⟨x, hx, hc⟩ := List.mem_flatten.mp h
  rw [(List.mem_replicate.mp hx).2] at hc
  exact hc
def spWord : Sp := fun vs H Q _ => ∃ (r : Addr) (n : Nat) (d s c : Int), vs = [.ref r, .int (n : Nat)] ∧ n ≤ 200 ∧ H r = some (rngO d s c) ∧ RngOk d s c ∧ c + 1000 < 4294967296 ∧
  ∀ H' d' c' l, SameB r H H' → H' r = some (rngO d' s c') → RngOk d' s c' → c' ≤ c + 1000 → Low l → l.length ≤ n → Q (.str (mk l)) H'
theorem atI_of {α : Type} {xs : List α} {i : Int} {j : Nat} {v : α} (e : i = (j : Nat)) (h : xs[j]? = some v) : atI xs i = some v := by
  subst e
  exact atI_nat h
theorem eqS (t : Bool) : decide (V.str (mk (sOf t)) = V.str "S") = decide (t = false) := by
  rw [str_S]
  refine decide_eq_decide.mpr ?_
  cases t
  · exact ⟨fun _ => rfl, fun _ => rfl⟩
  · exact ⟨fun z => absurd (eq_mk1.mp z) (by decide), fun z => nomatch z⟩
theorem eq1 (c d : Nat) : decide (V.str ⟨#[c]⟩ = V.str ⟨#[d]⟩) = decide (c = d) := decide_eq_decide.mpr eq_mk1
theorem before_pos {l : List Nat} {i c d : Nat} (h : 0 < i) (hc : l[i - 1]? = some c) (hd : l[i]? = some d) : before l i = decide (c = d) := by
  unfold before
  rw [hc, hd, decide_eq_true h, Bool.true_and]
  exact decide_eq_decide.mpr ⟨fun z => Option.some.inj z, fun z => by rw [z]⟩
theorem before_zero {l : List Nat} {i : Nat} (h : ¬ 0 < i) : before l i = false := by
  unfold before
  rw [decide_eq_false h, Bool.false_and]
theorem behind_in {l : List Nat} {i c d : Nat} (h : i + 1 < l.length) (hc : l[i + 1]? = some c) (hd : l[i]? = some d) : behind l i = decide (c = d) := by
  unfold behind
  rw [hc, hd, decide_eq_true h, Bool.true_and]
  exact decide_eq_decide.mpr ⟨fun z => Option.some.inj z, fun z => by rw [z]⟩
theorem behind_out {l : List Nat} {i : Nat} (h : ¬ i + 1 < l.length) : behind l i = false := by
  unfold behind
  rw [decide_eq_false h, Bool.false_and]
def spOnceL : Sp := fun vs H Q _ => ∃ (l : List Nat) (t : Bool), vs = [.str (mk l), .str (mk (sOf t))] ∧ l.length ≤ 1000 ∧ Q (.str (mk (once t l))) H
theorem pairsUp_le (l : List Nat) : ∀ i, pairsUp l i ≤ i
  | 0 => Nat.le_refl _
  | i + 1 => by
    have := pairsUp_le l i
    rw [pairsUp]
    split <;> omega
def spPairs : Sp := fun vs H Q _ => ∃ (l : List Nat), vs = [.str (mk l)] ∧ l.length ≤ 1000 ∧ ∀ H', Same H H' → Q (.int (pairs l : Nat)) H'
theorem log2_small {n : Nat} (h : n ≤ 100000) : ((n : Int)).natAbs.log2 < 1920 := by
  rw [Int.natAbs_natCast]
  by_cases z : n = 0
  · subst z; decide
  · have : n < 2 ^ 17 := by omega
    have := (Nat.log2_lt z).mpr this
    omega
def dSz (a b : Nat) : PyData := .list [.tuple [.int (a : Nat), .int (b : Nat)], .tuple [.int (a : Nat), .int (b : Nat)]]
theorem int_len {n : Nat} (h : n ≤ 100000) : (Str.ofString (toString (n : Int))).length ≤ 1921 := int_text_len_1921 (log2_small h)
theorem dSz_ok {a b : Nat} (ha : a ≤ 100000) (hb : b ≤ 100000) : (dSz a b).showable = true ∧ (dSz a b).hasDict = false ∧ (dSz a b).depth ≤ 50 ∧ (dSz a b).shown.length ≤ sizeLine := by
  refine ⟨?_, rfl, by show 2 ≤ 50; decide, ?_⟩
  · have h1 := decide_eq_true (log2_small ha)
    have h2 := decide_eq_true (log2_small hb)
    simp only [dSz, PyData.showable, PyData.showableAll, h1, h2, Bool.and_self]
  · have h1 := int_len ha
    have h2 := int_len hb
    have e : (dSz a b).shown = listText [tupleText [Str.ofString (toString (a : Int)), Str.ofString (toString (b : Int))], tupleText [Str.ofString (toString (a : Int)), Str.ofString (toString (b : Int))]] := rfl
    rw [e]
    have t1 := tupleText_le [Str.ofString (toString (a : Int)), Str.ofString (toString (b : Int))]
    have t2 := listText_le [tupleText [Str.ofString (toString (a : Int)), Str.ofString (toString (b : Int))], tupleText [Str.ofString (toString (a : Int)), Str.ofString (toString (b : Int))]]
    simp only [piled_cons, piled_nil] at t1 t2
    have : sizeLine = 16777216 := sizeLine_eq
    omega
def dTx (l : List Nat) : PyData := .list [.str (mk l), .str (mk l)]
theorem dTx_ok {l : List Nat} (hl : l.length ≤ 10000) (low : ∀ c ∈ l, c < 16 ^ 8) : (dTx l).showable = true ∧ (dTx l).hasDict = false ∧ (dTx l).depth ≤ 50 ∧ (dTx l).shown.length ≤ sizeLine := by
  refine ⟨rfl, rfl, by show 1 ≤ 50; decide, ?_⟩
  have e : (dTx l).shown = listText [reprText (mk l), reprText (mk l)] := rfl
  rw [e]
  have h := StrLaws.reprText_len (mk l) low
  rw [mk_len] at h
  have t2 := listText_le [reprText (mk l), reprText (mk l)]
  simp only [piled_cons, piled_nil] at t2
  have : sizeLine = 16777216 := sizeLine_eq
  omega
/-- a def of the text: it stands at f, its name holds it, its arguments bind one by one -/
structure Dfn (K : PySem.W.Frag) (mg : Str → Option Value) (x : Str) (st : Stmt) (ps : List Str) (f : Addr) (fd : FuncData) : Prop where
  F : Fun K x x st f fd
  b : Binds K fd ps []
  g : mg x = some (.ref f)
theorem empty_mk : (V.str "") = V.str (mk []) := by decide +kernel
theorem sv_one (l : List Nat) (t : Bool) : sv l (sOf t) = once t l := by cases t <;> rfl
theorem pipe_one (t : Bool) : Pipe (sOf t) := fun c hc => by
  have e := List.mem_singleton.mp hc
  cases t
  · exact .inr e
  · exact .inl e
theorem dfn_mk {K : PySem.W.Frag} {mg : Str → Option Value} {h : Heap} (X : K.In h) (G : h.Ns mainGlobals mg) {x : Str} {st : Stmt} {ps : List Str} {f : Addr} {oc : Value} {od an : Option Addr} {sl : Array (Option Value)} {kV dc pm cd ct : Value}
    (a : PySem.W.nsIn K mainGlobals x = some (some (.ref f))) (l : K.lookup f = some ⟨oc, od, .func (PySem.W.fnOf x x (defArgs st) (defBody st) (defScope st) .none kV dc pm an cd ct), sl⟩)
    (c : PySem.W.codeIn K cd x = true) (k : PySem.W.keepIn K (.ref f) = true)
    (b : ∀ (kV doc pm : Value) (an : Option Addr) (cdv ct : Value) (us : List Value), us.length = ps.length → bindArgs (PySem.W.fnOf x x (defArgs st) (defBody st) (defScope st) .none kV doc pm an cdv ct) ⟨us, []⟩ = pure (ps.zip us)) :
    Dfn K mg x st ps f (PySem.W.fnOf x x (defArgs st) (defBody st) (defScope st) .none kV dc pm an cd ct) :=
  ⟨fun_mk l c k, (fun_mk l c k).binds b, PySem.W.mg_of X G a⟩
end
end Tw

set_option Elab.async false
set_option linter.all false
set_option maxRecDepth 100000
set_option maxHeartbeats 2000000
namespace TwX
open PySem PySem.W PySem.Calls PyProof.Rows PySem.HandSPX
/-! an own error class whose __init__ stores its one argument as value -/
def iA (p1 p2 : Pos) : Arguments := { posonlyargs := [], args := [{ arg := "self", annotation := none, pos := p1 }, { arg := "value", annotation := none, pos := p2 }], vararg := none, kwonlyargs := [], kw_defaults := [], kwarg := none, defaults := [] }
def iB (q1 q2 q3 q4 : Pos) : List Stmt := [.Assign [.Attribute (.Name "self" q1) "value" q2] (.Name "value" q3) q4]
def iS : Scope := { kind := .function, names := [(PySem.Str.ofString "self", .local), (PySem.Str.ofString "value", .local)], isGenerator := false, isCoroutine := false, more := [] }
/-- what the written part says of the class at C, and of its __init__, at fI -/
structure ETxt (K : Frag) (C fI : Addr) : Prop where
  cls : ∃ nm q N bs bm sn sub ab col dd k0 k1 k2 k3 k5, K.lookup C = some (excClassObj nm q C N bs bm true sn sub ab col dd k0 k1 k2 k3 k5 "ValueError.__new__") ∧ refsVE bm = true
  sa : findIn K (.ref C) "__setattr__" = some (some (.builtin "object.__setattr__"))
  ga : findIn K (.ref C) "__getattribute__" = some (some (.builtin "BaseException.__getattribute__"))
  gg : findIn K (.ref C) "__getattr__" = some none
  noN : findIn K (.ref C) "value" = some none
  iC : findIn K (.ref C) "__init__" = some (some (.ref fI))
  tC : typeIn K (.ref fI) = some (.type "function")
  kC : keepIn K (.ref C) = true
  exC : subIn K (.ref C) (.type "BaseException") = some true
  tyC : typeIn K (.ref C) = some (.type "type")
  hdC : hasDictIn K C = true
  cl : findIn K (.ref C) "__class__" = some (some (.builtin "object.__class__"))
  cn : specialIn K (.builtin "object.__class__") "__get__" = some (some (.builtin "getset_descriptor.__get__"))
  ct : takesIn K (.builtin "object.__class__") = some true
  cm : mroIn K C (.type "object") = some true
  fn : ∃ (qn : Str) (oc : Value) (od : Option Addr) (doc pm : Value) (an : Option Addr) (cdv ct : Value) (osl : Array (Option Value)) (p1 p2 q1 q2 q3 q4 : Pos),
    K.lookup fI = some ⟨oc, od, .func (fnOf "__init__" qn (iA p1 p2) (iB q1 q2 q3 q4) iS .none .none doc pm an cdv ct), osl⟩ ∧ codeIn K cdv qn = true
theorem one_size (v : Value) : [v].length ≤ sizeLine := by
  rw [sizeLine_eq]
  exact (by decide : 1 ≤ 16777216)
theorem ldC {M : Model} {s : Shared} {name : Str} {scope : Scope} {L a : Addr} {cd : Value} {m : Str → Option Value} {x : Str} {pos : Pos} {v : Value} {Q : Value → Shared → Prop} {A : Around} {E : Value → Shared → Prop} (hn : s.heap.Ns L m) (hv : m x = some v) (h : Q v s)
    (hk : scope.kind = .function := by rfl) (hl : (envOfC name scope L a cd).kindOf x = some .local := by rfl) (hd : (x == ("__debug__" : Str)) = false := by decide) :
    wpAny M A (eval (.Name x pos) (envOfC name scope L a cd)) Q E s := wpAny_Name (wpAny_loadName_local hk hl hn hv h) hd
/-- what __init__ leaves of a fresh exception at x -/
structure InitEnd (h h' : Heap) (x C dx t1 : Addr) (v : Value) : Prop where
  keep : ∀ b o, b ≠ x → h.get? b = some o → h'.get? b = some o
  obj : h'.get? x = some { cls := .ref C, dict := some dx, data := .fields #[.ref t1, .none, .none, .none, .bool false, .none] }
  dbig : h.objs.size ≤ dx
  dne : dx ≠ x
  ns : h'.Ns1 dx (fun y => if y = "value" then some v else none)
/-- a made one -/
structure OwnMade (h h' : Heap) (e C d : Addr) (v : Value) : Prop where
  keep : ∀ b o, h.get? b = some o → h'.get? b = some o
  new : h.objs.size ≤ e
  obj : ∃ oe vs, h'.get? e = some oe ∧ oe.cls = .ref C ∧ oe.dict = some d ∧ oe.data = .fields vs ∧ vs[1]? = some .none
  dbig : h.objs.size ≤ d
  dne : d ≠ e
  ns : h'.Ns1 d (fun y => if y = "value" then some v else none)
section
variable {prog : Program} {w : World} {A : Around} {E : Value → Shared → Prop} {R : Result → Shared → Prop} {s : Shared} {K : Frag} {C fI : Addr}
theorem e_init (T : ETxt K C fI) {x t0 : Addr} {v : Value} {args : Args} (X : K.In s.heap) (hlim : s.heap.NoLimit) (hx : s.heap.get? x = some (excO C t0)) (hnx : K.lookup x = none) (hroom : A.depth < recursionLimit)
    (hargs : args = ⟨[.ref x, v], []⟩ ∨ args = ⟨[.ref x], [("value", v)]⟩)
    (hq : ∀ h' tk dx, InitEnd s.heap h' x C dx t0 v → R (.ok (.ret .none)) { s with heap := h', toks := tk }) :
    codeAny (model prog w) A (.call (.ref fI) args) R s := by
  obtain ⟨qn, oc, od, doc, pm, an, cdv, ct, osl, p1, p2, q1, q2, q3, q4, ho, hcd⟩ := T.fn
  obtain ⟨nm, q, N, bs, bm, sn, sub, ab, col, dd, k0, k1, k2, k3, k5, hC, hbm⟩ := T.cls
  have hcl : clsIn K C = some { name := nm, bases := bs, mro := .ref C :: bm, ns := N, qualname := q, hasDict := true, slotNames := sn, subclasses := sub, abstract := ab, collection := col, hasDel := false } := by unfold clsIn; rw [hC] <;> rfl
  have hbind : ∀ sh : Shared, BindsTo sh (fnOf "__init__" qn (iA p1 p2) (iB q1 q2 q3 q4) iS .none .none doc pm an cdv ct) args [("self", .ref x), ("value", v)] := by
    intro sh
    rcases hargs with e | e
    · rw [e]
      exact BindsTo.of_eq (by first | rfl | with_unfolding_all rfl)
    · rw [e]
      exact BindsTo.of_eq (by first | rfl | with_unfolding_all rfl)
  refine Att.call_fn (binds := [("self", .ref x), ("value", v)]) X hlim ho hcd hroom (hbind _) (by first | rfl | decide | with_unfolding_all rfl) (fun s₁ IC => ?_) rfl rfl rfl
  obtain ⟨h₁, tk₁, rfl⟩ := IC.toInCall.same
  have k : ∀ b o, s.heap.get? b = some o → h₁.get? b = some o := IC.toInCall.keep
  have hn := IC.toInCall.ns
  have X₁ : K.In h₁ := X.keeps k
  have hx₁ := k _ _ hx
  show wpAny _ _ (execs _ _) _ _ _
  refine wpAny_execs_cons (plainObj_wpAny_Assign_Attribute ?_)
  refine ldC (v := v) hn (by first | rfl | with_unfolding_all rfl | kernel_rfl) (ldC (v := .ref x) hn (by first | rfl | with_unfolding_all rfl | kernel_rfl) ?_)
  refine set_plain X₁ (ox := excO C t0) (od := none) ⟨hx₁, rfl, rfl, trivial⟩ T.sa ?_
  refine exc_osa X₁ hx₁ hcl (show refsVE (.ref C :: bm) = true from hbm) rfl T.noN (fun h₃ tk₃ dx k₃ dn dne hx₃ hn₃ => ?_)
  show wpAny _ _ (execs _ _) _ _ _
  have z : s.heap.objs.size < h₁.objs.size := hn.lt
  exact wpAny_execs_nil (hq h₃ tk₃ dx ⟨fun b o hb e => k₃ b o hb (k b o e), hx₃, Nat.le_of_lt (Nat.lt_of_lt_of_le z dn), dne, hn₃⟩)
theorem e_made (T : ETxt K C fI) {v : Value} (X : K.In s.heap) (hlim : s.heap.NoLimit) (hroom : A.depth + 1 < recursionLimit)
    (hq : ∀ h' tk e d, OwnMade s.heap h' e C d v → R (.ok (.ret (.ref e))) { s with heap := h', toks := tk }) :
    codeAny (model prog w) A (.call (.ref C) ⟨[v], []⟩) R s := by
  obtain ⟨nm, q, N, bs, bm, sn, sub, ab, col, dd, k0, k1, k2, k3, k5, hC, hbm⟩ := T.cls
  obtain ⟨hp, g, dr, tk, os⟩ := s
  have k : ∀ b o, hp.get? b = some o → ((hp.push (kdv_tup [v])).push (excO C hp.objs.size)).get? b = some o := fun b o e => Heap.get?_push_of_some _ (Heap.get?_push_of_some _ e)
  have hget : ((hp.push (kdv_tup [v])).push (excO C hp.objs.size)).get? (hp.objs.size + 1) = some (excO C hp.objs.size) := by heap_get
  have hnx : K.lookup (hp.objs.size + 1) = none := by
    cases e : K.lookup (hp.objs.size + 1) with
    | none => rfl
    | some o =>
      have z : hp.get? (hp.objs.size + 1) = some o := X _ _ e
      exact absurd (Nat.lt_of_succ_lt (Heap.lt_size z)) (Nat.lt_irrefl _)
  refine call_own F.excBase_ValueError (fun X => refsVE_contains X bm hbm) (X _ _ hC) (looks_findIn X T.iC) (fun self => bind_fn X self T.tC) (one_size v) ?_
  refine e_init (s := ⟨(hp.push (kdv_tup [v])).push (excO C hp.objs.size), g, dr, tk, os⟩) T (X.keeps k) (hlim.keeps k) hget hnx ?_ (.inl rfl) fun h' tk' dx ⟨k', hx, dn, dne, hns⟩ => ?_
  · show A.depth + 1 < recursionLimit
    exact hroom
  · have old : ∀ b o, hp.get? b = some o → h'.get? b = some o := fun b o e => k' b o (Nat.ne_of_lt (Nat.lt_succ_of_lt (Heap.lt_size e))) (k b o e)
    have z : hp.objs.size + 1 + 1 ≤ dx := by
      first
        | (simpa only [Heap.size_push] using dn)
        | exact dn
        | (have q := dn; rw [Heap.size_push, Heap.size_push] at q; exact q)
    exact ⟨rfl, hq h' tk' (hp.objs.size + 1) dx ⟨old, Nat.le_succ _, ⟨_, _, hx, rfl, rfl, rfl, rfl⟩, Nat.le_trans (Nat.le_trans (Nat.le_succ _) (Nat.le_succ _)) z, dne, hns⟩⟩
end
end TwX

set_option Elab.async false
set_option linter.all false
set_option maxRecDepth 100000
set_option maxHeartbeats 4000000
namespace TwX
open PySem PySem.W PySem.Calls PyProof.Rows PySem.HandSPX
/-! the same class called with its argument by name -/
section
variable {M : Model} {prog : Program} {w : World} {A : Around} {E : Value → Shared → Prop} {R : Result → Shared → Prop} {h : Heap} {g : Array GenState} {d : Drawn} {t : Nat} {os : OsState}
variable {nm q : Str} {C N : Addr} {bs bm bmB : List Value} {hdct : Bool} {sn : List Str} {sub : List Value} {ab : Bool} {col : Option Bool} {dd : Option Addr} {k0 k1 k2 k3 k5 : Option Value} {B newId initId : String}
theorem newK_check (F : ExcBaseFacts B newId initId bmB) (hT : ∀ X : String, bm.contains (.type X) = bmB.contains (.type X)) {n : Str} {v : Value} {Q : Unit → Shared → Prop}
    (hC : h.get? C = some (excClassObj nm q C N bs bm hdct sn sub ab col dd k0 k1 k2 k3 k5 newId)) (hq : Q () ⟨h, g, d, t, os⟩) : wpAny M A (checkBuiltinCall newId ⟨[.ref C], [(n, v)]⟩) Q E ⟨h, g, d, t, os⟩ := by
  have c1 : (Value.ref C :: bm).contains (.type B) = true := by rw [List.contains_cons, hT, F.hasB, Bool.or_true]
  have c2 := F.noStar
  simp only [checkBuiltinCall, F.newKind, F.newSplit, F.newRow]
  repeat (first | refine wpAny_loadPart_at hC ?_ | (refine wpAny_isSubtype_exc hC ?_; rw [c1]) | refine wpAny_staticBase_exc hC ?_ | refine wpAny_madeBy_exc hC ?_ | simp only [bne_self_eq_false, Bool.false_eq_true, if_false] | wp_step)
  exact hq
theorem newK_made (F : ExcBaseFacts B newId initId bmB) (hT : ∀ X : String, bm.contains (.type X) = bmB.contains (.type X)) {n : Str} {v : Value}
    (hC : h.get? C = some (excClassObj nm q C N bs bm hdct sn sub ab col dd k0 k1 k2 k3 k5 newId))
    (hq : R (.ok (.ret (.ref (h.objs.size + 1)))) ⟨(h.push (kdv_tup [])).push (excO C h.objs.size), g, d, t, os⟩) :
    codeAny (model prog w) A (.builtin newId ⟨[.ref C], [(n, v)]⟩) R ⟨h, g, d, t, os⟩ := by
  have c0 := F.ends
  have c1 : (Value.ref C :: bm).contains (.type B) = true := by rw [List.contains_cons, hT, F.hasB, Bool.or_true]
  have c2 : (Value.ref C :: bm).contains (.type "AttributeError") = false := by rw [List.contains_cons, hT, F.noAttr]; rfl
  have c3 : (Value.ref C :: bm).contains (.type "NameError") = false := by rw [List.contains_cons, hT, F.noName]; rfl
  refine codeAny_builtinAt F.entry ?_
  unfold Builtin.«BaseException.__new__»
  refine PySem.wpAt_bind ?_
  show PySem.wpAt _ _ _ (stack >>= _) _ _ _
  refine PySem.wpAt_bind (PySem.wpAt_stack fun p below => PySem.wpAt_of_wpAny ?_)
  wp_walk
  refine PySem.wpAt_of_wpAny ?_
  rw [F.owner]
  repeat (first | with_reducible refine wpAny_madeHere_exc F.canon hC ?_ | with_reducible refine wpAny_loadPart_at hC ?_ | (with_reducible refine wpAny_isSubtype_exc hC ?_; first | rw [c1] | rw [c2] | rw [c3]) | wp_step)
  show R _ _
  rw [Heap.size_push]
  exact hq
theorem typeK (F : ExcBaseFacts B newId initId bmB) (hT : ∀ X : String, bm.contains (.type X) = bmB.contains (.type X)) {n : Str} {v : Value} {fI : Addr} {Q : Fin → Shared → Prop}
    (hC : h.get? C = some (excClassObj nm q C N bs bm hdct sn sub ab col dd k0 k1 k2 k3 k5 newId))
    (hi : W.Looks (model prog w) h (typeLookup (.ref C) "__init__") (some (.ref fI))) (hb : ∀ self, W.Looks (model prog w) h (bindSpecial (.ref fI) self) (.ref fI, [self]))
    (hq : codeAny (model prog w) A (.call (.ref fI) ⟨[.ref (h.objs.size + 1)], [(n, v)]⟩)
      (fun r s' => match r with | .ok (.ret v) => v = .none ∧ Q (.done (.ret (.ref (h.objs.size + 1)))) s' | .ok _ => False | .error e => E e s')
      ⟨(h.push (kdv_tup [])).push (excO C h.objs.size), g, d, t, os⟩) :
    wpAny (model prog w) A (Builtin.«type.__call__» ⟨[.ref C], [(n, v)]⟩) Q E ⟨h, g, d, t, os⟩ := by
  repeat (first | with_reducible refine wpAny_loadPart_at hC ?_ | with_reducible refine wpAny_madeBy_exc hC ?_ | wp_step)
  refine codeAny_call_builtin_code (Code.quiet_builtin _ F.quiet) (newK_check F hT hC ?_)
  refine newK_made F hT hC ?_
  show wpAny _ _ _ _ _ _
  have k : ∀ b o, h.get? b = some o → ((h.push (kdv_tup [])).push (excO C h.objs.size)).get? b = some o := fun b o e => Heap.get?_push_of_some _ (Heap.get?_push_of_some _ e)
  have hC₁ := k _ _ hC
  have hget : ((h.push (kdv_tup [])).push (excO C h.objs.size)).get? (h.objs.size + 1) = some (excO C h.objs.size) := by heap_get
  have c4 : (Value.ref C :: bm).contains (.ref C) = true := by simp
  have i1 := hi.keeps k
  have b1 := (hb (.ref (h.objs.size + 1))).keeps k
  unfold isInstance
  repeat (first | with_reducible refine wpAny_loadPart_at hget ?_ | (with_reducible refine wpAny_isSubtype_exc hC₁ ?_; rw [c4]) | wp_step)
  show wpAny _ _ (typeLookup (.ref C) _) _ _ _
  refine i1.at ?_
  refine wpAny_holding (wpAny_bind (b1.at ?_))
  refine wpAny_bind (wpAny_call (codeAny_mono hq fun r s' z => ?_))
  rcases r with e | (v | _ | _ | _) <;> first | exact z | exact z.elim | skip
  obtain ⟨rfl, z⟩ := z
  first
    | exact wpAny_pure (wpAny_pure z)
    | (wp_walk; exact z)
end
section
variable {prog : Program} {w : World} {A : Around} {E : Value → Shared → Prop} {R : Result → Shared → Prop} {s : Shared} {K : Frag} {C fI : Addr}
theorem tcK_check {hp : Heap} {g : Array GenState} {d : Drawn} {t : Nat} {os : OsState} {M : Model} {n : Str} {v : Value} {Q : Unit → Shared → Prop} {nm q : Str} {N : Addr} {bs bm : List Value} {hdct : Bool} {sn : List Str} {sub : List Value} {ab : Bool} {col : Option Bool} {dd : Option Addr} {k0 k1 k2 k3 k5 : Option Value} {newId : String}
    (hC : hp.get? C = some (excClassObj nm q C N bs bm hdct sn sub ab col dd k0 k1 k2 k3 k5 newId)) (hq : Q () ⟨hp, g, d, t, os⟩) : wpAny M A (checkBuiltinCall "type.__call__" ⟨[.ref C], [(n, v)]⟩) Q E ⟨hp, g, d, t, os⟩ := by
  have f3 := tc_sub
  have hT : (⟨hp, g, d, t, os⟩ : Shared).TypeIs (.ref C) "type" := ⟨_, hC, rfl⟩
  simp only [checkBuiltinCall, tc_kind, tc_split]
  repeat (any_goals (first | assumption | with_reducible refine wpAny_loadPart_at hC ?_ | with_reducible refine wpAny_onRaise ?_ | with_reducible refine wpAny_map ?_ | wp_step))
theorem e_madeK (T : ETxt K C fI) {v : Value} (X : K.In s.heap) (hlim : s.heap.NoLimit) (hroom : A.depth + 1 < recursionLimit)
    (hq : ∀ h' tk e d, OwnMade s.heap h' e C d v → R (.ok (.ret (.ref e))) { s with heap := h', toks := tk }) :
    codeAny (model prog w) A (.call (.ref C) ⟨[], [("value", v)]⟩) R s := by
  obtain ⟨nm, q, N, bs, bm, sn, sub, ab, col, dd, k0, k1, k2, k3, k5, hC, hbm⟩ := T.cls
  obtain ⟨hp, g, dr, tk, os⟩ := s
  have hC1 := X _ _ hC
  have f1 := tc_lookup
  have f2 := tc_bind (.ref C)
  have hTy : (⟨hp, g, dr, tk, os⟩ : Shared).TypeIs (.ref C) "type" := ⟨_, hC1, rfl⟩
  have k : ∀ b o, hp.get? b = some o → ((hp.push (kdv_tup [])).push (excO C hp.objs.size)).get? b = some o := fun b o e => Heap.get?_push_of_some _ (Heap.get?_push_of_some _ e)
  have hget : ((hp.push (kdv_tup [])).push (excO C hp.objs.size)).get? (hp.objs.size + 1) = some (excO C hp.objs.size) := by heap_get
  have hnx : K.lookup (hp.objs.size + 1) = none := by
    cases e : K.lookup (hp.objs.size + 1) with
    | none => rfl
    | some o =>
      have z : hp.get? (hp.objs.size + 1) = some o := X _ _ e
      exact absurd (Nat.lt_of_succ_lt (Heap.lt_size z)) (Nat.lt_irrefl _)
  refine codeAny_of_tree ?_
  show wpAny _ _ (callAny (.ref C) _) _ _ _
  repeat (any_goals (first | assumption | with_reducible refine wpAny_loadPart_at hC1 ?_ | wp_step))
  refine ⟨rfl, ?_⟩
  refine codeAny_call_builtin_at (Code.quiet_builtin _ (by decide +kernel)) entry_typeCall (tcK_check hC1 ?_)
  refine typeK F.excBase_ValueError (fun X => refsVE_contains X bm hbm) hC1 (looks_findIn X T.iC) (fun self => bind_fn X self T.tC) ?_
  refine e_init (s := ⟨(hp.push (kdv_tup [])).push (excO C hp.objs.size), g, dr, tk, os⟩) T (X.keeps k) (hlim.keeps k) hget hnx ?_ (.inr rfl) fun h' tk' dx ⟨k', hx, dn, dne, hns⟩ => ?_
  · show A.depth + 1 < recursionLimit
    exact hroom
  · have old : ∀ b o, hp.get? b = some o → h'.get? b = some o := fun b o e => k' b o (Nat.ne_of_lt (Nat.lt_succ_of_lt (Heap.lt_size e))) (k b o e)
    have z : hp.objs.size + 1 + 1 ≤ dx := by
      first
        | (simpa only [Heap.size_push] using dn)
        | exact dn
        | (have q := dn; rw [Heap.size_push, Heap.size_push] at q; exact q)
    exact ⟨rfl, hq h' tk' (hp.objs.size + 1) dx ⟨old, Nat.le_succ _, ⟨_, _, hx, rfl, rfl, rfl, rfl⟩, Nat.le_trans (Nat.le_trans (Nat.le_succ _) (Nat.le_succ _)) z, dne, hns⟩⟩
end
end TwX

set_option Elab.async false
set_option linter.all false
set_option maxRecDepth 100000
set_option maxHeartbeats 4000000
namespace PySem.W
open PySem PySem.Spec PySem.Calls PyProof.Rows
section
variable {prog : Program} {w : World} {A : Around} {E : Value → Shared → Prop} {s : Shared} {K : Frag} {x D : Addr} {ox : Obj} {od : Option Obj}
theorem twx_find {C : Addr} {name : Str} {a g : Value} (hc : (clsIn K C).isSome = true) (ha : findIn K (.ref C) name = some (some a)) (hg : specialIn K a "__get__" = some (some g)) (ht : takesIn K a = some true) : findObj K C od name = some (.bind g a) := by
  obtain ⟨cd, hc⟩ := Option.isSome_iff_exists.mp hc
  unfold findObj
  rw [hc, Option.bind_some, ha, Option.bind_some]
  simp [hg, ht]
/-- x.__class__, x an own error with or without attributes -/
theorem twx_class {fI : Addr} {Q : Option Value → Shared → Prop} (T : TwX.ETxt K D fI) (X : K.In s.heap) (I : InstAt s.heap x ox D od) (h : Q (some (.ref D)) { s with toks := s.toks + 1 }) : wpAny (model prog w) A (getAttr? (.ref x) "__class__") Q E s := by
  have hf : findObj K D od "__class__" = some (.bind (.builtin "getset_descriptor.__get__") (.builtin "object.__class__")) := twx_find (by obtain ⟨cd, hc, _⟩ := any_some T.hdC; rw [hc]; rfl) T.cl T.cn T.ct
  obtain ⟨hp, g, d, t, os⟩ := s
  have L0 := I.type (M := model prog w)
  have L1 := looks_findIn (M := model prog w) X T.ga
  have L2 := looks_findIn (M := model prog w) X T.gg
  have L3 := looks_find (M := model prog w) X I hf
  have sub : Looks (model prog w) hp (isInstance (.ref x) (.type "BaseException")) true := L0.andThen (looks_subIn X T.exC)
  have z0 : (false && onTheHeap (Value.builtin "BaseException.__getattribute__")) = false := rfl
  have z1 : (onTheHeap (Value.ref D) && Value.builtin "BaseException.__getattribute__" == Value.builtin "object.__getattribute__") = false := by
    have z2 : (Value.builtin "BaseException.__getattribute__" == Value.builtin "object.__getattribute__") = false := by decide +kernel
    rw [z2]; rfl
  unfold getAttr? getAttrBy? getAttrBy
  refine wpAny_bind (wpAny_mkText (wpAny_bind (wpAny_attempt (wpAny_holding (wpAny_bind (L0.at (wpAny_bind (L1.at ?_))))))))
  show wpAny _ _ (if (onTheHeap (Value.ref D) && Value.builtin "BaseException.__getattribute__" == Value.builtin "object.__getattribute__") = true then _ else _) _ _ _
  rw [z1, if_neg Bool.false_ne_true]
  unfold getAttrByItsOwn hookBefore
  refine wpAny_bind ?_
  rw [if_pos (show onTheHeap (Value.ref D) = true from rfl)]
  refine L2.at ?_
  refine wpAny_bind (wpAny_attempt (wpAny_holding ?_))
  unfold callGetattribute
  rw [z0, if_neg Bool.false_ne_true]
  unfold boundAndCalled
  rw [PySem.F.excAttr_ValueError.ga.bind (.ref x)]
  refine wpAny_bind (wpAny_pure ?_)
  show wpAny _ _ (call (.builtin "BaseException.__getattribute__") [.ref x, .str "__class__" t]) _ _ _
  refine wpAny_call (codeAny_call_builtin PySem.F.excAttr_ValueError.ga.plain PySem.F.entry_bexc_ga ?_)
  refine @check_slot (model prog w) _ _ ⟨hp, g, d, t + 1, os⟩ "BaseException.__getattribute__" "BaseException" "__getattribute__" (.ref x) [.str "__class__" t] [] _ (by decide +kernel) (by decide +kernel) sub (PySem.F.args_bexc_ga (.ref x) (.str "__class__" t)) ?_
  unfold Builtin.«object.__getattribute__»
  refine wpAny_bind (wpAny_of_eq (a := ((Value.ref x : Value), [Value.str "__class__" t])) (by first | rfl | (simp only [slotArgs]; rfl)) ?_)
  refine wpAny_bind (wpAny_pure (wpAny_bind (L0.at (wpAny_bind (L3.at ?_)))))
  show wpAny _ _ (holding [Value.builtin "object.__class__"] (call (.builtin "getset_descriptor.__get__") [.builtin "object.__class__", .ref x, .ref D]) >>= ret) _ _ _
  refine wpAny_bind (wpAny_holding (wpAny_call (class_get (s := ⟨hp, g, d, t + 1, os⟩) (ox := ox) (od := od) X I T.cm ?_)))
  refine wpAny_pure ?_
  show wpAny _ _ (handedOut (.ref D)) _ _ _
  rw [handedOut_of (v := .ref D) rfl]
  first
    | exact wpAny_pure (wpAny_pure h)
    | exact wpAny_pure h
    | exact wpAny_pure (wpAny_bind (wpAny_pure (wpAny_pure h)))
theorem twx_kit {fI : Addr} (T : TwX.ETxt K D fI) : KitX K (.ref x) (.ref D) (fun h => ∃ ox od, InstAt h x ox D od) where
  ty := fun _ _ _ ⟨_, _, I⟩ => I.type
  it := fun _ _ X _ => by
    obtain ⟨cdD, hcD, _⟩ := any_some T.hdC
    unfold clsIn at hcD
    split at hcD
    · rename_i c' d' cd' sl' ho
      intro A' Q' E' s' k q
      unfold isType loadHead
      exact wpAny_bind (wpAny_loadPart (k _ _ (X _ _ ho)) (wpAny_pure q))
    · cases hcD
  ne := fun h tp dd its n sl X htp => by
    obtain ⟨cdD, hcD, _⟩ := any_some T.hdC
    refine Bool.eq_false_iff.mpr fun q => ?_
    have e : D = tp := Value.ref.inj (beq_iff_eq.mp q)
    subst e
    unfold clsIn at hcD
    split at hcD
    · rename_i c' d' cd' sl' ho
      have z := (X _ _ ho).symm.trans htp
      cases z
    · cases hcD
  ca := fun X I k => by
    obtain ⟨ox, od, I⟩ := I
    exact twx_class T X I k
end
end PySem.W
namespace Tw
open PySem PySem.Spec PyProof.Rows L2
/-- an own error at a, of the class at C, its attributes in the dict at d -/
def ExcV (C d a : Addr) : HO := .ext fun h => ∃ (oe : Obj) (vs : Array Value), h.get? a = some oe ∧ oe.cls = .ref C ∧ oe.dict = some d ∧ oe.data = .fields vs ∧ vs[1]? = some Value.none
def xval (v : V) : HO := .xd [(("value" : Str), v)]
theorem relO_val {v : V} {v' : Value} (r : RelV v v') (f : Str) : RelO (List.lookup f [(("value" : Str), v)]) (if f = "value" then some v' else none) := by
  by_cases hw : f = "value"
  · subst hw
    rw [if_pos rfl]
    have q : List.lookup ("value" : Str) [(("value" : Str), v)] = some v := by simp [List.lookup]
    rw [q]
    exact r
  · rw [if_neg hw]
    have qw : (f == ("value" : Str)) = false := by simpa using hw
    have q2 : List.lookup f [(("value" : Str), v)] = none := by simp [List.lookup, qw]
    rw [q2]
    trivial
theorem excV_ok {P : Program} {w : World} {H : Hp} {h : Heap} {C d a : Addr} {oe : Obj} {vs : Array Value} (e : h.get? a = some oe) (h1 : oe.cls = .ref C) (h2 : oe.dict = some d) (h3 : oe.data = .fields vs) (h4 : vs[1]? = some Value.none) : ObjOk P w H h a (ExcV C d a) :=
  ⟨⟨oe, vs, e, h1, h2, h3, h4⟩, ⟨oe, e⟩, fun _ _ ⟨o, v, q, r⟩ k => ⟨o, v, k o q, r⟩⟩
section
variable {X : Cx} {pins : List (Addr × Obj)} {σ : L2.St} {H : Hp} {s : Shared} {C fI : Addr}
/-- behind a made one -/
theorem inv_made {h' : Heap} {tk' : Nat} {e d : Addr} {v : V} {v' : Value} (I : Inv X pins σ H s) (rv : RelV v v') (M : TwX.OwnMade s.heap h' e C d v') :
    H d = none ∧ H e = none ∧ e ≠ d ∧ Inv X pins σ (upd (upd H d (xval v)) e (ExcV C d e)) { s with heap := h', toks := tk' } := by
  obtain ⟨oe, fv, hoe, hc, hd, hdat, h1⟩ := M.obj
  have hns := M.ns
  obtain ⟨G', g1, g2⟩ := restrict h' fun b => decide (b ≠ e)
  have gk : ∀ b, b ≠ e → G'.get? b = h'.get? b := fun b hb => g1 b (decide_eq_true hb)
  have ge : G'.get? e = none := g2 e (by simp)
  have old : ∀ b o, s.heap.get? b = some o → G'.get? b = some o := fun b o q => (gk b (Nat.ne_of_lt (Nat.lt_of_lt_of_le (Heap.lt_size q) M.new))).trans (M.keep b o q)
  have nd : H d = none := I.hok.fresh M.dbig
  have ne : H e = none := I.hok.fresh M.new
  have ob : ObjOk X.prog X.w (upd H d (xval v)) G' d (xval v) := ⟨_, hns.at (fun o q => (gk d M.dne).trans q), fun f => relO_val rv f⟩
  have J : Inv X pins σ (upd H d (xval v)) { s with heap := G', toks := tk' } := I.laid (t' := tk') old M.dbig ob
  have ne2 : upd H d (xval v) e = none := by
    rw [upd_ne (Ne.symm M.dne)]
    exact ne
  refine ⟨nd, ne, Ne.symm M.dne, J.laidN (fun b o q => ?_) ge ne2 (excV_ok hoe hc hd hdat h1)⟩
  by_cases hb : b = e
  · have q' : G'.get? b = some o := q
    rw [hb, ge] at q'
    cases q'
  · rw [← gk b hb]
    exact q
def tMkE (C : Addr) (ta : TA) : TE := fun σ H Q => ta σ H fun vs H1 => ∃ v, vs = [v] ∧ ∀ e d, H1 d = none → H1 e = none → e ≠ d → Q (.ref e) (upd (upd H1 d (xval v)) e (ExcV C d e))
theorem pe_mkE {a : Expr} {ta : TA} {x : Str} {p pos : Pos} {k : Nat} (T : TwX.ETxt X.K C fI) (gC : X.mg x = some (.ref C)) (hr : Room k X.A) (ha : PA X [a] ta) (hg : Gl X x) (hdb : (x == ("__debug__" : Str)) = false := by decide)
    (he : starEach (a :: []) X.env = (false, eval a X.env) :: starEach [] X.env := by rfl) (hpl : (backTo pos (starEach [] X.env)).any (·.1) = false := by rfl) :
    PE X (.Call (.Name x p) [a] [] pos) (tMkE C ta) := by
  refine ⟨fun pins s σ H Q I h => wpAny_Call_Name_kw (ld_glob I hg gC ?_ hdb)⟩
  refine PySem.W.callWith_K (h₀ := X.base) I.ok.mod.kin T.kC (thn (ha.run pos pins s σ H _ I h) fun us s1 hh => ?_) he hpl
  obtain ⟨vs, H1, I1, r1, v, rfl, q1⟩ := hh
  obtain ⟨v', rfl, rv⟩ := vals1 r1
  refine ⟨I1.kIn, ?_⟩
  show wpAny _ _ (call (.ref C) [v']) _ _ _
  refine wpAny_call (TwX.e_made T I1.kIn I1.nolimit (by have := hr.dp; omega) fun h' tk' e d M => ?_)
  obtain ⟨nd, ne, ed, J⟩ := inv_made (tk' := tk') I1 rv M
  exact ⟨.ref e, _, J, rfl, q1 e d nd ne ed⟩
theorem pe_mkEK {a : Expr} {te : TE} {x : Str} {p pos kp : Pos} {k : Nat} (T : TwX.ETxt X.K C fI) (gC : X.mg x = some (.ref C)) (hr : Room k X.A) (ha : PE X a te) (hg : Gl X x) (hdb : (x == ("__debug__" : Str)) = false := by decide)
    (hall : (backToKw pos (keywordEach [⟨some "value", a, kp⟩] X.env)).all (·.1.isSome) = true := by rfl)
    (hks : (backToKw pos (keywordEach [⟨some "value", a, kp⟩] X.env)).filterMap (·.1) = [("value" : Str)] := by rfl)
    (hpl : ((backTo pos (starEach [] X.env)).any (·.1) || (backToKw pos (keywordEach [⟨some "value", a, kp⟩] X.env)).any (·.1.isNone)) = false := by rfl) :
    PE X (.Call (.Name x p) [] [⟨some "value", a, kp⟩] pos) (tMkE C (tCons te tNil)) := by
  refine ⟨fun pins s σ H Q I h => wpAny_Call_Name_kw (ld_glob I hg gC ?_ hdb)⟩
  refine PySem.W.callWith_KW0 (h₀ := X.base) I.ok.mod.kin T.kC hall (thn ((pk_cons (nm := some "value") ha pk_nil).run pos pins s σ H _ I h) fun us s1 hh => ?_) hpl
  obtain ⟨vs, H1, I1, r1, v, rfl, q1⟩ := hh
  obtain ⟨v', rfl, rv⟩ := vals1 r1
  refine ⟨I1.kIn, ?_⟩
  rw [hks]
  show wpAny _ _ (call (.ref C) [] [("value", v')]) _ _ _
  refine wpAny_call (TwX.e_madeK T I1.kIn I1.nolimit (by have := hr.dp; omega) fun h' tk' e d M => ?_)
  obtain ⟨nd, ne, ed, J⟩ := inv_made (tk' := tk') I1 rv M
  exact ⟨.ref e, _, J, rfl, q1 e d nd ne ed⟩
theorem inst_of {C d a : Addr} (I : Inv X pins σ H s) (h : H a = some (ExcV C d a)) (hd : ∃ v, H d = some (xval v)) : ∃ oe od, PySem.W.InstAt s.heap a oe C (some od) ∧ s.heap.get? d = some od := by
  obtain ⟨⟨oe, vs, e, h1, h2, h3, _⟩, _, _⟩ := I.hok a _ h
  obtain ⟨v, hv⟩ := hd
  have x : ObjOk X.prog X.w H s.heap d (.xd [(("value" : Str), v)]) := I.hok d _ hv
  obtain ⟨mA, hns, _⟩ := x
  obtain ⟨od, ho, hl⟩ := lookIn_ns hns
  exact ⟨oe, od, ⟨e, h1, by unfold PySem.W.notCls; rw [h3] <;> rfl, by rw [h2]; exact ho⟩, ho⟩
/-- error.value -/
def tValE (K : PySem.W.Frag) (te : TE) : TE := fun σ H Q => te σ H fun x H1 => ∃ (a C d fI : Addr) (v : V), x = .ref a ∧ H1 a = some (ExcV C d a) ∧ TwX.ETxt K C fI ∧ H1 d = some (xval v) ∧ Q v H1
theorem pe_valE {e : Expr} {te : TE} {pos : Pos} (he : PE X e te) (hb : attributeBase e "value" X.env (eval e X.env) = eval e X.env := by rfl) : PE X (.Attribute e "value" pos) (tValE X.K te) := by
  refine ⟨fun pins s σ H Q I h => attr_of hb (thn (he.run pins s σ H _ I h) fun u s1 hh => ?_)⟩
  obtain ⟨x, H1, I1, rx, a, C, d, fI, v, rfl, ha, T, hv, q⟩ := hh
  obtain rfl : u = Value.ref a := rx
  obtain ⟨⟨oe, vs, e, h1, h2, h3, _⟩, _, _⟩ := I1.hok a _ ha
  have hx : ObjOk X.prog X.w H1 s1.heap d (.xd [(("value" : Str), v)]) := I1.hok d _ hv
  obtain ⟨mA, hns, hr⟩ := hx
  obtain ⟨od, ho, hl⟩ := lookIn_ns hns
  have l : List.lookup ("value" : Str) [(("value" : Str), v)] = some v := by simp [List.lookup]
  obtain ⟨u, hu, ru⟩ := RelO.some_of (v := v) (o := mA "value") (by rw [← l]; exact hr "value")
  have J : PySem.W.InstAt s1.heap a oe C (some od) := ⟨e, h1, by unfold PySem.W.notCls; rw [h3] <;> rfl, by rw [h2]; exact ho⟩
  exact HandSPX.exc_get I1.kIn J T.ga T.gg T.exC (PySem.W.findObj_own T.hdC T.noN rfl (by rw [hl, hu])) (handed_of ru) ⟨v, H1, I1.tok _, ru, q⟩
/-- isinstance(error, class) -/
theorem call_isV : CallR X (.builtin "isinstance") (fun xs H Q => ∃ (a C d fI : Addr) (c : V) (u : Value) (b : Bool), xs = [.ref a, c] ∧ H a = some (ExcV C d a) ∧ (∃ v, H d = some (xval v)) ∧ TwX.ETxt X.K C fI ∧ ClsV c u ∧ PySem.W.kitOne X.K (.ref C) u = some b ∧ Q (.bl b) H) := by
  intro pins s σ H xs us Q I r h
  obtain ⟨a, C, d, fI, c, u, b, rfl, ha, hd, T, k, e, q⟩ := h
  obtain ⟨u1, u2, rfl, r1, r2⟩ := vals2 r
  obtain rfl : u1 = Value.ref a := r1
  have e2 := k.eq r2
  subst e2
  obtain ⟨oe, od, J, _⟩ := inst_of I ha hd
  exact PySem.W.kia_one (PySem.W.twx_kit T) I.kIn ⟨oe, some od, J⟩ e (fun z => nomatch z) fun tk => ⟨.bl b, H, I.tok tk, rfl, q⟩
end
end Tw

set_option Elab.async false
set_option linter.all false
set_option maxRecDepth 100000
set_option maxHeartbeats 2000000
namespace Tw
open PySem PySem.Spec PyProof.Rows L2
/-- repr of any data, where it is known that no repr runs around -/
theorem call_reprV {X : Cx} (hg : X.A.guards = some []) (hu : X.A.units + 64 < cLine) :
    CallR X (.builtin "repr") (fun xs H Q => ∃ (x : V) (d : PyData), xs = [x] ∧ Dp X.K H x d ∧ d.showable = true ∧ d.hasDict = false ∧ d.depth ≤ 50 ∧ d.shown.length ≤ sizeLine ∧ Q (V.str d.shown) H) := by
  intro pins s σ H xs us Q I r h
  obtain ⟨x, d, rfl, hd, h1, h2, h3, h4, q⟩ := h
  cases hd with
  | non =>
    obtain ⟨u, rfl, ru⟩ := vals1 r
    obtain rfl : u = Value.none := ru
    exact PySem.P.repr_of_none ⟨V.str _, H, I.tok _, ⟨_, rfl⟩, q⟩
  | bl b =>
    obtain ⟨u, rfl, ru⟩ := vals1 r
    obtain rfl : u = Value.bool b := ru
    exact PySem.P.repr_of_bool ⟨V.str (PyData.bool b).shown, H, I.tok _, ⟨s.toks, by cases b <;> rfl⟩, q⟩
  | int i =>
    obtain ⟨u, rfl, t, rfl⟩ := vals1 r
    exact PySem.P.repr_of_int (of_decide_eq_true h1) ⟨V.str _, H, I.tok _, ⟨_, rfl⟩, q⟩
  | str z =>
    obtain ⟨u, rfl, t, rfl⟩ := vals1 r
    exact PySem.P.repr_of_str ⟨V.str _, H, I.tok _, ⟨_, rfl⟩, q⟩ h4
  | lst hs hall => exact call_reprD hg hu pins s σ H _ us Q I r ⟨_, _, rfl, .lst hs hall, h1, h2, h3, h4, q⟩
  | tup hs hall => exact call_reprD hg hu pins s σ H _ us Q I r ⟨_, _, rfl, .tup hs hall, h1, h2, h3, h4, q⟩
theorem same_seqT {K : PySem.W.Frag} {H H' : Hp} {a : Addr} {xs : List V} (e : Same H H') (h : SqT K H a xs) : SqT K H' a xs := by
  rcases h with (h | ⟨o, h⟩) | h
  · exact .inl (.inl (e _ _ h))
  · exact .inl (.inr ⟨o, e _ _ h⟩)
  · exact .inr h
mutual
theorem dp_same {K : PySem.W.Frag} {H H' : Hp} (e : Same H H') : ∀ {x : V} {d : PyData}, Dp K H x d → Dp K H' x d
  | _, _, .non => .non
  | _, _, .bl b => .bl b
  | _, _, .int i => .int i
  | _, _, .str z => .str z
  | _, _, .lst hs h => .lst (e.seq hs) (dps_same e h)
  | _, _, .tup hs h => .tup (same_seqT e hs) (dps_same e h)
theorem dps_same {K : PySem.W.Frag} {H H' : Hp} (e : Same H H') : ∀ {xs : List V} {ds : List PyData}, DpAll K H xs ds → DpAll K H' xs ds
  | _, _, .nil => .nil
  | _, _, .cons a b => .cons (dp_same e a) (dps_same e b)
end
end Tw

set_option Elab.async false
set_option linter.all false
set_option maxRecDepth 100000
set_option maxHeartbeats 2000000
namespace Tw
open PySem PySem.Spec PyProof.Rows L2
def topS (i : Nat) : Stmt := PySem.Challenge.pw_twinsieve_k01_errors_and_their_values.main.body.getD i (.Pass ⟨0, 0, 0, 0⟩)
abbrev sRng : Stmt := topS 8
abbrev sDraw : Stmt := topS 9
abbrev sFlags : Stmt := topS 10
abbrev sMade : Stmt := topS 11
abbrev sLaw : Stmt := topS 12
section
variable {P : Program} {w : World} {K : PySem.W.Frag} {mg : Str → Option Value} {base : Heap}
theorem scRng : FnScope ["script", "digits", "seed", "cell", "far"] ["script"] (defScope sRng) := ⟨rfl, rfl, rfl, by decide +kernel, rfl, by decide +kernel, by decide +kernel⟩
theorem ok_rng {f : Addr} {fd : FuncData} {k : Nat} (F : Fun K "_law_rng" "_law_rng" sRng f fd) (ma : mg "abs" = none) : FnOk P w K mg base CX0 (k + 1) f fd ["script"] (spRng K) := by
  refine F.ok scRng (fun vs H Q E h => ?_) (fun cdv A outer s H vs Q E hr h => ?_)
  · obtain ⟨a, ns, rfl, _⟩ := h
    rfl
  · obtain ⟨a, ns, rfl, hS, hlen, q⟩ := h
    refine ⟨_, pss_cons (ps_asg (pe_tup (pa_cons pe_int (pa_cons pe_int pa_nil))) (pg_tup2 rfl (pg_name (i := 1) scRng.nd rfl (.inl rfl) (.inl rfl)) (pg_name (i := 2) scRng.nd rfl (.inl rfl) (.inl rfl))))
      (pss_cons (ps_for PassesOwn.never rfl (pi_list (pe_slice sl_list (pv 0) po_none (po_some pe_int))) (pg_name (i := 3) scRng.nd rfl (.inl rfl))
        (pss_cons (ps_set (i := 4) scRng.nd rfl (.inl rfl) (pe_callB call_abs (by rfl) ma (by decide +kernel) (pa_cons (pv 3) pa_nil)))
        (pss_cons (ps_if (pt_cmpR op_ge (pv 4) (pe_op op_pow pe_int pe_int) (nomark _))
          (pss_one (ps_set (i := 1) scRng.nd rfl (.inl rfl) (pe_op op_add (pe_op op_mulW (pv 1) (pe_op op_pow pe_int pe_int)) (pe_op op_mod (pv 4) (pe_op op_pow pe_int pe_int))))) pss_nil)
        (pss_one (ps_set (i := 2) scRng.nd rfl (.inl rfl) (pe_op op_mod (pe_op op_add (pe_op op_add (pe_op op_mul (pv 2) pe_int) (pe_op op_mod (pv 3) pe_int)) pe_int) pe_int))))))
      (pss_one (ps_ret (pe_lst (pa_cons (pv 1) (pa_cons (pv 2) (pa_cons pe_int pa_nil))))))), ?_⟩
    refine ⟨(by show 2 ≤ sizeLine; decide), fun t nt => ⟨t, _, rfl, SqT.of upd_same, rfl, _, _, rfl, _, _, rfl, rfl, ?_⟩⟩
    have smt : Same H (upd H t (.tup [V.int 0, V.int 88675123])) := same_upd nt
    refine ⟨_, rfl, _, rfl, a, _, rfl, smt.seq hS, fun c nc => ?_⟩
    have smc := smt.trans (same_upd (o := .lst (cutV (ns.map V.int) none (some 63))) nc)
    obtain ⟨ms, em, lm⟩ := cut_ints ns none (some 63)
    refine ⟨c, rfl, ⟨_, SqL.of upd_same⟩, for_list (xs := ms.map V.int) (fun i σ H' => ∃ d s y3 y4, σ = [some (.ref a), some (.int d), some (.int s), y3, y4] ∧ H' = upd (upd H t (.tup [V.int 0, V.int 88675123])) c (.lst (ms.map V.int)) ∧
      (0 ≤ d ∧ d < 2 ^ (200 * i)) ∧ 0 ≤ s ∧ s < 2305843009213693951) ?_ ?_ ?_ ?_⟩
    · rw [em]
      exact ⟨0, 88675123, none, none, rfl, rfl, ⟨by decide, by decide⟩, by decide, by decide⟩
    · rintro i σ H' hi ⟨d, s, y3, y4, rfl, rfl, _⟩
      exact SqL.of upd_same
    · rintro i x σ H' hx ⟨d, s0, y3, y4, rfl, rfl, hd, hs0, hs1⟩
      rw [List.getElem?_map] at hx
      obtain ⟨z, hz, rfl⟩ := Option.map_eq_some_iff.mp hx
      have hi : i < 63 := by
        have := (List.getElem?_eq_some_iff.mp hz).1
        omega
      have p0 : (0 : Int) < 10 ^ 60 := by decide +kernel
      have sd : ∀ z : Int, 0 ≤ (s0 * 1000003 + z % 2305843009213693921 + 7) % 2305843009213693951 ∧ (s0 * 1000003 + z % 2305843009213693921 + 7) % 2305843009213693951 < 2305843009213693951 := fun z =>
        ⟨Int.emod_nonneg _ (by decide), Int.emod_lt_of_pos _ (by decide)⟩
      refine ⟨_, rfl, _, rfl, ?_⟩
      refine ⟨_, rfl, _, _, rfl, rfl, ⟨by decide, by decide, by decide⟩, _, _, rfl, rfl, _, rfl, ?_⟩
      rw [pow1018]
      refine ite2 (fun hb => ?_) (fun hb => ?_)
      · have cw : CMulW d ((10 : Int) ^ (60 : Int).toNat) := by
          have h1 := log2_le_of hd.1 hd.2
          have h2 : ((10 : Int) ^ (60 : Int).toNat).natAbs.log2 < 1000 := by decide +kernel
          unfold CMulW
          omega
        refine ⟨_, rfl, _, _, rfl, rfl, ⟨by decide, by decide, by decide⟩, _, _, rfl, rfl, cw, _, rfl, _, _, rfl, rfl, ⟨by decide, by decide, by decide⟩, _, _, rfl, rfl, p0, _, _, rfl, rfl, ?_⟩
        refine ⟨_, rfl, _, _, rfl, rfl, .inr ⟨by decide, by decide⟩, _, rfl, _, _, rfl, rfl, (by show (0 : Int) < 2305843009213693921; decide), _, _, rfl, rfl, _, _, rfl, rfl, _, _, rfl, rfl, (by show (0 : Int) < 2305843009213693951; decide), ?_⟩
        exact ⟨_, _, some (.int z), some _, rfl, rfl, bigD_lt hi hd.1 hd.2 (Int.emod_nonneg _ (Int.ne_of_gt p0)) (Int.emod_lt_of_pos _ p0), (sd z).1, (sd z).2⟩
      · refine ⟨_, rfl, _, _, rfl, rfl, .inr ⟨by decide, by decide⟩, _, rfl, _, _, rfl, rfl, (by show (0 : Int) < 2305843009213693921; decide), _, _, rfl, rfl, _, _, rfl, rfl, _, _, rfl, rfl, (by show (0 : Int) < 2305843009213693951; decide), ?_⟩
        exact ⟨d, _, some (.int z), some _, rfl, rfl, ⟨hd.1, Int.lt_of_lt_of_le hd.2 (pow2_le (by omega))⟩, (sd z).1, (sd z).2⟩
    · rintro σ H' ⟨d, s0, y3, y4, rfl, rfl, hd, hs0, hs1⟩
      refine ⟨_, rfl, _, rfl, (by show 3 ≤ sizeLine; decide), fun r nr => ?_⟩
      rw [em] at smc
      have sm2 := smc.trans (same_upd (o := rngO d s0 0) nr)
      refine q _ r d s0 sm2 (smc.free nr) upd_same ⟨hd.1, Int.lt_of_lt_of_le hd.2 (pow2_le ?_), hs0, by omega, by decide, by decide⟩
      rw [List.length_map]
      omega
theorem scDraw : FnScope ["rng", "limit", "found", "mixed"] ["rng", "limit"] (defScope sDraw) := ⟨rfl, rfl, rfl, by decide +kernel, rfl, by decide +kernel, by decide +kernel⟩
theorem ok_draw {f : Addr} {fd : FuncData} {k : Nat} (F : Fun K "_law_draw" "_law_draw" sDraw f fd) : FnOk P w K mg base CX0 (k + 1) f fd ["rng", "limit"] spDraw := by
  refine F.ok scDraw (fun vs H Q E h => ?_) (fun cdv A outer s H vs Q E hr h => ?_)
  · obtain ⟨r, m, d, s, c, rfl, _⟩ := h
    rfl
  · obtain ⟨r, m, d, s0, c, rfl, hr0, ok, ⟨m0, m1⟩, hc, q⟩ := h
    obtain ⟨d0, d1, s1, s2, c1, c2⟩ := id ok
    refine ⟨_, pss_cons (ps_if (pt_cmpR op_gt (pe_ix ix_list (pv 0) pe_int (fun _ _ => rfl)) pe_int (nomark _))
        (pss_cons (ps_set (i := 2) scDraw.nd rfl (.inl rfl) (pe_op op_mod (pe_ix ix_list (pv 0) pe_int (fun _ _ => rfl)) (pv 1)))
        (pss_cons (ps_asg (pe_op op_fdivW (pe_ix ix_list (pv 0) pe_int (fun _ _ => rfl)) (pv 1)) (pg_sub (pv 0) pe_int set_list))
        (pss_one (ps_ret (pv 2))))) pss_nil)
      (pss_cons (ps_asg (pe_op op_add (pe_ix ix_list (pv 0) pe_int (fun _ _ => rfl)) pe_int) (pg_sub (pv 0) pe_int set_list))
      (pss_cons (ps_set (i := 3) scDraw.nd rfl (.inl rfl) (pe_op op_mod (pe_op op_powW (pe_op op_add (pe_ix ix_list (pv 0) pe_int (fun _ _ => rfl)) (pe_op op_mul pe_int (pe_ix ix_list (pv 0) pe_int (fun _ _ => rfl)))) pe_int) pe_int))
      (pss_cons (ps_set (i := 3) scDraw.nd rfl (.inl rfl) (pe_op op_mod (pe_op op_powW (pe_op op_add (pv 3) (pe_op op_mul pe_int (pe_ix ix_list (pv 0) pe_int (fun _ _ => rfl)))) pe_int) pe_int))
      (pss_one (ps_ret (pe_op op_mod (pe_op op_fdivW (pv 3) pe_int) (pv 1))))))), ?_⟩
    refine ⟨_, rfl, _, _, _, _, rfl, rfl, SqL.of hr0, atI_nat (j := 0) rfl, _, _, rfl, rfl, _, rfl, ?_⟩
    have cd : CDivW d m := by
      refine ⟨m0, ?_⟩
      have := log2_le_of (Int.le_of_lt m0) m1
      omega
    refine ite2 (fun hb => ?_) (fun hb => ?_)
    · have hb' : 0 < d := of_decide_eq_true hb
      refine ⟨_, rfl, _, _, _, _, rfl, rfl, SqL.of hr0, atI_nat (j := 0) rfl, _, rfl, _, _, rfl, rfl, m0, ?_⟩
      refine ⟨_, rfl, _, _, _, _, rfl, rfl, SqL.of hr0, atI_nat (j := 0) rfl, _, rfl, _, _, rfl, rfl, cd, ?_⟩
      refine ⟨_, rfl, _, _, _, 0, rfl, rfl, hr0, rfl, ?_⟩
      refine ⟨_, rfl, ?_⟩
      have e := emod_both d m0
      refine q (d / m) c (d % m) ⟨Int.ediv_nonneg d0 (Int.le_of_lt m0), ?_, s1, s2, c1, c2⟩ (by omega) e.1 e.2
      exact Int.lt_of_le_of_lt (Int.ediv_le_self _ d0) d1
    · refine ⟨_, rfl, _, _, _, _, rfl, rfl, SqL.of hr0, atI_nat (j := 2) rfl, _, _, rfl, rfl, ?_⟩
      refine ⟨_, rfl, _, _, _, 2, rfl, rfl, hr0, rfl, ?_⟩
      have h2 : upd H r (HO.lst (List.set [V.int d, V.int s0, V.int c] 2 (V.int (c + 1)))) r = some (rngO d s0 (c + 1)) := upd_same
      have b1 : 0 ≤ s0 + 998244353 * (c + 1) ∧ s0 + 998244353 * (c + 1) < 2 ^ 64 := by omega
      have p1 : CPowW (s0 + 998244353 * (c + 1)) 3 := ⟨by decide, by decide, by have := log2_le_of b1.1 b1.2; omega⟩
      refine ⟨_, rfl, _, _, _, _, rfl, rfl, SqL.of h2, atI_nat (j := 1) rfl, _, rfl, _, _, _, _, rfl, rfl, SqL.of h2, atI_nat (j := 2) rfl, _, _, rfl, rfl, .inl ⟨by decide, by decide⟩, _, _, rfl, rfl, _, _, rfl, rfl, p1, _, _, rfl, rfl, (by show (0 : Int) < 162259276829213363391578010288127; decide), ?_⟩
      have e1 := emod_both ((s0 + 998244353 * (c + 1)) ^ (3 : Int).toNat) (b := 162259276829213363391578010288127) (by decide)
      have p2 : ∀ x1 : Int, 0 ≤ x1 → x1 < 162259276829213363391578010288127 → CPowW (x1 + 32452843 * (c + 1)) 3 := fun x1 h0 h1 => by
        have b2 : 0 ≤ x1 + 32452843 * (c + 1) ∧ x1 + 32452843 * (c + 1) < 2 ^ 128 := by omega
        exact ⟨by decide, by decide, by have := log2_le_of b2.1 b2.2; omega⟩
      refine ⟨_, rfl, _, rfl, _, _, _, _, rfl, rfl, SqL.of h2, atI_nat (j := 2) rfl, _, _, rfl, rfl, .inl ⟨by decide, by decide⟩, _, _, rfl, rfl, _, _, rfl, rfl, p2 _ e1.1 e1.2, _, _, rfl, rfl, (by show (0 : Int) < 170141183460469231731687303715884105727; decide), ?_⟩
      refine ⟨_, rfl, _, _, rfl, rfl, ⟨by decide, by decide +kernel⟩, _, rfl, _, _, rfl, rfl, m0, ?_⟩
      exact q d (c + 1) _ ⟨d0, d1, s1, s2, by omega, by omega⟩ (Int.le_refl _) (emod_both _ m0).1 (emod_both _ m0).2

/-- the five classes -/
structure K1 (K : PySem.W.Frag) (mg : Str → Option Value) (C fI : Nat → Addr) (CS : Addr) : Prop where
  T : ∀ i, i < 5 → TwX.ETxt K (C i) (fI i)
  g0 : mg "InvalidRow" = some (.ref (C 0))
  g1 : mg "InvalidPipeline" = some (.ref (C 1))
  g2 : mg "InvalidNumber" = some (.ref (C 2))
  g3 : mg "NothingToUndo" = some (.ref (C 3))
  g4 : mg "Unreadable" = some (.ref (C 4))
  gS : mg "SieveError" = some (.ref CS)
  kt : ∀ i j, i < 5 → j < 5 → PySem.W.kitOne K (.ref (C i)) (.ref (C j)) = some (decide (i = j))
  kS : ∀ i, i < 5 → PySem.W.kitOne K (.ref (C i)) (.ref CS) = some true
  kV : ∀ i, i < 5 → PySem.W.kitOne K (.ref (C i)) (.type "ValueError") = some true
def flagsOf (i : Nat) : List V := [V.bl (decide (i = 0)), V.bl (decide (i = 1)), V.bl (decide (i = 2)), V.bl (decide (i = 3)), V.bl (decide (i = 4))]
theorem scFl : FnScope ["error"] ["error"] (defScope sFlags) := ⟨rfl, rfl, rfl, by decide +kernel, rfl, by decide +kernel, by decide +kernel⟩
def spFlags (C : Nat → Addr) : Sp := fun vs H Q _ => ∃ (a d : Addr) (i : Nat), vs = [.ref a] ∧ i < 5 ∧ H a = some (ExcV (C i) d a) ∧ (∃ v, H d = some (xval v)) ∧ ∀ p, H p = none → Q (.ref p) (upd H p (.lst (flagsOf i)))
theorem ok_flags {C fI : Nat → Addr} {CS : Addr} (Z : K1 K mg C fI CS) {f : Addr} {fd : FuncData} {k : Nat} (F : Fun K "_law_flags" "_law_flags" sFlags f fd) (mi : mg "isinstance" = none) : FnOk P w K mg base CX0 (k + 1) f fd ["error"] (spFlags C) := by
  refine F.ok scFl (fun vs H Q E h => ?_) (fun cdv A outer s H vs Q E hr h => ?_)
  · obtain ⟨a, d, i, rfl, _⟩ := h
    rfl
  · obtain ⟨a, d, i, rfl, hi, ha, hd, q⟩ := h
    refine ⟨_, pss_one (ps_ret (pe_lst (pa_cons (pe_callB call_isV (by rfl) mi (by decide +kernel) (pa_cons (pv 0) (pa_cons (pe_glob (v := .ref (C 0)) rfl Z.g0 rfl) pa_nil)))
      (pa_cons (pe_callB call_isV (by rfl) mi (by decide +kernel) (pa_cons (pv 0) (pa_cons (pe_glob (v := .ref (C 1)) rfl Z.g1 rfl) pa_nil)))
      (pa_cons (pe_callB call_isV (by rfl) mi (by decide +kernel) (pa_cons (pv 0) (pa_cons (pe_glob (v := .ref (C 2)) rfl Z.g2 rfl) pa_nil)))
      (pa_cons (pe_callB call_isV (by rfl) mi (by decide +kernel) (pa_cons (pv 0) (pa_cons (pe_glob (v := .ref (C 3)) rfl Z.g3 rfl) pa_nil)))
      (pa_cons (pe_callB call_isV (by rfl) mi (by decide +kernel) (pa_cons (pv 0) (pa_cons (pe_glob (v := .ref (C 4)) rfl Z.g4 rfl) pa_nil))) pa_nil))))))), ?_⟩
    refine ⟨_, rfl, a, C i, d, fI i, _, _, _, rfl, ha, hd, Z.T i hi, .own _, Z.kt i 0 hi (by decide), ?_⟩
    refine ⟨_, rfl, a, C i, d, fI i, _, _, _, rfl, ha, hd, Z.T i hi, .own _, Z.kt i 1 hi (by decide), ?_⟩
    refine ⟨_, rfl, a, C i, d, fI i, _, _, _, rfl, ha, hd, Z.T i hi, .own _, Z.kt i 2 hi (by decide), ?_⟩
    refine ⟨_, rfl, a, C i, d, fI i, _, _, _, rfl, ha, hd, Z.T i hi, .own _, Z.kt i 3 hi (by decide), ?_⟩
    refine ⟨_, rfl, a, C i, d, fI i, _, _, _, rfl, ha, hd, Z.T i hi, .own _, Z.kt i 4 hi (by decide), ?_⟩
    exact ⟨(by show 5 ≤ sizeLine; decide), q⟩
theorem scMd : FnScope ["number", "what", "by_name"] ["number", "what", "by_name"] (defScope sMade) := ⟨rfl, rfl, rfl, by decide +kernel, rfl, by decide +kernel, by decide +kernel⟩
def spMade (C : Nat → Addr) : Sp := fun vs H Q _ => ∃ (i : Nat) (x : V) (b : Bool), vs = [.int (i : Nat), x, .bl b] ∧ i < 5 ∧ ∀ e d, H d = none → H e = none → e ≠ d → Q (.ref e) (upd (upd H d (xval x)) e (ExcV (C i) d e))
theorem mk_both {D : VK} {H : Hp} {Ca : Addr} {i : Int} {x : V} {b : Bool} (h : ∀ e d, H d = none → H e = none → e ≠ d → D (.ref e) (upd (upd H d (xval x)) e (ExcV Ca d e))) :
    tIf (tB (tVar 2)) (tMkE Ca (tCons (tVar 1) tNil)) (tMkE Ca (tCons (tVar 1) tNil)) [some (.int i), some x, some (.bl b)] H D := by
  refine ⟨_, rfl, b, rfl, ?_⟩
  cases b
  · exact iteF ⟨_, rfl, _, rfl, h⟩
  · exact iteT ⟨_, rfl, _, rfl, h⟩
theorem ok_made {C fI : Nat → Addr} {CS : Addr} (Z : K1 K mg C fI CS) {f : Addr} {fd : FuncData} {k : Nat} (F : Fun K "_law_made" "_law_made" sMade f fd) : FnOk P w K mg base CX0 (k + 2) f fd ["number", "what", "by_name"] (spMade C) := by
  refine F.ok scMd (fun vs H Q E h => ?_) (fun cdv A outer s H vs Q E hr h => ?_)
  · obtain ⟨i, x, b, rfl, _⟩ := h
    rfl
  · obtain ⟨i, x, b, rfl, hi, q⟩ := h
    refine ⟨_, pss_cons (ps_if (pt_cmpR op_eq (pv 0) pe_int (nomark _)) (pss_one (ps_ret (pe_ifExp (pt_val (pv 2)) (pe_mkEK (Z.T 0 (by decide)) Z.g0 hr (pv 1) rfl) (pe_mkE (Z.T 0 (by decide)) Z.g0 hr (pa_cons (pv 1) pa_nil) rfl)))) pss_nil)
      (pss_cons (ps_if (pt_cmpR op_eq (pv 0) pe_int (nomark _)) (pss_one (ps_ret (pe_ifExp (pt_val (pv 2)) (pe_mkEK (Z.T 1 (by decide)) Z.g1 hr (pv 1) rfl) (pe_mkE (Z.T 1 (by decide)) Z.g1 hr (pa_cons (pv 1) pa_nil) rfl)))) pss_nil)
      (pss_cons (ps_if (pt_cmpR op_eq (pv 0) pe_int (nomark _)) (pss_one (ps_ret (pe_ifExp (pt_val (pv 2)) (pe_mkEK (Z.T 2 (by decide)) Z.g2 hr (pv 1) rfl) (pe_mkE (Z.T 2 (by decide)) Z.g2 hr (pa_cons (pv 1) pa_nil) rfl)))) pss_nil)
      (pss_cons (ps_if (pt_cmpR op_eq (pv 0) pe_int (nomark _)) (pss_one (ps_ret (pe_ifExp (pt_val (pv 2)) (pe_mkEK (Z.T 3 (by decide)) Z.g3 hr (pv 1) rfl) (pe_mkE (Z.T 3 (by decide)) Z.g3 hr (pa_cons (pv 1) pa_nil) rfl)))) pss_nil)
      (pss_one (ps_ret (pe_ifExp (pt_val (pv 2)) (pe_mkEK (Z.T 4 (by decide)) Z.g4 hr (pv 1) rfl) (pe_mkE (Z.T 4 (by decide)) Z.g4 hr (pa_cons (pv 1) pa_nil) rfl))))))), ?_⟩
    have eqn : ∀ j : Nat, decide (V.int (i : Nat) = V.int (j : Nat)) = decide (i = j) := fun j => decide_eq_decide.mpr ⟨fun z => by have := V.int.inj z; omega, fun z => by rw [z]⟩
    refine ⟨_, rfl, rfl, _, rfl, ite_b (c := i = 0) (eqn 0) (fun e => ?_) (fun n0 => ?_)⟩
    · subst e
      exact mk_both q
    refine ⟨_, rfl, rfl, _, rfl, ite_b (c := i = 1) (eqn 1) (fun e => ?_) (fun n1 => ?_)⟩
    · subst e
      exact mk_both q
    refine ⟨_, rfl, rfl, _, rfl, ite_b (c := i = 2) (eqn 2) (fun e => ?_) (fun n2 => ?_)⟩
    · subst e
      exact mk_both q
    refine ⟨_, rfl, rfl, _, rfl, ite_b (c := i = 3) (eqn 3) (fun e => ?_) (fun n3 => ?_)⟩
    · subst e
      exact mk_both q
    have e : i = 4 := by omega
    subst e
    exact mk_both q
end
end Tw

set_option Elab.async false
set_option linter.all false
set_option maxRecDepth 100000
set_option maxHeartbeats 2000000
namespace Tw
open PySem PySem.Spec PyProof.Rows L2
section
variable {P : Program} {w : World} {K : PySem.W.Frag} {mg : Str → Option Value} {base : Heap}

abbrev nLaw : List Str := ["script", "rng", "lap", "far", "what", "number", "by_name", "error", "place"]
theorem scLaw : FnScope nLaw ["script"] (defScope sLaw) := ⟨rfl, rfl, rfl, by decide +kernel, rfl, by decide +kernel, by decide +kernel⟩
def spLaw (K : PySem.W.Frag) : Sp := fun vs H Q _ => ∃ (a : Addr) (ns : List Int), vs = [.ref a] ∧ SqL K H a (ns.map V.int) ∧ ns.length ≤ 63 ∧ ∀ H', Q (.bl true) H'
def good (d : PyData) : Prop := d.showable = true ∧ d.hasDict = false ∧ d.depth ≤ 50 ∧ d.shown.length ≤ sizeLine
theorem int_ok {i : Int} (h : i.natAbs < 2 ^ 200) : i.natAbs.log2 < 1920 := by
  by_cases z : i.natAbs = 0
  · rw [z]; decide
  · have := (Nat.log2_lt z).mpr h
    omega
theorem good_int {i : Int} (h : i.natAbs < 2 ^ 200) : good (.int i) := by
  have h1 := int_ok h
  have h2 : (Str.ofString (toString i)).length ≤ 1921 := int_text_len_1921 h1
  refine ⟨decide_eq_true h1, rfl, Nat.zero_le _, ?_⟩
  show (Str.ofString (toString i)).length ≤ sizeLine
  have : sizeLine = 16777216 := sizeLine_eq
  omega
theorem good_str {l : List Nat} (hl : l.length ≤ 10000) (low : ∀ c ∈ l, c < 16 ^ 8) : good (.str (mk l)) := by
  refine ⟨rfl, rfl, Nat.zero_le _, ?_⟩
  show (reprText (mk l)).length ≤ sizeLine
  have h := StrLaws.reprText_len (mk l) low
  rw [mk_len] at h
  have : sizeLine = 16777216 := sizeLine_eq
  omega
theorem good_tup {i : Int} (h : i.natAbs < 2 ^ 200) : good (.tuple [.int i, .int 1]) := by
  have h1 := int_ok h
  have h2 : (Str.ofString (toString i)).length ≤ 1921 := int_text_len_1921 h1
  have h3 : (Str.ofString (toString (1 : Int))).length ≤ 1921 := int_text_len_1921 (by decide)
  refine ⟨?_, rfl, by show 1 ≤ 50; decide, ?_⟩
  · have e := decide_eq_true h1
    simp only [PyData.showable, PyData.showableAll, e]
    decide
  · have t := tupleText_le [Str.ofString (toString i), Str.ofString (toString (1 : Int))]
    simp only [piled_cons, piled_nil] at t
    show (tupleText [Str.ofString (toString i), Str.ofString (toString (1 : Int))]).length ≤ sizeLine
    have : sizeLine = 16777216 := sizeLine_eq
    omega
theorem good_lst {i : Int} (h : i.natAbs < 2 ^ 200) : good (.list [.int i]) := by
  have h1 := int_ok h
  have h2 : (Str.ofString (toString i)).length ≤ 1921 := int_text_len_1921 h1
  refine ⟨?_, rfl, by show 1 ≤ 50; decide, ?_⟩
  · have e := decide_eq_true h1
    simp only [PyData.showable, PyData.showableAll, e, Bool.and_self]
  · have t := listText_le [Str.ofString (toString i)]
    simp only [piled_cons, piled_nil] at t
    show (listText [Str.ofString (toString i)]).length ≤ sizeLine
    have : sizeLine = 16777216 := sizeLine_eq
    omega
def flD (i : Nat) : PyData := .list [.bool (decide (i = 0)), .bool (decide (i = 1)), .bool (decide (i = 2)), .bool (decide (i = 3)), .bool (decide (i = 4))]
def plD (i : Nat) : PyData := .list [.bool (decide (0 = i)), .bool (decide (1 = i)), .bool (decide (2 = i)), .bool (decide (3 = i)), .bool (decide (4 = i))]
theorem fl_eqv : ∀ i, i < 5 → PyData.eqv (flD i) (plD i) = true := by decide +kernel
theorem fl_sh : ∀ i, i < 5 → SeqAt.shaped (flD i) = true ∧ SeqAt.shaped (plD i) = true := by decide +kernel
theorem ok_law {C fI : Nat → Addr} {CS : Addr} (Z : K1 K mg C fI CS) {f fRng fDraw fFl fMd : Addr} {fd dRng dDraw dFl dMd : FuncData} (F : Fun K "law" "law" sLaw f fd)
    (DRng : Dfn K mg "_law_rng" sRng ["script"] fRng dRng) (DDraw : Dfn K mg "_law_draw" sDraw ["rng", "limit"] fDraw dDraw) (DFl : Dfn K mg "_law_flags" sFlags ["error"] fFl dFl) (DMd : Dfn K mg "_law_made" sMade ["number", "what", "by_name"] fMd dMd)
    (ml : mg "len" = none) (mr : mg "range" = none) (mm : mg "min" = none) (ma : mg "abs" = none) (mp : mg "repr" = none) (mi : mg "isinstance" = none) (mv : mg "ValueError" = none) :
    RunA P w K mg base CX0 callerA f fd ["script"] (spLaw K) := by
  have GRng : FnOk P w K mg base CX0 3 fRng dRng ["script"] (spRng K) := ok_rng DRng.F ma
  have GDraw : FnOk P w K mg base CX0 3 fDraw dDraw ["rng", "limit"] spDraw := ok_draw DDraw.F
  have GFl : FnOk P w K mg base CX0 3 fFl dFl ["error"] (spFlags C) := ok_flags Z DFl.F mi
  have GMd : FnOk P w K mg base CX0 3 fMd dMd ["number", "what", "by_name"] (spMade C) := ok_made Z DMd.F
  refine runA_of (k := 3) F scLaw ⟨rfl, by decide, by decide⟩ (fun vs H Q E h => ?_) (fun cdv s H vs Q E hr h => ?_)
  · obtain ⟨a, ns, rfl, _⟩ := h
    rfl
  · obtain ⟨a, ns, rfl, hS, hlen, q⟩ := h
    refine ⟨_, PSs.nox (pss_cons (ps_set (i := 1) scLaw.nd rfl (.inl rfl) (pe_call GRng hr rfl DRng.g DRng.F.kp DRng.b .nil pass0 (pa_cons (pv 0) pa_nil)))
 (pss_cons (ps_for PassesOwn.never rfl (pi_range1 (by rfl) mr (pa_cons (pe_op op_add pe_int (pe_callB (call_min2 rfl) (by rfl) mm boot_min (pa_cons pe_int (pa_cons (pe_callB call_len_seq (by rfl) ml PySem.boot_len (pa_cons (pv 0) pa_nil)) pa_nil)))) pa_nil)) (pg_name (i := 2) scLaw.nd rfl (.inl rfl))
 (pss_cons (ps_set (i := 3) scLaw.nd rfl (.inl rfl) (pe_call GDraw hr rfl DDraw.g DDraw.F.kp DDraw.b .nil pass0 (pa_cons (pv 1) (pa_cons (pe_op op_pow pe_int pe_int) pa_nil))))
 (pss_one (ps_for PassesOwn.never rfl (pi_list (pe_lst (pa_cons pe_int (pa_cons (pv 3) (pa_cons (pe_op op_sub pe_int (pv 3)) (pa_cons pe_non (pa_cons pe_str (pa_cons (pe_op op_mulS pe_str (pe_call GDraw hr rfl DDraw.g DDraw.F.kp DDraw.b .nil pass0 (pa_cons (pv 1) (pa_cons pe_int pa_nil)))) (pa_cons (pe_tup (pa_cons (pv 3) (pa_cons pe_int pa_nil))) (pa_cons (pe_lst (pa_cons (pv 3) pa_nil)) pa_nil)))))))))) (pg_name (i := 4) scLaw.nd rfl (.inl rfl))
 (pss_one (ps_for PassesOwn.never rfl (pi_range1 (by rfl) mr (pa_cons pe_int pa_nil)) (pg_name (i := 5) scLaw.nd rfl (.inr rfl) (.inl rfl))
 (pss_one (ps_for PassesOwn.never rfl (pi_list (pe_lst (pa_cons pe_bl (pa_cons pe_bl pa_nil)))) (pg_name (i := 6) scLaw.nd rfl (.inl rfl))
 (pss_cons (ps_set (i := 7) scLaw.nd rfl (.inl rfl) (pe_call GMd hr rfl DMd.g DMd.F.kp DMd.b .nil pass0 (pa_cons (pv 5) (pa_cons (pv 4) (pa_cons (pv 6) pa_nil)))))
 (pss_cons (ps_if (pt_cmpR (op_neD hr.units) (pe_call GFl hr rfl DFl.g DFl.F.kp DFl.b .nil pass0 (pa_cons (pv 7) pa_nil)) (pe_lc (own := [("place", 8)]) (g := gName 8) (tt := tYes) (by rfl) scLaw.nd (pi_range1 (by rfl) mr (pa_cons pe_int pa_nil)) (blkOk_by (N := nLaw) (sc := defScope sLaw) (by decide +kernel)) (fun _ _ _ _ _ => pg_name (i := 8) scLaw.nd rfl (Or.inl rfl) (Or.inr rfl)) (fun _ _ _ _ _ => pts_nil) (fun _ _ _ _ _ => pe_cmpR op_eq (pv 8) (pv 5) (nomark _))) (nomark _)) (pss_one (ps_ret pe_bl)) pss_nil)
 (pss_cons (ps_if (PW.pt (pw_or (pt_not (pt_val (pe_callB call_isV (by rfl) mi (by decide +kernel) (pa_cons (pv 7) (pa_cons (pe_glob (v := .ref CS) rfl Z.gS rfl) pa_nil))))) (pw_or1 (pt_not (pt_val (pe_callB call_isV (by rfl) mi (by decide +kernel) (pa_cons (pv 7) (pa_cons (pe_bltn (v := .ty "ValueError") (u := .type "ValueError") (by rfl) mv (by decide +kernel) rfl) pa_nil)))))))) (pss_one (ps_ret pe_bl)) pss_nil)
 (pss_one (ps_if (pt_cmpR op_ne (pe_callB (call_reprV rfl hr.units) (by rfl) mp boot_repr (pa_cons (pe_valE (pv 7)) pa_nil)) (pe_callB (call_reprV rfl hr.units) (by rfl) mp boot_repr (pa_cons (pv 4) pa_nil)) (nomark _)) (pss_one (ps_ret pe_bl)) pss_nil)))))))))))))
 (pss_one (ps_ret pe_bl)))), ?_⟩
    refine ⟨_, rfl, a, ns, rfl, hS, hlen, fun H1 r d s0 sm1 nr hr1 ok1 => ?_⟩
    have hS1 : SqL K H1 a (ns.map V.int) := sm1.seq hS
    have nl : (if (((ns.map V.int).length : Nat) : Int) < 5 then (((ns.map V.int).length : Nat) : Int) else 5) ≤ 5 ∧ 0 ≤ (if (((ns.map V.int).length : Nat) : Int) < 5 then (((ns.map V.int).length : Nat) : Int) else 5) := by
      split <;> omega
    refine ⟨_, rfl, a, _, rfl, .inl hS1, _, _, rfl, _, _, rfl, rfl, _, rfl, by omega, by omega, for_range (fun i σ H' => ∃ d c y2 y3 y4 y5 y6 y7 y8, σ = [some (.ref a), some (.ref r), y2, y3, y4, y5, y6, y7, y8] ∧ H' r = some (rngO d s0 c) ∧ RngOk d s0 c ∧ c ≤ 2 * (i : Nat) ∧ i ≤ 8)
      ⟨d, 0, none, none, none, none, none, none, none, rfl, hr1, ok1, by omega, by omega⟩ ?_ ?_⟩
    · rintro i0 σ H2 hi0 ⟨d2, c2, y2, y3, y4, y5, y6, y7, y8, rfl, hr2, ok2, le2, i8⟩
      have hi1 : i0 + 1 ≤ 8 := by omega
      have p30 : (0 : Int) < 10 ^ (30 : Int).toNat ∧ (10 : Int) ^ (30 : Int).toNat < 2 ^ 200 := ⟨by decide +kernel, by decide +kernel⟩
      refine ⟨_, rfl, _, _, rfl, rfl, ⟨by decide, by decide, by decide⟩, r, _, d2, s0, c2, rfl, hr2, ok2, p30, by omega, fun d3 c3 v3 ok3 le3 v30 v31 => ?_⟩
      have far : v3.natAbs < 2 ^ 200 := by
        have h : ((v3.natAbs : Nat) : Int) < ((2 ^ 200 : Nat) : Int) := by
          rw [Int.natAbs_of_nonneg v30, ← two_pow_cast]
          exact Int.lt_trans v31 p30.2
        exact Int.ofNat_lt.mp h
      -- the list of values
      refine ⟨_, rfl, _, rfl, _, _, rfl, rfl, _, rfl, r, 9, d3, s0, c3, rfl, upd_same, ok3, ⟨by decide, by decide⟩, by omega, fun d4 c4 v4 ok4 le4 v40 v41 => ?_⟩
      refine ⟨[84, 51, 32, 83], v4.toNat, (by decide +kernel), (by rw [Int.toNat_of_nonneg v40]), ⟨by show 4 * v4.toNat ≤ 1000000; omega, by omega⟩, ?_⟩
      refine ⟨_, rfl, (by show 2 ≤ sizeLine; decide), fun t nt => ?_⟩
      refine ⟨_, rfl, (by show 1 ≤ sizeLine; decide), fun l nl2 => ⟨(by show 8 ≤ sizeLine; decide), fun p np => ⟨p, rfl, ⟨_, SqL.of upd_same⟩, ?_⟩⟩⟩
      have hrA : (upd (upd H2 r (rngO d3 s0 c3)) r (rngO d4 s0 c4)) r = some (rngO d4 s0 c4) := upd_same
      have st := same_upd (o := .tup [V.int v3, V.int 1]) nt
      have sl := same_upd (o := .lst [V.int v3]) nl2
      have sp := same_upd (o := .lst [V.int 0, V.int v3, V.int (0 - v3), V.non, V.str "", V.str (mk (reps v4.toNat [84, 51, 32, 83])), V.ref t, V.ref l]) np
      have hrB := sp _ _ (sl _ _ (st _ _ hrA))
      have htB := sp _ _ (sl _ _ (upd_same (H := upd (upd H2 r (rngO d3 s0 c3)) r (rngO d4 s0 c4)) (a := t) (o := .tup [V.int v3, V.int 1])))
      have hlB := sp _ _ (upd_same (H := upd (upd (upd H2 r (rngO d3 s0 c3)) r (rngO d4 s0 c4)) t (.tup [V.int v3, V.int 1])) (a := l) (o := .lst [V.int v3]))
      have hpB : (upd (upd (upd (upd (upd H2 r (rngO d3 s0 c3)) r (rngO d4 s0 c4)) t (.tup [V.int v3, V.int 1])) l (.lst [V.int v3])) p (.lst [V.int 0, V.int v3, V.int (0 - v3), V.non, V.str "", V.str (mk (reps v4.toNat [84, 51, 32, 83])), V.ref t, V.ref l])) p = some (.lst [V.int 0, V.int v3, V.int (0 - v3), V.non, V.str "", V.str (mk (reps v4.toNat [84, 51, 32, 83])), V.ref t, V.ref l]) := upd_same
      refine for_list (xs := [V.int 0, V.int v3, V.int (0 - v3), V.non, V.str "", V.str (mk (reps v4.toNat [84, 51, 32, 83])), V.ref t, V.ref l])
        (fun j σ H' => ∃ y4 y5 y6 y7 y8, σ = [some (.ref a), some (.ref r), some (.int (0 + (i0 : Nat))), some (.int v3), y4, y5, y6, y7, y8] ∧ H' r = some (rngO d4 s0 c4) ∧ H' p = some (.lst [V.int 0, V.int v3, V.int (0 - v3), V.non, V.str "", V.str (mk (reps v4.toNat [84, 51, 32, 83])), V.ref t, V.ref l]) ∧ H' t = some (.tup [V.int v3, V.int 1]) ∧ H' l = some (.lst [V.int v3]))
        ⟨y4, y5, y6, y7, y8, rfl, hrB, hpB, htB, hlB⟩ (fun _ _ H' _ ⟨_, _, _, _, _, _, _, h, _, _⟩ => SqL.of h) ?_ ?_
      · rintro j x σ H5 hx ⟨y4, y5, y6, y7, y8, rfl, hr5, hp5, ht5, hl5⟩
        have data : ∃ dd, Dp K H5 x dd ∧ good dd := by
          have hx' := List.mem_of_getElem? hx
          simp only [List.mem_cons, List.not_mem_nil, or_false] at hx'
          have neg : (0 - v3).natAbs < 2 ^ 200 := by
            have : (0 - v3).natAbs = v3.natAbs := by omega
            rw [this]
            exact far
          rcases hx' with e | e | e | e | e | e | e | e
          · rw [e]; exact ⟨_, .int _, good_int (by decide)⟩
          · rw [e]; exact ⟨_, .int _, good_int far⟩
          · rw [e]; exact ⟨_, .int _, good_int neg⟩
          · rw [e]; exact ⟨_, .non, rfl, rfl, Nat.zero_le _, by decide +kernel⟩
          · rw [e, empty_mk]; exact ⟨_, .str _, good_str (by decide) (fun c hc => by cases hc)⟩
          · rw [e]
            refine ⟨_, .str _, good_str ?_ fun c hc => ?_⟩
            · rw [reps_len]
              show v4.toNat * 4 ≤ 10000
              omega
            · exact (by decide : ∀ c ∈ [84, 51, 32, 83], c < 16 ^ 8) c (reps_mem hc)
          · rw [e]; exact ⟨_, .tup (SqT.of ht5) (.cons (.int _) (.cons (.int _) .nil)), good_tup far⟩
          · rw [e]; exact ⟨_, .lst (SqL.of hl5) (.cons (.int _) .nil), good_lst far⟩
        obtain ⟨dd, hdd, gd1, gd2, gd3, gd4⟩ := data
        refine ⟨_, rfl, by decide, by decide, for_range (fun i σ H' => ∃ y5 y6 y7 y8, σ = [some (.ref a), some (.ref r), some (.int (0 + (i0 : Nat))), some (.int v3), some x, y5, y6, y7, y8] ∧ Same H5 H') ⟨y5, y6, y7, y8, rfl, Same.refl _⟩ ?_ ?_⟩
        · rintro i σ H6 hi ⟨y5, y6, y7, y8, rfl, sm6⟩
          have hi5 : i < 5 := hi
          refine ⟨(by show 2 ≤ sizeLine; decide), fun qL nq => ⟨qL, rfl, ⟨_, SqL.of upd_same⟩, ?_⟩⟩
          have sq := same_upd (o := .lst [V.bl false, V.bl true]) nq
          refine for_list (xs := [V.bl false, V.bl true]) (fun j σ H' => ∃ y6 y7 y8, σ = [some (.ref a), some (.ref r), some (.int (0 + (i0 : Nat))), some (.int v3), some x, some (.int (0 + (i : Nat))), y6, y7, y8] ∧ Same (upd H6 qL (.lst [V.bl false, V.bl true])) H')
            ⟨y6, y7, y8, rfl, Same.refl _⟩ (fun _ _ H' _ ⟨_, _, _, _, h⟩ => SqL.of (h _ _ upd_same)) ?_ ?_
          · rintro j2 xb σ H7 hxb ⟨y6, y7, y8, rfl, sm7⟩
            obtain ⟨b, rfl⟩ : ∃ b, xb = V.bl b := by
              have hx' := List.mem_of_getElem? hxb
              simp only [List.mem_cons, List.not_mem_nil, or_false] at hx'
              rcases hx' with e | e
              · exact ⟨false, e⟩
              · exact ⟨true, e⟩
            have sm57 : Same H5 H7 := sm6.trans (sq.trans sm7)
            refine ⟨_, rfl, _, rfl, _, rfl, i, x, b, congrArg (fun z => [V.int z, x, V.bl b]) (Int.zero_add _), hi5, fun e de nd ne ed => ?_⟩
            have hne : upd H7 de (xval x) e = none := by rw [upd_ne ed]; exact ne
            have sE : Same H7 (upd (upd H7 de (xval x)) e (ExcV (C i) de e)) := (same_upd nd).trans (same_upd hne)
            have hE : (upd (upd H7 de (xval x)) e (ExcV (C i) de e)) e = some (ExcV (C i) de e) := upd_same
            have hDe : (upd (upd H7 de (xval x)) e (ExcV (C i) de e)) de = some (xval x) := by rw [upd_ne (Ne.symm ed), upd_same]
            -- the flags
            refine ⟨_, rfl, e, de, i, rfl, hi5, hE, ⟨x, hDe⟩, fun pF nF => ?_⟩
            have sF := same_upd (o := .lst (flagsOf i)) nF
            refine ⟨_, rfl, by decide, by decide, fun D nD => lc_range (fun j H' => Same (upd (upd (upd H7 de (xval x)) e (ExcV (C i) de e)) pF (.lst (flagsOf i))) H' ∧ H' D = some (.lst ((List.range j).map fun m => V.bl (decide (m = i))))) ⟨same_upd nD, upd_same⟩ ?_ ?_⟩
            · rintro m H8 hm ⟨sm8, hD8⟩
              have hm5 : m < 5 := hm
              refine ⟨rfl, ?_⟩
              refine ⟨_, rfl, _, rfl, rfl, _, hD8, (by rw [List.length_map, List.length_range]; exact small1000 (by omega)), ?_, ?_⟩
              · intro b2 o hb
                rw [upd_ne (ne_of_none hb nD)]
                exact sm8 b2 o hb
              · have e1 : decide (V.int (0 + (m : Nat)) = V.int (0 + (i : Nat))) = decide (m = i) := decide_eq_decide.mpr ⟨fun z => by have := V.int.inj z; omega, fun z => by rw [z]⟩
                rw [upd_same, List.range_succ, List.map_append, e1]
                rfl
            · rintro H8 ⟨sm8, hD8⟩
              have hF8 := sm8 _ _ (upd_same (H := upd (upd H7 de (xval x)) e (ExcV (C i) de e)) (a := pF) (o := .lst (flagsOf i)))
              have hE8 := sm8 _ _ (sF _ _ hE)
              have hDe8 := sm8 _ _ (sF _ _ hDe)
              have sm58 : Same H5 H8 := sm57.trans (sE.trans (sF.trans sm8))
              refine ⟨flD i, plD i, .lst (SqL.of hF8) (.cons (.bl _) (.cons (.bl _) (.cons (.bl _) (.cons (.bl _) (.cons (.bl _) .nil))))), .lst (SqL.of hD8) (.cons (.bl _) (.cons (.bl _) (.cons (.bl _) (.cons (.bl _) (.cons (.bl _) .nil))))), (fl_sh i hi5).1, (fl_sh i hi5).2, _, rfl, ?_⟩
              rw [fl_eqv i hi5]
              refine iteF ?_
              -- isinstance
              refine ⟨_, rfl, e, C i, de, fI i, _, _, _, rfl, hE8, ⟨x, hDe8⟩, Z.T i hi5, .own _, Z.kS i hi5, _, rfl, iteF ?_⟩
              refine ⟨_, rfl, e, C i, de, fI i, _, _, _, rfl, hE8, ⟨x, hDe8⟩, Z.T i hi5, .ty _, Z.kV i hi5, _, rfl, iteF ?_⟩
              -- repr
              refine ⟨_, rfl, e, C i, de, fI i, x, rfl, hE8, Z.T i hi5, hDe8, x, dd, rfl, dp_same sm58 hdd, gd1, gd2, gd3, gd4, ?_⟩
              refine ⟨_, rfl, x, dd, rfl, dp_same sm58 hdd, gd1, gd2, gd3, gd4, rfl, _, rfl, iteNS rfl ?_⟩
              exact ⟨_, _, _, rfl, sm7.trans (sE.trans (sF.trans sm8))⟩
          · rintro σ H7 ⟨y6, y7, y8, rfl, sm7⟩
            exact ⟨_, _, _, _, rfl, sm6.trans (sq.trans sm7)⟩
        · rintro σ H6 ⟨y5, y6, y7, y8, rfl, sm6⟩
          exact ⟨_, _, _, _, _, rfl, sm6 _ _ hr5, sm6 _ _ hp5, sm6 _ _ ht5, sm6 _ _ hl5⟩
      · rintro σ H5 ⟨y4, y5, y6, y7, y8, rfl, hr5, hp5, ht5, hl5⟩
        exact ⟨d4, c4, _, _, _, _, _, _, _, rfl, hr5, ok4, by omega, hi1⟩
    · rintro σ H2 ⟨d2, c2, y2, y3, y4, y5, y6, y7, y8, rfl, hr2, ok2, le2, i8⟩
      exact q _
end
end Tw

set_option Elab.async false
set_option linter.all false
set_option maxRecDepth 100000
set_option maxHeartbeats 2000000
namespace Tw
open PySem PySem.Spec PyProof.Rows L2
theorem all_mk {l : PySem.W.OpenLaw} {w : World} {K : PySem.W.Frag} {h : Heap} {mg : Str → Option Value} {fa f0 CS : Addr} (X : K.In h) (G : h.Ns mainGlobals mg) (hfa : mg "law" = some (.ref fa))
    {od0 an0 : Option Addr} {sl0 : Array (Option Value)} {oc0 kV0 dc0 pm0 cd0 ct0 : Value}
    {f1 : Addr} {od1 an1 : Option Addr} {sl1 : Array (Option Value)} {oc1 kV1 dc1 pm1 cd1 ct1 : Value}
    {f2 : Addr} {od2 an2 : Option Addr} {sl2 : Array (Option Value)} {oc2 kV2 dc2 pm2 cd2 ct2 : Value}
    {f3 : Addr} {od3 an3 : Option Addr} {sl3 : Array (Option Value)} {oc3 kV3 dc3 pm3 cd3 ct3 : Value}
    {f4 : Addr} {od4 an4 : Option Addr} {sl4 : Array (Option Value)} {oc4 kV4 dc4 pm4 cd4 ct4 : Value}
    {C0 fI0 : Addr} {nm0 q0 : Str} {N0 : Addr} {bs0 : List Value} {sn0 : List Str} {sub0 : List Value} {ab0 : Bool} {col0 : Option Bool} {dd0 : Option Addr} {mA0 mB0 mC0 mD0 mE0 : Option Value} {odI0 anI0 : Option Addr} {slI0 : Array (Option Value)} {ocI0 dcI0 pmI0 cdI0 ctI0 : Value} {pA0 pB0 pC0 pD0 pE0 pF0 : Pos}
    {C1 fI1 : Addr} {nm1 q1 : Str} {N1 : Addr} {bs1 : List Value} {sn1 : List Str} {sub1 : List Value} {ab1 : Bool} {col1 : Option Bool} {dd1 : Option Addr} {mA1 mB1 mC1 mD1 mE1 : Option Value} {odI1 anI1 : Option Addr} {slI1 : Array (Option Value)} {ocI1 dcI1 pmI1 cdI1 ctI1 : Value} {pA1 pB1 pC1 pD1 pE1 pF1 : Pos}
    {C2 fI2 : Addr} {nm2 q2 : Str} {N2 : Addr} {bs2 : List Value} {sn2 : List Str} {sub2 : List Value} {ab2 : Bool} {col2 : Option Bool} {dd2 : Option Addr} {mA2 mB2 mC2 mD2 mE2 : Option Value} {odI2 anI2 : Option Addr} {slI2 : Array (Option Value)} {ocI2 dcI2 pmI2 cdI2 ctI2 : Value} {pA2 pB2 pC2 pD2 pE2 pF2 : Pos}
    {C3 fI3 : Addr} {nm3 q3 : Str} {N3 : Addr} {bs3 : List Value} {sn3 : List Str} {sub3 : List Value} {ab3 : Bool} {col3 : Option Bool} {dd3 : Option Addr} {mA3 mB3 mC3 mD3 mE3 : Option Value} {odI3 anI3 : Option Addr} {slI3 : Array (Option Value)} {ocI3 dcI3 pmI3 cdI3 ctI3 : Value} {pA3 pB3 pC3 pD3 pE3 pF3 : Pos}
    {C4 fI4 : Addr} {nm4 q4 : Str} {N4 : Addr} {bs4 : List Value} {sn4 : List Str} {sub4 : List Value} {ab4 : Bool} {col4 : Option Bool} {dd4 : Option Addr} {mA4 mB4 mC4 mD4 mE4 : Option Value} {odI4 anI4 : Option Addr} {slI4 : Array (Option Value)} {ocI4 dcI4 pmI4 cdI4 ctI4 : Value} {pA4 pB4 pC4 pD4 pE4 pF4 : Pos}
    (aS : PySem.W.nsIn K mainGlobals "SieveError" = some (some (.ref CS)))
    (xC0 : PySem.W.nsIn K mainGlobals "InvalidRow" = some (some (.ref C0)))
    (xL0 : K.lookup C0 = some (excClassObj nm0 q0 C0 N0 bs0 [.ref CS, .type "ValueError", .type "Exception", .type "BaseException", .type "object"] true sn0 sub0 ab0 col0 dd0 mA0 mB0 mC0 mD0 mE0 "ValueError.__new__"))
    (xA0 : PySem.W.findIn K (.ref C0) "__setattr__" = some (some (.builtin "object.__setattr__")))
    (xG0 : PySem.W.findIn K (.ref C0) "__getattribute__" = some (some (.builtin "BaseException.__getattribute__")))
    (xH0 : PySem.W.findIn K (.ref C0) "__getattr__" = some none)
    (xN0 : PySem.W.findIn K (.ref C0) "value" = some none)
    (xI0 : PySem.W.findIn K (.ref C0) "__init__" = some (some (.ref fI0)))
    (xT0 : PySem.W.typeIn K (.ref fI0) = some (.type "function"))
    (xF0 : K.lookup fI0 = some ⟨ocI0, odI0, .func (PySem.W.fnOf "__init__" "InvalidRow.__init__" (TwX.iA pA0 pB0) (TwX.iB pC0 pD0 pE0 pF0) TwX.iS .none .none dcI0 pmI0 anI0 cdI0 ctI0), slI0⟩)
    (xO0 : PySem.W.codeIn K cdI0 "InvalidRow.__init__" = true)
    (xK0 : PySem.W.keepIn K (.ref C0) = true)
    (xE0 : PySem.W.subIn K (.ref C0) (.type "BaseException") = some true)
    (xY0 : PySem.W.typeIn K (.ref C0) = some (.type "type"))
    (xD0 : PySem.W.hasDictIn K C0 = true)
    (xP0 : PySem.W.findIn K (.ref C0) "__class__" = some (some (.builtin "object.__class__")))
    (xM0 : PySem.W.mroIn K C0 (.type "object") = some true)
    (xC1 : PySem.W.nsIn K mainGlobals "InvalidPipeline" = some (some (.ref C1)))
    (xL1 : K.lookup C1 = some (excClassObj nm1 q1 C1 N1 bs1 [.ref CS, .type "ValueError", .type "Exception", .type "BaseException", .type "object"] true sn1 sub1 ab1 col1 dd1 mA1 mB1 mC1 mD1 mE1 "ValueError.__new__"))
    (xA1 : PySem.W.findIn K (.ref C1) "__setattr__" = some (some (.builtin "object.__setattr__")))
    (xG1 : PySem.W.findIn K (.ref C1) "__getattribute__" = some (some (.builtin "BaseException.__getattribute__")))
    (xH1 : PySem.W.findIn K (.ref C1) "__getattr__" = some none)
    (xN1 : PySem.W.findIn K (.ref C1) "value" = some none)
    (xI1 : PySem.W.findIn K (.ref C1) "__init__" = some (some (.ref fI1)))
    (xT1 : PySem.W.typeIn K (.ref fI1) = some (.type "function"))
    (xF1 : K.lookup fI1 = some ⟨ocI1, odI1, .func (PySem.W.fnOf "__init__" "InvalidPipeline.__init__" (TwX.iA pA1 pB1) (TwX.iB pC1 pD1 pE1 pF1) TwX.iS .none .none dcI1 pmI1 anI1 cdI1 ctI1), slI1⟩)
    (xO1 : PySem.W.codeIn K cdI1 "InvalidPipeline.__init__" = true)
    (xK1 : PySem.W.keepIn K (.ref C1) = true)
    (xE1 : PySem.W.subIn K (.ref C1) (.type "BaseException") = some true)
    (xY1 : PySem.W.typeIn K (.ref C1) = some (.type "type"))
    (xD1 : PySem.W.hasDictIn K C1 = true)
    (xP1 : PySem.W.findIn K (.ref C1) "__class__" = some (some (.builtin "object.__class__")))
    (xM1 : PySem.W.mroIn K C1 (.type "object") = some true)
    (xC2 : PySem.W.nsIn K mainGlobals "InvalidNumber" = some (some (.ref C2)))
    (xL2 : K.lookup C2 = some (excClassObj nm2 q2 C2 N2 bs2 [.ref CS, .type "ValueError", .type "Exception", .type "BaseException", .type "object"] true sn2 sub2 ab2 col2 dd2 mA2 mB2 mC2 mD2 mE2 "ValueError.__new__"))
    (xA2 : PySem.W.findIn K (.ref C2) "__setattr__" = some (some (.builtin "object.__setattr__")))
    (xG2 : PySem.W.findIn K (.ref C2) "__getattribute__" = some (some (.builtin "BaseException.__getattribute__")))
    (xH2 : PySem.W.findIn K (.ref C2) "__getattr__" = some none)
    (xN2 : PySem.W.findIn K (.ref C2) "value" = some none)
    (xI2 : PySem.W.findIn K (.ref C2) "__init__" = some (some (.ref fI2)))
    (xT2 : PySem.W.typeIn K (.ref fI2) = some (.type "function"))
    (xF2 : K.lookup fI2 = some ⟨ocI2, odI2, .func (PySem.W.fnOf "__init__" "InvalidNumber.__init__" (TwX.iA pA2 pB2) (TwX.iB pC2 pD2 pE2 pF2) TwX.iS .none .none dcI2 pmI2 anI2 cdI2 ctI2), slI2⟩)
    (xO2 : PySem.W.codeIn K cdI2 "InvalidNumber.__init__" = true)
    (xK2 : PySem.W.keepIn K (.ref C2) = true)
    (xE2 : PySem.W.subIn K (.ref C2) (.type "BaseException") = some true)
    (xY2 : PySem.W.typeIn K (.ref C2) = some (.type "type"))
    (xD2 : PySem.W.hasDictIn K C2 = true)
    (xP2 : PySem.W.findIn K (.ref C2) "__class__" = some (some (.builtin "object.__class__")))
    (xM2 : PySem.W.mroIn K C2 (.type "object") = some true)
    (xC3 : PySem.W.nsIn K mainGlobals "NothingToUndo" = some (some (.ref C3)))
    (xL3 : K.lookup C3 = some (excClassObj nm3 q3 C3 N3 bs3 [.ref CS, .type "ValueError", .type "Exception", .type "BaseException", .type "object"] true sn3 sub3 ab3 col3 dd3 mA3 mB3 mC3 mD3 mE3 "ValueError.__new__"))
    (xA3 : PySem.W.findIn K (.ref C3) "__setattr__" = some (some (.builtin "object.__setattr__")))
    (xG3 : PySem.W.findIn K (.ref C3) "__getattribute__" = some (some (.builtin "BaseException.__getattribute__")))
    (xH3 : PySem.W.findIn K (.ref C3) "__getattr__" = some none)
    (xN3 : PySem.W.findIn K (.ref C3) "value" = some none)
    (xI3 : PySem.W.findIn K (.ref C3) "__init__" = some (some (.ref fI3)))
    (xT3 : PySem.W.typeIn K (.ref fI3) = some (.type "function"))
    (xF3 : K.lookup fI3 = some ⟨ocI3, odI3, .func (PySem.W.fnOf "__init__" "NothingToUndo.__init__" (TwX.iA pA3 pB3) (TwX.iB pC3 pD3 pE3 pF3) TwX.iS .none .none dcI3 pmI3 anI3 cdI3 ctI3), slI3⟩)
    (xO3 : PySem.W.codeIn K cdI3 "NothingToUndo.__init__" = true)
    (xK3 : PySem.W.keepIn K (.ref C3) = true)
    (xE3 : PySem.W.subIn K (.ref C3) (.type "BaseException") = some true)
    (xY3 : PySem.W.typeIn K (.ref C3) = some (.type "type"))
    (xD3 : PySem.W.hasDictIn K C3 = true)
    (xP3 : PySem.W.findIn K (.ref C3) "__class__" = some (some (.builtin "object.__class__")))
    (xM3 : PySem.W.mroIn K C3 (.type "object") = some true)
    (xC4 : PySem.W.nsIn K mainGlobals "Unreadable" = some (some (.ref C4)))
    (xL4 : K.lookup C4 = some (excClassObj nm4 q4 C4 N4 bs4 [.ref CS, .type "ValueError", .type "Exception", .type "BaseException", .type "object"] true sn4 sub4 ab4 col4 dd4 mA4 mB4 mC4 mD4 mE4 "ValueError.__new__"))
    (xA4 : PySem.W.findIn K (.ref C4) "__setattr__" = some (some (.builtin "object.__setattr__")))
    (xG4 : PySem.W.findIn K (.ref C4) "__getattribute__" = some (some (.builtin "BaseException.__getattribute__")))
    (xH4 : PySem.W.findIn K (.ref C4) "__getattr__" = some none)
    (xN4 : PySem.W.findIn K (.ref C4) "value" = some none)
    (xI4 : PySem.W.findIn K (.ref C4) "__init__" = some (some (.ref fI4)))
    (xT4 : PySem.W.typeIn K (.ref fI4) = some (.type "function"))
    (xF4 : K.lookup fI4 = some ⟨ocI4, odI4, .func (PySem.W.fnOf "__init__" "Unreadable.__init__" (TwX.iA pA4 pB4) (TwX.iB pC4 pD4 pE4 pF4) TwX.iS .none .none dcI4 pmI4 anI4 cdI4 ctI4), slI4⟩)
    (xO4 : PySem.W.codeIn K cdI4 "Unreadable.__init__" = true)
    (xK4 : PySem.W.keepIn K (.ref C4) = true)
    (xE4 : PySem.W.subIn K (.ref C4) (.type "BaseException") = some true)
    (xY4 : PySem.W.typeIn K (.ref C4) = some (.type "type"))
    (xD4 : PySem.W.hasDictIn K C4 = true)
    (xP4 : PySem.W.findIn K (.ref C4) "__class__" = some (some (.builtin "object.__class__")))
    (xM4 : PySem.W.mroIn K C4 (.type "object") = some true)
    (hcn : PySem.W.specialIn K (.builtin "object.__class__") "__get__" = some (some (.builtin "getset_descriptor.__get__")))
    (hct : PySem.W.takesIn K (.builtin "object.__class__") = some true)
    (t00 : PySem.W.kitOne K (.ref C0) (.ref C0) = some true)
    (t01 : PySem.W.kitOne K (.ref C0) (.ref C1) = some false)
    (t02 : PySem.W.kitOne K (.ref C0) (.ref C2) = some false)
    (t03 : PySem.W.kitOne K (.ref C0) (.ref C3) = some false)
    (t04 : PySem.W.kitOne K (.ref C0) (.ref C4) = some false)
    (u0 : PySem.W.kitOne K (.ref C0) (.ref CS) = some true)
    (v0 : PySem.W.kitOne K (.ref C0) (.type "ValueError") = some true)
    (t10 : PySem.W.kitOne K (.ref C1) (.ref C0) = some false)
    (t11 : PySem.W.kitOne K (.ref C1) (.ref C1) = some true)
    (t12 : PySem.W.kitOne K (.ref C1) (.ref C2) = some false)
    (t13 : PySem.W.kitOne K (.ref C1) (.ref C3) = some false)
    (t14 : PySem.W.kitOne K (.ref C1) (.ref C4) = some false)
    (u1 : PySem.W.kitOne K (.ref C1) (.ref CS) = some true)
    (v1 : PySem.W.kitOne K (.ref C1) (.type "ValueError") = some true)
    (t20 : PySem.W.kitOne K (.ref C2) (.ref C0) = some false)
    (t21 : PySem.W.kitOne K (.ref C2) (.ref C1) = some false)
    (t22 : PySem.W.kitOne K (.ref C2) (.ref C2) = some true)
    (t23 : PySem.W.kitOne K (.ref C2) (.ref C3) = some false)
    (t24 : PySem.W.kitOne K (.ref C2) (.ref C4) = some false)
    (u2 : PySem.W.kitOne K (.ref C2) (.ref CS) = some true)
    (v2 : PySem.W.kitOne K (.ref C2) (.type "ValueError") = some true)
    (t30 : PySem.W.kitOne K (.ref C3) (.ref C0) = some false)
    (t31 : PySem.W.kitOne K (.ref C3) (.ref C1) = some false)
    (t32 : PySem.W.kitOne K (.ref C3) (.ref C2) = some false)
    (t33 : PySem.W.kitOne K (.ref C3) (.ref C3) = some true)
    (t34 : PySem.W.kitOne K (.ref C3) (.ref C4) = some false)
    (u3 : PySem.W.kitOne K (.ref C3) (.ref CS) = some true)
    (v3 : PySem.W.kitOne K (.ref C3) (.type "ValueError") = some true)
    (t40 : PySem.W.kitOne K (.ref C4) (.ref C0) = some false)
    (t41 : PySem.W.kitOne K (.ref C4) (.ref C1) = some false)
    (t42 : PySem.W.kitOne K (.ref C4) (.ref C2) = some false)
    (t43 : PySem.W.kitOne K (.ref C4) (.ref C3) = some false)
    (t44 : PySem.W.kitOne K (.ref C4) (.ref C4) = some true)
    (u4 : PySem.W.kitOne K (.ref C4) (.ref CS) = some true)
    (v4 : PySem.W.kitOne K (.ref C4) (.type "ValueError") = some true)
    (a0 : PySem.W.nsIn K mainGlobals "law" = some (some (.ref f0))) (l0 : K.lookup f0 = some ⟨oc0, od0, .func (PySem.W.fnOf "law" "law" (defArgs sLaw) (defBody sLaw) (defScope sLaw) .none kV0 dc0 pm0 an0 cd0 ct0), sl0⟩) (c0 : PySem.W.codeIn K cd0 "law" = true) (k0 : PySem.W.keepIn K (.ref f0) = true)
    (a1 : PySem.W.nsIn K mainGlobals "_law_rng" = some (some (.ref f1))) (l1 : K.lookup f1 = some ⟨oc1, od1, .func (PySem.W.fnOf "_law_rng" "_law_rng" (defArgs sRng) (defBody sRng) (defScope sRng) .none kV1 dc1 pm1 an1 cd1 ct1), sl1⟩) (c1 : PySem.W.codeIn K cd1 "_law_rng" = true) (k1 : PySem.W.keepIn K (.ref f1) = true)
    (a2 : PySem.W.nsIn K mainGlobals "_law_draw" = some (some (.ref f2))) (l2 : K.lookup f2 = some ⟨oc2, od2, .func (PySem.W.fnOf "_law_draw" "_law_draw" (defArgs sDraw) (defBody sDraw) (defScope sDraw) .none kV2 dc2 pm2 an2 cd2 ct2), sl2⟩) (c2 : PySem.W.codeIn K cd2 "_law_draw" = true) (k2 : PySem.W.keepIn K (.ref f2) = true)
    (a3 : PySem.W.nsIn K mainGlobals "_law_flags" = some (some (.ref f3))) (l3 : K.lookup f3 = some ⟨oc3, od3, .func (PySem.W.fnOf "_law_flags" "_law_flags" (defArgs sFlags) (defBody sFlags) (defScope sFlags) .none kV3 dc3 pm3 an3 cd3 ct3), sl3⟩) (c3 : PySem.W.codeIn K cd3 "_law_flags" = true) (k3 : PySem.W.keepIn K (.ref f3) = true)
    (a4 : PySem.W.nsIn K mainGlobals "_law_made" = some (some (.ref f4))) (l4 : K.lookup f4 = some ⟨oc4, od4, .func (PySem.W.fnOf "_law_made" "_law_made" (defArgs sMade) (defBody sMade) (defScope sMade) .none kV4 dc4 pm4 an4 cd4 ct4), sl4⟩) (c4 : PySem.W.codeIn K cd4 "_law_made" = true) (k4 : PySem.W.keepIn K (.ref f4) = true)
    (z1 : PySem.W.nsIn K mainGlobals "len" = some none)
    (z2 : PySem.W.nsIn K mainGlobals "range" = some none)
    (z3 : PySem.W.nsIn K mainGlobals "min" = some none)
    (z4 : PySem.W.nsIn K mainGlobals "abs" = some none)
    (z5 : PySem.W.nsIn K mainGlobals "repr" = some none)
    (z6 : PySem.W.nsIn K mainGlobals "isinstance" = some none)
    (z7 : PySem.W.nsIn K mainGlobals "ValueError" = some none)
    : ∃ fd : FuncData, (∀ (s : Shared) (v : Value), BindsTo s fd ⟨[v], []⟩ [("script", v)]) ∧ ∀ base : Heap, K.In base → base.Ns mainGlobals mg → RunA l.prog w K mg base CX0 callerA fa fd ["script"] (spLaw K) := by
  have e := hfa.symm.trans (PySem.W.mg_of X G a0)
  cases e
  have T0 : TwX.ETxt K C0 fI0 := { cls := ⟨nm0, q0, N0, bs0, _, sn0, sub0, ab0, col0, dd0, mA0, mB0, mC0, mD0, mE0, xL0, rfl⟩, sa := xA0, ga := xG0, gg := xH0, noN := xN0, iC := xI0, tC := xT0, kC := xK0, exC := xE0, tyC := xY0, hdC := xD0, cl := xP0, cn := hcn, ct := hct, cm := xM0, fn := ⟨_, _, _, _, _, _, _, _, _, _, _, _, _, _, _, xF0, xO0⟩ }
  have T1 : TwX.ETxt K C1 fI1 := { cls := ⟨nm1, q1, N1, bs1, _, sn1, sub1, ab1, col1, dd1, mA1, mB1, mC1, mD1, mE1, xL1, rfl⟩, sa := xA1, ga := xG1, gg := xH1, noN := xN1, iC := xI1, tC := xT1, kC := xK1, exC := xE1, tyC := xY1, hdC := xD1, cl := xP1, cn := hcn, ct := hct, cm := xM1, fn := ⟨_, _, _, _, _, _, _, _, _, _, _, _, _, _, _, xF1, xO1⟩ }
  have T2 : TwX.ETxt K C2 fI2 := { cls := ⟨nm2, q2, N2, bs2, _, sn2, sub2, ab2, col2, dd2, mA2, mB2, mC2, mD2, mE2, xL2, rfl⟩, sa := xA2, ga := xG2, gg := xH2, noN := xN2, iC := xI2, tC := xT2, kC := xK2, exC := xE2, tyC := xY2, hdC := xD2, cl := xP2, cn := hcn, ct := hct, cm := xM2, fn := ⟨_, _, _, _, _, _, _, _, _, _, _, _, _, _, _, xF2, xO2⟩ }
  have T3 : TwX.ETxt K C3 fI3 := { cls := ⟨nm3, q3, N3, bs3, _, sn3, sub3, ab3, col3, dd3, mA3, mB3, mC3, mD3, mE3, xL3, rfl⟩, sa := xA3, ga := xG3, gg := xH3, noN := xN3, iC := xI3, tC := xT3, kC := xK3, exC := xE3, tyC := xY3, hdC := xD3, cl := xP3, cn := hcn, ct := hct, cm := xM3, fn := ⟨_, _, _, _, _, _, _, _, _, _, _, _, _, _, _, xF3, xO3⟩ }
  have T4 : TwX.ETxt K C4 fI4 := { cls := ⟨nm4, q4, N4, bs4, _, sn4, sub4, ab4, col4, dd4, mA4, mB4, mC4, mD4, mE4, xL4, rfl⟩, sa := xA4, ga := xG4, gg := xH4, noN := xN4, iC := xI4, tC := xT4, kC := xK4, exC := xE4, tyC := xY4, hdC := xD4, cl := xP4, cn := hcn, ct := hct, cm := xM4, fn := ⟨_, _, _, _, _, _, _, _, _, _, _, _, _, _, _, xF4, xO4⟩ }
  have D1 := dfn_mk (st := sRng) (ps := ["script"]) X G a1 l1 c1 k1 fun _ _ _ _ _ _ us hl => match us, hl with | [_], _ => rfl
  have D2 := dfn_mk (st := sDraw) (ps := ["rng", "limit"]) X G a2 l2 c2 k2 fun _ _ _ _ _ _ us hl => match us, hl with | [_, _], _ => rfl
  have D3 := dfn_mk (st := sFlags) (ps := ["error"]) X G a3 l3 c3 k3 fun _ _ _ _ _ _ us hl => match us, hl with | [_], _ => rfl
  have D4 := dfn_mk (st := sMade) (ps := ["number", "what", "by_name"]) X G a4 l4 c4 k4 fun _ _ _ _ _ _ us hl => match us, hl with | [_, _, _], _ => rfl
  have m1 := PySem.W.mg_none_of X G z1
  have m2 := PySem.W.mg_none_of X G z2
  have m3 := PySem.W.mg_none_of X G z3
  have m4 := PySem.W.mg_none_of X G z4
  have m5 := PySem.W.mg_none_of X G z5
  have m6 := PySem.W.mg_none_of X G z6
  have m7 := PySem.W.mg_none_of X G z7
  have Z : K1 K mg (fun i => match i with | 0 => C0 | 1 => C1 | 2 => C2 | 3 => C3 | _ => C4) (fun i => match i with | 0 => fI0 | 1 => fI1 | 2 => fI2 | 3 => fI3 | _ => fI4) CS := {
    T := fun i hi => match i, hi with | 0, _ => T0 | 1, _ => T1 | 2, _ => T2 | 3, _ => T3 | 4, _ => T4
    g0 := PySem.W.mg_of X G xC0
    g1 := PySem.W.mg_of X G xC1
    g2 := PySem.W.mg_of X G xC2
    g3 := PySem.W.mg_of X G xC3
    g4 := PySem.W.mg_of X G xC4
    gS := PySem.W.mg_of X G aS
    kt := fun i j hi hj => match i, j, hi, hj with | 0, 0, _, _ => t00 | 0, 1, _, _ => t01 | 0, 2, _, _ => t02 | 0, 3, _, _ => t03 | 0, 4, _, _ => t04 | 1, 0, _, _ => t10 | 1, 1, _, _ => t11 | 1, 2, _, _ => t12 | 1, 3, _, _ => t13 | 1, 4, _, _ => t14 | 2, 0, _, _ => t20 | 2, 1, _, _ => t21 | 2, 2, _, _ => t22 | 2, 3, _, _ => t23 | 2, 4, _, _ => t24 | 3, 0, _, _ => t30 | 3, 1, _, _ => t31 | 3, 2, _, _ => t32 | 3, 3, _, _ => t33 | 3, 4, _, _ => t34 | 4, 0, _, _ => t40 | 4, 1, _, _ => t41 | 4, 2, _, _ => t42 | 4, 3, _, _ => t43 | 4, 4, _, _ => t44
    kS := fun i hi => match i, hi with | 0, _ => u0 | 1, _ => u1 | 2, _ => u2 | 3, _ => u3 | 4, _ => u4
    kV := fun i hi => match i, hi with | 0, _ => v0 | 1, _ => v1 | 2, _ => v2 | 3, _ => v3 | 4, _ => v4 }
  exact ⟨PySem.W.fnOf "law" "law" (defArgs sLaw) (defBody sLaw) (defScope sLaw) .none kV0 dc0 pm0 an0 cd0 ct0, fun s v => .of_eq rfl, fun base _ _ => ok_law Z (fun_mk l0 c0 k0) D1 D2 D3 D4 m1 m2 m3 m4 m5 m6 m7⟩
end Tw

open PySem PySem.W PyProof.Rows in
set_option maxRecDepth 100000 in
set_option maxHeartbeats 0 in
theorem PySem.Challenge.cw_twinsieve_k01_errors_and_their_values_holds : PySem.Challenge.rw_twinsieve_k01_errors_and_their_values.Holds := by
  w_on; o_law; k_head; (case hw => w_witness2)
  k_fill
  refine Tw.walkA_of (l := PySem.Challenge.rw_twinsieve_k01_errors_and_their_values) (n := 63) (x := "script") (sp := fun w => Tw.spLaw _) rfl (by decide) rfl (fun w h Y => PySem.W.kIn_of Y) ?F (fun _ _ a ns hl _ hS => ⟨a, ns, rfl, hS, hl, fun _ => rfl⟩)
  case F =>
    intro w mg fa h KX G hmg
    refine' Tw.all_mk KX G hmg ?aS ?xC0 ?xL0 ?xA0 ?xG0 ?xH0 ?xN0 ?xI0 ?xT0 ?xF0 ?xO0 ?xK0 ?xE0 ?xY0 ?xD0 ?xP0 ?xM0 ?xC1 ?xL1 ?xA1 ?xG1 ?xH1 ?xN1 ?xI1 ?xT1 ?xF1 ?xO1 ?xK1 ?xE1 ?xY1 ?xD1 ?xP1 ?xM1 ?xC2 ?xL2 ?xA2 ?xG2 ?xH2 ?xN2 ?xI2 ?xT2 ?xF2 ?xO2 ?xK2 ?xE2 ?xY2 ?xD2 ?xP2 ?xM2 ?xC3 ?xL3 ?xA3 ?xG3 ?xH3 ?xN3 ?xI3 ?xT3 ?xF3 ?xO3 ?xK3 ?xE3 ?xY3 ?xD3 ?xP3 ?xM3 ?xC4 ?xL4 ?xA4 ?xG4 ?xH4 ?xN4 ?xI4 ?xT4 ?xF4 ?xO4 ?xK4 ?xE4 ?xY4 ?xD4 ?xP4 ?xM4 ?hcn ?hct ?t00 ?t01 ?t02 ?t03 ?t04 ?u0 ?v0 ?t10 ?t11 ?t12 ?t13 ?t14 ?u1 ?v1 ?t20 ?t21 ?t22 ?t23 ?t24 ?u2 ?v2 ?t30 ?t31 ?t32 ?t33 ?t34 ?u3 ?v3 ?t40 ?t41 ?t42 ?t43 ?t44 ?u4 ?v4 ?a0 ?l0 ?c0 ?k0 ?a1 ?l1 ?c1 ?k1 ?a2 ?l2 ?c2 ?k2 ?a3 ?l3 ?c3 ?k3 ?a4 ?l4 ?c4 ?k4 ?z1 ?z2 ?z3 ?z4 ?z5 ?z6 ?z7
    (case aS => first | k_is | rfl)
    (case xC0 => first | k_is | rfl)
    (case xL0 => first | k_is | rfl)
    (case xA0 => first | k_is | rfl)
    (case xG0 => first | k_is | rfl)
    (case xH0 => first | k_is | rfl)
    (case xN0 => first | k_is | rfl)
    (case xI0 => first | k_is | rfl)
    (case xT0 => first | k_is | rfl)
    (case xF0 => first | k_is | rfl)
    (case xO0 => first | k_is | rfl)
    (case xK0 => first | k_is | rfl)
    (case xE0 => first | k_is | rfl)
    (case xY0 => first | k_is | rfl)
    (case xD0 => first | k_is | rfl)
    (case xP0 => first | k_is | rfl)
    (case xM0 => first | k_is | rfl)
    (case xC1 => first | k_is | rfl)
    (case xL1 => first | k_is | rfl)
    (case xA1 => first | k_is | rfl)
    (case xG1 => first | k_is | rfl)
    (case xH1 => first | k_is | rfl)
    (case xN1 => first | k_is | rfl)
    (case xI1 => first | k_is | rfl)
    (case xT1 => first | k_is | rfl)
    (case xF1 => first | k_is | rfl)
    (case xO1 => first | k_is | rfl)
    (case xK1 => first | k_is | rfl)
    (case xE1 => first | k_is | rfl)
    (case xY1 => first | k_is | rfl)
    (case xD1 => first | k_is | rfl)
    (case xP1 => first | k_is | rfl)
    (case xM1 => first | k_is | rfl)
    (case xC2 => first | k_is | rfl)
    (case xL2 => first | k_is | rfl)
    (case xA2 => first | k_is | rfl)
    (case xG2 => first | k_is | rfl)
    (case xH2 => first | k_is | rfl)
    (case xN2 => first | k_is | rfl)
    (case xI2 => first | k_is | rfl)
    (case xT2 => first | k_is | rfl)
    (case xF2 => first | k_is | rfl)
    (case xO2 => first | k_is | rfl)
    (case xK2 => first | k_is | rfl)
    (case xE2 => first | k_is | rfl)
    (case xY2 => first | k_is | rfl)
    (case xD2 => first | k_is | rfl)
    (case xP2 => first | k_is | rfl)
    (case xM2 => first | k_is | rfl)
    (case xC3 => first | k_is | rfl)
    (case xL3 => first | k_is | rfl)
    (case xA3 => first | k_is | rfl)
    (case xG3 => first | k_is | rfl)
    (case xH3 => first | k_is | rfl)
    (case xN3 => first | k_is | rfl)
    (case xI3 => first | k_is | rfl)
    (case xT3 => first | k_is | rfl)
    (case xF3 => first | k_is | rfl)
    (case xO3 => first | k_is | rfl)
    (case xK3 => first | k_is | rfl)
    (case xE3 => first | k_is | rfl)
    (case xY3 => first | k_is | rfl)
    (case xD3 => first | k_is | rfl)
    (case xP3 => first | k_is | rfl)
    (case xM3 => first | k_is | rfl)
    (case xC4 => first | k_is | rfl)
    (case xL4 => first | k_is | rfl)
    (case xA4 => first | k_is | rfl)
    (case xG4 => first | k_is | rfl)
    (case xH4 => first | k_is | rfl)
    (case xN4 => first | k_is | rfl)
    (case xI4 => first | k_is | rfl)
    (case xT4 => first | k_is | rfl)
    (case xF4 => first | k_is | rfl)
    (case xO4 => first | k_is | rfl)
    (case xK4 => first | k_is | rfl)
    (case xE4 => first | k_is | rfl)
    (case xY4 => first | k_is | rfl)
    (case xD4 => first | k_is | rfl)
    (case xP4 => first | k_is | rfl)
    (case xM4 => first | k_is | rfl)
    (case hcn => first | k_is | rfl)
    (case hct => first | k_is | rfl)
    (case t00 => first | k_is | rfl)
    (case t01 => first | k_is | rfl)
    (case t02 => first | k_is | rfl)
    (case t03 => first | k_is | rfl)
    (case t04 => first | k_is | rfl)
    (case u0 => first | k_is | rfl)
    (case v0 => first | k_is | rfl)
    (case t10 => first | k_is | rfl)
    (case t11 => first | k_is | rfl)
    (case t12 => first | k_is | rfl)
    (case t13 => first | k_is | rfl)
    (case t14 => first | k_is | rfl)
    (case u1 => first | k_is | rfl)
    (case v1 => first | k_is | rfl)
    (case t20 => first | k_is | rfl)
    (case t21 => first | k_is | rfl)
    (case t22 => first | k_is | rfl)
    (case t23 => first | k_is | rfl)
    (case t24 => first | k_is | rfl)
    (case u2 => first | k_is | rfl)
    (case v2 => first | k_is | rfl)
    (case t30 => first | k_is | rfl)
    (case t31 => first | k_is | rfl)
    (case t32 => first | k_is | rfl)
    (case t33 => first | k_is | rfl)
    (case t34 => first | k_is | rfl)
    (case u3 => first | k_is | rfl)
    (case v3 => first | k_is | rfl)
    (case t40 => first | k_is | rfl)
    (case t41 => first | k_is | rfl)
    (case t42 => first | k_is | rfl)
    (case t43 => first | k_is | rfl)
    (case t44 => first | k_is | rfl)
    (case u4 => first | k_is | rfl)
    (case v4 => first | k_is | rfl)
    (case a0 => first | k_is | rfl)
    (case l0 => first | k_is | rfl)
    (case c0 => first | k_is | rfl)
    (case k0 => first | k_is | rfl)
    (case a1 => first | k_is | rfl)
    (case l1 => first | k_is | rfl)
    (case c1 => first | k_is | rfl)
    (case k1 => first | k_is | rfl)
    (case a2 => first | k_is | rfl)
    (case l2 => first | k_is | rfl)
    (case c2 => first | k_is | rfl)
    (case k2 => first | k_is | rfl)
    (case a3 => first | k_is | rfl)
    (case l3 => first | k_is | rfl)
    (case c3 => first | k_is | rfl)
    (case k3 => first | k_is | rfl)
    (case a4 => first | k_is | rfl)
    (case l4 => first | k_is | rfl)
    (case c4 => first | k_is | rfl)
    (case k4 => first | k_is | rfl)
    (case z1 => first | k_is | rfl)
    (case z2 => first | k_is | rfl)
    (case z3 => first | k_is | rfl)
    (case z4 => first | k_is | rfl)
    (case z5 => first | k_is | rfl)
    (case z6 => first | k_is | rfl)
    (case z7 => first | k_is | rfl)

