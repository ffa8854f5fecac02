import PyProof.Rows.All
import Wide.All
import OpenK.AllK
import Wide.FinOn
import PySem.Challenge.RW_twinsieve_k02_runs_and_sizes
import HandS.Iter
import KE.GoesEnum
import HandS.Walk
import HandS.ForMost
import HandS.Wide
import HandS.Steps
import PyProof.StrBlock2
import PyProof.ReprRoads
import PyProof.StrLawsRepr
import PyProof.FitsInt
set_option Elab.async false
set_option linter.all false
set_option maxRecDepth 100000
set_option maxHeartbeats 2000000
namespace Tw
open PySem PySem.Spec PyProof.Rows L2

/-! walks that give out a tuple of plain values each turn -/
def ItP (f : Nat → List V) (n : Nat) : It :=
  ⟨fun i _ => i < n,
   fun i H v H' => ∃ T : Addr, v = V.ref T ∧ H T = none ∧ H' = upd H T (HO.tup (f i)),
   fun i _ => n ≤ i⟩

theorem turnP {P : Program} {w : World} {K : PySem.W.Frag} {elts : List Expr} {kk : Nat} {tpos : Pos}
    {a : Addr} {fp wr : List Addr} {n : Nat} {Pt : Nat → Array Value → Prop} {Sx : Nat → Heap → Prop} {Mid : Nat → Addr → Heap → Prop}
    (f : Nat → List V)
    (W : ∀ A : Around, A.handled = none → WalksT P w A a fp wr n Pt Sx Mid)
    (ma : a ∈ fp)
    (obj : ∀ i h, Sx i h → ∀ b ∈ fp, ∃ o, h.get? b = some o ∧ ∀ v, o.data ≠ .cell v)
    (rel : ∀ i vals, i < n → Pt i vals → ∃ us : List Value, vals = us.toArray ∧ Vals (f i) us)
    (len : ∀ i, (f i).length ≤ sizeLine)
    (sf : ∀ (A : Around) (i : Nat) (s : Shared) (Q : Value → Shared → Prop) (E : Value → Shared → Prop), Sx i s.heap → Q (.ref a) s → wpAny (model P w) A (pyIter (.ref a)) Q E s) :
    Turn P w K (Expr.Tuple elts kk tpos) (ItP f n) fp a (fun i h => i ≤ n ∧ Sx i h) where
  mem := ma
  obj := fun i h st => obj i h st.2
  keep := fun i h h' st k => ⟨st.1, (W { handled := none, depth := 0, units := 0, frames := none, guards := none } rfl).frame i h h' st.2 k⟩
  item := by
    intro X hP hw hK hc i pins s σ H E I hf st hg
    subst hP; subst hw; subst hK
    have hi : i < n := hg
    have W0 := W X.A (I.ok.hd hc)
    refine W0.item i s _ E hi st.2 fun T vals h' tk hv hT tup mid kp => ?_
    obtain ⟨us, rfl, rv⟩ := rel i vals hi hv
    refine ⟨_, rfl, W0.go elts kk tpos i T { s with heap := h', toks := tk } _ E mid fun h2 st2 kp2 => ?_⟩
    have nw : T ∉ wr := W0.apart i T h' mid
    have tup2 : h2.IsTuple T us.toArray := by
      obtain ⟨o, ho, r⟩ := tup
      exact ⟨o, kp2 T o nw ho, r⟩
    have new : ObjOk X.prog X.w (upd H T (HO.tup (f i))) h2 T (HO.tup (f i)) := ⟨len i, us, rv, tup2⟩
    have I1 : Inv X pins σ (upd H T (HO.tup (f i))) { s with heap := h2, toks := tk } :=
      I.turnedNew (ch := wr) (fun b o hb e => kp2 b o hb (kp b o hb e)) (fun b hb => hf b (W0.sub b hb)) hT new
    refine ⟨V.ref T, _, I1, rfl, ⟨T, rfl, I.hok.fresh hT, rfl⟩, ⟨hi, st2⟩, fun b hb => ?_⟩
    have ne : b ≠ T := fun e => by
      obtain ⟨o, ho, _⟩ := obj i s.heap st.2 b hb
      have l := Heap.lt_size ho
      rw [e] at l
      exact absurd (Nat.lt_of_lt_of_le l hT) (Nat.lt_irrefl _)
    rw [upd_ne ne]
    exact (hf b hb).1
  done := by
    intro X hP hw hK hc i pins s σ H E I hf st hg
    subst hP; subst hw; subst hK
    have hi : n ≤ i := hg
    have e : i = n := Nat.le_antisymm st.1 hi
    subst e
    have W0 := W X.A (I.ok.hd hc)
    exact W0.done s _ E st.2 fun h' tk kp => ⟨rfl, I.turnedL (ch := wr) kp fun b hb => hf b (W0.sub b hb)⟩
  self := fun A i s Q E st q => sf A i s Q E st.2 q

theorem walkP {f : Nat → List V} {n : Nat} : Walk (ItP f n) n (fun _ => True) (fun i H v H' => ∃ T : Addr, v = V.ref T ∧ H T = none ∧ H' = upd H T (HO.tup (f i))) :=
  ⟨fun _ _ h _ => h, fun _ _ => Nat.le_refl _, fun _ _ _ _ _ _ y => y⟩

/-- a text's iterator, whatever its signs -/
theorem drawsS {P : Program} {w : World} {A : Around} (hh : A.handled = none) (it : Addr) (x : Str) (t : Tok) :
    Draws P w A it [it] x.cps.size (fun i v => ∃ c u, x.cps[i]? = some c ∧ v = .str ⟨#[c]⟩ u) (fun i h => h.IsStrIter it (strIterType x) x t i) := by
  unfold strIterType
  split
  · exact Draws.strAscii hh it x t
  · exact Draws.strWide hh it x t
theorem beginsS (x : Str) (t : Tok) : Begins (.str x t) { cls := .type (strIterType x), data := .fields #[.str x t, .int 0 0] } fun _ => True where
  iter := fun prog w A E s Q _ h => by
    cases ha : x.cps.all (· < 128)
    · exact wpAny_pyIter_wide ha (by simpa [strIterType, ha] using h)
    · exact wpAny_pyIter_ascii ha (by simpa [strIterType, ha] using h)
  keeps := fun _ _ _ _ => trivial
  free := rfl
def sgn (x : Str) (i : Nat) : V := V.str ⟨#[x.cps.getD i 0]⟩
theorem sgn_rel {x : Str} {i c : Nat} {u : Tok} (h : x.cps[i]? = some c) : RelV (sgn x i) (.str ⟨#[c]⟩ u) := by
  have e : x.cps.getD i 0 = c := by
    rw [Array.getD_eq_getD_getElem?, h]; rfl
  exact ⟨u, by rw [e]⟩

/-! enumerate(text) -/
def iEnumS (ta : TA) : TI := fun σ H R => ta σ H fun vs H1 => ∃ x : Str, vs = [V.str x] ∧ R (ItP (fun i => [V.int (i : Nat), sgn x i]) x.cps.size) H1
theorem pi_enumS {X : Cx} {e : Expr} {ta : TA} {p pos tpos : Pos} {elts : List Expr} {kk : Nat} (hg : Gl X "enumerate") (hm : X.mg "enumerate" = none) (ha : PA X [e] ta)
    (hs : starEach [e] X.env = [(false, eval e X.env)] := by rfl) : PI X (.Tuple elts kk tpos) (.Call (.Name "enumerate" p) [e] [] pos) (iEnumS ta) := by
  refine ⟨fun pins s σ H R I h => ?_⟩
  refine Call_ (ld_blt I hg hm boot_enumerate (callWith_type1 (thn (ha.run pos pins s σ H _ I h) fun us s1 hh => ?_) hs rfl))
  obtain ⟨vs, H1, I1, r1, x, rfl, q⟩ := hh
  cases r1 with
  | cons r rr =>
    cases rr
    obtain ⟨t, rfl⟩ := r
    refine call_enumerate_str fun h' he hit hsz hk => wpAny_pyIter_enum he ?_
    have I2 : Inv X pins σ H1 { s1 with heap := h' } := I1.kept (t' := s1.toks) hk
    refine ⟨s1.heap.objs.size + 1, [s1.heap.objs.size + 1, s1.heap.objs.size], _, _, H1, rfl, I2,
      turnP (wr := [s1.heap.objs.size + 1, s1.heap.objs.size]) (fun i => [V.int (i : Nat), sgn x i])
        (fun A hA => WalksT.enumerateD (drawsS (A := A.in1) hA s1.heap.objs.size x t) (s1.heap.objs.size + 1) (Nat.succ_ne_self _) (by simp) (by simp))
        (by simp) ?_ ?_ ?_ ?_, ⟨Nat.zero_le _, ⟨_, he⟩, hit⟩, ?_, q⟩
    · rintro i h ⟨⟨old, e1⟩, o, e2, c2, d2⟩ b hb
      rcases List.mem_cons.mp hb with z | z
      · rw [z]; exact ⟨_, e1, fun v q => nomatch q⟩
      · rw [List.mem_singleton.mp z]; exact ⟨o, e2, fun v q => by rw [d2] at q; cases q⟩
    · rintro i vals hi ⟨t1, y, ⟨c, u, hc, rfl⟩, rfl⟩
      exact ⟨[.int i t1, .str ⟨#[c]⟩ u], rfl, .cons ⟨t1, rfl⟩ (.cons (sgn_rel hc) .nil)⟩
    · intro i
      show 2 ≤ sizeLine
      decide
    · rintro A i s Q E ⟨⟨old, e1⟩, _⟩ q
      exact wpAny_pyIter_enum e1 q
    · intro b hb
      have hle : s1.heap.objs.size ≤ b := by
        rcases List.mem_cons.mp hb with z | z
        · rw [z]; exact Nat.le_succ _
        · rw [List.mem_singleton.mp z]; exact Nat.le_refl _
      exact I1.fpOk hle (I1.hok.fresh hle)

/-! zip(text, text) -/
def iZipS (ta : TA) : TI := fun σ H R => ta σ H fun vs H1 => ∃ x y : Str, vs = [V.str x, V.str y] ∧ R (ItP (fun i => [sgn x i, sgn y i]) (min x.cps.size y.cps.size)) H1
theorem pi_zipS {X : Cx} {e e2 : Expr} {ta : TA} {p pos tpos : Pos} {elts : List Expr} {kk : Nat} (hg : Gl X "zip") (hm : X.mg "zip" = none) (ha : PA X [e, e2] ta)
    (hs : starEach [e, e2] X.env = (false, eval e X.env) :: starEach [e2] X.env := by rfl) (hpl : (backTo pos (starEach [e2] X.env)).any (·.1) = false := by rfl) :
    PI X (.Tuple elts kk tpos) (.Call (.Name "zip" p) [e, e2] [] pos) (iZipS ta) := by
  refine ⟨fun pins s σ H R I h => ?_⟩
  refine Call_ (ld_blt I hg hm boot_zip (callWith_type1 (thn (ha.run pos pins s σ H _ I h) fun us s1 hh => ?_) hs hpl))
  obtain ⟨vs, H1, I1, r1, x, y, rfl, q⟩ := hh
  cases r1 with
  | cons r rr =>
    cases rr with
    | cons r' rr =>
      cases rr
      obtain ⟨t, rfl⟩ := r
      obtain ⟨t', rfl⟩ := r'
      refine zip_begins2 (beginsS x t) (beginsS y t') trivial trivial fun h' hz hTI hTO h1 h2 hsz hk => wpAny_pyIter_zip hz ?_
      have I2 : Inv X pins σ H1 { s1 with heap := h' } := I1.kept (t' := s1.toks) hk
      have S : ZipSep2 (s1.heap.objs.size + 4) (s1.heap.objs.size + 2) (s1.heap.objs.size + 3) s1.heap.objs.size (s1.heap.objs.size + 1) [s1.heap.objs.size] [s1.heap.objs.size + 1] :=
        zip_sep2 (fp1 := []) (fp2 := []) (by simp) (by simp)
      refine ⟨s1.heap.objs.size + 4, _, _, _, H1, rfl, I2,
        turnP (fun i => [sgn x i, sgn y i])
          (fun A hA => WalksT.zipD2 S (drawsS (A := A.in1) hA s1.heap.objs.size x t) (drawsS (A := A.in1) hA (s1.heap.objs.size + 1) y t'))
          (by simp) ?_ ?_ ?_ ?_, ⟨Nat.zero_le _, hz, hTI, ⟨_, _, hTO⟩, ⟨_, h1, rfl, rfl⟩, ⟨_, h2, rfl, rfl⟩⟩, ?_, q⟩
      · rintro i h ⟨ez, eI, ⟨a1, a2, eO⟩, ⟨o1, e1, _, d1⟩, ⟨o2, e2, _, d2⟩⟩ b hb
        have hb' : b = s1.heap.objs.size + 4 ∨ b = s1.heap.objs.size + 2 ∨ b = s1.heap.objs.size + 3 ∨ b = s1.heap.objs.size ∨ b = s1.heap.objs.size + 1 := by simpa using hb
        rcases hb' with z | z | z | z | z
        · rw [z]; exact ⟨_, ez, fun v q => nomatch q⟩
        · rw [z]; exact ⟨_, eI, fun v q => nomatch q⟩
        · rw [z]; exact ⟨_, eO, fun v q => nomatch q⟩
        · rw [z]; exact ⟨o1, e1, fun v q => by rw [d1] at q; cases q⟩
        · rw [z]; exact ⟨o2, e2, fun v q => by rw [d2] at q; cases q⟩
      · rintro i vals hi ⟨v1, v2, ⟨c, u, hc, rfl⟩, ⟨c2, u2, hc2, rfl⟩, rfl⟩
        exact ⟨[.str ⟨#[c]⟩ u, .str ⟨#[c2]⟩ u2], rfl, .cons (sgn_rel hc) (.cons (sgn_rel hc2) .nil)⟩
      · intro i
        show 2 ≤ sizeLine
        decide
      · rintro A i s Q E ⟨ez, _⟩ q
        exact wpAny_pyIter_zip ez q
      · intro b hb
        have hb' : b = s1.heap.objs.size + 4 ∨ b = s1.heap.objs.size + 2 ∨ b = s1.heap.objs.size + 3 ∨ b = s1.heap.objs.size ∨ b = s1.heap.objs.size + 1 := by simpa using hb
        have hle : s1.heap.objs.size ≤ b := by
          rcases hb' with z | z | z | z | z <;> rw [z] <;> first | exact Nat.le_refl _ | exact Nat.le_add_right _ _
        exact I1.fpOk hle (I1.hok.fresh hle)
end Tw

set_option Elab.async false
set_option linter.all false
set_option maxRecDepth 100000
set_option maxHeartbeats 2000000
namespace Tw
open PySem PySem.Spec PyProof.Rows L2

/-- a text by its signs -/
def mk (l : List Nat) : Str := ⟨l.toArray⟩
theorem mk_len (l : List Nat) : (mk l).length = l.length := by simp [mk, Str.length]
theorem mk_app (a b : List Nat) : mk a ++ mk b = mk (a ++ b) := TL.ext_tl (by rw [TL.tl_append]; rfl)
theorem mk_inj {a b : List Nat} : mk a = mk b ↔ a = b := ⟨fun h => by
  have e := congrArg TL.tl h
  exact e, fun h => by rw [h]⟩
theorem mk_tl (x : Str) : mk (TL.tl x) = x := TL.mk_tl x
def reps (n : Nat) (l : List Nat) : List Nat := (List.replicate n l).flatten

theorem foldl_app (l : List Nat) : ∀ (n : Nat) (acc : List Nat), ((List.replicate n l.toArray).foldl (· ++ ·) acc.toArray).toList = acc ++ (List.replicate n l).flatten
  | 0, acc => by simp
  | n + 1, acc => by
    rw [List.replicate_succ, List.foldl_cons]
    have e : acc.toArray ++ l.toArray = (acc ++ l).toArray := by simp
    rw [e, foldl_app l n (acc ++ l), List.replicate_succ, List.flatten_cons, List.append_assoc]
theorem txt_mul (l : List Nat) (n : Nat) : Txt.mul (mk l) (n : Int) = mk (reps n l) := by
  unfold Txt.mul
  by_cases h1 : (n : Int) < 1
  · rw [if_pos h1]
    have e : n = 0 := by omega
    subst e
    rfl
  · rw [if_neg h1]
    by_cases h2 : ((n : Int) == 1 || (mk l).length == 0) = true
    · rw [if_pos h2]
      rcases Bool.or_eq_true _ _ ▸ h2 with h | h
      · have e : n = 1 := by have := eq_of_beq h; omega
        subst e
        simp [reps]
      · have e : (mk l).length = 0 := eq_of_beq h
        rw [mk_len] at e
        have e2 : l = [] := List.eq_nil_of_length_eq_zero e
        subst e2
        have z : reps n [] = [] := by simp [reps]
        rw [z]
    · rw [if_neg h2]
      refine TL.ext_tl ?_
      have := foldl_app l n []
      simpa [TL.tl, mk, reps] using this
theorem mulOk_of {l : List Nat} {n : Nat} (h : l.length * n ≤ 1000000) (hn : n ≤ 1000000) : MulOk (mk l) (n : Int) := by
  refine ⟨?_, fun h1 h2 => ?_, fun h1 h2 => ?_⟩
  · have a : ¬ (n : Int) < -(2 ^ 63) := by omega
    have b : ¬ (n : Int) ≥ 2 ^ 63 := by omega
    rw [decide_eq_false a, decide_eq_false b]; rfl
  · rw [mk_len]
    intro h3
    have hpos : (0 : Int) < n := by omega
    have h4 : (l.length : Int) * n ≤ 1000000 := by
      rw [← Int.natCast_mul]
      exact Int.ofNat_le.mpr h
    have h5 : ((2 : Int) ^ 63 - 1) / n + 1 ≤ l.length := h3
    have h6 := Int.lt_ediv_add_one_mul_self ((2 : Int) ^ 63 - 1) hpos
    have h7 : (((2 : Int) ^ 63 - 1) / n + 1) * n ≤ (l.length : Int) * n := Int.mul_le_mul_of_nonneg_right h5 (by omega)
    omega
  · rw [mk_len]
    show decide _ = false
    refine decide_eq_false ?_
    rw [Int.toNat_natCast]
    have : sizeLine = 16777216 := sizeLine_eq
    omega
section
variable {X : Cx}
/-- text * int -/
theorem op_mulS : OpR X (binaryOp .Mult) (fun x y H Q => ∃ (l : List Nat) (n : Nat), x = .str (mk l) ∧ y = .int (n : Nat) ∧ (l.length * n ≤ 1000000 ∧ n ≤ 1000000) ∧ Q (.str (mk (reps n l))) H) := by
  intro pins s σ H x y v u Q I rx ry h
  obtain ⟨l, n, rfl, rfl, hz, q⟩ := h
  obtain ⟨t, rfl⟩ := rx
  obtain ⟨t', rfl⟩ := ry
  refine SB.mul (mulOk_of hz.1 hz.2) fun t2 k => ⟨.str (mk (reps n l)), H, I.tok _, ⟨t2, ?_⟩, q⟩
  rw [txt_mul]
/-- a power of a great int -/
def CPowW (i j : Int) : Prop := 0 ≤ j ∧ j ≤ 1000 ∧ i.natAbs.log2 < 10000
theorem op_powW : OpR X (binaryOp .Pow) (rI CPowW fun i j => .int (i ^ j.toNat)) := opI fun i j _ _ _ _ _ hc q => by
  refine pow_int hc.1 ?_ q
  have b : Builtin.Int.intBits i ≤ i.natAbs.log2 + 1 := by
    unfold Builtin.Int.intBits
    split <;> omega
  have h1 := hc.2.2
  have h2 : (Builtin.Int.intBits i : Int) ≤ 10000 := by omega
  have h3 : (Builtin.Int.intBits i : Int) * j ≤ 10000 * 1000 := Int.mul_le_mul h2 hc.2.1 hc.1 (by decide)
  omega
end
end Tw

set_option Elab.async false
set_option linter.all false
set_option maxRecDepth 100000
set_option maxHeartbeats 2000000
namespace Tw
open PySem PySem.Spec PyProof.Rows L2

/-! repr of data, where it is known that no repr runs around -/
theorem call_reprD {X : Cx} (hg : X.A.guards = some []) (hu : X.A.units + 64 < cLine) :
    CallR X (.builtin "repr") (fun xs H Q => ∃ (p : Addr) (d : PyData), xs = [V.ref p] ∧ Dp X.K H (V.ref p) d ∧ d.showable = true ∧ d.hasDict = false ∧ d.depth ≤ 50 ∧ d.shown.length ≤ sizeLine ∧ Q (V.str d.shown) H) := by
  intro pins s σ H xs us Q I r h
  obtain ⟨p, d, rfl, hd, h1, h2, h3, h4, q⟩ := h
  obtain ⟨u, rfl, ru⟩ := vals1 r
  obtain ⟨as, rd⟩ := Dp.reads I d _ _ hd ru
  obtain rfl : u = Value.ref p := ru
  exact repr_of_reads' rd h1 (PyData.noDict_hsm h2) hg (by omega) (fun _ _ e => e) (fun h' u2 tk hk => ⟨V.str d.shown, H, I.kept hk, ⟨u2, rfl⟩, q⟩) h4

/-! a def called from outside, at one stack that is known -/
def RunA (P : Program) (w : World) (K : PySem.W.Frag) (mg : Str → Option Value) (base : Heap) (CX : CXT) (A : Around) (f : Addr) (fd : FuncData) (ps : List Str) (sp : Sp) : Prop :=
  ∀ (s : Shared) (H : Hp) (args : Args) (us : List Value) (vs : List V) (Q : VK) (E : XK), Env0 P w K mg base A [] s H → BindsTo s fd args (ps.zip us) → Vals vs us → sp vs H Q E →
    codeAny (model P w) A (.call (.ref f) args) (CR CX [] P w H s Q E) s
section
variable {P : Program} {w : World} {K : PySem.W.Frag} {mg : Str → Option Value} {base : Heap} {CX : CXT} {A : Around}
theorem runA_of {x qual : Str} {st : Stmt} {f : Addr} {fd : FuncData} {N ps : List Str} {k : Nat} {sp : Sp} (F : Fun K x qual st f fd) (S : FnScope N ps (defScope st)) (hr : Room (k + 1) A)
    (len : ∀ vs H Q E, sp vs H Q E → vs.length = ps.length)
    (hbody : ∀ (cdv : Value) (s : Shared) (H : Hp) (vs : List V) (Q : VK) (E : XK), Room k (A.deeper (envOfC qual (defScope st) s.heap.objs.size f cdv)) → sp vs H Q E →
      ∃ t, PSs (cxOf CX P w K mg base N qual (defScope st) f cdv A [] s H E) (defBody st) t ∧ t { nx := fun _ H' => Q .non H', rt := Q } (start N vs) H) : RunA P w K mg base CX A f fd ps sp := by
  obtain ⟨oc, od, kV, doc, pm, an, cdv, ct, osl, rfl, lk, hcd⟩ := F.ex
  intro s H args us vs Q E e0 hb rv hsp
  have all : ∀ b o, base.get? b = some o → s.heap.get? b = some o := fun b o e => (e0.bs b o e).1
  have KX : K.In s.heap := e0.mod.kin.keeps all
  have par : ∀ y ∈ ps.zip us, (defScope st).names.lookup y.1 = some .local ∨ ((defScope st).names.lookup y.1 = some .cell ∧ ((cellsFrom (s.heap.objs.size + 1) (defScope st).names []).lookup y.1).isSome = true) := by
    rintro ⟨n, v⟩ hy
    exact (S.par n (List.of_mem_zip hy).1).imp id fun q => ⟨q, PySem.W.cellsFrom_some _ _ _ (.inl q)⟩
  refine codeAny_call_function hr.depth (KX _ _ lk) rfl S.co S.gen rfl (PySem.W.codeRec_of KX hcd) (hb _ _ _ _ ?_)
  refine wpAny_newFunctionEnv_cells S.kind par fun env he s1 x => ?_
  subst he
  refine ⟨(e0.mod.nolimit.keeps all).keeps x.toInCall.keep, codeAny_func ?_⟩
  obtain ⟨t, ht, hq⟩ := hbody cdv s H vs Q E (hr.deeper _) hsp
  refine wpAny_mono (ht.run [] s1 (start N vs) H _ (inv_start S hr.hd e0 (len _ _ _ _ hsp) rv x) hq) (fun fl s' hs => ?_) fun _ _ hs => hs
  cases fl with
  | ret u =>
    obtain ⟨v, σ', H', J, rv', q⟩ := hs
    exact ⟨v, H', J.os, J.bare, J.base, J.hok, rv', q⟩
  | next =>
    obtain ⟨σ', H', J, q⟩ := hs
    exact ⟨V.non, H', J.os, J.bare, J.base, J.hok, rfl, q⟩
  | brk =>
    obtain ⟨_, _, _, q⟩ := hs
    exact q.elim
  | cont =>
    obtain ⟨_, _, _, q⟩ := hs
    exact q.elim
/-- the law's call -/
theorem law_callA {mb : Str → Option Value} {fa a : Addr} {fd : FuncData} {x : Str} {sp : Sp} {s₁ : Shared} {vs : List Value} {ns : List Int}
    (KX : K.In s₁.heap) (hns : s₁.heap.Ns mainGlobals mg) (hb : s₁.heap.Ns builtinsNs mb) (hbb : ∀ x : Str, x ≠ "__name__" → mb x = bootBuiltins x) (hlim : s₁.heap.NoLimit) (hg : s₁.gens = #[])
    (ha : s₁.heap.get? a = some { cls := .type "list", data := .seq vs.toArray }) (hi : IntsAre vs ns) (hl : ns.length ≤ sizeLine)
    (F : ∀ base : Heap, K.In base → base.Ns mainGlobals mg → RunA P w K mg base CX callerA fa fd [x] sp) (hbind : ∀ (s : Shared) (u : Value), BindsTo s fd ⟨[u], []⟩ [(x, u)])
    (hsp : ∀ H : Hp, Only H → SqL K H a (ns.map V.int) → sp [.ref a] H (fun v _ => v = .bl true) fun _ _ _ => False)
    (hCX : ∀ H e s', CX [] H s₁ (fun _ _ _ => False) e s' → False) :
    codeAny (model P w) callerA (.call (.ref fa) ⟨[.ref a], []⟩) (fun r s' => r = .ok (.ret (.bool true)) ∧ OldK s₁.heap s'.heap ∧ s'.os = s₁.os ∧ AllBare s'.gens) s₁ := by
  have rv := vals_ints hi
  have lv := hi.length
  -- the abstract heap: the script alone, if it is no object of the written part
  have main : ∀ H : Hp, (∀ b u, H b = some u → b = a ∧ u = .frz { cls := .type "list", data := .seq vs.toArray } (.lst (ns.map V.int)) ∧ K.lookup a = none) → SqL K H a (ns.map V.int) →
      codeAny (model P w) callerA (.call (.ref fa) ⟨[.ref a], []⟩) (fun r s' => r = .ok (.ret (.bool true)) ∧ OldK s₁.heap s'.heap ∧ s'.os = s₁.os ∧ AllBare s'.gens) s₁ := by
    intro H hH hS
    have only : Only H := fun b => by
      cases q : H b with
      | none => exact .inl rfl
      | some u => exact .inr ⟨_, _, by rw [(hH b u q).2.1]⟩
    have hok : HOk P w H s₁.heap := fun b u q => by
      obtain ⟨rfl, rfl, _⟩ := hH b u q
      exact ⟨ha, by rw [List.length_map]; exact hl, vs, _, rv, ha⟩
    -- what stands apart from the script stands in the base
    have apart : ∀ b o, s₁.heap.get? b = some o → (b = a → K.lookup a ≠ none ∨ False) → H b = none := fun b o e h => by
      cases q : H b with
      | none => rfl
      | some u =>
        obtain ⟨e1, _, e3⟩ := hH b u q
        exact absurd e3 ((h e1).elim id False.elim)
    have nsB : ∀ {b : Addr} {m : Str → Option Value}, s₁.heap.Ns b m → (hidT s₁.heap H).Ns b m := by
      rintro b m ⟨o, es, ep, e, d, r⟩
      refine ⟨o, es, ep, hidT_get e ?_, d, r⟩
      cases q : H b with
      | none => rfl
      | some u =>
        rw [(hH b u q).1, ha] at e
        cases e
        exact Data.noConfusion d
    have kB : K.In (hidT s₁.heap H) := fun b o e => hidT_get (KX b o e) (by
      cases q : H b with
      | none => rfl
      | some u =>
        obtain ⟨e1, _, e3⟩ := hH b u q
        rw [e1, e3] at e
        cases e)
    obtain ⟨mc, c1, c2⟩ := hlim
    have e0 : Env0 P w K mg (hidT s₁.heap H) callerA [] s₁ H :=
      ⟨rfl, ⟨kB, nsB hns, ⟨mb, nsB hb, hbb⟩, ⟨mc, nsB c1, c2⟩⟩, fun b o e => of_hidT e, Nat.le_of_eq (hidT_size _ _), trivial, fun b hb => absurd hb (by intro z; cases z), hok, .of_eq hg⟩
    refine codeAny_mono (F _ kB (nsB hns) s₁ H ⟨[.ref a], []⟩ [.ref a] [.ref a] _ _ e0 (hbind s₁ (.ref a)) (.cons rfl .nil) (hsp H only hS)) fun r s' h => ?_
    match r, h with
    | .error e, h => exact (hCX H e s' h).elim
    | .ok .next, h => exact False.elim h
    | .ok .brk, h => exact False.elim h
    | .ok .cont, h => exact False.elim h
    | .ok (.ret u), h =>
      obtain ⟨v, H', os, bare, un, hok', r', q⟩ := h
      have q' : v = V.bl true := q
      rw [q'] at r'
      have eu : u = Value.bool true := r'
      rw [eu]
      refine ⟨rfl, OldK.of_keep fun b o e => ?_, os, bare⟩
      cases q2 : H b with
      | none => exact un.keep b o e q2 (by intro z; cases z) (by intro z; cases z)
      | some u2 =>
        obtain ⟨e1, e2, _⟩ := hH b u2 q2
        rw [e2] at q2
        have t2 := (hok' b _ (un.frzs b _ _ q2)).1
        rw [e1] at e t2 ⊢
        rw [ha] at e
        rw [← e]
        exact t2
  cases hk : K.lookup a with
  | some o =>
    have e := KX a o hk
    rw [ha] at e
    cases e
    exact main (fun _ => none) (fun b u z => nomatch z) (.inr ⟨_, vs.toArray, _, hk, rfl, rfl, rfl, by rw [List.size_toArray, lv]; exact hl, by simpa using rv⟩)
  | none =>
    refine main (fun b => if b = a then some (.frz { cls := .type "list", data := .seq vs.toArray } (.lst (ns.map V.int))) else none) (fun b u z => ?_) (.inl (.inr ⟨_, if_pos rfl⟩))
    by_cases hb : b = a
    · have z' := (if_pos hb).symm.trans z
      exact ⟨hb, (Option.some.inj z').symm, hk⟩
    · have z' := (if_neg hb).symm.trans z
      cases z'
end
theorem walkA_of {l : PySem.W.OpenLaw} {n : Nat} {q : Program} {loose : List Str} {XP : (Str → Option Value) → Heap → Prop} {YP : World → Heap → Prop} {d : DefRec} {K : Params → PySem.W.Frag} {sp : World → Sp} {x : Str}
    (hn : l.most = some n) (hn2 : n ≤ sizeLine) (hdf : d.params.defaults = [])
    (hY : ∀ (w : World) (h : Heap), YP w h → (K w.params).In h)
    (F : ∀ (w : World) (mg : Str → Option Value) (fa : Addr) (h : Heap), (K w.params).In h → h.Ns mainGlobals mg → mg d.name = some (.ref fa) →
      ∃ fd : FuncData, (∀ (s : Shared) (u : Value), BindsTo s fd ⟨[u], []⟩ [(x, u)]) ∧
        ∀ base : Heap, (K w.params).In base → base.Ns mainGlobals mg → RunA l.prog w (K w.params) mg base CX0 callerA fa fd [x] (sp w))
    (hsp : ∀ (w : World) (H : Hp) (a : Addr) (ns : List Int), ns.length ≤ n → Only H → SqL (K w.params) H a (ns.map V.int) → sp w [.ref a] H (fun v _ => v = .bl true) fun _ _ _ => False) :
    PySem.W.WalkO q loose XP YP l.row.toRowW d [] (fun f vs => PySem.call f vs) := by
  refine Att.attach_call hn hdf fun w s₀ s₁ mg mb fa o pm cd doc a vs ns G Y ho hd hcd hmg hobj hints hlen hg => ?_
  have KX := hY w _ Y
  obtain ⟨fd, hb, hF⟩ := F w mg fa _ KX G.T.g hmg
  exact law_callA KX G.T.g G.T.b G.T.builtins G.T.nolimit hg hobj hints (Nat.le_trans hlen hn2) hF hb (fun H hO hS => hsp w H a ns hlen hO hS) fun _ _ _ h => h
end Tw

set_option Elab.async false
set_option linter.all false
set_option maxRecDepth 100000
set_option maxHeartbeats 2000000
namespace Tw
open PySem PySem.Spec PyProof.Rows L2
/-! a call by keywords alone -/
section
variable {X : Cx} {CX : CXT} {k : Nat} {f : Addr} {fd : FuncData} {ps ks : List Str} {sp : Sp} {E : XK} {x : Str} {p pos : Pos} {kws : List Keyword} {tk : TA} {g : List Value → List Value → List Value} {gV : List V → List V → List V}
theorem pe_callK0 (F : FnOk X.prog X.w X.K X.mg X.base CX k f fd ps sp) (hr : Room k X.A) (hg : Gl X x) (hm : X.mg x = some (.ref f)) (hk : PySem.W.keepIn X.K (.ref f) = true)
    (hb : KBinds X.K fd ps ks g gV) (hx : Passes CX X E) (hkw : PK X kws tk)
    (hall : (backToKw pos (keywordEach kws X.env)).all (·.1.isSome) = true := by rfl)
    (hks : (backToKw pos (keywordEach kws X.env)).filterMap (·.1) = ks := by rfl)
    (hdb : (x == ("__debug__" : Str)) = false := by decide)
    (hpl : ((backTo pos (starEach [] X.env)).any (·.1) || (backToKw pos (keywordEach kws X.env)).any (·.1.isNone)) = false := by rfl) :
    PE X (.Call (.Name x p) [] kws pos) (fun σ H Q => tk σ H fun zs H2 => sp (gV [] zs) H2 Q E) := by
  refine ⟨fun pins s σ H Q I h => wpAny_Call_Name_kw (ld_glob I hg hm ?_ hdb)⟩
  refine PySem.W.callWith_KW0 (h₀ := X.base) I.ok.mod.kin hk hall (thn (hkw.run pos pins s σ H _ I h) ?_) hpl
  rintro ws s2 ⟨zs, H2, I2, rz, q⟩
  refine ⟨I2.kIn, ?_⟩
  rw [hks]
  exact run_fnk (us := []) (vs := []) F hr hb hx I2 .nil rz q
end
theorem fun_kbinds {K : PySem.W.Frag} {x qual : Str} {st : Stmt} {f : Addr} {fd : FuncData} {ps ks : List Str} {g : List Value → List Value → List Value} {gV : List V → List V → List V} (F : Fun K x qual st f fd)
    (h : ∀ (kV doc pm : Value) (an : Option Addr) (cdv ct : Value) (us ws : List Value), (g us ws).length = ps.length → bindArgs (PySem.W.fnOf x qual (defArgs st) (defBody st) (defScope st) .none kV doc pm an cdv ct) ⟨us, ks.zip ws⟩ = pure (ps.zip (g us ws)))
    (rel : ∀ {vs : List V} {us : List Value} {zs : List V} {ws : List Value}, Vals vs us → Vals zs ws → Vals (gV vs zs) (g us ws)) : KBinds K fd ps ks g gV := by
  obtain ⟨oc, od, kV, doc, pm, an, cdv, ct, osl, rfl, lk, hcd⟩ := F.ex
  exact ⟨fun s us ws _ hl => .of_eq (h kV doc pm an cdv ct us ws hl), rel⟩
theorem vals_rev {zs : List V} {ws : List Value} (h : Vals zs ws) : Vals zs.reverse ws.reverse := by
  induction h with
  | nil => exact .nil
  | cons r t ih =>
    rw [List.reverse_cons, List.reverse_cons]
    exact Vals.append ih (.cons r .nil)

/-! how long a text repr makes -/
theorem textFrom_le : ∀ (ts : List Str) (k : Nat) (acc : Str), (textFrom k acc ts).length ≤ acc.length + piled ts
  | [], _, acc => by
    show acc.length ≤ _
    omega
  | t :: r, k, acc => by
    have ih := textFrom_le r (k + 1) (acc ++ (if k > 0 then ", " else "" : String) ++ t)
    have e : (((if k > 0 then ", " else "" : String) : Str)).length ≤ 2 := by split <;> decide
    rw [piled_cons]
    rw [strLen_append, strLen_append] at ih
    have h : (textFrom k acc (t :: r)) = textFrom (k + 1) (acc ++ (if k > 0 then ", " else "" : String) ++ t) r := rfl
    rw [h]
    omega
theorem listText_le (ts : List Str) : (listText ts).length ≤ 2 + piled ts := by
  unfold listText
  rw [strLen_append]
  have h := textFrom_le ts 0 "["
  have e1 : (("[" : String) : Str).length = 1 := by decide
  have e2 : (("]" : String) : Str).length = 1 := by decide
  rw [e1] at h
  rw [e2]
  omega
theorem join_le (ts : List Str) : (Str.join ", " ts).length ≤ piled ts := by
  cases ts with
  | nil => exact Nat.zero_le _
  | cons t r =>
    have := join_length_add (t :: r) (by simp)
    omega
theorem tupleText_le (ts : List Str) : (tupleText ts).length ≤ 3 + piled ts := by
  unfold tupleText
  rw [strLen_append, strLen_append]
  have h := join_le ts
  have e1 : (("(" : String) : Str).length = 1 := by decide
  have e3 : (((if ts.length == 1 then ",)" else ")" : String) : Str)).length ≤ 2 := by split <;> decide
  rw [e1]
  omega
end Tw

set_option linter.all false
namespace Tw
/-! the mathematics of runs: plain Lean -/
/-- the runs of c repeated n times (so far) and then l -/
def runsFrom (c n : Nat) : List Nat → List (Nat × Nat)
  | [] => [(c, n)]
  | d :: r => if d = c then runsFrom c (n + 1) r else (c, n) :: runsFrom d 1 r
def runs : List Nat → List (Nat × Nat)
  | [] => []
  | c :: r => runsFrom c 1 r
/-- one more letter behind the runs so far -/
def addRun (rs : List (Nat × Nat)) (d : Nat) : List (Nat × Nat) :=
  match rs.getLast? with
  | some (c, n) => if c = d then rs.dropLast ++ [(d, n + 1)] else rs ++ [(d, 1)]
  | none => [(d, 1)]
theorem addRun_snoc (acc : List (Nat × Nat)) (c n d : Nat) : addRun (acc ++ [(c, n)]) d = if c = d then acc ++ [(d, n + 1)] else acc ++ [(c, n)] ++ [(d, 1)] := by
  simp [addRun]
theorem foldl_addRun : ∀ (l : List Nat) (acc : List (Nat × Nat)) (c n : Nat), l.foldl addRun (acc ++ [(c, n)]) = acc ++ runsFrom c n l
  | [], acc, c, n => rfl
  | d :: r, acc, c, n => by
    rw [List.foldl_cons, addRun_snoc, runsFrom]
    by_cases h : d = c
    · subst h
      rw [if_pos rfl, if_pos rfl]
      exact foldl_addRun r acc d (n + 1)
    · rw [if_neg (Ne.symm h), if_neg h]
      rw [foldl_addRun r (acc ++ [(c, n)]) d 1, List.append_assoc]
      rfl
theorem runs_foldl (l : List Nat) : l.foldl addRun [] = runs l := by
  cases l with
  | nil => rfl
  | cons c r => exact foldl_addRun r [] c 1
theorem runs_take {l : List Nat} {i c : Nat} (h : l[i]? = some c) : runs (l.take (i + 1)) = addRun (runs (l.take i)) c := by
  have e : l.take (i + 1) = l.take i ++ [c] := by
    rw [List.take_add_one, h]; rfl
  rw [← runs_foldl, ← runs_foldl, e, List.foldl_append]
  rfl
/-- what is kept of the runs: t is true for the sieve T -/
def keepRun (t : Bool) (p : Nat × Nat) : Bool := if t then decide (1 < p.2) else decide (p.2 = 1)
def kept (t : Bool) (rs : List (Nat × Nat)) : List Nat := (rs.filter (keepRun t)).map Prod.fst
def once (t : Bool) (l : List Nat) : List Nat := kept t (runs l)
/-- the same place by place: b tells if the one before is the same -/
def pend (t : Bool) : Bool → Nat → List Nat → List Nat
  | b, c, [] => if b = t then [c] else []
  | b, c, d :: r => if d = c then pend t true c r else (if b = t then [c] else []) ++ pend t false d r
theorem kept_cons (t : Bool) (p : Nat × Nat) (rs : List (Nat × Nat)) : kept t (p :: rs) = (if keepRun t p = true then [p.1] else []) ++ kept t rs := by
  unfold kept
  rw [List.filter_cons]
  split <;> simp
theorem keepRun_is (t : Bool) (c n : Nat) (hn : 1 ≤ n) : (keepRun t (c, n) = true) = (decide (2 ≤ n) = t) := by
  unfold keepRun
  cases t
  · by_cases h : n = 1
    · subst h; simp
    · have : 2 ≤ n := by omega
      simp [h, this]
  · by_cases h : 2 ≤ n
    · have : 1 < n := h
      simp [this, h]
    · have : ¬ 1 < n := h
      simp [this, h]
theorem kept_from (t : Bool) : ∀ (l : List Nat) (c n : Nat), 1 ≤ n → kept t (runsFrom c n l) = pend t (decide (2 ≤ n)) c l
  | [], c, n, hn => by
    have e := keepRun_is t c n hn
    rw [runsFrom, kept_cons, pend]
    simp only [e]
    simp [kept]
  | d :: r, c, n, hn => by
    rw [runsFrom, pend]
    by_cases h : d = c
    · subst h
      rw [if_pos rfl, if_pos rfl, kept_from t r d (n + 1) (by omega)]
      have : 2 ≤ n + 1 := by omega
      rw [decide_eq_true this]
    · have e := keepRun_is t c n hn
      rw [if_neg h, if_neg h, kept_cons, kept_from t r d 1 (by omega)]
      simp only [e]
      rfl
theorem once_cons (t : Bool) (c : Nat) (r : List Nat) : once t (c :: r) = pend t false c r := kept_from t r c 1 (by omega)
/-- the letter at i is kept, judged by its neighbours -/
def before (l : List Nat) (i : Nat) : Bool := decide (0 < i) && decide (l[i - 1]? = l[i]?)
def behind (l : List Nat) (i : Nat) : Bool := decide (i + 1 < l.length) && decide (l[i + 1]? = l[i]?)
def keepAt (t : Bool) (l : List Nat) (i : Nat) : Bool := (before l i == t) && !behind l i
def upTo (t : Bool) (l : List Nat) : Nat → List Nat
  | 0 => []
  | i + 1 => upTo t l i ++ (if keepAt t l i = true then [l.getD i 0] else [])
theorem upTo_rest (t : Bool) (l : List Nat) : ∀ (m i : Nat), i + m = l.length → upTo t l l.length = upTo t l i ++ (match l.drop i with | [] => [] | c :: r => pend t (before l i) c r)
  | 0, i, h => by
    have e : i = l.length := by omega
    subst e
    simp
  | m + 1, i, h => by
    have hi : i < l.length := by omega
    have hd : l.drop i = l[i] :: l.drop (i + 1) := List.drop_eq_getElem_cons hi
    have ih := upTo_rest t l m (i + 1) (by omega)
    rw [ih, upTo, List.append_assoc]
    congr 1
    rw [hd]
    have gi : l[i]? = some l[i] := List.getElem?_eq_getElem hi
    have gd : l.getD i 0 = l[i] := by simp [List.getD, gi]
    by_cases h2 : i + 1 < l.length
    · have hd2 : l.drop (i + 1) = l[i + 1] :: l.drop (i + 2) := List.drop_eq_getElem_cons h2
      have gi2 : l[i + 1]? = some l[i + 1] := List.getElem?_eq_getElem h2
      rw [hd2]
      simp only [pend]
      have bn : before l (i + 1) = decide (l[i] = l[i + 1]) := by
        unfold before
        simp [gi, gi2]
      have bh : behind l i = decide (l[i + 1] = l[i]) := by
        unfold behind
        simp [gi, gi2, h2]
      by_cases hc : l[i + 1] = l[i]
      · rw [if_pos hc]
        have k : keepAt t l i = false := by unfold keepAt; rw [bh, decide_eq_true hc]; simp
        rw [k, bn, decide_eq_true hc.symm, hc]
        simp
      · rw [if_neg hc]
        have k : keepAt t l i = (before l i == t) := by unfold keepAt; rw [bh, decide_eq_false hc]; simp
        rw [k, bn, decide_eq_false (Ne.symm hc), gd]
        simp
    · have hd2 : l.drop (i + 1) = [] := List.drop_eq_nil_of_le (by omega)
      rw [hd2]
      have bh : behind l i = false := by unfold behind; simp [h2]
      have k : keepAt t l i = (before l i == t) := by unfold keepAt; rw [bh]; simp
      simp only [pend]
      rw [k, gd]
      simp
theorem once_upTo (t : Bool) (l : List Nat) : upTo t l l.length = once t l := by
  cases l with
  | nil => rfl
  | cons c r =>
    have h := upTo_rest t (c :: r) (c :: r).length 0 (by simp)
    rw [h, once_cons]
    simp [upTo, before]
/-- pairs, counted place by place -/
def pairsUp (l : List Nat) : Nat → Nat
  | 0 => 0
  | i + 1 => pairsUp l i + (if l[i]? = l[i + 1]? then 1 else 0)
def pairs (l : List Nat) : Nat := pairsUp l (l.length - 1)
def pairsR : List Nat → Nat
  | c :: d :: r => (if c = d then 1 else 0) + pairsR (d :: r)
  | _ => 0
theorem pairsUp_cons (c : Nat) (l : List Nat) : ∀ i, pairsUp (c :: l) (i + 1) = (if some c = l[0]? then 1 else 0) + pairsUp l i
  | 0 => by simp [pairsUp]
  | i + 1 => by
    rw [pairsUp, pairsUp_cons c l i, pairsUp]
    simp only [List.getElem?_cons_succ]
    omega
theorem pairs_R : ∀ l : List Nat, pairs l = pairsR l
  | [] => rfl
  | [_] => rfl
  | c :: d :: r => by
    have ih := pairs_R (d :: r)
    unfold pairs at ih ⊢
    show pairsUp (c :: d :: r) (r.length + 1) = _
    rw [pairsUp_cons c (d :: r) r.length, pairsR, ← ih]
    have e : (some c = (d :: r)[0]?) = (c = d) := by simp
    simp only [e]
    rfl
theorem runsFrom_len : ∀ (l : List Nat) (c n : Nat), (runsFrom c n l).length + pairsR (c :: l) = l.length + 1
  | [], c, n => rfl
  | d :: r, c, n => by
    rw [runsFrom, pairsR]
    by_cases h : d = c
    · subst h
      rw [if_pos rfl, if_pos rfl]
      have := runsFrom_len r d (n + 1)
      simp only [List.length_cons]
      omega
    · rw [if_neg h, if_neg (Ne.symm h)]
      have := runsFrom_len r d 1
      simp only [List.length_cons]
      omega
theorem runs_len (l : List Nat) : (runs l).length + pairs l = l.length := by
  rw [pairs_R]
  cases l with
  | nil => rfl
  | cons c r => exact runsFrom_len r c 1
theorem runsFrom_pos : ∀ (l : List Nat) (c n : Nat), 1 ≤ n → ∀ p ∈ runsFrom c n l, 1 ≤ p.2
  | [], c, n, hn => by simp [runsFrom, hn]
  | d :: r, c, n, hn => by
    rw [runsFrom]
    split
    · exact runsFrom_pos r c (n + 1) (by omega)
    · intro p hp
      rcases List.mem_cons.mp hp with rfl | hp
      · exact hn
      · exact runsFrom_pos r d 1 (by omega) p hp
theorem runs_pos (l : List Nat) : ∀ p ∈ runs l, 1 ≤ p.2 := by
  cases l with
  | nil => simp [runs]
  | cons c r => exact runsFrom_pos r c 1 (by omega)
theorem kept_both : ∀ rs : List (Nat × Nat), (∀ p ∈ rs, 1 ≤ p.2) → (kept true rs).length + (kept false rs).length = rs.length
  | [], _ => rfl
  | p :: rs, h => by
    have ih := kept_both rs fun q hq => h q (List.mem_cons_of_mem _ hq)
    have hp := h p List.mem_cons_self
    rw [kept_cons, kept_cons]
    simp only [List.length_append, List.length_cons]
    have e1 := keepRun_is true p.1 p.2 hp
    have e2 := keepRun_is false p.1 p.2 hp
    by_cases c : 2 ≤ p.2
    · simp [e1, e2, c]; omega
    · simp [e1, e2, c]; omega
theorem once_both (l : List Nat) : (once true l).length + (once false l).length = l.length - pairs l := by
  have h1 := kept_both (runs l) (runs_pos l)
  have h2 := runs_len l
  unfold once
  omega
/-- letters of what is kept are letters of the row -/
theorem runsFrom_mem : ∀ (l : List Nat) (c n : Nat), ∀ p ∈ runsFrom c n l, p.1 ∈ c :: l
  | [], c, n => by simp [runsFrom]
  | d :: r, c, n => by
    rw [runsFrom]
    split
    · rename_i h
      intro p hp
      have := runsFrom_mem r c (n + 1) p hp
      rcases List.mem_cons.mp this with h | h
      · rw [h]; exact List.mem_cons_self
      · exact List.mem_cons_of_mem _ (List.mem_cons_of_mem _ h)
    · intro p hp
      rcases List.mem_cons.mp hp with rfl | hp
      · exact List.mem_cons_self
      · exact List.mem_cons_of_mem _ (runsFrom_mem r d 1 p hp)
theorem runs_mem (l : List Nat) : ∀ p ∈ runs l, p.1 ∈ l := by
  cases l with
  | nil => simp [runs]
  | cons c r => exact runsFrom_mem r c 1
theorem once_mem {t : Bool} {l : List Nat} {c : Nat} (h : c ∈ once t l) : c ∈ l := by
  obtain ⟨p, hp, rfl⟩ := List.mem_map.mp h
  exact runs_mem l p (List.mem_filter.mp hp).1
theorem runs_le (l : List Nat) : (runs l).length ≤ l.length := by have := runs_len l; omega
theorem kept_le (t : Bool) (rs : List (Nat × Nat)) : (kept t rs).length ≤ rs.length := by
  unfold kept
  rw [List.length_map]
  exact List.length_filter_le _ _
theorem once_le (t : Bool) (l : List Nat) : (once t l).length ≤ l.length := Nat.le_trans (kept_le t _) (runs_le l)
theorem kept_append (t : Bool) (a b : List (Nat × Nat)) : kept t (a ++ b) = kept t a ++ kept t b := by simp [kept]
end Tw

set_option Elab.async false
set_option linter.all false
set_option maxRecDepth 100000
set_option maxHeartbeats 2000000
namespace Tw
open PySem PySem.Spec PyProof.Rows L2
def topS (i : Nat) : Stmt := PySem.Challenge.pw_twinsieve_k02_runs_and_sizes.main.body.getD i (.Pass ⟨0, 0, 0, 0⟩)
abbrev sChkRow : Stmt := topS 5
abbrev sChkPipe : Stmt := topS 6
abbrev sRuns : Stmt := topS 8
abbrev sOnce : Stmt := topS 9
abbrev sSize : Stmt := topS 10
abbrev sSieve : Stmt := topS 11

theorem ite_b {b : Bool} {c A B : Prop} [Decidable c] (e : b = decide c) (h1 : c → A) (h2 : ¬ c → B) : if b = true then A else B := by
  by_cases h : c
  · rw [e, decide_eq_true h, if_pos rfl]
    exact h1 h
  · rw [e, decide_eq_false h, if_neg Bool.false_ne_true]
    exact h2 h
theorem ixN_last {α : Type} (xs : List α) (n : Nat) (v : α) (h : xs.length = n) : ixN (xs ++ [v]).length (-1) = some n := by
  unfold ixN
  rw [if_neg (by decide), if_pos (by rw [List.length_append]; show -((xs.length + 1 : Nat) : Int) ≤ -1; omega), List.length_append]
  congr 1
  show ((-1 : Int) + ((xs.length + 1 : Nat) : Int)).toNat = n
  omega
theorem same_upd {H : Hp} {p : Addr} {o : HO} (h : H p = none) : Same H (upd H p o) := fun b x e => by
  rw [upd_ne (ne_of_none e h)]
  exact e
/-- only letters from a to z -/
def Low (l : List Nat) : Prop := ∀ c ∈ l, 97 ≤ c ∧ c ≤ 122
theorem sgn_at {l : List Nat} {i c : Nat} (h : l[i]? = some c) : sgn (mk l) i = V.str (mk [c]) := by
  have e : (mk l).cps.getD i 0 = c := by
    rw [Array.getD_eq_getD_getElem?]
    show (l.toArray[i]?).getD 0 = c
    rw [List.getElem?_toArray, h]
    rfl
  show V.str ⟨#[(mk l).cps.getD i 0]⟩ = V.str (mk [c])
  rw [e]
  rfl
theorem single_lt (a b : Nat) : (([a] : List Nat) < [b]) ↔ a < b := by
  rw [List.cons_lt_cons_iff]
  simp
theorem ge_a {c : Nat} (h : 97 ≤ c) : (!decide ((mk [c]).cps.toList < (Str.ofString "a").cps.toList)) = true := by
  have e : (Str.ofString "a").cps.toList = [97] := by decide +kernel
  have e2 : (mk [c]).cps.toList = [c] := rfl
  rw [e, e2]
  have : ¬ ([c] : List Nat) < [97] := fun z => by have := (single_lt _ _).mp z; omega
  rw [decide_eq_false this]; rfl
theorem le_z {c : Nat} (h : c ≤ 122) : (!decide ((Str.ofString "z").cps.toList < (mk [c]).cps.toList)) = true := by
  have e : (Str.ofString "z").cps.toList = [122] := by decide +kernel
  have e2 : (mk [c]).cps.toList = [c] := rfl
  rw [e, e2]
  have : ¬ ([122] : List Nat) < [c] := fun z => by have := (single_lt _ _).mp z; omega
  rw [decide_eq_false this]; rfl
theorem mk_size (l : List Nat) : (mk l).cps.size = l.length := by simp [mk]
section
variable {P : Program} {w : World} {K : PySem.W.Frag} {mg : Str → Option Value} {base : Heap}
theorem scCR : FnScope ["row", "index", "letter"] ["row"] (defScope sChkRow) := ⟨rfl, rfl, rfl, by decide +kernel, rfl, by decide +kernel, by decide +kernel⟩
def spChkRow : Sp := fun vs H Q _ => ∃ l : List Nat, vs = [.str (mk l)] ∧ Low l ∧ ∀ H', Same H H' → Q .non H'
theorem ok_chkRow {f : Addr} {fd : FuncData} {k : Nat} (F : Fun K "check_row" "check_row" sChkRow f fd) (me : mg "enumerate" = none) : FnOk P w K mg base CX0 (k + 1) f fd ["row"] spChkRow := by
  refine F.ok scCR (fun vs H Q E h => ?_) (fun cdv A outer s H vs Q E hr h => ?_)
  · obtain ⟨l, rfl, _⟩ := h
    rfl
  · obtain ⟨l, rfl, low, q⟩ := h
    refine ⟨_, pss_one (ps_for PassesOwn.never rfl (pi_enumS (by rfl) me (pa_cons (pv 0) pa_nil))
      (pg_tup rfl (pgs_cons (pg_name (i := 1) scCR.nd rfl (.inl rfl)) (pgs_cons (pg_name (i := 2) scCR.nd rfl (.inl rfl)) pgs_nil)))
      (pss_one (ps_if (pt_not (pt_chain op_le_str op_le_str pe_str (pv 2) pe_str)) (pss_one ps_never) pss_nil))), ?_⟩
    refine ⟨_, rfl, mk l, rfl, for_it walkP (fun i σ H' => ∃ y1 y2, σ = [some (.str (mk l)), y1, y2] ∧ Same H H') ⟨none, none, rfl, Same.refl H⟩ (fun _ _ _ _ _ => trivial) ?_ ?_⟩
    · rintro i x σ H1 H2 hi ⟨y1, y2, rfl, sm⟩ ⟨T, rfl, nT, rfl⟩
      rw [mk_size] at hi
      have gi : l[i]? = some l[i] := List.getElem?_eq_getElem hi
      have lw := low l[i] (List.getElem_mem hi)
      refine ⟨T, _, rfl, SqT.of upd_same, rfl, _, _, rfl, _, _, rfl, rfl, ?_⟩
      rw [sgn_at gi]
      refine ⟨_, rfl, _, _, rfl, rfl, _, rfl, ?_⟩
      rw [ge_a lw.1]
      refine iteT ⟨_, _, rfl, rfl, _, rfl, ?_⟩
      rw [le_z lw.2]
      exact iteF ⟨_, _, rfl, sm.trans (same_upd nT)⟩
    · rintro σ H1 ⟨y1, y2, rfl, sm⟩
      exact q H1 sm
/-- only T and S -/
def Pipe (p : List Nat) : Prop := ∀ c ∈ p, c = 84 ∨ c = 83
theorem scCP : FnScope ["pipeline", "index", "kind"] ["pipeline"] (defScope sChkPipe) := ⟨rfl, rfl, rfl, by decide +kernel, rfl, by decide +kernel, by decide +kernel⟩
def spChkPipe : Sp := fun vs H Q _ => ∃ l : List Nat, vs = [.str (mk l)] ∧ Pipe l ∧ ∀ H', Same H H' → Q .non H'
theorem str_T : (V.str "T") = V.str (mk [84]) := by decide +kernel
theorem str_S : (V.str "S") = V.str (mk [83]) := by decide +kernel
theorem eq_mk1 {a b : Nat} : (V.str (mk [a]) = V.str (mk [b])) ↔ a = b := by
  constructor
  · intro h
    have e := mk_inj.mp (V.str.inj h)
    exact List.head_eq_of_cons_eq e
  · intro h
    rw [h]
theorem ok_chkPipe {f : Addr} {fd : FuncData} {k : Nat} (F : Fun K "check_pipeline" "check_pipeline" sChkPipe f fd) (me : mg "enumerate" = none) : FnOk P w K mg base CX0 (k + 1) f fd ["pipeline"] spChkPipe := by
  refine F.ok scCP (fun vs H Q E h => ?_) (fun cdv A outer s H vs Q E hr h => ?_)
  · obtain ⟨l, rfl, _⟩ := h
    rfl
  · obtain ⟨l, rfl, low, q⟩ := h
    refine ⟨_, pss_one (ps_for PassesOwn.never rfl (pi_enumS (by rfl) me (pa_cons (pv 0) pa_nil))
      (pg_tup rfl (pgs_cons (pg_name (i := 1) scCP.nd rfl (.inl rfl)) (pgs_cons (pg_name (i := 2) scCP.nd rfl (.inl rfl)) pgs_nil)))
      (pss_one (ps_if (PW.pt (pw_and (pt_cmpR op_ne (pv 2) pe_str (nomark _)) (pw_and1 (pt_cmpR op_ne (pv 2) pe_str (nomark _))))) (pss_one ps_never) pss_nil))), ?_⟩
    refine ⟨_, rfl, mk l, rfl, for_it walkP (fun i σ H' => ∃ y1 y2, σ = [some (.str (mk l)), y1, y2] ∧ Same H H') ⟨none, none, rfl, Same.refl H⟩ (fun _ _ _ _ _ => trivial) ?_ ?_⟩
    · rintro i x σ H1 H2 hi ⟨y1, y2, rfl, sm⟩ ⟨T, rfl, nT, rfl⟩
      rw [mk_size] at hi
      have gi : l[i]? = some l[i] := List.getElem?_eq_getElem hi
      have lw := low l[i] (List.getElem_mem hi)
      refine ⟨T, _, rfl, SqT.of upd_same, rfl, _, _, rfl, _, _, rfl, rfl, ?_⟩
      rw [sgn_at gi]
      refine ⟨_, rfl, rfl, _, rfl, ?_⟩
      rw [str_T]
      rcases lw with e | e
      · rw [e]
        refine iteNS rfl ?_
        exact iteF ⟨_, _, rfl, sm.trans (same_upd nT)⟩
      · rw [e]
        have d : decide (V.str (mk [83]) = V.str (mk [84])) = false := decide_eq_false fun z => absurd (eq_mk1.mp z) (by decide)
        rw [d]
        refine iteT ⟨_, rfl, rfl, _, rfl, ?_⟩
        rw [str_S]
        refine iteNS rfl ?_
        exact ⟨_, _, rfl, sm.trans (same_upd nT)⟩
    · rintro σ H1 ⟨y1, y2, rfl, sm⟩
      exact q H1 sm
/-! runs_of -/
def tupOf (q : Nat × Nat) : HO := .tup [V.str (mk [q.1]), V.int (q.2 : Nat)]
def Pairs (H : Hp) : List Addr → List (Nat × Nat) → Prop
  | [], [] => True
  | a :: as, q :: rs => H a = some (tupOf q) ∧ Pairs H as rs
  | _, _ => False
theorem Pairs.snoc {H : Hp} : ∀ {as : List Addr} {rs : List (Nat × Nat)} {a : Addr} {q : Nat × Nat}, Pairs H as rs → H a = some (tupOf q) → Pairs H (as ++ [a]) (rs ++ [q])
  | [], [], _, _, _, h => ⟨h, trivial⟩
  | _ :: _, _ :: _, _, _, h, h2 => ⟨h.1, Pairs.snoc h.2 h2⟩
  | [], _ :: _, _, _, h, _ => h.elim
  | _ :: _, [], _, _, h, _ => h.elim
theorem Pairs.last {H : Hp} : ∀ {as : List Addr} {rs : List (Nat × Nat)} {q : Nat × Nat}, Pairs H as (rs ++ [q]) → ∃ as' a, as = as' ++ [a] ∧ Pairs H as' rs ∧ H a = some (tupOf q)
  | [], [], _, h => h.elim
  | [], _ :: _, _, h => h.elim
  | [a], [], q, h => ⟨[], a, rfl, trivial, h.1⟩
  | _ :: _ :: _, [], _, h => h.2.elim
  | b :: as, r :: rs, q, h => by
    obtain ⟨as', a, e, h1, h2⟩ := Pairs.last (as := as) (rs := rs) (q := q) h.2
    exact ⟨b :: as', a, by rw [e]; rfl, ⟨h.1, h1⟩, h2⟩
theorem Pairs.len {H : Hp} : ∀ {as : List Addr} {rs : List (Nat × Nat)}, Pairs H as rs → as.length = rs.length
  | [], [], _ => rfl
  | _ :: as, _ :: rs, h => by rw [List.length_cons, List.length_cons, Pairs.len h.2]
  | [], _ :: _, h => h.elim
  | _ :: _, [], h => h.elim
theorem Pairs.mono {H H' : Hp} : ∀ {as : List Addr} {rs : List (Nat × Nat)}, (∀ a q, H a = some (tupOf q) → H' a = some (tupOf q)) → Pairs H as rs → Pairs H' as rs
  | [], [], _, _ => trivial
  | _ :: as, _ :: rs, k, h => ⟨k _ _ h.1, Pairs.mono k h.2⟩
  | [], _ :: _, _, h => h.elim
  | _ :: _, [], _, h => h.elim
theorem Pairs.at {H : Hp} : ∀ {as : List Addr} {rs : List (Nat × Nat)} {j : Nat} {q : Nat × Nat}, Pairs H as rs → rs[j]? = some q → ∃ a, as[j]? = some a ∧ H a = some (tupOf q)
  | [], [], _, _, _, e => by simp at e
  | a :: _, r :: _, 0, q, h, e => by
    have e' : r = q := Option.some.inj e
    exact ⟨a, rfl, e' ▸ h.1⟩
  | _ :: as, _ :: rs, j + 1, q, h, e => Pairs.at (as := as) (rs := rs) (j := j) h.2 e
  | [], _ :: _, _, _, h, _ => h.elim
  | _ :: _, [], _, _, h, _ => h.elim
theorem tup_ne_lst {q : Nat × Nat} {xs : List V} : tupOf q ≠ HO.lst xs := fun z => nomatch z
theorem scRO : FnScope ["row", "runs", "letter"] ["row"] (defScope sRuns) := ⟨rfl, rfl, rfl, by decide +kernel, rfl, by decide +kernel, by decide +kernel⟩
def spRuns : Sp := fun vs H Q _ => ∃ l : List Nat, vs = [.str (mk l)] ∧ l.length ≤ 1000 ∧ ∀ H' p as, Same H H' → H p = none → H' p = some (.lst (as.map V.ref)) → Pairs H' as (runs l) → Q (.ref p) H'
theorem snoc_cases (rs : List (Nat × Nat)) : rs = [] ∨ ∃ r' q, rs = r' ++ [q] := by
  cases e : rs.getLast? with
  | none => exact .inl (List.getLast?_eq_none_iff.mp e)
  | some q =>
    refine .inr ⟨rs.dropLast, q, ?_⟩
    obtain ⟨ys, h⟩ := List.getLast?_eq_some_iff.mp e
    rw [h, List.dropLast_concat]
theorem ok_runs {f : Addr} {fd : FuncData} {k : Nat} (F : Fun K "runs_of" "runs_of" sRuns f fd) : FnOk P w K mg base CX0 (k + 1) f fd ["row"] (spRuns) := by
  refine F.ok scRO (fun vs H Q E h => ?_) (fun cdv A outer s H vs Q E hr h => ?_)
  · obtain ⟨l, rfl, _⟩ := h
    rfl
  · obtain ⟨l, rfl, hlen, q⟩ := h
    refine ⟨_, pss_cons (ps_set (i := 1) scRO.nd rfl (.inl rfl) (pe_lst pa_nil))
      (pss_cons (ps_for PassesOwn.never rfl (pi_str (pv 0)) (pg_name (i := 2) scRO.nd rfl (.inl rfl))
        (pss_one (ps_if (PW.pt (pw_and (pt_truth (pv 1) (by intro _; rfl)) (pw_and1 (pt_cmpR op_eq (pe_ix ix_tup (pe_ix ix_list (pv 1) (pe_un un_neg pe_int) (fun _ _ => rfl)) pe_int (fun _ _ => rfl)) (pv 2) (nomark _)))))
          (pss_one (ps_asg (pe_tup (pa_cons (pv 2) (pa_cons (pe_op op_add (pe_ix ix_tup (pe_ix ix_list (pv 1) (pe_un un_neg pe_int) (fun _ _ => rfl)) pe_int (fun _ _ => rfl)) pe_int) pa_nil)))
            (pg_sub (pv 1) (pe_un un_neg pe_int) set_list)))
          (pss_one (ps_expr (pe_bm PySem.F.plainAttrs_list PySem.F.slot_list_append PySem.F.type_list_append mt_append (pv 1) (pa_cons (pe_tup (pa_cons (pv 2) (pa_cons pe_int pa_nil))) pa_nil)))))))
      (pss_one (ps_ret (pv 1)))), ?_⟩
    refine ⟨Nat.zero_le _, fun p np => ?_⟩
    refine ⟨_, rfl, mk l, rfl, for_it walk_str (fun i σ H' => ∃ as y2, σ = [some (.str (mk l)), some (.ref p), y2] ∧ Same H H' ∧ H' p = some (.lst (as.map V.ref)) ∧ Pairs H' as (runs (l.take i)))
      ⟨[], none, rfl, same_upd np, upd_same, trivial⟩ (fun _ _ _ _ _ => trivial) ?_ ?_⟩
    · rintro i x σ H1 H2 hi ⟨as, y2, rfl, sm, hp, ps⟩ ⟨rfl, c, hc, rfl⟩
      rw [mk_size] at hi
      have gi : l[i]? = some c := by
        have := hc
        simpa [mk] using this
      have hrun := runs_take gi
      have hl1 : as.length ≤ 1000 := by
        have h1 := ps.len
        have h2 := runs_le (l.take i)
        have h3 : (l.take i).length ≤ l.length := by rw [List.length_take]; exact Nat.min_le_right _ _
        omega
      rcases snoc_cases (runs (l.take i)) with e | ⟨r', q0, e⟩
      · rw [e] at ps hrun
        have ea : as = [] := List.eq_nil_of_length_eq_zero ps.len
        subst ea
        refine ⟨_, rfl, false, .inl ⟨_, SqL.of hp, rfl⟩, iteF (iteF ?_)⟩
        refine ⟨_, rfl, .inl ⟨rfl, _, SqL.of hp⟩, _, rfl, (by show 2 ≤ sizeLine; decide), fun t nt => ?_⟩
        have pt : p ≠ t := ne_of_none hp nt
        refine ⟨p, _, _, rfl, rfl, (by rw [upd_ne pt]; exact hp), (by show 0 < sizeLine; decide), ?_⟩
        refine ⟨[t], _, rfl, fun b o hb => ?_, upd_same, ?_⟩
        · rw [upd_ne (ne_of_none hb np), upd_ne (ne_of_none (sm b o hb) nt)]
          exact sm b o hb
        · rw [hrun]
          refine ⟨?_, trivial⟩
          rw [upd_ne (Ne.symm pt), upd_same]
          rfl
      · rw [e] at ps hrun
        rw [addRun_snoc r' q0.1 q0.2 c] at hrun
        obtain ⟨as', a, rfl, ps', ha⟩ := ps.last
        rw [List.map_append] at hp
        have pa : a ≠ p := ne_of ha hp tup_ne_lst
        have hla : as'.length ≤ 1000 := by rw [List.length_append] at hl1; omega
        refine ⟨_, rfl, true, .inl ⟨_, SqL.of hp, by simp⟩, iteT ?_⟩
        refine ⟨_, rfl, _, rfl, _, _, _, _, rfl, rfl, SqL.of hp, atI_last _ _, _, _, _, _, rfl, rfl, SqT.of ha, atI_nat (j := 0) rfl, _, rfl, rfl, _, rfl, ?_⟩
        refine ite_b (c := q0.1 = c) (decide_eq_decide.mpr eq_mk1) (fun hc => ?_) (fun hc => ?_)
        · rw [if_pos hc] at hrun
          refine ⟨_, rfl, _, rfl, _, rfl, _, _, _, _, rfl, rfl, SqL.of hp, atI_last _ _, _, _, _, _, rfl, rfl, SqT.of ha, atI_nat (j := 1) rfl, _, _, rfl, rfl, (by show 2 ≤ sizeLine; decide), fun t nt => ?_⟩
          have pt : p ≠ t := ne_of_none hp nt
          refine ⟨_, rfl, _, rfl, p, _, _, as'.length, rfl, rfl, (by rw [upd_ne pt]; exact hp), ?_, ?_⟩
          · exact ixN_last _ _ _ (List.length_map _)
          · refine ⟨as' ++ [t], _, rfl, fun b o hb => ?_, ?_, ?_⟩
            · rw [upd_ne (ne_of_none hb np), upd_ne (ne_of_none (sm b o hb) nt)]
              exact sm b o hb
            · rw [upd_same]
              simp
            · rw [hrun]
              refine Pairs.snoc (ps'.mono fun b u hb => ?_) ?_
              · rw [upd_ne (ne_of hb hp tup_ne_lst), upd_ne (ne_of_none hb nt)]
                exact hb
              · rw [upd_ne (Ne.symm pt), upd_same]
                rfl
        · rw [if_neg hc] at hrun
          refine ⟨_, rfl, .inl ⟨rfl, _, SqL.of hp⟩, _, rfl, (by show 2 ≤ sizeLine; decide), fun t nt => ?_⟩
          have pt : p ≠ t := ne_of_none hp nt
          refine ⟨p, _, _, rfl, rfl, (by rw [upd_ne pt]; exact hp), (small1000 (by rw [List.length_append, List.length_map]; rw [List.length_append] at hl1; exact hl1)), ?_⟩
          refine ⟨as' ++ [a] ++ [t], _, rfl, fun b o hb => ?_, ?_, ?_⟩
          · rw [upd_ne (ne_of_none hb np), upd_ne (ne_of_none (sm b o hb) nt)]
            exact sm b o hb
          · rw [upd_same]
            simp
          · rw [hrun]
            refine Pairs.snoc (ps.mono fun b u hb => ?_) ?_
            · rw [upd_ne (ne_of hb hp tup_ne_lst), upd_ne (ne_of_none hb nt)]
              exact hb
            · rw [upd_ne (Ne.symm pt), upd_same]
              rfl
    · rintro σ H1 ⟨as, y2, rfl, sm, hp, ps⟩
      rw [mk_size, List.take_length] at ps
      exact ⟨_, rfl, q H1 p as sm np hp ps⟩
end
end Tw

set_option Elab.async false
set_option linter.all false
set_option maxRecDepth 100000
set_option maxHeartbeats 2000000
namespace Tw
open PySem PySem.Spec PyProof.Rows L2
theorem joinL_nil : ∀ ls : List (List Nat), TL.joinL [] ls = ls.flatten
  | [] => rfl
  | [x] => by simp [TL.joinL]
  | x :: y :: r => by
    have ih := joinL_nil (y :: r)
    simp [TL.joinL] at ih ⊢
    exact ih
theorem join_signs (l : List Nat) : Txt.join "" (l.map fun c => mk [c]) = mk l := by
  refine TL.ext_tl ?_
  rw [TL.join_eq, TL.tl_join]
  have e : TL.tl ("" : Str) = [] := by decide +kernel
  rw [e, joinL_nil, List.map_map]
  show (l.map (fun c => [c])).flatten = l
  induction l with
  | nil => rfl
  | cons c r ih => rw [List.map_cons, List.flatten_cons, ih]; rfl
theorem Pairs.at' {H : Hp} : ∀ {as : List Addr} {rs : List (Nat × Nat)} {j : Nat} {a : Addr}, Pairs H as rs → as[j]? = some a → ∃ q, rs[j]? = some q ∧ H a = some (tupOf q)
  | [], [], _, _, _, e => by simp at e
  | b :: _, r :: _, 0, a, h, e => by
    have e' : b = a := Option.some.inj e
    exact ⟨r, rfl, e' ▸ h.1⟩
  | _ :: as, _ :: rs, j + 1, q, h, e => Pairs.at' (as := as) (rs := rs) (j := j) h.2 e
  | [], _ :: _, _, _, h, _ => h.elim
  | _ :: _, [], _, _, h, _ => h.elim
theorem kept_take {t : Bool} {rs : List (Nat × Nat)} {i : Nat} {q : Nat × Nat} (h : rs[i]? = some q) : kept t (rs.take (i + 1)) = kept t (rs.take i) ++ (if keepRun t q = true then [q.1] else []) := by
  have e : rs.take (i + 1) = rs.take i ++ [q] := by
    rw [List.take_add_one, h]; rfl
  rw [e, kept_append, kept_cons]
  simp [kept]
theorem pg_tup2 {X : Cx} {x1 x2 : Str} {p1 p2 : Pos} {k : Nat} {pos : Pos} {t1 t2 : TG} (hc : X.calm = true) (h1 : PG X (.Name x1 p1) t1) (h2 : PG X (.Name x2 p2) t2) :
    PG X (.Tuple [.Name x1 p1, .Name x2 p2] k pos) (gTup X.K 2 (gCons t1 (gCons t2 gNil))) := pg_tup hc (pgs_cons h1 (pgs_cons h2 pgs_nil))
def sOf (t : Bool) : List Nat := [if t then 84 else 83]
theorem eqT (t : Bool) : decide (V.str (mk (sOf t)) = V.str "T") = decide (t = true) := by
  rw [str_T]
  refine decide_eq_decide.mpr ?_
  cases t
  · exact ⟨fun z => absurd (eq_mk1.mp z) (by decide), fun z => nomatch z⟩
  · exact ⟨fun _ => rfl, fun _ => rfl⟩
section
variable {P : Program} {w : World} {K : PySem.W.Frag} {mg : Str → Option Value} {base : Heap}
abbrev nOnce : List Str := ["row", "kind", "kept", "letter", "length"]
theorem scOnce : FnScope nOnce ["row", "kind"] (defScope sOnce) := ⟨rfl, rfl, rfl, by decide +kernel, rfl, by decide +kernel, by decide +kernel⟩
def spOnce : Sp := fun vs H Q _ => ∃ (l : List Nat) (t : Bool), vs = [.str (mk l), .str (mk (sOf t))] ∧ l.length ≤ 1000 ∧ ∀ H', Same H H' → Q (.str (mk (once t l))) H'
def signs (l : List Nat) : List V := l.map fun c => V.str (mk [c])
theorem signs_app (a b : List Nat) : signs (a ++ b) = signs a ++ signs b := by simp [signs]
theorem signs_len (a : List Nat) : (signs a).length = a.length := by simp [signs]
/-- the reading of both comprehensions: test tells what the test at a run asks -/
theorem once_lc {t : Bool} {l : List Nat} {H H' : Hp} {p D : Addr} {as : List Addr} {K : PySem.W.Frag} {tt : TT} {Q : Hp → Prop} {s0 s1 s2 s3 s4 : Option V}
    (sm : Same H H') (hl : l.length ≤ 1000) (hp : H' p = some (.lst (as.map V.ref))) (ps : Pairs H' as (runs l)) (nD : H' D = none)
    (hT : ∀ (q : Nat × Nat) (H2 : Hp) (R : Bool → Hp → Prop), R (keepRun t q) H2 → tt [s0, s1, s2, some (V.str (mk [q.1])), some (V.int (q.2 : Nat))] H2 R)
    (hQ : ∀ H2, Same H H2 → H2 D = some (.lst (signs (once t l))) → Q H2) :
    ∃ W : Nat → Nat → Hp → Prop, (∃ m, W 0 m (upd H' D (.lst []))) ∧ ∀ i m H2, W i m H2 →
      ((Itl K p).stop i H2 ∧ Q H2) ∨ ((Itl K p).go i H2 ∧ ∃ Nx : Hp → Prop, (∀ H3, Nx H3 → ∃ m', m' < m ∧ W (i + 1) m' H3) ∧ ∀ x H3, (Itl K p).yld i H2 x H3 → gTup K 2 (gCons (gName 3) (gCons (gName 4) gNil)) x (wipe [s0, s1, s2, s3, s4] [3, 4]) H3 fun σ2 H4 => wipe σ2 [3, 4] = wipe [s0, s1, s2, s3, s4] [3, 4] ∧ tt σ2 H4 fun b H5 =>
        if b = true then tVar 3 σ2 H5 fun y H6 => ∃ acc, H6 D = some (.lst acc) ∧ acc.length < sizeLine ∧ Nx (upd H6 D (.lst (acc ++ [y]))) else Nx H5) := by
  refine lc_list (xs := as.map V.ref) (fun i H2 => Same H' H2 ∧ H2 D = some (.lst (signs (kept t ((runs l).take i))))) ⟨same_upd nD, upd_same⟩ (fun i H2 _ h => SqL.of (h.1 _ _ hp)) ?_ ?_
  · rintro i x H2 hx ⟨sm2, hD⟩
    rw [List.getElem?_map] at hx
    obtain ⟨a, ha, rfl⟩ := Option.map_eq_some_iff.mp hx
    obtain ⟨q, hq, hqa⟩ := ps.at' ha
    refine ⟨a, _, rfl, SqT.of (sm2 _ _ hqa), rfl, _, _, rfl, _, _, rfl, rfl, rfl, hT q H2 _ ?_⟩
    have kt := kept_take (t := t) hq
    have hlen : (signs (kept t ((runs l).take i))).length < sizeLine := by
      rw [signs_len]
      refine small1000 (Nat.le_trans (kept_le t _) ?_)
      rw [List.length_take]
      have := runs_le l
      omega
    by_cases c : keepRun t q = true
    · rw [c]
      rw [if_pos c] at kt
      refine iteT ⟨_, rfl, _, hD, hlen, ?_, ?_⟩
      · intro b o hb
        rw [upd_ne (ne_of_none hb nD)]
        exact sm2 b o hb
      · rw [upd_same, kt, signs_app]
        rfl
    · have c' : keepRun t q = false := by
        cases h : keepRun t q
        · rfl
        · exact absurd h c
      rw [if_neg c, List.append_nil] at kt
      rw [c']
      refine iteF ⟨sm2, ?_⟩
      rw [kt]
      exact hD
  · rintro H2 ⟨sm2, hD⟩
    refine hQ H2 (sm.trans sm2) ?_
    have e : (as.map V.ref).length = (runs l).length := by rw [List.length_map, ps.len]
    rw [e, List.take_length] at hD
    exact hD
theorem ok_once {f fR : Addr} {fd fdR : FuncData} {k : Nat} (F : Fun K "sieve_once" "sieve_once" sOnce f fd)
    (FR : Fun K "runs_of" "runs_of" sRuns fR fdR) (bR : Binds K fdR ["row"] []) (gR : mg "runs_of" = some (.ref fR)) : FnOk P w K mg base CX0 (k + 2) f fd ["row", "kind"] spOnce := by
  have GR : FnOk P w K mg base CX0 (k + 1) fR fdR ["row"] spRuns := ok_runs FR
  refine F.ok scOnce (fun vs H Q E h => ?_) (fun cdv A outer s H vs Q E hr h => ?_)
  · obtain ⟨l, t, rfl, _⟩ := h
    rfl
  · obtain ⟨l, t, rfl, hlen, q⟩ := h
    refine ⟨_, pss_cons (ps_if (pt_cmpR op_eq (pv 1) pe_str (nomark _))
        (pss_one (ps_setLc (i := 2) (own := [("letter", 3), ("length", 4)]) (g := gTup K 2 (gCons (gName 3) (gCons (gName 4) gNil))) (by rfl) scOnce.nd rfl rfl (sw_true rfl rfl rfl (by decide +kernel))
          (pi_list (pe_call GR hr rfl gR FR.kp bR .nil pass0 (pa_cons (pv 0) pa_nil))) (blkOk_by (N := nOnce) (sc := defScope sOnce) (by decide +kernel))
          (fun _ _ _ _ _ => pg_tup2 rfl (pg_name (i := 3) scOnce.nd rfl (Or.inl rfl) (Or.inr rfl)) (pg_name (i := 4) scOnce.nd rfl (Or.inl rfl) (Or.inr rfl)))
          (fun _ _ _ _ _ => pts_one (pt_cmpR op_gt (pv 4) pe_int (nomark _))) (fun _ _ _ _ _ => pv 3)))
        (pss_one (ps_setLc (i := 2) (own := [("letter", 3), ("length", 4)]) (g := gTup K 2 (gCons (gName 3) (gCons (gName 4) gNil))) (by rfl) scOnce.nd rfl rfl (sw_true rfl rfl rfl (by decide +kernel))
          (pi_list (pe_call GR hr rfl gR FR.kp bR .nil pass0 (pa_cons (pv 0) pa_nil))) (blkOk_by (N := nOnce) (sc := defScope sOnce) (by decide +kernel))
          (fun _ _ _ _ _ => pg_tup2 rfl (pg_name (i := 3) scOnce.nd rfl (Or.inl rfl) (Or.inr rfl)) (pg_name (i := 4) scOnce.nd rfl (Or.inl rfl) (Or.inr rfl)))
          (fun _ _ _ _ _ => pts_one (pt_cmpR op_eq (pv 4) pe_int (nomark _))) (fun _ _ _ _ _ => pv 3))))
      (pss_one (ps_ret (pe_join pe_str (pv 2)))), ?_⟩
    refine ⟨_, rfl, rfl, _, rfl, ?_⟩
    have fin : ∀ (H2 : Hp) (D : Addr), Same H H2 → H2 D = some (.lst (signs (once t l))) → ∀ R : VK, (∀ H3, Same H H3 → R (.str (mk (once t l))) H3) → (∃ a p, ∃ ys : List Str, V.str "" = .str a ∧ [V.ref D] = [.ref p] ∧ (SqL K H2 p (ys.map V.str) ∨ SqT K H2 p (ys.map V.str)) ∧
      (ys.map (·.length)).sum + ys.length * a.length ≤ 16777216 ∧ R (.str (Txt.join a ys)) H2) := by
      intro H2 D sm hD R hR
      refine ⟨_, D, (once t l).map fun c => mk [c], rfl, rfl, .inl (SqL.of ?_), ?_, ?_⟩
      · rw [hD, List.map_map]
        rfl
      · have e1 : ∀ l : List Nat, ((l.map fun c => mk [c]).map (·.length)).sum = l.length := by
          intro l
          induction l with
          | nil => rfl
          | cons c r ih =>
            rw [List.map_cons, List.map_cons, List.sum_cons, ih, mk_len]
            simp
            omega
        have e2 : ("" : Str).length = 0 := by decide +kernel
        rw [e1, e2]
        have := once_le t l
        omega
      · rw [join_signs]
        exact hR H2 sm
    refine ite_b (c := t = true) (eqT t) (fun ht => ?_) (fun ht => ?_)
    · subst ht
      refine ⟨_, rfl, l, rfl, hlen, fun H' p as sm np hp ps => ⟨p, rfl, ⟨_, SqL.of hp⟩, fun D nD => once_lc (t := true) sm hlen hp ps nD (fun q2 H2 R hR => ?_) fun H2 sm2 hD => ?_⟩⟩
      · refine ⟨_, rfl, _, _, rfl, rfl, _, rfl, ?_⟩
        have e : decide ((1 : Int) < (q2.2 : Nat)) = keepRun true q2 := decide_eq_decide.mpr (by omega)
        show R (decide ((1 : Int) < (q2.2 : Nat))) H2
        rw [e]
        exact hR
      · exact ⟨⟨_, rfl⟩, _, rfl, fin H2 D sm2 hD Q q⟩
    · have ht' : t = false := by cases t <;> first | rfl | exact absurd rfl ht
      subst ht'
      refine ⟨_, rfl, l, rfl, hlen, fun H' p as sm np hp ps => ⟨p, rfl, ⟨_, SqL.of hp⟩, fun D nD => once_lc (t := false) sm hlen hp ps nD (fun q2 H2 R hR => ?_) fun H2 sm2 hD => ?_⟩⟩
      · refine ⟨_, rfl, rfl, _, rfl, ?_⟩
        have e : decide (V.int (q2.2 : Nat) = V.int 1) = keepRun false q2 := decide_eq_decide.mpr ⟨fun z => by have := V.int.inj z; omega, fun z => by rw [z]; rfl⟩
        rw [e]
        exact hR
      · exact ⟨⟨_, rfl⟩, _, rfl, fin H2 D sm2 hD Q q⟩
end
end Tw

set_option Elab.async false
set_option linter.all false
set_option maxRecDepth 100000
set_option maxHeartbeats 2000000
namespace Tw
open PySem PySem.Spec PyProof.Rows L2
/-- the sieves of a pipeline, from left to right -/
def sv (l p : List Nat) : List Nat := p.foldl (fun r c => once (c == 84) r) l
theorem sv_take {l p : List Nat} {i c : Nat} (h : p[i]? = some c) : sv l (p.take (i + 1)) = once (c == 84) (sv l (p.take i)) := by
  have e : p.take (i + 1) = p.take i ++ [c] := by
    rw [List.take_add_one, h]; rfl
  unfold sv
  rw [e, List.foldl_append]
  rfl
theorem sv_le (l : List Nat) : ∀ p : List Nat, (sv l p).length ≤ l.length := by
  intro p
  induction p generalizing l with
  | nil => exact Nat.le_refl _
  | cons c p ih => exact Nat.le_trans (ih _) (once_le _ _)
theorem sv_mem {l : List Nat} : ∀ {p : List Nat} {c : Nat}, c ∈ sv l p → c ∈ l := by
  intro p
  induction p generalizing l with
  | nil => exact fun h => h
  | cons d p ih => exact fun h => once_mem (ih h)
theorem pipe_sign {c : Nat} (h : c = 84 ∨ c = 83) : (V.str ⟨#[c]⟩) = V.str (mk (sOf (c == 84))) := by
  rcases h with e | e <;> subst e <;> rfl
section
variable {P : Program} {w : World} {K : PySem.W.Frag} {mg : Str → Option Value} {base : Heap}
theorem scSz : FnScope ["row"] ["row"] (defScope sSize) := ⟨rfl, rfl, rfl, by decide +kernel, rfl, by decide +kernel, by decide +kernel⟩
def spSize : Sp := fun vs H Q _ => ∃ l : List Nat, vs = [.str (mk l)] ∧ (Low l ∧ l.length ≤ 1000) ∧ ∀ H' p, Same H H' → H p = none → H' p = some (.tup [V.int (l.length : Nat), V.int (pairs l : Nat)]) → Q (.ref p) H'
theorem len_line {n : Nat} (h : n ≤ 1000) : n ≤ sizeLine := Nat.le_of_lt (small1000 h)
theorem ok_size {f fC fR : Addr} {fd fdC fdR : FuncData} {k : Nat} (F : Fun K "size" "size" sSize f fd)
    (FC : Fun K "check_row" "check_row" sChkRow fC fdC) (bC : Binds K fdC ["row"] []) (gC : mg "check_row" = some (.ref fC))
    (FR : Fun K "runs_of" "runs_of" sRuns fR fdR) (bR : Binds K fdR ["row"] []) (gR : mg "runs_of" = some (.ref fR))
    (me : mg "enumerate" = none) (ml : mg "len" = none) : FnOk P w K mg base CX0 (k + 2) f fd ["row"] spSize := by
  have GC : FnOk P w K mg base CX0 (k + 1) fC fdC ["row"] spChkRow := ok_chkRow FC me
  have GR : FnOk P w K mg base CX0 (k + 1) fR fdR ["row"] spRuns := ok_runs FR
  refine F.ok scSz (fun vs H Q E h => ?_) (fun cdv A outer s H vs Q E hr h => ?_)
  · obtain ⟨l, rfl, _⟩ := h
    rfl
  · obtain ⟨l, rfl, ⟨low, hlen⟩, q⟩ := h
    refine ⟨_, pss_cons (ps_expr (pe_call GC hr rfl gC FC.kp bC .nil pass0 (pa_cons (pv 0) pa_nil)))
      (pss_one (ps_ret (pe_tup (pa_cons (pe_callB call_len_str (by rfl) ml PySem.boot_len (pa_cons (pv 0) pa_nil))
        (pa_cons (pe_op op_sub (pe_callB call_len_str (by rfl) ml PySem.boot_len (pa_cons (pv 0) pa_nil))
          (pe_callB call_len_seq (by rfl) ml PySem.boot_len (pa_cons (pe_call GR hr rfl gR FR.kp bR .nil pass0 (pa_cons (pv 0) pa_nil)) pa_nil))) pa_nil))))), ?_⟩
    have hz : (mk l).length ≤ sizeLine := by rw [mk_len]; exact len_line hlen
    refine ⟨_, rfl, l, rfl, low, fun H1 sm1 => ?_⟩
    refine ⟨_, rfl, _, rfl, hz, _, rfl, _, rfl, hz, _, rfl, l, rfl, hlen, fun H2 p as sm2 np hp ps => ?_⟩
    refine ⟨p, _, rfl, .inl (SqL.of hp), _, _, rfl, rfl, (by show 2 ≤ sizeLine; decide), fun t nt => ?_⟩
    refine q _ t (fun b o hb => ?_) ((sm1.trans sm2).free nt) ?_
    · rw [upd_ne (ne_of_none (sm2 _ _ (sm1 _ _ hb)) nt)]
      exact sm2 _ _ (sm1 _ _ hb)
    · rw [upd_same]
      have h1 := ps.len
      have h2 := runs_len l
      have e : ((mk l).length : Int) - ((as.map V.ref).length : Nat) = (pairs l : Nat) := by
        rw [mk_len, List.length_map]
        omega
      show some (HO.tup [V.int ((mk l).length : Nat), V.int (((mk l).length : Int) - ((as.map V.ref).length : Nat))]) = _
      rw [e, mk_len]
theorem scSv : FnScope ["row", "pipeline", "kind"] ["row", "pipeline"] (defScope sSieve) := ⟨rfl, rfl, rfl, by decide +kernel, rfl, by decide +kernel, by decide +kernel⟩
def spSieve : Sp := fun vs H Q _ => ∃ l p : List Nat, vs = [.str (mk l), .str (mk p)] ∧ (Low l ∧ l.length ≤ 1000 ∧ Pipe p) ∧ ∀ H', Same H H' → Q (.str (mk (sv l p))) H'
theorem ok_sieve {f fC fD fO fR : Addr} {fd fdC fdD fdO fdR : FuncData} {k : Nat} (F : Fun K "sieve" "sieve" sSieve f fd)
    (FC : Fun K "check_row" "check_row" sChkRow fC fdC) (bC : Binds K fdC ["row"] []) (gC : mg "check_row" = some (.ref fC))
    (FD : Fun K "check_pipeline" "check_pipeline" sChkPipe fD fdD) (bD : Binds K fdD ["pipeline"] []) (gD : mg "check_pipeline" = some (.ref fD))
    (FO : Fun K "sieve_once" "sieve_once" sOnce fO fdO) (bO : Binds K fdO ["row", "kind"] []) (gO : mg "sieve_once" = some (.ref fO))
    (FR : Fun K "runs_of" "runs_of" sRuns fR fdR) (bR : Binds K fdR ["row"] []) (gR : mg "runs_of" = some (.ref fR))
    (me : mg "enumerate" = none) : FnOk P w K mg base CX0 (k + 3) f fd ["row", "pipeline"] spSieve := by
  have GC : FnOk P w K mg base CX0 (k + 1) fC fdC ["row"] spChkRow := ok_chkRow FC me
  have GD : FnOk P w K mg base CX0 (k + 1) fD fdD ["pipeline"] spChkPipe := ok_chkPipe FD me
  have GO : FnOk P w K mg base CX0 (k + 2) fO fdO ["row", "kind"] spOnce := ok_once FO FR bR gR
  refine F.ok scSv (fun vs H Q E h => ?_) (fun cdv A outer s H vs Q E hr h => ?_)
  · obtain ⟨l, p, rfl, _⟩ := h
    rfl
  · obtain ⟨l, p, rfl, ⟨low, hlen, hp⟩, q⟩ := h
    refine ⟨_, pss_cons (ps_expr (pe_call GC (hr.mono (by omega)) rfl gC FC.kp bC .nil pass0 (pa_cons (pv 0) pa_nil)))
      (pss_cons (ps_expr (pe_call GD (hr.mono (by omega)) rfl gD FD.kp bD .nil pass0 (pa_cons (pv 1) pa_nil)))
      (pss_cons (ps_for PassesOwn.never rfl (pi_str (pv 1)) (pg_name (i := 2) scSv.nd rfl (.inl rfl))
        (pss_one (ps_set (i := 0) scSv.nd rfl (.inl rfl) (pe_call GO hr rfl gO FO.kp bO .nil pass0 (pa_cons (pv 0) (pa_cons (pv 2) pa_nil))))))
      (pss_one (ps_ret (pv 0))))), ?_⟩
    refine ⟨_, rfl, l, rfl, low, fun H1 sm1 => ⟨_, rfl, p, rfl, hp, fun H2 sm2 => ?_⟩⟩
    refine ⟨_, rfl, mk p, rfl, for_it walk_str (fun i σ H' => ∃ y, σ = [some (.str (mk (sv l (p.take i)))), some (.str (mk p)), y] ∧ Same H H')
      ⟨none, rfl, sm1.trans sm2⟩ (fun _ _ _ _ _ => trivial) ?_ ?_⟩
    · rintro i x σ H3 H4 hi ⟨y, rfl, sm⟩ ⟨rfl, c, hc, rfl⟩
      rw [mk_size] at hi
      have gi : p[i]? = some c := by
        have := hc
        simpa [mk] using this
      have hcp := hp c (List.mem_of_getElem? gi)
      rw [pipe_sign hcp]
      refine ⟨_, rfl, _, rfl, sv l (p.take i), c == 84, rfl, Nat.le_trans (sv_le l _) hlen, fun H5 sm5 => ?_⟩
      refine ⟨some (V.str (mk (sOf (c == 84)))), ?_, sm.trans sm5⟩
      rw [sv_take gi]
      rfl
    · rintro σ H3 ⟨y, rfl, sm⟩
      rw [mk_size, List.take_length]
      exact ⟨_, rfl, q H3 sm⟩
end
end Tw

set_option Elab.async false
set_option linter.all false
set_option maxRecDepth 100000
set_option maxHeartbeats 2000000
namespace Tw
open PySem PySem.Spec PyProof.Rows L2
abbrev sRng : Stmt := topS 13
abbrev sDraw : Stmt := topS 14
def bigD : Int := 2 ^ 12600
/-- a draw's state: digits, seed, counter -/
structure RngOk (d s c : Int) : Prop where
  d0 : 0 ≤ d
  d1 : d < bigD
  s0 : 0 ≤ s
  s1 : s < 2305843009213693952
  c0 : 0 ≤ c
  c1 : c < 4294967296
def rngO (d s c : Int) : HO := .lst [V.int d, V.int s, V.int c]
theorem cut_any (ns : List Int) (a b : Nat) : ∃ ms : List Int, ((ns.map V.int).drop a).take b = ms.map V.int ∧ ms.length ≤ ns.length :=
  ⟨(ns.drop a).take b, by rw [List.map_take, List.map_drop], by rw [List.length_take, List.length_drop]; omega⟩
theorem cut_ints (ns : List Int) (lo hi : Option Int) : ∃ ms : List Int, cutV (ns.map V.int) lo hi = ms.map V.int ∧ ms.length ≤ ns.length := by
  exact cut_any ns _ _
theorem pow2_le {a b : Nat} (h : a ≤ b) : (2 : Int) ^ a ≤ 2 ^ b := by
  rw [two_pow_cast, two_pow_cast]
  exact Int.ofNat_le.mpr (Nat.pow_le_pow_right (by decide) h)
theorem bigD_lt {i : Nat} {d r : Int} (hi : i < 63) (h0 : 0 ≤ d) (h1 : d < 2 ^ (200 * i)) (r0 : 0 ≤ r) (r1 : r < 10 ^ 60) : 0 ≤ d * 10 ^ 60 + r ∧ d * 10 ^ 60 + r < 2 ^ (200 * (i + 1)) := by
  have e : (2 : Int) ^ (200 * (i + 1)) = 2 ^ (200 * i) * 2 ^ 200 := by
    rw [← Int.pow_add]; congr 1
  have p : (10 : Int) ^ 60 ≤ 2 ^ 200 := by decide +kernel
  have h2 : (d + 1) * 10 ^ 60 ≤ 2 ^ (200 * i) * 2 ^ 200 := Int.mul_le_mul (by omega) p (by decide +kernel) (two_pow_nn _)
  have h3 : (d + 1) * 10 ^ 60 = d * 10 ^ 60 + 10 ^ 60 := by rw [Int.add_mul, Int.one_mul]
  have h4 : 0 ≤ d * 10 ^ 60 := Int.mul_nonneg h0 (by decide +kernel)
  rw [e]
  omega
section
variable {P : Program} {w : World} {K : PySem.W.Frag} {mg : Str → Option Value} {base : Heap}
theorem scRng : FnScope ["script", "digits", "seed", "cell", "far"] ["script"] (defScope sRng) := ⟨rfl, rfl, rfl, by decide +kernel, rfl, by decide +kernel, by decide +kernel⟩
def spRng (K : PySem.W.Frag) : Sp := fun vs H Q _ => ∃ (a : Addr) (ns : List Int), vs = [.ref a] ∧ SqL K H a (ns.map V.int) ∧ ns.length ≤ 63 ∧
  ∀ H' r d s, Same H H' → H r = none → H' r = some (rngO d s 0) → RngOk d s 0 → Q (.ref r) H'
theorem pow1018 : (10 : Int) ^ (18 : Int).toNat = 1000000000000000000 := by decide +kernel
theorem pow1060 : (10 : Int) ^ (60 : Int).toNat = 10 ^ 60 := rfl
theorem log2_le_of {i : Int} {n : Nat} (h0 : 0 ≤ i) (h : i < 2 ^ n) : i.natAbs.log2 ≤ n := by
  have e : i.natAbs < 2 ^ n := by
    have : ((i.natAbs : Nat) : Int) < ((2 ^ n : Nat) : Int) := by
      rw [Int.natAbs_of_nonneg h0, ← two_pow_cast]
      exact h
    exact Int.ofNat_lt.mp this
  by_cases z : i.natAbs = 0
  · rw [z]
    exact Nat.zero_le _
  · exact Nat.le_of_lt ((Nat.log2_lt z).mpr e)
theorem ok_rng {f : Addr} {fd : FuncData} {k : Nat} (F : Fun K "_law_rng" "_law_rng" sRng f fd) (ma : mg "abs" = none) : FnOk P w K mg base CX0 (k + 1) f fd ["script"] (spRng K) := by
  refine F.ok scRng (fun vs H Q E h => ?_) (fun cdv A outer s H vs Q E hr h => ?_)
  · obtain ⟨a, ns, rfl, _⟩ := h
    rfl
  · obtain ⟨a, ns, rfl, hS, hlen, q⟩ := h
    refine ⟨_, pss_cons (ps_asg (pe_tup (pa_cons pe_int (pa_cons pe_int pa_nil))) (pg_tup2 rfl (pg_name (i := 1) scRng.nd rfl (.inl rfl) (.inl rfl)) (pg_name (i := 2) scRng.nd rfl (.inl rfl) (.inl rfl))))
      (pss_cons (ps_for PassesOwn.never rfl (pi_list (pe_slice sl_list (pv 0) po_none (po_some pe_int))) (pg_name (i := 3) scRng.nd rfl (.inl rfl))
        (pss_cons (ps_set (i := 4) scRng.nd rfl (.inl rfl) (pe_callB call_abs (by rfl) ma (by decide +kernel) (pa_cons (pv 3) pa_nil)))
        (pss_cons (ps_if (pt_cmpR op_ge (pv 4) (pe_op op_pow pe_int pe_int) (nomark _))
          (pss_one (ps_set (i := 1) scRng.nd rfl (.inl rfl) (pe_op op_add (pe_op op_mulW (pv 1) (pe_op op_pow pe_int pe_int)) (pe_op op_mod (pv 4) (pe_op op_pow pe_int pe_int))))) pss_nil)
        (pss_one (ps_set (i := 2) scRng.nd rfl (.inl rfl) (pe_op op_mod (pe_op op_add (pe_op op_add (pe_op op_mul (pv 2) pe_int) (pe_op op_mod (pv 3) pe_int)) pe_int) pe_int))))))
      (pss_one (ps_ret (pe_lst (pa_cons (pv 1) (pa_cons (pv 2) (pa_cons pe_int pa_nil))))))), ?_⟩
    refine ⟨(by show 2 ≤ sizeLine; decide), fun t nt => ⟨t, _, rfl, SqT.of upd_same, rfl, _, _, rfl, _, _, rfl, rfl, ?_⟩⟩
    have smt : Same H (upd H t (.tup [V.int 0, V.int 88675123])) := same_upd nt
    refine ⟨_, rfl, _, rfl, a, _, rfl, smt.seq hS, fun c nc => ?_⟩
    have smc := smt.trans (same_upd (o := .lst (cutV (ns.map V.int) none (some 63))) nc)
    obtain ⟨ms, em, lm⟩ := cut_ints ns none (some 63)
    refine ⟨c, rfl, ⟨_, SqL.of upd_same⟩, for_list (xs := ms.map V.int) (fun i σ H' => ∃ d s y3 y4, σ = [some (.ref a), some (.int d), some (.int s), y3, y4] ∧ H' = upd (upd H t (.tup [V.int 0, V.int 88675123])) c (.lst (ms.map V.int)) ∧
      (0 ≤ d ∧ d < 2 ^ (200 * i)) ∧ 0 ≤ s ∧ s < 2305843009213693951) ?_ ?_ ?_ ?_⟩
    · rw [em]
      exact ⟨0, 88675123, none, none, rfl, rfl, ⟨by decide, by decide⟩, by decide, by decide⟩
    · rintro i σ H' hi ⟨d, s, y3, y4, rfl, rfl, _⟩
      exact SqL.of upd_same
    · rintro i x σ H' hx ⟨d, s0, y3, y4, rfl, rfl, hd, hs0, hs1⟩
      rw [List.getElem?_map] at hx
      obtain ⟨z, hz, rfl⟩ := Option.map_eq_some_iff.mp hx
      have hi : i < 63 := by
        have := (List.getElem?_eq_some_iff.mp hz).1
        omega
      have p0 : (0 : Int) < 10 ^ 60 := by decide +kernel
      have sd : ∀ z : Int, 0 ≤ (s0 * 1000003 + z % 2305843009213693921 + 7) % 2305843009213693951 ∧ (s0 * 1000003 + z % 2305843009213693921 + 7) % 2305843009213693951 < 2305843009213693951 := fun z =>
        ⟨Int.emod_nonneg _ (by decide), Int.emod_lt_of_pos _ (by decide)⟩
      refine ⟨_, rfl, _, rfl, ?_⟩
      refine ⟨_, rfl, _, _, rfl, rfl, ⟨by decide, by decide, by decide⟩, _, _, rfl, rfl, _, rfl, ?_⟩
      rw [pow1018]
      refine ite2 (fun hb => ?_) (fun hb => ?_)
      · have cw : CMulW d ((10 : Int) ^ (60 : Int).toNat) := by
          have h1 := log2_le_of hd.1 hd.2
          have h2 : ((10 : Int) ^ (60 : Int).toNat).natAbs.log2 < 1000 := by decide +kernel
          unfold CMulW
          omega
        refine ⟨_, rfl, _, _, rfl, rfl, ⟨by decide, by decide, by decide⟩, _, _, rfl, rfl, cw, _, rfl, _, _, rfl, rfl, ⟨by decide, by decide, by decide⟩, _, _, rfl, rfl, p0, _, _, rfl, rfl, ?_⟩
        refine ⟨_, rfl, _, _, rfl, rfl, .inr ⟨by decide, by decide⟩, _, rfl, _, _, rfl, rfl, (by show (0 : Int) < 2305843009213693921; decide), _, _, rfl, rfl, _, _, rfl, rfl, _, _, rfl, rfl, (by show (0 : Int) < 2305843009213693951; decide), ?_⟩
        exact ⟨_, _, some (.int z), some _, rfl, rfl, bigD_lt hi hd.1 hd.2 (Int.emod_nonneg _ (Int.ne_of_gt p0)) (Int.emod_lt_of_pos _ p0), (sd z).1, (sd z).2⟩
      · refine ⟨_, rfl, _, _, rfl, rfl, .inr ⟨by decide, by decide⟩, _, rfl, _, _, rfl, rfl, (by show (0 : Int) < 2305843009213693921; decide), _, _, rfl, rfl, _, _, rfl, rfl, _, _, rfl, rfl, (by show (0 : Int) < 2305843009213693951; decide), ?_⟩
        exact ⟨d, _, some (.int z), some _, rfl, rfl, ⟨hd.1, Int.lt_of_lt_of_le hd.2 (pow2_le (by omega))⟩, (sd z).1, (sd z).2⟩
    · rintro σ H' ⟨d, s0, y3, y4, rfl, rfl, hd, hs0, hs1⟩
      refine ⟨_, rfl, _, rfl, (by show 3 ≤ sizeLine; decide), fun r nr => ?_⟩
      rw [em] at smc
      have sm2 := smc.trans (same_upd (o := rngO d s0 0) nr)
      refine q _ r d s0 sm2 (smc.free nr) upd_same ⟨hd.1, Int.lt_of_lt_of_le hd.2 (pow2_le ?_), hs0, by omega, by decide, by decide⟩
      rw [List.length_map]
      omega
end
end Tw

set_option Elab.async false
set_option linter.all false
set_option maxRecDepth 100000
set_option maxHeartbeats 2000000
namespace Tw
open PySem PySem.Spec PyProof.Rows L2
section
variable {P : Program} {w : World} {K : PySem.W.Frag} {mg : Str → Option Value} {base : Heap}
theorem scDraw : FnScope ["rng", "limit", "found", "mixed"] ["rng", "limit"] (defScope sDraw) := ⟨rfl, rfl, rfl, by decide +kernel, rfl, by decide +kernel, by decide +kernel⟩
def spDraw : Sp := fun vs H Q _ => ∃ (r : Addr) (m d s c : Int), vs = [.ref r, .int m] ∧ H r = some (rngO d s c) ∧ RngOk d s c ∧ (0 < m ∧ m < 2 ^ 200) ∧ c + 1 < 4294967296 ∧
  ∀ d' c' v, RngOk d' s c' → c' ≤ c + 1 → 0 ≤ v → v < m → Q (.int v) (upd H r (rngO d' s c'))
theorem emod_both (a : Int) {b : Int} (h : 0 < b) : 0 ≤ a % b ∧ a % b < b := ⟨Int.emod_nonneg _ (Int.ne_of_gt h), Int.emod_lt_of_pos _ h⟩
theorem ok_draw {f : Addr} {fd : FuncData} {k : Nat} (F : Fun K "_law_draw" "_law_draw" sDraw f fd) : FnOk P w K mg base CX0 (k + 1) f fd ["rng", "limit"] spDraw := by
  refine F.ok scDraw (fun vs H Q E h => ?_) (fun cdv A outer s H vs Q E hr h => ?_)
  · obtain ⟨r, m, d, s, c, rfl, _⟩ := h
    rfl
  · obtain ⟨r, m, d, s0, c, rfl, hr0, ok, ⟨m0, m1⟩, hc, q⟩ := h
    obtain ⟨d0, d1, s1, s2, c1, c2⟩ := id ok
    refine ⟨_, pss_cons (ps_if (pt_cmpR op_gt (pe_ix ix_list (pv 0) pe_int (fun _ _ => rfl)) pe_int (nomark _))
        (pss_cons (ps_set (i := 2) scDraw.nd rfl (.inl rfl) (pe_op op_mod (pe_ix ix_list (pv 0) pe_int (fun _ _ => rfl)) (pv 1)))
        (pss_cons (ps_asg (pe_op op_fdivW (pe_ix ix_list (pv 0) pe_int (fun _ _ => rfl)) (pv 1)) (pg_sub (pv 0) pe_int set_list))
        (pss_one (ps_ret (pv 2))))) pss_nil)
      (pss_cons (ps_asg (pe_op op_add (pe_ix ix_list (pv 0) pe_int (fun _ _ => rfl)) pe_int) (pg_sub (pv 0) pe_int set_list))
      (pss_cons (ps_set (i := 3) scDraw.nd rfl (.inl rfl) (pe_op op_mod (pe_op op_powW (pe_op op_add (pe_ix ix_list (pv 0) pe_int (fun _ _ => rfl)) (pe_op op_mul pe_int (pe_ix ix_list (pv 0) pe_int (fun _ _ => rfl)))) pe_int) pe_int))
      (pss_cons (ps_set (i := 3) scDraw.nd rfl (.inl rfl) (pe_op op_mod (pe_op op_powW (pe_op op_add (pv 3) (pe_op op_mul pe_int (pe_ix ix_list (pv 0) pe_int (fun _ _ => rfl)))) pe_int) pe_int))
      (pss_one (ps_ret (pe_op op_mod (pe_op op_fdivW (pv 3) pe_int) (pv 1))))))), ?_⟩
    refine ⟨_, rfl, _, _, _, _, rfl, rfl, SqL.of hr0, atI_nat (j := 0) rfl, _, _, rfl, rfl, _, rfl, ?_⟩
    have cd : CDivW d m := by
      refine ⟨m0, ?_⟩
      have := log2_le_of (Int.le_of_lt m0) m1
      omega
    refine ite2 (fun hb => ?_) (fun hb => ?_)
    · have hb' : 0 < d := of_decide_eq_true hb
      refine ⟨_, rfl, _, _, _, _, rfl, rfl, SqL.of hr0, atI_nat (j := 0) rfl, _, rfl, _, _, rfl, rfl, m0, ?_⟩
      refine ⟨_, rfl, _, _, _, _, rfl, rfl, SqL.of hr0, atI_nat (j := 0) rfl, _, rfl, _, _, rfl, rfl, cd, ?_⟩
      refine ⟨_, rfl, _, _, _, 0, rfl, rfl, hr0, rfl, ?_⟩
      refine ⟨_, rfl, ?_⟩
      have e := emod_both d m0
      refine q (d / m) c (d % m) ⟨Int.ediv_nonneg d0 (Int.le_of_lt m0), ?_, s1, s2, c1, c2⟩ (by omega) e.1 e.2
      exact Int.lt_of_le_of_lt (Int.ediv_le_self _ d0) d1
    · refine ⟨_, rfl, _, _, _, _, rfl, rfl, SqL.of hr0, atI_nat (j := 2) rfl, _, _, rfl, rfl, ?_⟩
      refine ⟨_, rfl, _, _, _, 2, rfl, rfl, hr0, rfl, ?_⟩
      have h2 : upd H r (HO.lst (List.set [V.int d, V.int s0, V.int c] 2 (V.int (c + 1)))) r = some (rngO d s0 (c + 1)) := upd_same
      have b1 : 0 ≤ s0 + 998244353 * (c + 1) ∧ s0 + 998244353 * (c + 1) < 2 ^ 64 := by omega
      have p1 : CPowW (s0 + 998244353 * (c + 1)) 3 := ⟨by decide, by decide, by have := log2_le_of b1.1 b1.2; omega⟩
      refine ⟨_, rfl, _, _, _, _, rfl, rfl, SqL.of h2, atI_nat (j := 1) rfl, _, rfl, _, _, _, _, rfl, rfl, SqL.of h2, atI_nat (j := 2) rfl, _, _, rfl, rfl, .inl ⟨by decide, by decide⟩, _, _, rfl, rfl, _, _, rfl, rfl, p1, _, _, rfl, rfl, (by show (0 : Int) < 162259276829213363391578010288127; decide), ?_⟩
      have e1 := emod_both ((s0 + 998244353 * (c + 1)) ^ (3 : Int).toNat) (b := 162259276829213363391578010288127) (by decide)
      have p2 : ∀ x1 : Int, 0 ≤ x1 → x1 < 162259276829213363391578010288127 → CPowW (x1 + 32452843 * (c + 1)) 3 := fun x1 h0 h1 => by
        have b2 : 0 ≤ x1 + 32452843 * (c + 1) ∧ x1 + 32452843 * (c + 1) < 2 ^ 128 := by omega
        exact ⟨by decide, by decide, by have := log2_le_of b2.1 b2.2; omega⟩
      refine ⟨_, rfl, _, rfl, _, _, _, _, rfl, rfl, SqL.of h2, atI_nat (j := 2) rfl, _, _, rfl, rfl, .inl ⟨by decide, by decide⟩, _, _, rfl, rfl, _, _, rfl, rfl, p2 _ e1.1 e1.2, _, _, rfl, rfl, (by show (0 : Int) < 170141183460469231731687303715884105727; decide), ?_⟩
      refine ⟨_, rfl, _, _, rfl, rfl, ⟨by decide, by decide +kernel⟩, _, rfl, _, _, rfl, rfl, m0, ?_⟩
      exact q d (c + 1) _ ⟨d0, d1, s1, s2, by omega, by omega⟩ (Int.le_refl _) (emod_both _ m0).1 (emod_both _ m0).2
end
end Tw

set_option Elab.async false
set_option linter.all false
set_option maxRecDepth 100000
set_option maxHeartbeats 2000000
namespace Tw
open PySem PySem.Spec PyProof.Rows L2
abbrev sWord : Stmt := topS 15
theorem pick {xs : List Int} {v : Int} (h0 : 0 ≤ v) (h1 : v < (xs.length : Nat)) : ∃ x, x ∈ xs ∧ atI (xs.map V.int) v = some (V.int x) := by
  obtain ⟨j, rfl⟩ := Int.eq_ofNat_of_zero_le h0
  have hj : j < xs.length := Int.ofNat_lt.mp h1
  refine ⟨xs[j], List.getElem_mem hj, atI_nat ?_⟩
  rw [List.getElem?_map, List.getElem?_eq_getElem hj]
  rfl
theorem cutS_take (l : List Nat) (n : Nat) : cutS (mk l) none (some (n : Int)) = mk (l.take n) := by
  unfold cutS
  rw [HT.sIx_none, HT.sIx_nat, mk_len]
  show mk (((mk l).cps.toList.drop 0).take (min n l.length - 0)) = _
  show mk ((l.drop 0).take (min n l.length - 0)) = _
  rw [List.drop_zero, Nat.sub_zero]
  congr 1
  by_cases h : n ≤ l.length
  · rw [Nat.min_eq_left h]
  · rw [Nat.min_eq_right (by omega), List.take_of_length_le (by omega), List.take_of_length_le (by omega)]
theorem cutS_drop (l : List Nat) (n : Nat) : cutS (mk l) (some (n : Int)) none = mk (l.drop n) := by
  unfold cutS
  rw [HT.sIx_none, HT.sIx_nat, mk_len]
  show mk ((l.drop (min n l.length)).take (l.length - min n l.length)) = _
  congr 1
  by_cases h : n ≤ l.length
  · rw [Nat.min_eq_left h, List.take_of_length_le (by rw [List.length_drop]; omega)]
  · rw [Nat.min_eq_right (by omega), List.drop_of_length_le (by omega), List.drop_of_length_le (by omega), List.take_nil]
theorem alpha_at {v : Int} (h0 : 0 ≤ v) (h1 : v < 26) : ∃ c : Nat, atI (Str.ofString "abcdefghijklmnopqrstuvwxyz").cps.toList v = some c ∧ 97 ≤ c ∧ c ≤ 122 := by
  obtain ⟨j, rfl⟩ := Int.eq_ofNat_of_zero_le h0
  have e : (Str.ofString "abcdefghijklmnopqrstuvwxyz").cps.toList = (List.range 26).map (· + 97) := by decide +kernel
  refine ⟨j + 97, atI_nat ?_, by omega, by omega⟩
  rw [e, List.getElem?_map, List.getElem?_range (by omega)]
  rfl
/-- all but what stands at r is as it was -/
def SameB (r : Addr) (H H' : Hp) : Prop := ∀ b o, b ≠ r → H b = some o → H' b = some o
theorem SameB.refl (r : Addr) (H : Hp) : SameB r H H := fun _ _ _ h => h
theorem SameB.trans {r : Addr} {H H1 H2 : Hp} (a : SameB r H H1) (b : SameB r H1 H2) : SameB r H H2 := fun c o n h => b c o n (a c o n h)
theorem SameB.at (r : Addr) (H : Hp) (o : HO) : SameB r H (upd H r o) := fun b u n h => by rw [upd_ne n]; exact h
theorem Same.b {r : Addr} {H H' : Hp} (h : Same H H') : SameB r H H' := fun b o _ e => h b o e
theorem SameB.seq {K : PySem.W.Frag} {r : Addr} {H H' : Hp} {a : Addr} {xs : List V} (e : SameB r H H') (n : a ≠ r) (h : SqL K H a xs) : SqL K H' a xs := by
  rcases h with (h | ⟨o, h⟩) | h
  · exact .inl (.inl (e _ _ n h))
  · exact .inl (.inr ⟨o, e _ _ n h⟩)
  · exact .inr h
theorem reps_len (n : Nat) (l : List Nat) : (reps n l).length = n * l.length := by
  unfold reps
  rw [List.length_flatten, List.map_replicate, List.sum_replicate_nat]
theorem reps_mem {n : Nat} {l : List Nat} {c : Nat} (h : c ∈ reps n l) : c ∈ l := by
  obtain ⟨x, hx, hc⟩ := List.mem_flatten.mp h
  rw [(List.mem_replicate.mp hx).2] at hc
  exact hc
section
variable {P : Program} {w : World} {K : PySem.W.Frag} {mg : Str → Option Value} {base : Heap}
theorem scWord : FnScope ["rng", "most", "kinds_here", "longest", "found", "letter"] ["rng", "most"] (defScope sWord) := ⟨rfl, rfl, rfl, by decide +kernel, rfl, by decide +kernel, by decide +kernel⟩
def spWord : Sp := fun vs H Q _ => ∃ (r : Addr) (n : Nat) (d s c : Int), vs = [.ref r, .int (n : Nat)] ∧ n ≤ 200 ∧ H r = some (rngO d s c) ∧ RngOk d s c ∧ c + 1000 < 4294967296 ∧
  ∀ H' d' c' l, SameB r H H' → H' r = some (rngO d' s c') → RngOk d' s c' → c' ≤ c + 1000 → Low l → l.length ≤ n → Q (.str (mk l)) H'
theorem ok_word {f fD : Addr} {fd fdD : FuncData} {k : Nat} (F : Fun K "_law_word" "_law_word" sWord f fd) (FD : Fun K "_law_draw" "_law_draw" sDraw fD fdD) (bD : Binds K fdD ["rng", "limit"] [])
    (gD : mg "_law_draw" = some (.ref fD)) (ml : mg "len" = none) : FnOk P w K mg base CX0 (k + 2) f fd ["rng", "most"] spWord := by
  have GD : FnOk P w K mg base CX0 (k + 1) fD fdD ["rng", "limit"] spDraw := ok_draw FD
  refine F.ok scWord (fun vs H Q E h => ?_) (fun cdv A outer s H vs Q E hr h => ?_)
  · obtain ⟨r, n, d, s, c, rfl, _⟩ := h
    rfl
  · obtain ⟨r, n, d, s0, c, rfl, hn, hr0, ok, hc, q⟩ := h
    refine ⟨_, pss_cons (ps_set (i := 2) scWord.nd rfl (.inl rfl) (pe_ix ix_list (pe_lst (pa_cons pe_int (pa_cons pe_int (pa_cons pe_int (pa_cons pe_int (pa_cons pe_int pa_nil))))))
        (pe_call GD hr rfl gD FD.kp bD .nil pass0 (pa_cons (pv 0) (pa_cons pe_int pa_nil))) (fun _ _ => rfl)))
      (pss_cons (ps_set (i := 3) scWord.nd rfl (.inl rfl) (pe_ix ix_list (pe_lst (pa_cons pe_int (pa_cons pe_int (pa_cons pe_int (pa_cons pe_int pa_nil)))))
        (pe_call GD hr rfl gD FD.kp bD .nil pass0 (pa_cons (pv 0) (pa_cons pe_int pa_nil))) (fun _ _ => rfl)))
      (pss_cons (ps_set (i := 4) scWord.nd rfl (.inl rfl) pe_str)
      (pss_cons (ps_while PassesOwn.never (pt_cmpR op_lt (pe_callB call_len_str (by rfl) ml PySem.boot_len (pa_cons (pv 4) pa_nil)) (pv 1) (nomark _))
        (pss_cons (ps_set (i := 5) scWord.nd rfl (.inl rfl) (pe_ix ix_str pe_str (pe_call GD hr rfl gD FD.kp bD .nil pass0 (pa_cons (pv 0) (pa_cons (pv 2) pa_nil))) (fun _ _ => rfl)))
        (pss_cons (ps_set (i := 4) scWord.nd rfl (.inl rfl) (pe_op op_add_str (pv 4) (pe_op op_mulS (pv 5) (pe_op op_add pe_int (pe_call GD hr rfl gD FD.kp bD .nil pass0 (pa_cons (pv 0) (pa_cons (pv 3) pa_nil)))))))
        (pss_one (ps_if (pt_cmpR op_eq (pe_call GD hr rfl gD FD.kp bD .nil pass0 (pa_cons (pv 0) (pa_cons (pe_ix ix_list (pe_lst (pa_cons pe_int (pa_cons pe_int (pa_cons pe_int pa_nil))))
            (pe_call GD hr rfl gD FD.kp bD .nil pass0 (pa_cons (pv 0) (pa_cons pe_int pa_nil))) (fun _ _ => rfl)) pa_nil))) pe_int (nomark _)) (pss_one ps_break) pss_nil)))))
      (pss_one (ps_ret (pe_slice sl_str (pv 4) po_none (po_some (pv 1)))))))), ?_⟩
    -- kinds_here
    refine ⟨(by show 5 ≤ sizeLine; decide), fun p1 n1 => ?_⟩
    have ne1 : r ≠ p1 := ne_of_none hr0 n1
    refine ⟨_, rfl, r, 5, d, s0, c, rfl, (by rw [upd_ne ne1]; exact hr0), ok, ⟨by decide, by decide⟩, by omega, fun d1 c1 v1 ok1 le1 v10 v11 => ?_⟩
    obtain ⟨kh, hkh, akh⟩ := pick (xs := [1, 2, 3, 5, 26]) v10 v11
    have kh2 : 1 ≤ kh ∧ kh ≤ 26 := (by decide : ∀ x ∈ ([1, 2, 3, 5, 26] : List Int), 1 ≤ x ∧ x ≤ 26) kh hkh
    refine ⟨p1, _, _, _, rfl, rfl, SqL.of (by rw [upd_ne (Ne.symm ne1)]; exact upd_same), akh, ?_⟩
    have sb1 : SameB r H (upd (upd H p1 (.lst [V.int 1, V.int 2, V.int 3, V.int 5, V.int 26])) r (rngO d1 s0 c1)) := (Same.b (same_upd n1)).trans (SameB.at _ _ _)
    have hr1 : (upd (upd H p1 (.lst [V.int 1, V.int 2, V.int 3, V.int 5, V.int 26])) r (rngO d1 s0 c1)) r = some (rngO d1 s0 c1) := upd_same
    -- longest
    refine ⟨(by show 4 ≤ sizeLine; decide), fun p2 n2 => ?_⟩
    have ne2 : r ≠ p2 := ne_of_none hr1 n2
    refine ⟨_, rfl, r, 4, d1, s0, c1, rfl, (by rw [upd_ne ne2]; exact hr1), ok1, ⟨by decide, by decide⟩, by omega, fun d2 c2 v2 ok2 le2 v20 v21 => ?_⟩
    obtain ⟨lo, hlo, alo⟩ := pick (xs := [1, 2, 3, 9]) v20 v21
    have lo2 : 1 ≤ lo ∧ lo ≤ 9 := (by decide : ∀ x ∈ ([1, 2, 3, 9] : List Int), 1 ≤ x ∧ x ≤ 9) lo hlo
    refine ⟨p2, _, _, _, rfl, rfl, SqL.of (by rw [upd_ne (Ne.symm ne2)]; exact upd_same), alo, ?_⟩
    have sb2 : SameB r H (upd (upd (upd (upd H p1 (.lst [V.int 1, V.int 2, V.int 3, V.int 5, V.int 26])) r (rngO d1 s0 c1)) p2 (.lst [V.int 1, V.int 2, V.int 3, V.int 9])) r (rngO d2 s0 c2)) := sb1.trans ((Same.b (same_upd n2)).trans (SameB.at _ _ _))
    have hr2 : (upd (upd (upd (upd H p1 (.lst [V.int 1, V.int 2, V.int 3, V.int 5, V.int 26])) r (rngO d1 s0 c1)) p2 (.lst [V.int 1, V.int 2, V.int 3, V.int 9])) r (rngO d2 s0 c2)) r = some (rngO d2 s0 c2) := upd_same
    refine ⟨fun m σ H3 => ∃ d3 c3 l y5, m = n - l.length ∧ σ = [some (.ref r), some (.int (n : Nat)), some (.int kh), some (.int lo), some (.str (mk l)), y5] ∧ SameB r H H3 ∧ H3 r = some (rngO d3 s0 c3) ∧ RngOk d3 s0 c3 ∧ c3 ≤ c + 2 + 4 * (l.length : Nat) ∧ Low l ∧ l.length ≤ 209,
      ⟨_, d2, c2, [], none, rfl, rfl, sb2, hr2, ok2, by simp; omega, fun c hc => (by cases hc), by simp⟩, ?_⟩
    rintro m σ H3 ⟨d3, c3, l, y5, rfl, rfl, sb3, hr3, ok3, le3, low3, len3⟩
    have hz3 : (mk l).length ≤ sizeLine := by rw [mk_len]; exact len_line (by omega)
    have last : ∀ (y5 : Option V) (H4 : Hp) (d4 c4 : Int) (l4 : List Nat), SameB r H H4 → H4 r = some (rngO d4 s0 c4) → RngOk d4 s0 c4 → c4 ≤ c + 1000 → Low l4 → l4.length ≤ 209 →
        tRet (tSl rSlS (tVar 4) tNoPart (tPart (tVar 1))) { nx := fun _ H' => Q .non H', rt := Q } [some (.ref r), some (.int (n : Nat)), some (.int kh), some (.int lo), some (.str (mk l4)), y5] H4 := by
      intro y5 H4 d4 c4 l4 sb4 hr4 ok4 le4 low4 len4
      refine ⟨_, rfl, _, rfl, _, rfl, _, rfl, (by rw [mk_len]; exact len_line (by omega)), ?_⟩
      show Q (.str (cutS (mk l4) none (some (n : Int)))) H4
      rw [cutS_take]
      exact q H4 d4 c4 (l4.take n) sb4 hr4 ok4 le4 (fun c hc => low4 c (List.mem_of_mem_take hc)) (by rw [List.length_take]; omega)
    refine ⟨_, rfl, _, rfl, hz3, _, rfl, _, _, rfl, rfl, _, rfl, ?_⟩
    refine ite_b (c := l.length < n) (decide_eq_decide.mpr (by rw [mk_len]; omega)) (fun hb => ?_) (fun hb => ?_)
    · have big : (400 : Int) < 2 ^ 200 := by decide +kernel
      refine ⟨_, fun _ _ h => h, ?_⟩
      refine ⟨_, rfl, _, rfl, r, kh, d3, s0, c3, rfl, hr3, ok3, ⟨by omega, by omega⟩, by omega, fun d4 c4 v4 ok4 le4 v40 v41 => ?_⟩
      obtain ⟨ch, hch, ch0, ch1⟩ := alpha_at v40 (by omega)
      refine ⟨_, _, _, rfl, rfl, (by decide +kernel), hch, ?_⟩
      refine ⟨_, rfl, _, rfl, _, rfl, _, rfl, r, lo, d4, s0, c4, rfl, upd_same, ok4, ⟨by omega, by omega⟩, by omega, fun d5 c5 v5 ok5 le5 v50 v51 => ?_⟩
      have lrep : (reps (1 + v5).toNat [ch]).length = (1 + v5).toNat := by rw [reps_len]; simp
      have lowr : Low (reps (1 + v5).toNat [ch]) := fun c hc => by
        have := reps_mem hc
        rw [List.mem_singleton.mp this]
        exact ⟨ch0, ch1⟩
      refine ⟨_, _, rfl, rfl, [ch], (1 + v5).toNat, rfl, (by rw [Int.toNat_of_nonneg (by omega)]), ⟨by simp; omega, by omega⟩, _, _, rfl, rfl, (by rw [mk_len, mk_len, lrep]; exact len_line (by omega)), ?_⟩
      rw [mk_app]
      have hr5 : (upd (upd H3 r (rngO d4 s0 c4)) r (rngO d5 s0 c5)) r = some (rngO d5 s0 c5) := upd_same
      have sb5 : SameB r H (upd (upd H3 r (rngO d4 s0 c4)) r (rngO d5 s0 c5)) := sb3.trans ((SameB.at _ _ _).trans (SameB.at _ _ _))
      refine ⟨_, rfl, (by show 3 ≤ sizeLine; decide), fun p6 n6 => ?_⟩
      have ne6 : r ≠ p6 := ne_of_none hr5 n6
      refine ⟨_, rfl, r, 3, d5, s0, c5, rfl, (by rw [upd_ne ne6]; exact hr5), ok5, ⟨by decide, by decide⟩, by omega, fun d6 c6 v6 ok6 le6 v60 v61 => ?_⟩
      obtain ⟨x6, hx6, ax6⟩ := pick (xs := [9, 40, 400]) v60 v61
      have x62 : 1 ≤ x6 ∧ x6 ≤ 400 := (by decide : ∀ x ∈ ([9, 40, 400] : List Int), 1 ≤ x ∧ x ≤ 400) x6 hx6
      refine ⟨p6, _, _, _, rfl, rfl, SqL.of (by rw [upd_ne (Ne.symm ne6)]; exact upd_same), ax6, r, x6, d6, s0, c6, rfl, upd_same, ok6, ⟨by omega, by omega⟩, by omega, fun d7 c7 v7 ok7 le7 v70 v71 => ?_⟩
      refine ⟨rfl, _, rfl, ?_⟩
      have sb7 := sb5.trans ((Same.b (same_upd (o := .lst [V.int 9, V.int 40, V.int 400]) n6)).trans ((SameB.at r _ (rngO d6 s0 c6)).trans (SameB.at r _ (rngO d7 s0 c7))))
      have lown : Low (l ++ reps (1 + v5).toNat [ch]) := fun c hc => (List.mem_append.mp hc).elim (low3 c) (lowr c)
      have lenn : (l ++ reps (1 + v5).toNat [ch]).length = l.length + (1 + v5).toNat := by rw [List.length_append, lrep]
      refine ite2 (fun hv => ?_) (fun hv => ?_)
      · exact last _ _ _ _ _ sb7 upd_same ok7 (by omega) lown (by omega)
      · exact ⟨n - (l ++ reps (1 + v5).toNat [ch]).length, by omega, d7, c7, _, _, rfl, rfl, sb7, upd_same, ok7, by omega, lown, by omega⟩
    · exact last _ _ _ _ _ sb3 hr3 ok3 (by omega) low3 len3
end
end Tw

set_option Elab.async false
set_option linter.all false
set_option maxRecDepth 100000
set_option maxHeartbeats 2000000
namespace Tw
open PySem PySem.Spec PyProof.Rows L2
abbrev sOnceL : Stmt := topS 16
abbrev sPairs : Stmt := topS 17
theorem atI_of {α : Type} {xs : List α} {i : Int} {j : Nat} {v : α} (e : i = (j : Nat)) (h : xs[j]? = some v) : atI xs i = some v := by
  subst e
  exact atI_nat h
theorem eqS (t : Bool) : decide (V.str (mk (sOf t)) = V.str "S") = decide (t = false) := by
  rw [str_S]
  refine decide_eq_decide.mpr ?_
  cases t
  · exact ⟨fun _ => rfl, fun _ => rfl⟩
  · exact ⟨fun z => absurd (eq_mk1.mp z) (by decide), fun z => nomatch z⟩
theorem eq1 (c d : Nat) : decide (V.str ⟨#[c]⟩ = V.str ⟨#[d]⟩) = decide (c = d) := decide_eq_decide.mpr eq_mk1
theorem before_pos {l : List Nat} {i c d : Nat} (h : 0 < i) (hc : l[i - 1]? = some c) (hd : l[i]? = some d) : before l i = decide (c = d) := by
  unfold before
  rw [hc, hd, decide_eq_true h, Bool.true_and]
  exact decide_eq_decide.mpr ⟨fun z => Option.some.inj z, fun z => by rw [z]⟩
theorem before_zero {l : List Nat} {i : Nat} (h : ¬ 0 < i) : before l i = false := by
  unfold before
  rw [decide_eq_false h, Bool.false_and]
theorem behind_in {l : List Nat} {i c d : Nat} (h : i + 1 < l.length) (hc : l[i + 1]? = some c) (hd : l[i]? = some d) : behind l i = decide (c = d) := by
  unfold behind
  rw [hc, hd, decide_eq_true h, Bool.true_and]
  exact decide_eq_decide.mpr ⟨fun z => Option.some.inj z, fun z => by rw [z]⟩
theorem behind_out {l : List Nat} {i : Nat} (h : ¬ i + 1 < l.length) : behind l i = false := by
  unfold behind
  rw [decide_eq_false h, Bool.false_and]
section
variable {P : Program} {w : World} {K : PySem.W.Frag} {mg : Str → Option Value} {base : Heap}
theorem scOL : FnScope ["line", "letter", "found", "place", "before", "behind"] ["line", "letter"] (defScope sOnceL) := ⟨rfl, rfl, rfl, by decide +kernel, rfl, by decide +kernel, by decide +kernel⟩
def spOnceL : Sp := fun vs H Q _ => ∃ (l : List Nat) (t : Bool), vs = [.str (mk l), .str (mk (sOf t))] ∧ l.length ≤ 1000 ∧ Q (.str (mk (once t l))) H
theorem ok_onceL {f : Addr} {fd : FuncData} {k : Nat} (F : Fun K "_law_once" "_law_once" sOnceL f fd) (mr : mg "range" = none) (ml : mg "len" = none) : FnOk P w K mg base CX0 (k + 1) f fd ["line", "letter"] spOnceL := by
  refine F.ok scOL (fun vs H Q E h => ?_) (fun cdv A outer s H vs Q E hr h => ?_)
  · obtain ⟨l, t, rfl, _⟩ := h
    rfl
  · obtain ⟨l, t, rfl, hlen, q⟩ := h
    refine ⟨_, pss_cons (ps_set (i := 2) scOL.nd rfl (.inl rfl) pe_str)
      (pss_cons (ps_for PassesOwn.never rfl (pi_range1 (by rfl) mr (pa_cons (pe_callB call_len_str (by rfl) ml PySem.boot_len (pa_cons (pv 0) pa_nil)) pa_nil)) (pg_name (i := 3) scOL.nd rfl (.inl rfl))
        (pss_cons (ps_set (i := 4) scOL.nd rfl (.inl rfl) (pe_and (pe_cmpR op_gt (pv 3) pe_int (nomark _)) (pe_one (pe_cmpR op_eq (pe_ix ix_str (pv 0) (pe_op op_sub (pv 3) pe_int) (fun _ _ => rfl)) (pe_ix ix_str (pv 0) (pv 3) (fun _ _ => rfl)) (nomark _)))))
        (pss_cons (ps_set (i := 5) scOL.nd rfl (.inl rfl) (pe_and (pe_cmpR op_lt (pe_op op_add (pv 3) pe_int) (pe_callB call_len_str (by rfl) ml PySem.boot_len (pa_cons (pv 0) pa_nil)) (nomark _)) (pe_one (pe_cmpR op_eq (pe_ix ix_str (pv 0) (pe_op op_add (pv 3) pe_int) (fun _ _ => rfl)) (pe_ix ix_str (pv 0) (pv 3) (fun _ _ => rfl)) (nomark _)))))
        (pss_cons (ps_if (PW.pt (pw_and (pt_cmpR op_eq (pv 1) pe_str (nomark _)) (pw_and (pt_not (pt_val (pv 4))) (pw_and1 (pt_not (pt_val (pv 5)))))))
          (pss_one (ps_set (i := 2) scOL.nd rfl (.inl rfl) (pe_op op_add_str (pv 2) (pe_ix ix_str (pv 0) (pv 3) (fun _ _ => rfl))))) pss_nil)
        (pss_one (ps_if (PW.pt (pw_and (pt_cmpR op_eq (pv 1) pe_str (nomark _)) (pw_and (pt_val (pv 4)) (pw_and1 (pt_not (pt_val (pv 5)))))))
          (pss_one (ps_set (i := 2) scOL.nd rfl (.inl rfl) (pe_op op_add_str (pv 2) (pe_ix ix_str (pv 0) (pv 3) (fun _ _ => rfl))))) pss_nil))))))
      (pss_one (ps_ret (pv 2)))), ?_⟩
    have hz : (mk l).length ≤ sizeLine := by rw [mk_len]; exact len_line hlen
    have hn : (((mk l).length : Nat) : Int).toNat = l.length := by rw [mk_len]; omega
    refine ⟨_, rfl, _, rfl, hz, _, rfl, by omega, by rw [mk_len]; omega, for_range (fun i σ H' => ∃ y3 y4 y5, σ = [some (.str (mk l)), some (.str (mk (sOf t))), some (.str (mk (upTo t l i))), y3, y4, y5] ∧ H' = H ∧ (upTo t l i).length ≤ i)
      ⟨none, none, none, rfl, rfl, Nat.le_refl _⟩ ?_ ?_⟩
    · rintro i σ H' hi ⟨y3, y4, y5, rfl, rfl, hu⟩
      rw [hn] at hi
      have gi : l[i]? = some l[i] := List.getElem?_eq_getElem hi
      have up1 : upTo t l (i + 1) = upTo t l i ++ (if keepAt t l i = true then [l[i]] else []) := by
        rw [upTo]
        have : l.getD i 0 = l[i] := by simp [List.getD, gi]
        rw [this]
      have fin : ∀ (b b' : Bool) (D : Ends), before l i = b → behind l i = b' → (∀ y3 y4 y5 (z : Str), z = mk (upTo t l (i + 1)) → D.nx [some (.str (mk l)), some (.str (mk (sOf t))), some (.str z), y3, y4, y5] H') →
          (tSeq (tIfS (tAnd (tTest (tOp rEq (tVar 1) (tC (V.str "S")))) (tAnd (tNot (tB (tVar 4))) (tNot (tB (tVar 5))))) (tAsg (tOp (fun x y H Q => ∃ i j, x = .str i ∧ y = .str j ∧ i.length + j.length ≤ sizeLine ∧ Q (.str (i ++ j)) H) (tVar 2) (tOp rIxS (tVar 0) (tVar 3))) (gName 2)) tNext)
            (tIfS (tAnd (tTest (tOp rEq (tVar 1) (tC (V.str "T")))) (tAnd (tB (tVar 4)) (tNot (tB (tVar 5))))) (tAsg (tOp (fun x y H Q => ∃ i j, x = .str i ∧ y = .str j ∧ i.length + j.length ≤ sizeLine ∧ Q (.str (i ++ j)) H) (tVar 2) (tOp rIxS (tVar 0) (tVar 3))) (gName 2)) tNext))
          D [some (.str (mk l)), some (.str (mk (sOf t))), some (.str (mk (upTo t l i))), some (.int (0 + (i : Nat))), some (.bl b), some (.bl b')] H' := by
        intro b b' D hb hb' hD
        have hc : atI (mk l).cps.toList (0 + ((i : Nat) : Int)) = some l[i] := atI_of (by omega) gi
        have hsz : (mk (upTo t l i)).length + (⟨#[l[i]]⟩ : Str).length ≤ sizeLine := by
          rw [mk_len]
          have e : (⟨#[l[i]]⟩ : Str).length = 1 := rfl
          rw [e]
          exact small1000 (by omega)
        have happ : mk (upTo t l i) ++ (⟨#[l[i]]⟩ : Str) = mk (upTo t l i ++ [l[i]]) := mk_app _ _
        have kp : keepAt t l i = (b == t && !b') := by unfold keepAt; rw [hb, hb']
        refine ⟨_, rfl, rfl, _, rfl, ite_b (c := t = false) (eqS t) (fun ht => ?_) (fun ht => ?_)⟩
        · subst ht
          refine ⟨_, rfl, b, rfl, ?_⟩
          cases b
          · refine iteT ⟨_, rfl, b', rfl, ?_⟩
            cases b'
            · refine iteT ⟨_, rfl, _, rfl, _, rfl, _, _, _, rfl, rfl, hz, hc, _, _, rfl, rfl, hsz, ?_⟩
              refine ⟨_, rfl, rfl, _, rfl, ite_b (c := false = true) (eqT false) (fun ht => by cases ht) (fun ht => iteF (hD _ _ _ _ ?_))⟩
              rw [happ, up1, kp]
              rfl
            · refine iteF ⟨_, rfl, rfl, _, rfl, ite_b (c := false = true) (eqT false) (fun ht => by cases ht) (fun ht => iteF (hD _ _ _ (mk (upTo false l i)) ?_))⟩
              rw [up1, kp]
              simp
          · refine iteF (iteF ⟨_, rfl, rfl, _, rfl, ite_b (c := false = true) (eqT false) (fun ht => by cases ht) (fun ht => iteF (hD _ _ _ (mk (upTo false l i)) ?_))⟩)
            rw [up1, kp]
            simp
        · have ht' : t = true := by cases t <;> first | rfl | exact absurd rfl ht
          subst ht'
          refine iteF ⟨_, rfl, rfl, _, rfl, ite_b (c := true = true) (eqT true) (fun ht => ?_) (fun ht => absurd rfl ht)⟩
          refine ⟨_, rfl, b, rfl, ?_⟩
          cases b
          · refine iteF (iteF (hD _ _ _ (mk (upTo true l i)) ?_))
            rw [up1, kp]
            simp
          · refine iteT ⟨_, rfl, b', rfl, ?_⟩
            cases b'
            · refine iteT ⟨_, rfl, _, rfl, _, rfl, _, _, _, rfl, rfl, hz, hc, _, _, rfl, rfl, hsz, hD _ _ _ _ ?_⟩
              rw [happ, up1, kp]
              rfl
            · refine iteF (hD _ _ _ (mk (upTo true l i)) ?_)
              rw [up1, kp]
              simp
      have ulen : (upTo t l (i + 1)).length ≤ i + 1 := by
        rw [up1, List.length_append]
        split <;> simp <;> omega
      have hc : atI (mk l).cps.toList (0 + ((i : Nat) : Int)) = some l[i] := atI_of (by omega) gi
      have hlt : (decide ((0 + ((i : Nat) : Int)) + 1 < ((mk l).length : Nat))) = decide (i + 1 < l.length) := decide_eq_decide.mpr (by rw [mk_len]; omega)
      have done : ∀ b : Bool, before l i = b → tSeq (tAsg (tAndV (tOp (rI0 fun i j => V.bl (decide (i < j))) (tOp (rI0 fun i j => V.int (i + j)) (tVar 3) (tC (V.int 1))) (tCB (fun xs H Q => ∃ z, xs = [V.str z] ∧ z.length ≤ sizeLine ∧ Q (V.int z.length) H) (tCons (tVar 0) tNil)))
            (tOp rEq (tOp rIxS (tVar 0) (tOp (rI0 fun i j => V.int (i + j)) (tVar 3) (tC (V.int 1)))) (tOp rIxS (tVar 0) (tVar 3)))) (gName 5))
          (tSeq (tIfS (tAnd (tTest (tOp rEq (tVar 1) (tC (V.str "S")))) (tAnd (tNot (tB (tVar 4))) (tNot (tB (tVar 5))))) (tAsg (tOp (fun x y H Q => ∃ i j, x = .str i ∧ y = .str j ∧ i.length + j.length ≤ sizeLine ∧ Q (.str (i ++ j)) H) (tVar 2) (tOp rIxS (tVar 0) (tVar 3))) (gName 2)) tNext)
            (tIfS (tAnd (tTest (tOp rEq (tVar 1) (tC (V.str "T")))) (tAnd (tB (tVar 4)) (tNot (tB (tVar 5))))) (tAsg (tOp (fun x y H Q => ∃ i j, x = .str i ∧ y = .str j ∧ i.length + j.length ≤ sizeLine ∧ Q (.str (i ++ j)) H) (tVar 2) (tOp rIxS (tVar 0) (tVar 3))) (gName 2)) tNext))
          { nx := fun σ H1 => ∃ y3 y4 y5, σ = [some (.str (mk l)), some (.str (mk (sOf t))), some (.str (mk (upTo t l (i + 1)))), y3, y4, y5] ∧ H1 = H' ∧ (upTo t l (i + 1)).length ≤ i + 1, rt := Q }
          [some (.str (mk l)), some (.str (mk (sOf t))), some (.str (mk (upTo t l i))), some (.int (0 + (i : Nat))), some (.bl b), y5] H' := by
        intro b hb
        refine ⟨_, rfl, _, _, rfl, rfl, _, rfl, _, rfl, hz, _, _, rfl, rfl, _, rfl, ite_b (c := i + 1 < l.length) hlt (fun h2 => ?_) (fun h2 => ?_)⟩
        · have g2 : l[i + 1]? = some l[i + 1] := List.getElem?_eq_getElem h2
          refine ⟨_, rfl, _, rfl, _, _, rfl, rfl, _, _, _, rfl, rfl, hz, atI_of (by omega) g2, _, rfl, _, rfl, _, _, _, rfl, rfl, hz, hc, rfl, ?_⟩
          rw [eq1]
          refine fin b _ _ hb (behind_in h2 g2 gi) fun y3 y4 y5 z hz => ?_
          rw [hz]
          exact ⟨_, _, _, rfl, rfl, ulen⟩
        · refine fin b _ _ hb (behind_out h2) fun y3 y4 y5 z hz => ?_
          rw [hz]
          exact ⟨_, _, _, rfl, rfl, ulen⟩
      refine ⟨_, rfl, _, _, rfl, rfl, _, rfl, ite_b (c := 0 < i) (decide_eq_decide.mpr (by omega)) (fun h0 => ?_) (fun h0 => ?_)⟩
      · have hi1 : i - 1 < l.length := by omega
        have g1 : l[i - 1]? = some l[i - 1] := List.getElem?_eq_getElem hi1
        refine ⟨_, rfl, _, rfl, _, _, rfl, rfl, _, _, _, rfl, rfl, hz, atI_of (by omega) g1, _, rfl, _, rfl, _, _, _, rfl, rfl, hz, hc, rfl, ?_⟩
        rw [eq1]
        exact done _ (before_pos h0 g1 gi)
      · exact done _ (before_zero h0)
    · rintro σ H' ⟨y3, y4, y5, rfl, rfl, hu⟩
      rw [hn, once_upTo]
      exact ⟨_, rfl, q⟩
end
end Tw

set_option Elab.async false
set_option linter.all false
set_option maxRecDepth 100000
set_option maxHeartbeats 2000000
namespace Tw
open PySem PySem.Spec PyProof.Rows L2
theorem pairsUp_le (l : List Nat) : ∀ i, pairsUp l i ≤ i
  | 0 => Nat.le_refl _
  | i + 1 => by
    have := pairsUp_le l i
    rw [pairsUp]
    split <;> omega
section
variable {P : Program} {w : World} {K : PySem.W.Frag} {mg : Str → Option Value} {base : Heap}
abbrev nPairs : List Str := ["line", "one", "other"]
theorem scPr : FnScope nPairs ["line"] (defScope sPairs) := ⟨rfl, rfl, rfl, by decide +kernel, rfl, by decide +kernel, by decide +kernel⟩
def spPairs : Sp := fun vs H Q _ => ∃ (l : List Nat), vs = [.str (mk l)] ∧ l.length ≤ 1000 ∧ ∀ H', Same H H' → Q (.int (pairs l : Nat)) H'
theorem ok_pairs {f : Addr} {fd : FuncData} {k : Nat} (F : Fun K "_law_pairs" "_law_pairs" sPairs f fd) (mz : mg "zip" = none) (ml : mg "len" = none) : FnOk P w K mg base CX0 (k + 1) f fd ["line"] spPairs := by
  refine F.ok scPr (fun vs H Q E h => ?_) (fun cdv A outer s H vs Q E hr h => ?_)
  · obtain ⟨l, rfl, _⟩ := h
    rfl
  · obtain ⟨l, rfl, hlen, q⟩ := h
    refine ⟨_, pss_one (ps_ret (pe_callB call_len_seq (by rfl) ml PySem.boot_len (pa_cons
        (pe_lc (own := [("one", 1), ("other", 2)]) (g := gTup K 2 (gCons (gName 1) (gCons (gName 2) gNil))) (by rfl) scPr.nd
          (pi_zipS (by rfl) mz (pa_cons (pv 0) (pa_cons (pe_slice sl_str (pv 0) (po_some pe_int) po_none) pa_nil)))
          (blkOk_by (N := nPairs) (sc := defScope sPairs) (by decide +kernel))
          (fun _ _ _ _ _ => pg_tup2 rfl (pg_name (i := 1) scPr.nd rfl (Or.inl rfl) (Or.inr rfl)) (pg_name (i := 2) scPr.nd rfl (Or.inl rfl) (Or.inr rfl)))
          (fun _ _ _ _ _ => pts_one (pt_cmpR op_eq (pv 1) (pv 2) (nomark _))) (fun _ _ _ _ _ => pe_int)) pa_nil))), ?_⟩
    have hz : (mk l).length ≤ sizeLine := by rw [mk_len]; exact len_line hlen
    refine ⟨_, rfl, _, rfl, _, rfl, _, rfl, hz, mk l, mk (l.drop 1), ?_, fun D nD => ?_⟩
    · have := cutS_drop l 1
      show [V.str (mk l), V.str (cutS (mk l) (some 1) none)] = _
      rw [← this]
      rfl
    · have em : min (mk l).cps.size (mk (l.drop 1)).cps.size = l.length - 1 := by
        rw [mk_size, mk_size, List.length_drop]
        omega
      rw [em]
      refine lc_it walkP (fun i H2 => Same H H2 ∧ H2 D = some (.lst (List.replicate (pairsUp l i) (V.int 1)))) ⟨same_upd nD, upd_same⟩ (fun _ _ _ _ => trivial) ?_ ?_
      · rintro i x H2 H3 hi ⟨sm, hD⟩ ⟨T, rfl, nT, rfl⟩
        have h1 : i < l.length := by omega
        have h2 : i + 1 < l.length := by omega
        have g1 : l[i]? = some l[i] := List.getElem?_eq_getElem h1
        have g2 : l[i + 1]? = some l[i + 1] := List.getElem?_eq_getElem h2
        have g3 : (l.drop 1)[i]? = some l[i + 1] := by
          rw [List.getElem?_drop, Nat.add_comm]
          exact g2
        have eD : D ≠ T := ne_of_none hD nT
        refine ⟨T, _, rfl, SqT.of upd_same, rfl, _, _, rfl, _, _, rfl, rfl, rfl, _, rfl, _, rfl, rfl, _, rfl, ?_⟩
        rw [sgn_at g1, sgn_at g3]
        refine ite_b (c := l[i] = l[i + 1]) (decide_eq_decide.mpr eq_mk1) (fun hc => ?_) (fun hc => ?_)
        · have e1 : pairsUp l (i + 1) = pairsUp l i + 1 := by rw [pairsUp, if_pos (by rw [g1, g2, hc])]
          refine ⟨_, (by rw [upd_ne eD]; exact hD), (by rw [List.length_replicate]; exact small1000 (Nat.le_trans (pairsUp_le l i) (by omega))), ?_, ?_⟩
          · intro b o hb
            rw [upd_ne (ne_of_none hb nD), upd_ne (ne_of_none (sm b o hb) nT)]
            exact sm b o hb
          · rw [upd_same, e1, List.replicate_succ']
        · have e1 : pairsUp l (i + 1) = pairsUp l i := by rw [pairsUp, if_neg (by rw [g1, g2]; exact fun z => hc (Option.some.inj z)), Nat.add_zero]
          refine ⟨fun b o hb => ?_, ?_⟩
          · rw [upd_ne (ne_of_none (sm b o hb) nT)]
            exact sm b o hb
          · rw [upd_ne eD, e1]
            exact hD
      · rintro H2 ⟨sm, hD⟩
        refine ⟨D, _, rfl, .inl (SqL.of hD), ?_⟩
        rw [List.length_replicate]
        exact q H2 sm
end
end Tw

set_option Elab.async false
set_option linter.all false
set_option maxRecDepth 100000
set_option maxHeartbeats 2000000
namespace Tw
open PySem PySem.Spec PyProof.Rows L2
abbrev sLaw : Stmt := topS 18
theorem log2_small {n : Nat} (h : n ≤ 100000) : ((n : Int)).natAbs.log2 < 1920 := by
  rw [Int.natAbs_natCast]
  by_cases z : n = 0
  · subst z; decide
  · have : n < 2 ^ 17 := by omega
    have := (Nat.log2_lt z).mpr this
    omega
def dSz (a b : Nat) : PyData := .list [.tuple [.int (a : Nat), .int (b : Nat)], .tuple [.int (a : Nat), .int (b : Nat)]]
theorem int_len {n : Nat} (h : n ≤ 100000) : (Str.ofString (toString (n : Int))).length ≤ 1921 := int_text_len_1921 (log2_small h)
theorem dSz_ok {a b : Nat} (ha : a ≤ 100000) (hb : b ≤ 100000) : (dSz a b).showable = true ∧ (dSz a b).hasDict = false ∧ (dSz a b).depth ≤ 50 ∧ (dSz a b).shown.length ≤ sizeLine := by
  refine ⟨?_, rfl, by show 2 ≤ 50; decide, ?_⟩
  · have h1 := decide_eq_true (log2_small ha)
    have h2 := decide_eq_true (log2_small hb)
    simp only [dSz, PyData.showable, PyData.showableAll, h1, h2, Bool.and_self]
  · have h1 := int_len ha
    have h2 := int_len hb
    have e : (dSz a b).shown = listText [tupleText [Str.ofString (toString (a : Int)), Str.ofString (toString (b : Int))], tupleText [Str.ofString (toString (a : Int)), Str.ofString (toString (b : Int))]] := rfl
    rw [e]
    have t1 := tupleText_le [Str.ofString (toString (a : Int)), Str.ofString (toString (b : Int))]
    have t2 := listText_le [tupleText [Str.ofString (toString (a : Int)), Str.ofString (toString (b : Int))], tupleText [Str.ofString (toString (a : Int)), Str.ofString (toString (b : Int))]]
    simp only [piled_cons, piled_nil] at t1 t2
    have : sizeLine = 16777216 := sizeLine_eq
    omega
def dTx (l : List Nat) : PyData := .list [.str (mk l), .str (mk l)]
theorem dTx_ok {l : List Nat} (hl : l.length ≤ 10000) (low : ∀ c ∈ l, c < 16 ^ 8) : (dTx l).showable = true ∧ (dTx l).hasDict = false ∧ (dTx l).depth ≤ 50 ∧ (dTx l).shown.length ≤ sizeLine := by
  refine ⟨rfl, rfl, by show 1 ≤ 50; decide, ?_⟩
  have e : (dTx l).shown = listText [reprText (mk l), reprText (mk l)] := rfl
  rw [e]
  have h := StrLaws.reprText_len (mk l) low
  rw [mk_len] at h
  have t2 := listText_le [reprText (mk l), reprText (mk l)]
  simp only [piled_cons, piled_nil] at t2
  have : sizeLine = 16777216 := sizeLine_eq
  omega
end Tw

set_option Elab.async false
set_option linter.all false
set_option maxRecDepth 100000
set_option maxHeartbeats 2000000
namespace Tw
open PySem PySem.Spec PyProof.Rows L2
/-- a def of the text: it stands at f, its name holds it, its arguments bind one by one -/
structure Dfn (K : PySem.W.Frag) (mg : Str → Option Value) (x : Str) (st : Stmt) (ps : List Str) (f : Addr) (fd : FuncData) : Prop where
  F : Fun K x x st f fd
  b : Binds K fd ps []
  g : mg x = some (.ref f)
theorem empty_mk : (V.str "") = V.str (mk []) := by decide +kernel
theorem sv_one (l : List Nat) (t : Bool) : sv l (sOf t) = once t l := by cases t <;> rfl
theorem pipe_one (t : Bool) : Pipe (sOf t) := fun c hc => by
  have e := List.mem_singleton.mp hc
  cases t
  · exact .inr e
  · exact .inl e
section
variable {P : Program} {w : World} {K : PySem.W.Frag} {mg : Str → Option Value} {base : Heap}
theorem scLaw : FnScope ["script", "rng", "lap", "line", "due", "letter", "seen"] ["script"] (defScope sLaw) := ⟨rfl, rfl, rfl, by decide +kernel, rfl, by decide +kernel, by decide +kernel⟩
def spLaw (K : PySem.W.Frag) : Sp := fun vs H Q _ => ∃ (a : Addr) (ns : List Int), vs = [.ref a] ∧ SqL K H a (ns.map V.int) ∧ ns.length ≤ 63 ∧ ∀ H', Q (.bl true) H'
theorem ok_law {f fRng fDraw fWord fOL fPr fSz fSv fCR fCP fRO fO : Addr} {fd dRng dDraw dWord dOL dPr dSzd dSv dCR dCP dRO dO : FuncData} (F : Fun K "law" "law" sLaw f fd)
    (DRng : Dfn K mg "_law_rng" sRng ["script"] fRng dRng) (DDraw : Dfn K mg "_law_draw" sDraw ["rng", "limit"] fDraw dDraw) (DWord : Dfn K mg "_law_word" sWord ["rng", "most"] fWord dWord)
    (DOL : Dfn K mg "_law_once" sOnceL ["line", "letter"] fOL dOL) (DPr : Dfn K mg "_law_pairs" sPairs ["line"] fPr dPr) (DSz : Dfn K mg "size" sSize ["row"] fSz dSzd) (DSv : Dfn K mg "sieve" sSieve ["row", "pipeline"] fSv dSv)
    (DCR : Dfn K mg "check_row" sChkRow ["row"] fCR dCR) (DCP : Dfn K mg "check_pipeline" sChkPipe ["pipeline"] fCP dCP) (DRO : Dfn K mg "runs_of" sRuns ["row"] fRO dRO) (DO : Dfn K mg "sieve_once" sOnce ["row", "kind"] fO dO)
    (kSz : KBinds K dSzd ["row"] ["row"] (fun us ws => us ++ ws) (fun us ws => us ++ ws)) (kSv : KBinds K dSv ["row", "pipeline"] ["pipeline", "row"] (fun us ws => us ++ ws.reverse) (fun us ws => us ++ ws.reverse))
    (me : mg "enumerate" = none) (ml : mg "len" = none) (mr : mg "range" = none) (mz : mg "zip" = none) (mm : mg "min" = none) (ma : mg "abs" = none) (mp : mg "repr" = none) :
    RunA P w K mg base CX0 callerA f fd ["script"] (spLaw K) := by
  have GRng : FnOk P w K mg base CX0 3 fRng dRng ["script"] (spRng K) := ok_rng DRng.F ma
  have GDraw : FnOk P w K mg base CX0 3 fDraw dDraw ["rng", "limit"] spDraw := ok_draw DDraw.F
  have GWord : FnOk P w K mg base CX0 3 fWord dWord ["rng", "most"] spWord := ok_word DWord.F DDraw.F DDraw.b DDraw.g ml
  have GOL : FnOk P w K mg base CX0 3 fOL dOL ["line", "letter"] spOnceL := ok_onceL DOL.F mr ml
  have GPr : FnOk P w K mg base CX0 3 fPr dPr ["line"] spPairs := ok_pairs DPr.F mz ml
  have GSz : FnOk P w K mg base CX0 3 fSz dSzd ["row"] spSize := ok_size DSz.F DCR.F DCR.b DCR.g DRO.F DRO.b DRO.g me ml
  have GSv : FnOk P w K mg base CX0 3 fSv dSv ["row", "pipeline"] spSieve := ok_sieve DSv.F DCR.F DCR.b DCR.g DCP.F DCP.b DCP.g DO.F DO.b DO.g DRO.F DRO.b DRO.g me
  refine runA_of (k := 3) F scLaw ⟨rfl, by decide, by decide⟩ (fun vs H Q E h => ?_) (fun cdv s H vs Q E hr h => ?_)
  · obtain ⟨a, ns, rfl, _⟩ := h
    rfl
  · obtain ⟨a, ns, rfl, hS, hlen, q⟩ := h
    refine ⟨_, PSs.nox (pss_cons (ps_set (i := 1) scLaw.nd rfl (.inl rfl) (pe_call GRng hr rfl DRng.g DRng.F.kp DRng.b .nil pass0 (pa_cons (pv 0) pa_nil)))
      (pss_cons (ps_for PassesOwn.never rfl (pi_range1 (by rfl) mr (pa_cons (pe_op op_add pe_int (pe_callB (call_min2 rfl) (by rfl) mm boot_min (pa_cons pe_int (pa_cons (pe_callB call_len_seq (by rfl) ml PySem.boot_len (pa_cons (pv 0) pa_nil)) pa_nil)))) pa_nil)) (pg_name (i := 2) scLaw.nd rfl (.inl rfl))
        (pss_cons (ps_set (i := 3) scLaw.nd rfl (.inl rfl) (pe_call GWord hr rfl DWord.g DWord.F.kp DWord.b .nil pass0 (pa_cons (pv 1) (pa_cons (pe_ix ix_list (pe_lst (pa_cons pe_int (pa_cons pe_int (pa_cons pe_int pa_nil))))
            (pe_call GDraw hr rfl DDraw.g DDraw.F.kp DDraw.b .nil pass0 (pa_cons (pv 1) (pa_cons pe_int pa_nil))) (fun _ _ => rfl)) pa_nil))))
        (pss_cons (ps_set (i := 4) scLaw.nd rfl (.inl rfl) (pe_tup (pa_cons (pe_callB call_len_str (by rfl) ml PySem.boot_len (pa_cons (pv 3) pa_nil)) (pa_cons (pe_call GPr hr rfl DPr.g DPr.F.kp DPr.b .nil pass0 (pa_cons (pv 3) pa_nil)) pa_nil))))
        (pss_cons (ps_if (pt_cmpR op_ne
            (pe_callB (call_reprD rfl hr.units) (by rfl) mp boot_repr (pa_cons (pe_lst (pa_cons (pe_call GSz hr rfl DSz.g DSz.F.kp DSz.b .nil pass0 (pa_cons (pv 3) pa_nil)) (pa_cons (pe_callK0 GSz hr rfl DSz.g DSz.F.kp kSz pass0 (pk_cons (pv 3) pk_nil)) pa_nil))) pa_nil))
            (pe_callB (call_reprD rfl hr.units) (by rfl) mp boot_repr (pa_cons (pe_lst (pa_cons (pv 4) (pa_cons (pv 4) pa_nil))) pa_nil)) (nomark _)) (pss_one (ps_ret pe_bl)) pss_nil)
        (pss_cons (ps_for PassesOwn.never rfl (pi_list (pe_lst (pa_cons pe_str (pa_cons pe_str pa_nil)))) (pg_name (i := 5) scLaw.nd rfl (.inl rfl))
          (pss_cons (ps_set (i := 6) scLaw.nd rfl (.inl rfl) (pe_call GOL hr rfl DOL.g DOL.F.kp DOL.b .nil pass0 (pa_cons (pv 3) (pa_cons (pv 5) pa_nil))))
          (pss_one (ps_if (pt_cmpR op_ne
            (pe_callB (call_reprD rfl hr.units) (by rfl) mp boot_repr (pa_cons (pe_lst (pa_cons (pe_call GSv hr rfl DSv.g DSv.F.kp DSv.b .nil pass0 (pa_cons (pv 3) (pa_cons (pv 5) pa_nil))) (pa_cons (pe_callK0 GSv hr rfl DSv.g DSv.F.kp kSv pass0 (pk_cons (pv 5) (pk_cons (pv 3) pk_nil))) pa_nil))) pa_nil))
            (pe_callB (call_reprD rfl hr.units) (by rfl) mp boot_repr (pa_cons (pe_lst (pa_cons (pv 6) (pa_cons (pv 6) pa_nil))) pa_nil)) (nomark _)) (pss_one (ps_ret pe_bl)) pss_nil))))
        (pss_one (ps_if (PW.pt (pw_or (pt_cmpR op_ne
              (pe_op op_add (pe_callB call_len_str (by rfl) ml PySem.boot_len (pa_cons (pe_call GSv hr rfl DSv.g DSv.F.kp DSv.b .nil pass0 (pa_cons (pv 3) (pa_cons pe_str pa_nil))) pa_nil))
                (pe_callB call_len_str (by rfl) ml PySem.boot_len (pa_cons (pe_call GSv hr rfl DSv.g DSv.F.kp DSv.b .nil pass0 (pa_cons (pv 3) (pa_cons pe_str pa_nil))) pa_nil)))
              (pe_op op_sub (pe_callB call_len_str (by rfl) ml PySem.boot_len (pa_cons (pv 3) pa_nil)) (pe_call GPr hr rfl DPr.g DPr.F.kp DPr.b .nil pass0 (pa_cons (pv 3) pa_nil))) (nomark _))
            (pw_or1 (pt_cmpR op_ne (pe_call GSv hr rfl DSv.g DSv.F.kp DSv.b .nil pass0 (pa_cons (pv 3) (pa_cons pe_str pa_nil))) (pv 3) (nomark _))))) (pss_one (ps_ret pe_bl)) pss_nil)))))))
      (pss_one (ps_ret (pe_cmpR (op_eqD hr.units)
        (pe_lst (pa_cons (pe_call GSz hr rfl DSz.g DSz.F.kp DSz.b .nil pass0 (pa_cons pe_str pa_nil)) (pa_cons (pe_call GSv hr rfl DSv.g DSv.F.kp DSv.b .nil pass0 (pa_cons pe_str (pa_cons pe_str pa_nil)))
          (pa_cons (pe_call GSv hr rfl DSv.g DSv.F.kp DSv.b .nil pass0 (pa_cons pe_str (pa_cons pe_str pa_nil))) (pa_cons (pe_call GSv hr rfl DSv.g DSv.F.kp DSv.b .nil pass0 (pa_cons pe_str (pa_cons pe_str pa_nil))) pa_nil)))))
        (pe_lst (pa_cons (pe_tup (pa_cons pe_int (pa_cons pe_int pa_nil))) (pa_cons pe_str (pa_cons pe_str (pa_cons pe_str pa_nil))))) (nomark _)))))), ?_⟩
    -- rng
    refine ⟨_, rfl, a, ns, rfl, hS, hlen, fun H1 r d s0 sm1 nr hr1 ok1 => ?_⟩
    have hS1 : SqL K H1 a (ns.map V.int) := sm1.seq hS
    -- the laps
    have nl : (if (((ns.map V.int).length : Nat) : Int) < 12 then (((ns.map V.int).length : Nat) : Int) else 12) ≤ 12 ∧ 0 ≤ (if (((ns.map V.int).length : Nat) : Int) < 12 then (((ns.map V.int).length : Nat) : Int) else 12) := by
      split <;> omega
    refine ⟨_, rfl, a, _, rfl, .inl hS1, _, _, rfl, _, _, rfl, rfl, _, rfl, by omega, by omega, for_range (fun i σ H' => ∃ d c y2 y3 y4 y5 y6, σ = [some (.ref a), some (.ref r), y2, y3, y4, y5, y6] ∧ H' r = some (rngO d s0 c) ∧ RngOk d s0 c ∧ c ≤ 2000 * (i : Nat) ∧ i ≤ 18)
      ⟨d, 0, none, none, none, none, none, rfl, hr1, ok1, by omega, by omega⟩ ?_ ?_⟩
    · rintro i σ H2 hi ⟨d2, c2, y2, y3, y4, y5, y6, rfl, hr2, ok2, le2, i18⟩
      have i17 : i + 1 ≤ 18 := by omega
      have hi2 : i + 1 ≤ 18 := by omega
      -- line
      refine ⟨_, rfl, (by show 3 ≤ sizeLine; decide), fun p3 n3 => ?_⟩
      have ne3 : r ≠ p3 := ne_of_none hr2 n3
      refine ⟨_, rfl, r, 3, d2, s0, c2, rfl, (by rw [upd_ne ne3]; exact hr2), ok2, ⟨by decide, by decide⟩, by omega, fun d3 c3 v3 ok3 le3 v30 v31 => ?_⟩
      obtain ⟨x3, hx3, ax3⟩ := pick (xs := [6, 40, 200]) v30 v31
      obtain ⟨n, rfl, hn⟩ : ∃ n : Nat, x3 = (n : Nat) ∧ n ≤ 200 := by
        have h : ∀ x ∈ ([6, 40, 200] : List Int), ((x.toNat : Nat) : Int) = x ∧ x.toNat ≤ 200 := by decide
        exact ⟨x3.toNat, (h x3 hx3).1.symm, (h x3 hx3).2⟩
      refine ⟨p3, _, _, _, rfl, rfl, SqL.of (by rw [upd_ne (Ne.symm ne3)]; exact upd_same), ax3, r, n, d3, s0, c3, rfl, hn, upd_same, ok3, by omega, fun H4 d4 c4 l sb4 hr4 ok4 le4 low llen => ?_⟩
      have l1000 : l.length ≤ 1000 := by omega
      have hz : (mk l).length ≤ sizeLine := by rw [mk_len]; exact len_line l1000
      have pl : pairs l ≤ l.length := by have := runs_len l; omega
      -- due
      refine ⟨_, rfl, _, rfl, hz, _, rfl, l, rfl, l1000, fun H5 sm5 => ⟨(by show 2 ≤ sizeLine; decide), fun t6 n6 => ?_⟩⟩
      have hr6 : (upd H5 t6 (.tup [V.int ((mk l).length : Nat), V.int (pairs l : Nat)])) r = some (rngO d4 s0 c4) := same_upd n6 _ _ (sm5 _ _ hr4)
      have ht6 : (upd H5 t6 (.tup [V.int ((mk l).length : Nat), V.int (pairs l : Nat)])) t6 = some (.tup [V.int (l.length : Nat), V.int (pairs l : Nat)]) := by rw [upd_same, mk_len]
      -- size twice
      refine ⟨_, rfl, l, rfl, ⟨low, l1000⟩, fun H7 p7 sm7 n7 h7 => ?_⟩
      refine ⟨_, rfl, l, rfl, ⟨low, l1000⟩, fun H8 p8 sm8 n8 h8 => ⟨(by show 2 ≤ sizeLine; decide), fun q8 nq8 => ?_⟩⟩
      have k1 := dSz_ok (a := l.length) (b := pairs l) (by omega) (by omega)
      have sq8 := same_upd (o := .lst [V.ref p7, V.ref p8]) nq8
      have at7 := sq8 _ _ (sm8 _ _ h7)
      have at8 := sq8 _ _ h8
      have at6 := sq8 _ _ (sm8 _ _ (sm7 _ _ ht6))
      have atr := sq8 _ _ (sm8 _ _ (sm7 _ _ hr6))
      have dpT : ∀ (H : Hp) (p : Addr), H p = some (.tup [V.int (l.length : Nat), V.int (pairs l : Nat)]) → Dp K H (.ref p) (.tuple [.int (l.length : Nat), .int (pairs l : Nat)]) := fun H p h =>
        .tup (SqT.of h) (.cons (.int _) (.cons (.int _) .nil))
      refine ⟨q8, dSz l.length (pairs l), rfl, .lst (SqL.of upd_same) (.cons (dpT _ _ at7) (.cons (dpT _ _ at8) .nil)), k1.1, k1.2.1, k1.2.2.1, k1.2.2.2, ?_⟩
      refine ⟨_, rfl, _, rfl, (by show 2 ≤ sizeLine; decide), fun q9 nq9 => ?_⟩
      have sq9 := same_upd (o := .lst [V.ref t6, V.ref t6]) nq9
      refine ⟨q9, dSz l.length (pairs l), rfl, .lst (SqL.of upd_same) (.cons (dpT _ _ (sq9 _ _ at6)) (.cons (dpT _ _ (sq9 _ _ at6)) .nil)), k1.1, k1.2.1, k1.2.2.1, k1.2.2.2, ?_⟩
      refine ⟨rfl, _, rfl, iteNS rfl ?_⟩
      have atr9 := sq9 _ _ atr
      -- the two sieves
      refine ⟨(by show 2 ≤ sizeLine; decide), fun pL nL => ⟨pL, rfl, ⟨_, SqL.of upd_same⟩, ?_⟩⟩
      have atrL := same_upd (o := .lst [V.str "T", V.str "S"]) nL _ _ atr9
      refine for_list (xs := [V.str "T", V.str "S"]) (fun j σ H' => ∃ y5 y6, σ = [some (.ref a), some (.ref r), some (.int (0 + (i : Nat))), some (.str (mk l)), some (.ref t6), y5, y6] ∧ H' r = some (rngO d4 s0 c4) ∧ H' pL = some (.lst [V.str "T", V.str "S"]))
        ⟨y5, y6, rfl, atrL, upd_same⟩ (fun _ _ H' _ ⟨_, _, _, _, h⟩ => SqL.of h) ?_ ?_
      · rintro j x σ H10 hx ⟨z5, z6, rfl, hr10, hL10⟩
        obtain ⟨t, rfl⟩ : ∃ t, x = V.str (mk (sOf t)) := by
          have hx' : x ∈ [V.str "T", V.str "S"] := List.mem_of_getElem? hx
          rcases List.mem_cons.mp hx' with e | e
          · exact ⟨true, by rw [e, str_T]; rfl⟩
          · exact ⟨false, by rw [List.mem_singleton.mp e, str_S]; rfl⟩
        refine ⟨_, rfl, _, rfl, l, t, rfl, l1000, ?_⟩
        refine ⟨_, rfl, _, rfl, l, sOf t, rfl, ⟨low, l1000, pipe_one t⟩, fun H11 sm11 => ?_⟩
        refine ⟨_, rfl, _, rfl, l, sOf t, rfl, ⟨low, l1000, pipe_one t⟩, fun H12 sm12 => ⟨(by show 2 ≤ sizeLine; decide), fun q13 n13 => ?_⟩⟩
        have k2 : ∀ m : List Nat, m = once t l → (dTx m).showable = true ∧ (dTx m).hasDict = false ∧ (dTx m).depth ≤ 50 ∧ (dTx m).shown.length ≤ sizeLine := fun m e => by
          rw [e]
          exact dTx_ok (Nat.le_trans (once_le t l) (by omega)) fun c hc => by have := low c (once_mem hc); omega
        have k3 := k2 _ (sv_one l t)
        have k4 := k2 _ rfl
        have sq13 := same_upd (o := .lst [V.str (mk (sv l (sOf t))), V.str (mk (sv l (sOf t)))]) n13
        refine ⟨q13, dTx (sv l (sOf t)), rfl, .lst (SqL.of upd_same) (.cons (.str _) (.cons (.str _) .nil)), k3.1, k3.2.1, k3.2.2.1, k3.2.2.2, ?_⟩
        refine ⟨_, rfl, _, rfl, (by show 2 ≤ sizeLine; decide), fun q14 n14 => ?_⟩
        have sq14 := same_upd (o := .lst [V.str (mk (once t l)), V.str (mk (once t l))]) n14
        refine ⟨q14, dTx (once t l), rfl, .lst (SqL.of upd_same) (.cons (.str _) (.cons (.str _) .nil)), k4.1, k4.2.1, k4.2.2.1, k4.2.2.2, ?_⟩
        refine ⟨rfl, _, rfl, iteNS (by rw [sv_one]) ?_⟩
        exact ⟨_, _, rfl, sq14 _ _ (sq13 _ _ (sm12 _ _ (sm11 _ _ hr10))), sq14 _ _ (sq13 _ _ (sm12 _ _ (sm11 _ _ hL10)))⟩
      · rintro σ H10 ⟨z5, z6, rfl, hr10, hL10⟩
        have zT : (V.str "T") = V.str (mk (sOf true)) := str_T
        have zS : (V.str "S") = V.str (mk (sOf false)) := str_S
        have zl : ∀ p : List Nat, (mk (sv l p)).length ≤ sizeLine := fun p => by rw [mk_len]; exact len_line (Nat.le_trans (sv_le l p) l1000)
        refine ⟨_, rfl, l, sOf true, congrArg (fun z => [V.str (mk l), z]) zT, ⟨low, l1000, pipe_one true⟩, fun H11 sm11 => ⟨_, rfl, zl _, ?_⟩⟩
        refine ⟨_, rfl, l, sOf false, congrArg (fun z => [V.str (mk l), z]) zS, ⟨low, l1000, pipe_one false⟩, fun H12 sm12 => ⟨_, rfl, zl _, _, _, rfl, rfl, ?_⟩⟩
        refine ⟨_, rfl, _, rfl, hz, _, rfl, l, rfl, l1000, fun H13 sm13 => ⟨_, _, rfl, rfl, rfl, _, rfl, iteNS ?_ ?_⟩⟩
        · have h1 := once_both l
          show V.int (((mk (sv l (sOf true))).length : Nat) + ((mk (sv l (sOf false))).length : Nat)) = V.int (((mk l).length : Nat) - (pairs l : Nat))
          rw [mk_len, mk_len, mk_len, sv_one, sv_one]
          congr 1
          omega
        · refine ⟨_, rfl, l, [], congrArg (fun z => [V.str (mk l), z]) empty_mk, ⟨low, l1000, fun c hc => by cases hc⟩, fun H14 sm14 => ⟨_, rfl, rfl, _, rfl, iteNS rfl ?_⟩⟩
          exact ⟨d4, c4, _, _, _, _, _, rfl, sm14 _ _ (sm13 _ _ (sm12 _ _ (sm11 _ _ hr10))), ok4, by omega, hi2⟩
    · rintro σ H2 ⟨d2, c2, y2, y3, y4, y5, y6, rfl, hr2, ok2, le2, i18⟩
      have zT : (V.str "T") = V.str (mk (sOf true)) := str_T
      have zS : (V.str "S") = V.str (mk (sOf false)) := str_S
      have zA : (V.str "aabaa") = V.str (mk [97, 97, 98, 97, 97]) := by decide +kernel
      have nilLow : Low [] := fun c hc => by cases hc
      have aLow : Low [97, 97, 98, 97, 97] := (by decide : ∀ c ∈ [97, 97, 98, 97, 97], 97 ≤ c ∧ c ≤ 122)
      refine ⟨[], congrArg (fun z => [z]) empty_mk, ⟨nilLow, by decide⟩, fun H3 p3 sm3 n3 h3 => ?_⟩
      refine ⟨[], sOf true, (by rw [empty_mk, zT]; rfl), ⟨nilLow, by decide, pipe_one true⟩, fun H4 sm4 => ?_⟩
      refine ⟨[], sOf false, (by rw [empty_mk, zS]; rfl), ⟨nilLow, by decide, pipe_one false⟩, fun H5 sm5 => ?_⟩
      refine ⟨[97, 97, 98, 97, 97], sOf true, (by rw [zA, zT]; rfl), ⟨aLow, by decide, pipe_one true⟩, fun H6 sm6 => ⟨(by show 4 ≤ sizeLine; decide), fun q7 n7 => ?_⟩⟩
      refine ⟨(by show 2 ≤ sizeLine; decide), fun q8 n8 => ⟨(by show 4 ≤ sizeLine; decide), fun q9 n9 => ?_⟩⟩
      have at3 := sm6 _ _ (sm5 _ _ (sm4 _ _ h3))
      have s7 := same_upd (o := .lst [V.ref p3, V.str (mk (sv [] (sOf true))), V.str (mk (sv [] (sOf false))), V.str (mk (sv [97, 97, 98, 97, 97] (sOf true)))]) n7
      have s8 := same_upd (o := .tup [V.int 0, V.int 0]) n8
      have s9 := same_upd (o := .lst [V.ref q8, V.str "", V.str "", V.str "aa"]) n9
      have a7 := s9 _ _ (s8 _ _ (upd_same (H := H6) (a := q7) (o := .lst [V.ref p3, V.str (mk (sv [] (sOf true))), V.str (mk (sv [] (sOf false))), V.str (mk (sv [97, 97, 98, 97, 97] (sOf true)))])))
      have b3 := s9 _ _ (s8 _ _ (s7 _ _ at3))
      have a8 := s9 _ _ (upd_same (H := upd H6 q7 (.lst [V.ref p3, V.str (mk (sv [] (sOf true))), V.str (mk (sv [] (sOf false))), V.str (mk (sv [97, 97, 98, 97, 97] (sOf true)))])) (a := q8) (o := .tup [V.int 0, V.int 0]))
      refine ⟨.list [.tuple [.int (([] : List Nat).length : Nat), .int (pairs [] : Nat)], .str (mk (sv [] (sOf true))), .str (mk (sv [] (sOf false))), .str (mk (sv [97, 97, 98, 97, 97] (sOf true)))], .list [.tuple [.int 0, .int 0], .str "", .str "", .str "aa"],
        .lst (SqL.of a7) (.cons (.tup (SqT.of b3) (.cons (.int _) (.cons (.int _) .nil))) (.cons (.str _) (.cons (.str _) (.cons (.str _) .nil)))),
        .lst (SqL.of upd_same) (.cons (.tup (SqT.of a8) (.cons (.int _) (.cons (.int _) .nil))) (.cons (.str _) (.cons (.str _) (.cons (.str _) .nil)))), by decide +kernel, by decide +kernel, ?_⟩
      have e : PyData.eqv (.list [.tuple [.int (([] : List Nat).length : Nat), .int (pairs [] : Nat)], .str (mk (sv [] (sOf true))), .str (mk (sv [] (sOf false))), .str (mk (sv [97, 97, 98, 97, 97] (sOf true)))]) (.list [.tuple [.int 0, .int 0], .str "", .str "", .str "aa"]) = true := by decide +kernel
      rw [e]
      exact q _
end
end Tw

set_option Elab.async false
set_option linter.all false
set_option maxRecDepth 100000
set_option maxHeartbeats 2000000
namespace Tw
open PySem PySem.Spec PyProof.Rows L2
theorem dfn_mk {K : PySem.W.Frag} {mg : Str → Option Value} {h : Heap} (X : K.In h) (G : h.Ns mainGlobals mg) {x : Str} {st : Stmt} {ps : List Str} {f : Addr} {oc : Value} {od an : Option Addr} {sl : Array (Option Value)} {kV dc pm cd ct : Value}
    (a : PySem.W.nsIn K mainGlobals x = some (some (.ref f))) (l : K.lookup f = some ⟨oc, od, .func (PySem.W.fnOf x x (defArgs st) (defBody st) (defScope st) .none kV dc pm an cd ct), sl⟩)
    (c : PySem.W.codeIn K cd x = true) (k : PySem.W.keepIn K (.ref f) = true)
    (b : ∀ (kV doc pm : Value) (an : Option Addr) (cdv ct : Value) (us : List Value), us.length = ps.length → bindArgs (PySem.W.fnOf x x (defArgs st) (defBody st) (defScope st) .none kV doc pm an cdv ct) ⟨us, []⟩ = pure (ps.zip us)) :
    Dfn K mg x st ps f (PySem.W.fnOf x x (defArgs st) (defBody st) (defScope st) .none kV dc pm an cd ct) :=
  ⟨fun_mk l c k, (fun_mk l c k).binds b, PySem.W.mg_of X G a⟩
theorem kb1 {K : PySem.W.Frag} {f : Addr} {fd : FuncData} (F : Fun K "size" "size" sSize f fd) : KBinds K fd ["row"] ["row"] (fun us ws => us ++ ws) (fun us ws => us ++ ws) :=
  fun_kbinds F (fun kV dc pm an cd ct us ws hl => match us, ws, hl with
    | [], [_], _ => rfl
    | [_], [], _ => rfl
    | [], [], h => by cases h
    | [], _ :: _ :: _, h => by simp at h
    | [_], _ :: _, h => by simp at h
    | _ :: _ :: _, _, h => by simp at h) (fun a b => Vals.append a b)
theorem kb2 {K : PySem.W.Frag} {f : Addr} {fd : FuncData} (F : Fun K "sieve" "sieve" sSieve f fd) : KBinds K fd ["row", "pipeline"] ["pipeline", "row"] (fun us ws => us ++ ws.reverse) (fun us ws => us ++ ws.reverse) :=
  fun_kbinds F (fun kV dc pm an cd ct us ws hl => match us, ws, hl with
    | [], [_, _], _ => rfl
    | [_], [_], _ => rfl
    | [_, _], [], _ => rfl
    | [], [], h => by cases h
    | [], [_], h => by cases h
    | [], _ :: _ :: _ :: _, h => by simp at h
    | [_], [], h => by cases h
    | [_], _ :: _ :: _, h => by simp at h
    | [_, _], _ :: _, h => by simp at h
    | _ :: _ :: _ :: _, _, h => by simp at h) (fun a b => Vals.append a (vals_rev b))
end Tw

set_option Elab.async false
set_option linter.all false
set_option maxRecDepth 100000
set_option maxHeartbeats 2000000
namespace Tw
open PySem PySem.Spec PyProof.Rows L2
theorem all_mk {l : PySem.W.OpenLaw} {w : World} {K : PySem.W.Frag} {h : Heap} {mg : Str → Option Value} {fa f0 : Addr} (X : K.In h) (G : h.Ns mainGlobals mg) (hfa : mg "law" = some (.ref fa))
    {od0 an0 : Option Addr} {sl0 : Array (Option Value)} {oc0 kV0 dc0 pm0 cd0 ct0 : Value}
    {f1 : Addr} {od1 an1 : Option Addr} {sl1 : Array (Option Value)} {oc1 kV1 dc1 pm1 cd1 ct1 : Value}
    {f2 : Addr} {od2 an2 : Option Addr} {sl2 : Array (Option Value)} {oc2 kV2 dc2 pm2 cd2 ct2 : Value}
    {f3 : Addr} {od3 an3 : Option Addr} {sl3 : Array (Option Value)} {oc3 kV3 dc3 pm3 cd3 ct3 : Value}
    {f4 : Addr} {od4 an4 : Option Addr} {sl4 : Array (Option Value)} {oc4 kV4 dc4 pm4 cd4 ct4 : Value}
    {f5 : Addr} {od5 an5 : Option Addr} {sl5 : Array (Option Value)} {oc5 kV5 dc5 pm5 cd5 ct5 : Value}
    {f6 : Addr} {od6 an6 : Option Addr} {sl6 : Array (Option Value)} {oc6 kV6 dc6 pm6 cd6 ct6 : Value}
    {f7 : Addr} {od7 an7 : Option Addr} {sl7 : Array (Option Value)} {oc7 kV7 dc7 pm7 cd7 ct7 : Value}
    {f8 : Addr} {od8 an8 : Option Addr} {sl8 : Array (Option Value)} {oc8 kV8 dc8 pm8 cd8 ct8 : Value}
    {f9 : Addr} {od9 an9 : Option Addr} {sl9 : Array (Option Value)} {oc9 kV9 dc9 pm9 cd9 ct9 : Value}
    {f10 : Addr} {od10 an10 : Option Addr} {sl10 : Array (Option Value)} {oc10 kV10 dc10 pm10 cd10 ct10 : Value}
    {f11 : Addr} {od11 an11 : Option Addr} {sl11 : Array (Option Value)} {oc11 kV11 dc11 pm11 cd11 ct11 : Value}
    (a0 : PySem.W.nsIn K mainGlobals "law" = some (some (.ref f0))) (l0 : K.lookup f0 = some ⟨oc0, od0, .func (PySem.W.fnOf "law" "law" (defArgs sLaw) (defBody sLaw) (defScope sLaw) .none kV0 dc0 pm0 an0 cd0 ct0), sl0⟩) (c0 : PySem.W.codeIn K cd0 "law" = true) (k0 : PySem.W.keepIn K (.ref f0) = true)
    (a1 : PySem.W.nsIn K mainGlobals "_law_rng" = some (some (.ref f1))) (l1 : K.lookup f1 = some ⟨oc1, od1, .func (PySem.W.fnOf "_law_rng" "_law_rng" (defArgs sRng) (defBody sRng) (defScope sRng) .none kV1 dc1 pm1 an1 cd1 ct1), sl1⟩) (c1 : PySem.W.codeIn K cd1 "_law_rng" = true) (k1 : PySem.W.keepIn K (.ref f1) = true)
    (a2 : PySem.W.nsIn K mainGlobals "_law_draw" = some (some (.ref f2))) (l2 : K.lookup f2 = some ⟨oc2, od2, .func (PySem.W.fnOf "_law_draw" "_law_draw" (defArgs sDraw) (defBody sDraw) (defScope sDraw) .none kV2 dc2 pm2 an2 cd2 ct2), sl2⟩) (c2 : PySem.W.codeIn K cd2 "_law_draw" = true) (k2 : PySem.W.keepIn K (.ref f2) = true)
    (a3 : PySem.W.nsIn K mainGlobals "_law_word" = some (some (.ref f3))) (l3 : K.lookup f3 = some ⟨oc3, od3, .func (PySem.W.fnOf "_law_word" "_law_word" (defArgs sWord) (defBody sWord) (defScope sWord) .none kV3 dc3 pm3 an3 cd3 ct3), sl3⟩) (c3 : PySem.W.codeIn K cd3 "_law_word" = true) (k3 : PySem.W.keepIn K (.ref f3) = true)
    (a4 : PySem.W.nsIn K mainGlobals "_law_once" = some (some (.ref f4))) (l4 : K.lookup f4 = some ⟨oc4, od4, .func (PySem.W.fnOf "_law_once" "_law_once" (defArgs sOnceL) (defBody sOnceL) (defScope sOnceL) .none kV4 dc4 pm4 an4 cd4 ct4), sl4⟩) (c4 : PySem.W.codeIn K cd4 "_law_once" = true) (k4 : PySem.W.keepIn K (.ref f4) = true)
    (a5 : PySem.W.nsIn K mainGlobals "_law_pairs" = some (some (.ref f5))) (l5 : K.lookup f5 = some ⟨oc5, od5, .func (PySem.W.fnOf "_law_pairs" "_law_pairs" (defArgs sPairs) (defBody sPairs) (defScope sPairs) .none kV5 dc5 pm5 an5 cd5 ct5), sl5⟩) (c5 : PySem.W.codeIn K cd5 "_law_pairs" = true) (k5 : PySem.W.keepIn K (.ref f5) = true)
    (a6 : PySem.W.nsIn K mainGlobals "size" = some (some (.ref f6))) (l6 : K.lookup f6 = some ⟨oc6, od6, .func (PySem.W.fnOf "size" "size" (defArgs sSize) (defBody sSize) (defScope sSize) .none kV6 dc6 pm6 an6 cd6 ct6), sl6⟩) (c6 : PySem.W.codeIn K cd6 "size" = true) (k6 : PySem.W.keepIn K (.ref f6) = true)
    (a7 : PySem.W.nsIn K mainGlobals "sieve" = some (some (.ref f7))) (l7 : K.lookup f7 = some ⟨oc7, od7, .func (PySem.W.fnOf "sieve" "sieve" (defArgs sSieve) (defBody sSieve) (defScope sSieve) .none kV7 dc7 pm7 an7 cd7 ct7), sl7⟩) (c7 : PySem.W.codeIn K cd7 "sieve" = true) (k7 : PySem.W.keepIn K (.ref f7) = true)
    (a8 : PySem.W.nsIn K mainGlobals "check_row" = some (some (.ref f8))) (l8 : K.lookup f8 = some ⟨oc8, od8, .func (PySem.W.fnOf "check_row" "check_row" (defArgs sChkRow) (defBody sChkRow) (defScope sChkRow) .none kV8 dc8 pm8 an8 cd8 ct8), sl8⟩) (c8 : PySem.W.codeIn K cd8 "check_row" = true) (k8 : PySem.W.keepIn K (.ref f8) = true)
    (a9 : PySem.W.nsIn K mainGlobals "check_pipeline" = some (some (.ref f9))) (l9 : K.lookup f9 = some ⟨oc9, od9, .func (PySem.W.fnOf "check_pipeline" "check_pipeline" (defArgs sChkPipe) (defBody sChkPipe) (defScope sChkPipe) .none kV9 dc9 pm9 an9 cd9 ct9), sl9⟩) (c9 : PySem.W.codeIn K cd9 "check_pipeline" = true) (k9 : PySem.W.keepIn K (.ref f9) = true)
    (a10 : PySem.W.nsIn K mainGlobals "runs_of" = some (some (.ref f10))) (l10 : K.lookup f10 = some ⟨oc10, od10, .func (PySem.W.fnOf "runs_of" "runs_of" (defArgs sRuns) (defBody sRuns) (defScope sRuns) .none kV10 dc10 pm10 an10 cd10 ct10), sl10⟩) (c10 : PySem.W.codeIn K cd10 "runs_of" = true) (k10 : PySem.W.keepIn K (.ref f10) = true)
    (a11 : PySem.W.nsIn K mainGlobals "sieve_once" = some (some (.ref f11))) (l11 : K.lookup f11 = some ⟨oc11, od11, .func (PySem.W.fnOf "sieve_once" "sieve_once" (defArgs sOnce) (defBody sOnce) (defScope sOnce) .none kV11 dc11 pm11 an11 cd11 ct11), sl11⟩) (c11 : PySem.W.codeIn K cd11 "sieve_once" = true) (k11 : PySem.W.keepIn K (.ref f11) = true)
    (z1 : PySem.W.nsIn K mainGlobals "enumerate" = some none)
    (z2 : PySem.W.nsIn K mainGlobals "len" = some none)
    (z3 : PySem.W.nsIn K mainGlobals "range" = some none)
    (z4 : PySem.W.nsIn K mainGlobals "zip" = some none)
    (z5 : PySem.W.nsIn K mainGlobals "min" = some none)
    (z6 : PySem.W.nsIn K mainGlobals "abs" = some none)
    (z7 : PySem.W.nsIn K mainGlobals "repr" = some none)
    : ∃ fd : FuncData, (∀ (s : Shared) (v : Value), BindsTo s fd ⟨[v], []⟩ [("script", v)]) ∧ ∀ base : Heap, K.In base → base.Ns mainGlobals mg → RunA l.prog w K mg base CX0 callerA fa fd ["script"] (spLaw K) := by
  have e := hfa.symm.trans (PySem.W.mg_of X G a0)
  cases e
  have D1 := dfn_mk (st := sRng) (ps := ["script"]) X G a1 l1 c1 k1 fun _ _ _ _ _ _ us hl => match us, hl with | [_], _ => rfl
  have D2 := dfn_mk (st := sDraw) (ps := ["rng", "limit"]) X G a2 l2 c2 k2 fun _ _ _ _ _ _ us hl => match us, hl with | [_, _], _ => rfl
  have D3 := dfn_mk (st := sWord) (ps := ["rng", "most"]) X G a3 l3 c3 k3 fun _ _ _ _ _ _ us hl => match us, hl with | [_, _], _ => rfl
  have D4 := dfn_mk (st := sOnceL) (ps := ["line", "letter"]) X G a4 l4 c4 k4 fun _ _ _ _ _ _ us hl => match us, hl with | [_, _], _ => rfl
  have D5 := dfn_mk (st := sPairs) (ps := ["line"]) X G a5 l5 c5 k5 fun _ _ _ _ _ _ us hl => match us, hl with | [_], _ => rfl
  have D6 := dfn_mk (st := sSize) (ps := ["row"]) X G a6 l6 c6 k6 fun _ _ _ _ _ _ us hl => match us, hl with | [_], _ => rfl
  have D7 := dfn_mk (st := sSieve) (ps := ["row", "pipeline"]) X G a7 l7 c7 k7 fun _ _ _ _ _ _ us hl => match us, hl with | [_, _], _ => rfl
  have D8 := dfn_mk (st := sChkRow) (ps := ["row"]) X G a8 l8 c8 k8 fun _ _ _ _ _ _ us hl => match us, hl with | [_], _ => rfl
  have D9 := dfn_mk (st := sChkPipe) (ps := ["pipeline"]) X G a9 l9 c9 k9 fun _ _ _ _ _ _ us hl => match us, hl with | [_], _ => rfl
  have D10 := dfn_mk (st := sRuns) (ps := ["row"]) X G a10 l10 c10 k10 fun _ _ _ _ _ _ us hl => match us, hl with | [_], _ => rfl
  have D11 := dfn_mk (st := sOnce) (ps := ["row", "kind"]) X G a11 l11 c11 k11 fun _ _ _ _ _ _ us hl => match us, hl with | [_, _], _ => rfl
  have m1 := PySem.W.mg_none_of X G z1
  have m2 := PySem.W.mg_none_of X G z2
  have m3 := PySem.W.mg_none_of X G z3
  have m4 := PySem.W.mg_none_of X G z4
  have m5 := PySem.W.mg_none_of X G z5
  have m6 := PySem.W.mg_none_of X G z6
  have m7 := PySem.W.mg_none_of X G z7
  exact ⟨PySem.W.fnOf "law" "law" (defArgs sLaw) (defBody sLaw) (defScope sLaw) .none kV0 dc0 pm0 an0 cd0 ct0, fun s v => .of_eq rfl, fun base _ _ => ok_law (fun_mk l0 c0 k0) D1 D2 D3 D4 D5 D6 D7 D8 D9 D10 D11 (kb1 D6.F) (kb2 D7.F) m1 m2 m3 m4 m5 m6 m7⟩
end Tw

open PySem PySem.W PyProof.Rows in
set_option maxRecDepth 100000 in
set_option maxHeartbeats 0 in
theorem PySem.Challenge.cw_twinsieve_k02_runs_and_sizes_holds : PySem.Challenge.rw_twinsieve_k02_runs_and_sizes.Holds := by
  w_on; o_law; k_head; (case hw => w_witness2)
  k_fill
  refine Tw.walkA_of (l := PySem.Challenge.rw_twinsieve_k02_runs_and_sizes) (n := 63) (x := "script") (sp := fun w => Tw.spLaw _) rfl (by decide) rfl (fun w h Y => PySem.W.kIn_of Y) ?F (fun _ _ a ns hl _ hS => ⟨a, ns, rfl, hS, hl, fun _ => rfl⟩)
  case F =>
    intro w mg fa h KX G hmg
    refine' Tw.all_mk KX G hmg ?a0 ?l0 ?c0 ?k0 ?a1 ?l1 ?c1 ?k1 ?a2 ?l2 ?c2 ?k2 ?a3 ?l3 ?c3 ?k3 ?a4 ?l4 ?c4 ?k4 ?a5 ?l5 ?c5 ?k5 ?a6 ?l6 ?c6 ?k6 ?a7 ?l7 ?c7 ?k7 ?a8 ?l8 ?c8 ?k8 ?a9 ?l9 ?c9 ?k9 ?a10 ?l10 ?c10 ?k10 ?a11 ?l11 ?c11 ?k11 ?z1 ?z2 ?z3 ?z4 ?z5 ?z6 ?z7
    (case a0 => k_is)
    (case l0 => k_is)
    (case c0 => k_is)
    (case k0 => k_is)
    (case a1 => k_is)
    (case l1 => k_is)
    (case c1 => k_is)
    (case k1 => k_is)
    (case a2 => k_is)
    (case l2 => k_is)
    (case c2 => k_is)
    (case k2 => k_is)
    (case a3 => k_is)
    (case l3 => k_is)
    (case c3 => k_is)
    (case k3 => k_is)
    (case a4 => k_is)
    (case l4 => k_is)
    (case c4 => k_is)
    (case k4 => k_is)
    (case a5 => k_is)
    (case l5 => k_is)
    (case c5 => k_is)
    (case k5 => k_is)
    (case a6 => k_is)
    (case l6 => k_is)
    (case c6 => k_is)
    (case k6 => k_is)
    (case a7 => k_is)
    (case l7 => k_is)
    (case c7 => k_is)
    (case k7 => k_is)
    (case a8 => k_is)
    (case l8 => k_is)
    (case c8 => k_is)
    (case k8 => k_is)
    (case a9 => k_is)
    (case l9 => k_is)
    (case c9 => k_is)
    (case k9 => k_is)
    (case a10 => k_is)
    (case l10 => k_is)
    (case c10 => k_is)
    (case k10 => k_is)
    (case a11 => k_is)
    (case l11 => k_is)
    (case c11 => k_is)
    (case k11 => k_is)
    (case z1 => k_is)
    (case z2 => k_is)
    (case z3 => k_is)
    (case z4 => k_is)
    (case z5 => k_is)
    (case z6 => k_is)
    (case z7 => k_is)

