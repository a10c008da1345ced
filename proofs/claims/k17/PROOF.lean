import PyProof.Rows.All
import Wide.All
import OpenK.AllK
import Wide.FinOn
import HandS.ForExc
import HandS.Walk
import KE.GoesNew
import HandS.FStr
import HandS.Property
import HandS.IsInst
import HandS.Codes
import HandS.Evl
import HandS.StrMore
import HandS.Defaults
import PyProof.StrBlock2
import HandS.Style
import HandS.OwnEq
import HandS.More
import PyProof.InstNe
import OpenK.KOps
import PyProof.CallStr
import PyProof.Rows.Range3
import HandS.ClsMeth
import HandS.RaiseMore
import PySem.Challenge.RW_unseenflips_k17_whole_checks
set_option Elab.async false
set_option linter.all false
set_option maxRecDepth 100000
set_option maxHeartbeats 2000000
namespace Own
open PySem PySem.Spec PyProof.Rows L2

/-- n turns that each give a new pair -/
def Itp (n : Nat) (f g : Nat → Option V) : It :=
  ⟨fun i _ => i < n, fun i H v H' => ∃ T x y, v = V.ref T ∧ H T = none ∧ H' = upd H T (.tup [x, y]) ∧ f i = some x ∧ g i = some y, fun i _ => n ≤ i⟩
theorem walk_itp {n : Nat} {f g : Nat → Option V} : Walk (Itp n f g) n (fun _ => True) (YPair f g) :=
  ⟨fun _ _ hi _ => hi, fun _ _ => Nat.le_refl _, fun _ _ _ _ _ _ y => y⟩

theorem turn_pairs {P : Program} {w : World} {K : PySem.W.Frag} {elts : List Expr} {kk : Nat} {tpos : Pos} {it : Addr} {fp wr : List Addr} {n : Nat} {St : Nat → Heap → Prop} {Px Py : Nat → Value → Prop} {f g : Nat → Option V}
    (mem : it ∈ fp) (obj : ∀ i h, St i h → ∀ b ∈ fp, ∃ o, h.get? b = some o ∧ ∀ v, o.data ≠ .cell v)
    (W : ∀ A : Around, A.handled = none → GoesN P w A (.Tuple elts kk tpos) it fp wr n (fun i h₀ v h => ∃ T x y, v = Value.ref T ∧ h₀.objs.size ≤ T ∧ Px i x ∧ Py i y ∧ h.IsTuple T #[x, y]) St)
    (sl : ∀ (A : Around) (i : Nat) (s : Shared) (Q : Value → Shared → Prop) (E : Value → Shared → Prop), St i s.heap → Q (.ref it) s → wpAny (model P w) A (pyIter (.ref it)) Q E s)
    (hx : ∀ i x, Px i x → ∃ v, f i = some v ∧ RelV v x) (hy : ∀ i x, Py i x → ∃ v, g i = some v ∧ RelV v x) :
    Turn P w K (.Tuple elts kk tpos) (Itp n f g) fp it (fun i h => i ≤ n ∧ St i h) where
  mem := mem
  obj := fun i h st => obj i h st.2
  keep := fun i h h' st k => ⟨st.1, (W ({} : Around) rfl).frame i h h' st.2 k⟩
  item := by
    intro X hP hw hK hc i pins s σ H E I hf st hg
    subst hP hw hK
    have hd := I.ok.hd hc
    refine wpAny_mono ((W X.A hd).goes i s (fun u s2 => ∃ x H', Inv X pins σ H' s2 ∧ RelV x u ∧ (Itp n f g).yld i H x H' ∧ (i + 1 ≤ n ∧ St (i + 1) s2.heap) ∧ ∀ b ∈ fp, H' b = none) E hg st.2 fun v h' tk hY st' hk htk => ?_) (fun r s1 q => q) fun _ _ q => q
    obtain ⟨T, x, y, ev, hT, px, py, isT⟩ := hY
    obtain ⟨vx, fx, rx⟩ := hx i x px
    obtain ⟨vy, gy, ry⟩ := hy i y py
    obtain ⟨oT, gT, cT, nT, dT⟩ := isT
    have new : ObjOk X.prog X.w (upd H T (.tup [vx, vy])) h' T (.tup [vx, vy]) :=
      ⟨by show 2 ≤ sizeLine; decide, [x, y], .cons rx (.cons ry .nil), ⟨oT, gT, cT, nT, dT⟩⟩
    have I1 := I.turnedNew (t' := tk) (ch := wr) hk (fun b hb => hf b ((W X.A hd).sub b hb)) hT new
    refine ⟨.ref T, _, I1, ev ▸ rfl, ⟨T, vx, vy, rfl, I.hok.fresh hT, rfl, fx, gy⟩, ⟨hg, st'⟩, fun b hb => ?_⟩
    obtain ⟨o, eo, _⟩ := obj i _ st.2 b hb
    rw [upd_ne (Nat.ne_of_lt (Nat.lt_of_lt_of_le (Heap.lt_size eo) hT))]
    exact (hf b hb).1
  done := by
    intro X hP hw hK hc i pins s σ H E I hf st hg
    subst hP hw hK
    have hd := I.ok.hd hc
    have ei : i = n := Nat.le_antisymm st.1 hg
    subst ei
    exact (W X.A hd).stops s (fun s1 => Inv X pins σ H s1) E st.2 fun h' tk hk htk => I.turnedL (t' := tk) (ch := wr) hk fun b hb => hf b ((W X.A hd).sub b hb)
  self := fun A i s Q E st h => sl A i s Q E st.2 h


/-- the signs of a text, one by one -/
def sgn (z : Str) (i : Nat) : Option V := z.cps[i]?.map fun c => V.str ⟨#[c]⟩

theorem iter_str_obj {h : Heap} {it : Addr} {T : String} {z : Str} {t : Tok} {i : Nat} (q : h.IsStrIter it T z t i) : ∃ o, h.get? it = some o ∧ ∀ v, o.data ≠ .cell v := by
  obtain ⟨o, g, _, d⟩ := q
  exact ⟨o, g, fun v e => by rw [d] at e; cases e⟩

def iZipS (ta : TA) : TI := fun σ H R => ta σ H fun vs H1 => ∃ x y : Str, vs = [V.str x, V.str y] ∧ R (Itp (min x.cps.size y.cps.size) (sgn x) (sgn y)) H1
/-- for a, b in zip(text, text) -/
theorem pi_zipS {X : Cx} {e1 e2 : Expr} {ta : TA} {np cp tp : Pos} {elts : List Expr} {kk : Nat} (hg : Gl X "zip") (hm : X.mg "zip" = none) (ha : PA X [e1, e2] ta)
    (se : starEach [e1, e2] X.env = (false, eval e1 X.env) :: starEach [e2] X.env := by rfl) (pl : (backTo cp (starEach [e2] X.env)).any (·.1) = false := by rfl) :
    PI X (.Tuple elts kk tp) (.Call (.Name "zip" np) [e1, e2] [] cp) (iZipS ta) := by
  constructor
  intro pins s σ H R I h
  refine Call_ (ld_blt I hg hm PyProof.Rows.boot_zip (PyProof.Rows.callWith_type1 (thn (ha.run cp pins s σ H _ I h) ?_) se pl))
  rintro us s1 ⟨vs, H1, I1, r1, x, y, rfl, q⟩
  match us, r1 with
  | [u1, u2], .cons ra (.cons rb .nil) =>
    obtain ⟨t1, rfl⟩ := ra
    obtain ⟨t2, rfl⟩ := rb
    refine zip_begins2 (begins_text x t1) (begins_text y t2) trivial trivial fun h' hz hTI hTO h1 h2 hsz hk => wpAny_pyIter_zip hz ?_
    have I2 : Inv X pins σ H1 { s1 with heap := h' } := I1.kept (t' := s1.toks) hk
    have S := zip_sep2 (N := s1.heap.objs.size) (fp1 := []) (fp2 := []) (fun b hb => nomatch hb) (fun b hb => nomatch hb)
    refine ⟨s1.heap.objs.size + 4, _, _, Itp (min x.cps.size y.cps.size) (sgn x) (sgn y), H1, rfl, I2,
      turn_pairs (Px := fun i v => ∃ c u, x.cps[i]? = some c ∧ v = Value.str ⟨#[c]⟩ u) (Py := fun i v => ∃ c u, y.cps[i]? = some c ∧ v = Value.str ⟨#[c]⟩ u) (St := fun i h => IsZip h (s1.heap.objs.size + 4) (s1.heap.objs.size + 2) (s1.heap.objs.size + 3) .none ∧ IsTupOf2 h (s1.heap.objs.size + 2) (.ref s1.heap.objs.size) (.ref (s1.heap.objs.size + 1)) ∧ (∃ a1 a2, IsTupOf2 h (s1.heap.objs.size + 3) a1 a2) ∧ h.IsStrIter s1.heap.objs.size (strIterType x) x t1 i ∧ h.IsStrIter (s1.heap.objs.size + 1) (strIterType y) y t2 i)
        List.mem_cons_self (fun i h st b hb => ?_) (fun A hd => GoesN.zip2 S (Draws.text (show A.in1.handled = none from hd) _ x t1) (Draws.text (show A.in1.handled = none from hd) _ y t2)) (fun A i s Q E st h => wpAny_pyIter_zip st.1 h) (fun i v ⟨c, u, hc, ev⟩ => ⟨.str ⟨#[c]⟩, by unfold sgn; rw [hc]; rfl, ev ▸ ⟨_, rfl⟩⟩) (fun i v ⟨c, u, hc, ev⟩ => ⟨.str ⟨#[c]⟩, by unfold sgn; rw [hc]; rfl, ev ▸ ⟨_, rfl⟩⟩),
      ⟨Nat.zero_le _, hz, hTI, ⟨_, _, hTO⟩, ⟨_, h1, rfl, rfl⟩, ⟨_, h2, rfl, rfl⟩⟩, fun c hcm => ?_, q⟩
    · obtain ⟨gz, gT, ⟨a1, a2, gO⟩, g1, g2⟩ := st
      have e' : b = s1.heap.objs.size + 4 ∨ b = s1.heap.objs.size + 2 ∨ b = s1.heap.objs.size + 3 ∨ b = s1.heap.objs.size ∨ b = s1.heap.objs.size + 1 := by simpa using hb
      rcases e' with rfl | rfl | rfl | rfl | rfl
      · exact ⟨_, gz, fun v z => nomatch z⟩
      · exact ⟨_, gT, fun v z => nomatch z⟩
      · exact ⟨_, gO, fun v z => nomatch z⟩
      · exact iter_str_obj g1
      · exact iter_str_obj g2
    · have e' : c = s1.heap.objs.size + 4 ∨ c = s1.heap.objs.size + 2 ∨ c = s1.heap.objs.size + 3 ∨ c = s1.heap.objs.size ∨ c = s1.heap.objs.size + 1 := by simpa using hcm
      have hle : s1.heap.objs.size ≤ c := by
        rcases e' with z | z | z | z | z <;> rw [z] <;> first | exact Nat.le_add_right _ _ | exact Nat.le_refl _
      exact I1.fpOk hle (I1.hok.fresh hle)

def iEnumS (ta : TA) : TI := fun σ H R => ta σ H fun vs H1 => ∃ x : Str, vs = [V.str x] ∧ R (Itp x.cps.size (fun i => some (.int (i : Nat))) (sgn x)) H1
/-- for i, a in enumerate(text) -/
theorem pi_enumS {X : Cx} {e1 : Expr} {ta : TA} {np cp tp : Pos} {elts : List Expr} {kk : Nat} (hg : Gl X "enumerate") (hm : X.mg "enumerate" = none) (ha : PA X [e1] ta)
    (se : starEach [e1] X.env = (false, eval e1 X.env) :: starEach [] X.env := by rfl) (pl : (backTo cp (starEach [] X.env)).any (·.1) = false := by rfl) :
    PI X (.Tuple elts kk tp) (.Call (.Name "enumerate" np) [e1] [] cp) (iEnumS ta) := by
  constructor
  intro pins s σ H R I h
  refine Call_ (ld_blt I hg hm PyProof.Rows.boot_enumerate (PyProof.Rows.callWith_type1 (thn (ha.run cp pins s σ H _ I h) ?_) se pl))
  rintro us s1 ⟨vs, H1, I1, r1, x, rfl, q⟩
  match us, r1 with
  | [u1], .cons ra .nil =>
    obtain ⟨t1, rfl⟩ := ra
    refine call_enumerate_str fun h' he hit hsz hk => wpAny_pyIter_enum he ?_
    have I2 : Inv X pins σ H1 { s1 with heap := h' } := I1.kept (t' := s1.toks) hk
    refine ⟨s1.heap.objs.size + 1, _, _, Itp x.cps.size (fun i => some (.int (i : Nat))) (sgn x), H1, rfl, I2,
      turn_pairs (Px := fun i v => ∃ t, v = Value.int ((0 : Int) + (i : Int)) t) (Py := fun i v => ∃ c u, x.cps[i]? = some c ∧ v = Value.str ⟨#[c]⟩ u) (St := fun i h => (∃ old, IsEnum h (s1.heap.objs.size + 1) s1.heap.objs.size ((0 : Int) + (i : Int)) old) ∧ h.IsStrIter s1.heap.objs.size (strIterType x) x t1 i)
        List.mem_cons_self (fun i h st b hb => ?_)
        (fun A hd => (GoesN.enumFrom 0 (Draws.text (show A.in1.handled = none from hd) s1.heap.objs.size x t1) (s1.heap.objs.size + 1) (Nat.succ_ne_self _) (by simp) (by simp)).mono fun i h₀ v h _ ⟨T, t, z, ev, hn, hz, hT⟩ => ⟨T, _, z, ev, hn, ⟨t, rfl⟩, hz, hT⟩)
        (fun A i s Q E st h => by
          obtain ⟨⟨old, gz⟩, _⟩ := st
          exact wpAny_pyIter_enum gz h)
        (fun i v ⟨t, ev⟩ => ⟨.int (i : Nat), rfl, by rw [ev, Int.zero_add]; exact ⟨_, rfl⟩⟩) (fun i v ⟨c, u, hc, ev⟩ => ⟨.str ⟨#[c]⟩, by unfold sgn; rw [hc]; rfl, ev ▸ ⟨_, rfl⟩⟩),
      ⟨Nat.zero_le _, ⟨_, he⟩, hit⟩, fun c hcm => ?_, q⟩
    · obtain ⟨⟨old, gz⟩, g1⟩ := st
      have e' : b = s1.heap.objs.size + 1 ∨ b = s1.heap.objs.size := by simpa using hb
      rcases e' with rfl | rfl
      · exact ⟨_, gz, fun v z => nomatch z⟩
      · exact iter_str_obj g1
    · have e' : c = s1.heap.objs.size + 1 ∨ c = s1.heap.objs.size := by simpa using hcm
      have hle : s1.heap.objs.size ≤ c := by
        rcases e' with z | z <;> rw [z] <;> first | exact Nat.le_add_right _ _ | exact Nat.le_refl _
      exact I1.fpOk hle (I1.hok.fresh hle)
end Own

set_option Elab.async false
set_option linter.all false
set_option maxRecDepth 100000
set_option maxHeartbeats 2000000
namespace Own
open PySem PySem.Spec PyProof.Rows L2
open C8 (Cal Mak Met pe_c pe_mk pe_mt pe_mt0 Def fnArgs fnBody fnScope fn0 fnScope_by)

/-! ### words of bits -/
def cd (b : Bool) : Nat := if b then 49 else 48
def WS (w : List Bool) : Str := SX.S (w.map cd)
theorem WS_len (w : List Bool) : (WS w).length = w.length := by unfold WS; rw [SX.S_len, List.length_map]
theorem WS_cat (a b : List Bool) : WS a ++ WS b = WS (a ++ b) := by unfold WS; rw [SX.S_cat, List.map_append]
theorem cd_inj {a b : Bool} (h : cd a = cd b) : a = b := by cases a <;> cases b <;> first | rfl | (exact absurd h (by decide))
theorem map_cd_inj : ∀ {a b : List Bool}, a.map cd = b.map cd → a = b
  | [], [], _ => rfl
  | [], _ :: _, h => by simp at h
  | _ :: _, [], h => by simp at h
  | x :: a, y :: b, h => by
    rw [List.map_cons, List.map_cons] at h
    injection h with h1 h2
    rw [cd_inj h1, map_cd_inj h2]
theorem WS_inj {a b : List Bool} (h : WS a = WS b) : a = b := map_cd_inj (SX.S_inj h)
theorem WS_eq {a b : List Bool} : (WS a = WS b) ↔ a = b := ⟨WS_inj, fun h => by rw [h]⟩
theorem WS_nil : WS [] = ("" : Str) := rfl
theorem WS_0 : WS [false] = ("0" : Str) := by decide +kernel
theorem WS_1 : WS [true] = ("1" : Str) := by decide +kernel
theorem WS_one (b : Bool) : WS [b] = ⟨#[cd b]⟩ := rfl
theorem WS_size (w : List Bool) : (WS w).cps.size = w.length := by
  show (w.map cd).toArray.size = w.length
  simp
theorem WS_get (w : List Bool) (i : Nat) : (WS w).cps[i]? = (w[i]?).map cd := by
  show (w.map cd).toArray[i]? = _
  simp
theorem sgn_WS (w : List Bool) (i : Nat) : sgn (WS w) i = (w[i]?).map fun b => V.str (WS [b]) := by
  unfold sgn
  rw [WS_get]
  cases w[i]? <;> rfl

/-! ### builtins that the module does not hide -/
structure Mg (mg : Str → Option Value) : Prop where
  len : mg "len" = none
  abs : mg "abs" = none
  max : mg "max" = none
  min : mg "min" = none
  int : mg "int" = none
  str : mg "str" = none
  range : mg "range" = none
  zip : mg "zip" = none
  enumerate : mg "enumerate" = none
  isinstance : mg "isinstance" = none
  all : mg "all" = none
  any : mg "any" = none
  list : mg "list" = none
  tuple : mg "tuple" = none
  repr : mg "repr" = none
  set : mg "set" = none
  sorted : mg "sorted" = none

/-! ### more rules -/
theorem op_mul_str {X : Cx} : OpR X (binaryOp .Mult) (fun x y H Q => ∃ (z : Str) (n : Int), x = .str z ∧ y = .int n ∧ MulOk z n ∧ Q (.str (Txt.mul z n)) H) := by
  intro pins s σ H x y v u Q I rx ry h
  obtain ⟨z, n, rfl, rfl, hk, q⟩ := h
  obtain ⟨t1, rfl⟩ := rx
  obtain ⟨t2, rfl⟩ := ry
  exact SB.mul hk fun t' k => ⟨.str (Txt.mul z n), H, I.tok _, ⟨_, rfl⟩, q⟩

section
variable {P : Program} {w : World} {K : PySem.W.Frag} {mg : Str → Option Value} {base : Heap}
/-- a property that may be read off the instances of the class at C -/
structure Prp (P : Program) (w : World) (K : PySem.W.Frag) (mg : Str → Option Value) (base : Heap) (k : Nat) (C : Addr) (m : Str) (sp : Sp) : Prop where
  ex : ∃ (p g : Addr) (fd : FuncData) (ps : List Str), Cls K C ∧ PropOf K C m p g ∧ FnOk P w K mg base CX0 k g fd ps sp ∧ Binds K fd ps []
end
section
variable {X : Cx} {k j : Nat} {C : Addr} {x m : Str} {sp : Sp} {dvs : List V} {p pos apos : Pos} {e o : Expr} {es : List Expr} {ta : TE} {t : TA}
theorem pe_p (c : Prp X.prog X.w X.K X.mg X.base k C m sp) (hr : Room j X.A) (hk : k + 1 ≤ j) (he : PE X o ta) (hab : attributeBase o m X.env (eval o X.env) = eval o X.env) :
    PE X (.Attribute o m pos) (tProp C sp [] E0 ta) := by
  obtain ⟨pp, g, fd, ps, hc, hp, F, b⟩ := c.ex
  exact pe_prop he hc hp F (hr.mono hk) b .nil pass0 hab
theorem pe_mk0 (c : Mak X.prog X.w X.K X.mg X.base k x C sp dvs) (hr : Room j X.A) (hk : k + 1 ≤ j) (hg : Gl X x) (hdb : (x == ("__debug__" : Str)) = false := by decide) : PE X (.Call (.Name x p) [] [] pos) (tMake C sp dvs E0 tNil) := by
  obtain ⟨f, fd, ps, ds, M, F, hm, b, d⟩ := c.ex
  exact pe_make0 M F (hr.mono hk) hg hm b d pass0 hdb
end

/-! ### the box of the draws -/
theorem mod_box (x : Int) : 1 ≤ x % 2147483629 + 1 ∧ x % 2147483629 + 1 ≤ 2147483629 := by
  have := Int.emod_nonneg x (show (2147483629 : Int) ≠ 0 by decide)
  have := Int.emod_lt_of_pos x (show (0 : Int) < 2147483629 by decide)
  omega
theorem mod_in (x : Int) {m : Int} (h : 0 < m) : 0 ≤ x % m ∧ x % m < m := ⟨Int.emod_nonneg x (by omega), Int.emod_lt_of_pos x h⟩
theorem atI0 {x : V} {r : List V} : atI (x :: r) 0 = some x := atI_nat (j := 0) rfl
theorem atI1 {x y : V} {r : List V} : atI (x :: y :: r) 1 = some y := atI_nat (j := 1) rfl
def BoxAt (H : Hp) (b : Addr) : Prop := ∃ c d : Int, H b = some (.lst [.int c, .int d]) ∧ 0 ≤ c ∧ 1 ≤ d ∧ d ≤ 2147483629
/-- all but what stands at b is as it was -/
def Off (b : Addr) (H H' : Hp) : Prop := ∀ a o, H a = some o → a ≠ b → H' a = some o
theorem Off.refl (b : Addr) (H : Hp) : Off b H H := fun _ _ h _ => h
theorem Off.trans {b : Addr} {H H1 H2 : Hp} (x : Off b H H1) (y : Off b H1 H2) : Off b H H2 := fun a o h n => y a o (x a o h n) n
theorem off_of {H H' : Hp} {b : Addr} (s : Same H H') : Off b H H' := fun a o h _ => s a o h
theorem Off.set {b : Addr} {H : Hp} {o : HO} : Off b H (upd H b o) := fun a u h n => by rw [upd_ne n]; exact h
theorem same_new {H : Hp} {p : Addr} {o : HO} (h : H p = none) : Same H (upd H p o) := fun b x e => by
  rw [upd_ne (ne_of_none e h)]
  exact e
theorem BoxAt.same {H H' : Hp} {b : Addr} (s : Same H H') (h : BoxAt H b) : BoxAt H' b := by
  obtain ⟨c, d, e, r⟩ := h
  exact ⟨c, d, s _ _ e, r⟩
theorem BoxAt.ne_tup {H : Hp} {b a : Addr} {xs : List V} (h : BoxAt H b) (e : H a = some (.tup xs)) : a ≠ b := by
  obtain ⟨c, d, e2, _⟩ := h
  exact ne_of e e2 (by intro z; cases z)
theorem BoxAt.ne_ins {H : Hp} {b a C dx : Addr} {fs : List (Str × V)} (h : BoxAt H b) (e : H a = some (.ins C dx fs)) : a ≠ b := by
  obtain ⟨c, d, e2, _⟩ := h
  exact ne_of e e2 (by intro z; cases z)
theorem BoxAt.ne_new {H : Hp} {b a : Addr} (h : BoxAt H b) (e : H a = none) : a ≠ b := by
  obtain ⟨c, d, e2, _⟩ := h
  exact (ne_of_none e2 e).symm

/-! ### promises of the law's own draws -/
def spSeed (K : PySem.W.Frag) : Sp := fun vs H Q _ => ∃ (a : Addr) (ns : List Int) (k : Int), vs = [.ref a, .int k] ∧ SqL K H a (ns.map V.int) ∧ ns.length ≤ 63 ∧ 0 ≤ k ∧ k ≤ 100 ∧ ∀ p H', H p = none → BoxAt H' p → Same H H' → Q (.ref p) H'
def spChoose : Sp := fun vs H Q _ => ∃ (b : Addr) (m : Int), vs = [.ref b, .int m] ∧ BoxAt H b ∧ 1 ≤ m ∧ m ≤ 100000 ∧ ∀ r H', 0 ≤ r → r < m → BoxAt H' b → Off b H H' → Q (.int r) H'
def spOneOf : Sp := fun vs H Q _ => ∃ (b l : Addr) (xs : List V), vs = [.ref b, .ref l] ∧ BoxAt H b ∧ H l = some (.lst xs) ∧ l ≠ b ∧ xs ≠ [] ∧ xs.length ≤ 1000 ∧ ∀ x H', x ∈ xs → BoxAt H' b → Off b H H' → Q x H'
def spWordN : Sp := fun vs H Q _ => ∃ (b : Addr) (n : Int), vs = [.ref b, .int n] ∧ BoxAt H b ∧ 0 ≤ n ∧ n ≤ 1000 ∧ ∀ (z : List Bool) H', (z.length : Int) = n → BoxAt H' b → Off b H H' → Q (.str (WS z)) H'
end Own
namespace Own
open PySem PySem.Spec PyProof.Rows L2
/-- the texts of the bits -/
def bitV (z : List Bool) : List V := z.map fun b => V.str (WS [b])
theorem bit_of {x : V} (h : x ∈ [V.str "0", V.str "1"]) : ∃ b, x = V.str (WS [b]) := by
  rcases List.mem_cons.mp h with e | h
  · exact ⟨false, by rw [e, WS_0]⟩
  · rcases List.mem_cons.mp h with e | h
    · exact ⟨true, by rw [e, WS_1]⟩
    · cases h
theorem joinL_nil : ∀ z : List (List Nat), TL.joinL [] z = z.flatten := by
  intro z
  induction z with
  | nil => rfl
  | cons x r ih =>
    cases r with
    | nil => simp [TL.joinL]
    | cons y r => simp [TL.joinL] at ih ⊢; rw [ih]
theorem join_bits (z : List Bool) : Txt.join "" (z.map fun b => WS [b]) = WS z := by
  have h : (z.map fun b => WS [b]) = (z.map fun b => [cd b]).map SX.S := by rw [List.map_map]; rfl
  rw [h, show ("" : Str) = SX.S [] from rfl, SX.join_S, joinL_nil]
  unfold WS
  congr 1
  clear h
  induction z with
  | nil => rfl
  | cons b r ih =>
    rw [List.map_cons, List.flatten_cons, List.map_cons, ih]
    rfl
theorem join_bits_sz (z : List Bool) (h : z.length ≤ 100000) : ((z.map fun b => WS [b]).map (·.length)).sum + (z.map fun b => WS [b]).length * ("" : Str).length ≤ 16777216 := by
  have h1 : ((z.map fun b => WS [b]).map (·.length)).sum = z.length := by
    induction z with
    | nil => rfl
    | cons b r ih =>
      simp only [List.map_cons, List.sum_cons, WS_len, List.length_cons, List.length_nil]
      rw [ih (by rw [List.length_cons] at h; omega)]
      omega
  rw [h1, show ("" : Str).length = 0 from rfl]
  omega
end Own
namespace Own
open PySem PySem.Spec PyProof.Rows L2
theorem subAt_S (a b : List Nat) (i : Nat) : Builtin.Str.subAt (SX.S a) (SX.S b) i = decide ((a.drop i).take b.length = b) := by
  unfold Builtin.Str.subAt
  have h1 : (SX.S b).length = b.length := SX.S_len b
  rw [h1]
  have h2 : ((SX.S a).cps.extract i (i + b.length)).toList = (a.drop i).take b.length := by
    show (a.toArray.extract i (i + b.length)).toList = _
    simp [List.extract_eq_take_drop]
  have h3 : (SX.S b).cps.toList = b := rfl
  by_cases h : (a.drop i).take b.length = b
  · rw [decide_eq_true h, beq_iff_eq]
    apply Array.toList_inj.mp
    rw [h2, h3, h]
  · rw [decide_eq_false h, beq_eq_false_iff_ne]
    intro e
    apply h
    rw [← h2, e, h3]
theorem take_map_cd {a b : List Bool} {i : Nat} : ((((a.map cd).drop i).take (b.map cd).length = b.map cd)) ↔ ((a.drop i).take b.length = b) := by
  rw [← List.map_drop, List.length_map, ← List.map_take]
  exact ⟨map_cd_inj, fun h => by rw [h]⟩
theorem ends_WS (a b : List Bool) : Txt.endswith (WS a) (WS b) = decide (b <:+ a) := by
  unfold Txt.endswith
  rw [WS_len, WS_len, Nat.zero_add]
  have h1 : Builtin.Str.subAt (WS a) (WS b) (a.length - b.length) = decide ((a.drop (a.length - b.length)).take b.length = b) := by
    unfold WS
    rw [subAt_S]
    exact decide_eq_decide.mpr take_map_cd
  rw [h1]
  by_cases hl : b.length ≤ a.length
  · rw [decide_eq_true hl, Bool.true_and]
    apply decide_eq_decide.mpr
    rw [List.take_of_length_le (by rw [List.length_drop]; omega)]
    constructor
    · intro h
      rw [← h]
      exact List.drop_suffix _ _
    · intro h
      exact (List.suffix_iff_eq_drop.mp h).symm
  · rw [decide_eq_false hl, Bool.false_and]
    symm
    rw [decide_eq_false_iff_not]
    intro h
    exact hl h.length_le
theorem starts_WS (a b : List Bool) : Txt.startswith (WS a) (WS b) = decide (b <+: a) := by
  unfold Txt.startswith
  rw [WS_len, WS_len, Nat.zero_add]
  have h1 : Builtin.Str.subAt (WS a) (WS b) 0 = decide ((a.drop 0).take b.length = b) := by
    unfold WS
    rw [subAt_S]
    exact decide_eq_decide.mpr take_map_cd
  rw [h1, List.drop_zero]
  by_cases hl : b.length ≤ a.length
  · rw [decide_eq_true hl, Bool.true_and]
    apply decide_eq_decide.mpr
    rw [List.prefix_iff_eq_take]
    exact ⟨fun h => h.symm, fun h => h.symm⟩
  · rw [decide_eq_false hl, Bool.false_and]
    symm
    rw [decide_eq_false_iff_not]
    intro h
    exact hl h.length_le
theorem cut_from (w : List Bool) {i : Int} (h : 0 ≤ i) : cutS (WS w) (some i) none = WS (w.drop i.toNat) := by
  rw [C8.cutS_slice]
  unfold WS
  rw [SX.slice_from h, List.map_drop]
theorem cut_to (w : List Bool) {i : Int} (h : 0 ≤ i) : cutS (WS w) none (some i) = WS (w.take i.toNat) := by
  rw [C8.cutS_slice]
  unfold WS
  rw [SX.slice_to h, List.map_take]
theorem foldl_app {α : Type} : ∀ (l : List (Array α)) (acc : Array α), (l.foldl (· ++ ·) acc).toList = acc.toList ++ (l.map (·.toList)).flatten
  | [], acc => by simp
  | x :: l, acc => by rw [List.foldl_cons, foldl_app l]; simp
theorem mul_WS (z : List Bool) {n : Int} (h : 0 ≤ n) : Txt.mul (WS z) n = WS (List.replicate n.toNat z).flatten := by
  unfold Txt.mul
  by_cases h1 : n < 1
  · have e : n = 0 := by omega
    subst e
    rfl
  · rw [if_neg h1]
    by_cases h2 : (n == 1 || (WS z).length == 0) = true
    · rw [if_pos h2]
      rw [Bool.or_eq_true, beq_iff_eq, beq_iff_eq, WS_len] at h2
      rcases h2 with e | e
      · subst e
        show WS z = WS (List.replicate 1 z).flatten
        simp
      · have e : z = [] := List.length_eq_zero_iff.mp e
        subst e
        congr 1
        induction n.toNat with
        | zero => rfl
        | succ k ih => rw [List.replicate_succ, List.flatten_cons, ← ih]; rfl
    · rw [if_neg h2]
      show _ = SX.S _
      have : ∀ a b : Str, a.cps.toList = b.cps.toList → a = b := fun a b h => by
        cases a; cases b; simp at h; rw [h]
      apply this
      rw [foldl_app]
      show [] ++ _ = List.map cd _
      rw [List.nil_append, List.map_replicate]
      generalize n.toNat = k
      induction k with
      | zero => rfl
      | succ k ih => rw [List.replicate_succ, List.replicate_succ, List.flatten_cons, List.flatten_cons, List.map_append, ih]; rfl
theorem flat_rep (k : Nat) (b : Bool) : (List.replicate k [b]).flatten = List.replicate k b := by
  induction k with
  | zero => rfl
  | succ k ih => rw [List.replicate_succ, List.replicate_succ, List.flatten_cons, ih]; rfl
theorem mul_ok (z : List Bool) {n : Int} (h : 0 ≤ n) (hn : n ≤ 1000) (hz : z.length ≤ 1000) : MulOk (WS z) n := by
  refine ⟨?_, ?_, ?_⟩
  · rw [Bool.or_eq_false_iff, decide_eq_false_iff_not, decide_eq_false_iff_not]
    omega
  · intro h1 _
    rw [WS_len]
    have h2 : (2 ^ 63 - 1 : Int) / 1000 ≤ (2 ^ 63 - 1) / n := by
      apply Int.le_ediv_of_mul_le (by omega)
      have : (2 ^ 63 - 1 : Int) / 1000 * n ≤ (2 ^ 63 - 1 : Int) / 1000 * 1000 := Int.mul_le_mul_of_nonneg_left hn (by decide)
      refine Int.le_trans this (by decide)
    have h3 : (1000 : Int) < (2 ^ 63 - 1) / 1000 := by decide
    omega
  · intro h1 _
    rw [WS_len]
    have h2 : z.length * n.toNat ≤ 1000 * 1000 := Nat.mul_le_mul hz (by omega)
    have : ∀ m : Nat, m ≤ 1000000 → Builtin.Str.tooLong m = false := fun m hm => by
      unfold Builtin.Str.tooLong
      rw [decide_eq_false_iff_not]
      have : (1000000 : Nat) < sizeLine := by decide
      omega
    exact this _ (by omega)
end Own
namespace Own
open PySem PySem.Spec PyProof.Rows L2
/-- a polynomial and a start that fit -/
structure Chk (poly st : List Bool) : Prop where
  len : poly.length = st.length + 1
  hd : [true] <+: poly
  lt : [true] <:+ poly
theorem chk_one : Chk [true] [] := ⟨rfl, List.prefix_rfl, List.suffix_rfl⟩
theorem chk_in {inner st : List Bool} (h : st.length = inner.length + 1) : Chk (true :: (inner ++ [true])) st :=
  ⟨by simp [h], ⟨_, rfl⟩, ⟨true :: inner, rfl⟩⟩
def spCheck : Sp := fun vs H Q _ => ∃ (b : Addr) (m : Int), vs = [.ref b, .int m] ∧ BoxAt H b ∧ 0 ≤ m ∧ m ≤ 100 ∧ ∀ (poly st : List Bool) p H', Chk poly st → (st.length : Int) ≤ m → H p = none → H' p = some (.tup [.str (WS poly), .str (WS st)]) → BoxAt H' b → Off b H H' → Q (.ref p) H'
theorem w101 (z : List Bool) : ("1" : Str) ++ WS z ++ "1" = WS (true :: (z ++ [true])) := by
  rw [← WS_1, WS_cat, WS_cat]
  rfl
end Own
namespace Own
open PySem PySem.Spec PyProof.Rows L2
/-! ### promises of the program's defs -/
def spIsWord : Sp := fun vs H Q _ => ∃ (z : List Bool) (n : Int), vs = [.str (WS z), .int n] ∧ z.length ≤ 1000 ∧ ∀ H', Same H H' → Q (.bl (decide (n ≤ (z.length : Int)))) H'
def xorL (a b : List Bool) : List Bool := a.zipWith (· ^^ ·) b
def spExch : Sp := fun vs H Q _ => ∃ (a b : List Bool), vs = [.str (WS a), .str (WS b)] ∧ a.length ≤ 1000 ∧ b.length ≤ 1000 ∧ ∀ H', Same H H' → Q (.str (WS (xorL a b))) H'
theorem ls_len (z : List Bool) (h : z.length ≤ 1000) : (WS z).length ≤ sizeLine := by
  rw [WS_len]
  exact Nat.le_of_lt (small1000 h)
theorem scal_str (a b : Str) : scal (.str a) (.str b) = true := rfl
theorem eqS (a b : List Bool) : decide (V.str (WS a) = V.str (WS b)) = decide (a = b) := by
  apply decide_eq_decide.mpr
  constructor
  · intro h
    injection h with h
    exact WS_inj h
  · intro h
    rw [h]
/-- the class's instances: its fields -/
def ckf (poly st : List Bool) : List (Str × V) := [("poly", .str (WS poly)), ("start", .str (WS st))]
def CkAt (C : Addr) (H : Hp) (p : Addr) (poly st : List Bool) : Prop := ∃ dx, H p = some (.ins C dx (ckf poly st))
theorem CkAt.same {C p : Addr} {H H' : Hp} {poly st : List Bool} (s : Same H H') (h : CkAt C H p poly st) : CkAt C H' p poly st := by
  obtain ⟨dx, e⟩ := h
  exact ⟨dx, s _ _ e⟩
theorem CkAt.off {C p b : Addr} {H H' : Hp} {poly st : List Bool} (hb : BoxAt H b) (o : Off b H H') (h : CkAt C H p poly st) : CkAt C H' p poly st := by
  obtain ⟨dx, e⟩ := h
  exact ⟨dx, o _ _ e (hb.ne_ins e)⟩
theorem ckf_poly (poly st : List Bool) : (ckf poly st).lookup ("poly" : Str) = some (.str (WS poly)) := rfl
theorem ckf_start (poly st : List Bool) : (ckf poly st).lookup ("start" : Str) = some (.str (WS st)) := by
  unfold ckf
  rw [List.lookup_cons, show (("start" : Str) == "poly") = false by decide +kernel]
  rfl
/-- what of the class is known -/
structure CkT (K : PySem.W.Frag) (C : Addr) : Prop where
  cl : Cls K C
  nP : NoAttr K C "poly"
  nS : NoAttr K C "start"
def spInit (C : Addr) : Sp := fun vs H Q _ => ∃ (p dx : Addr) (poly st : List Bool) (sv : V), vs = [.ref p, .str (WS poly), sv] ∧ ((sv = .non ∧ st = List.replicate (poly.length - 1) false) ∨ sv = .str (WS st)) ∧ Chk poly st ∧ st.length ≤ 900 ∧ H p = some (.ins C dx []) ∧
  ∀ H', CkAt C H' p poly st → (∀ a o, H a = some o → a ≠ p → H' a = some o) → Q .non H'
def spDegree (C : Addr) : Sp := fun vs H Q _ => ∃ (p : Addr) (poly st : List Bool), vs = [.ref p] ∧ CkAt C H p poly st ∧ poly.length ≤ 1000 ∧ Q (.int ((poly.length : Int) - 1)) H
/-- one bit more, divided -/
def stepR (marks left : List Bool) (b : Bool) : List Bool := if (left ++ [b]).head? = some true then xorL ((left ++ [b]).drop 1) marks else (left ++ [b]).drop 1
def restR (poly st bits : List Bool) : List Bool := bits.foldl (stepR (poly.drop 1)) st
theorem xorL_len (a b : List Bool) (h : a.length = b.length) : (xorL a b).length = a.length := by
  unfold xorL
  rw [List.length_zipWith, h, Nat.min_self]
theorem stepR_len {marks left : List Bool} {b : Bool} (h : left.length = marks.length) : (stepR marks left b).length = marks.length := by
  unfold stepR
  have : ((left ++ [b]).drop 1).length = marks.length := by simp [h]
  split
  · rw [xorL_len _ _ this, this]
  · exact this
theorem restR_len {poly st : List Bool} (h : poly.length = st.length + 1) : ∀ bits : List Bool, (restR poly st bits).length = st.length := by
  intro bits
  have key : ∀ (bits l : List Bool), l.length = (poly.drop 1).length → (bits.foldl (stepR (poly.drop 1)) l).length = (poly.drop 1).length := by
    intro bits
    induction bits with
    | nil => intro l h; exact h
    | cons b r ih => intro l h; exact ih _ (stepR_len h)
  have := key bits st (by simp [h])
  unfold restR
  rw [this]
  simp [h]
def spRest (C : Addr) : Sp := fun vs H Q _ => ∃ (p : Addr) (poly st bits : List Bool), vs = [.ref p, .str (WS bits)] ∧ CkAt C H p poly st ∧ Chk poly st ∧ st.length ≤ 900 ∧ bits.length ≤ 1000 ∧ ∀ H', Same H H' → Q (.str (WS (restR poly st bits))) H'
end Own
namespace Own
open PySem PySem.Spec PyProof.Rows L2
/-! ### the law's own division -/
def b2n (b : Bool) : Int := if b then 1 else 0
def rowV (l : List Bool) : List V := l.map fun b => V.int (b2n b)
theorem rowV_app (a b : List Bool) : rowV (a ++ b) = rowV a ++ rowV b := by unfold rowV; rw [List.map_append]
theorem rowV_len (a : List Bool) : (rowV a).length = a.length := by unfold rowV; rw [List.length_map]
theorem int_bit (b : Bool) : PySem.intText? (WS [b]) = some (b2n b) := by cases b <;> decide +kernel
theorem str_bit (b : Bool) : (toString (b2n b) : String) = (if b then "1" else "0") := by cases b <;> decide +kernel
theorem add_bits (x y : Bool) : (b2n x + b2n y) % 2 = b2n (x ^^ y) := by cases x <;> cases y <;> decide
theorem row_at {a b : List Bool} {x : Bool} {i : Int} (h : i = (a.length : Int)) : atI (rowV (a ++ x :: b)) i = some (.int (b2n x)) := by
  subst h
  apply atI_nat
  unfold rowV
  rw [List.getElem?_map, List.getElem?_append_right (Nat.le_refl _), Nat.sub_self]
  rfl
theorem row_set {a b : List Bool} {x y : Bool} : (rowV (a ++ x :: b)).set a.length (.int (b2n y)) = rowV (a ++ y :: b) := by
  unfold rowV
  simp [List.set_append]
theorem xorL_snoc {a b : List Bool} {s : Nat} {x y : Bool} (ha : a[s]? = some x) (hb : b[s]? = some y) : xorL (a.take (s + 1)) (b.take (s + 1)) = xorL (a.take s) (b.take s) ++ [x ^^ y] := by
  have h1 : a.take (s + 1) = a.take s ++ [x] := by rw [List.take_add_one, ha]; rfl
  have h2 : b.take (s + 1) = b.take s ++ [y] := by rw [List.take_add_one, hb]; rfl
  have l1 : s < a.length := (List.getElem?_eq_some_iff.mp ha).1
  have l2 : s < b.length := (List.getElem?_eq_some_iff.mp hb).1
  rw [h1, h2]
  unfold xorL
  rw [List.zipWith_append (by rw [List.length_take, List.length_take]; omega)]
  rfl
def spLRest : Sp := fun vs H Q _ => ∃ (t : Addr) (poly st bits : List Bool), vs = [.ref t, .str (WS bits)] ∧ H t = some (.tup [.str (WS poly), .str (WS st)]) ∧ Chk poly st ∧ st.length ≤ 900 ∧ bits.length ≤ 1000 ∧ ∀ H', Same H H' → Q (.str (WS (restR poly st bits))) H'
/-- one step of the division, as the law's row tells it -/
theorem step_true {poly left : List Bool} {b : Bool} (hp : [true] <+: poly) (hl : poly.length = left.length + 1) (h : (left ++ [b]).head? = some true) : xorL (left ++ [b]) poly = false :: stepR (poly.drop 1) left b := by
  obtain ⟨m, rfl⟩ := hp
  unfold stepR
  rw [if_pos h]
  cases e : left ++ [b] with
  | nil => simp at e
  | cons x r =>
    rw [e] at h
    have : x = true := by simpa using h
    subst this
    rfl
theorem step_false {poly left : List Bool} {b : Bool} (h : (left ++ [b]).head? = some false) : left ++ [b] = false :: stepR (poly.drop 1) left b := by
  unfold stepR
  rw [if_neg (by rw [h]; decide)]
  cases e : left ++ [b] with
  | nil => simp at e
  | cons x r =>
    rw [e] at h
    have : x = false := by simpa using h
    subst this
    rfl
end Own
namespace Own
open PySem PySem.Spec PyProof.Rows L2
theorem cutV_from (xs : List V) {n : Nat} (h : n ≤ xs.length) : cutV xs (some (n : Int)) none = xs.drop n := by
  unfold cutV
  rw [show HT.sIx xs.length 0 (some (n : Int)) = min n xs.length from HT.sIx_nat xs.length 0 n, HT.sIx_none, Nat.min_eq_left h]
  exact List.take_of_length_le (by rw [List.length_drop]; exact Nat.le_refl _)
end Own
namespace Own
open PySem PySem.Spec PyProof.Rows L2
theorem ixN_at {n j : Nat} {k : Int} (h : k = (j : Int)) (hj : j < n) : ixN n k = some j := by
  subst h
  unfold ixN
  rw [if_pos (by omega), if_pos (by omega)]
  rfl
end Own
namespace Own
open PySem PySem.Spec PyProof.Rows L2
/-- all but lists are as they were -/
def notL : HO → Prop
  | .lst _ => False
  | _ => True
def Kp (H H' : Hp) : Prop := ∀ a o, H a = some o → notL o → H' a = some o
theorem Kp.refl (H : Hp) : Kp H H := fun _ _ h _ => h
theorem Kp.trans {H H1 H2 : Hp} (x : Kp H H1) (y : Kp H1 H2) : Kp H H2 := fun a o h n => y a o (x a o h n) n
theorem kp_same {H H' : Hp} (s : Same H H') : Kp H H' := fun a o h _ => s a o h
theorem kp_off {b : Addr} {H H' : Hp} (hb : BoxAt H b) (o : Off b H H') : Kp H H' := fun a u h n => o a u h (fun e => by
  obtain ⟨c, d, e2, _⟩ := hb
  rw [e, e2] at h
  cases h
  exact n)
theorem kp_lst {H : Hp} {l : Addr} {xs ys : List V} (h : H l = some (.lst xs)) : Kp H (upd H l (.lst ys)) := fun a u e n => by
  rw [upd_ne (fun q => by rw [q, h] at e; cases e; exact n)]
  exact e
theorem CkAt.kp {C p : Addr} {H H' : Hp} {poly st : List Bool} (k : Kp H H') (h : CkAt C H p poly st) : CkAt C H' p poly st := by
  obtain ⟨dx, e⟩ := h
  exact ⟨dx, k _ _ e trivial⟩
theorem same_off {b : Addr} {H H1 H2 : Hp} (s : Same H H1) (o : Off b H1 H2) (hb : H b = none) : Same H H2 := fun a u h => o a u (s a u h) (ne_of_none h hb)
theorem same_make {H H' : Hp} {x dx : Addr} {o1 o2 : HO} (hx : H x = none) (hdx : H dx = none) (k : ∀ a o, (upd (upd H dx o1) x o2) a = some o → a ≠ x → H' a = some o) : Same H H' := fun a o h => by
  refine k a o ?_ (ne_of_none h hx)
  rw [upd_ne (ne_of_none h hx), upd_ne (ne_of_none h hdx)]
  exact h
def spLaw (K : PySem.W.Frag) : Sp := fun vs H Q _ => ∃ (a : Addr) (ns : List Int), vs = [.ref a] ∧ SqL K H a (ns.map V.int) ∧ ns.length ≤ 63 ∧ ∀ H', Q (.bl true) H'
theorem nofield {poly st : List Bool} {m : Str} (h1 : (m == "poly") = false) (h2 : (m == "start") = false) : (ckf poly st).lookup m = none := by
  unfold ckf
  rw [List.lookup_cons, h1, List.lookup_cons, h2]
  rfl
end Own

set_option Elab.async false
set_option linter.all false
set_option maxRecDepth 100000
set_option maxHeartbeats 2000000
namespace Own
open PySem PySem.Spec PyProof.Rows L2
open C8 (Cal Mak Met pe_c pe_mk pe_mt pe_mt0 Def fnArgs fnBody fnScope fn0 fnScope_by)
theorem call_repr_bl {X : Cx} : CallR X (.builtin "repr") (fun xs H Q => ∃ b, xs = [.bl b] ∧ Q (.str (if b then "True" else "False")) H) := by
  intro pins s σ H xs us Q I r h
  obtain ⟨b, rfl, q⟩ := h
  match us, r with
  | [u], .cons ra .nil =>
    cases (show u = Value.bool b from ra)
    exact PySem.P.repr_of_bool ⟨.str (if b then "True" else "False"), H, I.tok _, ⟨_, rfl⟩, q⟩

/-! ### the rest is linear -/
theorem xor_self (l : List Bool) : xorL l l = List.replicate l.length false := by
  unfold xorL
  induction l with
  | nil => rfl
  | cons x r ih => rw [List.zipWith_cons_cons, ih, List.length_cons, List.replicate_succ]; cases x <;> rfl
theorem xor_zero (l : List Bool) : xorL l (List.replicate l.length false) = l := by
  unfold xorL
  induction l with
  | nil => rfl
  | cons x r ih => rw [List.length_cons, List.replicate_succ, List.zipWith_cons_cons, ih]; cases x <;> rfl
theorem xor_comm (a b : List Bool) : xorL a b = xorL b a := by
  unfold xorL
  induction a generalizing b with
  | nil => cases b <;> rfl
  | cons x r ih =>
    cases b with
    | nil => rfl
    | cons y s => rw [List.zipWith_cons_cons, List.zipWith_cons_cons, ih]; cases x <;> cases y <;> rfl
theorem xor_assoc (a b c : List Bool) : xorL (xorL a b) c = xorL a (xorL b c) := by
  unfold xorL
  induction a generalizing b c with
  | nil => cases b <;> cases c <;> rfl
  | cons x r ih =>
    cases b with
    | nil => cases c <;> rfl
    | cons y s =>
      cases c with
      | nil => rfl
      | cons z t => rw [List.zipWith_cons_cons, List.zipWith_cons_cons, List.zipWith_cons_cons, List.zipWith_cons_cons, ih]; cases x <;> cases y <;> cases z <;> rfl
theorem xor_app {a b c d : List Bool} (h : a.length = b.length) : xorL (a ++ c) (b ++ d) = xorL a b ++ xorL c d := by
  unfold xorL
  exact List.zipWith_append h
theorem xor_eq_zero {a b : List Bool} (h : a.length = b.length) (e : xorL a b = List.replicate a.length false) : a = b := by
  have h1 : xorL (xorL a b) b = a := by
    rw [xor_assoc, xor_self, ← h, xor_zero]
  rw [← h1, e, h, xor_comm, xor_zero]
theorem xor_swap (a b c d : List Bool) : xorL (xorL a b) (xorL c d) = xorL (xorL a c) (xorL b d) := by
  rw [xor_assoc, xor_assoc, ← xor_assoc b c d, xor_comm b c, xor_assoc c b d]
theorem step_lin {m l1 l2 : List Bool} {b1 b2 : Bool} (h1 : l1.length = m.length) (h2 : l2.length = m.length) : stepR m (xorL l1 l2) (b1 ^^ b2) = xorL (stepR m l1 b1) (stepR m l2 b2) := by
  have e : xorL l1 l2 ++ [b1 ^^ b2] = xorL (l1 ++ [b1]) (l2 ++ [b2]) := by
    rw [xor_app (by omega)]
    rfl
  unfold stepR
  rw [e]
  obtain ⟨x, p, hp⟩ : ∃ x p, l1 ++ [b1] = x :: p := by
    cases l1 with
    | nil => exact ⟨b1, [], rfl⟩
    | cons x r => exact ⟨x, r ++ [b1], rfl⟩
  obtain ⟨y, q, hq⟩ : ∃ y q, l2 ++ [b2] = y :: q := by
    cases l2 with
    | nil => exact ⟨b2, [], rfl⟩
    | cons x r => exact ⟨x, r ++ [b2], rfl⟩
  have lp : p.length = m.length := by have := congrArg List.length hp; simp at this; omega
  have lq : q.length = m.length := by have := congrArg List.length hq; simp at this; omega
  have ez : xorL (x :: p) (y :: q) = (x ^^ y) :: xorL p q := rfl
  rw [hp, hq, ez]
  simp only [List.head?_cons, List.drop_succ_cons, List.drop_zero, Option.some.injEq]
  have lz : xorL m m = List.replicate m.length false := xor_self m
  cases x <;> cases y <;> simp only [Bool.false_eq_true, if_false, if_true, Bool.xor_false, Bool.false_xor, Bool.xor_true, Bool.not_false, Bool.not_true]
  · rw [xor_assoc]
  · rw [xor_assoc, xor_assoc, xor_comm q m]
  · rw [xor_swap, lz]
    have : (xorL p q).length = m.length := by rw [xorL_len _ _ (by omega)]; exact lp
    rw [← this, xor_zero]
theorem fold_lin {m : List Bool} : ∀ {w1 w2 l1 l2 : List Bool}, w1.length = w2.length → l1.length = m.length → l2.length = m.length →
    (xorL w1 w2).foldl (stepR m) (xorL l1 l2) = xorL (w1.foldl (stepR m) l1) (w2.foldl (stepR m) l2)
  | [], [], _, _, _, _, _ => rfl
  | a :: w1, b :: w2, l1, l2, h, h1, h2 => by
    have e : xorL (a :: w1) (b :: w2) = (a ^^ b) :: xorL w1 w2 := rfl
    rw [e, List.foldl_cons, List.foldl_cons, List.foldl_cons, step_lin h1 h2]
    exact fold_lin (by simpa using h) (stepR_len h1) (stepR_len h2)
/-- few bits behind zeros go in as they are -/
theorem fold_in {m : List Bool} : ∀ (w l : List Bool), l.length + w.length = m.length → w.foldl (stepR m) (List.replicate w.length false ++ l) = l ++ w
  | [], l, _ => by simp
  | b :: w, l, h => by
    rw [List.foldl_cons]
    have : stepR m (List.replicate (b :: w).length false ++ l) b = List.replicate w.length false ++ (l ++ [b]) := by
      unfold stepR
      rw [List.length_cons, List.replicate_succ]
      simp
    rw [this, fold_in w (l ++ [b]) (by simp at h ⊢; omega)]
    simp
theorem restR_app (poly st a b : List Bool) : restR poly st (a ++ b) = restR poly (restR poly st a) b := by
  unfold restR
  rw [List.foldl_append]
/-- the last bits, as many as the degree, are taken away from what noughts give -/
theorem restR_tail {poly st data w : List Bool} (h : poly.length = st.length + 1) (hw : w.length = st.length) : restR poly st (data ++ w) = xorL (restR poly st (data ++ List.replicate st.length false)) w := by
  rw [restR_app, restR_app]
  have hl : (restR poly st data).length = (poly.drop 1).length := by rw [restR_len h]; simp [h]
  have hm : (poly.drop 1).length = st.length := by simp [h]
  generalize restR poly st data = l at hl
  have e1 : w = xorL (List.replicate st.length false) w := by rw [xor_comm, ← hw, xor_zero]
  have e2 : l = xorL l (List.replicate st.length false) := by
    have : l.length = st.length := by omega
    rw [← this, xor_zero]
  have := fold_lin (m := poly.drop 1) (w1 := List.replicate st.length false) (w2 := w) (l1 := l) (l2 := List.replicate st.length false) (by simp [hw]) hl (by rw [List.length_replicate]; exact hm.symm)
  rw [← e1, ← e2] at this
  unfold restR
  rw [this]
  congr 1
  have := fold_in (m := poly.drop 1) w [] (by simp; omega)
  rw [List.append_nil, List.nil_append, hw] at this
  exact this
def goodB (poly st msg : List Bool) : Bool := decide (st.length ≤ msg.length) && !(decide (true ∈ restR poly st msg))
theorem zero_iff {l : List Bool} : ¬ true ∈ l ↔ l = List.replicate l.length false := by
  constructor
  · intro h
    rw [List.eq_replicate_iff]
    exact ⟨rfl, fun b hb => by cases b; rfl; exact absurd hb h⟩
  · intro h
    rw [h]
    intro hm
    have := List.eq_of_mem_replicate hm
    cases this
def bitsR (poly st data : List Bool) : List Bool := restR poly st (data ++ List.replicate st.length false)
theorem bitsR_len {poly st data : List Bool} (h : poly.length = st.length + 1) : (bitsR poly st data).length = st.length := restR_len h _
/-- these bits, and no others -/
theorem good_iff {poly st data w : List Bool} (h : poly.length = st.length + 1) (hw : w.length = st.length) : goodB poly st (data ++ w) = decide (w = bitsR poly st data) := by
  unfold goodB
  rw [decide_eq_true (by simp; omega), Bool.true_and, ← decide_not]
  apply decide_eq_decide.mpr
  rw [zero_iff, restR_len h, restR_tail h hw]
  have hb := bitsR_len (data := data) h
  constructor
  · intro e
    exact (xor_eq_zero (a := bitsR poly st data) (b := w) (by omega) (by rw [hb]; exact e)).symm
  · intro e
    have := xor_self (bitsR poly st data)
    rw [hb] at this
    rw [e]
    exact this
theorem mem_one (z : List Bool) : (49 ∈ (WS z).cps.toList) ↔ (true ∈ z) := by
  show 49 ∈ (z.map cd) ↔ _
  rw [List.mem_map]
  constructor
  · rintro ⟨b, hb, e⟩
    cases b
    · exact absurd e (by decide)
    · exact hb
  · intro h
    exact ⟨true, h, rfl⟩
def spBitsFor (C : Addr) : Sp := fun vs H Q _ => ∃ (p : Addr) (poly st data : List Bool), vs = [.ref p, .str (WS data)] ∧ CkAt C H p poly st ∧ Chk poly st ∧ st.length ≤ 400 ∧ data.length ≤ 500 ∧ ∀ H', Same H H' → Q (.str (WS (bitsR poly st data))) H'
def spGood (C : Addr) : Sp := fun vs H Q _ => ∃ (p : Addr) (poly st msg : List Bool), vs = [.ref p, .str (WS msg)] ∧ CkAt C H p poly st ∧ Chk poly st ∧ st.length ≤ 400 ∧ msg.length ≤ 900 ∧ ∀ H', Same H H' → Q (.bl (goodB poly st msg)) H'
end Own
namespace Own
open PySem PySem.Spec PyProof.Rows L2
/-! ### all words of a size -/
def two (w : List Bool) : List (List Bool) := [w ++ [false], w ++ [true]]
def wordsL : Nat → List (List Bool)
  | 0 => [[]]
  | n + 1 => (wordsL n).flatMap two
def strV (ws : List (List Bool)) : List V := ws.map fun w => V.str (WS w)
theorem strV_len (ws : List (List Bool)) : (strV ws).length = ws.length := by unfold strV; rw [List.length_map]
theorem strV_app (a b : List (List Bool)) : strV (a ++ b) = strV a ++ strV b := by unfold strV; rw [List.map_append]
theorem wordsL_len : ∀ n, (wordsL n).length = 2 ^ n
  | 0 => rfl
  | n + 1 => by
    unfold wordsL
    rw [List.length_flatMap]
    have : ∀ l : List (List Bool), (l.map fun a => (two a).length).sum = 2 * l.length := by
      intro l
      induction l with
      | nil => rfl
      | cons x r ih =>
        rw [List.map_cons, List.sum_cons, ih, List.length_cons]
        show 2 + 2 * r.length = 2 * (r.length + 1)
        omega
    rw [this, wordsL_len n, Nat.pow_succ]
    omega
theorem mem_wordsL : ∀ {n : Nat} {w : List Bool}, w ∈ wordsL n ↔ w.length = n
  | 0, w => by unfold wordsL; rw [List.mem_singleton, List.length_eq_zero_iff]
  | n + 1, w => by
    unfold wordsL
    rw [List.mem_flatMap]
    constructor
    · rintro ⟨u, hu, hw⟩
      have h1 := mem_wordsL.mp hu
      unfold two at hw
      rcases List.mem_cons.mp hw with e | hw
      · rw [e]; simp [h1]
      · rw [List.mem_singleton] at hw
        rw [hw]; simp [h1]
    · intro h
      have hne : w ≠ [] := by intro e; rw [e] at h; cases h
      refine ⟨w.dropLast, mem_wordsL.mpr (by rw [List.length_dropLast]; omega), ?_⟩
      have e := List.dropLast_concat_getLast hne
      unfold two
      cases hb : w.getLast hne with
      | false => rw [hb] at e; exact List.mem_cons.mpr (.inl e.symm)
      | true => rw [hb] at e; exact List.mem_cons.mpr (.inr (List.mem_singleton.mpr e.symm))
theorem one_good {poly st bits : List Bool} (h : poly.length = st.length + 1) : ∃ r, (wordsL st.length).filter (fun w => goodB poly st (bits ++ w)) = bitsR poly st bits :: r ∧ ∀ w ∈ (wordsL st.length).filter (fun w => goodB poly st (bits ++ w)), w = bitsR poly st bits := by
  have hb := bitsR_len (data := bits) h
  have all : ∀ w ∈ (wordsL st.length).filter (fun w => goodB poly st (bits ++ w)), w = bitsR poly st bits := fun w hw => by
    obtain ⟨h1, h2⟩ := List.mem_filter.mp hw
    rw [good_iff h (mem_wordsL.mp h1)] at h2
    exact of_decide_eq_true h2
  have hin : bitsR poly st bits ∈ (wordsL st.length).filter (fun w => goodB poly st (bits ++ w)) := List.mem_filter.mpr ⟨mem_wordsL.mpr hb, by rw [good_iff h hb]; exact decide_eq_true rfl⟩
  cases e : (wordsL st.length).filter (fun w => goodB poly st (bits ++ w)) with
  | nil => rw [e] at hin; cases hin
  | cons x r =>
    have hx : x = bitsR poly st bits := all x (by rw [e]; exact List.mem_cons_self)
    rw [e] at all
    exact ⟨r, by rw [hx], all⟩
def spWords : Sp := fun vs H Q _ => ∃ (n : Int), vs = [.int n] ∧ 0 ≤ n ∧ n ≤ 6 ∧ ∀ l H', H l = none → H' l = some (.lst (strV (wordsL n.toNat))) → Same H H' → Q (.ref l) H'
def spRight : Sp := fun vs H Q _ => ∃ (t : Addr) (poly st msg : List Bool), vs = [.ref t, .str (WS msg)] ∧ H t = some (.tup [.str (WS poly), .str (WS st)]) ∧ Chk poly st ∧ st.length ≤ 400 ∧ msg.length ≤ 900 ∧ ∀ H', Same H H' → Q (.bl (goodB poly st msg)) H'
def spLBits : Sp := fun vs H Q _ => ∃ (t : Addr) (poly st bits : List Bool), vs = [.ref t, .str (WS bits)] ∧ H t = some (.tup [.str (WS poly), .str (WS st)]) ∧ Chk poly st ∧ st.length ≤ 4 ∧ bits.length ≤ 400 ∧ ∀ H', Same H H' → Q (.str (WS (bitsR poly st bits))) H'
def spTurn : Sp := fun vs H Q _ => ∃ b : Bool, vs = [.str (WS [b])] ∧ Q (.str (WS [!b])) H
end Own
namespace Own
open PySem PySem.Spec PyProof.Rows L2
theorem iteNE {a b : V} {p q : Prop} (h : a ≠ b) (x : p) : if (!decide (a = b)) = true then p else q := by
  rw [decide_eq_false h]
  exact x
theorem str_ne {a b : Str} (h : a ≠ b) : V.str a ≠ V.str b := fun e => h (by injection e)
end Own

set_option Elab.async false
set_option linter.all false
set_option maxRecDepth 100000
set_option maxHeartbeats 2000000
/-! own == and != of two instances of one class -/
namespace OwnC
open PySem PySem.Spec PyProof.Rows PySem.W
section
variable {prog : Program} {w : World} {A : Around} {E : Value → Shared → Prop} {s : Shared} {K : Frag} {x C f L : Addr} {h₀ : Heap} {m : Str → Option Value} {ox : Obj} {od : Option Obj} {b tb : Value}
theorem ne_entry (X : K.In s.heap) (I : InstAt s.heap x ox C od) (hs : findIn K (.ref C) "__eq__" = some (some (.ref f))) (hf : isFn K (.ref f) = true) (hu : A.units < cLine) {Q : Fin → Shared → Prop}
    (hcall : wpAny (model prog w) A (call (.ref f) [.ref x, b]) (fun v s' => ∃ c, v = .bool c ∧ Q (.done (.ret (.bool (!c)))) s') E s) :
    wpAny (model prog w) A (Builtin.«object.__ne__» ⟨[.ref x, b], []⟩) Q E s := by
  unfold Builtin.«object.__ne__»
  repeat (first
    | with_reducible refine wpAny_cRoomFor hu ?_
    | (refine wpAny_bind (m := callSpecialIfBound? (.ref x) (Str.ofString "__eq__") [b])
        (ifBound_K X I hs hf (wpAny_mono hcall (fun v s' hr => by
          obtain ⟨c, rfl, hq⟩ := hr
          repeat (first | exact hq | exact wpAny_pure hq | exact wpAny_truthy_bool hq | (refine wpAny_bind (m := truthy (.bool _)) (wpAny_truthy_bool ?_)) | wp_step)) fun _ _ e => e)))
    | wp_step)
theorem try_ne {Q : Option Value → Shared → Prop} (X : K.In s.heap) (I : InstAt s.heap x ox C od) (hm : mroIn K C (.type "object") = some true) (hne : findIn K (.ref C) "__ne__" = some (some (.builtin "object.__ne__")))
    (hs : findIn K (.ref C) "__eq__" = some (some (.ref f))) (hf : isFn K (.ref f) = true) (hu : A.in1.units < cLine)
    (hcall : wpAny (model prog w) A.in1 (call (.ref f) [.ref x, b]) (fun v s' => ∃ c, v = .bool c ∧ Q (some (.bool (!c))) s') E s) :
    wpAny (model prog w) A (tryCompare (.ref x) "__ne__" b) Q E s := by
  have fin : wpAny (model prog w) A (call (.builtin "object.__ne__") [.ref x, b]) (fun v s' => ∃ c, v = .bool (!c) ∧ Q (some (.bool (!c))) s') E s :=
    wpAny_call (codeAny_call_builtin F.cmp_object.ne.plain F.cmpEntry_ne (PySem.W.check_slot F.cmpKind_ne F.cmpSplit_ne (I.type.andThen (PySem.W.looks_mroIn X hm)) (F.cmpArgs_ne _ _)
      (ne_entry (A := A.in1) X I hs hf hu (wpAny_mono hcall (fun v s' hv => by
        obtain ⟨c, e, q⟩ := hv
        exact ⟨c, e, c, rfl, q⟩) fun _ _ e => e))))
  unfold tryCompare
  refine wpAny_bind ?_
  simp only [callSpecialIfBound?, bindSpecialIfBound?]
  refine wpAny_holding (wpAny_bind (wpAny_bind (wpAny_bind (I.type.here ((PySem.W.looks_findIn X hne).here ?_)))))
  refine wpAny_bind (wpAny_askSetting (wpAny_ite ?_))
  have fin2 : wpAny (model prog w) A (call (.builtin "object.__ne__") ([.ref x] ++ [b]) >>= fun v => pure (some v)) (fun r s' => ∃ c, r = some (.bool (!c)) ∧ Q (some (.bool (!c))) s') E s := wpAny_bind (wpAny_mono fin (fun v s' h' => by
    obtain ⟨c, e, q⟩ := h'
    subst e
    exact wpAny_pure ⟨c, rfl, q⟩) fun _ _ h' => h')
  split
  · exact wpAny_bind (wpAny_of_eq (F.cmp_object.ne.bind _) (wpAny_pure (wpAny_mono fin2 (fun r s' z => by
      obtain ⟨c, rfl, q⟩ := z
      exact wpAny_pure q) fun _ _ h => h)))
  · exact wpAny_tryCatch (wpAny_bind (wpAny_of_eq (F.cmp_object.ne.bind _) (wpAny_pure (wpAny_mono fin2 (fun r s' z => by
      obtain ⟨c, rfl, q⟩ := z
      exact wpAny_pure q) fun _ _ h => h))))
theorem cmpNe_K {Q : Value → Shared → Prop} (F : Fr h₀ L s.heap m) (X₀ : K.In h₀) (I : InstAt s.heap x ox C od) (hb : Looks (model prog w) s.heap (typeOf b) tb) (hn : notFirst K C tb = true)
    (hm : mroIn K C (.type "object") = some true) (hne : findIn K (.ref C) "__ne__" = some (some (.builtin "object.__ne__"))) (hs : findIn K (.ref C) "__eq__" = some (some (.ref f))) (hf : isFn K (.ref f) = true) (hu : A.units + 1 < cLine)
    (h : wpAny (model prog w) A.in1 (call (.ref f) [.ref x, b]) (fun v s' => ∃ c, v = .bool c ∧ Q (.bool (!c)) s') E s) : wpAny (model prog w) A (richCompare .NotEq (.ref x) b) Q E s := by
  have X := X₀.keeps F.keep
  have one : wpAny (model prog w) A (tryCompare (.ref x) (cmpInfo .NotEq).2.1 b) (fun r s' => ∃ v, r = some v ∧ Q v s') E s := by
    rw [cmpInfo_NotEq]
    exact try_ne X I hm hne hs hf (show A.units + 1 < cLine from hu) (wpAny_mono h (fun v s' z => by
      obtain ⟨c, e, q⟩ := z
      exact ⟨c, e, _, rfl, q⟩) fun _ _ e => e)
  unfold richCompare
  simp only [oneThing_ref]
  refine wpAny_holding (wpAny_bind (wpAny_cRoomFor (Nat.lt_of_succ_lt hu) ?_))
  refine wpAny_bind (I.type.here (wpAny_bind (hb.here ?_)))
  split
  · rename_i q
    have e : subIn K tb (.ref C) = some false := by
      rcases Bool.or_eq_true_iff.mp hn with e | e
      · rw [beq_iff_eq.mp e] at q; simp at q
      · exact beq_iff_eq.mp e
    refine wpAny_bind ((looks_subIn X e).here ?_)
    simp only [Bool.false_eq_true, if_false]
    refine wpAny_bind (wpAny_mono one (fun r s' z => ?_) fun _ _ e => e)
    obtain ⟨v, rfl, hq⟩ := z
    exact wpAny_pure hq
  · refine wpAny_bind (wpAny_pure ?_)
    simp only [Bool.false_eq_true, if_false]
    refine wpAny_bind (wpAny_mono one (fun r s' z => ?_) fun _ _ e => e)
    obtain ⟨v, rfl, hq⟩ := z
    exact wpAny_pure hq
open Builtin Builtin.Str in
theorem str_new_in {v : Value} : MeetsIn prog w («str.__new__» ⟨[.type "str", v], []⟩) (fun A R s => wpAny (model prog w) A.in1 (strOf v) (fun r s' => R (.ok (.ret r)) s') (fun e s' => R (.error e) s') s) :=
  .of_wp fun A R s h => by
    rw [str_new_tree v]
    refine wpAny_bind (wpAny_pure ?_)
    refine wpAny_bind (wpAny_of_eq isSubtype_str_str ?_)
    exact wpAny_bind (wpAny_mono h (fun r s' h' => wpAny_pure ⟨_, rfl, h'⟩) fun _ _ e => e)
open Builtin Builtin.Str in
theorem str_K {Q : Value → Shared → Prop} (hu : A.in1.in1.units < cLine) (FR : Fr h₀ L s.heap m) (X₀ : K.In h₀) (I : InstAt s.heap x ox C od) (hs : findIn K (.ref C) "__str__" = some (some (.ref f))) (hf : isFn K (.ref f) = true)
    (h : wpAny (model prog w) A.in1.in1 (call (.ref f) [.ref x]) (StrBack Q) E s) : wpAny (model prog w) A (call (.type "str") [.ref x]) Q E s := by
  refine callType_newIn F.called_str (by decide) (F.typeCall_str_1 _) (F.newCall_str_1 _) (fun obj => F.args_object_init_2 obj _) F.entry_str_new str_new_in ?_
  unfold Builtin.Str.strOf
  rw [if_neg (show ¬ isExactStr (.ref x) = true from fun e => by cases e)]
  refine wpAny_bind (wpAny_cRoomFor hu ?_)
  refine wpAny_bind (m := callSpecial? (.ref x) (Str.ofString "__str__")) (special_fn (X₀.keeps FR.keep) I hs (beq_iff_eq.mp hf) (wpAny_mono h (fun r s' hr => ?_) fun _ _ y => y))
  cases r <;> first | exact hr.elim | skip
  rename_i a t
  refine wpAny_bind (wpAny_of_eq (rfl : asStr? (.str a t) = pure (some a)) ?_)
  exact wpAny_pure ⟨typeIs_str _ _ _, hr⟩
end
end OwnC
namespace Own
open PySem PySem.Spec PyProof.Rows L2
open C8 (pass0)
/-- == (neg = false) and != (neg = true) of two instances of the class at C, by the promise of its own == -/
def rOwnCmp (C : Addr) (sp : Sp) (neg : Bool) : R2 := fun x y H Q => ∃ a b dx dy fs gs, x = .ref a ∧ y = .ref b ∧ H a = some (.ins C dx fs) ∧ H b = some (.ins C dy gs) ∧ sp [.ref a, .ref b] H (fun v H' => ∃ c, v = .bl c ∧ Q (.bl (if neg then !c else c)) H') C8.E0
/-- what the module says of the class whose == it is -/
structure EqM (P : Program) (w : World) (K : PySem.W.Frag) (mg : Str → Option Value) (base : Heap) (k : Nat) (C : Addr) (sp : Sp) : Prop where
  ex : ∃ (f : Addr) (fd : FuncData) (ps : List Str), FnOk P w K mg base C8.CX0 k f fd ps sp ∧ PySem.W.findIn K (.ref C) "__eq__" = some (some (.ref f)) ∧ PySem.W.isFn K (.ref f) = true ∧ Binds K fd ps [] ∧
    PySem.W.mroIn K C (.type "object") = some true ∧ PySem.W.findIn K (.ref C) "__ne__" = some (some (.builtin "object.__ne__"))
section
variable {X : Cx} {j k : Nat} {C : Addr} {sp : Sp}
theorem own_call {A : Around} {pins : List (Addr × Obj)} {σ : L2.St} {H : Hp} {s : Shared} {f : Addr} {fd : FuncData} {ps : List Str} {a b : Addr} {Q : VK} (I : Inv X pins σ H s) (sb : Sub X k A) (F : FnOk X.prog X.w X.K X.mg X.base C8.CX0 k f fd ps sp) (hb : Binds X.K fd ps [])
    (hsp : sp [.ref a, .ref b] H Q C8.E0) : wpAny (model X.prog X.w) A (call (.ref f) [.ref a, .ref b]) (fun v s' => ∃ z H', Inv X pins σ H' s' ∧ RelV z v ∧ Q z H') X.xe s := by
  have e0 : Env0 X.prog X.w X.K X.mg X.base A X.stack s H := by
    have e := I.env0
    exact ⟨by rw [sb.fr]; exact e.frames, e.mod, e.bs, e.bsz, e.funs, e.frf, e.hok, e.bare⟩
  have hl := F.len _ _ _ _ hsp
  have r2 : Vals [V.ref a, V.ref b] [Value.ref a, Value.ref b] := .cons rfl (.cons rfl .nil)
  refine wpAny_call (codeAny_mono (F.run A X.stack s H ⟨[.ref a, .ref b], []⟩ [.ref a, .ref b] [.ref a, .ref b] _ C8.E0 sb.room e0 (by
    have := hb s [.ref a, .ref b] I.kIn (by simpa using hl)
    simpa using this) r2 hsp) fun r s' hq => ?_)
  cases r with
  | error e => exact C8.pass0 (X := X) (E := C8.E0) pins σ H s e s' I hq
  | ok fl =>
    cases fl with
    | ret w =>
      obtain ⟨z, H', I', rz, ez⟩ := I.after hq
      exact ⟨z, H', I', rz, ez⟩
    | next => exact False.elim hq
    | brk => exact False.elim hq
    | cont => exact False.elim hq
theorem op_ownEq (M : EqM X.prog X.w X.K X.mg X.base k C sp) (hr : Room j X.A) (hk : k ≤ j) : OpR X (compareOp .Eq) (rOwnCmp C sp false) := by
  intro pins s σ H x y u v Q I rx ry h
  obtain ⟨a, b, dx, dy, fs, gs, rfl, rfl, ha, hb', hsp⟩ := h
  obtain ⟨f, fd, ps, F, hs, hf, hb, _, _⟩ := M.ex
  cases rx
  cases ry
  obtain ⟨mA, J, _⟩ := ins_get I.hok ha
  obtain ⟨mB, J', _⟩ := ins_get I.hok hb'
  obtain ⟨od, J, _⟩ := J.look
  obtain ⟨od', J', _⟩ := J'.look
  obtain ⟨m, hF⟩ := I.fr
  show wpAny (model X.prog X.w) X.A (richCompare .Eq (.ref a) (.ref b)) (EP X pins σ Q) X.xe s
  refine PySem.W.cmp_K (op := .Eq) (tb := .ref C) hr.units0 hF I.ok.mod.kin J J'.type (by simp [PySem.W.notFirst]) hs hf ?_
  refine wpAny_mono (own_call I ⟨hr.mono hk, rfl⟩ F hb hsp) (fun r s' z => ?_) fun _ _ x => x
  obtain ⟨z, H', I', rz, c, rfl, q⟩ := z
  cases rz
  exact ⟨.bl c, H', I', rfl, q⟩
theorem op_ownNe (M : EqM X.prog X.w X.K X.mg X.base k C sp) (hr : Room j X.A) (hk : k + 1 ≤ j) : OpR X (compareOp .NotEq) (rOwnCmp C sp true) := by
  intro pins s σ H x y u v Q I rx ry h
  obtain ⟨a, b, dx, dy, fs, gs, rfl, rfl, ha, hb', hsp⟩ := h
  obtain ⟨f, fd, ps, F, hs, hf, hb, hm, hne⟩ := M.ex
  cases rx
  cases ry
  obtain ⟨mA, J, _⟩ := ins_get I.hok ha
  obtain ⟨mB, J', _⟩ := ins_get I.hok hb'
  obtain ⟨od, J, _⟩ := J.look
  obtain ⟨od', J', _⟩ := J'.look
  obtain ⟨m, hF⟩ := I.fr
  have sb : Sub X (k + 1) X.A := ⟨hr.mono hk, rfl⟩
  show wpAny (model X.prog X.w) X.A (richCompare .NotEq (.ref a) (.ref b)) (EP X pins σ Q) X.xe s
  refine OwnC.cmpNe_K (tb := .ref C) hF I.ok.mod.kin J J'.type (by simp [PySem.W.notFirst]) hm hne hs hf sb.in1.room.units0 ?_
  refine wpAny_mono (own_call I sb.in1 F hb hsp) (fun r s' z => ?_) fun _ _ x => x
  obtain ⟨z, H', I', rz, c, rfl, q⟩ := z
  cases rz
  exact ⟨c, rfl, .bl (!c), H', I', rfl, q⟩
/-- a special method of one argument, as the module has it -/
structure OneM (P : Program) (w : World) (K : PySem.W.Frag) (mg : Str → Option Value) (base : Heap) (k : Nat) (C : Addr) (name : Str) (sp : Sp) : Prop where
  ex : ∃ (f : Addr) (fd : FuncData) (ps : List Str), FnOk P w K mg base C8.CX0 k f fd ps sp ∧ PySem.W.findIn K (.ref C) name = some (some (.ref f)) ∧ PySem.W.isFn K (.ref f) = true ∧ Binds K fd ps []
theorem one_call {A : Around} {pins : List (Addr × Obj)} {σ : L2.St} {H : Hp} {s : Shared} {f : Addr} {fd : FuncData} {ps : List Str} {a : Addr} {Q : VK} (I : Inv X pins σ H s) (sb : Sub X k A) (F : FnOk X.prog X.w X.K X.mg X.base C8.CX0 k f fd ps sp) (hb : Binds X.K fd ps [])
    (hsp : sp [.ref a] H Q C8.E0) : wpAny (model X.prog X.w) A (call (.ref f) [.ref a]) (fun v s' => ∃ z H', Inv X pins σ H' s' ∧ RelV z v ∧ Q z H') X.xe s := by
  have e0 : Env0 X.prog X.w X.K X.mg X.base A X.stack s H := by
    have e := I.env0
    exact ⟨by rw [sb.fr]; exact e.frames, e.mod, e.bs, e.bsz, e.funs, e.frf, e.hok, e.bare⟩
  have hl := F.len _ _ _ _ hsp
  have r2 : Vals [V.ref a] [Value.ref a] := .cons rfl .nil
  refine wpAny_call (codeAny_mono (F.run A X.stack s H ⟨[.ref a], []⟩ [.ref a] [.ref a] _ C8.E0 sb.room e0 (by
    have := hb s [.ref a] I.kIn (by simpa using hl)
    simpa using this) r2 hsp) fun r s' hq => ?_)
  cases r with
  | error e => exact C8.pass0 (X := X) (E := C8.E0) pins σ H s e s' I hq
  | ok fl =>
    cases fl with
    | ret w =>
      obtain ⟨z, H', I', rz, ez⟩ := I.after hq
      exact ⟨z, H', I', rz, ez⟩
    | next => exact False.elim hq
    | brk => exact False.elim hq
    | cont => exact False.elim hq
def rOwnStr (C : Addr) (sp : Sp) : List V → Hp → VK → Prop := fun xs H Q => ∃ a dx fs, xs = [V.ref a] ∧ H a = some (.ins C dx fs) ∧ sp [.ref a] H (fun v H' => ∃ z, v = .str z ∧ Q (.str z) H') C8.E0
def rOwnLen (C : Addr) (sp : Sp) : List V → Hp → VK → Prop := fun xs H Q => ∃ a dx fs, xs = [V.ref a] ∧ H a = some (.ins C dx fs) ∧ sp [.ref a] H (fun v H' => ∃ n : Int, v = .int n ∧ 0 ≤ n ∧ n < 2 ^ 63 ∧ Q (.int n) H') C8.E0
theorem call_ownStr (M : OneM X.prog X.w X.K X.mg X.base k C "__str__" sp) (hr : Room j X.A) (hk : k + 2 ≤ j) : CallR X (.type "str") (rOwnStr C sp) := by
  intro pins s σ H xs us Q I r h
  obtain ⟨a, dx, fs, rfl, ha, hsp⟩ := h
  match us, r with
  | [u], .cons ra .nil =>
    cases (show u = Value.ref a from ra)
    obtain ⟨f, fd, ps, F, hs, hf, hb⟩ := M.ex
    obtain ⟨mA, J, _⟩ := ins_get I.hok ha
    obtain ⟨od, J, _⟩ := J.look
    obtain ⟨m, hF⟩ := I.fr
    have sb : Sub X (k + 1 + 1) X.A := ⟨hr.mono hk, rfl⟩
    refine OwnC.str_K sb.in1.in1.room.units0 hF I.ok.mod.kin J hs hf ?_
    refine wpAny_mono (one_call I sb.in1.in1 F hb hsp) (fun r s' z => ?_) fun _ _ x => x
    obtain ⟨z, H', I', rz, c, rfl, q⟩ := z
    obtain ⟨t, rfl⟩ := (show ∃ t, r = Value.str c t from rz)
    exact ⟨.str c, H', I', ⟨t, rfl⟩, q⟩
theorem call_ownLen (M : OneM X.prog X.w X.K X.mg X.base k C "__len__" sp) (hr : Room j X.A) (hk : k + 1 ≤ j) : CallR X (.builtin "len") (rOwnLen C sp) := by
  intro pins s σ H xs us Q I r h
  obtain ⟨a, dx, fs, rfl, ha, hsp⟩ := h
  match us, r with
  | [u], .cons ra .nil =>
    cases (show u = Value.ref a from ra)
    obtain ⟨f, fd, ps, F, hs, hf, hb⟩ := M.ex
    obtain ⟨mA, J, _⟩ := ins_get I.hok ha
    obtain ⟨od, J, _⟩ := J.look
    obtain ⟨m, hF⟩ := I.fr
    have sb : Sub X (k + 1) X.A := ⟨hr.mono hk, rfl⟩
    refine PySem.W.len_K hF I.ok.mod.kin J hs hf ?_
    refine wpAny_mono (one_call I sb.in1 F hb hsp) (fun r s' z => ?_) fun _ _ x => x
    obtain ⟨z, H', I', rz, n, rfl, n0, n1, q⟩ := z
    obtain ⟨t, rfl⟩ := (show ∃ t, r = Value.int n t from rz)
    exact ⟨⟨n0, n1⟩, .int n, H', I'.tok _, ⟨_, rfl⟩, q⟩
end
end Own

set_option Elab.async false
set_option linter.all false
set_option maxRecDepth 100000
set_option maxHeartbeats 2000000
namespace Own
open PySem PySem.Spec PyProof.Rows L2
def spCkEq (C : Addr) : Sp := fun vs H Q _ => ∃ (a b : Addr) (p1 s1 p2 s2 : List Bool), vs = [.ref a, .ref b] ∧ CkAt C H a p1 s1 ∧ CkAt C H b p2 s2 ∧ ∀ H', Same H H' → Q (.bl (decide (p1 = p2 ∧ s1 = s2))) H'
/-- the text of a check -/
def ckText (poly st : List Bool) : Str := if st = [] then "1" else ((Str.empty ++ WS poly) ++ (" start " : Str)) ++ WS st
def spCkStr (C : Addr) : Sp := fun vs H Q _ => ∃ (a : Addr) (p1 s1 : List Bool), vs = [.ref a] ∧ CkAt C H a p1 s1 ∧ p1.length = s1.length + 1 ∧ p1.length ≤ 400 ∧ ∀ H', Same H H' → Q (.str (ckText p1 s1)) H'
end Own
namespace Own
open PySem PySem.Spec PyProof.Rows L2
theorem tl_WS (w : List Bool) : (32 : Nat) ∉ TL.tl (WS w) := by
  intro h
  obtain ⟨b, _, e⟩ := List.mem_map.mp (show 32 ∈ w.map cd from h)
  cases b <;> exact absurd e (by decide)
theorem ckSplit {poly st : List Bool} (h : st ≠ []) : Txt.split (ckText poly st) (" start " : Str) = [WS poly, WS st] := by
  have e : ckText poly st = Txt.join (" start " : Str) [WS poly, WS st] := by
    unfold ckText
    rw [if_neg h, Str.empty_append]
    rfl
  rw [e]
  exact TL.split_join (s := 32) (S := [115, 116, 97, 114, 116, 32]) (by decide +kernel) (by decide +kernel) (by simp) fun p hp => by
    simp only [List.mem_cons, List.not_mem_nil, or_false] at hp
    rcases hp with rfl | rfl
    · exact tl_WS _
    · exact tl_WS _
theorem ck_ne1 {poly st : List Bool} (h : st ≠ []) : ckText poly st ≠ "1" := fun e => by
  have : (ckText poly st).length = 1 := by rw [e]; rfl
  unfold ckText at this
  rw [if_neg h] at this
  simp [Str.length, Str.cps_append] at this
  have w4 : (Str.ofString " start ").cps.size = 7 := rfl
  omega
def spCkRead (C : Addr) : Sp := fun vs H Q _ => ∃ (poly st : List Bool), vs = [.ref C, .str (ckText poly st)] ∧ Chk poly st ∧ st.length ≤ 300 ∧ ∀ p H', CkAt C H' p poly st → Same H H' → Q (.ref p) H'
end Own

set_option Elab.async false
set_option linter.all false
set_option maxRecDepth 100000
set_option maxHeartbeats 2000000
namespace Own
open PySem PySem.Spec PyProof.Rows L2
/-! ### a single wrong bit is seen -/
theorem step_zero (m : List Bool) : stepR m (List.replicate m.length false) false = List.replicate m.length false := by
  unfold stepR
  have e : List.replicate m.length false ++ [false] = false :: List.replicate m.length false := by
    rw [← List.replicate_succ', List.replicate_succ]
  rw [e]
  simp
theorem fold_zero (m : List Bool) : ∀ n : Nat, (List.replicate n false).foldl (stepR m) (List.replicate m.length false) = List.replicate m.length false
  | 0 => rfl
  | n + 1 => by rw [List.replicate_succ, List.foldl_cons, step_zero, fold_zero m n]
theorem xorL_app {a b c d : List Bool} (h : a.length = b.length) : xorL (a ++ c) (b ++ d) = xorL a b ++ xorL c d := by
  unfold xorL
  rw [List.zipWith_append h]
theorem step_nz {m l : List Bool} (hl : l.length = m.length) (he : [true] <:+ m) (h : true ∈ l) : true ∈ stepR m l false := by
  obtain ⟨m', rfl⟩ := he
  cases l with
  | nil => cases h
  | cons x p =>
    have hp : p.length = m'.length := by simp at hl; omega
    unfold stepR
    cases x with
    | true =>
      show true ∈ (if some true = some true then xorL (p ++ [false]) (m' ++ [true]) else _)
      rw [if_pos rfl, xorL_app hp]
      exact List.mem_append_right _ (List.mem_singleton.mpr rfl)
    | false =>
      show true ∈ (if some false = some true then _ else p ++ [false])
      rw [if_neg (by decide)]
      rcases List.mem_cons.mp h with e | e
      · cases e
      · exact List.mem_append_left _ e
theorem fold_nz {m : List Bool} (he : [true] <:+ m) : ∀ (n : Nat) {l : List Bool}, l.length = m.length → true ∈ l → true ∈ (List.replicate n false).foldl (stepR m) l
  | 0, l, _, h => h
  | n + 1, l, hl, h => by
    rw [List.replicate_succ, List.foldl_cons]
    exact fold_nz he n (stepR_len hl) (step_nz hl he h)
theorem first_nz {m : List Bool} (he : [true] <:+ m) : true ∈ stepR m (List.replicate m.length false) true := by
  obtain ⟨m', rfl⟩ := he
  rw [List.length_append]
  show true ∈ stepR _ (List.replicate (m'.length + 1) false) true
  unfold stepR
  rw [List.replicate_succ]
  show true ∈ (if some false = some true then _ else List.replicate m'.length false ++ [true])
  rw [if_neg (by decide)]
  exact List.mem_append_right _ (List.mem_singleton.mpr rfl)
/-- one bit otherwise: the rest is another one -/
theorem one_bent {m : List Bool} (he : [true] <:+ m) (a b : List Bool) (x : Bool) {l : List Bool} (hl : l.length = m.length) :
    ∃ e, true ∈ e ∧ e.length = m.length ∧ (a ++ (!x) :: b).foldl (stepR m) l = xorL ((a ++ x :: b).foldl (stepR m) l) e := by
  have hz : (List.replicate m.length false).length = m.length := List.length_replicate
  have lin := fold_lin (m := m) (w1 := a ++ x :: b) (w2 := List.replicate a.length false ++ true :: List.replicate b.length false) (l1 := l) (l2 := List.replicate m.length false) (by simp) hl hz
  have e1 : xorL (a ++ x :: b) (List.replicate a.length false ++ true :: List.replicate b.length false) = a ++ (!x) :: b := by
    rw [xorL_app (by simp), xor_zero]
    show a ++ (x ^^ true) :: xorL b (List.replicate b.length false) = _
    rw [xor_zero, Bool.xor_true]
  have e2 : xorL l (List.replicate m.length false) = l := by rw [← hl, xor_zero]
  rw [e1, e2] at lin
  refine ⟨_, ?_, ?_, lin⟩
  · rw [List.foldl_append, fold_zero, List.foldl_cons]
    exact fold_nz he _ (stepR_len hz) (first_nz he)
  · rw [List.foldl_append, fold_zero, List.foldl_cons]
    have : ∀ (w : List Bool) {l : List Bool}, l.length = m.length → (w.foldl (stepR m) l).length = m.length := by
      intro w
      induction w with
      | nil => intro l h; exact h
      | cons c w ih => intro l h; exact ih (stepR_len h)
    exact this _ (stepR_len hz)
end Own
namespace Own
open PySem PySem.Spec PyProof.Rows L2
theorem marks_len {poly st : List Bool} (ck : Chk poly st) : (poly.drop 1).length = st.length := by
  have := ck.len
  rw [List.length_drop]
  omega
/-- the sum of two rests is the rest of the sum, from a start of noughts -/
theorem rest_sum {poly st z y : List Bool} (ck : Chk poly st) (h : z.length = y.length) : xorL (restR poly st z) (restR poly st y) = restR poly (List.replicate st.length false) (xorL z y) := by
  have hm := marks_len ck
  unfold restR
  rw [← fold_lin h hm.symm hm.symm, xor_self]
theorem rest_noughts {poly st : List Bool} (ck : Chk poly st) (n : Nat) : restR poly (List.replicate st.length false) (List.replicate n false) = List.replicate st.length false := by
  have hm := marks_len ck
  unfold restR
  rw [← hm]
  exact fold_zero _ n
/-- with its check bits behind it a word leaves noughts -/
theorem rest_whole {poly st : List Bool} (ck : Chk poly st) (z : List Bool) : restR poly st (z ++ bitsR poly st z) = List.replicate st.length false := by
  rw [restR_tail ck.len (bitsR_len ck.len)]
  show xorL (bitsR poly st z) (bitsR poly st z) = _
  rw [xor_self, bitsR_len ck.len]
theorem marks_end {poly st : List Bool} (ck : Chk poly st) (h : 0 < st.length) : [true] <:+ poly.drop 1 := by
  obtain ⟨r, hr⟩ := ck.lt
  have hl := ck.len
  rw [← hr] at hl ⊢
  cases r with
  | nil =>
    have e : ([] ++ [true] : List Bool).length = 1 := rfl
    rw [e] at hl
    omega
  | cons x r => exact ⟨r, rfl⟩
/-- where a word left noughts, the same with one bit otherwise leaves a one -/
theorem bent_bad {poly st : List Bool} (ck : Chk poly st) (h : 0 < st.length) {a b : List Bool} {x : Bool} (hz : restR poly st (a ++ x :: b) = List.replicate st.length false) : true ∈ restR poly st (a ++ (!x) :: b) := by
  have hm := marks_len ck
  obtain ⟨e, he, hel, e2⟩ := one_bent (marks_end ck h) a b x (l := st) hm.symm
  unfold restR at hz ⊢
  rw [e2, hz]
  have : xorL (List.replicate st.length false) e = e := by rw [xor_comm, ← hm, ← hel, xor_zero]
  rw [this]
  exact he
end Own
namespace Own
open PySem PySem.Spec PyProof.Rows L2
theorem and_join2 {c : Bool} {H : Hp} {TT : Hp → (Bool → Hp → Prop) → Prop} {X Y : Hp → Prop} (G : Hp → Prop) (h0 : c = false → G H) (h : c = true → ∀ k : Bool → Hp → Prop, (∀ H', X H' → k true H') → (∀ H', G H' → k false H') → TT H k) (hy : ∀ H', G H' → Y H') :
    if c = true then TT H (fun b H1 => if b = true then X H1 else Y H1) else (fun b H1 => if b = true then X H1 else Y H1) false H := by
  cases c with
  | true =>
    rw [if_pos rfl]
    exact h rfl _ (fun H' x => by show if true = true then _ else _; rw [if_pos rfl]; exact x) fun H' g => by
      show if false = true then _ else _
      rw [if_neg (by decide)]
      exact hy _ g
  | false =>
    rw [if_neg (by decide)]
    show if false = true then _ else _
    rw [if_neg (by decide)]
    exact hy _ (h0 rfl)
end Own

set_option Elab.async false
set_option linter.all false
set_option maxRecDepth 100000
set_option maxHeartbeats 2000000
namespace Own
open PySem PySem.Spec PyProof.Rows L2
open C8 (Mak)
section
variable {X : Cx} {j k i : Nat} {C : Addr} {sp : Sp} {dvs : List V} {x x0 : Str} {p pos : Pos} {e : Expr} {es : List Expr} {t : TA}
/-- a local name that holds a class, called: cls(..) -/
def tMakeV (i : Nat) (C : Addr) (sp : Sp) (dvs : List V) (t : TA) : TE := fun σ H Q => σ[i]? = some (some (.ref C)) ∧ tMake C sp dvs C8.E0 t σ H Q
theorem pe_mkV (c : Mak X.prog X.w X.K X.mg X.base k x0 C sp dvs) (hr : Room j X.A) (hk : k + 1 ≤ j) (hN : X.N[i]? = some x) (hv : Vis X.env.scope x) (ha : PA X (e :: es) t)
    (hd : (x == ("__debug__" : Str)) = false := by decide) (hcd : (x == ("__classdict__" : Str)) = false := by decide)
    (he : starEach (e :: es) X.env = (false, eval e X.env) :: starEach es X.env := by rfl) (hpl : (backTo pos (starEach es X.env)).any (·.1) = false := by rfl) :
    PE X (.Call (.Name x p) (e :: es) [] pos) (tMakeV i C sp dvs t) := by
  refine ⟨fun pins s σ H Q I h => ?_⟩
  obtain ⟨h1, h2⟩ := h
  obtain ⟨f, fd, ps, ds, M, F, _, b, d⟩ := c.ex
  refine wpAny_Call_Name_kw (thn ((pe_var (pos := p) hN hv hd hcd).run pins s σ H (fun v H1 => v = .ref C ∧ H1 = H) I ⟨.ref C, h1, rfl, rfl⟩) fun u s1 ⟨v, H1, I1, r1, q1⟩ => ?_)
  obtain ⟨rfl, rfl⟩ := q1
  cases r1
  refine PySem.W.callWith_K (h₀ := X.base) I.ok.mod.kin M.kp (thn (ha.run pos pins s1 σ _ _ I1 h2) fun us s2 ⟨vs, H2, I2, r, q⟩ => ⟨I2.kIn, ?_⟩) he hpl
  exact run_make M F (hr.mono hk) b d C8.pass0 I2 r q
theorem pe_mkV0 (c : Mak X.prog X.w X.K X.mg X.base k x0 C sp dvs) (hr : Room j X.A) (hk : k + 1 ≤ j) (hN : X.N[i]? = some x) (hv : Vis X.env.scope x)
    (hd : (x == ("__debug__" : Str)) = false := by decide) (hcd : (x == ("__classdict__" : Str)) = false := by decide) :
    PE X (.Call (.Name x p) [] [] pos) (tMakeV i C sp dvs tNil) := by
  refine ⟨fun pins s σ H Q I h => ?_⟩
  obtain ⟨h1, h2⟩ := h
  obtain ⟨f, fd, ps, ds, M, F, _, b, d⟩ := c.ex
  refine wpAny_Call_Name_kw (thn ((pe_var (pos := p) hN hv hd hcd).run pins s σ H (fun v H1 => v = .ref C ∧ H1 = H) I ⟨.ref C, h1, rfl, rfl⟩) fun u s1 ⟨v, H1, I1, r1, q1⟩ => ?_)
  obtain ⟨rfl, rfl⟩ := q1
  cases r1
  exact PySem.W.callWith_K0 I1.kIn M.kp (run_make (us := []) M F (hr.mono hk) b d C8.pass0 I1 .nil h2)
end
end Own

set_option Elab.async false
set_option linter.all false
set_option maxRecDepth 100000
set_option maxHeartbeats 4000000
namespace La
open PySem PySem.Spec PyProof.Rows L2 Own
open C8 (Cal Mak Met pe_c pe_mk pe_mt pe_mt0 Def fnArgs fnBody fnScope fn0 fnScope_by)
def topS (i : Nat) : Stmt := PySem.Challenge.pw_unseenflips_k17_whole_checks.main.body.getD i (.Pass ⟨0, 0, 0, 0⟩)
section
variable {P : Program} {w : World} {K : PySem.W.Frag} {mg : Str → Option Value} {base : Heap}

abbrev s_seed : Stmt := (topS 10)
theorem sc_seed : FnScope ["_law_script", "_law_k", "_law_cell"] ["_law_script", "_law_k"] (fnScope s_seed) := fnScope_by (by decide +kernel)
theorem ok_seed {f : Addr} {fd : FuncData} (F : C8.Fun K "_law_seed" "_law_seed" s_seed f fd) (M : Mg mg) : FnOk P w K mg base CX0 1 f fd ["_law_script", "_law_k"] (spSeed K) := by
  refine fn0 F sc_seed (fun vs H Q E h => ?_) (fun cdv A outer s H vs Q E hr h => ?_)
  · obtain ⟨a, ns, k, rfl, _⟩ := h
    rfl
  · obtain ⟨a, ns, k, rfl, hS, hl, hk0, hk1, q⟩ := h
    refine ⟨_, (pss_cons (ps_set (i := 2) sc_seed.nd rfl (Or.inl rfl) (pe_op op_add (pe_op op_mul pe_int (pv 1)) pe_int))
        (C8.pss_cut (ps_if (pt_cmpR op_lt (pv 1) (pe_callB call_len_seq (by rfl) M.len PySem.boot_len (pa_cons (pv 0) pa_nil)) (nomark _))
          (pss_one (ps_set (i := 2) sc_seed.nd rfl (Or.inl rfl) (pe_callB call_abs (by rfl) M.abs (by decide +kernel) (pa_cons (pe_ix (r := rIxL K) ix_list (pv 0) (pv 1) (fun _ _ => rfl)) pa_nil))))
          (pss_one (ps_if (pt_cmpR op_gt (pe_callB call_len_seq (by rfl) M.len PySem.boot_len (pa_cons (pv 0) pa_nil)) pe_int (nomark _))
              (pss_one (ps_set (i := 2) sc_seed.nd rfl (Or.inl rfl) (pe_op op_add (pv 2) (pe_op op_mul (pe_op op_mod (pe_callTy call_int1 (by rfl) M.int (by decide +kernel) (pa_cons (pe_callB call_abs (by rfl) M.abs (by decide +kernel) (pa_cons (pe_ix (r := rIxL K) ix_list (pv 0) (pe_op op_mod (pe_callTy call_int1 (by rfl) M.int (by decide +kernel) (pa_cons (pv 1) pa_nil)) (pe_callB call_len_seq (by rfl) M.len PySem.boot_len (pa_cons (pv 0) pa_nil))) (fun _ _ => rfl)) pa_nil)) pa_nil)) pe_int) pe_int))))
              pss_nil)))
        (pss_one (ps_ret (pe_lst (pa_cons (pe_ifExp (pt_cmpR op_ge (pv 2) (pe_op op_pow pe_int pe_int) (nomark _)) (pv 2) pe_int) (pa_cons (pe_op op_add (pe_op op_mod (pe_callTy call_int1 (by rfl) M.int (by decide +kernel) (pa_cons (pe_op op_add (pe_op op_mul (pe_op op_mod (pe_callTy call_int1 (by rfl) M.int (by decide +kernel) (pa_cons (pv 2) pa_nil)) pe_int) pe_int) (pe_op op_mul pe_int (pv 1))) pa_nil)) pe_int) pe_int) pa_nil))))))), ?_⟩
    refine ⟨.int k, rfl, _, k, rfl, rfl, .inl ⟨by decide, by decide⟩, _, _, rfl, rfl, ?_⟩
    refine ⟨fun σ' H' => H' = H ∧ ∃ y : Int, 0 ≤ y ∧ σ' = [some (.ref a), some (.int k), some (.int y)], ?_, ?_⟩
    · refine ⟨.int k, rfl, .ref a, rfl, a, ns.map V.int, rfl, .inl hS, _, _, rfl, rfl, _, rfl, ite2 (fun e => ?_) (fun e => ?_)⟩
      · have e1 : k.toNat < ns.length := by
          have := of_decide_eq_true e
          rw [List.length_map] at this
          omega
        have g : atI (ns.map V.int) k = some (.int ns[k.toNat]) := by
          have := atI_nat (xs := ns.map V.int) (j := k.toNat) (v := .int ns[k.toNat]) (by simp [e1])
          rw [Int.toNat_of_nonneg hk0] at this
          exact this
        exact ⟨.ref a, rfl, .int k, rfl, a, _, _, _, rfl, rfl, hS, g, _, rfl, rfl, _, by split <;> omega, rfl⟩
      · refine ⟨.ref a, rfl, a, ns.map V.int, rfl, .inl hS, _, _, rfl, rfl, _, rfl, ite2 (fun e => ?_) (fun e => ?_)⟩
        · have e1 : 0 < ns.length := by
            have := of_decide_eq_true e
            rw [List.length_map] at this
            omega
          have hm0 : 0 ≤ k % ((ns.length : Nat) : Int) := Int.emod_nonneg _ (by omega)
          have hm1 : k % ((ns.length : Nat) : Int) < (ns.length : Nat) := Int.emod_lt_of_pos _ (by omega)
          have e2 : (k % ((ns.length : Nat) : Int)).toNat < ns.length := by omega
          have g : atI (ns.map V.int) (k % ((ns.length : Nat) : Int)) = some (.int ns[(k % ((ns.length : Nat) : Int)).toNat]) := by
            have := atI_nat (xs := ns.map V.int) (j := (k % ((ns.length : Nat) : Int)).toNat) (v := .int ns[(k % ((ns.length : Nat) : Int)).toNat]) (by simp [e2])
            rw [Int.toNat_of_nonneg hm0] at this
            exact this
          refine ⟨_, rfl, .ref a, rfl, .int k, rfl, .inl ⟨_, rfl, .ref a, rfl, a, ns.map V.int, rfl, .inl hS, _, _, rfl, rfl, (by rw [List.length_map]; omega), a, _, _, _, rfl, rfl, hS, (by rw [List.length_map]; exact g), _, rfl, .inl ⟨_, rfl, _, _, rfl, rfl, (show (0 : Int) < 2147483629 by decide), _, _, rfl, rfl, .inl ⟨?_, ?_⟩, _, _, rfl, rfl, rfl, _, ?_, rfl⟩⟩⟩
          all_goals (have := Int.emod_nonneg (if ns[(k % ((ns.length : Nat) : Int)).toNat] < 0 then -ns[(k % ((ns.length : Nat) : Int)).toNat] else ns[(k % ((ns.length : Nat) : Int)).toNat]) (show (2147483629 : Int) ≠ 0 by decide); have := Int.emod_lt_of_pos (if ns[(k % ((ns.length : Nat) : Int)).toNat] < 0 then -ns[(k % ((ns.length : Nat) : Int)).toNat] else ns[(k % ((ns.length : Nat) : Int)).toNat]) (show (0 : Int) < 2147483629 by decide); omega)
        · exact ⟨rfl, _, by omega, rfl⟩
    · rintro σ' H' ⟨rfl, y, hy, rfl⟩
      have m0 := Int.emod_nonneg y (show (2147483629 : Int) ≠ 0 by decide)
      have m1 := Int.emod_lt_of_pos y (show (0 : Int) < 2147483629 by decide)
      refine ⟨.int y, rfl, _, _, rfl, rfl, ⟨by decide, by decide, by decide⟩, _, _, rfl, rfl, _, rfl, ?_⟩
      refine ite2 (fun e => ?_) (fun e => ?_)
      · refine ⟨.int y, rfl, .int y, rfl, .inl ⟨_, rfl, _, _, rfl, rfl, (show (0 : Int) < 2147483629 by decide), _, _, rfl, rfl, .inl ⟨by omega, by omega⟩, .int k, rfl, _, _, rfl, rfl, .inl ⟨by decide, by decide⟩, _, _, rfl, rfl, .inl ⟨_, rfl, _, _, rfl, rfl, (show (0 : Int) < 2147483629 by decide), _, _, rfl, rfl, (by show 2 ≤ sizeLine; decide), fun p hp => q p _ hp ⟨_, _, upd_same, hy, (mod_box _).1, (mod_box _).2⟩ (same_new hp)⟩⟩⟩
      · refine ⟨.int y, rfl, .inl ⟨_, rfl, _, _, rfl, rfl, (show (0 : Int) < 2147483629 by decide), _, _, rfl, rfl, .inl ⟨by omega, by omega⟩, .int k, rfl, _, _, rfl, rfl, .inl ⟨by decide, by decide⟩, _, _, rfl, rfl, .inl ⟨_, rfl, _, _, rfl, rfl, (show (0 : Int) < 2147483629 by decide), _, _, rfl, rfl, (by show 2 ≤ sizeLine; decide), fun p hp => q p _ hp ⟨_, _, upd_same, Int.le_refl 0, (mod_box _).1, (mod_box _).2⟩ (same_new hp)⟩⟩⟩

abbrev s_choose : Stmt := (topS 11)
theorem sc_choose : FnScope ["_law_box", "_law_many", "_law_digit", "_law_raw"] ["_law_box", "_law_many"] (fnScope s_choose) := fnScope_by (by decide +kernel)
theorem ok_choose {f : Addr} {fd : FuncData} (F : C8.Fun K "_law_choose" "_law_choose" s_choose f fd) (M : Mg mg) : FnOk P w K mg base CX0 1 f fd ["_law_box", "_law_many"] spChoose := by
  refine fn0 F sc_choose (fun vs H Q E h => ?_) (fun cdv A outer s H vs Q E hr h => ?_)
  · obtain ⟨b, m, rfl, _⟩ := h
    rfl
  · obtain ⟨b, m, rfl, ⟨c, d, hb, hc, hd0, hd1⟩, hm0, hm1, q⟩ := h
    refine ⟨_, (pss_cons (ps_if (pt_cmpR op_gt (pe_ix (r := rIxL K) ix_list (pv 0) pe_int (fun _ _ => rfl)) pe_int (nomark _))
          (pss_cons (ps_set (i := 2) sc_choose.nd rfl (Or.inl rfl) (pe_op op_mod (pe_callTy call_int1 (by rfl) M.int (by decide +kernel) (pa_cons (pe_ix (r := rIxL K) ix_list (pv 0) pe_int (fun _ _ => rfl)) pa_nil)) (pv 1)))
            (pss_cons (ps_asg (pe_op op_fdiv (pe_ix (r := rIxL K) ix_list (pv 0) pe_int (fun _ _ => rfl)) (pv 1)) (pg_sub (pv 0) pe_int set_list))
            (pss_one (ps_ret (pv 2)))))
          pss_nil)
        (pss_cons (ps_set (i := 3) sc_choose.nd rfl (Or.inl rfl) (pe_op op_mod (pe_callTy call_int1 (by rfl) M.int (by decide +kernel) (pa_cons (pe_op op_add (pe_op op_mul (pe_ix (r := rIxL K) ix_list (pv 0) pe_int (fun _ _ => rfl)) pe_int) pe_int) pa_nil)) pe_int))
        (pss_cons (ps_asg (pe_op op_add (pe_op op_mod (pe_callTy call_int1 (by rfl) M.int (by decide +kernel) (pa_cons (pe_op op_add (pe_op op_mul (pv 3) pe_int) pe_int) pa_nil)) pe_int) pe_int) (pg_sub (pv 0) pe_int set_list))
        (pss_one (ps_ret (pe_op op_mod (pe_callTy call_int1 (by rfl) M.int (by decide +kernel) (pa_cons (pe_op op_fdiv (pe_op op_add (pe_op op_mul (pv 3) pe_int) (pe_ix (r := rIxL K) ix_list (pv 0) pe_int (fun _ _ => rfl))) pe_int) pa_nil)) (pv 1))))))), ?_⟩
    have S0 : SqL K H b [.int c, .int d] := .inl (.inl hb)
    refine ⟨.ref b, rfl, b, _, 0, _, rfl, rfl, S0, atI0, _, _, rfl, rfl, _, rfl, ite2 (fun e => ?_) (fun e => ?_)⟩
    · have e1 : (0 : Int) < c := of_decide_eq_true e
      refine ⟨.ref b, rfl, b, _, 0, _, rfl, rfl, S0, atI0, .inl ⟨_, rfl, .int m, rfl, _, _, rfl, rfl, (show (0 : Int) < m by omega), ?_⟩⟩
      refine ⟨.ref b, rfl, b, _, 0, _, rfl, rfl, S0, atI0, .int m, rfl, _, _, rfl, rfl, ⟨by omega, by omega⟩, ?_⟩
      refine ⟨.ref b, rfl, b, _, 0, 0, rfl, rfl, hb, rfl, ?_⟩
      refine ⟨_, rfl, q _ _ (mod_in c (show (0 : Int) < m by omega)).1 (mod_in c (show (0 : Int) < m by omega)).2 ⟨_, _, upd_same, Int.ediv_nonneg hc (by omega), hd0, hd1⟩ Off.set⟩
    · refine ⟨.ref b, rfl, b, _, 1, _, rfl, rfl, S0, atI1, _, _, rfl, rfl, .inl ⟨by omega, by omega⟩, _, _, rfl, rfl, .inl ⟨_, rfl, _, _, rfl, rfl, (show (0 : Int) < 2147483563 by decide), ?_⟩⟩
      have r0 := mod_in (d * 40014 + 83) (show (0 : Int) < 2147483563 by decide)
      refine ⟨_, rfl, _, _, rfl, rfl, .inl ⟨by omega, by omega⟩, _, _, rfl, rfl, .inl ⟨_, rfl, _, _, rfl, rfl, (show (0 : Int) < 2147483629 by decide), _, _, rfl, rfl, ?_⟩⟩
      refine ⟨.ref b, rfl, b, _, 1, 1, rfl, rfl, hb, rfl, ?_⟩
      have S1 : SqL K (upd H b (.lst [.int c, .int ((((d * 40014 + 83) % 2147483563) * 40692 + 4507) % 2147483629 + 1)])) b [.int c, .int ((((d * 40014 + 83) % 2147483563) * 40692 + 4507) % 2147483629 + 1)] := .inl (.inl upd_same)
      refine ⟨_, rfl, _, _, rfl, rfl, .inl ⟨by omega, by omega⟩, .ref b, rfl, b, _, 1, _, rfl, rfl, S1, atI1, _, _, rfl, rfl, _, _, rfl, rfl, ⟨by decide, by decide⟩, .inl ⟨_, rfl, .int m, rfl, _, _, rfl, rfl, (show (0 : Int) < m by omega), ?_⟩⟩
      exact q _ _ (mod_in _ (show (0 : Int) < m by omega)).1 (mod_in _ (show (0 : Int) < m by omega)).2 ⟨_, _, upd_same, hc, (mod_box _).1, (mod_box _).2⟩ Off.set

abbrev s_one_of : Stmt := (topS 12)
theorem sc_one_of : FnScope ["_law_box", "_law_some"] ["_law_box", "_law_some"] (fnScope s_one_of) := fnScope_by (by decide +kernel)
theorem ok_one_of {f : Addr} {fd : FuncData} (F : C8.Fun K "_law_one_of" "_law_one_of" s_one_of f fd) (M : Mg mg) (c_choose : Cal P w K mg base 1 "_law_choose" spChoose []) : FnOk P w K mg base CX0 2 f fd ["_law_box", "_law_some"] spOneOf := by
  refine fn0 F sc_one_of (fun vs H Q E h => ?_) (fun cdv A outer s H vs Q E hr h => ?_)
  · obtain ⟨b, l, xs, rfl, _⟩ := h
    rfl
  · obtain ⟨b, l, xs, rfl, hb, hl, hn, hx, hz, q⟩ := h
    refine ⟨_, (pss_one (ps_ret (pe_ix (r := rIxL K) ix_list (pv 1) (pe_c c_choose hr (by decide) (by rfl) (pa_cons (pv 0) (pa_cons (pe_callB call_len_seq (by rfl) M.len PySem.boot_len (pa_cons (pv 1) pa_nil)) pa_nil))) (fun _ _ => rfl)))), ?_⟩
    have h1 : 0 < xs.length := List.length_pos_iff.mpr hx
    refine ⟨.ref l, rfl, .ref b, rfl, .ref l, rfl, l, xs, rfl, .inl (.inl (.inl hl)), b, _, rfl, hb, by omega, by omega, fun r H' r0 r1 hb' off => ?_⟩
    have e : r.toNat < xs.length := by omega
    refine ⟨l, xs, r, xs[r.toNat], rfl, rfl, .inl (.inl (off _ _ hl hn)), ?_, q _ _ (List.getElem_mem _) hb' off⟩
    have := atI_nat (xs := xs) (j := r.toNat) (v := xs[r.toNat]) (by simp [e])
    rw [Int.toNat_of_nonneg r0] at this
    exact this
abbrev s_word : Stmt := (topS 13)
theorem sc_word : FnScope ["_law_box", "_law_size", "_law_turn_here"] ["_law_box", "_law_size"] (fnScope s_word) := fnScope_by (by decide +kernel)
theorem ok_word {f : Addr} {fd : FuncData} (F : C8.Fun K "_law_word" "_law_word" s_word f fd) (M : Mg mg) (c_one_of : Cal P w K mg base 2 "_law_one_of" spOneOf []) : FnOk P w K mg base CX0 3 f fd ["_law_box", "_law_size"] spWordN := by
  refine fn0 F sc_word (fun vs H Q E h => ?_) (fun cdv A outer s H vs Q E hr h => ?_)
  · obtain ⟨b, n, rfl, _⟩ := h
    rfl
  · obtain ⟨b, n, rfl, hb, hn0, hn1, q⟩ := h
    refine ⟨_, (pss_one (ps_ret (pe_join pe_str (pe_lc (own := [("_law_turn_here", 2)]) (g := (gName 2)) rfl sc_word.nd (pi_range1 (by rfl) M.range (pa_cons (pv 1) pa_nil)) (blkOk_by (N := ["_law_box", "_law_size", "_law_turn_here"]) (sc := fnScope s_word) (by decide +kernel)) (fun _ _ _ _ _ => (pg_name (i := 2) sc_word.nd rfl (Or.inl rfl))) (fun _ _ _ _ _ => pts_nil) (fun _ _ _ _ _ => (pe_c c_one_of hr (by decide) (by rfl) (pa_cons (pv 0) (pa_cons (pe_lst (pa_cons pe_str (pa_cons pe_str pa_nil))) pa_nil)))))))), ?_⟩
    refine ⟨⟨_, rfl⟩, .int n, rfl, n, rfl, by omega, by omega, fun D hD => ?_⟩
    have nD : D ≠ b := hb.ne_new hD
    refine lc_it walk_range (fun i H1 => ∃ z : List Bool, z.length = i ∧ H1 D = some (.lst (bitV z)) ∧ BoxAt H1 b ∧ Off b H H1)
      ⟨[], rfl, upd_same, hb.same (same_new hD), off_of (same_new hD)⟩ (fun _ _ _ _ => trivial) (fun i x H1 H2 hi hp hy => ?_) (fun H1 hp => ?_)
    · obtain ⟨rfl, rfl⟩ := hy
      obtain ⟨z, hz, eD, hb1, off⟩ := hp
      refine ⟨rfl, .ref b, rfl, by show 2 ≤ sizeLine; decide, fun l hl => ⟨b, l, _, rfl, hb1.same (same_new hl), upd_same, hb1.ne_new hl, by simp, by decide, fun x H3 hx hb3 off3 => ?_⟩⟩
      obtain ⟨bit, rfl⟩ := bit_of hx
      have nDl : D ≠ l := ne_of_none eD hl
      refine ⟨bitV z, off3 _ _ (by rw [upd_ne nDl]; exact eD) nD, ?_, z ++ [bit], by simp [hz], ?_, ?_, ?_⟩
      · unfold bitV
        rw [List.length_map]
        exact small1000 (by omega)
      · rw [upd_same]
        unfold bitV
        rw [List.map_append]
        rfl
      · obtain ⟨c, d, e, r⟩ := hb3
        exact ⟨c, d, by rw [upd_ne nD.symm]; exact e, r⟩
      · intro a o ha na
        have naD : a ≠ D := ne_of_none ha hD
        rw [upd_ne naD]
        exact off3 _ _ (by rw [upd_ne (ne_of_none (off _ _ ha na) hl)]; exact off _ _ ha na) na
    · obtain ⟨z, hz, eD, hb1, off⟩ := hp
      refine ⟨_, D, z.map fun b => WS [b], rfl, rfl, .inl (.inl (.inl ?_)), join_bits_sz z (by omega), ?_⟩
      · rw [eD, List.map_map]
        rfl
      · rw [join_bits]
        exact q z _ (by omega) hb1 off

abbrev s_is_word : Stmt := (topS 5)
theorem sc_is_word : FnScope ["value", "least", "letter"] ["value", "least"] (fnScope s_is_word) := fnScope_by (by decide +kernel)
theorem ok_is_word {f : Addr} {fd : FuncData} (F : C8.Fun K "is_word" "is_word" s_is_word f fd) (M : Mg mg) : FnOk P w K mg base CX0 1 f fd ["value", "least"] spIsWord := by
  refine fn0 F sc_is_word (fun vs H Q E h => ?_) (fun cdv A outer s H vs Q E hr h => ?_)
  · obtain ⟨z, n, rfl, _⟩ := h
    rfl
  · obtain ⟨z, n, rfl, hz, q⟩ := h
    refine ⟨_, (pss_one (ps_ret (pe_and (pe_callB call_isi (by rfl) M.isinstance (by decide +kernel) (pa_cons (pv 0) (pa_cons (pe_bltn (v := .ty "str") (u := .type "str") (by rfl) M.str (by decide +kernel) rfl) pa_nil))) (pe_and (pe_cmpR op_ge (pe_callB call_len_str (by rfl) M.len PySem.boot_len (pa_cons (pv 0) pa_nil)) (pv 1) (nomark _)) (pe_one (pe_callB (cr_all rfl) (by rfl) M.all (by decide +kernel) (pa_cons (pe_lc (own := [("letter", 2)]) (g := (gName 2)) rfl sc_is_word.nd (pi_str (pv 0)) (blkOk_by (N := ["value", "least", "letter"]) (sc := fnScope s_is_word) (by decide +kernel)) (fun _ _ _ _ _ => (pg_name (i := 2) sc_is_word.nd rfl (Or.inl rfl))) (fun _ _ _ _ _ => pts_nil) (fun _ _ _ _ _ => (pe_cmpR op_in_sign (pv 2) pe_str (by rfl)))) pa_nil))))))), ?_⟩
    refine ⟨.str (WS z), rfl, _, _, _, _, true, rfl, .ty "str", .base (.str _), kit_ty (by decide +kernel), true, rfl, iteT ?_⟩
    refine ⟨.str (WS z), rfl, _, rfl, ls_len z hz, .int n, rfl, _, _, rfl, rfl, _, rfl, ?_⟩
    rw [WS_len]
    refine ite2 (fun e => ?_) (fun e => ?_)
    · have e1 := of_decide_eq_true e
      refine ⟨.str (WS z), rfl, _, rfl, fun D hD => ?_⟩
      refine lc_it walk_str (fun i H1 => H1 D = some (.lst ((List.replicate i true).map V.bl)) ∧ Same H H1) ⟨upd_same, same_new hD⟩ (fun _ _ _ _ => trivial) (fun i x H1 H2 hi hp hy => ?_) (fun H1 hp => ?_)
      · obtain ⟨rfl, c, hc, rfl⟩ := hy
        obtain ⟨eD, sm⟩ := hp
        rw [WS_get] at hc
        obtain ⟨b, hb, rfl⟩ := Option.map_eq_some_iff.mp hc
        have hm : decide (cd b ∈ ("01" : Str).cps.toList) = true := by cases b <;> decide +kernel
        refine ⟨rfl, _, rfl, cd b, _, rfl, rfl, (List.replicate i true).map V.bl, eD, ?_, ?_, ?_⟩
        · rw [List.length_map, List.length_replicate]
          rw [WS_size] at hi
          exact small1000 (by omega)
        · rw [upd_same, hm, List.replicate_succ', List.map_append]
          rfl
        · intro a o ha
          rw [upd_ne (ne_of_none ha hD)]
          exact sm a o ha
      · obtain ⟨eD, sm⟩ := hp
        refine ⟨D, List.replicate (WS z).cps.size true, rfl, .inl (.inl eD), ?_⟩
        have h1 : (List.replicate (WS z).cps.size true).all id = true := by simp
        rw [h1]
        rw [decide_eq_true e1] at q
        exact q H1 sm
    · have e1 : decide (n ≤ (z.length : Int)) = false := by
        cases h : decide (n ≤ (z.length : Int)) with
        | false => rfl
        | true => exact absurd h e
      rw [e1] at q
      exact q H (Same.refl H)
abbrev s_exchanged : Stmt := (topS 7)
theorem sc_exchanged : FnScope ["word", "marks", "bit", "mark"] ["word", "marks"] (fnScope s_exchanged) := fnScope_by (by decide +kernel)
theorem ok_exchanged {f : Addr} {fd : FuncData} (F : C8.Fun K "exchanged" "exchanged" s_exchanged f fd) (M : Mg mg) : FnOk P w K mg base CX0 1 f fd ["word", "marks"] spExch := by
  refine fn0 F sc_exchanged (fun vs H Q E h => ?_) (fun cdv A outer s H vs Q E hr h => ?_)
  · obtain ⟨a, b, rfl, _⟩ := h
    rfl
  · obtain ⟨a, b, rfl, ha, hb, q⟩ := h
    refine ⟨_, (pss_one (ps_ret (pe_join pe_str (pe_lc (own := [("bit", 2), ("mark", 3)]) (g := (gTup _ 2 (gCons (gName 2) (gCons (gName 3) gNil)))) rfl sc_exchanged.nd (pi_zipS (by rfl) M.zip (pa_cons (pv 0) (pa_cons (pv 1) pa_nil))) (blkOk_by (N := ["word", "marks", "bit", "mark"]) (sc := fnScope s_exchanged) (by decide +kernel)) (fun _ _ _ _ _ => (pg_tup rfl (pgs_cons (pg_name (i := 2) sc_exchanged.nd rfl (Or.inl rfl)) (pgs_cons (pg_name (i := 3) sc_exchanged.nd rfl (Or.inl rfl)) pgs_nil)))) (fun _ _ _ _ _ => pts_nil) (fun _ _ _ _ _ => (pe_ifExp (pt_cmpR op_eq (pv 2) (pv 3) (nomark _)) pe_str pe_str)))))), ?_⟩
    refine ⟨⟨_, rfl⟩, .str (WS a), rfl, .str (WS b), rfl, _, _, rfl, fun D hD => ?_⟩
    refine lc_it walk_itp (fun i H1 => H1 D = some (.lst (bitV ((xorL a b).take i))) ∧ Same H H1) ⟨upd_same, same_new hD⟩ (fun _ _ _ _ => trivial) (fun i x H1 H2 hi hp hy => ?_) (fun H1 hp => ?_)
    · obtain ⟨T, x1, y1, rfl, hT, rfl, g1, g2⟩ := hy
      obtain ⟨eD, sm⟩ := hp
      rw [sgn_WS] at g1 g2
      obtain ⟨u, hu, rfl⟩ := Option.map_eq_some_iff.mp g1
      obtain ⟨v, hv, rfl⟩ := Option.map_eq_some_iff.mp g2
      have nDT : D ≠ T := ne_of_none eD hT
      refine ⟨T, _, rfl, .inl (.inl upd_same), rfl, _, _, rfl, _, _, rfl, rfl, rfl, _, rfl, _, rfl, rfl, _, rfl, ?_⟩
      have hx : (xorL a b)[i]? = some (u ^^ v) := by
        unfold xorL
        rw [List.getElem?_zipWith, hu, hv]
      have ht : (xorL a b).take (i + 1) = (xorL a b).take i ++ [u ^^ v] := by
        rw [List.take_add_one, hx]
        rfl
      have fin : ∃ acc, (upd H1 T (.tup [V.str (WS [u]), V.str (WS [v])])) D = some (.lst acc) ∧ acc.length < sizeLine ∧ (fun i H1 => H1 D = some (.lst (bitV ((xorL a b).take i))) ∧ Same H H1) (i + 1) (upd (upd H1 T (.tup [V.str (WS [u]), V.str (WS [v])])) D (.lst (acc ++ [V.str (WS [u ^^ v])]))) := by
        refine ⟨bitV ((xorL a b).take i), by rw [upd_ne nDT]; exact eD, ?_, ?_, ?_⟩
        · unfold bitV
          rw [List.length_map, List.length_take]
          rw [WS_size, WS_size] at hi
          exact small1000 (by omega)
        · rw [upd_same, ht]
          unfold bitV
          rw [List.map_append]
          rfl
        · intro c o hc
          rw [upd_ne (ne_of_none hc hD), upd_ne (ne_of_none (sm c o hc) hT)]
          exact sm c o hc
      rw [show decide (V.str (WS [u]) = V.str (WS [v])) = decide ([u] = [v]) from eqS [u] [v]]
      refine ite2 (fun e => ?_) (fun e => ?_)
      · have e1 : u = v := by
          have := of_decide_eq_true e
          injection this
        have e2 : (u ^^ v) = false := by rw [e1]; cases v <;> rfl
        rw [e2, WS_0] at fin
        exact fin
      · have e1 : ¬ u = v := fun h => e (decide_eq_true (by rw [h]))
        have e2 : (u ^^ v) = true := by cases u <;> cases v <;> first | rfl | exact absurd rfl e1
        rw [e2, WS_1] at fin
        exact fin
    · obtain ⟨eD, sm⟩ := hp
      have hl : (xorL a b).take (min (WS a).cps.size (WS b).cps.size) = xorL a b := List.take_of_length_le (by
        unfold xorL
        rw [List.length_zipWith, WS_size, WS_size]
        exact Nat.le_refl _)
      rw [hl] at eD
      refine ⟨_, D, (xorL a b).map fun b => WS [b], rfl, rfl, .inl (.inl (.inl ?_)), join_bits_sz _ (by unfold xorL; rw [List.length_zipWith]; omega), ?_⟩
      · rw [eD, List.map_map]
        rfl
      · rw [join_bits]
        exact q H1 sm

abbrev s_Check_init : Stmt := (inClass (topS 8) 0)
theorem sc_Check_init : FnScope ["self", "poly", "start", "degree"] ["self", "poly", "start"] (fnScope s_Check_init) := fnScope_by (by decide +kernel)
theorem ok_init {C f : Addr} {fd : FuncData} (F : C8.Fun K "__init__" "Check.__init__" s_Check_init f fd) (M : Mg mg) (T : CkT K C) (c_is_word_2 : Cal P w K mg base 1 "is_word" spIsWord []) (c_is_word_1 : Cal P w K mg base 1 "is_word" spIsWord [.int 0]) : FnOk P w K mg base CX0 2 f fd ["self", "poly", "start"] (spInit C) := by
  refine fn0 F sc_Check_init (fun vs H Q E h => ?_) (fun cdv A outer s H vs Q E hr h => ?_)
  · obtain ⟨p, dx, poly, st, sv, rfl, _⟩ := h
    rfl
  · obtain ⟨p, dx, poly, st, sv, rfl, hv, ck, hl, hp, q⟩ := h
    have hpl : poly.length ≤ 1000 := by rw [ck.len]; omega
    refine ⟨_, (pss_cons (ps_if (PW.pt (pw_or (pt_not (pt_val (pe_c c_is_word_2 hr (by decide) (by rfl) (pa_cons (pv 1) (pa_cons pe_int pa_nil))))) (pw_or (pt_not (pt_val (pe_m1 PySem.F.slot_str_startswith PySem.F.type_str_startswith mt_startswith (pv 1) pe_str))) (pw_or1 (pt_not (pt_val (pe_m1 PySem.F.slot_str_endswith PySem.F.type_str_endswith mt_endswith (pv 1) pe_str)))))))
          (pss_one ps_never)
          pss_nil)
        (pss_cons (ps_set (i := 3) sc_Check_init.nd rfl (Or.inl rfl) (pe_op op_sub (pe_callB call_len_str (by rfl) M.len PySem.boot_len (pa_cons (pv 1) pa_nil)) pe_int))
        (C8.pss_cut (ps_if (pt_cmpR op_isN (pv 2) pe_non (nomark _))
          (pss_one (ps_set (i := 2) sc_Check_init.nd rfl (Or.inl rfl) (pe_op op_mul_str pe_str (pv 3))))
          pss_nil)
        (pss_cons (ps_if (PW.pt (pw_or (pt_not (pt_val (pe_c c_is_word_1 hr (by decide) (by rfl) (pa_cons (pv 2) pa_nil)))) (pw_or1 (pt_cmpR op_ne (pe_callB call_len_str (by rfl) M.len PySem.boot_len (pa_cons (pv 2) pa_nil)) (pv 3) (nomark _)))))
          (pss_one ps_never)
          pss_nil)
        (pss_cons (ps_fld (pv 0) (pv 1) rfl)
        (pss_one (ps_fld (pv 0) (pv 2) rfl))))))), ?_⟩
    -- the polynomial is one
    refine ⟨.str (WS poly), rfl, poly, 1, rfl, hpl, fun H1 s1 => ⟨_, rfl, ?_⟩⟩
    rw [decide_eq_true (show (1 : Int) ≤ (poly.length : Int) by rw [ck.len]; omega)]
    refine iteF ⟨.str (WS poly), rfl, ⟨_, rfl⟩, _, _, rfl, rfl, _, rfl, ?_⟩
    rw [← WS_1, starts_WS, decide_eq_true ck.hd]
    refine iteF ⟨.str (WS poly), rfl, ⟨_, rfl⟩, _, _, rfl, rfl, _, rfl, ?_⟩
    rw [ends_WS, decide_eq_true ck.lt]
    refine iteF ?_
    -- degree
    refine ⟨.str (WS poly), rfl, _, rfl, ls_len poly hpl, _, _, rfl, rfl, ?_⟩
    have hd : ((WS poly).length : Int) - 1 = (st.length : Int) := by rw [WS_len, ck.len]; omega
    dsimp only
    rw [hd]
    -- start
    refine ⟨fun σ' H' => H' = H1 ∧ σ' = [some (.ref p), some (.str (WS poly)), some (.str (WS st)), some (.int (st.length : Int))], ?_, ?_⟩
    · rcases hv with ⟨rfl, e⟩ | rfl
      · refine ⟨.non, rfl, rfl, _, rfl, iteT ?_⟩
        refine ⟨.int (st.length : Int), rfl, "0", _, rfl, rfl, ?_, rfl, ?_⟩
        · rw [← WS_0]
          exact mul_ok [false] (by omega) (by omega) (by decide)
        · rw [← WS_0, mul_WS [false] (by omega), flat_rep]
          have : List.replicate ((st.length : Int)).toNat false = st := by
            rw [e, List.length_replicate]
            rfl
          rw [this]
          rfl
      · exact ⟨.str (WS st), rfl, rfl, _, rfl, iteF ⟨rfl, rfl⟩⟩
    · rintro σ' H' ⟨rfl, rfl⟩
      refine ⟨.str (WS st), rfl, st, 0, rfl, by omega, fun H2 s2 => ⟨_, rfl, ?_⟩⟩
      rw [decide_eq_true (show (0 : Int) ≤ (st.length : Int) by omega)]
      refine iteF ⟨.str (WS st), rfl, _, rfl, ls_len st (by omega), .int (st.length : Int), rfl, rfl, _, rfl, ?_⟩
      rw [WS_len]
      refine iteNS rfl ?_
      have hp2 := s2 _ _ (s1 _ _ hp)
      refine ⟨.str (WS poly), rfl, .ref p, rfl, p, C, dx, [], rfl, hp2, T.cl, T.nP, (by show 0 < 1000; decide), ?_⟩
      refine ⟨.str (WS st), rfl, .ref p, rfl, p, C, dx, _, rfl, upd_same, T.cl, T.nS, (by show 1 < 1000; decide), ?_⟩
      refine q _ ⟨dx, ?_⟩ (fun a o ha na => by rw [upd_ne na, upd_ne na]; exact s2 _ _ (s1 _ _ ha))
      rw [upd_same]
      unfold ckf
      show some (HO.ins C dx (if ("poly" : Str) = "start" then _ else _)) = _
      rw [if_neg (by decide +kernel)]
      rfl
abbrev s_Check_degree : Stmt := (inClass (topS 8) 2)
theorem sc_Check_degree : FnScope ["self"] ["self"] (fnScope s_Check_degree) := fnScope_by (by decide +kernel)
theorem ok_degree {C f : Addr} {fd : FuncData} (F : C8.Fun K "degree" "Check.degree" s_Check_degree f fd) (M : Mg mg) (T : CkT K C) : FnOk P w K mg base CX0 1 f fd ["self"] (spDegree C) := by
  refine fn0 F sc_Check_degree (fun vs H Q E h => ?_) (fun cdv A outer s H vs Q E hr h => ?_)
  · obtain ⟨p, poly, st, rfl, _⟩ := h
    rfl
  · obtain ⟨p, poly, st, rfl, ⟨dx, hp⟩, hl, q⟩ := h
    refine ⟨_, (pss_one (ps_ret (pe_op op_sub (pe_callB call_len_str (by rfl) M.len PySem.boot_len (pa_cons (pe_fld (pv 0) rfl) pa_nil)) pe_int))), ?_⟩
    refine ⟨.ref p, rfl, p, C, dx, _, _, rfl, hp, T.cl, T.nP, ckf_poly poly st, _, rfl, ls_len poly hl, _, _, rfl, rfl, ?_⟩
    rw [WS_len]
    exact q
abbrev s_Check_rest : Stmt := (inClass (topS 8) 3)
theorem sc_Check_rest : FnScope ["self", "bits", "marks", "left", "bit", "whole"] ["self", "bits"] (fnScope s_Check_rest) := fnScope_by (by decide +kernel)
theorem ok_rest {C f : Addr} {fd : FuncData} (F : C8.Fun K "rest" "Check.rest" s_Check_rest f fd) (M : Mg mg) (T : CkT K C) (c_exchanged : Cal P w K mg base 1 "exchanged" spExch []) : FnOk P w K mg base CX0 2 f fd ["self", "bits"] (spRest C) := by
  refine fn0 F sc_Check_rest (fun vs H Q E h => ?_) (fun cdv A outer s H vs Q E hr h => ?_)
  · obtain ⟨p, poly, st, bits, rfl, _⟩ := h
    rfl
  · obtain ⟨p, poly, st, bits, rfl, ⟨dx, hp⟩, ck, hl, hb, q⟩ := h
    have hpl : poly.length ≤ 1000 := by rw [ck.len]; omega
    refine ⟨_, (pss_cons (ps_set (i := 2) sc_Check_rest.nd rfl (Or.inl rfl) (pe_slice sl_str (pe_fld (pv 0) rfl) (po_some pe_int) po_none))
        (pss_cons (ps_set (i := 3) sc_Check_rest.nd rfl (Or.inl rfl) (pe_fld (pv 0) rfl))
        (pss_cons (ps_for PassesOwn.never rfl (pi_str (pv 1)) (pg_name (i := 4) sc_Check_rest.nd rfl (Or.inl rfl))
          (pss_cons (ps_set (i := 5) sc_Check_rest.nd rfl (Or.inl rfl) (pe_op op_add_str (pv 3) (pv 4)))
            (pss_cons (ps_set (i := 3) sc_Check_rest.nd rfl (Or.inl rfl) (pe_slice sl_str (pv 5) (po_some pe_int) po_none))
            (pss_one (ps_if (pt_cmpR op_eq (pe_ix (r := rIxS) ix_str (pv 5) pe_int (fun _ _ => rfl)) pe_str (nomark _))
              (pss_one (ps_set (i := 3) sc_Check_rest.nd rfl (Or.inl rfl) (pe_c c_exchanged hr (by decide) (by rfl) (pa_cons (pv 3) (pa_cons (pv 2) pa_nil)))))
              pss_nil)))))
        (pss_one (ps_ret (pv 3)))))), ?_⟩
    refine ⟨.ref p, rfl, p, C, dx, _, _, rfl, hp, T.cl, T.nP, ckf_poly poly st, 1, rfl, _, rfl, ls_len poly hpl, ?_⟩
    rw [cut_from poly (by decide)]
    refine ⟨.ref p, rfl, p, C, dx, _, _, rfl, hp, T.cl, T.nS, ckf_start poly st, ?_⟩
    refine ⟨.str (WS bits), rfl, _, rfl, ?_⟩
    have hlen : ∀ i, (restR poly st (bits.take i)).length = st.length := fun i => restR_len ck.len _
    refine for_it walk_str (fun i σ H1 => ∃ x4 x5, σ = [some (.ref p), some (.str (WS bits)), some (.str (WS (poly.drop 1))), some (.str (WS (restR poly st (bits.take i)))), x4, x5] ∧ Same H H1)
      ⟨none, none, rfl, Same.refl H⟩ (fun _ _ _ _ _ => trivial) (fun i x σ H1 H2 hi hp hy => ?_) (fun σ H1 hp => ?_)
    · obtain ⟨rfl, c, hc, rfl⟩ := hy
      obtain ⟨x4, x5, rfl, sm⟩ := hp
      rw [WS_get] at hc
      obtain ⟨b, hbit, rfl⟩ := Option.map_eq_some_iff.mp hc
      have hst : restR poly st (bits.take (i + 1)) = stepR (poly.drop 1) (restR poly st (bits.take i)) b := by
        unfold restR
        rw [List.take_add_one, hbit, List.foldl_append]
        rfl
      have hL := hlen i
      revert hst
      generalize restR poly st (bits.take i) = left at hL ⊢
      intro hst
      refine ⟨.str (WS left), rfl, .str (WS [b]), rfl, _, _, rfl, rfl, ?_, ?_⟩
      · rw [WS_len, WS_len]
        exact Nat.le_of_lt (small1000 (by simp; omega))
      rw [WS_cat]
      have hw : (left ++ [b]).length ≤ 1000 := by simp; omega
      refine ⟨.str (WS (left ++ [b])), rfl, 1, rfl, _, rfl, ls_len _ hw, ?_⟩
      rw [cut_from _ (by decide)]
      obtain ⟨h0, r0, hr0⟩ : ∃ h0 r0, left ++ [b] = h0 :: r0 := by
        cases e : left ++ [b] with
        | nil => simp at e
        | cons x r => exact ⟨x, r, rfl⟩
      rw [hr0] at hw ⊢
      refine ⟨.str (WS (h0 :: r0)), rfl, WS (h0 :: r0), 0, cd h0, rfl, rfl, ls_len _ hw, ?_, rfl, _, rfl, ?_⟩
      · exact atI_nat (j := 0) rfl
      have e0 : decide (V.str (⟨#[cd h0]⟩ : Str) = V.str "1") = h0 := by
        rw [← WS_1, show (⟨#[cd h0]⟩ : Str) = WS [h0] from rfl, eqS]
        cases h0 <;> rfl
      rw [e0]
      unfold stepR at hst
      rw [hr0] at hst
      cases h0 with
      | true =>
        refine iteT ?_
        refine ⟨.str (WS r0), rfl, .str (WS (poly.drop 1)), rfl, r0, poly.drop 1, rfl, by rw [List.length_cons] at hw; omega, by rw [List.length_drop]; omega, fun H3 s3 => ?_⟩
        refine ⟨some (.str ⟨#[cd b]⟩), some (.str (WS (true :: r0))), ?_, fun a o ha => s3 _ _ (sm _ _ ha)⟩
        rw [hst]
        rfl
      | false =>
        refine iteF ?_
        refine ⟨some (.str ⟨#[cd b]⟩), some (.str (WS (false :: r0))), ?_, sm⟩
        rw [hst]
        rfl
    · obtain ⟨x4, x5, rfl, sm⟩ := hp
      rw [WS_size, List.take_length]
      exact ⟨_, rfl, q H1 sm⟩

abbrev s_check : Stmt := (topS 15)
theorem sc_check : FnScope ["_law_box", "_law_most", "_law_size", "_law_inner"] ["_law_box", "_law_most"] (fnScope s_check) := fnScope_by (by decide +kernel)
theorem ok_check {f : Addr} {fd : FuncData} (F : C8.Fun K "_law_check" "_law_check" s_check f fd) (M : Mg mg) (c_choose : Cal P w K mg base 1 "_law_choose" spChoose []) (c_word : Cal P w K mg base 3 "_law_word" spWordN []) : FnOk P w K mg base CX0 4 f fd ["_law_box", "_law_most"] spCheck := by
  refine fn0 F sc_check (fun vs H Q E h => ?_) (fun cdv A outer s H vs Q E hr h => ?_)
  · obtain ⟨b, n, rfl, _⟩ := h
    rfl
  · obtain ⟨b, m, rfl, hb, hm0, hm1, q⟩ := h
    refine ⟨_, (pss_cons (ps_set (i := 2) sc_check.nd rfl (Or.inl rfl) (pe_c c_choose hr (by decide) (by rfl) (pa_cons (pv 0) (pa_cons (pe_op op_add (pv 1) pe_int) pa_nil))))
        (pss_cons (ps_set (i := 3) sc_check.nd rfl (Or.inl rfl) (pe_ifExp (pt_cmpR op_gt (pv 2) pe_int (nomark _)) (pe_c c_word hr (by decide) (by rfl) (pa_cons (pv 0) (pa_cons (pe_op op_sub (pv 2) pe_int) pa_nil))) pe_str))
        (pss_one (ps_ret (pe_tup (pa_cons (pe_ifExp (pt_cmpR op_gt (pv 2) pe_int (nomark _)) (pe_op op_add_str (pe_op op_add_str pe_str (pv 3)) pe_str) pe_str) (pa_cons (pe_ifExp (pt_cmpR op_eq (pe_c c_choose hr (by decide) (by rfl) (pa_cons (pv 0) (pa_cons pe_int pa_nil))) pe_int (nomark _)) (pe_c c_word hr (by decide) (by rfl) (pa_cons (pv 0) (pa_cons (pv 2) pa_nil))) (pe_op op_mul_str pe_str (pv 2))) pa_nil))))))), ?_⟩
    refine ⟨.ref b, rfl, .int m, rfl, _, _, rfl, rfl, b, _, rfl, hb, by omega, by omega, fun r H1 r0 r1 hb1 off1 => ?_⟩
    -- the second part of the pair and the end, for any first part
    have fin : ∀ (poly : List Bool) (H2 : Hp), poly.length = r.toNat + 1 → [true] <+: poly → [true] <:+ poly → BoxAt H2 b → Off b H H2 →
        ∀ (st : List Bool) (H3 : Hp), st.length = r.toNat → BoxAt H3 b → Off b H2 H3 → [V.str (WS poly), V.str (WS st)].length ≤ sizeLine ∧ ∀ p, H3 p = none → Q (.ref p) (upd H3 p (.tup [.str (WS poly), .str (WS st)])) := fun poly H2 hl hp hs hb2 off2 st H3 hst hb3 off3 => by
      refine ⟨by show 2 ≤ sizeLine; decide, fun p hp3 => ?_⟩
      have n3 : p ≠ b := hb3.ne_new hp3
      have hp0 : H p = none := by
        cases e : H p with
        | none => rfl
        | some u =>
          rw [off3 p u (off2 p u e n3) n3] at hp3
          cases hp3
      exact q poly st p _ ⟨by omega, hp, hs⟩ (by omega) hp0 upd_same (hb3.same (same_new hp3)) (fun a o ha na => by
        rw [upd_ne (fun e => by rw [e, hp0] at ha; cases ha)]
        exact off3 _ _ (off2 _ _ ha na) na)
    have mz : MulOk "0" r := by
      rw [← WS_0]
      exact mul_ok [false] r0 (by omega) (by decide)
    have mv : Txt.mul "0" r = WS (List.replicate r.toNat false) := by rw [← WS_0, mul_WS [false] r0, flat_rep]
    refine ⟨.int r, rfl, _, _, rfl, rfl, _, rfl, ite2 (fun e => ?_) (fun e => ?_)⟩
    · have e1 : (1 : Int) < r := of_decide_eq_true e
      refine ⟨.ref b, rfl, .int r, rfl, _, _, rfl, rfl, b, _, rfl, hb1, by omega, by omega, fun z H2 hz hb2 off2 => ?_⟩
      refine ⟨.int r, rfl, _, _, rfl, rfl, _, rfl, ite2 (fun e => ?_) (fun e => absurd (decide_eq_true (show (0 : Int) < r by omega)) e)⟩
      refine ⟨.str (WS z), rfl, "1", _, rfl, rfl, ?_, _, _, rfl, rfl, ?_, ?_⟩
      · rw [WS_len]
        exact Nat.le_of_lt (small1000 (by show 1 + z.length ≤ 1000; omega))
      · rw [← WS_1, WS_cat, WS_len, WS_len]
        exact Nat.le_of_lt (small1000 (by simp; omega))
      · rw [w101]
        exact ⟨.ref b, rfl, b, 2, rfl, hb2, by decide, by decide, fun x H3 _ _ hb3 off3 => ⟨rfl, _, rfl, ite2 (fun _ => ⟨.ref b, rfl, .int r, rfl, b, r, rfl, hb3, r0, by omega, fun z' H4 hz' hb4 off4 => fin _ H3 (by simp; omega) ⟨_, rfl⟩ ⟨true :: z, rfl⟩ hb3 ((off1.trans off2).trans off3) z' H4 (by omega) hb4 off4⟩) (fun _ => ⟨.int r, rfl, "0", r, rfl, rfl, mz, by rw [mv]; exact fin _ H3 (by simp; omega) ⟨_, rfl⟩ ⟨true :: z, rfl⟩ hb3 ((off1.trans off2).trans off3) (List.replicate r.toNat false) H3 (by rw [List.length_replicate]) hb3 (Off.refl _ _)⟩)⟩⟩
    · have e1 : ¬ (1 : Int) < r := fun h => e (decide_eq_true h)
      refine ⟨.int r, rfl, _, _, rfl, rfl, _, rfl, ite2 (fun e => ?_) (fun e => ?_)⟩
      · have e2 : r = 1 := by have := of_decide_eq_true e; omega
        refine ⟨.str "", rfl, "1", "", rfl, rfl, by decide, _, _, rfl, rfl, by decide, ?_⟩
        rw [← WS_nil, w101]
        exact ⟨.ref b, rfl, b, 2, rfl, hb1, by decide, by decide, fun x H3 _ _ hb3 off3 => ⟨rfl, _, rfl, ite2 (fun _ => ⟨.ref b, rfl, .int r, rfl, b, r, rfl, hb3, r0, by omega, fun z' H4 hz' hb4 off4 => fin _ H3 (by rw [e2]; rfl) ⟨_, rfl⟩ ⟨[true], rfl⟩ hb3 ((off1).trans off3) z' H4 (by omega) hb4 off4⟩) (fun _ => ⟨.int r, rfl, "0", r, rfl, rfl, mz, by rw [mv]; exact fin _ H3 (by rw [e2]; rfl) ⟨_, rfl⟩ ⟨[true], rfl⟩ hb3 ((off1).trans off3) (List.replicate r.toNat false) H3 (by rw [List.length_replicate]) hb3 (Off.refl _ _)⟩)⟩⟩
      · have e2 : r = 0 := by
          have : ¬ (0 : Int) < r := fun h => e (decide_eq_true h)
          omega
        rw [← WS_1]
        exact ⟨.ref b, rfl, b, 2, rfl, hb1, by decide, by decide, fun x H3 _ _ hb3 off3 => ⟨rfl, _, rfl, ite2 (fun _ => ⟨.ref b, rfl, .int r, rfl, b, r, rfl, hb3, r0, by omega, fun z' H4 hz' hb4 off4 => fin _ H3 (by rw [e2]; rfl) List.prefix_rfl List.suffix_rfl hb3 ((off1).trans off3) z' H4 (by omega) hb4 off4⟩) (fun _ => ⟨.int r, rfl, "0", r, rfl, rfl, mz, by rw [mv]; exact fin _ H3 (by rw [e2]; rfl) List.prefix_rfl List.suffix_rfl hb3 ((off1).trans off3) (List.replicate r.toNat false) H3 (by rw [List.length_replicate]) hb3 (Off.refl _ _)⟩)⟩⟩

abbrev s_Check_bits_for : Stmt := (inClass (topS 8) 4)
theorem sc_Check_bits_for : FnScope ["self", "data"] ["self", "data"] (fnScope s_Check_bits_for) := fnScope_by (by decide +kernel)
theorem ok_bits_for {C f : Addr} {fd : FuncData} (F : C8.Fun K "bits_for" "Check.bits_for" s_Check_bits_for f fd) (M : Mg mg) (m_rest : Met P w K mg base 2 C "rest" (spRest C) []) (p_degree : Prp P w K mg base 1 C "degree" (spDegree C)) : FnOk P w K mg base CX0 3 f fd ["self", "data"] (spBitsFor C) := by
  refine fn0 F sc_Check_bits_for (fun vs H Q E h => ?_) (fun cdv A outer s H vs Q E hr h => ?_)
  · obtain ⟨p, poly, st, data, rfl, _⟩ := h
    rfl
  · obtain ⟨p, poly, st, data, rfl, ⟨dx, hp⟩, ck, hl, hd, q⟩ := h
    refine ⟨_, (pss_one (ps_ret (pe_mt m_rest hr (by decide) (pv 0) (pa_cons (pe_op op_add_str (pv 1) (pe_op op_mul_str pe_str (pe_p p_degree hr (by decide) (pv 0) rfl))) pa_nil)))), ?_⟩
    have e1 : ((poly.length : Int) - 1) = (st.length : Int) := by rw [ck.len]; omega
    refine ⟨.ref p, rfl, p, dx, _, rfl, hp, nofield (by decide +kernel) (by decide +kernel), .str (WS data), rfl, .ref p, rfl, p, dx, _, rfl, hp, p, poly, st, rfl, ⟨dx, hp⟩, by rw [ck.len]; omega, "0", _, rfl, rfl, ?_, _, _, rfl, rfl, ?_, ?_⟩
    · rw [← WS_0]
      exact mul_ok [false] (by omega) (by omega) (by decide)
    · rw [← WS_0, mul_WS [false] (by omega), flat_rep, WS_len, WS_len, List.length_replicate]
      exact Nat.le_of_lt (small1000 (by omega))
    · rw [← WS_0, mul_WS [false] (by omega), flat_rep, WS_cat, e1]
      exact ⟨p, poly, st, data ++ List.replicate st.length false, rfl, ⟨dx, hp⟩, ck, by omega, by simp; omega, fun H' s => q H' s⟩
abbrev s_Check_is_good : Stmt := (inClass (topS 8) 5)
theorem sc_Check_is_good : FnScope ["self", "message"] ["self", "message"] (fnScope s_Check_is_good) := fnScope_by (by decide +kernel)
theorem ok_is_good {C f : Addr} {fd : FuncData} (F : C8.Fun K "is_good" "Check.is_good" s_Check_is_good f fd) (M : Mg mg) (m_rest : Met P w K mg base 2 C "rest" (spRest C) []) (p_degree : Prp P w K mg base 1 C "degree" (spDegree C)) : FnOk P w K mg base CX0 3 f fd ["self", "message"] (spGood C) := by
  refine fn0 F sc_Check_is_good (fun vs H Q E h => ?_) (fun cdv A outer s H vs Q E hr h => ?_)
  · obtain ⟨p, poly, st, msg, rfl, _⟩ := h
    rfl
  · obtain ⟨p, poly, st, msg, rfl, ⟨dx, hp⟩, ck, hl, hd, q⟩ := h
    refine ⟨_, (pss_one (ps_ret (pe_and (pe_cmpR op_ge (pe_callB call_len_str (by rfl) M.len PySem.boot_len (pa_cons (pv 1) pa_nil)) (pe_p p_degree hr (by decide) (pv 0) rfl) (nomark _)) (pe_one (pe_cmpR op_notIn_sign pe_str (pe_mt m_rest hr (by decide) (pv 0) (pa_cons (pv 1) pa_nil)) (by rfl)))))), ?_⟩
    refine ⟨.str (WS msg), rfl, _, rfl, ls_len msg (by omega), .ref p, rfl, p, dx, _, rfl, hp, p, poly, st, rfl, ⟨dx, hp⟩, by rw [ck.len]; omega, _, _, rfl, rfl, _, rfl, ?_⟩
    have e1 : decide (((poly.length : Int) - 1) ≤ ((WS msg).length : Int)) = decide (st.length ≤ msg.length) := by
      rw [WS_len, ck.len]
      apply decide_eq_decide.mpr
      omega
    rw [e1]
    refine ite2 (fun e => ?_) (fun e => ?_)
    · refine ⟨.ref p, rfl, p, dx, _, rfl, hp, nofield (by decide +kernel) (by decide +kernel), .str (WS msg), rfl, p, poly, st, msg, rfl, ⟨dx, hp⟩, ck, by omega, by omega, fun H' s => ?_⟩
      refine ⟨49, _, rfl, rfl, ?_⟩
      have e2 : goodB poly st msg = !decide (49 ∈ (WS (restR poly st msg)).cps.toList) := by
        unfold goodB
        rw [e, Bool.true_and, decide_eq_decide.mpr (mem_one _)]
      rw [← e2]
      exact q H' s
    · have e2 : goodB poly st msg = false := by
        unfold goodB
        cases h : decide (st.length ≤ msg.length) with
        | true => exact absurd h e
        | false => rfl
      rw [← e2]
      exact q H (Same.refl H)

abbrev s_turn : Stmt := (topS 14)
theorem sc_turn : FnScope ["_law_bit"] ["_law_bit"] (fnScope s_turn) := fnScope_by (by decide +kernel)
theorem ok_turn {f : Addr} {fd : FuncData} (F : C8.Fun K "_law_turn" "_law_turn" s_turn f fd) (M : Mg mg) : FnOk P w K mg base CX0 1 f fd ["_law_bit"] spTurn := by
  refine fn0 F sc_turn (fun vs H Q E h => ?_) (fun cdv A outer s H vs Q E hr h => ?_)
  · obtain ⟨b, rfl, _⟩ := h
    rfl
  · obtain ⟨b, rfl, q⟩ := h
    refine ⟨_, (pss_one (ps_ret (pe_ifExp (pt_cmpR op_eq (pv 0) pe_str (nomark _)) pe_str pe_str))), ?_⟩
    refine ⟨.str (WS [b]), rfl, rfl, _, rfl, ?_⟩
    rw [← WS_0, eqS]
    cases b with
    | false => exact iteT (by rw [← WS_1]; exact q)
    | true => exact iteF q

abbrev s_sum : Stmt := (topS 16)
theorem sc_sum : FnScope ["_law_one", "_law_mate", "_law_here", "_law_there"] ["_law_one", "_law_mate"] (fnScope s_sum) := fnScope_by (by decide +kernel)
theorem ok_lsum {f : Addr} {fd : FuncData} (F : C8.Fun K "_law_sum" "_law_sum" s_sum f fd) (M : Mg mg) : FnOk P w K mg base CX0 1 f fd ["_law_one", "_law_mate"] spExch := by
  refine fn0 F sc_sum (fun vs H Q E h => ?_) (fun cdv A outer s H vs Q E hr h => ?_)
  · obtain ⟨a, b, rfl, _⟩ := h
    rfl
  · obtain ⟨a, b, rfl, ha, hb, q⟩ := h
    refine ⟨_, (pss_one (ps_ret (pe_join pe_str (pe_lc (own := [("_law_here", 2), ("_law_there", 3)]) (g := (gTup _ 2 (gCons (gName 2) (gCons (gName 3) gNil)))) rfl sc_sum.nd (pi_zipS (by rfl) M.zip (pa_cons (pv 0) (pa_cons (pv 1) pa_nil))) (blkOk_by (N := ["_law_one", "_law_mate", "_law_here", "_law_there"]) (sc := fnScope s_sum) (by decide +kernel)) (fun _ _ _ _ _ => (pg_tup rfl (pgs_cons (pg_name (i := 2) sc_sum.nd rfl (Or.inl rfl)) (pgs_cons (pg_name (i := 3) sc_sum.nd rfl (Or.inl rfl)) pgs_nil)))) (fun _ _ _ _ _ => pts_nil) (fun _ _ _ _ _ => (pe_callTy call_str_int (by rfl) M.str (by decide +kernel) (pa_cons (pe_callTy call_int1 (by rfl) M.int (by decide +kernel) (pa_cons (pe_cmpR op_ne (pv 2) (pv 3) (nomark _)) pa_nil)) pa_nil))))))), ?_⟩
    refine ⟨⟨_, rfl⟩, .str (WS a), rfl, .str (WS b), rfl, _, _, rfl, fun D hD => ?_⟩
    refine lc_it walk_itp (fun i H1 => H1 D = some (.lst (bitV ((xorL a b).take i))) ∧ Same H H1) ⟨upd_same, same_new hD⟩ (fun _ _ _ _ => trivial) (fun i x H1 H2 hi hp hy => ?_) (fun H1 hp => ?_)
    · obtain ⟨T, x1, y1, rfl, hT, rfl, g1, g2⟩ := hy
      obtain ⟨eD, sm⟩ := hp
      rw [sgn_WS] at g1 g2
      obtain ⟨u, hu, rfl⟩ := Option.map_eq_some_iff.mp g1
      obtain ⟨v, hv, rfl⟩ := Option.map_eq_some_iff.mp g2
      have nDT : D ≠ T := ne_of_none eD hT
      refine ⟨T, _, rfl, .inl (.inl upd_same), rfl, _, _, rfl, _, _, rfl, rfl, rfl, ?_⟩
      have hx : (xorL a b)[i]? = some (u ^^ v) := by
        unfold xorL
        rw [List.getElem?_zipWith, hu, hv]
      have ht : (xorL a b).take (i + 1) = (xorL a b).take i ++ [u ^^ v] := by
        rw [List.take_add_one, hx]
        rfl
      have fin : ∃ acc, (upd H1 T (.tup [V.str (WS [u]), V.str (WS [v])])) D = some (.lst acc) ∧ acc.length < sizeLine ∧ (fun i H1 => H1 D = some (.lst (bitV ((xorL a b).take i))) ∧ Same H H1) (i + 1) (upd (upd H1 T (.tup [V.str (WS [u]), V.str (WS [v])])) D (.lst (acc ++ [V.str (WS [u ^^ v])]))) := by
        refine ⟨bitV ((xorL a b).take i), by rw [upd_ne nDT]; exact eD, ?_, ?_, ?_⟩
        · unfold bitV
          rw [List.length_map, List.length_take]
          rw [WS_size, WS_size] at hi
          exact small1000 (by omega)
        · rw [upd_same, ht]
          unfold bitV
          rw [List.map_append]
          rfl
        · intro c o hc
          rw [upd_ne (ne_of_none hc hD), upd_ne (ne_of_none (sm c o hc) hT)]
          exact sm c o hc
      have hc : decide (V.str (WS [u]) = V.str (WS [v])) = decide (u = v) := decide_eq_decide.mpr ⟨fun h => by injection h with h; have := WS_inj h; injection this, fun h => by rw [h]⟩
      refine ⟨_, rfl, _, rfl, rfl, .inr ⟨_, rfl, _, rfl, ?_, ?_⟩⟩
      · rw [hc]
        cases u <;> cases v <;> decide +kernel
      · have ht2 : V.str (Str.ofString (toString (if (!decide (V.str (WS [u]) = V.str (WS [v]))) = true then (1 : Int) else 0))) = V.str (WS [u ^^ v]) := by
          rw [hc]
          cases u <;> cases v <;> decide +kernel
        rw [ht2]
        exact fin
    · obtain ⟨eD, sm⟩ := hp
      have hl : (xorL a b).take (min (WS a).cps.size (WS b).cps.size) = xorL a b := List.take_of_length_le (by
        unfold xorL
        rw [List.length_zipWith, WS_size, WS_size]
        exact Nat.le_refl _)
      rw [hl] at eD
      refine ⟨_, D, (xorL a b).map fun b => WS [b], rfl, rfl, .inl (.inl (.inl ?_)), join_bits_sz _ (by unfold xorL; rw [List.length_zipWith]; omega), ?_⟩
      · rw [eD, List.map_map]
        rfl
      · rw [join_bits]
        exact q H1 sm

abbrev s_Check_eq : Stmt := (inClass (topS 8) 6)
theorem sc_Check_eq : FnScope ["self", "other"] ["self", "other"] (fnScope s_Check_eq) := fnScope_by (by decide +kernel)
theorem ok_ckeq {CCheck f : Addr} {fd : FuncData} (F : C8.Fun K "__eq__" "Check.__eq__" s_Check_eq f fd) (M : Mg mg) (T : CkT K CCheck) (gCCheck : mg "Check" = some (.ref CCheck)) (IC : C8.InsC K CCheck) : FnOk P w K mg base CX0 1 f fd ["self", "other"] (spCkEq CCheck) := by
  refine fn0 F sc_Check_eq (fun vs H Q E h => ?_) (fun cdv A outer s H vs Q E hr h => ?_)
  · obtain ⟨a, b, p1, s1, p2, s2, rfl, _⟩ := h
    rfl
  · obtain ⟨a, b, p1, s1, p2, s2, rfl, ⟨dx, ha⟩, ⟨dy, hb⟩, q⟩ := h
    refine ⟨_, (pss_one (ps_ret (pe_and (pe_callB (C8.call_isC IC) (by rfl) M.isinstance (by decide +kernel) (pa_cons (pv 1) (pa_cons (C8.pe_gc (v := .ref CCheck) (by rfl) ⟨_, gCCheck, rfl⟩) pa_nil))) (pe_and (pe_cmpR op_eq (pe_fld (pv 0) rfl) (pe_fld (pv 1) rfl) (nomark _)) (pe_one (pe_cmpR op_eq (pe_fld (pv 0) rfl) (pe_fld (pv 1) rfl) (nomark _))))))), ?_⟩
    have inj : ∀ u v : List Bool, V.str (WS u) = V.str (WS v) → u = v := fun u v e => WS_inj (by injection e)
    refine ⟨.ref b, rfl, b, dy, _, rfl, hb, _, rfl, iteT ?_⟩
    refine ⟨.ref a, rfl, a, CCheck, dx, _, _, rfl, ha, T.cl, T.nP, ckf_poly p1 s1, .ref b, rfl, b, CCheck, dy, _, _, rfl, hb, T.cl, T.nP, ckf_poly p2 s2, rfl, _, rfl, ite2 (fun e => ?_) (fun e => ?_)⟩
    · have e1 : p1 = p2 := inj _ _ (of_decide_eq_true e)
      refine ⟨.ref a, rfl, a, CCheck, dx, _, _, rfl, ha, T.cl, T.nS, ckf_start p1 s1, .ref b, rfl, b, CCheck, dy, _, _, rfl, hb, T.cl, T.nS, ckf_start p2 s2, rfl, ?_⟩
      have e2 : decide (V.str (WS s1) = V.str (WS s2)) = decide (p1 = p2 ∧ s1 = s2) := decide_eq_decide.mpr ⟨fun h => ⟨e1, inj _ _ h⟩, fun h => by rw [h.2]⟩
      rw [e2]
      exact q H (Same.refl H)
    · have e2 : decide (p1 = p2 ∧ s1 = s2) = false := decide_eq_false fun h => e (decide_eq_true (by rw [h.1]))
      rw [e2] at q
      exact q H (Same.refl H)

abbrev s_Check_str : Stmt := (inClass (topS 8) 7)
theorem sc_Check_str : FnScope ["self"] ["self"] (fnScope s_Check_str) := fnScope_by (by decide +kernel)
theorem ok_ckstr {CCheck f : Addr} {fd : FuncData} (F : C8.Fun K "__str__" "Check.__str__" s_Check_str f fd) (M : Mg mg) (T : CkT K CCheck) (p_degree : Prp P w K mg base 1 CCheck "degree" (spDegree CCheck)) : FnOk P w K mg base CX0 3 f fd ["self"] (spCkStr CCheck) := by
  refine fn0 F sc_Check_str (fun vs H Q E h => ?_) (fun cdv A outer s H vs Q E hr h => ?_)
  · obtain ⟨a, p1, s1, rfl, _⟩ := h
    rfl
  · obtain ⟨a, p1, s1, rfl, ⟨dx, ha⟩, hl, hz, q⟩ := h
    refine ⟨_, (pss_cons (ps_if (pt_cmpR op_eq (pe_p p_degree hr (by decide) (pv 0) rfl) pe_int (nomark _))
          (pss_one (ps_ret pe_str))
          pss_nil)
        (pss_one (ps_ret (pe_joined (.cons (pe_fmt (pe_fld (pv 0) rfl)) (.cons pe_str (.cons (pe_fmt (pe_fld (pv 0) rfl)) .nil))))))), ?_⟩
    refine ⟨.ref a, rfl, a, dx, _, rfl, ha, a, p1, s1, rfl, ⟨dx, ha⟩, by omega, rfl, _, rfl, ite2 (fun e => ?_) (fun e => ?_)⟩
    · have e1 : V.int ((p1.length : Int) - 1) = V.int 0 := of_decide_eq_true e
      injection e1 with e1
      have e0 : s1 = [] := List.length_eq_zero_iff.mp (by omega)
      have := q H (Same.refl H)
      unfold ckText at this
      rw [if_pos e0] at this
      exact this
    · have e0 : s1 ≠ [] := fun z => e (decide_eq_true (by rw [hl, z]; rfl))
      have := q H (Same.refl H)
      unfold ckText at this
      rw [if_neg e0] at this
      refine ⟨.ref a, rfl, a, CCheck, dx, _, _, rfl, ha, T.cl, T.nP, ckf_poly p1 s1, ?_⟩
      have la : ∀ a b : Str, (a ++ b).length = a.length + b.length := fun a b => by simp [Str.length, Str.cps_append]
      have w1 : (WS p1).length = p1.length := WS_len p1
      have w2 : (WS s1).length = s1.length := WS_len s1
      have w3 : Str.empty.length = 0 := rfl
      have w4 : (" start " : Str).length = 7 := rfl
      have w5 : sizeLine ≥ 1000 := by decide
      refine .inl ⟨_, rfl, by rw [w1]; omega, _, rfl, by rw [la, w1, w3]; omega, _, rfl, by rw [la, la, w1, w3, w4]; omega, ?_⟩
      refine ⟨.ref a, rfl, a, CCheck, dx, _, _, rfl, ha, T.cl, T.nS, ckf_start p1 s1, .inl ⟨_, rfl, by rw [w2]; omega, _, rfl, by rw [la, la, la, w1, w2, w3, w4]; omega, this⟩⟩

abbrev s_Check_read : Stmt := (inClass (topS 8) 1)
theorem sc_Check_read : FnScope ["cls", "text", "words"] ["cls", "text"] (fnScope s_Check_read) := fnScope_by (by decide +kernel)
theorem ok_ckread {CCheck f : Addr} {fd : FuncData} (F : C8.Fun K "read" "Check.read" s_Check_read f fd) (M : Mg mg) (T : CkT K CCheck) (c_is_word_2 : Cal P w K mg base 1 "is_word" spIsWord []) (k_Check_2 : Mak P w K mg base 2 "Check" CCheck (spInit CCheck) []) (k_Check_0 : Mak P w K mg base 2 "Check" CCheck (spInit CCheck) [.str "1", .non]) : FnOk P w K mg base CX0 4 f fd ["cls", "text"] (spCkRead CCheck) := by
  refine fn0 F sc_Check_read (fun vs H Q E h => ?_) (fun cdv A outer s H vs Q E hr h => ?_)
  · obtain ⟨poly, st, rfl, _⟩ := h
    rfl
  · obtain ⟨poly, st, rfl, ck, hs, q⟩ := h
    refine ⟨_, (pss_cons (ps_if (pt_not (pt_val (pe_callB call_isi (by rfl) M.isinstance (by decide +kernel) (pa_cons (pv 1) (pa_cons (pe_bltn (v := .ty "str") (u := .type "str") (by rfl) M.str (by decide +kernel) rfl) pa_nil)))))
          (pss_one ps_never)
          pss_nil)
        (pss_cons (ps_if (pt_cmpR op_eq (pv 1) pe_str (nomark _))
          (pss_one (ps_ret (pe_mkV0 (i := 0) k_Check_0 hr (by decide) rfl (Or.inl rfl))))
          pss_nil)
        (pss_cons (ps_set (i := 2) sc_Check_read.nd rfl (Or.inl rfl) (pe_split (pv 1) pe_str))
        (pss_cons (ps_if (PW.pt (pw_or (pt_cmpR op_ne (pe_callB call_len_seq (by rfl) M.len PySem.boot_len (pa_cons (pv 2) pa_nil)) pe_int (nomark _)) (pw_or (pt_not (pt_val (pe_c c_is_word_2 hr (by decide) (by rfl) (pa_cons (pe_ix (r := rIxL K) ix_list (pv 2) pe_int (fun _ _ => rfl)) (pa_cons pe_int pa_nil))))) (pw_or1 (pt_not (pt_val (pe_c c_is_word_2 hr (by decide) (by rfl) (pa_cons (pe_ix (r := rIxL K) ix_list (pv 2) pe_int (fun _ _ => rfl)) (pa_cons pe_int pa_nil)))))))))
          (pss_one ps_never)
          pss_nil)
        (pss_one (ps_ret (pe_mkV (i := 0) k_Check_2 hr (by decide) rfl (Or.inl rfl) (pa_cons (pe_ix (r := rIxL K) ix_list (pv 2) pe_int (fun _ _ => rfl)) (pa_cons (pe_ix (r := rIxL K) ix_list (pv 2) pe_int (fun _ _ => rfl)) pa_nil))))))))), ?_⟩
    refine ⟨.str (ckText poly st), rfl, _, _, _, _, true, rfl, .ty "str", .base (.str _), kit_ty (by decide +kernel), true, rfl, iteF ?_⟩
    have hlen := ck.len
    by_cases h0 : st = []
    · subst h0
      have e1 : ckText poly [] = "1" := by unfold ckText; rw [if_pos rfl]
      have ep : poly = [true] := by
        have h1 : poly.length = 1 := by rw [hlen]; rfl
        obtain ⟨b, rfl⟩ : ∃ b, poly = [b] := List.length_eq_one_iff.mp h1
        obtain ⟨r, hr⟩ := ck.hd
        cases hr
        rfl
      subst ep
      rw [e1]
      refine ⟨.str "1", rfl, rfl, _, rfl, iteT ?_⟩
      refine ⟨rfl, fun p dx hp hdx ne => ⟨p, dx, [true], [], .non, ?_, .inl ⟨rfl, rfl⟩, chk_one, by decide, upd_same, fun H' cp kp => ⟨rfl, q p H' cp (same_make hp hdx kp)⟩⟩⟩
      rw [WS_1]
      rfl
    · have e1 := ck_ne1 (poly := poly) h0
      refine ⟨.str (ckText poly st), rfl, rfl, _, rfl, ?_⟩
      rw [decide_eq_false (str_ne e1)]
      refine iteF ?_
      have hT : (ckText poly st).length + 2 ≤ sizeLine := by
        unfold ckText
        rw [if_neg h0]
        have la : ∀ a b : Str, (a ++ b).length = a.length + b.length := fun a b => by simp [Str.length, Str.cps_append]
        have w3 : Str.empty.length = 0 := rfl
        have w4 : (" start " : Str).length = 7 := rfl
        have w5 : sizeLine ≥ 1000 := by decide
        rw [la, la, la, WS_len, WS_len, w3, w4]
        omega
      refine ⟨.str (ckText poly st), rfl, ⟨_, rfl⟩, _, (" start " : Str), rfl, rfl, rfl, hT, fun l hl => ?_⟩
      rw [ckSplit h0]
      have s1 : Same H (upd H l (.lst ([WS poly, WS st].map V.str))) := same_new hl
      have el : (upd H l (.lst ([WS poly, WS st].map V.str))) l = some (.lst [V.str (WS poly), V.str (WS st)]) := upd_same
      revert s1 el
      generalize upd H l (.lst ([WS poly, WS st].map V.str)) = H1
      intro s1 el
      have hs0 : 0 < st.length := List.length_pos_iff.mpr h0
      refine ⟨.ref l, rfl, l, _, rfl, .inl (.inl (.inl el)), rfl, _, rfl, iteNS rfl ?_⟩
      refine ⟨.ref l, rfl, l, _, 0, _, rfl, rfl, .inl (.inl el), atI0, poly, 1, rfl, by omega, fun H2 s2 => ⟨_, rfl, ?_⟩⟩
      rw [decide_eq_true (show (1 : Int) ≤ (poly.length : Int) by omega)]
      refine iteF ⟨.ref l, rfl, l, _, 1, _, rfl, rfl, .inl (.inl (s2 _ _ el)), atI1, st, 1, rfl, by omega, fun H3 s3 => ⟨_, rfl, ?_⟩⟩
      rw [decide_eq_true (show (1 : Int) ≤ (st.length : Int) by omega)]
      have el3 := s3 _ _ (s2 _ _ el)
      refine iteF ⟨rfl, .ref l, rfl, l, _, 0, _, rfl, rfl, .inl (.inl el3), atI0, .ref l, rfl, l, _, 1, _, rfl, rfl, .inl (.inl el3), atI1, fun p dx hp hdx ne => ⟨p, dx, poly, st, .str (WS st), rfl, .inr rfl, ck, by omega, upd_same, fun H' cp kp => ⟨rfl, q p H' cp (((s1.trans s2).trans s3).trans (same_make hp hdx kp))⟩⟩⟩

abbrev s_law : Stmt := (topS 17)
theorem sc_law : FnScope ["_law_script", "_law_k", "_law_box", "_law_turn_here", "_law_check_here", "_law_made", "_law_size", "_law_one", "_law_mate", "_law_third", "_law_whole", "_law_spot", "_law_bent"] ["_law_script"] (fnScope s_law) := fnScope_by (by decide +kernel)
theorem ok_law {CCheck pr gr f : Addr} {mcr : Value} {fd : FuncData} (F : C8.Fun K "law" "law" s_law f fd) (M : Mg mg) (gCCheck : mg "Check" = some (.ref CCheck)) (c_seed : Cal P w K mg base 1 "_law_seed" (spSeed K) []) (c_choose : Cal P w K mg base 1 "_law_choose" spChoose []) (c_word : Cal P w K mg base 3 "_law_word" spWordN []) (c_check : Cal P w K mg base 4 "_law_check" spCheck []) (c_sum : Cal P w K mg base 1 "_law_sum" spExch []) (c_turn : Cal P w K mg base 1 "_law_turn" spTurn [])
    (k_Check_2 : Mak P w K mg base 2 "Check" CCheck (spInit CCheck) []) (k_Check_1 : Mak P w K mg base 2 "Check" CCheck (spInit CCheck) [.non]) (p_degree : Prp P w K mg base 1 CCheck "degree" (spDegree CCheck)) (m_rest : Met P w K mg base 2 CCheck "rest" (spRest CCheck) []) (m_bits_for : Met P w K mg base 3 CCheck "bits_for" (spBitsFor CCheck) []) (m_is_good : Met P w K mg base 3 CCheck "is_good" (spGood CCheck) [])
    (e_Check : EqM P w K mg base 1 CCheck (spCkEq CCheck)) (t_Check : OneM P w K mg base 3 CCheck "__str__" (spCkStr CCheck)) (cr_Check : ClX.CRead K CCheck mcr) (cm_read : ClX.CMet K CCheck mcr "read" pr gr) (F_read : FnR P w K mg base CX0 4 gr (spCkRead CCheck)) : FnOk P w K mg base CX0 6 f fd ["_law_script"] (spLaw K) := by
  refine fn0 F sc_law (fun vs H Q E h => ?_) (fun cdv A outer s H vs Q E hr h => ?_)
  · obtain ⟨a, ns, rfl, _⟩ := h
    rfl
  · obtain ⟨a, ns, rfl, hS, hl, q⟩ := h
    have nfR : ∀ poly st : List Bool, (ckf poly st).lookup ("rest" : Str) = none := fun poly st => nofield (by decide +kernel) (by decide +kernel)
    have nfB : ∀ poly st : List Bool, (ckf poly st).lookup ("bits_for" : Str) = none := fun poly st => nofield (by decide +kernel) (by decide +kernel)
    have nfG : ∀ poly st : List Bool, (ckf poly st).lookup ("is_good" : Str) = none := fun poly st => nofield (by decide +kernel) (by decide +kernel)
    have hszz : ∀ (u v : List Bool), u.length + v.length ≤ 900 → (WS u).length + (WS v).length ≤ sizeLine := fun u v h => by
      rw [WS_len, WS_len]
      exact Nat.le_of_lt (small1000 (by omega))
    refine ⟨_, (pss_cons (ps_for PassesOwn.never rfl (pi_range1 (by rfl) M.range (pa_cons (pe_callB (call_max2 rfl) (by rfl) M.max (by decide +kernel) (pa_cons pe_int (pa_cons (pe_callB (call_min2 rfl) (by rfl) M.min (by decide +kernel) (pa_cons pe_int (pa_cons (pe_callB call_len_seq (by rfl) M.len PySem.boot_len (pa_cons (pv 0) pa_nil)) pa_nil))) pa_nil))) pa_nil)) (pg_name (i := 1) sc_law.nd rfl (Or.inl rfl))
          (pss_cons (ps_set (i := 2) sc_law.nd rfl (Or.inl rfl) (pe_c c_seed hr (by decide) (by rfl) (pa_cons (pv 0) (pa_cons (pv 1) pa_nil))))
            (pss_one (ps_for PassesOwn.never rfl (pi_range1 (by rfl) M.range (pa_cons pe_int pa_nil)) (pg_name (i := 3) sc_law.nd rfl (Or.inl rfl))
              (pss_cons (ps_set (i := 4) sc_law.nd rfl (Or.inl rfl) (pe_c c_check hr (by decide) (by rfl) (pa_cons (pv 2) (pa_cons pe_int pa_nil))))
                (pss_cons (ps_par (i := 5) (j := 6) rfl sc_law.nd rfl rfl (by decide) rfl rfl (pa_cons (pe_mk k_Check_2 hr (by decide) (by rfl) (pa_cons (pe_ix (r := rIxT K) ix_tup (pv 4) pe_int (fun _ _ => rfl)) (pa_cons (pe_ix (r := rIxT K) ix_tup (pv 4) pe_int (fun _ _ => rfl)) pa_nil))) (pa_cons (pe_op op_add pe_int (pe_c c_choose hr (by decide) (by rfl) (pa_cons (pv 2) (pa_cons pe_int pa_nil)))) pa_nil)) (by rfl))
                (pss_cons (ps_par (i := 7) (j := 8) rfl sc_law.nd rfl rfl (by decide) rfl rfl (pa_cons (pe_c c_word hr (by decide) (by rfl) (pa_cons (pv 2) (pa_cons (pv 6) pa_nil))) (pa_cons (pe_c c_word hr (by decide) (by rfl) (pa_cons (pv 2) (pa_cons (pv 6) pa_nil))) pa_nil)) (by rfl))
                (pss_cons (ps_set (i := 9) sc_law.nd rfl (Or.inl rfl) (pe_c c_sum hr (by decide) (by rfl) (pa_cons (pv 7) (pa_cons (pv 8) pa_nil))))
                (pss_cons (ps_if (pt_cmpR op_ne (pe_mt m_rest hr (by decide) (pe_mk k_Check_2 hr (by decide) (by rfl) (pa_cons (pe_ix (r := rIxT K) ix_tup (pv 4) pe_int (fun _ _ => rfl)) (pa_cons (pe_mt m_rest hr (by decide) (pv 5) (pa_cons (pv 7) pa_nil)) pa_nil))) (pa_cons (pv 8) pa_nil)) (pe_mt m_rest hr (by decide) (pv 5) (pa_cons (pe_op op_add_str (pv 7) (pv 8)) pa_nil)) (nomark _))
                  (pss_one (ps_ret pe_bl))
                  pss_nil)
                (pss_cons (ps_if (pt_cmpR op_ne (pe_c c_sum hr (by decide) (by rfl) (pa_cons (pe_mt m_rest hr (by decide) (pv 5) (pa_cons (pv 7) pa_nil)) (pa_cons (pe_mt m_rest hr (by decide) (pv 5) (pa_cons (pv 8) pa_nil)) pa_nil))) (pe_mt m_rest hr (by decide) (pe_mk k_Check_1 hr (by decide) (by rfl) (pa_cons (pe_ix (r := rIxT K) ix_tup (pv 4) pe_int (fun _ _ => rfl)) pa_nil)) (pa_cons (pv 9) pa_nil)) (nomark _))
                  (pss_one (ps_ret pe_bl))
                  pss_nil)
                (pss_cons (ps_set (i := 10) sc_law.nd rfl (Or.inl rfl) (pe_op op_add_str (pv 7) (pe_mt m_bits_for hr (by decide) (pv 5) (pa_cons (pv 7) pa_nil))))
                (pss_cons (ps_if (PW.pt (pw_or (pt_not (pt_val (pe_mt m_is_good hr (by decide) (pv 5) (pa_cons (pv 10) pa_nil)))) (pw_or (pt_cmpR op_ne (pe_slice sl_str (pv 10) po_none (po_some (pv 6))) (pv 7) (nomark _)) (pw_or1 (pt_cmpR (op_ownNe e_Check hr (by decide)) (pe_mk k_Check_2 hr (by decide) (by rfl) (pa_cons (pe_ix (r := rIxT K) ix_tup (pv 4) pe_int (fun _ _ => rfl)) (pa_cons (pe_ix (r := rIxT K) ix_tup (pv 4) pe_int (fun _ _ => rfl)) pa_nil))) (pv 5) (nomark _))))))
                  (pss_one (ps_ret pe_bl))
                  pss_nil)
                (pss_cons (ps_if (PW.pt (pw_and (pt_cmpR op_notIn_sign pe_str (pe_ix (r := rIxT K) ix_tup (pv 4) pe_int (fun _ _ => rfl)) (by rfl)) (pw_and1 (pt_not (pt_val (pe_mt m_is_good hr (by decide) (pv 5) (pa_cons (pe_op op_add_str (pv 10) (pe_op op_mul_str pe_str (pe_c c_choose hr (by decide) (by rfl) (pa_cons (pv 2) (pa_cons pe_int pa_nil))))) pa_nil)))))))
                  (pss_one (ps_ret pe_bl))
                  pss_nil)
                (pss_cons (ps_set (i := 11) sc_law.nd rfl (Or.inl rfl) (pe_c c_choose hr (by decide) (by rfl) (pa_cons (pv 2) (pa_cons (pe_callB call_len_str (by rfl) M.len PySem.boot_len (pa_cons (pv 10) pa_nil)) pa_nil))))
                (pss_cons (ps_set (i := 12) sc_law.nd rfl (Or.inl rfl) (pe_op op_add_str (pe_op op_add_str (pe_slice sl_str (pv 10) po_none (po_some (pv 11))) (pe_c c_turn hr (by decide) (by rfl) (pa_cons (pe_ix (r := rIxS) ix_str (pv 10) (pv 11) (fun _ _ => rfl)) pa_nil))) (pe_slice sl_str (pv 10) (po_some (pe_op op_add (pv 11) pe_int)) po_none)))
                (pss_cons (ps_if (PW.pt (pw_and (pt_cmpR op_gt (pe_p p_degree hr (by decide) (pv 5) rfl) pe_int (nomark _)) (pw_and1 (pt_val (pe_mt m_is_good hr (by decide) (pv 5) (pa_cons (pv 12) pa_nil))))))
                  (pss_one (ps_ret pe_bl))
                  pss_nil)
                (pss_cons (ps_if (PW.pt (pw_or (pt_cmpR op_ne (pe_mt m_rest hr (by decide) (pe_mk k_Check_1 hr (by decide) (by rfl) (pa_cons (pe_ix (r := rIxT K) ix_tup (pv 4) pe_int (fun _ _ => rfl)) pa_nil)) (pa_cons (pe_op op_mul_str pe_str (pv 6)) pa_nil)) (pe_op op_mul_str pe_str (pe_p p_degree hr (by decide) (pv 5) rfl)) (nomark _)) (pw_or1 (pt_cmpR op_ne (pe_mt m_rest hr (by decide) (pv 5) (pa_cons (pv 10) pa_nil)) (pe_op op_mul_str pe_str (pe_p p_degree hr (by decide) (pv 5) rfl)) (nomark _)))))
                  (pss_one (ps_ret pe_bl))
                  pss_nil)
                (pss_one (ps_if (pt_cmpR op_ne (pe_mt m_rest hr (by decide) (ClX.pe_cmeth (C8.pe_gc (v := .ref CCheck) (by rfl) ⟨_, gCCheck, rfl⟩) cr_Check cm_read F_read (hr.mono (by decide)) (C8.pass0 (E := C8.E0)) (pa_cons (pe_callTy (call_ownStr t_Check hr (by decide)) (by rfl) M.str (by decide +kernel) (pa_cons (pv 5) pa_nil)) pa_nil)) (pa_cons (pv 7) pa_nil)) (pe_mt m_rest hr (by decide) (pv 5) (pa_cons (pv 7) pa_nil)) (nomark _))
                  (pss_one (ps_ret pe_bl))
                  pss_nil)))))))))))))))))))
        (pss_one (ps_ret pe_bl))), ?_⟩
    refine ⟨.ref a, rfl, a, ns.map V.int, rfl, .inl hS, 4, _, rfl, 2, _, rfl, _, rfl, (by split <;> (try split) <;> omega), (by split <;> (try split) <;> omega), ?_⟩
    refine for_it walk_range (fun i σ H1 => ∃ x1 x2 x3 x4 x5 x6 x7 x8 x9 x10 x11 x12, σ = [some (.ref a), x1, x2, x3, x4, x5, x6, x7, x8, x9, x10, x11, x12] ∧ Same H H1)
      ⟨_, _, _, _, _, _, _, _, _, _, _, _, rfl, Same.refl H⟩ (fun _ _ _ _ _ => trivial) (fun i x σ H1 H1' hi hp hy => ?_) (fun σ H1 hp => ?_)
    · obtain ⟨rfl, rfl⟩ := hy
      obtain ⟨x1, x2, x3, x4, x5, x6, x7, x8, x9, x10, x11, x12, rfl, s1⟩ := hp
      have hi4 : i < 100 := by
        revert hi
        split <;> (try split) <;> omega
      refine ⟨.ref a, rfl, _, rfl, a, ns, (0 : Int) + (i : Nat), rfl, s1.seq hS, hl, by omega, by omega, fun b H2 hb1 hb2 s2 => ?_⟩
      have hb0 : H b = none := s1.free hb1
      refine ⟨8, rfl, by decide, by decide, ?_⟩
      refine for_it walk_range (fun j σ H3 => ∃ (x3 x4 x5 x6 x7 x8 x9 x10 x11 x12 : Option V), σ = [some (.ref a), some (.int (0 + (i : Nat))), some (.ref b), x3, x4, x5, x6, x7, x8, x9, x10, x11, x12] ∧ Same H H3 ∧ BoxAt H3 b)
        ⟨x3, x4, x5, x6, x7, x8, x9, x10, x11, x12, rfl, s1.trans s2, hb2⟩ (fun _ _ _ _ _ => trivial) (fun j x σ H3 H3' hj hp hy => ?_) (fun σ H3 hp => ?_)
      · obtain ⟨rfl, rfl⟩ := hy
        obtain ⟨x3, x4, x5, x6, x7, x8, x9, x10, x11, x12, rfl, s3, hb3⟩ := hp
        refine ⟨.ref b, rfl, b, 4, rfl, hb3, by decide, by decide, fun poly st t H4 ck hst ht3 ht4 hb4 off4 => ?_⟩
        have s4 := same_off s3 off4 hb0
        refine ⟨.ref t, rfl, t, _, 0, _, rfl, rfl, .inl (.inl ht4), atI0, .ref t, rfl, t, _, 1, _, rfl, rfl, .inl (.inl ht4), atI1, fun p dx hp4 hdx4 ne4 => ?_⟩
        refine ⟨p, dx, poly, st, .str (WS st), rfl, .inr rfl, ck, by omega, upd_same, fun H5 cp5 kp5 => ⟨rfl, ?_⟩⟩
        have s45 : Same H4 H5 := same_make hp4 hdx4 kp5
        have hb5 := hb4.same s45
        refine ⟨.ref b, rfl, b, 20, rfl, hb5, by decide, by decide, fun r H6 r0 r1 hb6 off6 => ⟨_, _, rfl, rfl, _, _, rfl, ?_⟩⟩
        have hn0 : (0 : Int) ≤ 1 + r := by omega
        have hn1 : (1 : Int) + r ≤ 20 := by omega
        refine ⟨.ref b, rfl, .int (1 + r), rfl, b, _, rfl, hb6, hn0, by omega, fun z H7 hz hb7 off7 => ?_⟩
        refine ⟨.ref b, rfl, .int (1 + r), rfl, b, _, rfl, hb7, hn0, by omega, fun y H8 hyl hb8 off8 => ⟨_, _, rfl, ?_⟩⟩
        have hz20 : z.length ≤ 20 := by omega
        have hy20 : y.length ≤ 20 := by omega
        have hzy : z.length = y.length := by omega
        have k58 : Kp H5 H8 := ((kp_off hb5 off6).trans (kp_off hb6 off7)).trans (kp_off hb7 off8)
        have s8 : Same H H8 := same_off (same_off (same_off (s4.trans s45) off6 hb0) off7 hb0) off8 hb0
        have ht8 := k58 _ _ (s45 _ _ ht4) trivial
        have cp8 := cp5.kp k58
        refine ⟨.str (WS z), rfl, .str (WS y), rfl, z, y, rfl, by omega, by omega, fun H9 s89 => ?_⟩
        have hxl : (xorL z y).length = z.length := xorL_len _ _ hzy
        have ht9 := s89 _ _ ht8
        have cp9 := cp8.same s89
        obtain ⟨dx9, e9⟩ := id cp9
        have ck2 : ∀ u, Chk poly (restR poly st u) := fun u => ⟨by rw [restR_len ck.len]; exact ck.len, ck.hd, ck.lt⟩
        have rl : ∀ u, (restR poly st u).length = st.length := restR_len ck.len
        have ck0 : Chk poly (List.replicate st.length false) := ⟨by rw [List.length_replicate]; exact ck.len, ck.hd, ck.lt⟩
        -- a rest goes on
        refine ⟨.ref t, rfl, t, _, 0, _, rfl, rfl, .inl (.inl ht9), atI0, .ref p, rfl, p, dx9, _, rfl, e9, nfR _ _, .str (WS z), rfl, p, poly, st, z, rfl, cp9, ck, by omega, by omega, fun H10 s910 => ?_⟩
        refine fun p2 dx2 hp2 hdx2 ne2 => ⟨p2, dx2, poly, restR poly st z, .str (WS (restR poly st z)), rfl, .inr rfl, ck2 z, by rw [rl]; omega, upd_same, fun H11 cp11 kp11 => ⟨rfl, ?_⟩⟩
        have s911 : Same H9 H11 := s910.trans (same_make hp2 hdx2 kp11)
        obtain ⟨dx11, e11⟩ := id cp11
        refine ⟨p2, dx11, _, rfl, e11, nfR _ _, .str (WS y), rfl, p2, poly, _, y, rfl, cp11, ck2 z, by rw [rl]; omega, by omega, fun H12 s1112 => ?_⟩
        have s912 := s911.trans s1112
        obtain ⟨dx12, e12⟩ := cp9.same s912
        refine ⟨.ref p, rfl, p, dx12, _, rfl, e12, nfR _ _, .str (WS z), rfl, .str (WS y), rfl, _, _, rfl, rfl, hszz _ _ (by omega), p, poly, st, z ++ y, by rw [WS_cat]; rfl, ⟨dx12, e12⟩, ck, by omega, (by rw [List.length_append]; omega), fun H13 s1213 => ⟨rfl, _, rfl, iteNS (by rw [restR_app]) ?_⟩⟩
        have s913 := s912.trans s1213
        -- the sum of two rests
        obtain ⟨dx13, e13⟩ := cp9.same s913
        refine ⟨.ref p, rfl, p, dx13, _, rfl, e13, nfR _ _, .str (WS z), rfl, p, poly, st, z, rfl, ⟨dx13, e13⟩, ck, by omega, by omega, fun H14 s1314 => ?_⟩
        have s914 := s913.trans s1314
        obtain ⟨dx14, e14⟩ := cp9.same s914
        refine ⟨.ref p, rfl, p, dx14, _, rfl, e14, nfR _ _, .str (WS y), rfl, p, poly, st, y, rfl, ⟨dx14, e14⟩, ck, by omega, by omega, fun H15 s1415 => ?_⟩
        refine ⟨restR poly st z, restR poly st y, rfl, by rw [rl]; omega, by rw [rl]; omega, fun H16 s1516 => ?_⟩
        have s916 := (s914.trans s1415).trans s1516
        have h00 : List.replicate st.length false = List.replicate (poly.length - 1) false := by rw [ck.len]; rfl
        refine ⟨.ref t, rfl, t, _, 0, _, rfl, rfl, .inl (.inl (s916 _ _ ht9)), atI0, fun p3 dx3 hp3 hdx3 ne3 => ⟨p3, dx3, poly, List.replicate st.length false, .non, rfl, .inl ⟨rfl, h00⟩, ck0, by rw [List.length_replicate]; omega, upd_same, fun H17 cp17 kp17 => ⟨rfl, ?_⟩⟩⟩
        have s917 := s916.trans (same_make hp3 hdx3 kp17)
        obtain ⟨dx17, e17⟩ := id cp17
        refine ⟨p3, dx17, _, rfl, e17, nfR _ _, .str (WS (xorL z y)), rfl, p3, poly, _, xorL z y, rfl, cp17, ck0, by rw [List.length_replicate]; omega, by omega, fun H18 s1718 => ⟨rfl, _, rfl, iteNS (by rw [rest_sum ck hzy]) ?_⟩⟩
        have s918 := s917.trans s1718
        -- the whole message
        obtain ⟨dx18, e18⟩ := cp9.same s918
        have hbl : (bitsR poly st z).length = st.length := bitsR_len ck.len
        refine ⟨.str (WS z), rfl, .ref p, rfl, p, dx18, _, rfl, e18, nfB _ _, .str (WS z), rfl, p, poly, st, z, rfl, ⟨dx18, e18⟩, ck, by omega, by omega, fun H19 s1819 => ⟨_, _, rfl, rfl, hszz _ _ (by rw [hbl]; omega), ?_⟩⟩
        rw [WS_cat]
        have s919 := s918.trans s1819
        have hgood : goodB poly st (z ++ bitsR poly st z) = true := by rw [good_iff ck.len hbl]; exact decide_eq_true rfl
        have hw0 := rest_whole ck z
        have hwl : (z ++ bitsR poly st z).length = z.length + st.length := by rw [List.length_append, hbl]
        have htk : (z ++ bitsR poly st z).take (1 + r).toNat = z := by
          rw [show (1 + r).toNat = z.length by omega, List.take_left]
        generalize z ++ bitsR poly st z = whole at hgood hw0 hwl htk ⊢
        obtain ⟨dx19, e19⟩ := cp9.same s919
        refine ⟨.ref p, rfl, p, dx19, _, rfl, e19, nfG _ _, .str (WS whole), rfl, p, poly, st, whole, rfl, ⟨dx19, e19⟩, ck, by omega, by omega, fun H20 s1920 => ⟨_, rfl, ?_⟩⟩
        rw [hgood]
        have s920 := s919.trans s1920
        refine iteF ⟨.str (WS whole), rfl, .int (1 + r), rfl, _, rfl, _, rfl, ls_len whole (by omega), ?_⟩
        rw [cut_to whole hn0, htk]
        refine ⟨.str (WS z), rfl, rfl, _, rfl, iteNS rfl ?_⟩
        refine ⟨.ref t, rfl, t, _, 0, _, rfl, rfl, .inl (.inl (s920 _ _ ht9)), atI0, .ref t, rfl, t, _, 1, _, rfl, rfl, .inl (.inl (s920 _ _ ht9)), atI1, fun p4 dx4 hp4 hdx4 ne4 => ⟨p4, dx4, poly, st, .str (WS st), rfl, .inr rfl, ck, by omega, upd_same, fun H21 cp21 kp21 => ⟨rfl, ?_⟩⟩⟩
        have s921 := s920.trans (same_make hp4 hdx4 kp21)
        obtain ⟨dx21, e21⟩ := id cp21
        have cpp := cp9.same s921
        obtain ⟨dxp, ep⟩ := id cpp
        refine ⟨.ref p, rfl, p4, p, dx21, dxp, _, _, rfl, rfl, e21, ep, p4, p, poly, st, poly, st, rfl, cp21, cpp, fun H22 s2122 => ⟨_, rfl, _, rfl, ?_⟩⟩
        rw [decide_eq_true (show poly = poly ∧ st = st from ⟨rfl, rfl⟩)]
        refine iteF ?_
        have s922 := s921.trans s2122
        have hb22 := (hb8.same s89).same s922
        have sH22 : Same H H22 := (s8.trans s89).trans s922
        have ht22 := s922 _ _ ht9
        have cp22 := cp9.same s922
        obtain ⟨dx22, e22⟩ := id cp22
        refine ⟨.ref t, rfl, t, _, 1, _, rfl, rfl, .inl (.inl ht22), atI1, 49, WS st, rfl, rfl, _, rfl, ?_⟩
        refine and_join2 (fun H23 => BoxAt H23 b ∧ Kp H22 H23 ∧ Same H H23) (fun _ => ⟨hb22, Kp.refl _, sH22⟩) (fun e k kx ky => ?_) (fun H23 g => ?_)
        · have hst0 : st = List.replicate st.length false := by
            rw [← zero_iff]
            intro h
            rw [decide_eq_true ((mem_one st).mpr h)] at e
            cases e
          refine ⟨.ref p, rfl, p, dx22, _, rfl, e22, nfG _ _, .str (WS whole), rfl, .ref b, rfl, b, 5, rfl, hb22, by decide, by decide, fun n H23 n0 n1 hb23 off23 => ?_⟩
          have mz : MulOk "0" n := by
            rw [← WS_0]
            exact mul_ok [false] n0 (by omega) (by decide)
          have mv : Txt.mul "0" n = WS (List.replicate n.toNat false) := by rw [← WS_0, mul_WS [false] n0, flat_rep]
          have k23 := kp_off hb22 off23
          have hgz : goodB poly st (whole ++ List.replicate n.toNat false) = true := by
            unfold goodB
            rw [restR_app, hw0, rest_noughts ck, decide_eq_true (by rw [List.length_append]; omega)]
            simp
          refine ⟨"0", n, rfl, rfl, mz, _, _, rfl, rfl, by rw [mv]; exact hszz _ _ (by rw [List.length_replicate]; omega), p, poly, st, whole ++ List.replicate n.toNat false, by rw [mv, WS_cat]; rfl, cp22.kp k23, ck, by omega, (by rw [List.length_append, List.length_replicate]; omega), fun H24 s2324 => ⟨_, rfl, ?_⟩⟩
          rw [hgz]
          exact ky _ ⟨hb23.same s2324, k23.trans (kp_same s2324), (same_off sH22 off23 hb0).trans s2324⟩
        · obtain ⟨hb23, k23, sH23⟩ := g
          have ht23 := k23 _ _ ht22 trivial
          have cp23 := cp22.kp k23
          -- one bit otherwise
          refine ⟨.ref b, rfl, _, rfl, _, rfl, ls_len _ (by omega), b, _, rfl, hb23, by rw [WS_len]; omega, by rw [WS_len]; omega, fun u H24 u0 u1 hb24 off24 => ?_⟩
          rw [WS_len] at u1
          have k24 := kp_off hb23 off24
          have sH24 := same_off sH23 off24 hb0
          have hrl : u.toNat < whole.length := by omega
          have hg : whole[u.toNat]? = some whole[u.toNat] := List.getElem?_eq_getElem hrl
          obtain ⟨c, hc⟩ : ∃ c, c = whole[u.toNat] := ⟨_, rfl⟩
          rw [← hc] at hg
          have hsp : whole = whole.take u.toNat ++ c :: whole.drop (u.toNat + 1) := by
            rw [hc, ← List.drop_eq_getElem_cons hrl, List.take_append_drop]
          refine ⟨_, rfl, .int u, rfl, u, rfl, _, rfl, ls_len _ (by omega), ?_⟩
          rw [cut_to _ u0]
          refine ⟨_, rfl, .int u, rfl, WS whole, u, cd c, rfl, rfl, ls_len _ (by omega), ?_, c, rfl, _, _, rfl, rfl, ?_, ?_⟩
          · have h1 := atI_nat (xs := (WS whole).cps.toList) (j := u.toNat) (v := cd c) ?_
            · rw [Int.toNat_of_nonneg u0] at h1
              exact h1
            · show (whole.map cd)[u.toNat]? = _
              rw [List.getElem?_map, hg]
              rfl
          · rw [WS_len, WS_len, List.length_take]
            exact Nat.le_of_lt (small1000 (by show _ + 1 ≤ 1000; omega))
          rw [WS_cat]
          refine ⟨_, rfl, .int u, rfl, _, _, rfl, rfl, _, rfl, _, rfl, ls_len _ (by omega), ?_⟩
          rw [cut_from _ (by omega)]
          have er : (u + 1).toNat = u.toNat + 1 := by omega
          rw [er]
          have hbl2 : (whole.take u.toNat ++ [!c] ++ whole.drop (u.toNat + 1)).length = whole.length := by
            rw [List.length_append, List.length_append, List.length_take, List.length_drop]
            show min _ _ + 1 + _ = _
            omega
          have hbad : 0 < st.length → goodB poly st (whole.take u.toNat ++ [!c] ++ whole.drop (u.toNat + 1)) = false := fun h0 => by
            have := bent_bad ck h0 (a := whole.take u.toNat) (b := whole.drop (u.toNat + 1)) (x := c) (by rw [← hsp]; exact hw0)
            unfold goodB
            rw [List.append_assoc]
            show (_ && !decide (true ∈ restR poly st (whole.take u.toNat ++ (!c) :: whole.drop (u.toNat + 1)))) = false
            rw [decide_eq_true this, Bool.not_true, Bool.and_false]
          refine ⟨_, _, rfl, rfl, ?_, ?_⟩
          · rw [WS_len, WS_len]
            rw [List.length_append] at hbl2
            exact Nat.le_of_lt (small1000 (by omega))
          rw [WS_cat]
          revert hbl2 hbad
          generalize whole.take u.toNat ++ [!c] ++ whole.drop (u.toNat + 1) = bent
          intro hbl2 hbad
          have cp24 := cp23.kp k24
          obtain ⟨dx24, e24⟩ := id cp24
          have hpl : poly.length ≤ 1000 := by have := ck.len; omega
          refine ⟨.ref p, rfl, p, dx24, _, rfl, e24, p, poly, st, rfl, cp24, hpl, _, _, rfl, rfl, _, rfl, ?_⟩
          refine and_join2 (fun H25 => Same H24 H25) (fun _ => Same.refl _) (fun e k kx ky => ?_) (fun H25 s2425 => ?_)
          · have h0 : 0 < st.length := by
              have := of_decide_eq_true e
              have := ck.len
              omega
            refine ⟨.ref p, rfl, p, dx24, _, rfl, e24, nfG _ _, .str (WS bent), rfl, p, poly, st, bent, rfl, cp24, ck, by omega, by omega, fun H25 s2425 => ⟨_, rfl, ?_⟩⟩
            rw [hbad h0]
            exact ky _ s2425
          · have ht25 := s2425 _ _ (k24 _ _ ht23 trivial)
            have cp25 := cp24.same s2425
            have mzf : ∀ n : Int, 0 ≤ n → n ≤ 300 → MulOk "0" n := fun n n0 n1 => by
              rw [← WS_0]
              exact mul_ok [false] n0 (by omega) (by decide)
            have mvf : ∀ n : Int, 0 ≤ n → Txt.mul "0" n = WS (List.replicate n.toNat false) := fun n n0 => by rw [← WS_0, mul_WS [false] n0, flat_rep]
            have hd : ((poly.length : Nat) : Int) - 1 = (st.length : Int) := by have := ck.len; omega
            have sH25 := sH24.trans s2425
            have hb25 := hb24.same s2425
            -- noughts leave noughts
            refine ⟨.ref t, rfl, t, _, 0, _, rfl, rfl, .inl (.inl ht25), atI0, fun p5 dx5 hp5 hdx5 ne5 => ⟨p5, dx5, poly, List.replicate st.length false, .non, rfl, .inl ⟨rfl, h00⟩, ck0, by rw [List.length_replicate]; omega, upd_same, fun H26 cp26 kp26 => ⟨rfl, ?_⟩⟩⟩
            have s2526 : Same H25 H26 := same_make hp5 hdx5 kp26
            obtain ⟨dx26, e26⟩ := id cp26
            refine ⟨p5, dx26, _, rfl, e26, nfR _ _, .int (1 + r), rfl, "0", 1 + r, rfl, rfl, mzf _ hn0 (by omega), p5, poly, _, List.replicate (1 + r).toNat false, by rw [mvf _ hn0]; rfl, cp26, ck0, by rw [List.length_replicate]; omega, by rw [List.length_replicate]; omega, fun H27 s2627 => ?_⟩
            rw [rest_noughts ck]
            have s2527 := s2526.trans s2627
            have cp27 := cp25.same s2527
            obtain ⟨dx27, e27⟩ := id cp27
            refine ⟨.ref p, rfl, p, dx27, _, rfl, e27, p, poly, st, rfl, cp27, hpl, ?_⟩
            rw [hd]
            refine ⟨"0", _, rfl, rfl, mzf _ (by omega) (by omega), ?_⟩
            rw [mvf _ (by omega), Int.toNat_natCast]
            refine ⟨rfl, _, rfl, iteNS rfl ?_⟩
            refine ⟨.ref p, rfl, p, dx27, _, rfl, e27, nfR _ _, .str (WS whole), rfl, p, poly, st, whole, rfl, cp27, ck, by omega, by omega, fun H28 s2728 => ?_⟩
            rw [hw0]
            have s2528 := s2527.trans s2728
            have cp28 := cp25.same s2528
            obtain ⟨dx28, e28⟩ := id cp28
            refine ⟨.ref p, rfl, p, dx28, _, rfl, e28, p, poly, st, rfl, cp28, hpl, ?_⟩
            rw [hd]
            refine ⟨"0", _, rfl, rfl, mzf _ (by omega) (by omega), ?_⟩
            rw [mvf _ (by omega), Int.toNat_natCast]
            refine ⟨rfl, _, rfl, iteNS rfl ?_⟩
            -- read again
            refine ⟨rfl, .ref p, rfl, p, dx28, _, rfl, e28, p, poly, st, rfl, cp28, ck.len, by have := ck.len; omega, fun H29 s2829 => ⟨_, rfl, poly, st, rfl, ck, by omega, fun p6 H30 cp30 s2930 => ?_⟩⟩
            obtain ⟨dx30, e30⟩ := id cp30
            refine ⟨p6, dx30, _, rfl, e30, nfR _ _, .str (WS z), rfl, p6, poly, st, z, rfl, cp30, ck, by omega, by omega, fun H31 s3031 => ?_⟩
            have s2531 := ((s2528.trans s2829).trans s2930).trans s3031
            have cp31 := cp25.same s2531
            obtain ⟨dx31, e31⟩ := id cp31
            refine ⟨.ref p, rfl, p, dx31, _, rfl, e31, nfR _ _, .str (WS z), rfl, p, poly, st, z, rfl, cp31, ck, by omega, by omega, fun H32 s3132 => ⟨rfl, _, rfl, iteNS rfl ?_⟩⟩
            exact ⟨_, _, _, _, _, _, _, _, _, _, rfl, (sH25.trans s2531).trans s3132, (hb25.same s2531).same s3132⟩
      · obtain ⟨x3, x4, x5, x6, x7, x8, x9, x10, x11, x12, rfl, s3, hb3⟩ := hp
        exact ⟨_, _, _, _, _, _, _, _, _, _, _, _, rfl, s3⟩
    · obtain ⟨x1, x2, x3, x4, x5, x6, x7, x8, x9, x10, x11, x12, rfl, s1⟩ := hp
      exact q H1

end
theorem all_mk {l : PySem.W.OpenLaw} {w : World} {K : PySem.W.Frag} {h : Heap} {mg : Str → Option Value} {fa f1 f2 f3 f4 f5 f6 f7 f8 f9 f10 CCheck f11 f12 f13 f14 f15 f16 f17 p17 f18 p18 : Addr} (X : K.In h) (G : h.Ns mainGlobals mg) (hfa : mg "law" = some (.ref fa))
    {od1 an1 : Option Addr} {sl1 : Array (Option Value)} {oc1 kV1 dc1 pm1 cd1 ct1 : Value}
    {T1 : Addr} {cT1 : Value} {oT1 : Option Addr} {nT1 : Nat} {sT1 : Array (Option Value)} {u1_0 : Tok}
    {od2 an2 : Option Addr} {sl2 : Array (Option Value)} {oc2 kV2 dc2 pm2 cd2 ct2 : Value}
    {od3 an3 : Option Addr} {sl3 : Array (Option Value)} {oc3 kV3 dc3 pm3 cd3 ct3 : Value}
    {od4 an4 : Option Addr} {sl4 : Array (Option Value)} {oc4 kV4 dc4 pm4 cd4 ct4 : Value}
    {od5 an5 : Option Addr} {sl5 : Array (Option Value)} {oc5 kV5 dc5 pm5 cd5 ct5 : Value}
    {od6 an6 : Option Addr} {sl6 : Array (Option Value)} {oc6 kV6 dc6 pm6 cd6 ct6 : Value}
    {od7 an7 : Option Addr} {sl7 : Array (Option Value)} {oc7 kV7 dc7 pm7 cd7 ct7 : Value}
    {od8 an8 : Option Addr} {sl8 : Array (Option Value)} {oc8 kV8 dc8 pm8 cd8 ct8 : Value}
    {od9 an9 : Option Addr} {sl9 : Array (Option Value)} {oc9 kV9 dc9 pm9 cd9 ct9 : Value}
    {od10 an10 : Option Addr} {sl10 : Array (Option Value)} {oc10 kV10 dc10 pm10 cd10 ct10 : Value}
    {od11 an11 : Option Addr} {sl11 : Array (Option Value)} {oc11 kV11 dc11 pm11 cd11 ct11 : Value}
    {T11 : Addr} {cT11 : Value} {oT11 : Option Addr} {nT11 : Nat} {sT11 : Array (Option Value)} {u11_0 : Tok}
    {od12 an12 : Option Addr} {sl12 : Array (Option Value)} {oc12 kV12 dc12 pm12 cd12 ct12 : Value}
    {od13 an13 : Option Addr} {sl13 : Array (Option Value)} {oc13 kV13 dc13 pm13 cd13 ct13 : Value}
    {od14 an14 : Option Addr} {sl14 : Array (Option Value)} {oc14 kV14 dc14 pm14 cd14 ct14 : Value}
    {od15 an15 : Option Addr} {sl15 : Array (Option Value)} {oc15 kV15 dc15 pm15 cd15 ct15 : Value}
    {od16 an16 : Option Addr} {sl16 : Array (Option Value)} {oc16 kV16 dc16 pm16 cd16 ct16 : Value}
    {R17 : List Value}
    {od17 an17 : Option Addr} {sl17 : Array (Option Value)} {oc17 kV17 dc17 pm17 cd17 ct17 : Value}
    {R18 : List Value}
    {od18 an18 : Option Addr} {sl18 : Array (Option Value)} {oc18 kV18 dc18 pm18 cd18 ct18 : Value}
    (a1 : PySem.W.nsIn K mainGlobals "is_word" = some (some (.ref f1)))
    (l1 : K.lookup f1 = some ⟨oc1, od1, .func (PySem.W.fnOf "is_word" "is_word" (fnArgs s_is_word) (fnBody s_is_word) (fnScope s_is_word) (.ref T1) kV1 dc1 pm1 an1 cd1 ct1), sl1⟩)
    (c1 : PySem.W.codeIn K cd1 "is_word" = true)
    (k1 : PySem.W.keepIn K (.ref f1) = true)
    (d1 : K.lookup T1 = some ⟨cT1, oT1, .seq #[.int 0 u1_0] nT1, sT1⟩)
    (a2 : PySem.W.nsIn K mainGlobals "exchanged" = some (some (.ref f2)))
    (l2 : K.lookup f2 = some ⟨oc2, od2, .func (PySem.W.fnOf "exchanged" "exchanged" (fnArgs s_exchanged) (fnBody s_exchanged) (fnScope s_exchanged) .none kV2 dc2 pm2 an2 cd2 ct2), sl2⟩)
    (c2 : PySem.W.codeIn K cd2 "exchanged" = true)
    (k2 : PySem.W.keepIn K (.ref f2) = true)
    (a3 : PySem.W.nsIn K mainGlobals "_law_seed" = some (some (.ref f3)))
    (l3 : K.lookup f3 = some ⟨oc3, od3, .func (PySem.W.fnOf "_law_seed" "_law_seed" (fnArgs s_seed) (fnBody s_seed) (fnScope s_seed) .none kV3 dc3 pm3 an3 cd3 ct3), sl3⟩)
    (c3 : PySem.W.codeIn K cd3 "_law_seed" = true)
    (k3 : PySem.W.keepIn K (.ref f3) = true)
    (a4 : PySem.W.nsIn K mainGlobals "_law_choose" = some (some (.ref f4)))
    (l4 : K.lookup f4 = some ⟨oc4, od4, .func (PySem.W.fnOf "_law_choose" "_law_choose" (fnArgs s_choose) (fnBody s_choose) (fnScope s_choose) .none kV4 dc4 pm4 an4 cd4 ct4), sl4⟩)
    (c4 : PySem.W.codeIn K cd4 "_law_choose" = true)
    (k4 : PySem.W.keepIn K (.ref f4) = true)
    (a5 : PySem.W.nsIn K mainGlobals "_law_one_of" = some (some (.ref f5)))
    (l5 : K.lookup f5 = some ⟨oc5, od5, .func (PySem.W.fnOf "_law_one_of" "_law_one_of" (fnArgs s_one_of) (fnBody s_one_of) (fnScope s_one_of) .none kV5 dc5 pm5 an5 cd5 ct5), sl5⟩)
    (c5 : PySem.W.codeIn K cd5 "_law_one_of" = true)
    (k5 : PySem.W.keepIn K (.ref f5) = true)
    (a6 : PySem.W.nsIn K mainGlobals "_law_word" = some (some (.ref f6)))
    (l6 : K.lookup f6 = some ⟨oc6, od6, .func (PySem.W.fnOf "_law_word" "_law_word" (fnArgs s_word) (fnBody s_word) (fnScope s_word) .none kV6 dc6 pm6 an6 cd6 ct6), sl6⟩)
    (c6 : PySem.W.codeIn K cd6 "_law_word" = true)
    (k6 : PySem.W.keepIn K (.ref f6) = true)
    (a7 : PySem.W.nsIn K mainGlobals "_law_check" = some (some (.ref f7)))
    (l7 : K.lookup f7 = some ⟨oc7, od7, .func (PySem.W.fnOf "_law_check" "_law_check" (fnArgs s_check) (fnBody s_check) (fnScope s_check) .none kV7 dc7 pm7 an7 cd7 ct7), sl7⟩)
    (c7 : PySem.W.codeIn K cd7 "_law_check" = true)
    (k7 : PySem.W.keepIn K (.ref f7) = true)
    (a8 : PySem.W.nsIn K mainGlobals "_law_sum" = some (some (.ref f8)))
    (l8 : K.lookup f8 = some ⟨oc8, od8, .func (PySem.W.fnOf "_law_sum" "_law_sum" (fnArgs s_sum) (fnBody s_sum) (fnScope s_sum) .none kV8 dc8 pm8 an8 cd8 ct8), sl8⟩)
    (c8 : PySem.W.codeIn K cd8 "_law_sum" = true)
    (k8 : PySem.W.keepIn K (.ref f8) = true)
    (a9 : PySem.W.nsIn K mainGlobals "_law_turn" = some (some (.ref f9)))
    (l9 : K.lookup f9 = some ⟨oc9, od9, .func (PySem.W.fnOf "_law_turn" "_law_turn" (fnArgs s_turn) (fnBody s_turn) (fnScope s_turn) .none kV9 dc9 pm9 an9 cd9 ct9), sl9⟩)
    (c9 : PySem.W.codeIn K cd9 "_law_turn" = true)
    (k9 : PySem.W.keepIn K (.ref f9) = true)
    (a10 : PySem.W.nsIn K mainGlobals "law" = some (some (.ref f10)))
    (l10 : K.lookup f10 = some ⟨oc10, od10, .func (PySem.W.fnOf "law" "law" (fnArgs s_law) (fnBody s_law) (fnScope s_law) .none kV10 dc10 pm10 an10 cd10 ct10), sl10⟩)
    (c10 : PySem.W.codeIn K cd10 "law" = true)
    (k10 : PySem.W.keepIn K (.ref f10) = true)
    (aCCheck : PySem.W.nsIn K mainGlobals "Check" = some (some (.ref CCheck)))
    (a11 : PySem.W.findIn K (.ref CCheck) "__init__" = some (some (.ref f11)))
    (i11 : PySem.W.isFn K (.ref f11) = true)
    (l11 : K.lookup f11 = some ⟨oc11, od11, .func (PySem.W.fnOf "__init__" "Check.__init__" (fnArgs s_Check_init) (fnBody s_Check_init) (fnScope s_Check_init) (.ref T11) kV11 dc11 pm11 an11 cd11 ct11), sl11⟩)
    (c11 : PySem.W.codeIn K cd11 "Check.__init__" = true)
    (k11 : PySem.W.keepIn K (.ref f11) = true)
    (d11 : K.lookup T11 = some ⟨cT11, oT11, .seq #[.str "1" u11_0, .none] nT11, sT11⟩)
    (a12 : PySem.W.findIn K (.ref CCheck) "rest" = some (some (.ref f12)))
    (i12 : PySem.W.isFn K (.ref f12) = true)
    (l12 : K.lookup f12 = some ⟨oc12, od12, .func (PySem.W.fnOf "rest" "Check.rest" (fnArgs s_Check_rest) (fnBody s_Check_rest) (fnScope s_Check_rest) .none kV12 dc12 pm12 an12 cd12 ct12), sl12⟩)
    (c12 : PySem.W.codeIn K cd12 "Check.rest" = true)
    (k12 : PySem.W.keepIn K (.ref f12) = true)
    (a13 : PySem.W.findIn K (.ref CCheck) "bits_for" = some (some (.ref f13)))
    (i13 : PySem.W.isFn K (.ref f13) = true)
    (l13 : K.lookup f13 = some ⟨oc13, od13, .func (PySem.W.fnOf "bits_for" "Check.bits_for" (fnArgs s_Check_bits_for) (fnBody s_Check_bits_for) (fnScope s_Check_bits_for) .none kV13 dc13 pm13 an13 cd13 ct13), sl13⟩)
    (c13 : PySem.W.codeIn K cd13 "Check.bits_for" = true)
    (k13 : PySem.W.keepIn K (.ref f13) = true)
    (a14 : PySem.W.findIn K (.ref CCheck) "is_good" = some (some (.ref f14)))
    (i14 : PySem.W.isFn K (.ref f14) = true)
    (l14 : K.lookup f14 = some ⟨oc14, od14, .func (PySem.W.fnOf "is_good" "Check.is_good" (fnArgs s_Check_is_good) (fnBody s_Check_is_good) (fnScope s_Check_is_good) .none kV14 dc14 pm14 an14 cd14 ct14), sl14⟩)
    (c14 : PySem.W.codeIn K cd14 "Check.is_good" = true)
    (k14 : PySem.W.keepIn K (.ref f14) = true)
    (a15 : PySem.W.findIn K (.ref CCheck) "__eq__" = some (some (.ref f15)))
    (i15 : PySem.W.isFn K (.ref f15) = true)
    (l15 : K.lookup f15 = some ⟨oc15, od15, .func (PySem.W.fnOf "__eq__" "Check.__eq__" (fnArgs s_Check_eq) (fnBody s_Check_eq) (fnScope s_Check_eq) .none kV15 dc15 pm15 an15 cd15 ct15), sl15⟩)
    (c15 : PySem.W.codeIn K cd15 "Check.__eq__" = true)
    (k15 : PySem.W.keepIn K (.ref f15) = true)
    (a16 : PySem.W.findIn K (.ref CCheck) "__str__" = some (some (.ref f16)))
    (i16 : PySem.W.isFn K (.ref f16) = true)
    (l16 : K.lookup f16 = some ⟨oc16, od16, .func (PySem.W.fnOf "__str__" "Check.__str__" (fnArgs s_Check_str) (fnBody s_Check_str) (fnScope s_Check_str) .none kV16 dc16 pm16 an16 cd16 ct16), sl16⟩)
    (c16 : PySem.W.codeIn K cd16 "Check.__str__" = true)
    (k16 : PySem.W.keepIn K (.ref f16) = true)
    (a17 : PySem.W.findIn K (.ref CCheck) "degree" = some (some (.ref p17)))
    (q17 : PySem.W.specialIn K (.ref p17) "__get__" = some (some (.builtin "property.__get__")))
    (t17 : PySem.W.takesIn K (.ref p17) = some true)
    (r17 : PySem.W.recIn K p17 "property" = some (.ref f17 :: R17))
    (l17 : K.lookup f17 = some ⟨oc17, od17, .func (PySem.W.fnOf "degree" "Check.degree" (fnArgs s_Check_degree) (fnBody s_Check_degree) (fnScope s_Check_degree) .none kV17 dc17 pm17 an17 cd17 ct17), sl17⟩)
    (c17 : PySem.W.codeIn K cd17 "Check.degree" = true)
    (k17 : PySem.W.keepIn K (.ref f17) = true)
    (a18 : PySem.W.findCls K (.ref CCheck) (.type "type") "read" = some (.get (.builtin "classmethod.__get__") (.ref p18) .none (.ref CCheck)))
    (r18 : PySem.W.recIn K p18 "classmethod" = some (.ref f18 :: R18))
    (i18 : PySem.W.fnIn K f18 = true)
    (l18 : K.lookup f18 = some ⟨oc18, od18, .func (PySem.W.fnOf "read" "Check.read" (fnArgs s_Check_read) (fnBody s_Check_read) (fnScope s_Check_read) .none kV18 dc18 pm18 an18 cd18 ct18), sl18⟩)
    (c18 : PySem.W.codeIn K cd18 "Check.read" = true)
    (k18 : PySem.W.keepIn K (.ref f18) = true)
    (xrd : PySem.W.readsIn K CCheck (.type "type") = true)
    (xga : PySem.W.specialIn K (.ref CCheck) "__getattribute__" = some (some (.builtin "type.__getattribute__")))
    (xhm : PySem.W.mroIn K CCheck (.type "object") = some true)
    (xne : PySem.W.findIn K (.ref CCheck) "__ne__" = some (some (.builtin "object.__ne__")))
    (xha : PySem.W.findIn K (.ref CCheck) "__class__" = some (some (.builtin "object.__class__")))
    (xhn : PySem.W.specialIn K (.builtin "object.__class__") "__get__" = some (some (.builtin "getset_descriptor.__get__")))
    (xht : PySem.W.takesIn K (.builtin "object.__class__") = some true)
    (pgCCheck : PySem.W.plainGet K CCheck Str.empty = true)
    (hdCCheck : PySem.W.hasDictIn K CCheck = true)
    (poCCheck : PySem.W.plainOver K CCheck = true)
    (saCCheck : PySem.W.findIn K (.ref CCheck) "__setattr__" = some (some (.builtin "object.__setattr__")))
    (mkCCheck : PySem.W.makesIn K CCheck = true)
    (kcCCheck : PySem.W.keepIn K (.ref CCheck) = true)
    (nCCheck_poly : PySem.W.findIn K (.ref CCheck) "poly" = some none)
    (nCCheck_start : PySem.W.findIn K (.ref CCheck) "start" = some none)
    (z_len : PySem.W.nsIn K mainGlobals "len" = some none)
    (z_abs : PySem.W.nsIn K mainGlobals "abs" = some none)
    (z_max : PySem.W.nsIn K mainGlobals "max" = some none)
    (z_min : PySem.W.nsIn K mainGlobals "min" = some none)
    (z_int : PySem.W.nsIn K mainGlobals "int" = some none)
    (z_str : PySem.W.nsIn K mainGlobals "str" = some none)
    (z_range : PySem.W.nsIn K mainGlobals "range" = some none)
    (z_zip : PySem.W.nsIn K mainGlobals "zip" = some none)
    (z_enumerate : PySem.W.nsIn K mainGlobals "enumerate" = some none)
    (z_isinstance : PySem.W.nsIn K mainGlobals "isinstance" = some none)
    (z_all : PySem.W.nsIn K mainGlobals "all" = some none)
    (z_any : PySem.W.nsIn K mainGlobals "any" = some none)
    (z_list : PySem.W.nsIn K mainGlobals "list" = some none)
    (z_tuple : PySem.W.nsIn K mainGlobals "tuple" = some none)
    (z_repr : PySem.W.nsIn K mainGlobals "repr" = some none)
    (z_set : PySem.W.nsIn K mainGlobals "set" = some none)
    (z_sorted : PySem.W.nsIn K mainGlobals "sorted" = some none)
    : ∃ fd : FuncData, (∀ (s : Shared) (v : Value), BindsTo s fd ⟨[v], []⟩ [("_law_script", v)]) ∧ ∀ base : Heap, K.In base → base.Ns mainGlobals mg → FnOk l.prog w K mg base CX0 6 fa fd ["_law_script"] (spLaw K) := by
  have e := hfa.symm.trans (PySem.W.mg_of X G a10)
  cases e
  have F1 : C8.Fun K "is_word" "is_word" s_is_word f1 _ := ⟨⟨_, _, _, _, _, _, _, _, _, _, rfl, l1, c1⟩⟩
  have D1 : FunD K "is_word" "is_word" (fnArgs s_is_word) (fnBody s_is_word) (fnScope s_is_word) [V.int 0] [] f1 _ := ⟨⟨_, _, _, _, _, _, _, _, _, _, rfl, l1, c1, .inr ⟨by simp, T1, _, _, _, rfl, d1, rfl, (.cons ⟨_, rfl⟩ .nil)⟩, .inl rfl⟩, k1⟩
  obtain ⟨ds1_1, v1_1, b1_1⟩ := D1.binds1 (ps := ["value", "least"]) 1 0 (by simp) rfl fun _ _ _ _ _ _ _ us its hu hi => match us, its, hu, hi with | [_], [_], _, _ => ⟨_, rfl, rfl⟩
  obtain ⟨ds1_2, v1_2, b1_2⟩ := D1.binds1 (ps := ["value", "least"]) 2 1 (by simp) rfl fun _ _ _ _ _ _ _ us its hu hi => match us, its, hu, hi with | [_, _], [_], _, _ => ⟨_, rfl, rfl⟩
  have g1 : mg "is_word" = some (.ref f1) := PySem.W.mg_of X G a1
  have F2 : C8.Fun K "exchanged" "exchanged" s_exchanged f2 _ := ⟨⟨_, _, _, _, _, _, _, _, _, _, rfl, l2, c2⟩⟩
  have b2 := F2.binds rfl (ps := ["word", "marks"]) fun _ _ _ _ _ _ us hl => match us, hl with | [_, _], _ => rfl
  have g2 : mg "exchanged" = some (.ref f2) := PySem.W.mg_of X G a2
  have F3 : C8.Fun K "_law_seed" "_law_seed" s_seed f3 _ := ⟨⟨_, _, _, _, _, _, _, _, _, _, rfl, l3, c3⟩⟩
  have b3 := F3.binds rfl (ps := ["_law_script", "_law_k"]) fun _ _ _ _ _ _ us hl => match us, hl with | [_, _], _ => rfl
  have g3 : mg "_law_seed" = some (.ref f3) := PySem.W.mg_of X G a3
  have F4 : C8.Fun K "_law_choose" "_law_choose" s_choose f4 _ := ⟨⟨_, _, _, _, _, _, _, _, _, _, rfl, l4, c4⟩⟩
  have b4 := F4.binds rfl (ps := ["_law_box", "_law_many"]) fun _ _ _ _ _ _ us hl => match us, hl with | [_, _], _ => rfl
  have g4 : mg "_law_choose" = some (.ref f4) := PySem.W.mg_of X G a4
  have F5 : C8.Fun K "_law_one_of" "_law_one_of" s_one_of f5 _ := ⟨⟨_, _, _, _, _, _, _, _, _, _, rfl, l5, c5⟩⟩
  have b5 := F5.binds rfl (ps := ["_law_box", "_law_some"]) fun _ _ _ _ _ _ us hl => match us, hl with | [_, _], _ => rfl
  have g5 : mg "_law_one_of" = some (.ref f5) := PySem.W.mg_of X G a5
  have F6 : C8.Fun K "_law_word" "_law_word" s_word f6 _ := ⟨⟨_, _, _, _, _, _, _, _, _, _, rfl, l6, c6⟩⟩
  have b6 := F6.binds rfl (ps := ["_law_box", "_law_size"]) fun _ _ _ _ _ _ us hl => match us, hl with | [_, _], _ => rfl
  have g6 : mg "_law_word" = some (.ref f6) := PySem.W.mg_of X G a6
  have F7 : C8.Fun K "_law_check" "_law_check" s_check f7 _ := ⟨⟨_, _, _, _, _, _, _, _, _, _, rfl, l7, c7⟩⟩
  have b7 := F7.binds rfl (ps := ["_law_box", "_law_most"]) fun _ _ _ _ _ _ us hl => match us, hl with | [_, _], _ => rfl
  have g7 : mg "_law_check" = some (.ref f7) := PySem.W.mg_of X G a7
  have F8 : C8.Fun K "_law_sum" "_law_sum" s_sum f8 _ := ⟨⟨_, _, _, _, _, _, _, _, _, _, rfl, l8, c8⟩⟩
  have b8 := F8.binds rfl (ps := ["_law_one", "_law_mate"]) fun _ _ _ _ _ _ us hl => match us, hl with | [_, _], _ => rfl
  have g8 : mg "_law_sum" = some (.ref f8) := PySem.W.mg_of X G a8
  have F9 : C8.Fun K "_law_turn" "_law_turn" s_turn f9 _ := ⟨⟨_, _, _, _, _, _, _, _, _, _, rfl, l9, c9⟩⟩
  have b9 := F9.binds rfl (ps := ["_law_bit"]) fun _ _ _ _ _ _ us hl => match us, hl with | [_], _ => rfl
  have g9 : mg "_law_turn" = some (.ref f9) := PySem.W.mg_of X G a9
  have F10 : C8.Fun K "law" "law" s_law fa _ := ⟨⟨_, _, _, _, _, _, _, _, _, _, rfl, l10, c10⟩⟩
  have b10 := F10.binds rfl (ps := ["_law_script"]) fun _ _ _ _ _ _ us hl => match us, hl with | [_], _ => rfl
  have g10 : mg "law" = some (.ref fa) := PySem.W.mg_of X G a10
  have F11 : C8.Fun K "__init__" "Check.__init__" s_Check_init f11 _ := ⟨⟨_, _, _, _, _, _, _, _, _, _, rfl, l11, c11⟩⟩
  have D11 : FunD K "__init__" "Check.__init__" (fnArgs s_Check_init) (fnBody s_Check_init) (fnScope s_Check_init) [V.str "1", V.non] [] f11 _ := ⟨⟨_, _, _, _, _, _, _, _, _, _, rfl, l11, c11, .inr ⟨by simp, T11, _, _, _, rfl, d11, rfl, (.cons ⟨_, rfl⟩ (.cons rfl .nil))⟩, .inl rfl⟩, k11⟩
  obtain ⟨ds11_1, v11_1, b11_1⟩ := D11.binds1 (ps := ["self", "poly", "start"]) 1 0 (by simp) rfl fun _ _ _ _ _ _ _ us its hu hi => match us, its, hu, hi with | [_], [_, _], _, _ => ⟨_, rfl, rfl⟩
  obtain ⟨ds11_2, v11_2, b11_2⟩ := D11.binds1 (ps := ["self", "poly", "start"]) 2 1 (by simp) rfl fun _ _ _ _ _ _ _ us its hu hi => match us, its, hu, hi with | [_, _], [_, _], _, _ => ⟨_, rfl, rfl⟩
  obtain ⟨ds11_3, v11_3, b11_3⟩ := D11.binds1 (ps := ["self", "poly", "start"]) 3 2 (by simp) rfl fun _ _ _ _ _ _ _ us its hu hi => match us, its, hu, hi with | [_, _, _], [_, _], _, _ => ⟨_, rfl, rfl⟩
  have F12 : C8.Fun K "rest" "Check.rest" s_Check_rest f12 _ := ⟨⟨_, _, _, _, _, _, _, _, _, _, rfl, l12, c12⟩⟩
  have b12 := F12.binds rfl (ps := ["self", "bits"]) fun _ _ _ _ _ _ us hl => match us, hl with | [_, _], _ => rfl
  have F13 : C8.Fun K "bits_for" "Check.bits_for" s_Check_bits_for f13 _ := ⟨⟨_, _, _, _, _, _, _, _, _, _, rfl, l13, c13⟩⟩
  have b13 := F13.binds rfl (ps := ["self", "data"]) fun _ _ _ _ _ _ us hl => match us, hl with | [_, _], _ => rfl
  have F14 : C8.Fun K "is_good" "Check.is_good" s_Check_is_good f14 _ := ⟨⟨_, _, _, _, _, _, _, _, _, _, rfl, l14, c14⟩⟩
  have b14 := F14.binds rfl (ps := ["self", "message"]) fun _ _ _ _ _ _ us hl => match us, hl with | [_, _], _ => rfl
  have F15 : C8.Fun K "__eq__" "Check.__eq__" s_Check_eq f15 _ := ⟨⟨_, _, _, _, _, _, _, _, _, _, rfl, l15, c15⟩⟩
  have b15 := F15.binds rfl (ps := ["self", "other"]) fun _ _ _ _ _ _ us hl => match us, hl with | [_, _], _ => rfl
  have F16 : C8.Fun K "__str__" "Check.__str__" s_Check_str f16 _ := ⟨⟨_, _, _, _, _, _, _, _, _, _, rfl, l16, c16⟩⟩
  have b16 := F16.binds rfl (ps := ["self"]) fun _ _ _ _ _ _ us hl => match us, hl with | [_], _ => rfl
  have F17 : C8.Fun K "degree" "Check.degree" s_Check_degree f17 _ := ⟨⟨_, _, _, _, _, _, _, _, _, _, rfl, l17, c17⟩⟩
  have b17 := F17.binds rfl (ps := ["self"]) fun _ _ _ _ _ _ us hl => match us, hl with | [_], _ => rfl
  have F18 : C8.Fun K "read" "Check.read" s_Check_read f18 _ := ⟨⟨_, _, _, _, _, _, _, _, _, _, rfl, l18, c18⟩⟩
  have b18 := F18.binds rfl (ps := ["cls", "text"]) fun _ _ _ _ _ _ us hl => match us, hl with | [_, _], _ => rfl
  have clCCheck : Cls K CCheck := ⟨pgCCheck, hdCCheck, poCCheck, saCCheck⟩
  have gCCheck : mg "Check" = some (.ref CCheck) := PySem.W.mg_of X G aCCheck
  have M : Mg mg := ⟨PySem.W.mg_none_of X G z_len, PySem.W.mg_none_of X G z_abs, PySem.W.mg_none_of X G z_max, PySem.W.mg_none_of X G z_min, PySem.W.mg_none_of X G z_int, PySem.W.mg_none_of X G z_str, PySem.W.mg_none_of X G z_range, PySem.W.mg_none_of X G z_zip, PySem.W.mg_none_of X G z_enumerate, PySem.W.mg_none_of X G z_isinstance, PySem.W.mg_none_of X G z_all, PySem.W.mg_none_of X G z_any, PySem.W.mg_none_of X G z_list, PySem.W.mg_none_of X G z_tuple, PySem.W.mg_none_of X G z_repr, PySem.W.mg_none_of X G z_set, PySem.W.mg_none_of X G z_sorted⟩
  refine ⟨PySem.W.fnOf "law" "law" (fnArgs s_law) (fnBody s_law) (fnScope s_law) .none kV10 dc10 pm10 an10 cd10 ct10, fun s v => .of_eq rfl, fun base _ _ => ?_⟩
  have T : CkT K CCheck := ⟨clCCheck, nCCheck_poly, nCCheck_start⟩
  have IC : C8.InsC K CCheck := ⟨clCCheck, xha, xhn, xht, xhm, if_pos (beq_self_eq_true _)⟩
  have c_is_word_2 : Cal l.prog w K mg base 1 "is_word" spIsWord [] := ⟨_, _, _, _, ok_is_word F1 M, g1, k1, b1_2, v1_2⟩
  have c_is_word_1 : Cal l.prog w K mg base 1 "is_word" spIsWord [.int 0] := ⟨_, _, _, _, ok_is_word F1 M, g1, k1, b1_1, v1_1⟩
  have c_exchanged : Cal l.prog w K mg base 1 "exchanged" spExch [] := ⟨_, _, _, _, ok_exchanged F2 M, g2, k2, b2, .nil⟩
  have c_seed : Cal l.prog w K mg base 1 "_law_seed" (spSeed K) [] := ⟨_, _, _, _, ok_seed F3 M, g3, k3, b3, .nil⟩
  have c_choose : Cal l.prog w K mg base 1 "_law_choose" spChoose [] := ⟨_, _, _, _, ok_choose F4 M, g4, k4, b4, .nil⟩
  have c_one_of : Cal l.prog w K mg base 2 "_law_one_of" spOneOf [] := ⟨_, _, _, _, ok_one_of F5 M c_choose, g5, k5, b5, .nil⟩
  have c_word : Cal l.prog w K mg base 3 "_law_word" spWordN [] := ⟨_, _, _, _, ok_word F6 M c_one_of, g6, k6, b6, .nil⟩
  have c_check : Cal l.prog w K mg base 4 "_law_check" spCheck [] := ⟨_, _, _, _, ok_check F7 M c_choose c_word, g7, k7, b7, .nil⟩
  have c_sum : Cal l.prog w K mg base 1 "_law_sum" spExch [] := ⟨_, _, _, _, ok_lsum F8 M, g8, k8, b8, .nil⟩
  have c_turn : Cal l.prog w K mg base 1 "_law_turn" spTurn [] := ⟨_, _, _, _, ok_turn F9 M, g9, k9, b9, .nil⟩
  have OI := ok_init (P := l.prog) (w := w) (base := base) F11 M T c_is_word_2 c_is_word_1
  have k_Check_2 : Mak l.prog w K mg base 2 "Check" CCheck (spInit CCheck) [] := ⟨_, _, _, _, ⟨mkCCheck, a11, i11, kcCCheck⟩, OI, gCCheck, b11_3, v11_3⟩
  have k_Check_1 : Mak l.prog w K mg base 2 "Check" CCheck (spInit CCheck) [.non] := ⟨_, _, _, _, ⟨mkCCheck, a11, i11, kcCCheck⟩, OI, gCCheck, b11_2, v11_2⟩
  have k_Check_0 : Mak l.prog w K mg base 2 "Check" CCheck (spInit CCheck) [.str "1", .non] := ⟨_, _, _, _, ⟨mkCCheck, a11, i11, kcCCheck⟩, OI, gCCheck, b11_1, v11_1⟩
  have m_rest : Met l.prog w K mg base 2 CCheck "rest" (spRest CCheck) [] := ⟨_, _, _, _, clCCheck, ⟨a12, i12, k12⟩, ok_rest F12 M T c_exchanged, b12, .nil⟩
  have p_degree : Prp l.prog w K mg base 1 CCheck "degree" (spDegree CCheck) := ⟨_, _, _, _, clCCheck, ⟨a17, q17, t17, _, r17⟩, ok_degree F17 M T, b17⟩
  have m_bits_for : Met l.prog w K mg base 3 CCheck "bits_for" (spBitsFor CCheck) [] := ⟨_, _, _, _, clCCheck, ⟨a13, i13, k13⟩, ok_bits_for F13 M m_rest p_degree, b13, .nil⟩
  have m_is_good : Met l.prog w K mg base 3 CCheck "is_good" (spGood CCheck) [] := ⟨_, _, _, _, clCCheck, ⟨a14, i14, k14⟩, ok_is_good F14 M m_rest p_degree, b14, .nil⟩
  have e_Check : EqM l.prog w K mg base 1 CCheck (spCkEq CCheck) := ⟨_, _, _, ok_ckeq F15 M T gCCheck IC, a15, i15, b15, xhm, xne⟩
  have t_Check : OneM l.prog w K mg base 3 CCheck "__str__" (spCkStr CCheck) := ⟨_, _, _, ok_ckstr F16 M T p_degree, a16, i16, b16⟩
  have F_read : FnR l.prog w K mg base CX0 4 f18 (spCkRead CCheck) := ((ok_ckread F18 M T c_is_word_2 k_Check_2 k_Check_0).raw b18 .nil).imp fun vs H Q E h => by rw [List.append_nil]; exact h
  exact ok_law F10 M gCCheck c_seed c_choose c_word c_check c_sum c_turn k_Check_2 k_Check_1 p_degree m_rest m_bits_for m_is_good e_Check t_Check ⟨xrd, xga⟩ ⟨a18, ⟨_, r18⟩, i18⟩ F_read
end La
open PySem PySem.W PyProof.Rows
set_option maxHeartbeats 0 in
theorem PySem.Challenge.cw_unseenflips_k17_whole_checks_holds : PySem.Challenge.rw_unseenflips_k17_whole_checks.Holds := by
  w_on; o_law; k_head; (case hw => w_witness2)
  k_fill
  refine L2.walk_of (l := PySem.Challenge.rw_unseenflips_k17_whole_checks) (n := 63) (k := 6) (x := "_law_script") (CX := fun _ => L2.CX0) (sp := fun w => Own.spLaw _) rfl (by decide) rfl ⟨rfl, by decide, by decide⟩ (fun w h Y => PySem.W.kIn_of Y) ?F (fun _ _ a ns hl _ hS => ⟨a, ns, rfl, hS, hl, fun _ => rfl⟩) (fun _ _ _ _ _ h => h)
  case F =>
    intro w mg fa h KX G hmg
    refine' La.all_mk KX G hmg ?a1 ?l1 ?c1 ?k1 ?d1 ?a2 ?l2 ?c2 ?k2 ?a3 ?l3 ?c3 ?k3 ?a4 ?l4 ?c4 ?k4 ?a5 ?l5 ?c5 ?k5 ?a6 ?l6 ?c6 ?k6 ?a7 ?l7 ?c7 ?k7 ?a8 ?l8 ?c8 ?k8 ?a9 ?l9 ?c9 ?k9 ?a10 ?l10 ?c10 ?k10 ?aCCheck ?a11 ?i11 ?l11 ?c11 ?k11 ?d11 ?a12 ?i12 ?l12 ?c12 ?k12 ?a13 ?i13 ?l13 ?c13 ?k13 ?a14 ?i14 ?l14 ?c14 ?k14 ?a15 ?i15 ?l15 ?c15 ?k15 ?a16 ?i16 ?l16 ?c16 ?k16 ?a17 ?q17 ?t17 ?r17 ?l17 ?c17 ?k17 ?a18 ?r18 ?i18 ?l18 ?c18 ?k18 ?xrd ?xga ?xhm ?xne ?xha ?xhn ?xht ?pgCCheck ?hdCCheck ?poCCheck ?saCCheck ?mkCCheck ?kcCCheck ?nCCheck_poly ?nCCheck_start ?z_len ?z_abs ?z_max ?z_min ?z_int ?z_str ?z_range ?z_zip ?z_enumerate ?z_isinstance ?z_all ?z_any ?z_list ?z_tuple ?z_repr ?z_set ?z_sorted
    (case a1 => k_is)
    (case l1 => k_is)
    (case c1 => k_is)
    (case k1 => k_is)
    (case d1 => k_is)
    (case a2 => k_is)
    (case l2 => k_is)
    (case c2 => k_is)
    (case k2 => k_is)
    (case a3 => k_is)
    (case l3 => k_is)
    (case c3 => k_is)
    (case k3 => k_is)
    (case a4 => k_is)
    (case l4 => k_is)
    (case c4 => k_is)
    (case k4 => k_is)
    (case a5 => k_is)
    (case l5 => k_is)
    (case c5 => k_is)
    (case k5 => k_is)
    (case a6 => k_is)
    (case l6 => k_is)
    (case c6 => k_is)
    (case k6 => k_is)
    (case a7 => k_is)
    (case l7 => k_is)
    (case c7 => k_is)
    (case k7 => k_is)
    (case a8 => k_is)
    (case l8 => k_is)
    (case c8 => k_is)
    (case k8 => k_is)
    (case a9 => k_is)
    (case l9 => k_is)
    (case c9 => k_is)
    (case k9 => k_is)
    (case a10 => k_is)
    (case l10 => k_is)
    (case c10 => k_is)
    (case k10 => k_is)
    (case aCCheck => k_is)
    (case a11 => k_is)
    (case i11 => k_is)
    (case l11 => k_is)
    (case c11 => k_is)
    (case k11 => k_is)
    (case d11 => k_is)
    (case a12 => k_is)
    (case i12 => k_is)
    (case l12 => k_is)
    (case c12 => k_is)
    (case k12 => k_is)
    (case a13 => k_is)
    (case i13 => k_is)
    (case l13 => k_is)
    (case c13 => k_is)
    (case k13 => k_is)
    (case a14 => k_is)
    (case i14 => k_is)
    (case l14 => k_is)
    (case c14 => k_is)
    (case k14 => k_is)
    (case a15 => k_is)
    (case i15 => k_is)
    (case l15 => k_is)
    (case c15 => k_is)
    (case k15 => k_is)
    (case a16 => k_is)
    (case i16 => k_is)
    (case l16 => k_is)
    (case c16 => k_is)
    (case k16 => k_is)
    (case a17 => k_is)
    (case q17 => k_is)
    (case t17 => k_is)
    (case r17 => k_is)
    (case l17 => k_is)
    (case c17 => k_is)
    (case k17 => k_is)
    (case a18 => k_is)
    (case r18 => k_is)
    (case i18 => k_is)
    (case l18 => k_is)
    (case c18 => k_is)
    (case k18 => k_is)
    (case xrd => k_is)
    (case xga => k_is)
    (case xhm => k_is)
    (case xne => k_is)
    (case xha => k_is)
    (case xhn => k_is)
    (case xht => k_is)
    (case pgCCheck => k_is)
    (case hdCCheck => k_is)
    (case poCCheck => k_is)
    (case saCCheck => k_is)
    (case mkCCheck => k_is)
    (case kcCCheck => k_is)
    (case nCCheck_poly => k_is)
    (case nCCheck_start => k_is)
    (case z_len => k_is)
    (case z_abs => k_is)
    (case z_max => k_is)
    (case z_min => k_is)
    (case z_int => k_is)
    (case z_str => k_is)
    (case z_range => k_is)
    (case z_zip => k_is)
    (case z_enumerate => k_is)
    (case z_isinstance => k_is)
    (case z_all => k_is)
    (case z_any => k_is)
    (case z_list => k_is)
    (case z_tuple => k_is)
    (case z_repr => k_is)
    (case z_set => k_is)
    (case z_sorted => k_is)

