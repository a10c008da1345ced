import PyProof.Rows.All
import Wide.All
import OpenK.AllK
import Wide.FinOn
import HandS.ForExc
import HandS.Walk
import KE.GoesNew
import HandS.FStr
import HandS.Property
import HandS.IsInst
import HandS.Codes
import HandS.Evl
import HandS.StrMore
import HandS.Defaults
import PyProof.StrBlock2
import HandS.Style
import HandS.SortKw
import HandS.SetKeys
import HandS.Iter
import HandS.TupAny
import KE.DataMinMax
import KE.SortData
import HandS.RaiseMore
import PySem.Challenge.RW_unseenflips_k24_flags_in_bodies
set_option Elab.async false
set_option linter.all false
set_option maxRecDepth 100000
set_option maxHeartbeats 2000000
namespace Own
open PySem PySem.Spec PyProof.Rows L2

/-- n turns that each give a new pair -/
def Itp (n : Nat) (f g : Nat → Option V) : It :=
  ⟨fun i _ => i < n, fun i H v H' => ∃ T x y, v = V.ref T ∧ H T = none ∧ H' = upd H T (.tup [x, y]) ∧ f i = some x ∧ g i = some y, fun i _ => n ≤ i⟩
theorem walk_itp {n : Nat} {f g : Nat → Option V} : Walk (Itp n f g) n (fun _ => True) (YPair f g) :=
  ⟨fun _ _ hi _ => hi, fun _ _ => Nat.le_refl _, fun _ _ _ _ _ _ y => y⟩

theorem turn_pairs {P : Program} {w : World} {K : PySem.W.Frag} {elts : List Expr} {kk : Nat} {tpos : Pos} {it : Addr} {fp wr : List Addr} {n : Nat} {St : Nat → Heap → Prop} {Px Py : Nat → Value → Prop} {f g : Nat → Option V}
    (mem : it ∈ fp) (obj : ∀ i h, St i h → ∀ b ∈ fp, ∃ o, h.get? b = some o ∧ ∀ v, o.data ≠ .cell v)
    (W : ∀ A : Around, A.handled = none → GoesN P w A (.Tuple elts kk tpos) it fp wr n (fun i h₀ v h => ∃ T x y, v = Value.ref T ∧ h₀.objs.size ≤ T ∧ Px i x ∧ Py i y ∧ h.IsTuple T #[x, y]) St)
    (sl : ∀ (A : Around) (i : Nat) (s : Shared) (Q : Value → Shared → Prop) (E : Value → Shared → Prop), St i s.heap → Q (.ref it) s → wpAny (model P w) A (pyIter (.ref it)) Q E s)
    (hx : ∀ i x, Px i x → ∃ v, f i = some v ∧ RelV v x) (hy : ∀ i x, Py i x → ∃ v, g i = some v ∧ RelV v x) :
    Turn P w K (.Tuple elts kk tpos) (Itp n f g) fp it (fun i h => i ≤ n ∧ St i h) where
  mem := mem
  obj := fun i h st => obj i h st.2
  keep := fun i h h' st k => ⟨st.1, (W ({} : Around) rfl).frame i h h' st.2 k⟩
  item := by
    intro X hP hw hK hc i pins s σ H E I hf st hg
    subst hP hw hK
    have hd := I.ok.hd hc
    refine wpAny_mono ((W X.A hd).goes i s (fun u s2 => ∃ x H', Inv X pins σ H' s2 ∧ RelV x u ∧ (Itp n f g).yld i H x H' ∧ (i + 1 ≤ n ∧ St (i + 1) s2.heap) ∧ ∀ b ∈ fp, H' b = none) E hg st.2 fun v h' tk hY st' hk htk => ?_) (fun r s1 q => q) fun _ _ q => q
    obtain ⟨T, x, y, ev, hT, px, py, isT⟩ := hY
    obtain ⟨vx, fx, rx⟩ := hx i x px
    obtain ⟨vy, gy, ry⟩ := hy i y py
    obtain ⟨oT, gT, cT, nT, dT⟩ := isT
    have new : ObjOk X.prog X.w (upd H T (.tup [vx, vy])) h' T (.tup [vx, vy]) :=
      ⟨by show 2 ≤ sizeLine; decide, [x, y], .cons rx (.cons ry .nil), ⟨oT, gT, cT, nT, dT⟩⟩
    have I1 := I.turnedNew (t' := tk) (ch := wr) hk (fun b hb => hf b ((W X.A hd).sub b hb)) hT new
    refine ⟨.ref T, _, I1, ev ▸ rfl, ⟨T, vx, vy, rfl, I.hok.fresh hT, rfl, fx, gy⟩, ⟨hg, st'⟩, fun b hb => ?_⟩
    obtain ⟨o, eo, _⟩ := obj i _ st.2 b hb
    rw [upd_ne (Nat.ne_of_lt (Nat.lt_of_lt_of_le (Heap.lt_size eo) hT))]
    exact (hf b hb).1
  done := by
    intro X hP hw hK hc i pins s σ H E I hf st hg
    subst hP hw hK
    have hd := I.ok.hd hc
    have ei : i = n := Nat.le_antisymm st.1 hg
    subst ei
    exact (W X.A hd).stops s (fun s1 => Inv X pins σ H s1) E st.2 fun h' tk hk htk => I.turnedL (t' := tk) (ch := wr) hk fun b hb => hf b ((W X.A hd).sub b hb)
  self := fun A i s Q E st h => sl A i s Q E st.2 h


/-- the signs of a text, one by one -/
def sgn (z : Str) (i : Nat) : Option V := z.cps[i]?.map fun c => V.str ⟨#[c]⟩

theorem iter_str_obj {h : Heap} {it : Addr} {T : String} {z : Str} {t : Tok} {i : Nat} (q : h.IsStrIter it T z t i) : ∃ o, h.get? it = some o ∧ ∀ v, o.data ≠ .cell v := by
  obtain ⟨o, g, _, d⟩ := q
  exact ⟨o, g, fun v e => by rw [d] at e; cases e⟩

def iZipS (ta : TA) : TI := fun σ H R => ta σ H fun vs H1 => ∃ x y : Str, vs = [V.str x, V.str y] ∧ R (Itp (min x.cps.size y.cps.size) (sgn x) (sgn y)) H1
/-- for a, b in zip(text, text) -/
theorem pi_zipS {X : Cx} {e1 e2 : Expr} {ta : TA} {np cp tp : Pos} {elts : List Expr} {kk : Nat} (hg : Gl X "zip") (hm : X.mg "zip" = none) (ha : PA X [e1, e2] ta)
    (se : starEach [e1, e2] X.env = (false, eval e1 X.env) :: starEach [e2] X.env := by rfl) (pl : (backTo cp (starEach [e2] X.env)).any (·.1) = false := by rfl) :
    PI X (.Tuple elts kk tp) (.Call (.Name "zip" np) [e1, e2] [] cp) (iZipS ta) := by
  constructor
  intro pins s σ H R I h
  refine Call_ (ld_blt I hg hm PyProof.Rows.boot_zip (PyProof.Rows.callWith_type1 (thn (ha.run cp pins s σ H _ I h) ?_) se pl))
  rintro us s1 ⟨vs, H1, I1, r1, x, y, rfl, q⟩
  match us, r1 with
  | [u1, u2], .cons ra (.cons rb .nil) =>
    obtain ⟨t1, rfl⟩ := ra
    obtain ⟨t2, rfl⟩ := rb
    refine zip_begins2 (begins_text x t1) (begins_text y t2) trivial trivial fun h' hz hTI hTO h1 h2 hsz hk => wpAny_pyIter_zip hz ?_
    have I2 : Inv X pins σ H1 { s1 with heap := h' } := I1.kept (t' := s1.toks) hk
    have S := zip_sep2 (N := s1.heap.objs.size) (fp1 := []) (fp2 := []) (fun b hb => nomatch hb) (fun b hb => nomatch hb)
    refine ⟨s1.heap.objs.size + 4, _, _, Itp (min x.cps.size y.cps.size) (sgn x) (sgn y), H1, rfl, I2,
      turn_pairs (Px := fun i v => ∃ c u, x.cps[i]? = some c ∧ v = Value.str ⟨#[c]⟩ u) (Py := fun i v => ∃ c u, y.cps[i]? = some c ∧ v = Value.str ⟨#[c]⟩ u) (St := fun i h => IsZip h (s1.heap.objs.size + 4) (s1.heap.objs.size + 2) (s1.heap.objs.size + 3) .none ∧ IsTupOf2 h (s1.heap.objs.size + 2) (.ref s1.heap.objs.size) (.ref (s1.heap.objs.size + 1)) ∧ (∃ a1 a2, IsTupOf2 h (s1.heap.objs.size + 3) a1 a2) ∧ h.IsStrIter s1.heap.objs.size (strIterType x) x t1 i ∧ h.IsStrIter (s1.heap.objs.size + 1) (strIterType y) y t2 i)
        List.mem_cons_self (fun i h st b hb => ?_) (fun A hd => GoesN.zip2 S (Draws.text (show A.in1.handled = none from hd) _ x t1) (Draws.text (show A.in1.handled = none from hd) _ y t2)) (fun A i s Q E st h => wpAny_pyIter_zip st.1 h) (fun i v ⟨c, u, hc, ev⟩ => ⟨.str ⟨#[c]⟩, by unfold sgn; rw [hc]; rfl, ev ▸ ⟨_, rfl⟩⟩) (fun i v ⟨c, u, hc, ev⟩ => ⟨.str ⟨#[c]⟩, by unfold sgn; rw [hc]; rfl, ev ▸ ⟨_, rfl⟩⟩),
      ⟨Nat.zero_le _, hz, hTI, ⟨_, _, hTO⟩, ⟨_, h1, rfl, rfl⟩, ⟨_, h2, rfl, rfl⟩⟩, fun c hcm => ?_, q⟩
    · obtain ⟨gz, gT, ⟨a1, a2, gO⟩, g1, g2⟩ := st
      have e' : b = s1.heap.objs.size + 4 ∨ b = s1.heap.objs.size + 2 ∨ b = s1.heap.objs.size + 3 ∨ b = s1.heap.objs.size ∨ b = s1.heap.objs.size + 1 := by simpa using hb
      rcases e' with rfl | rfl | rfl | rfl | rfl
      · exact ⟨_, gz, fun v z => nomatch z⟩
      · exact ⟨_, gT, fun v z => nomatch z⟩
      · exact ⟨_, gO, fun v z => nomatch z⟩
      · exact iter_str_obj g1
      · exact iter_str_obj g2
    · have e' : c = s1.heap.objs.size + 4 ∨ c = s1.heap.objs.size + 2 ∨ c = s1.heap.objs.size + 3 ∨ c = s1.heap.objs.size ∨ c = s1.heap.objs.size + 1 := by simpa using hcm
      have hle : s1.heap.objs.size ≤ c := by
        rcases e' with z | z | z | z | z <;> rw [z] <;> first | exact Nat.le_add_right _ _ | exact Nat.le_refl _
      exact I1.fpOk hle (I1.hok.fresh hle)

def iEnumS (ta : TA) : TI := fun σ H R => ta σ H fun vs H1 => ∃ x : Str, vs = [V.str x] ∧ R (Itp x.cps.size (fun i => some (.int (i : Nat))) (sgn x)) H1
/-- for i, a in enumerate(text) -/
theorem pi_enumS {X : Cx} {e1 : Expr} {ta : TA} {np cp tp : Pos} {elts : List Expr} {kk : Nat} (hg : Gl X "enumerate") (hm : X.mg "enumerate" = none) (ha : PA X [e1] ta)
    (se : starEach [e1] X.env = (false, eval e1 X.env) :: starEach [] X.env := by rfl) (pl : (backTo cp (starEach [] X.env)).any (·.1) = false := by rfl) :
    PI X (.Tuple elts kk tp) (.Call (.Name "enumerate" np) [e1] [] cp) (iEnumS ta) := by
  constructor
  intro pins s σ H R I h
  refine Call_ (ld_blt I hg hm PyProof.Rows.boot_enumerate (PyProof.Rows.callWith_type1 (thn (ha.run cp pins s σ H _ I h) ?_) se pl))
  rintro us s1 ⟨vs, H1, I1, r1, x, rfl, q⟩
  match us, r1 with
  | [u1], .cons ra .nil =>
    obtain ⟨t1, rfl⟩ := ra
    refine call_enumerate_str fun h' he hit hsz hk => wpAny_pyIter_enum he ?_
    have I2 : Inv X pins σ H1 { s1 with heap := h' } := I1.kept (t' := s1.toks) hk
    refine ⟨s1.heap.objs.size + 1, _, _, Itp x.cps.size (fun i => some (.int (i : Nat))) (sgn x), H1, rfl, I2,
      turn_pairs (Px := fun i v => ∃ t, v = Value.int ((0 : Int) + (i : Int)) t) (Py := fun i v => ∃ c u, x.cps[i]? = some c ∧ v = Value.str ⟨#[c]⟩ u) (St := fun i h => (∃ old, IsEnum h (s1.heap.objs.size + 1) s1.heap.objs.size ((0 : Int) + (i : Int)) old) ∧ h.IsStrIter s1.heap.objs.size (strIterType x) x t1 i)
        List.mem_cons_self (fun i h st b hb => ?_)
        (fun A hd => (GoesN.enumFrom 0 (Draws.text (show A.in1.handled = none from hd) s1.heap.objs.size x t1) (s1.heap.objs.size + 1) (Nat.succ_ne_self _) (by simp) (by simp)).mono fun i h₀ v h _ ⟨T, t, z, ev, hn, hz, hT⟩ => ⟨T, _, z, ev, hn, ⟨t, rfl⟩, hz, hT⟩)
        (fun A i s Q E st h => by
          obtain ⟨⟨old, gz⟩, _⟩ := st
          exact wpAny_pyIter_enum gz h)
        (fun i v ⟨t, ev⟩ => ⟨.int (i : Nat), rfl, by rw [ev, Int.zero_add]; exact ⟨_, rfl⟩⟩) (fun i v ⟨c, u, hc, ev⟩ => ⟨.str ⟨#[c]⟩, by unfold sgn; rw [hc]; rfl, ev ▸ ⟨_, rfl⟩⟩),
      ⟨Nat.zero_le _, ⟨_, he⟩, hit⟩, fun c hcm => ?_, q⟩
    · obtain ⟨⟨old, gz⟩, g1⟩ := st
      have e' : b = s1.heap.objs.size + 1 ∨ b = s1.heap.objs.size := by simpa using hb
      rcases e' with rfl | rfl
      · exact ⟨_, gz, fun v z => nomatch z⟩
      · exact iter_str_obj g1
    · have e' : c = s1.heap.objs.size + 1 ∨ c = s1.heap.objs.size := by simpa using hcm
      have hle : s1.heap.objs.size ≤ c := by
        rcases e' with z | z <;> rw [z] <;> first | exact Nat.le_add_right _ _ | exact Nat.le_refl _
      exact I1.fpOk hle (I1.hok.fresh hle)
end Own

set_option Elab.async false
set_option linter.all false
set_option maxRecDepth 100000
set_option maxHeartbeats 2000000
namespace Own
open PySem PySem.Spec PyProof.Rows L2
open C8 (Cal Mak Met pe_c pe_mk pe_mt pe_mt0 Def fnArgs fnBody fnScope fn0 fnScope_by)

/-! ### words of bits -/
def cd (b : Bool) : Nat := if b then 49 else 48
def WS (w : List Bool) : Str := SX.S (w.map cd)
theorem WS_len (w : List Bool) : (WS w).length = w.length := by unfold WS; rw [SX.S_len, List.length_map]
theorem WS_cat (a b : List Bool) : WS a ++ WS b = WS (a ++ b) := by unfold WS; rw [SX.S_cat, List.map_append]
theorem cd_inj {a b : Bool} (h : cd a = cd b) : a = b := by cases a <;> cases b <;> first | rfl | (exact absurd h (by decide))
theorem map_cd_inj : ∀ {a b : List Bool}, a.map cd = b.map cd → a = b
  | [], [], _ => rfl
  | [], _ :: _, h => by simp at h
  | _ :: _, [], h => by simp at h
  | x :: a, y :: b, h => by
    rw [List.map_cons, List.map_cons] at h
    injection h with h1 h2
    rw [cd_inj h1, map_cd_inj h2]
theorem WS_inj {a b : List Bool} (h : WS a = WS b) : a = b := map_cd_inj (SX.S_inj h)
theorem WS_eq {a b : List Bool} : (WS a = WS b) ↔ a = b := ⟨WS_inj, fun h => by rw [h]⟩
theorem WS_nil : WS [] = ("" : Str) := rfl
theorem WS_0 : WS [false] = ("0" : Str) := by decide +kernel
theorem WS_1 : WS [true] = ("1" : Str) := by decide +kernel
theorem WS_one (b : Bool) : WS [b] = ⟨#[cd b]⟩ := rfl
theorem WS_size (w : List Bool) : (WS w).cps.size = w.length := by
  show (w.map cd).toArray.size = w.length
  simp
theorem WS_get (w : List Bool) (i : Nat) : (WS w).cps[i]? = (w[i]?).map cd := by
  show (w.map cd).toArray[i]? = _
  simp
theorem sgn_WS (w : List Bool) (i : Nat) : sgn (WS w) i = (w[i]?).map fun b => V.str (WS [b]) := by
  unfold sgn
  rw [WS_get]
  cases w[i]? <;> rfl

/-! ### builtins that the module does not hide -/
structure Mg (mg : Str → Option Value) : Prop where
  len : mg "len" = none
  abs : mg "abs" = none
  max : mg "max" = none
  min : mg "min" = none
  int : mg "int" = none
  str : mg "str" = none
  range : mg "range" = none
  zip : mg "zip" = none
  enumerate : mg "enumerate" = none
  isinstance : mg "isinstance" = none
  all : mg "all" = none
  any : mg "any" = none
  list : mg "list" = none
  tuple : mg "tuple" = none
  repr : mg "repr" = none
  set : mg "set" = none
  sorted : mg "sorted" = none

/-! ### more rules -/
theorem op_mul_str {X : Cx} : OpR X (binaryOp .Mult) (fun x y H Q => ∃ (z : Str) (n : Int), x = .str z ∧ y = .int n ∧ MulOk z n ∧ Q (.str (Txt.mul z n)) H) := by
  intro pins s σ H x y v u Q I rx ry h
  obtain ⟨z, n, rfl, rfl, hk, q⟩ := h
  obtain ⟨t1, rfl⟩ := rx
  obtain ⟨t2, rfl⟩ := ry
  exact SB.mul hk fun t' k => ⟨.str (Txt.mul z n), H, I.tok _, ⟨_, rfl⟩, q⟩

section
variable {P : Program} {w : World} {K : PySem.W.Frag} {mg : Str → Option Value} {base : Heap}
/-- a property that may be read off the instances of the class at C -/
structure Prp (P : Program) (w : World) (K : PySem.W.Frag) (mg : Str → Option Value) (base : Heap) (k : Nat) (C : Addr) (m : Str) (sp : Sp) : Prop where
  ex : ∃ (p g : Addr) (fd : FuncData) (ps : List Str), Cls K C ∧ PropOf K C m p g ∧ FnOk P w K mg base CX0 k g fd ps sp ∧ Binds K fd ps []
end
section
variable {X : Cx} {k j : Nat} {C : Addr} {x m : Str} {sp : Sp} {dvs : List V} {p pos apos : Pos} {e o : Expr} {es : List Expr} {ta : TE} {t : TA}
theorem pe_p (c : Prp X.prog X.w X.K X.mg X.base k C m sp) (hr : Room j X.A) (hk : k + 1 ≤ j) (he : PE X o ta) (hab : attributeBase o m X.env (eval o X.env) = eval o X.env) :
    PE X (.Attribute o m pos) (tProp C sp [] E0 ta) := by
  obtain ⟨pp, g, fd, ps, hc, hp, F, b⟩ := c.ex
  exact pe_prop he hc hp F (hr.mono hk) b .nil pass0 hab
theorem pe_mk0 (c : Mak X.prog X.w X.K X.mg X.base k x C sp dvs) (hr : Room j X.A) (hk : k + 1 ≤ j) (hg : Gl X x) (hdb : (x == ("__debug__" : Str)) = false := by decide) : PE X (.Call (.Name x p) [] [] pos) (tMake C sp dvs E0 tNil) := by
  obtain ⟨f, fd, ps, ds, M, F, hm, b, d⟩ := c.ex
  exact pe_make0 M F (hr.mono hk) hg hm b d pass0 hdb
end

/-! ### the box of the draws -/
theorem mod_box (x : Int) : 1 ≤ x % 2147483629 + 1 ∧ x % 2147483629 + 1 ≤ 2147483629 := by
  have := Int.emod_nonneg x (show (2147483629 : Int) ≠ 0 by decide)
  have := Int.emod_lt_of_pos x (show (0 : Int) < 2147483629 by decide)
  omega
theorem mod_in (x : Int) {m : Int} (h : 0 < m) : 0 ≤ x % m ∧ x % m < m := ⟨Int.emod_nonneg x (by omega), Int.emod_lt_of_pos x h⟩
theorem atI0 {x : V} {r : List V} : atI (x :: r) 0 = some x := atI_nat (j := 0) rfl
theorem atI1 {x y : V} {r : List V} : atI (x :: y :: r) 1 = some y := atI_nat (j := 1) rfl
def BoxAt (H : Hp) (b : Addr) : Prop := ∃ c d : Int, H b = some (.lst [.int c, .int d]) ∧ 0 ≤ c ∧ 1 ≤ d ∧ d ≤ 2147483629
/-- all but what stands at b is as it was -/
def Off (b : Addr) (H H' : Hp) : Prop := ∀ a o, H a = some o → a ≠ b → H' a = some o
theorem Off.refl (b : Addr) (H : Hp) : Off b H H := fun _ _ h _ => h
theorem Off.trans {b : Addr} {H H1 H2 : Hp} (x : Off b H H1) (y : Off b H1 H2) : Off b H H2 := fun a o h n => y a o (x a o h n) n
theorem off_of {H H' : Hp} {b : Addr} (s : Same H H') : Off b H H' := fun a o h _ => s a o h
theorem Off.set {b : Addr} {H : Hp} {o : HO} : Off b H (upd H b o) := fun a u h n => by rw [upd_ne n]; exact h
theorem same_new {H : Hp} {p : Addr} {o : HO} (h : H p = none) : Same H (upd H p o) := fun b x e => by
  rw [upd_ne (ne_of_none e h)]
  exact e
theorem BoxAt.same {H H' : Hp} {b : Addr} (s : Same H H') (h : BoxAt H b) : BoxAt H' b := by
  obtain ⟨c, d, e, r⟩ := h
  exact ⟨c, d, s _ _ e, r⟩
theorem BoxAt.ne_tup {H : Hp} {b a : Addr} {xs : List V} (h : BoxAt H b) (e : H a = some (.tup xs)) : a ≠ b := by
  obtain ⟨c, d, e2, _⟩ := h
  exact ne_of e e2 (by intro z; cases z)
theorem BoxAt.ne_ins {H : Hp} {b a C dx : Addr} {fs : List (Str × V)} (h : BoxAt H b) (e : H a = some (.ins C dx fs)) : a ≠ b := by
  obtain ⟨c, d, e2, _⟩ := h
  exact ne_of e e2 (by intro z; cases z)
theorem BoxAt.ne_new {H : Hp} {b a : Addr} (h : BoxAt H b) (e : H a = none) : a ≠ b := by
  obtain ⟨c, d, e2, _⟩ := h
  exact (ne_of_none e2 e).symm

/-! ### promises of the law's own draws -/
def spSeed (K : PySem.W.Frag) : Sp := fun vs H Q _ => ∃ (a : Addr) (ns : List Int) (k : Int), vs = [.ref a, .int k] ∧ SqL K H a (ns.map V.int) ∧ ns.length ≤ 63 ∧ 0 ≤ k ∧ k ≤ 100 ∧ ∀ p H', H p = none → BoxAt H' p → Same H H' → Q (.ref p) H'
def spChoose : Sp := fun vs H Q _ => ∃ (b : Addr) (m : Int), vs = [.ref b, .int m] ∧ BoxAt H b ∧ 1 ≤ m ∧ m ≤ 100000 ∧ ∀ r H', 0 ≤ r → r < m → BoxAt H' b → Off b H H' → Q (.int r) H'
def spOneOf : Sp := fun vs H Q _ => ∃ (b l : Addr) (xs : List V), vs = [.ref b, .ref l] ∧ BoxAt H b ∧ H l = some (.lst xs) ∧ l ≠ b ∧ xs ≠ [] ∧ xs.length ≤ 1000 ∧ ∀ x H', x ∈ xs → BoxAt H' b → Off b H H' → Q x H'
def spWordN : Sp := fun vs H Q _ => ∃ (b : Addr) (n : Int), vs = [.ref b, .int n] ∧ BoxAt H b ∧ 0 ≤ n ∧ n ≤ 1000 ∧ ∀ (z : List Bool) H', (z.length : Int) = n → BoxAt H' b → Off b H H' → Q (.str (WS z)) H'
end Own
namespace Own
open PySem PySem.Spec PyProof.Rows L2
/-- the texts of the bits -/
def bitV (z : List Bool) : List V := z.map fun b => V.str (WS [b])
theorem bit_of {x : V} (h : x ∈ [V.str "0", V.str "1"]) : ∃ b, x = V.str (WS [b]) := by
  rcases List.mem_cons.mp h with e | h
  · exact ⟨false, by rw [e, WS_0]⟩
  · rcases List.mem_cons.mp h with e | h
    · exact ⟨true, by rw [e, WS_1]⟩
    · cases h
theorem joinL_nil : ∀ z : List (List Nat), TL.joinL [] z = z.flatten := by
  intro z
  induction z with
  | nil => rfl
  | cons x r ih =>
    cases r with
    | nil => simp [TL.joinL]
    | cons y r => simp [TL.joinL] at ih ⊢; rw [ih]
theorem join_bits (z : List Bool) : Txt.join "" (z.map fun b => WS [b]) = WS z := by
  have h : (z.map fun b => WS [b]) = (z.map fun b => [cd b]).map SX.S := by rw [List.map_map]; rfl
  rw [h, show ("" : Str) = SX.S [] from rfl, SX.join_S, joinL_nil]
  unfold WS
  congr 1
  clear h
  induction z with
  | nil => rfl
  | cons b r ih =>
    rw [List.map_cons, List.flatten_cons, List.map_cons, ih]
    rfl
theorem join_bits_sz (z : List Bool) (h : z.length ≤ 100000) : ((z.map fun b => WS [b]).map (·.length)).sum + (z.map fun b => WS [b]).length * ("" : Str).length ≤ 16777216 := by
  have h1 : ((z.map fun b => WS [b]).map (·.length)).sum = z.length := by
    induction z with
    | nil => rfl
    | cons b r ih =>
      simp only [List.map_cons, List.sum_cons, WS_len, List.length_cons, List.length_nil]
      rw [ih (by rw [List.length_cons] at h; omega)]
      omega
  rw [h1, show ("" : Str).length = 0 from rfl]
  omega
end Own
namespace Own
open PySem PySem.Spec PyProof.Rows L2
theorem subAt_S (a b : List Nat) (i : Nat) : Builtin.Str.subAt (SX.S a) (SX.S b) i = decide ((a.drop i).take b.length = b) := by
  unfold Builtin.Str.subAt
  have h1 : (SX.S b).length = b.length := SX.S_len b
  rw [h1]
  have h2 : ((SX.S a).cps.extract i (i + b.length)).toList = (a.drop i).take b.length := by
    show (a.toArray.extract i (i + b.length)).toList = _
    simp [List.extract_eq_take_drop]
  have h3 : (SX.S b).cps.toList = b := rfl
  by_cases h : (a.drop i).take b.length = b
  · rw [decide_eq_true h, beq_iff_eq]
    apply Array.toList_inj.mp
    rw [h2, h3, h]
  · rw [decide_eq_false h, beq_eq_false_iff_ne]
    intro e
    apply h
    rw [← h2, e, h3]
theorem take_map_cd {a b : List Bool} {i : Nat} : ((((a.map cd).drop i).take (b.map cd).length = b.map cd)) ↔ ((a.drop i).take b.length = b) := by
  rw [← List.map_drop, List.length_map, ← List.map_take]
  exact ⟨map_cd_inj, fun h => by rw [h]⟩
theorem ends_WS (a b : List Bool) : Txt.endswith (WS a) (WS b) = decide (b <:+ a) := by
  unfold Txt.endswith
  rw [WS_len, WS_len, Nat.zero_add]
  have h1 : Builtin.Str.subAt (WS a) (WS b) (a.length - b.length) = decide ((a.drop (a.length - b.length)).take b.length = b) := by
    unfold WS
    rw [subAt_S]
    exact decide_eq_decide.mpr take_map_cd
  rw [h1]
  by_cases hl : b.length ≤ a.length
  · rw [decide_eq_true hl, Bool.true_and]
    apply decide_eq_decide.mpr
    rw [List.take_of_length_le (by rw [List.length_drop]; omega)]
    constructor
    · intro h
      rw [← h]
      exact List.drop_suffix _ _
    · intro h
      exact (List.suffix_iff_eq_drop.mp h).symm
  · rw [decide_eq_false hl, Bool.false_and]
    symm
    rw [decide_eq_false_iff_not]
    intro h
    exact hl h.length_le
theorem starts_WS (a b : List Bool) : Txt.startswith (WS a) (WS b) = decide (b <+: a) := by
  unfold Txt.startswith
  rw [WS_len, WS_len, Nat.zero_add]
  have h1 : Builtin.Str.subAt (WS a) (WS b) 0 = decide ((a.drop 0).take b.length = b) := by
    unfold WS
    rw [subAt_S]
    exact decide_eq_decide.mpr take_map_cd
  rw [h1, List.drop_zero]
  by_cases hl : b.length ≤ a.length
  · rw [decide_eq_true hl, Bool.true_and]
    apply decide_eq_decide.mpr
    rw [List.prefix_iff_eq_take]
    exact ⟨fun h => h.symm, fun h => h.symm⟩
  · rw [decide_eq_false hl, Bool.false_and]
    symm
    rw [decide_eq_false_iff_not]
    intro h
    exact hl h.length_le
theorem cut_from (w : List Bool) {i : Int} (h : 0 ≤ i) : cutS (WS w) (some i) none = WS (w.drop i.toNat) := by
  rw [C8.cutS_slice]
  unfold WS
  rw [SX.slice_from h, List.map_drop]
theorem cut_to (w : List Bool) {i : Int} (h : 0 ≤ i) : cutS (WS w) none (some i) = WS (w.take i.toNat) := by
  rw [C8.cutS_slice]
  unfold WS
  rw [SX.slice_to h, List.map_take]
theorem foldl_app {α : Type} : ∀ (l : List (Array α)) (acc : Array α), (l.foldl (· ++ ·) acc).toList = acc.toList ++ (l.map (·.toList)).flatten
  | [], acc => by simp
  | x :: l, acc => by rw [List.foldl_cons, foldl_app l]; simp
theorem mul_WS (z : List Bool) {n : Int} (h : 0 ≤ n) : Txt.mul (WS z) n = WS (List.replicate n.toNat z).flatten := by
  unfold Txt.mul
  by_cases h1 : n < 1
  · have e : n = 0 := by omega
    subst e
    rfl
  · rw [if_neg h1]
    by_cases h2 : (n == 1 || (WS z).length == 0) = true
    · rw [if_pos h2]
      rw [Bool.or_eq_true, beq_iff_eq, beq_iff_eq, WS_len] at h2
      rcases h2 with e | e
      · subst e
        show WS z = WS (List.replicate 1 z).flatten
        simp
      · have e : z = [] := List.length_eq_zero_iff.mp e
        subst e
        congr 1
        induction n.toNat with
        | zero => rfl
        | succ k ih => rw [List.replicate_succ, List.flatten_cons, ← ih]; rfl
    · rw [if_neg h2]
      show _ = SX.S _
      have : ∀ a b : Str, a.cps.toList = b.cps.toList → a = b := fun a b h => by
        cases a; cases b; simp at h; rw [h]
      apply this
      rw [foldl_app]
      show [] ++ _ = List.map cd _
      rw [List.nil_append, List.map_replicate]
      generalize n.toNat = k
      induction k with
      | zero => rfl
      | succ k ih => rw [List.replicate_succ, List.replicate_succ, List.flatten_cons, List.flatten_cons, List.map_append, ih]; rfl
theorem flat_rep (k : Nat) (b : Bool) : (List.replicate k [b]).flatten = List.replicate k b := by
  induction k with
  | zero => rfl
  | succ k ih => rw [List.replicate_succ, List.replicate_succ, List.flatten_cons, ih]; rfl
theorem mul_ok (z : List Bool) {n : Int} (h : 0 ≤ n) (hn : n ≤ 1000) (hz : z.length ≤ 1000) : MulOk (WS z) n := by
  refine ⟨?_, ?_, ?_⟩
  · rw [Bool.or_eq_false_iff, decide_eq_false_iff_not, decide_eq_false_iff_not]
    omega
  · intro h1 _
    rw [WS_len]
    have h2 : (2 ^ 63 - 1 : Int) / 1000 ≤ (2 ^ 63 - 1) / n := by
      apply Int.le_ediv_of_mul_le (by omega)
      have : (2 ^ 63 - 1 : Int) / 1000 * n ≤ (2 ^ 63 - 1 : Int) / 1000 * 1000 := Int.mul_le_mul_of_nonneg_left hn (by decide)
      refine Int.le_trans this (by decide)
    have h3 : (1000 : Int) < (2 ^ 63 - 1) / 1000 := by decide
    omega
  · intro h1 _
    rw [WS_len]
    have h2 : z.length * n.toNat ≤ 1000 * 1000 := Nat.mul_le_mul hz (by omega)
    have : ∀ m : Nat, m ≤ 1000000 → Builtin.Str.tooLong m = false := fun m hm => by
      unfold Builtin.Str.tooLong
      rw [decide_eq_false_iff_not]
      have : (1000000 : Nat) < sizeLine := by decide
      omega
    exact this _ (by omega)
end Own
namespace Own
open PySem PySem.Spec PyProof.Rows L2
/-- a polynomial and a start that fit -/
structure Chk (poly st : List Bool) : Prop where
  len : poly.length = st.length + 1
  hd : [true] <+: poly
  lt : [true] <:+ poly
theorem chk_one : Chk [true] [] := ⟨rfl, List.prefix_rfl, List.suffix_rfl⟩
theorem chk_in {inner st : List Bool} (h : st.length = inner.length + 1) : Chk (true :: (inner ++ [true])) st :=
  ⟨by simp [h], ⟨_, rfl⟩, ⟨true :: inner, rfl⟩⟩
def spCheck : Sp := fun vs H Q _ => ∃ (b : Addr) (m : Int), vs = [.ref b, .int m] ∧ BoxAt H b ∧ 0 ≤ m ∧ m ≤ 100 ∧ ∀ (poly st : List Bool) p H', Chk poly st → (st.length : Int) ≤ m → H p = none → H' p = some (.tup [.str (WS poly), .str (WS st)]) → BoxAt H' b → Off b H H' → Q (.ref p) H'
theorem w101 (z : List Bool) : ("1" : Str) ++ WS z ++ "1" = WS (true :: (z ++ [true])) := by
  rw [← WS_1, WS_cat, WS_cat]
  rfl
end Own
namespace Own
open PySem PySem.Spec PyProof.Rows L2
/-! ### promises of the program's defs -/
def spIsWord : Sp := fun vs H Q _ => ∃ (z : List Bool) (n : Int), vs = [.str (WS z), .int n] ∧ z.length ≤ 1000 ∧ ∀ H', Same H H' → Q (.bl (decide (n ≤ (z.length : Int)))) H'
def xorL (a b : List Bool) : List Bool := a.zipWith (· ^^ ·) b
def spExch : Sp := fun vs H Q _ => ∃ (a b : List Bool), vs = [.str (WS a), .str (WS b)] ∧ a.length ≤ 1000 ∧ b.length ≤ 1000 ∧ ∀ H', Same H H' → Q (.str (WS (xorL a b))) H'
theorem ls_len (z : List Bool) (h : z.length ≤ 1000) : (WS z).length ≤ sizeLine := by
  rw [WS_len]
  exact Nat.le_of_lt (small1000 h)
theorem scal_str (a b : Str) : scal (.str a) (.str b) = true := rfl
theorem eqS (a b : List Bool) : decide (V.str (WS a) = V.str (WS b)) = decide (a = b) := by
  apply decide_eq_decide.mpr
  constructor
  · intro h
    injection h with h
    exact WS_inj h
  · intro h
    rw [h]
/-- the class's instances: its fields -/
def ckf (poly st : List Bool) : List (Str × V) := [("poly", .str (WS poly)), ("start", .str (WS st))]
def CkAt (C : Addr) (H : Hp) (p : Addr) (poly st : List Bool) : Prop := ∃ dx, H p = some (.ins C dx (ckf poly st))
theorem CkAt.same {C p : Addr} {H H' : Hp} {poly st : List Bool} (s : Same H H') (h : CkAt C H p poly st) : CkAt C H' p poly st := by
  obtain ⟨dx, e⟩ := h
  exact ⟨dx, s _ _ e⟩
theorem CkAt.off {C p b : Addr} {H H' : Hp} {poly st : List Bool} (hb : BoxAt H b) (o : Off b H H') (h : CkAt C H p poly st) : CkAt C H' p poly st := by
  obtain ⟨dx, e⟩ := h
  exact ⟨dx, o _ _ e (hb.ne_ins e)⟩
theorem ckf_poly (poly st : List Bool) : (ckf poly st).lookup ("poly" : Str) = some (.str (WS poly)) := rfl
theorem ckf_start (poly st : List Bool) : (ckf poly st).lookup ("start" : Str) = some (.str (WS st)) := by
  unfold ckf
  rw [List.lookup_cons, show (("start" : Str) == "poly") = false by decide +kernel]
  rfl
/-- what of the class is known -/
structure CkT (K : PySem.W.Frag) (C : Addr) : Prop where
  cl : Cls K C
  nP : NoAttr K C "poly"
  nS : NoAttr K C "start"
def spInit (C : Addr) : Sp := fun vs H Q _ => ∃ (p dx : Addr) (poly st : List Bool) (sv : V), vs = [.ref p, .str (WS poly), sv] ∧ ((sv = .non ∧ st = List.replicate (poly.length - 1) false) ∨ sv = .str (WS st)) ∧ Chk poly st ∧ st.length ≤ 900 ∧ H p = some (.ins C dx []) ∧
  ∀ H', CkAt C H' p poly st → (∀ a o, H a = some o → a ≠ p → H' a = some o) → Q .non H'
def spDegree (C : Addr) : Sp := fun vs H Q _ => ∃ (p : Addr) (poly st : List Bool), vs = [.ref p] ∧ CkAt C H p poly st ∧ poly.length ≤ 1000 ∧ Q (.int ((poly.length : Int) - 1)) H
/-- one bit more, divided -/
def stepR (marks left : List Bool) (b : Bool) : List Bool := if (left ++ [b]).head? = some true then xorL ((left ++ [b]).drop 1) marks else (left ++ [b]).drop 1
def restR (poly st bits : List Bool) : List Bool := bits.foldl (stepR (poly.drop 1)) st
theorem xorL_len (a b : List Bool) (h : a.length = b.length) : (xorL a b).length = a.length := by
  unfold xorL
  rw [List.length_zipWith, h, Nat.min_self]
theorem stepR_len {marks left : List Bool} {b : Bool} (h : left.length = marks.length) : (stepR marks left b).length = marks.length := by
  unfold stepR
  have : ((left ++ [b]).drop 1).length = marks.length := by simp [h]
  split
  · rw [xorL_len _ _ this, this]
  · exact this
theorem restR_len {poly st : List Bool} (h : poly.length = st.length + 1) : ∀ bits : List Bool, (restR poly st bits).length = st.length := by
  intro bits
  have key : ∀ (bits l : List Bool), l.length = (poly.drop 1).length → (bits.foldl (stepR (poly.drop 1)) l).length = (poly.drop 1).length := by
    intro bits
    induction bits with
    | nil => intro l h; exact h
    | cons b r ih => intro l h; exact ih _ (stepR_len h)
  have := key bits st (by simp [h])
  unfold restR
  rw [this]
  simp [h]
def spRest (C : Addr) : Sp := fun vs H Q _ => ∃ (p : Addr) (poly st bits : List Bool), vs = [.ref p, .str (WS bits)] ∧ CkAt C H p poly st ∧ Chk poly st ∧ st.length ≤ 900 ∧ bits.length ≤ 1000 ∧ ∀ H', Same H H' → Q (.str (WS (restR poly st bits))) H'
end Own
namespace Own
open PySem PySem.Spec PyProof.Rows L2
/-! ### the law's own division -/
def b2n (b : Bool) : Int := if b then 1 else 0
def rowV (l : List Bool) : List V := l.map fun b => V.int (b2n b)
theorem rowV_app (a b : List Bool) : rowV (a ++ b) = rowV a ++ rowV b := by unfold rowV; rw [List.map_append]
theorem rowV_len (a : List Bool) : (rowV a).length = a.length := by unfold rowV; rw [List.length_map]
theorem int_bit (b : Bool) : PySem.intText? (WS [b]) = some (b2n b) := by cases b <;> decide +kernel
theorem str_bit (b : Bool) : (toString (b2n b) : String) = (if b then "1" else "0") := by cases b <;> decide +kernel
theorem add_bits (x y : Bool) : (b2n x + b2n y) % 2 = b2n (x ^^ y) := by cases x <;> cases y <;> decide
theorem row_at {a b : List Bool} {x : Bool} {i : Int} (h : i = (a.length : Int)) : atI (rowV (a ++ x :: b)) i = some (.int (b2n x)) := by
  subst h
  apply atI_nat
  unfold rowV
  rw [List.getElem?_map, List.getElem?_append_right (Nat.le_refl _), Nat.sub_self]
  rfl
theorem row_set {a b : List Bool} {x y : Bool} : (rowV (a ++ x :: b)).set a.length (.int (b2n y)) = rowV (a ++ y :: b) := by
  unfold rowV
  simp [List.set_append]
theorem xorL_snoc {a b : List Bool} {s : Nat} {x y : Bool} (ha : a[s]? = some x) (hb : b[s]? = some y) : xorL (a.take (s + 1)) (b.take (s + 1)) = xorL (a.take s) (b.take s) ++ [x ^^ y] := by
  have h1 : a.take (s + 1) = a.take s ++ [x] := by rw [List.take_add_one, ha]; rfl
  have h2 : b.take (s + 1) = b.take s ++ [y] := by rw [List.take_add_one, hb]; rfl
  have l1 : s < a.length := (List.getElem?_eq_some_iff.mp ha).1
  have l2 : s < b.length := (List.getElem?_eq_some_iff.mp hb).1
  rw [h1, h2]
  unfold xorL
  rw [List.zipWith_append (by rw [List.length_take, List.length_take]; omega)]
  rfl
def spLRest : Sp := fun vs H Q _ => ∃ (t : Addr) (poly st bits : List Bool), vs = [.ref t, .str (WS bits)] ∧ H t = some (.tup [.str (WS poly), .str (WS st)]) ∧ Chk poly st ∧ st.length ≤ 900 ∧ bits.length ≤ 1000 ∧ ∀ H', Same H H' → Q (.str (WS (restR poly st bits))) H'
/-- one step of the division, as the law's row tells it -/
theorem step_true {poly left : List Bool} {b : Bool} (hp : [true] <+: poly) (hl : poly.length = left.length + 1) (h : (left ++ [b]).head? = some true) : xorL (left ++ [b]) poly = false :: stepR (poly.drop 1) left b := by
  obtain ⟨m, rfl⟩ := hp
  unfold stepR
  rw [if_pos h]
  cases e : left ++ [b] with
  | nil => simp at e
  | cons x r =>
    rw [e] at h
    have : x = true := by simpa using h
    subst this
    rfl
theorem step_false {poly left : List Bool} {b : Bool} (h : (left ++ [b]).head? = some false) : left ++ [b] = false :: stepR (poly.drop 1) left b := by
  unfold stepR
  rw [if_neg (by rw [h]; decide)]
  cases e : left ++ [b] with
  | nil => simp at e
  | cons x r =>
    rw [e] at h
    have : x = false := by simpa using h
    subst this
    rfl
end Own
namespace Own
open PySem PySem.Spec PyProof.Rows L2
theorem cutV_from (xs : List V) {n : Nat} (h : n ≤ xs.length) : cutV xs (some (n : Int)) none = xs.drop n := by
  unfold cutV
  rw [show HT.sIx xs.length 0 (some (n : Int)) = min n xs.length from HT.sIx_nat xs.length 0 n, HT.sIx_none, Nat.min_eq_left h]
  exact List.take_of_length_le (by rw [List.length_drop]; exact Nat.le_refl _)
end Own
namespace Own
open PySem PySem.Spec PyProof.Rows L2
theorem ixN_at {n j : Nat} {k : Int} (h : k = (j : Int)) (hj : j < n) : ixN n k = some j := by
  subst h
  unfold ixN
  rw [if_pos (by omega), if_pos (by omega)]
  rfl
end Own
namespace Own
open PySem PySem.Spec PyProof.Rows L2
/-- all but lists are as they were -/
def notL : HO → Prop
  | .lst _ => False
  | _ => True
def Kp (H H' : Hp) : Prop := ∀ a o, H a = some o → notL o → H' a = some o
theorem Kp.refl (H : Hp) : Kp H H := fun _ _ h _ => h
theorem Kp.trans {H H1 H2 : Hp} (x : Kp H H1) (y : Kp H1 H2) : Kp H H2 := fun a o h n => y a o (x a o h n) n
theorem kp_same {H H' : Hp} (s : Same H H') : Kp H H' := fun a o h _ => s a o h
theorem kp_off {b : Addr} {H H' : Hp} (hb : BoxAt H b) (o : Off b H H') : Kp H H' := fun a u h n => o a u h (fun e => by
  obtain ⟨c, d, e2, _⟩ := hb
  rw [e, e2] at h
  cases h
  exact n)
theorem kp_lst {H : Hp} {l : Addr} {xs ys : List V} (h : H l = some (.lst xs)) : Kp H (upd H l (.lst ys)) := fun a u e n => by
  rw [upd_ne (fun q => by rw [q, h] at e; cases e; exact n)]
  exact e
theorem CkAt.kp {C p : Addr} {H H' : Hp} {poly st : List Bool} (k : Kp H H') (h : CkAt C H p poly st) : CkAt C H' p poly st := by
  obtain ⟨dx, e⟩ := h
  exact ⟨dx, k _ _ e trivial⟩
theorem same_off {b : Addr} {H H1 H2 : Hp} (s : Same H H1) (o : Off b H1 H2) (hb : H b = none) : Same H H2 := fun a u h => o a u (s a u h) (ne_of_none h hb)
theorem same_make {H H' : Hp} {x dx : Addr} {o1 o2 : HO} (hx : H x = none) (hdx : H dx = none) (k : ∀ a o, (upd (upd H dx o1) x o2) a = some o → a ≠ x → H' a = some o) : Same H H' := fun a o h => by
  refine k a o ?_ (ne_of_none h hx)
  rw [upd_ne (ne_of_none h hx), upd_ne (ne_of_none h hdx)]
  exact h
def spLaw (K : PySem.W.Frag) : Sp := fun vs H Q _ => ∃ (a : Addr) (ns : List Int), vs = [.ref a] ∧ SqL K H a (ns.map V.int) ∧ ns.length ≤ 63 ∧ ∀ H', Q (.bl true) H'
theorem nofield {poly st : List Bool} {m : Str} (h1 : (m == "poly") = false) (h2 : (m == "start") = false) : (ckf poly st).lookup m = none := by
  unfold ckf
  rw [List.lookup_cons, h1, List.lookup_cons, h2]
  rfl
end Own

set_option Elab.async false
set_option linter.all false
set_option maxRecDepth 100000
set_option maxHeartbeats 2000000
namespace Own
open PySem PySem.Spec PyProof.Rows L2
open C8 (Cal Mak Met pe_c pe_mk pe_mt pe_mt0 Def fnArgs fnBody fnScope fn0 fnScope_by)
theorem call_repr_bl {X : Cx} : CallR X (.builtin "repr") (fun xs H Q => ∃ b, xs = [.bl b] ∧ Q (.str (if b then "True" else "False")) H) := by
  intro pins s σ H xs us Q I r h
  obtain ⟨b, rfl, q⟩ := h
  match us, r with
  | [u], .cons ra .nil =>
    cases (show u = Value.bool b from ra)
    exact PySem.P.repr_of_bool ⟨.str (if b then "True" else "False"), H, I.tok _, ⟨_, rfl⟩, q⟩

/-! ### the rest is linear -/
theorem xor_self (l : List Bool) : xorL l l = List.replicate l.length false := by
  unfold xorL
  induction l with
  | nil => rfl
  | cons x r ih => rw [List.zipWith_cons_cons, ih, List.length_cons, List.replicate_succ]; cases x <;> rfl
theorem xor_zero (l : List Bool) : xorL l (List.replicate l.length false) = l := by
  unfold xorL
  induction l with
  | nil => rfl
  | cons x r ih => rw [List.length_cons, List.replicate_succ, List.zipWith_cons_cons, ih]; cases x <;> rfl
theorem xor_comm (a b : List Bool) : xorL a b = xorL b a := by
  unfold xorL
  induction a generalizing b with
  | nil => cases b <;> rfl
  | cons x r ih =>
    cases b with
    | nil => rfl
    | cons y s => rw [List.zipWith_cons_cons, List.zipWith_cons_cons, ih]; cases x <;> cases y <;> rfl
theorem xor_assoc (a b c : List Bool) : xorL (xorL a b) c = xorL a (xorL b c) := by
  unfold xorL
  induction a generalizing b c with
  | nil => cases b <;> cases c <;> rfl
  | cons x r ih =>
    cases b with
    | nil => cases c <;> rfl
    | cons y s =>
      cases c with
      | nil => rfl
      | cons z t => rw [List.zipWith_cons_cons, List.zipWith_cons_cons, List.zipWith_cons_cons, List.zipWith_cons_cons, ih]; cases x <;> cases y <;> cases z <;> rfl
theorem xor_app {a b c d : List Bool} (h : a.length = b.length) : xorL (a ++ c) (b ++ d) = xorL a b ++ xorL c d := by
  unfold xorL
  exact List.zipWith_append h
theorem xor_eq_zero {a b : List Bool} (h : a.length = b.length) (e : xorL a b = List.replicate a.length false) : a = b := by
  have h1 : xorL (xorL a b) b = a := by
    rw [xor_assoc, xor_self, ← h, xor_zero]
  rw [← h1, e, h, xor_comm, xor_zero]
theorem xor_swap (a b c d : List Bool) : xorL (xorL a b) (xorL c d) = xorL (xorL a c) (xorL b d) := by
  rw [xor_assoc, xor_assoc, ← xor_assoc b c d, xor_comm b c, xor_assoc c b d]
theorem step_lin {m l1 l2 : List Bool} {b1 b2 : Bool} (h1 : l1.length = m.length) (h2 : l2.length = m.length) : stepR m (xorL l1 l2) (b1 ^^ b2) = xorL (stepR m l1 b1) (stepR m l2 b2) := by
  have e : xorL l1 l2 ++ [b1 ^^ b2] = xorL (l1 ++ [b1]) (l2 ++ [b2]) := by
    rw [xor_app (by omega)]
    rfl
  unfold stepR
  rw [e]
  obtain ⟨x, p, hp⟩ : ∃ x p, l1 ++ [b1] = x :: p := by
    cases l1 with
    | nil => exact ⟨b1, [], rfl⟩
    | cons x r => exact ⟨x, r ++ [b1], rfl⟩
  obtain ⟨y, q, hq⟩ : ∃ y q, l2 ++ [b2] = y :: q := by
    cases l2 with
    | nil => exact ⟨b2, [], rfl⟩
    | cons x r => exact ⟨x, r ++ [b2], rfl⟩
  have lp : p.length = m.length := by have := congrArg List.length hp; simp at this; omega
  have lq : q.length = m.length := by have := congrArg List.length hq; simp at this; omega
  have ez : xorL (x :: p) (y :: q) = (x ^^ y) :: xorL p q := rfl
  rw [hp, hq, ez]
  simp only [List.head?_cons, List.drop_succ_cons, List.drop_zero, Option.some.injEq]
  have lz : xorL m m = List.replicate m.length false := xor_self m
  cases x <;> cases y <;> simp only [Bool.false_eq_true, if_false, if_true, Bool.xor_false, Bool.false_xor, Bool.xor_true, Bool.not_false, Bool.not_true]
  · rw [xor_assoc]
  · rw [xor_assoc, xor_assoc, xor_comm q m]
  · rw [xor_swap, lz]
    have : (xorL p q).length = m.length := by rw [xorL_len _ _ (by omega)]; exact lp
    rw [← this, xor_zero]
theorem fold_lin {m : List Bool} : ∀ {w1 w2 l1 l2 : List Bool}, w1.length = w2.length → l1.length = m.length → l2.length = m.length →
    (xorL w1 w2).foldl (stepR m) (xorL l1 l2) = xorL (w1.foldl (stepR m) l1) (w2.foldl (stepR m) l2)
  | [], [], _, _, _, _, _ => rfl
  | a :: w1, b :: w2, l1, l2, h, h1, h2 => by
    have e : xorL (a :: w1) (b :: w2) = (a ^^ b) :: xorL w1 w2 := rfl
    rw [e, List.foldl_cons, List.foldl_cons, List.foldl_cons, step_lin h1 h2]
    exact fold_lin (by simpa using h) (stepR_len h1) (stepR_len h2)
/-- few bits behind zeros go in as they are -/
theorem fold_in {m : List Bool} : ∀ (w l : List Bool), l.length + w.length = m.length → w.foldl (stepR m) (List.replicate w.length false ++ l) = l ++ w
  | [], l, _ => by simp
  | b :: w, l, h => by
    rw [List.foldl_cons]
    have : stepR m (List.replicate (b :: w).length false ++ l) b = List.replicate w.length false ++ (l ++ [b]) := by
      unfold stepR
      rw [List.length_cons, List.replicate_succ]
      simp
    rw [this, fold_in w (l ++ [b]) (by simp at h ⊢; omega)]
    simp
theorem restR_app (poly st a b : List Bool) : restR poly st (a ++ b) = restR poly (restR poly st a) b := by
  unfold restR
  rw [List.foldl_append]
/-- the last bits, as many as the degree, are taken away from what noughts give -/
theorem restR_tail {poly st data w : List Bool} (h : poly.length = st.length + 1) (hw : w.length = st.length) : restR poly st (data ++ w) = xorL (restR poly st (data ++ List.replicate st.length false)) w := by
  rw [restR_app, restR_app]
  have hl : (restR poly st data).length = (poly.drop 1).length := by rw [restR_len h]; simp [h]
  have hm : (poly.drop 1).length = st.length := by simp [h]
  generalize restR poly st data = l at hl
  have e1 : w = xorL (List.replicate st.length false) w := by rw [xor_comm, ← hw, xor_zero]
  have e2 : l = xorL l (List.replicate st.length false) := by
    have : l.length = st.length := by omega
    rw [← this, xor_zero]
  have := fold_lin (m := poly.drop 1) (w1 := List.replicate st.length false) (w2 := w) (l1 := l) (l2 := List.replicate st.length false) (by simp [hw]) hl (by rw [List.length_replicate]; exact hm.symm)
  rw [← e1, ← e2] at this
  unfold restR
  rw [this]
  congr 1
  have := fold_in (m := poly.drop 1) w [] (by simp; omega)
  rw [List.append_nil, List.nil_append, hw] at this
  exact this
def goodB (poly st msg : List Bool) : Bool := decide (st.length ≤ msg.length) && !(decide (true ∈ restR poly st msg))
theorem zero_iff {l : List Bool} : ¬ true ∈ l ↔ l = List.replicate l.length false := by
  constructor
  · intro h
    rw [List.eq_replicate_iff]
    exact ⟨rfl, fun b hb => by cases b; rfl; exact absurd hb h⟩
  · intro h
    rw [h]
    intro hm
    have := List.eq_of_mem_replicate hm
    cases this
def bitsR (poly st data : List Bool) : List Bool := restR poly st (data ++ List.replicate st.length false)
theorem bitsR_len {poly st data : List Bool} (h : poly.length = st.length + 1) : (bitsR poly st data).length = st.length := restR_len h _
/-- these bits, and no others -/
theorem good_iff {poly st data w : List Bool} (h : poly.length = st.length + 1) (hw : w.length = st.length) : goodB poly st (data ++ w) = decide (w = bitsR poly st data) := by
  unfold goodB
  rw [decide_eq_true (by simp; omega), Bool.true_and, ← decide_not]
  apply decide_eq_decide.mpr
  rw [zero_iff, restR_len h, restR_tail h hw]
  have hb := bitsR_len (data := data) h
  constructor
  · intro e
    exact (xor_eq_zero (a := bitsR poly st data) (b := w) (by omega) (by rw [hb]; exact e)).symm
  · intro e
    have := xor_self (bitsR poly st data)
    rw [hb] at this
    rw [e]
    exact this
theorem mem_one (z : List Bool) : (49 ∈ (WS z).cps.toList) ↔ (true ∈ z) := by
  show 49 ∈ (z.map cd) ↔ _
  rw [List.mem_map]
  constructor
  · rintro ⟨b, hb, e⟩
    cases b
    · exact absurd e (by decide)
    · exact hb
  · intro h
    exact ⟨true, h, rfl⟩
def spBitsFor (C : Addr) : Sp := fun vs H Q _ => ∃ (p : Addr) (poly st data : List Bool), vs = [.ref p, .str (WS data)] ∧ CkAt C H p poly st ∧ Chk poly st ∧ st.length ≤ 400 ∧ data.length ≤ 500 ∧ ∀ H', Same H H' → Q (.str (WS (bitsR poly st data))) H'
def spGood (C : Addr) : Sp := fun vs H Q _ => ∃ (p : Addr) (poly st msg : List Bool), vs = [.ref p, .str (WS msg)] ∧ CkAt C H p poly st ∧ Chk poly st ∧ st.length ≤ 400 ∧ msg.length ≤ 900 ∧ ∀ H', Same H H' → Q (.bl (goodB poly st msg)) H'
end Own
namespace Own
open PySem PySem.Spec PyProof.Rows L2
/-! ### all words of a size -/
def two (w : List Bool) : List (List Bool) := [w ++ [false], w ++ [true]]
def wordsL : Nat → List (List Bool)
  | 0 => [[]]
  | n + 1 => (wordsL n).flatMap two
def strV (ws : List (List Bool)) : List V := ws.map fun w => V.str (WS w)
theorem strV_len (ws : List (List Bool)) : (strV ws).length = ws.length := by unfold strV; rw [List.length_map]
theorem strV_app (a b : List (List Bool)) : strV (a ++ b) = strV a ++ strV b := by unfold strV; rw [List.map_append]
theorem wordsL_len : ∀ n, (wordsL n).length = 2 ^ n
  | 0 => rfl
  | n + 1 => by
    unfold wordsL
    rw [List.length_flatMap]
    have : ∀ l : List (List Bool), (l.map fun a => (two a).length).sum = 2 * l.length := by
      intro l
      induction l with
      | nil => rfl
      | cons x r ih =>
        rw [List.map_cons, List.sum_cons, ih, List.length_cons]
        show 2 + 2 * r.length = 2 * (r.length + 1)
        omega
    rw [this, wordsL_len n, Nat.pow_succ]
    omega
theorem mem_wordsL : ∀ {n : Nat} {w : List Bool}, w ∈ wordsL n ↔ w.length = n
  | 0, w => by unfold wordsL; rw [List.mem_singleton, List.length_eq_zero_iff]
  | n + 1, w => by
    unfold wordsL
    rw [List.mem_flatMap]
    constructor
    · rintro ⟨u, hu, hw⟩
      have h1 := mem_wordsL.mp hu
      unfold two at hw
      rcases List.mem_cons.mp hw with e | hw
      · rw [e]; simp [h1]
      · rw [List.mem_singleton] at hw
        rw [hw]; simp [h1]
    · intro h
      have hne : w ≠ [] := by intro e; rw [e] at h; cases h
      refine ⟨w.dropLast, mem_wordsL.mpr (by rw [List.length_dropLast]; omega), ?_⟩
      have e := List.dropLast_concat_getLast hne
      unfold two
      cases hb : w.getLast hne with
      | false => rw [hb] at e; exact List.mem_cons.mpr (.inl e.symm)
      | true => rw [hb] at e; exact List.mem_cons.mpr (.inr (List.mem_singleton.mpr e.symm))
theorem one_good {poly st bits : List Bool} (h : poly.length = st.length + 1) : ∃ r, (wordsL st.length).filter (fun w => goodB poly st (bits ++ w)) = bitsR poly st bits :: r ∧ ∀ w ∈ (wordsL st.length).filter (fun w => goodB poly st (bits ++ w)), w = bitsR poly st bits := by
  have hb := bitsR_len (data := bits) h
  have all : ∀ w ∈ (wordsL st.length).filter (fun w => goodB poly st (bits ++ w)), w = bitsR poly st bits := fun w hw => by
    obtain ⟨h1, h2⟩ := List.mem_filter.mp hw
    rw [good_iff h (mem_wordsL.mp h1)] at h2
    exact of_decide_eq_true h2
  have hin : bitsR poly st bits ∈ (wordsL st.length).filter (fun w => goodB poly st (bits ++ w)) := List.mem_filter.mpr ⟨mem_wordsL.mpr hb, by rw [good_iff h hb]; exact decide_eq_true rfl⟩
  cases e : (wordsL st.length).filter (fun w => goodB poly st (bits ++ w)) with
  | nil => rw [e] at hin; cases hin
  | cons x r =>
    have hx : x = bitsR poly st bits := all x (by rw [e]; exact List.mem_cons_self)
    rw [e] at all
    exact ⟨r, by rw [hx], all⟩
def spWords : Sp := fun vs H Q _ => ∃ (n : Int), vs = [.int n] ∧ 0 ≤ n ∧ n ≤ 6 ∧ ∀ l H', H l = none → H' l = some (.lst (strV (wordsL n.toNat))) → Same H H' → Q (.ref l) H'
def spRight : Sp := fun vs H Q _ => ∃ (t : Addr) (poly st msg : List Bool), vs = [.ref t, .str (WS msg)] ∧ H t = some (.tup [.str (WS poly), .str (WS st)]) ∧ Chk poly st ∧ st.length ≤ 400 ∧ msg.length ≤ 900 ∧ ∀ H', Same H H' → Q (.bl (goodB poly st msg)) H'
def spLBits : Sp := fun vs H Q _ => ∃ (t : Addr) (poly st bits : List Bool), vs = [.ref t, .str (WS bits)] ∧ H t = some (.tup [.str (WS poly), .str (WS st)]) ∧ Chk poly st ∧ st.length ≤ 4 ∧ bits.length ≤ 400 ∧ ∀ H', Same H H' → Q (.str (WS (bitsR poly st bits))) H'
def spTurn : Sp := fun vs H Q _ => ∃ b : Bool, vs = [.str (WS [b])] ∧ Q (.str (WS [!b])) H
end Own
namespace Own
open PySem PySem.Spec PyProof.Rows L2
theorem iteNE {a b : V} {p q : Prop} (h : a ≠ b) (x : p) : if (!decide (a = b)) = true then p else q := by
  rw [decide_eq_false h]
  exact x
theorem str_ne {a b : Str} (h : a ≠ b) : V.str a ≠ V.str b := fun e => h (by injection e)
end Own

set_option Elab.async false
set_option linter.all false
set_option maxRecDepth 100000
set_option maxHeartbeats 2000000
namespace Own
open PySem PySem.Spec PyProof.Rows L2
open C8 (Cal Mak Met pe_c pe_mk pe_mt pe_mt0 Def fnArgs fnBody fnScope fn0 fnScope_by)

/-! ### max(ints, default=0) -/
def rMaxD (K : PySem.W.Frag) : List V → List V → Hp → VK → Prop := fun vs zs H Q => ∃ (a : Addr) (ns : List Int), vs = [V.ref a] ∧ zs = [V.int 0] ∧ SqL K H a (ns.map V.int) ∧ (ns = [] → Q (.int 0) H) ∧ ∀ n r, ns = n :: r → Q (.int (r.foldl max n)) H
theorem dpAll_ints {K : PySem.W.Frag} {H : Hp} : ∀ ns : List Int, DpAll K H (ns.map V.int) (ns.map PyData.int)
  | [] => .nil
  | n :: r => .cons (.int n) (dpAll_ints r)
theorem depth_ints : ∀ ns : List Int, PyData.depthAll (ns.map PyData.int) = 0
  | [] => rfl
  | n :: r => by
    show max (PyData.depth (.int n)) (PyData.depthAll (r.map PyData.int)) = 0
    rw [depth_ints r]
    rfl
theorem cr_maxD {X : Cx} (hc : X.calm = true) (hu : X.A.units + 64 < cLine) : CallRK X (.builtin "max") [Str.ofString "default"] (rMaxD X.K) := by
  intro pins s σ H vs zs us ws Q I r rz h
  obtain ⟨a, ns, rfl, rfl, hs, q0, q1⟩ := h
  match us, r, ws, rz with
  | [u], .cons ra .nil, [d], .cons rd .nil =>
    cases (show u = Value.ref a from ra)
    obtain ⟨t, rfl⟩ := (show ∃ t, d = Value.int 0 t from rd)
    obtain ⟨its, rv, hl, hz⟩ := I.list hs
    obtain ⟨as, hr⟩ := Dp.readsAll I (ns.map PyData.int) _ its (dpAll_ints ns) rv
    refine PySem.W.max_list_default (I.ok.hd hc) hl.isList (by simpa using hr) ?_ (by rw [depth_ints]; omega) (fun e h' tk hk => ?_) (fun y ys i v h' tk bs e hi hv hk => ?_)
    · refine ⟨fun x hx y hy => ?_, fun x hx => ?_⟩
      · obtain ⟨i, _, rfl⟩ := List.mem_map.mp hx
        obtain ⟨j, _, rfl⟩ := List.mem_map.mp hy
        rfl
      · obtain ⟨i, _, rfl⟩ := List.mem_map.mp hx
        intro e
        cases e
    · have e0 : ns = [] := by cases ns <;> first | rfl | cases e
      exact ⟨.int 0, H, I.kept (t' := tk) hk, ⟨_, rfl⟩, q0 e0⟩
    · cases ns with
      | nil => cases e
      | cons n r0 =>
        rw [List.map_cons] at e
        injection e with e1 e2
        subst e1 e2
        rw [PySem.W.maxD_ints] at hv
        cases hv
        exact ⟨.int (r0.foldl max n), H, I.kept (t' := tk) hk, ⟨_, rfl⟩, q1 n r0 rfl⟩

/-! ### pairs of a pattern and a bit -/
abbrev Stf := List Bool × Bool
def PairAt (H : Hp) (v : V) (p : Stf) : Prop := ∃ t, v = V.ref t ∧ H t = some (.tup [.str (WS p.1), .str (WS [p.2])])
def Pairs (H : Hp) : List V → List Stf → Prop
  | [], [] => True
  | v :: vs, p :: ps => PairAt H v p ∧ Pairs H vs ps
  | _, _ => False
theorem PairAt.kp {H H' : Hp} {v : V} {p : Stf} (k : Kp H H') (h : PairAt H v p) : PairAt H' v p := by
  obtain ⟨t, e, h⟩ := h
  exact ⟨t, e, k _ _ h trivial⟩
theorem Pairs.kp {H H' : Hp} (k : Kp H H') : ∀ {vs : List V} {ps : List Stf}, Pairs H vs ps → Pairs H' vs ps
  | [], [], _ => trivial
  | _ :: _, _ :: _, h => ⟨h.1.kp k, Pairs.kp k h.2⟩
  | [], _ :: _, h => h.elim
  | _ :: _, [], h => h.elim
theorem Pairs.len {H : Hp} : ∀ {vs : List V} {ps : List Stf}, Pairs H vs ps → vs.length = ps.length
  | [], [], _ => rfl
  | _ :: _, _ :: _, h => congrArg Nat.succ (Pairs.len h.2)
  | [], _ :: _, h => h.elim
  | _ :: _, [], h => h.elim
theorem Pairs.get {H : Hp} : ∀ {vs : List V} {ps : List Stf} {i : Nat} {v : V}, Pairs H vs ps → vs[i]? = some v → ∃ p, ps[i]? = some p ∧ PairAt H v p
  | v :: vs, p :: ps, 0, _, h, e => ⟨p, rfl, by cases e; exact h.1⟩
  | v :: vs, p :: ps, i + 1, _, h, e => Pairs.get (i := i) h.2 e
  | [], _, _, _, _, e => by cases e
  | _ :: _, [], _, _, h, _ => h.elim
/-- the data of a pair -/
def encP (p : Stf) : PyData := .tuple [.str (WS p.1), .str (WS [p.2])]
/-- the order of the pairs, as sorted has it -/
def sortP (ps : List Stf) : List Stf := ps.mergeSort (PySem.W.dataLe false encP)
theorem dp_pair {K : PySem.W.Frag} {H : Hp} {v : V} {p : Stf} (h : PairAt H v p) : Dp K H v (encP p) := by
  obtain ⟨t, rfl, h⟩ := h
  exact .tup (.inl (.inl h)) (.cons (.str _) (.cons (.str _) .nil))
theorem dpAll_pairs {K : PySem.W.Frag} {H : Hp} : ∀ {vs : List V} {ps : List Stf}, Pairs H vs ps → DpAll K H vs (ps.map encP)
  | [], [], _ => .nil
  | _ :: _, _ :: _, h => .cons (dp_pair h.1) (dpAll_pairs h.2)
  | [], _ :: _, h => h.elim
  | _ :: _, [], h => h.elim
def rSortedP (K : PySem.W.Frag) : List V → Hp → VK → Prop := fun xs H Q => ∃ (l : Addr) (vs : List V) (ps : List Stf), xs = [V.ref l] ∧ SqL K H l vs ∧ Pairs H vs ps ∧ ∀ q vs', H q = none → Pairs H vs' (sortP ps) → Q (.ref q) (upd H q (.lst vs'))
theorem pairs_of {X : Cx} {H : Hp} : ∀ {out : List Value} {ps : List Stf}, PySem.W.EachIs (fun v p => ∃ t, v = Value.ref t ∧ H t = some (.tup [.str (WS p.1), .str (WS [p.2])])) out ps → ∃ vs', Vals vs' out ∧ Pairs H vs' ps
  | _, _, .nil => ⟨[], .nil, trivial⟩
  | _, _, .cons ⟨t, e, h⟩ r => by
    obtain ⟨vs, h1, h2⟩ := pairs_of (X := X) r
    exact ⟨V.ref t :: vs, .cons e h1, ⟨t, rfl, h⟩, h2⟩
theorem each_of {H : Hp} : ∀ {vs : List V} {ps : List Stf} {us : List Value}, Pairs H vs ps → Vals vs us → PySem.W.EachIs (fun v p => ∃ t, v = Value.ref t ∧ H t = some (.tup [.str (WS p.1), .str (WS [p.2])])) us ps
  | [], [], _, _, .nil => .nil
  | _ :: _, _ :: _, _, h, .cons r rs => by
    obtain ⟨⟨t, e, h1⟩, h2⟩ := h
    subst e
    exact .cons ⟨t, r, h1⟩ (each_of h2 rs)
  | [], _ :: _, _, h, _ => h.elim
  | _ :: _, [], _, h, _ => h.elim
theorem cr_sortedP {X : Cx} (hu : X.A.units + 64 < cLine) : CallR X (.builtin "sorted") (rSortedP X.K) := by
  intro pins s σ H xs us Q I r h
  obtain ⟨l, vs, ps, rfl, hs, hp, q⟩ := h
  match us, r with
  | [u], .cons ra .nil =>
    cases (show u = Value.ref l from ra)
    obtain ⟨its, rv, hl, hz⟩ := I.list hs
    obtain ⟨as, hr⟩ := Dp.readsAll I (ps.map encP) _ its (dpAll_pairs hp) rv
    refine PySem.W.sorted_data (enc := encP) (bs := ps) hl.isList (each_of hp rv) (PySem.W.readsAll_each encP hr) ?_ ?_ (by rw [← hp.len]; exact hz) (fun b hb => ?_) (fun out ho eo => ?_)
    · exact PySem.W.AllAlike.of fun b b' => rfl
    · exact .inl fun d hd => by
        obtain ⟨p, _, rfl⟩ := List.mem_map.mp hd
        exact ⟨_, _, rfl⟩
    · have : (encP b).depth = 1 := rfl
      rw [this]
      omega
    · obtain ⟨vs', rv', hp'⟩ := pairs_of (X := X) eo
      obtain ⟨ep, he'⟩ := PyProof.Rows.sortedAll_at s.heap its out.toArray
      have hlen : vs'.length ≤ sizeLine := by
        rw [rv'.length, ho, ← hp.len]
        exact hz
      exact ⟨.ref _, upd H (s.heap.objs.size + 1) (.lst vs'), I.laid (t' := s.toks) (fun _ _ => PyProof.Rows.sortedAll_old) (Nat.le_succ _) ⟨hlen, _, ep, rv', he'⟩, rfl, q _ _ (I.hok.fresh (Nat.le_succ _)) hp'⟩
end Own
namespace Own
open PySem PySem.Spec PyProof.Rows L2
/-! ### what a rule is -/
/-- no other pattern is an end of the i-th one -/
def partedAt (ws : List (List Bool)) (i : Nat) : Bool := (ws.take i ++ ws.drop (i + 1)).all fun o => !(decide (o <:+ ws.getD i []))
/-- the patterns go together: no pattern ends with another one, none occurs twice -/
def partedB (ws : List (List Bool)) : Bool := (List.range ws.length).all (partedAt ws)
/-- the bit behind a line -/
def putL (ps : List Stf) (line : List Bool) : Option Bool := (ps.find? fun p => decide (p.1 <:+ line)).map (·.2)
def longL (ps : List Stf) : Nat := (ps.map fun p => p.1.length).foldl max 0
/-- the line behind a line where a bit is put in -/
def nextL (ps : List Stf) (line : List Bool) (b : Bool) : List Bool := (line ++ [b]).drop ((line ++ [b]).length - longL ps)
/-- bits are put in behind this line n times, then no more -/
def endsIn (ps : List Stf) : Nat → List Bool → Bool
  | 0, line => (putL ps line).isNone
  | n + 1, line => match putL ps line with
    | none => true
    | some b => endsIn ps n (nextL ps line b)
def endsAll (ps : List Stf) : Bool := ps.all fun p => endsIn ps 40 p.1
structure RuleOk (ps : List Stf) : Prop where
  ne : ∀ p ∈ ps, p.1 ≠ []
  len : ∀ p ∈ ps, p.1.length ≤ 20
  few : ps.length ≤ 8
  parted : partedB (ps.map (·.1)) = true
  ends : endsAll ps = true
/-! ### promises -/
def spIsBit : Sp := fun vs H Q _ => ∃ z : List Bool, vs = [.str (WS z)] ∧ z.length ≤ 1000 ∧ ∀ H', Same H H' → Q (.bl (decide (z.length = 1))) H'
def spIsStuff : Sp := fun vs H Q _ => ∃ (v : V) (p : Stf), vs = [v] ∧ PairAt H v p ∧ p.1 ≠ [] ∧ p.1.length ≤ 900 ∧ ∀ H', Same H H' → Q (.bl true) H'
def spOneEnds : Sp := fun vs H Q _ => ∃ (l : Addr) (ws : List (List Bool)), vs = [.ref l] ∧ H l = some (.lst (strV ws)) ∧ ws.length ≤ 100 ∧ ∀ H', Same H H' → Q (.bl (!partedB ws)) H'
/-- a list or a tuple, wherever it stands -/
def SqK (K : PySem.W.Frag) (o : Bool) (H : Hp) (l : Addr) (xs : List V) : Prop := if o = true then SqL K H l xs else SqT K H l xs
theorem SqK.same {K : PySem.W.Frag} {o : Bool} {H H' : Hp} {l : Addr} {xs : List V} (h : SqK K o H l xs) (s : Same H H') : SqK K o H' l xs := by
  cases o with
  | true => exact s.seq (show SqL K H l xs from h)
  | false => exact Evl.ex_t s (show SqT K H l xs from h)
theorem SqK.l {K : PySem.W.Frag} {H : Hp} {l : Addr} {xs : List V} (h : H l = some (.lst xs)) : SqK K true H l xs := show SqL K H l xs from .inl (.inl h)
theorem SqK.t {K : PySem.W.Frag} {H : Hp} {l : Addr} {xs : List V} (h : H l = some (.tup xs)) : SqK K false H l xs := show SqT K H l xs from .inl (.inl h)
theorem SqK.ins {K : PySem.W.Frag} {o : Bool} {H : Hp} {l p C dx : Addr} {g : List (Str × V)} {u : HO} {xs : List V} (h : SqK K o H l xs) (hp : H p = some (.ins C dx g)) : SqK K o (upd H p u) l xs := by
  cases o with
  | true =>
    rcases (show SqL K H l xs from h) with (h | ⟨o, h⟩) | h
    · exact show SqL _ _ _ _ from .inl (.inl (by rw [upd_ne (fun e => by rw [e, hp] at h; cases h)]; exact h))
    · exact show SqL _ _ _ _ from .inl (.inr ⟨o, by rw [upd_ne (fun e => by rw [e, hp] at h; cases h)]; exact h⟩)
    · exact show SqL _ _ _ _ from .inr h
  | false =>
    rcases (show SqT K H l xs from h) with (h | ⟨o, h⟩) | h
    · exact show SqT _ _ _ _ from .inl (.inl (by rw [upd_ne (fun e => by rw [e, hp] at h; cases h)]; exact h))
    · exact show SqT _ _ _ _ from .inl (.inr ⟨o, by rw [upd_ne (fun e => by rw [e, hp] at h; cases h)]; exact h⟩)
    · exact show SqT _ _ _ _ from .inr h
theorem SqK.ty {K : PySem.W.Frag} {o : Bool} {H : Hp} {l : Addr} {xs : List V} (h : SqK K o H l xs) : ∃ t : Value, TyX K H (.ref l) t ∧ PySem.W.kitAny K t [.type "list", .type "tuple"] = some true := by
  cases o with
  | true =>
    rcases (show SqL K H l xs from h) with (h | ⟨o, h⟩) | ⟨o, its, n, h1, h2, h3⟩
    · exact ⟨_, .base (.lst h), rfl⟩
    · exact ⟨_, .base (.frz h), rfl⟩
    · exact ⟨_, .kList h1 h2, rfl⟩
  | false =>
    rcases (show SqT K H l xs from h) with (h | ⟨o, h⟩) | ⟨o, its, n, h1, h2, h3⟩
    · exact ⟨_, .base (.tup h), rfl⟩
    · exact ⟨_, .fTuple h, rfl⟩
    · exact ⟨_, .kTuple h1 h2, rfl⟩
def spStuffs (K : PySem.W.Frag) : Sp := fun vs H Q _ => ∃ (l : Addr) (o : Bool) (xs : List V) (ps : List Stf), vs = [.ref l] ∧ SqK K o H l xs ∧ Pairs H xs ps ∧ RuleOk ps ∧ ∀ H', Same H H' → Q (.bl true) H'
def spLongest (K : PySem.W.Frag) : Sp := fun vs H Q _ => ∃ (l : Addr) (o : Bool) (xs : List V) (ps : List Stf), vs = [.ref l] ∧ SqK K o H l xs ∧ Pairs H xs ps ∧ ps.length ≤ 100 ∧ (∀ p ∈ ps, p.1.length ≤ 900) ∧ ∀ H', Same H H' → Q (.int (longL ps)) H'
def oB : Option Bool → V
  | none => .non
  | some b => .str (WS [b])
def spBehind (K : PySem.W.Frag) : Sp := fun vs H Q _ => ∃ (l : Addr) (o : Bool) (xs : List V) (ps : List Stf) (line : List Bool), vs = [.ref l, .str (WS line)] ∧ SqK K o H l xs ∧ Pairs H xs ps ∧ ∀ H', Same H H' → Q (oB (putL ps line)) H'
def spNever (K : PySem.W.Frag) : Sp := fun vs H Q _ => ∃ (l : Addr) (o : Bool) (xs : List V) (ps : List Stf) (line : List Bool), vs = [.ref l, .str (WS line)] ∧ SqK K o H l xs ∧ Pairs H xs ps ∧ RuleOk ps ∧ line.length ≤ 900 ∧ endsIn ps 40 line = true ∧ ∀ H', Same H H' → Q (.bl false) H'
def spEndless (K : PySem.W.Frag) : Sp := fun vs H Q _ => ∃ (l : Addr) (o : Bool) (xs : List V) (ps : List Stf), vs = [.ref l] ∧ SqK K o H l xs ∧ Pairs H xs ps ∧ RuleOk ps ∧ ∀ H', Same H H' → Q (.bl false) H'
/-- a list or a tuple in slot i, walked -/
def iSeqV (K : PySem.W.Frag) (i : Nat) : TI := fun σ H R => ∃ (a : Addr) (o : Bool) (xs : List V), σ[i]? = some (some (.ref a)) ∧ SqK K o H a xs ∧ ∀ J : It, Walk J xs.length (fun H' => SqK K o H' a xs) (YAt xs) → R J H
theorem pi_seq {X : Cx} {tg e : Expr} {i : Nat} (h1 : PI X tg e (iList X.K (tVar i))) (h2 : PI X tg e (iTup X.K (tVar i))) : PI X tg e (iSeqV X.K i) := by
  constructor
  rintro pins s σ H R I ⟨a, o, xs, hσ, ho, k⟩
  cases o with
  | true => exact h1.run pins s σ H R I ⟨_, hσ, a, rfl, ⟨xs, ho⟩, k _ (walk_list.mono (fun H' h => h) fun _ _ _ _ _ _ y => y)⟩
  | false => exact h2.run pins s σ H R I ⟨_, hσ, a, rfl, ⟨xs, ho⟩, k _ (walk_tup.mono (fun H' h => h) fun _ _ _ _ _ _ y => y)⟩
end Own

namespace Own
open PySem PySem.Spec PyProof.Rows L2
theorem pi_or {X : Cx} {tg e : Expr} {w1 w2 : TI} (h1 : PI X tg e w1) (h2 : PI X tg e w2) : PI X tg e (fun σ H R => w1 σ H R ∨ w2 σ H R) :=
  ⟨fun pins s σ H R I h => h.elim (h1.run pins s σ H R I) (h2.run pins s σ H R I)⟩
theorem putL_none {ps : List Stf} {line : List Bool} (h : ∀ p ∈ ps, ¬ p.1 <:+ line) : putL ps line = none := by
  unfold putL
  rw [List.find?_eq_none.mpr fun p hp => by rw [decide_eq_true_eq]; exact h p hp]
  rfl
theorem putL_at {ps : List Stf} {line : List Bool} {i : Nat} {p : Stf} (hi : ps[i]? = some p) (hp : p.1 <:+ line) (h : ∀ j q, j < i → ps[j]? = some q → ¬ q.1 <:+ line) : putL ps line = some p.2 := by
  unfold putL
  induction ps generalizing i with
  | nil => simp at hi
  | cons x r ih =>
    cases i with
    | zero =>
      cases hi
      simp only [List.find?_cons, decide_eq_true hp]
      rfl
    | succ i =>
      have h0 : ¬ x.1 <:+ line := h 0 x (by omega) rfl
      simp only [List.find?_cons, decide_eq_false h0]
      exact ih (i := i) hi fun j q hj e => h (j + 1) q (by omega) e
theorem cut_neg (w : List Bool) {n : Nat} (h : 0 < n) : cutS (WS w) (some (-(n : Int))) none = WS (w.drop (w.length - n)) := by
  have hl : (WS w).length = w.length := WS_len w
  unfold cutS WS
  rw [show (SX.S (w.map cd)).length = w.length from hl, HT.sIx_none]
  have e : HT.sIx w.length 0 (some (-(n : Int))) = w.length - n := by
    show (if (-(n : Int)) < 0 then ((-(n : Int)) + (w.length : Int)).toNat else min (-(n : Int)).toNat w.length) = w.length - n
    rw [if_pos (by omega)]
    omega
  rw [e]
  show (⟨_⟩ : Str) = ⟨_⟩
  congr 1
  rw [List.take_of_length_le]
  · rw [List.map_drop]
  · rw [List.length_drop]
    show (w.map cd).length - _ ≤ _
    rw [List.length_map]
    exact Nat.le_refl _
end Own

namespace Own
open PySem PySem.Spec PyProof.Rows L2
theorem cutV_to (xs : List V) {n : Nat} : cutV xs none (some (n : Int)) = xs.take n := by
  unfold cutV
  rw [HT.sIx_none, show HT.sIx xs.length xs.length (some (n : Int)) = min n xs.length from HT.sIx_nat xs.length xs.length n, List.drop_zero, Nat.sub_zero]
  by_cases h : n ≤ xs.length
  · rw [Nat.min_eq_left h]
  · rw [Nat.min_eq_right (by omega), List.take_length, List.take_of_length_le (by omega)]
theorem strV_take (ws : List (List Bool)) (n : Nat) : (strV ws).take n = strV (ws.take n) := by unfold strV; rw [List.map_take]
theorem strV_drop (ws : List (List Bool)) (n : Nat) : (strV ws).drop n = strV (ws.drop n) := by unfold strV; rw [List.map_drop]
theorem strV_get {ws : List (List Bool)} {i : Nat} {x : V} (h : (strV ws)[i]? = some x) : ∃ w, ws[i]? = some w ∧ x = .str (WS w) := by
  unfold strV at h
  rw [List.getElem?_map] at h
  obtain ⟨w, hw, e⟩ := Option.map_eq_some_iff.mp h
  exact ⟨w, hw, e.symm⟩
theorem all_take_succ {α : Type} {f : α → Bool} {l : List α} {i : Nat} {x : α} (hx : l[i]? = some x) (h : (l.take i).all f = true) (hf : f x = true) : (l.take (i + 1)).all f = true := by
  rw [List.take_add_one, hx, List.all_append, h]
  show (true && (f x && true)) = true
  rw [hf]
  rfl
theorem all_not {α : Type} {f : α → Bool} {l : List α} {i : Nat} {x : α} (hx : l[i]? = some x) (hf : f x = false) : l.all f = false := by
  rw [List.all_eq_false]
  exact ⟨x, List.mem_of_getElem? hx, by rw [hf]; decide⟩
end Own
namespace Own
open PySem PySem.Spec PyProof.Rows L2
/-! ### where bits are put in no more -/
/-- exactly n bits are put in behind this line -/
def endsAt (ps : List Stf) : Nat → List Bool → Prop
  | 0, u => putL ps u = none
  | n + 1, u => ∃ b, putL ps u = some b ∧ endsAt ps n (nextL ps u b)
theorem endsAt_of : ∀ {n : Nat} {ps : List Stf} {u : List Bool}, endsIn ps n u = true → ∃ m, m ≤ n ∧ endsAt ps m u
  | 0, ps, u, h => ⟨0, Nat.le_refl _, by
      unfold endsIn at h
      exact Option.isNone_iff_eq_none.mp h⟩
  | n + 1, ps, u, h => by
    unfold endsIn at h
    cases e : putL ps u with
    | none => exact ⟨0, Nat.zero_le _, e⟩
    | some b =>
      rw [e] at h
      obtain ⟨m, hm, h2⟩ := endsAt_of h
      exact ⟨m + 1, Nat.succ_le_succ hm, b, e, h2⟩
theorem endsAt_one : ∀ {n m : Nat} {ps : List Stf} {u : List Bool}, endsAt ps n u → endsAt ps m u → n = m
  | 0, 0, _, _, _, _ => rfl
  | 0, m + 1, _, _, h, ⟨b, e, _⟩ => by rw [show putL _ _ = none from h] at e; cases e
  | n + 1, 0, _, _, ⟨b, e, _⟩, h => by rw [show putL _ _ = none from h] at e; cases e
  | n + 1, m + 1, _, _, ⟨b, e, h1⟩, ⟨c, e2, h2⟩ => by
    rw [e] at e2
    cases e2
    rw [endsAt_one h1 h2]
theorem foldl_max_le : ∀ (l : List Nat) (a m : Nat), a ≤ m → (∀ x ∈ l, x ≤ m) → l.foldl max a ≤ m
  | [], a, m, h, _ => h
  | x :: r, a, m, h, k => by
    rw [List.foldl_cons]
    exact foldl_max_le r _ m (Nat.max_le.mpr ⟨h, k x List.mem_cons_self⟩) fun y hy => k y (List.mem_cons_of_mem _ hy)
theorem le_foldl_max : ∀ (l : List Nat) (a : Nat), a ≤ l.foldl max a ∧ ∀ x ∈ l, x ≤ l.foldl max a
  | [], a => ⟨Nat.le_refl _, fun x h => by cases h⟩
  | y :: r, a => by
    obtain ⟨h1, h2⟩ := le_foldl_max r (max a y)
    rw [List.foldl_cons]
    refine ⟨Nat.le_trans (Nat.le_max_left _ _) h1, fun x hx => ?_⟩
    rcases List.mem_cons.mp hx with rfl | hx
    · exact Nat.le_trans (Nat.le_max_right _ _) h1
    · exact h2 x hx
theorem longL_le {ps : List Stf} {m : Nat} (h : ∀ p ∈ ps, p.1.length ≤ m) : longL ps ≤ m :=
  foldl_max_le _ _ _ (Nat.zero_le _) fun x hx => by
    obtain ⟨p, hp, rfl⟩ := List.mem_map.mp hx
    exact h p hp
theorem le_longL {ps : List Stf} {p : Stf} (h : p ∈ ps) : p.1.length ≤ longL ps := (le_foldl_max _ _).2 _ (List.mem_map.mpr ⟨p, h, rfl⟩)
theorem putL_some {ps : List Stf} {u : List Bool} {b : Bool} (h : putL ps u = some b) : ∃ p ∈ ps, p.1 <:+ u ∧ p.2 = b := by
  unfold putL at h
  obtain ⟨p, hp, e⟩ := Option.map_eq_some_iff.mp h
  have h1 : (fun p : Stf => decide (p.1 <:+ u)) p = true := List.find?_some (p := fun p : Stf => decide (p.1 <:+ u)) hp
  exact ⟨p, List.mem_of_find?_eq_some hp, of_decide_eq_true h1, e⟩
theorem longL_pos {ps : List Stf} {u : List Bool} {b : Bool} (ok : ∀ p ∈ ps, p.1 ≠ []) (h : putL ps u = some b) : 0 < longL ps := by
  obtain ⟨p, hp, _⟩ := putL_some h
  exact Nat.lt_of_lt_of_le (List.length_pos_iff.mpr (ok p hp)) (le_longL hp)
theorem nextL_len (ps : List Stf) (u : List Bool) (b : Bool) : (nextL ps u b).length ≤ longL ps := by
  unfold nextL
  rw [List.length_drop]
  omega
/-! ### one pattern at most -/
theorem parted_ne {ws : List (List Bool)} (h : partedB ws = true) {i j : Nat} {a b : List Bool} (hi : ws[i]? = some a) (hj : ws[j]? = some b) (hn : i ≠ j) : ¬ b <:+ a := by
  intro hs
  have hil : i < ws.length := (List.getElem?_eq_some_iff.mp hi).1
  have h1 := List.all_eq_true.mp h i (List.mem_range.mpr hil)
  unfold partedAt at h1
  have hg : ws.getD i [] = a := by rw [List.getD_eq_getElem?_getD, hi]; rfl
  rw [hg] at h1
  have hm : b ∈ ws.take i ++ ws.drop (i + 1) := by
    rw [List.mem_append]
    by_cases hlt : j < i
    · exact .inl (List.mem_of_getElem? (i := j) (by rw [List.getElem?_take_of_lt hlt]; exact hj))
    · exact .inr (List.mem_of_getElem? (i := j - (i + 1)) (by rw [List.getElem?_drop, show i + 1 + (j - (i + 1)) = j by omega]; exact hj))
  have h2 := List.all_eq_true.mp h1 b hm
  rw [decide_eq_true hs] at h2
  cases h2
theorem one_match {ps : List Stf} (h : partedB (ps.map (·.1)) = true) {u : List Bool} {p q : Stf} (hp : p ∈ ps) (hq : q ∈ ps) (h1 : p.1 <:+ u) (h2 : q.1 <:+ u) : p = q := by
  obtain ⟨i, hi⟩ := List.getElem?_of_mem hp
  obtain ⟨j, hj⟩ := List.getElem?_of_mem hq
  by_cases e : i = j
  · subst e
    rw [hi] at hj
    exact Option.some.inj hj
  · have mi : (ps.map (·.1))[i]? = some p.1 := by rw [List.getElem?_map, hi]; rfl
    have mj : (ps.map (·.1))[j]? = some q.1 := by rw [List.getElem?_map, hj]; rfl
    rcases Nat.le_total p.1.length q.1.length with hl | hl
    · exact absurd (List.suffix_of_suffix_length_le h1 h2 hl) (parted_ne h mj mi fun z => e z.symm)
    · exact absurd (List.suffix_of_suffix_length_le h2 h1 hl) (parted_ne h mi mj e)
theorem putL_eq {ps : List Stf} (h : partedB (ps.map (·.1)) = true) {u : List Bool} {p : Stf} (hp : p ∈ ps) (h1 : p.1 <:+ u) : putL ps u = some p.2 := by
  cases e : putL ps u with
  | none =>
    unfold putL at e
    rw [Option.map_eq_none_iff, List.find?_eq_none] at e
    exact absurd (decide_eq_true h1) (e p hp)
  | some b =>
    obtain ⟨q, hq, h2, rfl⟩ := putL_some e
    rw [one_match h hp hq h1 h2]
theorem putL_perm {ps qs : List Stf} (h : partedB (ps.map (·.1)) = true) (pm : qs.Perm ps) (u : List Bool) : putL qs u = putL ps u := by
  cases e : putL qs u with
  | none =>
    symm
    apply putL_none
    intro p hp hs
    unfold putL at e
    rw [Option.map_eq_none_iff, List.find?_eq_none] at e
    exact e p (pm.mem_iff.mpr hp) (decide_eq_true hs)
  | some b =>
    obtain ⟨q, hq, h2, rfl⟩ := putL_some e
    exact (putL_eq h (pm.mem_iff.mp hq) h2).symm
theorem sortP_perm (ps : List Stf) : (sortP ps).Perm ps := List.mergeSort_perm _ _
/-! ### a rule that stands -/
def rlf (flag : List Bool) (t : Addr) : List (Str × V) := [("flag", .str (WS flag)), ("stuffs", .ref t)]
def RlAt (C : Addr) (H : Hp) (p : Addr) (flag : List Bool) (ps : List Stf) : Prop := ∃ dx t xs, H p = some (.ins C dx (rlf flag t)) ∧ H t = some (.tup xs) ∧ Pairs H xs ps
theorem RlAt.kp {C p : Addr} {H H' : Hp} {flag : List Bool} {ps : List Stf} (k : Kp H H') (h : RlAt C H p flag ps) : RlAt C H' p flag ps := by
  obtain ⟨dx, t, xs, h1, h2, h3⟩ := h
  exact ⟨dx, t, xs, k _ _ h1 trivial, k _ _ h2 trivial, h3.kp k⟩
theorem rlf_flag (flag : List Bool) (t : Addr) : (rlf flag t).lookup ("flag" : Str) = some (.str (WS flag)) := rfl
theorem rlf_stuffs (flag : List Bool) (t : Addr) : (rlf flag t).lookup ("stuffs" : Str) = some (.ref t) := by
  unfold rlf
  rw [List.lookup_cons, show (("stuffs" : Str) == "flag") = false by decide +kernel]
  rfl
theorem rlf_no {flag : List Bool} {t : Addr} {m : Str} (h1 : (m == "flag") = false) (h2 : (m == "stuffs") = false) : (rlf flag t).lookup m = none := by
  unfold rlf
  rw [List.lookup_cons, h1, List.lookup_cons, h2]
  rfl
structure RlT (K : PySem.W.Frag) (C : Addr) : Prop where
  cl : Cls K C
  nF : NoAttr K C "flag"
  nS : NoAttr K C "stuffs"
def spRInit (K : PySem.W.Frag) (C : Addr) : Sp := fun vs H Q _ => ∃ (p dx l : Addr) (o : Bool) (flag : List Bool) (xs : List V) (ps : List Stf), vs = [.ref p, .str (WS flag), .ref l] ∧ 2 ≤ flag.length ∧ flag.length ≤ 900 ∧ SqK K o H l xs ∧ Pairs H xs ps ∧ RuleOk ps ∧ H p = some (.ins C dx []) ∧
  ∀ H', RlAt C H' p flag (sortP ps) → (∀ a o, H a = some o → a ≠ p → H' a = some o) → Q .non H'
def spPut (C : Addr) : Sp := fun vs H Q _ => ∃ (p : Addr) (flag : List Bool) (ps : List Stf) (line : List Bool), vs = [.ref p, .str (WS line)] ∧ RlAt C H p flag ps ∧ ∀ H', Same H H' → Q (oB (putL ps line)) H'
end Own

set_option Elab.async false
set_option linter.all false
set_option maxRecDepth 100000
set_option maxHeartbeats 4000000
namespace Own
open PySem PySem.Spec PyProof.Rows L2
/-! ### the law's own search, and what it tells -/
def last5 (u : List Bool) : List Bool := u.drop (u.length - 5)
def putsN (ps : List Stf) : Nat → List Bool → List Bool
  | 0, u => u
  | n + 1, u => putsN ps n (match putL ps u with | some b => u ++ [b] | none => u)
/-- one message, followed from standing to standing: nowhere more than twenty bits at once -/
def simF (ps : List Stf) : List Bool → List Bool → Bool
  | [], _ => true
  | b :: m, s => decide ((putsN ps 24 (s ++ [b])).length ≤ s.length + 20) && simF ps m (last5 (putsN ps 24 (s ++ [b])))
/-- the standings are closed under one bit more -/
def Closed (ps : List Stf) (K : List Bool → Prop) : Prop := K [] ∧ ∀ s, K s → ∀ b : Bool, (putsN ps 24 (s ++ [b])).length ≤ s.length + 20 ∧ K (last5 (putsN ps 24 (s ++ [b])))
theorem sim_closed {ps : List Stf} {K : List Bool → Prop} (h : Closed ps K) : ∀ (m s : List Bool), K s → simF ps m s = true
  | [], _, _ => rfl
  | b :: m, s, hs => by
    obtain ⟨h1, h2⟩ := h.2 s hs b
    unfold simF
    rw [decide_eq_true h1, Bool.true_and]
    exact sim_closed h m _ h2
def small : List Stf := ((wordsL 1 ++ wordsL 2 ++ wordsL 3 ++ wordsL 4).map fun w => [(w, false), (w, true)]).flatten
def rowAt (i : Nat) : List (List Stf) := small.map fun y => [small.getD i ([], false), y]
def sound (ps : List Stf) : Bool := endsAll ps || !(partedB (ps.map (·.1))) || !((wordsL 4).all fun m => simF ps m [])
theorem sound_0 : sound [] = true := by decide +kernel
theorem sound_1 : (small.map fun x => [x]).all sound = true := by decide +kernel
theorem row_0 : (rowAt 0).all sound = true := by decide +kernel
theorem row_1 : (rowAt 1).all sound = true := by decide +kernel
theorem row_2 : (rowAt 2).all sound = true := by decide +kernel
theorem row_3 : (rowAt 3).all sound = true := by decide +kernel
theorem row_4 : (rowAt 4).all sound = true := by decide +kernel
theorem row_5 : (rowAt 5).all sound = true := by decide +kernel
theorem row_6 : (rowAt 6).all sound = true := by decide +kernel
theorem row_7 : (rowAt 7).all sound = true := by decide +kernel
theorem row_8 : (rowAt 8).all sound = true := by decide +kernel
theorem row_9 : (rowAt 9).all sound = true := by decide +kernel
theorem row_10 : (rowAt 10).all sound = true := by decide +kernel
theorem row_11 : (rowAt 11).all sound = true := by decide +kernel
theorem row_12 : (rowAt 12).all sound = true := by decide +kernel
theorem row_13 : (rowAt 13).all sound = true := by decide +kernel
theorem row_14 : (rowAt 14).all sound = true := by decide +kernel
theorem row_15 : (rowAt 15).all sound = true := by decide +kernel
theorem row_16 : (rowAt 16).all sound = true := by decide +kernel
theorem row_17 : (rowAt 17).all sound = true := by decide +kernel
theorem row_18 : (rowAt 18).all sound = true := by decide +kernel
theorem row_19 : (rowAt 19).all sound = true := by decide +kernel
theorem row_20 : (rowAt 20).all sound = true := by decide +kernel
theorem row_21 : (rowAt 21).all sound = true := by decide +kernel
theorem row_22 : (rowAt 22).all sound = true := by decide +kernel
theorem row_23 : (rowAt 23).all sound = true := by decide +kernel
theorem row_24 : (rowAt 24).all sound = true := by decide +kernel
theorem row_25 : (rowAt 25).all sound = true := by decide +kernel
theorem row_26 : (rowAt 26).all sound = true := by decide +kernel
theorem row_27 : (rowAt 27).all sound = true := by decide +kernel
theorem row_28 : (rowAt 28).all sound = true := by decide +kernel
theorem row_29 : (rowAt 29).all sound = true := by decide +kernel
theorem row_30 : (rowAt 30).all sound = true := by decide +kernel
theorem row_31 : (rowAt 31).all sound = true := by decide +kernel
theorem row_32 : (rowAt 32).all sound = true := by decide +kernel
theorem row_33 : (rowAt 33).all sound = true := by decide +kernel
theorem row_34 : (rowAt 34).all sound = true := by decide +kernel
theorem row_35 : (rowAt 35).all sound = true := by decide +kernel
theorem row_36 : (rowAt 36).all sound = true := by decide +kernel
theorem row_37 : (rowAt 37).all sound = true := by decide +kernel
theorem row_38 : (rowAt 38).all sound = true := by decide +kernel
theorem row_39 : (rowAt 39).all sound = true := by decide +kernel
theorem row_40 : (rowAt 40).all sound = true := by decide +kernel
theorem row_41 : (rowAt 41).all sound = true := by decide +kernel
theorem row_42 : (rowAt 42).all sound = true := by decide +kernel
theorem row_43 : (rowAt 43).all sound = true := by decide +kernel
theorem row_44 : (rowAt 44).all sound = true := by decide +kernel
theorem row_45 : (rowAt 45).all sound = true := by decide +kernel
theorem row_46 : (rowAt 46).all sound = true := by decide +kernel
theorem row_47 : (rowAt 47).all sound = true := by decide +kernel
theorem row_48 : (rowAt 48).all sound = true := by decide +kernel
theorem row_49 : (rowAt 49).all sound = true := by decide +kernel
theorem row_50 : (rowAt 50).all sound = true := by decide +kernel
theorem row_51 : (rowAt 51).all sound = true := by decide +kernel
theorem row_52 : (rowAt 52).all sound = true := by decide +kernel
theorem row_53 : (rowAt 53).all sound = true := by decide +kernel
theorem row_54 : (rowAt 54).all sound = true := by decide +kernel
theorem row_55 : (rowAt 55).all sound = true := by decide +kernel
theorem row_56 : (rowAt 56).all sound = true := by decide +kernel
theorem row_57 : (rowAt 57).all sound = true := by decide +kernel
theorem row_58 : (rowAt 58).all sound = true := by decide +kernel
theorem row_59 : (rowAt 59).all sound = true := by decide +kernel
theorem rows : ∀ i, i < 60 → (rowAt i).all sound = true
  | 0, _ => row_0
  | 1, _ => row_1
  | 2, _ => row_2
  | 3, _ => row_3
  | 4, _ => row_4
  | 5, _ => row_5
  | 6, _ => row_6
  | 7, _ => row_7
  | 8, _ => row_8
  | 9, _ => row_9
  | 10, _ => row_10
  | 11, _ => row_11
  | 12, _ => row_12
  | 13, _ => row_13
  | 14, _ => row_14
  | 15, _ => row_15
  | 16, _ => row_16
  | 17, _ => row_17
  | 18, _ => row_18
  | 19, _ => row_19
  | 20, _ => row_20
  | 21, _ => row_21
  | 22, _ => row_22
  | 23, _ => row_23
  | 24, _ => row_24
  | 25, _ => row_25
  | 26, _ => row_26
  | 27, _ => row_27
  | 28, _ => row_28
  | 29, _ => row_29
  | 30, _ => row_30
  | 31, _ => row_31
  | 32, _ => row_32
  | 33, _ => row_33
  | 34, _ => row_34
  | 35, _ => row_35
  | 36, _ => row_36
  | 37, _ => row_37
  | 38, _ => row_38
  | 39, _ => row_39
  | 40, _ => row_40
  | 41, _ => row_41
  | 42, _ => row_42
  | 43, _ => row_43
  | 44, _ => row_44
  | 45, _ => row_45
  | 46, _ => row_46
  | 47, _ => row_47
  | 48, _ => row_48
  | 49, _ => row_49
  | 50, _ => row_50
  | 51, _ => row_51
  | 52, _ => row_52
  | 53, _ => row_53
  | 54, _ => row_54
  | 55, _ => row_55
  | 56, _ => row_56
  | 57, _ => row_57
  | 58, _ => row_58
  | 59, _ => row_59
  | _ + 60, h => absurd h (by omega)
theorem mem_small {p : Stf} (h1 : p.1 ≠ []) (h2 : p.1.length ≤ 4) : p ∈ small := by
  unfold small
  rw [List.mem_flatten]
  obtain ⟨w, b⟩ := p
  have h0 : 0 < w.length := List.length_pos_iff.mpr h1
  refine ⟨[(w, false), (w, true)], List.mem_map.mpr ⟨w, ?_, rfl⟩, by cases b <;> simp⟩
  simp only [List.mem_append, mem_wordsL]
  simp at h2
  omega
theorem small_len : small.length = 60 := by decide +kernel
theorem all_sound {ps : List Stf} (hl : ps.length ≤ 2) (h : ∀ p ∈ ps, p.1 ≠ [] ∧ p.1.length ≤ 4) : sound ps = true := by
  match ps, hl, h with
  | [], _, _ => exact sound_0
  | [x], _, h =>
    have := mem_small (h x List.mem_cons_self).1 (h x List.mem_cons_self).2
    exact List.all_eq_true.mp sound_1 _ (List.mem_map.mpr ⟨x, this, rfl⟩)
  | [x, y], _, h =>
    have hx := mem_small (h x List.mem_cons_self).1 (h x List.mem_cons_self).2
    have hy := mem_small (h y (List.mem_cons_of_mem _ List.mem_cons_self)).1 (h y (List.mem_cons_of_mem _ List.mem_cons_self)).2
    obtain ⟨i, hi⟩ := List.getElem?_of_mem hx
    have hlt : i < 60 := by rw [← small_len]; exact (List.getElem?_eq_some_iff.mp hi).1
    refine List.all_eq_true.mp (rows i hlt) _ (List.mem_map.mpr ⟨y, hy, ?_⟩)
    rw [List.getD_eq_getElem?_getD, hi]
    rfl
  | _ :: _ :: _ :: _, hl, _ => exact absurd hl (by simp)
/-- the law's search found nothing endless: then nothing is endless -/
theorem rule_ok {ps : List Stf} {K : List Bool → Prop} (hl : ps.length ≤ 2) (h : ∀ p ∈ ps, p.1 ≠ [] ∧ p.1.length ≤ 4) (hp : partedB (ps.map (·.1)) = true) (hc : Closed ps K) : RuleOk ps := by
  refine ⟨fun p hp => (h p hp).1, fun p hp => Nat.le_trans (h p hp).2 (by decide), by omega, hp, ?_⟩
  have := all_sound hl h
  unfold sound at this
  have hs : ((wordsL 4).all fun m => simF ps m []) = true := List.all_eq_true.mpr fun m _ => sim_closed hc m [] hc.1
  rw [hp, hs] at this
  simpa using this
end Own

set_option Elab.async false
set_option linter.all false
set_option maxRecDepth 100000
set_option maxHeartbeats 4000000
namespace Own
open PySem PySem.Spec PyProof.Rows L2
/-! ### promises of the law's own rules -/
def spWord2 : Sp := fun vs H Q _ => ∃ (b : Addr) (few many : Int), vs = [.ref b, .int few, .int many] ∧ BoxAt H b ∧ 0 ≤ few ∧ few ≤ many ∧ many ≤ 400 ∧ ∀ (z : List Bool) H', few ≤ (z.length : Int) → (z.length : Int) ≤ many → BoxAt H' b → Off b H H' → Q (.str (WS z)) H'
/-- the law's rule: a flag and a list of pairs -/
def RuAt (H : Hp) (t : Addr) (flag : List Bool) (ps : List Stf) : Prop := ∃ l xs, H t = some (.tup [.str (WS flag), .ref l]) ∧ H l = some (.lst xs) ∧ Pairs H xs ps
def oS : Option Bool → V
  | none => .str ""
  | some b => .str (WS [b])
def spLPut : Sp := fun vs H Q _ => ∃ (t : Addr) (flag : List Bool) (ps : List Stf) (line : List Bool), vs = [.ref t, .str (WS line)] ∧ RuAt H t flag ps ∧ ps.length ≤ 100 ∧ (∀ p ∈ ps, p.1.length ≤ 900) ∧ line.length ≤ 900 ∧ ∀ H', Same H H' → Q (oS (putL ps line)) H'
/-- the law's search ends well -/
def Fill (ps : List Stf) : Prop := ∃ G, Closed ps G
def spIsRule : Sp := fun vs H Q _ => ∃ (t : Addr) (flag : List Bool) (ps : List Stf), vs = [.ref t] ∧ RuAt H t flag ps ∧ ps.length ≤ 2 ∧ (∀ p ∈ ps, p.1 ≠ [] ∧ p.1.length ≤ 4) ∧ ∀ (r : Bool) H', Same H H' → (r = true → RuleOk ps ∧ Fill ps) → Q (.bl r) H'
theorem RuAt.same {H H' : Hp} {t : Addr} {flag : List Bool} {ps : List Stf} (s : Same H H') (h : RuAt H t flag ps) : RuAt H' t flag ps := by
  obtain ⟨l, xs, h1, h2, h3⟩ := h
  exact ⟨l, xs, s _ _ h1, s _ _ h2, h3.kp (kp_same s)⟩
theorem strOk_WS (w : List Bool) : PyData.strOk (WS w) = true := by
  show ((w.map cd).toArray.all (· < 0x110000)) = true
  rw [← Array.all_toList, List.all_eq_true]
  intro x hx
  obtain ⟨b, _, rfl⟩ := List.mem_map.mp (show x ∈ w.map cd from hx)
  cases b <;> rfl
theorem canLay_strs : ∀ ws : List (List Bool), PyData.canLayAll0 (ws.map fun w => PyData.str (WS w)) = true
  | [] => rfl
  | w :: r => by
    show (PyData.canLay0 (.str (WS w)) && PyData.canLayAll0 (r.map fun w => PyData.str (WS w))) = true
    rw [canLay_strs r, Bool.and_true]
    exact strOk_WS w
theorem depth_strs : ∀ ws : List (List Bool), PyData.depthAll (ws.map fun w => PyData.str (WS w)) = 0
  | [] => rfl
  | w :: r => by
    show max (PyData.depth (.str (WS w))) (PyData.depthAll (r.map fun w => PyData.str (WS w))) = 0
    rw [depth_strs r]
    rfl
theorem dpAll_strs {K : PySem.W.Frag} {H : Hp} : ∀ ws : List (List Bool), DpAll K H (strV ws) (ws.map fun w => PyData.str (WS w))
  | [] => .nil
  | w :: r => .cons (.str _) (dpAll_strs r)
theorem shaped_strs (ws : List (List Bool)) : SeqAt.shaped (.list (ws.map fun w => PyData.str (WS w))) = true := by
  unfold SeqAt.shaped
  rw [Bool.and_eq_true, decide_eq_true_eq]
  refine ⟨canLay_strs ws, ?_⟩
  show PyData.depthAll _ + 1 ≤ 64
  rw [depth_strs]
  decide
def hdS : List (List Bool) → V
  | [] => .str ""
  | u :: _ => .str (WS u)
theorem eqv_nil (ds : List PyData) : PyData.eqv (.list ds) (.list []) = ds.isEmpty := by
  cases ds <;> rfl
end Own

namespace Own
open PySem PySem.Spec PyProof.Rows L2
def stepP (ps : List Stf) (u : List Bool) : List Bool := match putL ps u with | some b => u ++ [b] | none => u
theorem putsN_zero (ps : List Stf) (u : List Bool) : putsN ps 0 u = u := rfl
theorem putsN_succ (ps : List Stf) : ∀ (n : Nat) (u : List Bool), putsN ps (n + 1) u = stepP ps (putsN ps n u)
  | 0, u => rfl
  | n + 1, u => by
    show putsN ps (n + 1) (stepP ps u) = stepP ps (putsN ps n (stepP ps u))
    exact putsN_succ ps n _
theorem stepP_len (ps : List Stf) (u : List Bool) : (stepP ps u).length ≤ u.length + 1 := by
  unfold stepP
  split
  · simp
  · omega
theorem putsN_len (ps : List Stf) : ∀ (n : Nat) (u : List Bool), (putsN ps n u).length ≤ u.length + n
  | 0, u => Nat.le_refl _
  | n + 1, u => by
    rw [putsN_succ]
    have := stepP_len ps (putsN ps n u)
    have := putsN_len ps n u
    omega
theorem last5_len (u : List Bool) : (last5 u).length ≤ 5 := by
  unfold last5
  rw [List.length_drop]
  omega
theorem partedB_of {ws : List (List Bool)} (h : ∀ (i j : Nat) (a b : List Bool), ws[i]? = some a → ws[j]? = some b → i ≠ j → ¬ b <:+ a) : partedB ws = true := by
  unfold partedB
  rw [List.all_eq_true]
  intro i hi
  rw [List.mem_range] at hi
  unfold partedAt
  rw [List.all_eq_true]
  intro o ho
  have hg : ws[i]? = some (ws.getD i []) := by
    rw [List.getD_eq_getElem?_getD, List.getElem?_eq_getElem hi]
    rfl
  rw [List.mem_append] at ho
  have hn : ¬ o <:+ ws.getD i [] := by
    rcases ho with ho | ho
    · obtain ⟨j, hj⟩ := List.getElem?_of_mem ho
      have hlt : j < i := by
        have := (List.getElem?_eq_some_iff.mp hj).1
        rw [List.length_take] at this
        omega
      rw [List.getElem?_take_of_lt hlt] at hj
      exact h i j _ _ hg hj (by omega)
    · obtain ⟨j, hj⟩ := List.getElem?_of_mem ho
      rw [List.getElem?_drop] at hj
      exact h i _ _ _ hg hj (by omega)
  rw [decide_eq_false hn]
  rfl
/-! ### what is known -/
abbrev Kv := List (Key × V)
def kno (kvs : Kv) (w : List Bool) : Prop := valV kvs (Sum.inr (WS w)) ≠ none
def allW : List (List Bool) := wordsL 0 ++ wordsL 1 ++ wordsL 2 ++ wordsL 3 ++ wordsL 4 ++ wordsL 5
def left (kvs : Kv) : Nat := (allW.filter fun w => (valV kvs (Sum.inr (WS w))).isNone).length
theorem mem_allW {w : List Bool} (h : w.length ≤ 5) : w ∈ allW := by
  unfold allW
  simp only [List.mem_append, mem_wordsL]
  omega
theorem kno_put {kvs : Kv} {w u : List Bool} : kno (putK kvs (Sum.inr (WS w)) (.bl true)) u ↔ (u = w ∨ kno kvs u) := by
  unfold kno
  rw [valV_put]
  by_cases h : u = w
  · subst h
    rw [if_pos rfl]
    simp
  · rw [if_neg fun e => h (WS_inj (Sum.inr.inj e))]
    simp [h]
theorem filter_lt {α : Type} {f g : α → Bool} : ∀ {l : List α} {x : α}, x ∈ l → f x = true → g x = false → (∀ y ∈ l, g y = true → f y = true) → (l.filter g).length < (l.filter f).length
  | y :: l, x, hx, hf, hg, h => by
    have hle : ∀ (l : List α), (∀ y ∈ l, g y = true → f y = true) → (l.filter g).length ≤ (l.filter f).length := by
      intro l
      induction l with
      | nil => intro _; exact Nat.le_refl _
      | cons z r ih =>
        intro k
        have i := ih fun y hy => k y (List.mem_cons_of_mem _ hy)
        rw [List.filter_cons, List.filter_cons]
        by_cases hz : g z = true
        · rw [if_pos hz, if_pos (k z List.mem_cons_self hz)]
          exact Nat.succ_le_succ i
        · rw [if_neg hz]
          split
          · exact Nat.le_succ_of_le i
          · exact i
    rw [List.filter_cons, List.filter_cons]
    rcases List.mem_cons.mp hx with rfl | hx
    · rw [hf, hg]
      exact Nat.lt_succ_of_le (hle l fun y hy => h y (List.mem_cons_of_mem _ hy))
    · have i := filter_lt hx hf hg fun y hy => h y (List.mem_cons_of_mem _ hy)
      by_cases hz : g y = true
      · rw [if_pos hz, if_pos (h y List.mem_cons_self hz)]
        exact Nat.succ_lt_succ i
      · rw [if_neg hz]
        split
        · exact Nat.lt_succ_of_lt i
        · exact i
theorem left_put {kvs : Kv} {w : List Bool} (hw : w.length ≤ 5) (hn : ¬ kno kvs w) : left (putK kvs (Sum.inr (WS w)) (.bl true)) < left kvs := by
  unfold left
  refine filter_lt (mem_allW hw) ?_ ?_ fun y _ hy => ?_
  · unfold kno at hn
    rw [Classical.not_not] at hn
    rw [hn]
    rfl
  · rw [valV_put, if_pos rfl]
    rfl
  · rw [valV_put] at hy
    split at hy
    · cases hy
    · exact hy
/-- done with a standing -/
def Done (ps : List Stf) (kvs : Kv) (w : List Bool) (b : Bool) : Prop := (putsN ps 24 (w ++ [b])).length ≤ w.length + 20 ∧ kno kvs (last5 (putsN ps 24 (w ++ [b])))
theorem Done.put {ps : List Stf} {kvs : Kv} {w u : List Bool} {b : Bool} (h : Done ps kvs w b) : Done ps (putK kvs (Sum.inr (WS u)) (.bl true)) w b := ⟨h.1, kno_put.mpr (.inr h.2)⟩
structure Srch (ps : List Stf) (kvs : Kv) (ws : List (List Bool)) (cur : Option (List Bool)) (j : Nat) : Prop where
  zero : kno kvs []
  short : ∀ w, kno kvs w → w.length ≤ 5
  wait : ∀ w ∈ ws, kno kvs w
  done : ∀ w, kno kvs w → w ∈ ws ∨ (∀ b, Done ps kvs w b) ∨ some w = cur
  curd : ∀ w, some w = cur → (0 < j → Done ps kvs w false) ∧ (1 < j → Done ps kvs w true)
  size : kvs.length + left kvs ≤ 64
  wsz : ws.length ≤ kvs.length
theorem left0 : left [(Sum.inr (WS []), V.bl true)] = 62 := by decide +kernel
end Own
namespace Own
open PySem PySem.Spec PyProof.Rows L2
theorem Srch.start (ps : List Stf) : Srch ps [(Sum.inr (WS []), V.bl true)] [[]] none 0 := by
  have hk : ∀ w, kno [(Sum.inr (WS []), V.bl true)] w → w = [] := fun w h => by
    by_cases e : w = []
    · exact e
    · exact absurd (valV_neg (p := (Sum.inr (WS []), V.bl true)) (r := []) (k := Sum.inr (WS w)) fun z => e (WS_inj (Sum.inr.inj z)).symm) fun z => h (by rw [z]; rfl)
  refine ⟨?_, fun w h => ?_, fun w h => ?_, fun w h => ?_, fun w h => (by cases h), by rw [left0]; decide, by decide⟩
  · unfold kno
    rw [valV_pos rfl]
    intro e
    cases e
  · rw [hk w h]
    decide
  · rw [List.mem_singleton.mp h]
    unfold kno
    rw [valV_pos rfl]
    intro e
    cases e
  · exact .inl (by rw [hk w h]; exact List.mem_singleton.mpr rfl)
/-- one is taken -/
theorem Srch.pop {ps : List Stf} {kvs : Kv} {ws : List (List Bool)} {u : List Bool} (h : Srch ps kvs (ws ++ [u]) none 0) : Srch ps kvs ws (some u) 0 := by
  refine ⟨h.zero, h.short, fun w hw => h.wait w (List.mem_append_left _ hw), fun w hw => ?_, fun w _ => ⟨fun z => absurd z (by decide), fun z => absurd z (by decide)⟩, h.size, ?_⟩
  · rcases h.done w hw with h1 | h1 | h1
    · rcases List.mem_append.mp h1 with h2 | h2
      · exact .inl h2
      · exact .inr (.inr (by rw [List.mem_singleton.mp h2]))
    · exact .inr (.inl h1)
    · cases h1
  · have := h.wsz
    rw [List.length_append] at this
    omega
/-- both bits are through -/
theorem Srch.back {ps : List Stf} {kvs : Kv} {ws : List (List Bool)} {u : List Bool} (h : Srch ps kvs ws (some u) 2) : Srch ps kvs ws none 0 := by
  refine ⟨h.zero, h.short, h.wait, fun w hw => ?_, fun w e => (by cases e), h.size, h.wsz⟩
  rcases h.done w hw with h1 | h1 | h1
  · exact .inl h1
  · exact .inr (.inl h1)
  · obtain ⟨d0, d1⟩ := h.curd w h1
    exact .inr (.inl fun b => by cases b; exact d0 (by decide); exact d1 (by decide))
theorem curd_next {ps : List Stf} {kvs : Kv} {u : List Bool} {j : Nat} (hj : j < 2) (h : (0 < j → Done ps kvs u false) ∧ (1 < j → Done ps kvs u true)) (hn : Done ps kvs u (decide (j = 1))) : (0 < j + 1 → Done ps kvs u false) ∧ (1 < j + 1 → Done ps kvs u true) := by
  match j, hj with
  | 0, _ => exact ⟨fun _ => hn, fun z => absurd z (by decide)⟩
  | 1, _ => exact ⟨fun _ => h.1 (by decide), fun _ => hn⟩
/-- the standing behind is known already -/
theorem Srch.old {ps : List Stf} {kvs : Kv} {ws : List (List Bool)} {u : List Bool} {j : Nat} (h : Srch ps kvs ws (some u) j) (hj : j < 2) (hn : Done ps kvs u (decide (j = 1))) : Srch ps kvs ws (some u) (j + 1) :=
  ⟨h.zero, h.short, h.wait, h.done, fun w e => by cases e; exact curd_next hj (h.curd u rfl) hn, h.size, h.wsz⟩
/-- it is new -/
theorem Srch.new {ps : List Stf} {kvs : Kv} {ws : List (List Bool)} {u v : List Bool} {j : Nat} (h : Srch ps kvs ws (some u) j) (hj : j < 2) (hv : valV kvs (Sum.inr (WS v)) = none) (hl : v.length ≤ 5) (hn : (putsN ps 24 (u ++ [decide (j = 1)])).length ≤ u.length + 20) (ev : v = last5 (putsN ps 24 (u ++ [decide (j = 1)]))) :
    Srch ps (putK kvs (Sum.inr (WS v)) (.bl true)) (ws ++ [v]) (some u) (j + 1) := by
  have hk : ¬ kno kvs v := fun z => z hv
  have hlp := left_put hl hk
  have hln : (putK kvs (Sum.inr (WS v)) (V.bl true)).length = kvs.length + 1 := by
    rw [putK_new _ hv, List.length_append]
    rfl
  refine ⟨kno_put.mpr (.inr h.zero), fun w hw => ?_, fun w hw => ?_, fun w hw => ?_, fun w e => ?_, ?_, ?_⟩
  · rcases kno_put.mp hw with rfl | hw
    · exact hl
    · exact h.short w hw
  · rcases List.mem_append.mp hw with hw | hw
    · exact kno_put.mpr (.inr (h.wait w hw))
    · exact kno_put.mpr (.inl (List.mem_singleton.mp hw))
  · rcases kno_put.mp hw with rfl | hw
    · exact .inl (List.mem_append_right _ (List.mem_singleton.mpr rfl))
    · rcases h.done w hw with h1 | h1 | h1
      · exact .inl (List.mem_append_left _ h1)
      · exact .inr (.inl fun b => (h1 b).put)
      · exact .inr (.inr h1)
  · cases e
    obtain ⟨d0, d1⟩ := h.curd u rfl
    exact curd_next hj ⟨fun z => (d0 z).put, fun z => (d1 z).put⟩ ⟨hn, by rw [← ev]; exact kno_put.mpr (.inl rfl)⟩
  · have := h.size
    omega
  · have := h.wsz
    rw [hln, List.length_append]
    show ws.length + 1 ≤ _
    omega
theorem Srch.closed {ps : List Stf} {kvs : Kv} (h : Srch ps kvs [] none 0) : Closed ps (kno kvs) :=
  ⟨h.zero, fun s hs b => by
    rcases h.done s hs with h1 | h1 | h1
    · cases h1
    · exact h1 b
    · cases h1⟩
end Own

set_option Elab.async false
set_option linter.all false
set_option maxRecDepth 100000
set_option maxHeartbeats 2000000
namespace Own
open PySem PySem.Spec PyProof.Rows L2
section
variable {prog : Program} {w : World} {A : Around} {E : Value → Shared → Prop} {s : Shared}
/-- all that a tuple holds, in a new list -/
theorem collectT {t : Addr} {us : List Value} {Q : List Value → Shared → Prop} (ht : s.heap.IsTuple t us.toArray) (hz : us.length ≤ sizeLine)
    (h : Q us { s with heap := (s.heap.push (seqObj "list" #[] 0)).update s.heap.objs.size (Obj.mapSeq (· ++ us.toArray)) }) : wpAny (model prog w) A (collect (.ref t)) Q E s := by
  obtain ⟨o, go, co, k, dO⟩ := id ht
  have go' : (s.heap.push (seqObj "list" #[] 0)).get? t = some o := Heap.get?_push_of_some _ go
  have gn : (s.heap.push (seqObj "list" #[] 0)).get? s.heap.objs.size = some (seqObj "list" #[] 0) := Heap.get?_push_size _ rfl
  unfold collect
  refine wpAny_bind (wpAny_runValue (codeAny_builtin entry_proto_collect' ?_))
  refine wpAny_bind (wpAny_newList (wpAny_pure ⟨Code.quiet_builtin _ (by decide +kernel), codeAny_builtin entry_list_iadd' ?_⟩))
  show wpAny _ _ (Builtin.List.listExtendWith (.ref s.heap.objs.size) (.ref t) _) _ _ { s with heap := s.heap.push (seqObj "list" #[] 0) }
  unfold Builtin.List.listExtendWith
  refine wpAny_bind (wpAny_typeOf (T := "tuple") ⟨o, go', co⟩ ?_)
  rw [if_pos (by rw [show (Value.type "tuple" == Value.type "tuple") = true by rfl, Bool.or_true])]
  refine wpAny_bind (listItems_at go' dO (wpAny_bind (listItems_at (xs := #[]) (n := 0) gn rfl ?_)))
  rw [if_neg (by simp)]
  refine wpAny_bind (listUpdate_at (xs := #[]) (n := 0) gn rfl ?_ (Nat.zero_le _) (by simp only [Array.size_append, List.size_toArray, List.length_nil]; omega))
  refine wpAny_pure ?_
  show wpAny (model prog w) A (load s.heap.objs.size >>= _) Q E { s with heap := (s.heap.push (seqObj "list" #[] 0)).update s.heap.objs.size (Obj.mapSeq (· ++ us.toArray)) }
  refine wpAny_bind (wpAny_load (get?_update_seq gn _) ?_)
  have e : ((#[] : Array Value) ++ us.toArray).toList = us := by simp
  show wpAny _ _ (pure ((#[] : Array Value) ++ us.toArray).toList) Q E _
  rw [e]
  exact wpAny_pure h
open PySem.W in
/-- sorted(tuple) -/
theorem sortedT {κ : KeyKind} {t : Addr} {us : List Value} {Q : Value → Shared → Prop} (ht : s.heap.IsTuple t us.toArray) (S : SortsAt prog w A.in1.in1 { s with heap := sortingHeap (copyHeap s.heap us) (s.heap.objs.size + 1) us } κ us) (hz : us.length ≤ sizeLine)
    (h : Q (.ref (s.heap.objs.size + 1)) { s with heap := sortedAll s.heap us (sortVals κ false us us).toArray }) : wpAny (model prog w) A (call (.builtin "sorted") [.ref t]) Q E s := by
  refine call_function_entry_kw kind_sorted plain_sorted entry_sorted (args_sorted1 _) ?_
  unfold Builtin.«sorted»
  refine wpAny_bind (m := checkCount "sorted" 1 1 _) (wpAny_pure (wpAny_bind (collectT ht hz (wpAny_bind (wpAny_newList ?_ hz)))))
  have e1 : ((s.heap.push (seqObj "list" #[] 0)).update s.heap.objs.size (Obj.mapSeq (· ++ us.toArray))).objs.size = s.heap.objs.size + 1 := by
    rw [Heap.size_update, Heap.size_push]
  show wpAny _ _ _ _ _ { s with heap := copyHeap s.heap us }
  rw [e1]
  refine wpAny_bind (wpAny_holding (wpAny_call_entry_kw slot_list_sort ⟨_, copyHeap_at s.heap us, rfl⟩ entry_list_sort ?_ (args_list_sort _)))
  show wpAny (model prog w) A.in1.in1 (Builtin.«list.sort» ⟨[.ref (s.heap.objs.size + 1)], []⟩) _ _ _
  exact list_sort_vals (s := { s with heap := copyHeap s.heap us }) (copyHeap_at s.heap us) S hz ⟨_, rfl, wpAny_pure ⟨_, rfl, h⟩⟩
end
def rSortedQ (K : PySem.W.Frag) : List V → Hp → VK → Prop := fun xs H Q => ∃ (l : Addr) (o : Bool) (vs : List V) (ps : List Stf), xs = [V.ref l] ∧ SqK K o H l vs ∧ Pairs H vs ps ∧ ∀ q vs', H q = none → Pairs H vs' (sortP ps) → Q (.ref q) (upd H q (.lst vs'))
open PySem.W in
theorem cr_sortedQ {X : Cx} (hu : X.A.units + 64 < cLine) : CallR X (.builtin "sorted") (rSortedQ X.K) := by
  intro pins s σ H xs us Q I r h
  obtain ⟨l, o, vs, ps, rfl, hs, hp, q⟩ := h
  rcases o with _ | _
  rotate_left
  · exact cr_sortedP hu pins s σ H [V.ref l] us Q I r ⟨l, vs, ps, rfl, hs, hp, q⟩
  · match us, r with
    | [u], .cons ra .nil =>
      cases (show u = Value.ref l from ra)
      obtain ⟨its, rv, hl, hz⟩ := I.tuple hs
      obtain ⟨as, hr⟩ := Dp.readsAll I (ps.map encP) _ its (dpAll_pairs hp) rv
      have e := each_of hp rv
      have er := readsAll_each encP hr
      have hal : AllAlike (ps.map encP) := AllAlike.of fun b b' => rfl
      have hk : Sortable (ps.map encP) := .inl fun d hd => by
        obtain ⟨p, _, rfl⟩ := List.mem_map.mp hd
        exact ⟨_, _, rfl⟩
      have er' : EachIs (fun v b => ∃ as, Reads (sortingHeap (copyHeap s.heap its) (s.heap.objs.size + 1) its) v (encP b) as) its ps := er.mono fun _ _ ⟨as, r⟩ => ⟨as, PyProof.Rows.Reads.keeps (fun _ _ => sorting_copy_old) r⟩
      have hb : ∀ d, d ∈ ps.map encP → X.A.in1.in1.units + d.depth < cLine := fun d hd => by
        obtain ⟨p, _, rfl⟩ := List.mem_map.mp hd
        have : (encP p).depth = 1 := rfl
        rw [this]
        have : X.A.in1.in1.units = X.A.units + 2 := rfl
        omega
      refine sortedT hl (SortsAt.data (s := { s with heap := sortingHeap (copyHeap s.heap its) (s.heap.objs.size + 1) its }) (each_map (R := fun v d => ∃ as, Reads (sortingHeap (copyHeap s.heap its) (s.heap.objs.size + 1) its) v d as) encP er') hal hk hb) (by rw [← rv.length]; exact hz) ?_
      have ho : (sortVals (dataKind (sortingHeap (copyHeap s.heap its) (s.heap.objs.size + 1) its) (ps.map encP)) false its its).length = ps.length := by
        rw [sortVals_length false rfl]
        exact e.length
      have eo := sortVals_data false e er' hal
      revert ho eo
      generalize sortVals (dataKind (sortingHeap (copyHeap s.heap its) (s.heap.objs.size + 1) its) (ps.map encP)) false its its = out
      intro ho eo
      obtain ⟨vs', rv', hp'⟩ := pairs_of (X := X) eo
      obtain ⟨ep, he'⟩ := PyProof.Rows.sortedAll_at s.heap its out.toArray
      have hlen : vs'.length ≤ sizeLine := by
        rw [rv'.length, ho, ← hp.len]
        exact hz
      exact ⟨.ref _, upd H (s.heap.objs.size + 1) (.lst vs'), I.laid (t' := s.toks) (fun _ _ => PyProof.Rows.sortedAll_old) (Nat.le_succ _) ⟨hlen, _, ep, rv', he'⟩, rfl, q _ _ (I.hok.fresh (Nat.le_succ _)) hp'⟩
end Own

set_option Elab.async false
set_option linter.all false
set_option maxRecDepth 100000
set_option maxHeartbeats 2000000
namespace Own
open PySem PySem.Spec PyProof.Rows L2
/-! ### nested data that are compared -/
def NiceAt (K : PySem.W.Frag) (H : Hp) (v : V) : Prop := ∃ d : PyData, Dp K H v d ∧ d.canLay0 = true ∧ d.depth ≤ 40
theorem nice_all {K : PySem.W.Frag} {H : Hp} : ∀ {vs : List V}, (∀ v ∈ vs, NiceAt K H v) → ∃ ds, DpAll K H vs ds ∧ PyData.canLayAll0 ds = true ∧ PyData.depthAll ds ≤ 40 ∧ ds.isEmpty = vs.isEmpty
  | [], _ => ⟨[], .nil, rfl, by decide, rfl⟩
  | v :: vs, h => by
    obtain ⟨d, h1, h2, h3⟩ := h v List.mem_cons_self
    obtain ⟨ds, g1, g2, g3, _⟩ := nice_all (vs := vs) fun u hu => h u (List.mem_cons_of_mem _ hu)
    refine ⟨d :: ds, .cons h1 g1, ?_, ?_, rfl⟩
    · show (PyData.canLay0 d && PyData.canLayAll0 ds) = true
      rw [h2, g2]
      rfl
    · show max (PyData.depth d) (PyData.depthAll ds) ≤ 40
      omega
theorem shaped_all {ds : List PyData} (h1 : PyData.canLayAll0 ds = true) (h2 : PyData.depthAll ds ≤ 40) : SeqAt.shaped (.list ds) = true := by
  unfold SeqAt.shaped
  rw [Bool.and_eq_true, decide_eq_true_eq]
  refine ⟨h1, ?_⟩
  show PyData.depthAll _ + 1 ≤ 64
  omega
theorem canLay_encP (p : Stf) : (encP p).canLay0 = true := by
  show (PyData.strOk (WS p.1) && (PyData.strOk (WS [p.2]) && true)) = true
  rw [strOk_WS, strOk_WS]
  rfl
theorem canLay_pairs : ∀ ps : List Stf, PyData.canLayAll0 (ps.map encP) = true
  | [] => rfl
  | p :: r => by
    show (PyData.canLay0 (encP p) && PyData.canLayAll0 (r.map encP)) = true
    rw [canLay_pairs r, canLay_encP]
    rfl
theorem depth_pairs : ∀ ps : List Stf, PyData.depthAll (ps.map encP) ≤ 1
  | [] => by decide
  | p :: r => by
    show max (PyData.depth (encP p)) (PyData.depthAll (r.map encP)) ≤ 1
    have := depth_pairs r
    have e : (encP p).depth = 1 := rfl
    omega
theorem nice_rule {K : PySem.W.Frag} {H : Hp} {t : Addr} {flag : List Bool} {ps : List Stf} (h : RuAt H t flag ps) : NiceAt K H (.ref t) := by
  obtain ⟨l, xs, h1, h2, h3⟩ := h
  refine ⟨.tuple [.str (WS flag), .list (ps.map encP)], .tup (.inl (.inl h1)) (.cons (.str _) (.cons (.lst (.inl (.inl h2)) (dpAll_pairs h3)) .nil)), ?_, ?_⟩
  · show (PyData.strOk (WS flag) && (PyData.canLayAll0 (ps.map encP) && true)) = true
    rw [strOk_WS, canLay_pairs]
    rfl
  · show max 0 (max (PyData.depthAll (ps.map encP) + 1) 0) + 1 ≤ 40
    have := depth_pairs ps
    omega
theorem RuAt.off {H H' : Hp} {b t : Addr} {flag : List Bool} {ps : List Stf} (h : RuAt H t flag ps) (hb : BoxAt H b) (o : Off b H H') : RuAt H' t flag ps := by
  obtain ⟨l, xs, h1, h2, h3⟩ := h
  have k := kp_off hb o
  refine ⟨l, xs, k _ _ h1 trivial, o _ _ h2 (fun e => ?_), h3.kp k⟩
  obtain ⟨c, d, e2, _⟩ := hb
  rw [← e, h2] at e2
  cases e2
  cases ps with
  | nil => exact h3
  | cons p r =>
    obtain ⟨⟨t, e, _⟩, _⟩ := h3
    cases e
theorem Pairs.snoc {H : Hp} : ∀ {vs : List V} {ps : List Stf} {v : V} {p : Stf}, Pairs H vs ps → PairAt H v p → Pairs H (vs ++ [v]) (ps ++ [p])
  | [], [], _, _, _, h => ⟨h, trivial⟩
  | _ :: _, _ :: _, _, _, h, h2 => ⟨h.1, Pairs.snoc h.2 h2⟩
  | [], _ :: _, _, _, h, _ => h.elim
  | _ :: _, [], _, _, h, _ => h.elim
/-- a rule as the law takes one -/
structure LRule (wi : Int) (flag : List Bool) (ps : List Stf) : Prop where
  ok : RuleOk ps
  few : ps.length ≤ 2
  lens : ∀ p ∈ ps, p.1 ≠ [] ∧ p.1.length ≤ 4
  f2 : 2 ≤ flag.length
  f5 : (flag.length : Int) ≤ max wi 5
  fill : Fill ps
def RuV (wi : Int) (H : Hp) (v : V) : Prop := ∃ t flag ps, v = V.ref t ∧ RuAt H t flag ps ∧ LRule wi flag ps
def spRule : Sp := fun vs H Q _ => ∃ (b : Addr) (wi lo : Int), vs = [.ref b, .int wi, .int lo] ∧ BoxAt H b ∧ 2 ≤ wi ∧ wi ≤ 100 ∧ 1 ≤ lo ∧ lo ≤ 4 ∧ ∀ t flag ps H', LRule wi flag ps → RuAt H' t flag ps → BoxAt H' b → Off b H H' → Q (.ref t) H'
def fillB (ps : List Stf) : Bool := allW.all fun s => [false, true].all fun b => decide ((putsN ps 24 (s ++ [b])).length ≤ s.length + 20)
theorem fill_of {ps : List Stf} (h : fillB ps = true) : Fill ps := ⟨fun s => s.length ≤ 5, by decide, fun s hs b => by
  have h1 := List.all_eq_true.mp h s (mem_allW hs)
  have h2 := List.all_eq_true.mp h1 b (by cases b <;> decide)
  exact ⟨of_decide_eq_true h2, last5_len _⟩⟩
theorem lr1 (wi : Int) : LRule wi [false, true, true, true, false] [([true, true], false)] := ⟨⟨by decide, by decide, by decide, by decide, by decide +kernel⟩, by decide, by decide, by decide, by show (5 : Int) ≤ max wi 5; omega, fill_of (by decide +kernel)⟩
theorem lr2 (wi : Int) : LRule wi [false, false, true, false] [([false, false, true], true)] := ⟨⟨by decide, by decide, by decide, by decide, by decide +kernel⟩, by decide, by decide, by decide, by show (4 : Int) ≤ max wi 5; omega, fill_of (by decide +kernel)⟩
theorem lr3 (wi : Int) : LRule wi [true, true] [([true], false)] := ⟨⟨by decide, by decide, by decide, by decide, by decide +kernel⟩, by decide, by decide, by decide, by show (2 : Int) ≤ max wi 5; omega, fill_of (by decide +kernel)⟩
theorem lr4 (wi : Int) : LRule wi [true, false, false, false, true] [([false, false], true)] := ⟨⟨by decide, by decide, by decide, by decide, by decide +kernel⟩, by decide, by decide, by decide, by show (5 : Int) ≤ max wi 5; omega, fill_of (by decide +kernel)⟩
theorem lr5 (wi : Int) : LRule wi [true, true, false] [] := ⟨⟨by decide, by decide, by decide, by decide, by decide +kernel⟩, by decide, by decide, by decide, by show (3 : Int) ≤ max wi 5; omega, fill_of (by decide +kernel)⟩
end Own
namespace Own
open PySem PySem.Spec PyProof.Rows L2
theorem RuV.same {wi : Int} {H H' : Hp} {v : V} (s : Same H H') (h : RuV wi H v) : RuV wi H' v := by
  obtain ⟨t, flag, ps, e, h1, h2⟩ := h
  exact ⟨t, flag, ps, e, h1.same s, h2⟩
theorem RuV.off {wi : Int} {H H' : Hp} {b : Addr} {v : V} (h : RuV wi H v) (hb : BoxAt H b) (o : Off b H H') : RuV wi H' v := by
  obtain ⟨t, flag, ps, e, h1, h2⟩ := h
  exact ⟨t, flag, ps, e, h1.off hb o, h2⟩
theorem RuV.kp {wi : Int} {H H' : Hp} {v : V} {D : Addr} {xs : List V} (s : Same H H') (h : RuV wi H v) : RuV wi H' v := h.same s
end Own
namespace Own
open PySem PySem.Spec PyProof.Rows L2
def rO : Option Bool → Str
  | none => "None"
  | some b => PySem.reprText (WS [b])
theorem cr_reprO {X : Cx} : CallR X (.builtin "repr") (fun xs H Q => ∃ o : Option Bool, xs = [oB o] ∧ Q (.str (rO o)) H) := by
  intro pins s σ H xs us Q I r h
  obtain ⟨o, rfl, q⟩ := h
  match us, r with
  | [u], .cons ra .nil =>
    cases o with
    | none =>
      cases (show u = Value.none from ra)
      exact PySem.P.repr_of_none ⟨.str "None", H, I.tok _, ⟨_, rfl⟩, q⟩
    | some b =>
      obtain ⟨t, rfl⟩ := (show ∃ t, u = Value.str (WS [b]) t from ra)
      exact PySem.P.repr_of_str ⟨.str _, H, I.tok _, ⟨_, rfl⟩, q⟩ (by cases b <;> decide +kernel)
def spMade (C : Addr) : Sp := fun vs H Q _ => ∃ (t : Addr) (flag : List Bool) (ps : List Stf), vs = [.ref t] ∧ RuAt H t flag ps ∧ RuleOk ps ∧ 2 ≤ flag.length ∧ flag.length ≤ 900 ∧ ∀ p H', RlAt C H' p flag (sortP ps) → Same H H' → Q (.ref p) H'
end Own
namespace Own
open PySem PySem.Spec PyProof.Rows L2
def Ru1 (wi : Int) (H : Hp) (v : V) : Prop := ∃ t flag p, v = V.ref t ∧ RuAt H t flag [p] ∧ LRule wi flag [p]
theorem Ru1.same {wi : Int} {H H' : Hp} {v : V} (s : Same H H') (h : Ru1 wi H v) : Ru1 wi H' v := by
  obtain ⟨t, flag, ps, e, h1, h2⟩ := h
  exact ⟨t, flag, ps, e, h1.same s, h2⟩
theorem Ru1.v {wi : Int} {H : Hp} {v : V} (h : Ru1 wi H v) : RuV wi H v := by
  obtain ⟨t, flag, p, e, h1, h2⟩ := h
  exact ⟨t, flag, [p], e, h1, h2⟩
theorem mk_ru {wi : Int} {H : Hp} {u m t : Addr} {f p : List Bool} {b : Bool} {sf sp sb : Str} (ef : sf = WS f) (ep : sp = WS p) (eb : sb = WS [b]) (n : H u = none) (o : (upd H u (.tup [.str sp, .str sb])) m = none) (q : (upd (upd H u (.tup [.str sp, .str sb])) m (.lst [.ref u])) t = none) (lr : LRule wi f [(p, b)]) :
    Same H (upd (upd (upd H u (.tup [.str sp, .str sb])) m (.lst [.ref u])) t (.tup [.str sf, .ref m])) ∧ Ru1 wi (upd (upd (upd H u (.tup [.str sp, .str sb])) m (.lst [.ref u])) t (.tup [.str sf, .ref m])) (.ref t) := by
  subst ef ep eb
  have s1 : Same H (upd H u (.tup [.str (WS p), .str (WS [b])])) := same_new n
  have s2 := same_new (o := .lst [.ref u]) o
  have s3 := same_new (o := .tup [.str (WS f), .ref m]) q
  refine ⟨(s1.trans s2).trans s3, t, f, (p, b), rfl, ⟨m, [.ref u], upd_same, s3 _ _ upd_same, ⟨u, rfl, (s2.trans s3) _ _ upd_same⟩, trivial⟩, lr⟩
end Own
namespace Own
open PySem PySem.Spec PyProof.Rows L2
theorem and_join {c : Bool} {H : Hp} {TT : Hp → (Bool → Hp → Prop) → Prop} {X Y : Hp → Prop} (G : Hp → Prop) (h0 : c = false → G H) (h : c = true → ∀ k : Bool → Hp → Prop, (∀ H', X H' → k true H') → (∀ H', G H' → k false H') → TT H k) (hy : ∀ H', G H' → Y H') :
    if c = true then TT H (fun b H1 => if b = true then X H1 else Y H1) else (fun b H1 => if b = true then X H1 else Y H1) false H := by
  cases c with
  | true =>
    rw [if_pos rfl]
    exact h rfl _ (fun H' x => by show if true = true then _ else _; rw [if_pos rfl]; exact x) fun H' g => by
      show if false = true then _ else _
      rw [if_neg (by decide)]
      exact hy _ g
  | false =>
    rw [if_neg (by decide)]
    show if false = true then _ else _
    rw [if_neg (by decide)]
    exact hy _ (h0 rfl)
end Own
namespace Own
open PySem PySem.Spec PyProof.Rows L2
end Own
namespace Own
open PySem PySem.Spec PyProof.Rows L2
theorem putL_part {ps : List Stf} (h : partedB (ps.map (·.1)) = true) {p : Stf} (hp : p ∈ ps) (hne : p.1 ≠ []) : putL ps (p.1.drop 1) = none := by
  refine putL_none fun q hq hs => ?_
  have e := one_match h hq hp (hs.trans (List.drop_suffix 1 p.1)) List.suffix_rfl
  rw [e] at hs
  have l1 := hs.length_le
  have l0 := List.length_pos_iff.mpr hne
  rw [List.length_drop] at l1
  omega
theorem sortP_nil : sortP [] = [] := List.perm_nil.mp (sortP_perm [])
theorem rule_nil : RuleOk [] := (lr5 6).ok
end Own

set_option Elab.async false
set_option linter.all false
set_option maxRecDepth 100000
set_option maxHeartbeats 2000000
namespace Own
open PySem PySem.Spec PyProof.Rows L2
def spRLong (C : Addr) : Sp := fun vs H Q _ => ∃ (p : Addr) (flag : List Bool) (ps : List Stf), vs = [.ref p] ∧ RlAt C H p flag ps ∧ ps.length ≤ 100 ∧ (∀ p ∈ ps, p.1.length ≤ 900) ∧ ∀ H', Same H H' → Q (.int (longL ps)) H'
theorem parted_get {ws : List (List Bool)} (h : partedB ws = true) {i j : Nat} {a b : List Bool} (hi : ws[i]? = some a) (hj : ws[j]? = some b) (hne : i ≠ j) : ¬ b <:+ a := by
  unfold partedB at h
  have h1 := List.all_eq_true.mp h i (List.mem_range.mpr (List.getElem?_eq_some_iff.mp hi).1)
  unfold partedAt at h1
  have hg : ws.getD i [] = a := by
    rw [List.getD_eq_getElem?_getD, hi]
    rfl
  rw [hg] at h1
  have hm : b ∈ ws.take i ++ ws.drop (i + 1) := by
    rw [List.mem_append]
    by_cases hlt : j < i
    · refine .inl (List.mem_of_getElem? (i := j) ?_)
      rw [List.getElem?_take_of_lt hlt]
      exact hj
    · refine .inr (List.mem_of_getElem? (i := j - (i + 1)) ?_)
      rw [List.getElem?_drop, show i + 1 + (j - (i + 1)) = j by omega]
      exact hj
  have h2 := List.all_eq_true.mp h1 b hm
  intro hs
  rw [decide_eq_true hs] at h2
  cases h2
theorem one_filter {ps : List Stf} (h : partedB (ps.map (·.1)) = true) (u : List Bool) : (ps.filter fun p => decide (p.1 <:+ u)).length ≤ 1 := by
  have pw : ps.Pairwise fun p q => ¬ (p.1 <:+ u ∧ q.1 <:+ u) := by
    rw [List.pairwise_iff_getElem]
    intro i j hi hj hij ⟨h1, h2⟩
    have gi : (ps.map (·.1))[i]? = some ps[i].1 := by rw [List.getElem?_map, List.getElem?_eq_getElem hi]; rfl
    have gj : (ps.map (·.1))[j]? = some ps[j].1 := by rw [List.getElem?_map, List.getElem?_eq_getElem hj]; rfl
    rcases List.suffix_or_suffix_of_suffix h1 h2 with s | s
    · exact parted_get h gj gi (by omega) s
    · exact parted_get h gi gj (by omega) s
  have pf := pw.filter (fun p => decide (p.1 <:+ u))
  have al : ∀ p ∈ ps.filter (fun p => decide (p.1 <:+ u)), p.1 <:+ u := fun p hp => of_decide_eq_true (List.mem_filter.mp hp).2
  revert pf al
  generalize ps.filter (fun p => decide (p.1 <:+ u)) = l
  intro pf al
  match l, pf, al with
  | [], _, _ => exact (by decide)
  | [_], _, _ => exact Nat.le_refl _
  | x :: y :: r, pf, al =>
    exact absurd ⟨al x List.mem_cons_self, al y (List.mem_cons_of_mem _ List.mem_cons_self)⟩ ((List.pairwise_cons.mp pf).1 y List.mem_cons_self)
/-- only the last bits count -/
theorem putL_tail {ps : List Stf} {u : List Bool} {n : Nat} (h : ∀ p ∈ ps, p.1.length ≤ n) : putL ps (u.drop (u.length - n)) = putL ps u := by
  unfold putL
  congr 1
  have e : ∀ p ∈ ps, decide (p.1 <:+ u.drop (u.length - n)) = decide (p.1 <:+ u) := fun p hp => by
    apply decide_eq_decide.mpr
    constructor
    · exact fun s => s.trans (List.drop_suffix _ _)
    · intro s
      refine List.suffix_of_suffix_length_le s (List.drop_suffix _ _) ?_
      rw [List.length_drop]
      have := h p hp
      have := s.length_le
      omega
  clear h
  induction ps with
  | nil => rfl
  | cons p r ih =>
    rw [List.find?_cons, List.find?_cons, e p List.mem_cons_self, ih fun q hq => e q (List.mem_cons_of_mem _ hq)]
end Own

set_option Elab.async false
set_option linter.all false
set_option maxRecDepth 100000
set_option maxHeartbeats 2000000
/-! lines: all that is put in behind a line, and the body of a message -/
namespace Own
open PySem PySem.Spec PyProof.Rows L2
theorem small5 {n : Nat} (h : n ≤ 100000) : n < sizeLine := Nat.lt_of_le_of_lt h (by decide)
theorem ls_len5 (z : List Bool) (h : z.length ≤ 100000) : (WS z).length ≤ sizeLine := by
  rw [WS_len]
  exact Nat.le_of_lt (small5 h)
theorem cat_len5 (u v : List Bool) (h : u.length + v.length ≤ 100000) : (WS u).length + (WS v).length ≤ sizeLine := by
  rw [WS_len, WS_len]
  exact Nat.le_of_lt (small5 h)
theorem puts_none {ps : List Stf} {u : List Bool} (h : putL ps u = none) : ∀ n, putsN ps n u = u
  | 0 => rfl
  | n + 1 => by
    rw [putsN_succ, puts_none h n]
    unfold stepP
    rw [h]
theorem puts_add {ps : List Stf} {u : List Bool} (g : Nat) : ∀ n, putsN ps (g + n) u = putsN ps n (putsN ps g u)
  | 0 => rfl
  | n + 1 => by
    rw [← Nat.add_assoc, putsN_succ, puts_add g n, putsN_succ]
/-- nothing more is put in -/
theorem puts_stop {ps : List Stf} {u : List Bool} {g n : Nat} (h : putL ps (putsN ps g u) = none) (hg : g ≤ n) : putsN ps n u = putsN ps g u := by
  obtain ⟨k, rfl⟩ := Nat.exists_eq_add_of_le hg
  rw [puts_add, puts_none h]
theorem puts_or (ps : List Stf) (u : List Bool) : ∀ n, (putsN ps n u).length = u.length + n ∨ putL ps (putsN ps n u) = none
  | 0 => .inl rfl
  | n + 1 => by
    rw [putsN_succ]
    unfold stepP
    cases e : putL ps (putsN ps n u) with
    | none => exact .inr e
    | some b =>
      rcases puts_or ps u n with h | h
      · refine .inl ?_
        show (putsN ps n u ++ [b]).length = _
        rw [List.length_append, h]
        rfl
      · rw [e] at h
        cases h
theorem puts_end {ps : List Stf} {u : List Bool} {n : Nat} (h : (putsN ps n u).length < u.length + n) : putL ps (putsN ps n u) = none :=
  (puts_or ps u n).elim (fun e => absurd e (by omega)) id
theorem putL_cat {ps : List Stf} (h4 : ∀ p ∈ ps, p.1.length ≤ 4) (x y : List Bool) (hy : 4 ≤ y.length) : putL ps (x ++ y) = putL ps y := by
  rw [← putL_tail (n := 4) h4, ← putL_tail (n := 4) (u := y) h4]
  congr 1
  rw [List.length_append, List.drop_append, List.drop_eq_nil_of_le (by omega : x.length ≤ x.length + y.length - 4), List.nil_append]
  congr 1
  omega
theorem puts_cat {ps : List Stf} (h4 : ∀ p ∈ ps, p.1.length ≤ 4) (x : List Bool) : ∀ (n : Nat) (y : List Bool), 4 ≤ y.length → putsN ps n (x ++ y) = x ++ putsN ps n y
  | 0, _, _ => rfl
  | n + 1, y, hy => by
    show putsN ps n (stepP ps (x ++ y)) = x ++ putsN ps n (stepP ps y)
    unfold stepP
    rw [putL_cat h4 x y hy]
    cases putL ps y with
    | none => exact puts_cat h4 x n y hy
    | some b =>
      show putsN ps n (x ++ y ++ [b]) = _
      rw [List.append_assoc]
      exact puts_cat h4 x n (y ++ [b]) (by rw [List.length_append]; omega)
theorem puts_ge (ps : List Stf) (u : List Bool) : ∀ n, u.length ≤ (putsN ps n u).length
  | 0 => Nat.le_refl _
  | n + 1 => by
    rw [putsN_succ]
    unfold stepP
    have := puts_ge ps u n
    split
    · rw [List.length_append]
      omega
    · exact this
theorem last5_cat (x z : List Bool) (h : 5 ≤ z.length) : last5 (x ++ z) = last5 z := by
  unfold last5
  rw [List.length_append, List.drop_append, List.drop_eq_nil_of_le (by omega : x.length ≤ x.length + z.length - 5), List.nil_append]
  congr 1
  omega
theorem snoc_ind {P : List Bool → Prop} (h0 : P []) (h1 : ∀ m b, P m → P (m ++ [b])) (m : List Bool) : P m := by
  have h : ∀ r : List Bool, P r.reverse := by
    intro r
    induction r with
    | nil => exact h0
    | cons b r ih =>
      rw [List.reverse_cons]
      exact h1 _ b ih
  have e := h m.reverse
  rw [List.reverse_reverse] at e
  exact e
/-- the body of a message -/
def bodyL (ps : List Stf) (m : List Bool) : List Bool := m.foldl (fun l b => putsN ps 24 (l ++ [b])) []
theorem bodyL_snoc (ps : List Stf) (m : List Bool) (b : Bool) : bodyL ps (m ++ [b]) = putsN ps 24 (bodyL ps m ++ [b]) := by
  unfold bodyL
  rw [List.foldl_append]
  rfl
theorem fill_line {ps : List Stf} {G : List Bool → Prop} (hc : Closed ps G) (h4 : ∀ p ∈ ps, p.1.length ≤ 4) {line : List Bool} (hl : G (last5 line)) (b : Bool) :
    G (last5 (putsN ps 24 (line ++ [b]))) ∧ putL ps (putsN ps 24 (line ++ [b])) = none ∧ (putsN ps 24 (line ++ [b])).length ≤ line.length + 20 := by
  obtain ⟨h1, h2⟩ := hc.2 _ hl b
  have hend : putL ps (putsN ps 24 (last5 line ++ [b])) = none := puts_end (by rw [List.length_append]; show _ < (last5 line).length + 1 + 24; omega)
  by_cases hs : line.length ≤ 5
  · have e : last5 line = line := by
      unfold last5
      rw [show line.length - 5 = 0 by omega]
      rfl
    rw [e] at h1 h2 hend
    exact ⟨h2, hend, h1⟩
  · obtain ⟨x, y, e, hy, el⟩ : ∃ x y, line = x ++ y ∧ y.length = 5 ∧ last5 line = y :=
      ⟨line.take (line.length - 5), line.drop (line.length - 5), (List.take_append_drop _ _).symm, by rw [List.length_drop]; omega, rfl⟩
    rw [el] at h1 h2 hend
    have hyl : (y ++ [b]).length = 6 := by rw [List.length_append, hy]; rfl
    have hge := puts_ge ps (y ++ [b]) 24
    rw [e, List.append_assoc, puts_cat h4 x 24 (y ++ [b]) (by omega), last5_cat _ _ (by omega), putL_cat h4 _ _ (by omega), List.length_append, List.length_append]
    exact ⟨h2, hend, by omega⟩
theorem body_ok {ps : List Stf} (hf : Fill ps) (h4 : ∀ p ∈ ps, p.1.length ≤ 4) (m : List Bool) (b : Bool) :
    putL ps (putsN ps 24 (bodyL ps m ++ [b])) = none ∧ (putsN ps 24 (bodyL ps m ++ [b])).length ≤ (bodyL ps m).length + 20 := by
  obtain ⟨G, hc⟩ := hf
  have hG : ∀ m : List Bool, G (last5 (bodyL ps m)) := by
    refine snoc_ind hc.1 fun m b ih => ?_
    rw [bodyL_snoc]
    exact (fill_line hc h4 ih b).1
  exact (fill_line hc h4 (hG m) b).2
theorem body_len {ps : List Stf} (hf : Fill ps) (h4 : ∀ p ∈ ps, p.1.length ≤ 4) (m : List Bool) : (bodyL ps m).length ≤ 20 * m.length := by
  refine snoc_ind (P := fun m => (bodyL ps m).length ≤ 20 * m.length) (Nat.le_refl _) (fun m b ih => ?_) m
  rw [bodyL_snoc]
  have := (body_ok hf h4 m b).2
  rw [List.length_append]
  show _ ≤ 20 * (m.length + 1)
  omega
theorem puts_perm {ps qs : List Stf} (h : ∀ u, putL qs u = putL ps u) : ∀ (n : Nat) (u : List Bool), putsN qs n u = putsN ps n u
  | 0, _ => rfl
  | n + 1, u => by
    rw [putsN_succ, putsN_succ, puts_perm h n u]
    unfold stepP
    rw [h]
theorem fill_perm {ps qs : List Stf} (h : ∀ u, putL qs u = putL ps u) (hf : Fill ps) : Fill qs := by
  obtain ⟨G, h0, h1⟩ := hf
  refine ⟨G, h0, fun s hs b => ?_⟩
  rw [puts_perm h]
  exact h1 s hs b
theorem body_perm {ps qs : List Stf} (h : ∀ u, putL qs u = putL ps u) (m : List Bool) : bodyL qs m = bodyL ps m := by
  unfold bodyL
  congr 1
  funext l b
  exact puts_perm h 24 _
theorem take_snoc {m : List Bool} {i : Nat} {b : Bool} (h : m[i]? = some b) : m.take (i + 1) = m.take i ++ [b] := by
  rw [List.take_add_one, h]
  rfl
/-- a for that is left by break, too: what stands behind it is shown once -/
theorem for_itB {J : It} {n : Nat} {G : Hp → Prop} {Y : Nat → Hp → V → Hp → Prop} (w : Walk J n G Y) {g : TG} {tb : TS} {D : Ends} {σ : L2.St} {H : Hp} (Pv : Nat → L2.St → Hp → Prop) (B : L2.St → Hp → Prop) (h0 : Pv 0 σ H) (hG : ∀ i σ H, i ≤ n → Pv i σ H → G H)
    (hn : ∀ σ H, Pv n σ H → B σ H)
    (hs : (∀ σ H, B σ H → D.nx σ H) → ∀ i x σ H H', i < n → Pv i σ H → Y i H x H' → g x σ H' fun σ2 H2 => tb { D with nx := Pv (i + 1), ct := Pv (i + 1), bk := D.nx } σ2 H2) (hd : ∀ σ H, B σ H → D.nx σ H) :
    ∃ W : Nat → Nat → L2.St → Hp → Prop, (∃ m, W 0 m σ H) ∧ ∀ i m σ H, W i m σ H →
      (J.stop i H ∧ D.nx σ H) ∨ (J.go i H ∧ ∃ N : L2.St → Hp → Prop, (∀ σ' H', N σ' H' → ∃ m', m' < m ∧ W (i + 1) m' σ' H') ∧ ∀ x H', J.yld i H x H' → g x σ H' fun σ2 H2 => tb { D with nx := N, ct := N, bk := D.nx } σ2 H2) :=
  for_it w Pv h0 hG (hs hd) fun σ H p => hd σ H (hn σ H p)
open PySem.StrLaws in
theorem find_or (x y : Str) : (Txt.find x y = -1 ∧ ∀ i, ¬ At x y x.length i) ∨ ∃ i : Nat, Txt.find x y = (i : Int) ∧ At x y x.length i ∧ ∀ k, k < i → ¬ At x y x.length k := by
  rcases occ_head x y 1 (Nat.le_refl 1) with ⟨e, h⟩ | ⟨i, r, e, h1, h2⟩
  · refine .inl ⟨?_, h⟩
    unfold Txt.find
    rw [e]
  · refine .inr ⟨i, ?_, h1, h2⟩
    unfold Txt.find
    rw [e]
theorem find_bound (x y : Str) : -1 ≤ Txt.find x y ∧ Txt.find x y ≤ (x.length : Int) := by
  rcases find_or x y with ⟨e, _⟩ | ⟨i, e, h, _⟩
  · rw [e]
    omega
  · rw [e]
    have := h.1
    omega
theorem find_self (x : Str) : Txt.find x x = 0 := by
  have h0 : PySem.StrLaws.At x x x.length 0 := by
    refine ⟨by omega, ?_⟩
    unfold Builtin.Str.subAt
    rw [Nat.zero_add]
    show (x.cps.extract 0 x.cps.size == x.cps) = true
    rw [Array.extract_size]
    exact beq_self_eq_true _
  rcases find_or x x with ⟨_, h⟩ | ⟨i, e, _, h⟩
  · exact absurd h0 (h 0)
  · cases i with
    | zero => exact e
    | succ i => exact absurd h0 (h 0 (Nat.succ_pos i))
theorem log_small {n : Int} (h1 : -100000 ≤ n) (h2 : n ≤ 100000) : n.natAbs.log2 < 1920 := by
  by_cases h0 : n.natAbs = 0
  · rw [h0]
    decide
  · exact Nat.lt_trans ((Nat.log2_lt h0).mpr (show n.natAbs < 2 ^ 17 by omega)) (by decide)
theorem bit_at {w : List Bool} {i : Nat} {c : Nat} (h : (WS w).cps[i]? = some c) : ∃ b, w[i]? = some b ∧ (⟨#[c]⟩ : Str) = WS [b] := by
  rw [WS_get] at h
  obtain ⟨b, hb, rfl⟩ := Option.map_eq_some_iff.mp h
  exact ⟨b, hb, rfl⟩
/-! ### promises -/
def spFilled (C : Addr) : Sp := fun vs H Q _ => ∃ (p : Addr) (flag : List Bool) (ps : List Stf) (line : List Bool), vs = [.ref p, .str (WS line)] ∧ RlAt C H p flag ps ∧ putL ps (putsN ps 24 line) = none ∧ line.length ≤ 90000 ∧ ∀ H', Same H H' → Q (.str (WS (putsN ps 24 line))) H'
def spBody (C : Addr) : Sp := fun vs H Q _ => ∃ (p : Addr) (flag : List Bool) (ps : List Stf) (m : List Bool), vs = [.ref p, .str (WS m)] ∧ RlAt C H p flag ps ∧ Fill ps ∧ (∀ p ∈ ps, p.1.length ≤ 4) ∧ m.length ≤ 400 ∧ ∀ H', Same H H' → Q (.str (WS (bodyL ps m))) H'
def spFlagAt (C : Addr) : Sp := fun vs H Q _ => ∃ (p : Addr) (flag : List Bool) (ps : List Stf) (m : List Bool), vs = [.ref p, .str (WS m)] ∧ RlAt C H p flag ps ∧ Fill ps ∧ (∀ p ∈ ps, p.1.length ≤ 4) ∧ m.length ≤ 400 ∧ flag.length ≤ 900 ∧ ∀ H', Same H H' → Q (.int (Txt.find (WS (bodyL ps m ++ flag)) (WS flag))) H'
def spLBody : Sp := fun vs H Q _ => ∃ (t : Addr) (flag : List Bool) (ps : List Stf) (m : List Bool), vs = [.ref t, .str (WS m)] ∧ RuAt H t flag ps ∧ Fill ps ∧ ps.length ≤ 2 ∧ (∀ p ∈ ps, p.1.length ≤ 4) ∧ m.length ≤ 40 ∧ ∀ H', Same H H' → Q (.str (WS (bodyL ps m))) H'
end Own

set_option Elab.async false
set_option linter.all false
set_option maxRecDepth 100000
set_option maxHeartbeats 4000000
namespace La
open PySem PySem.Spec PyProof.Rows L2 Own
open C8 (Cal Mak Met pe_c pe_mk pe_mt pe_mt0 Def fnArgs fnBody fnScope fn0 fnScope_by)
def topS (i : Nat) : Stmt := PySem.Challenge.pw_unseenflips_k24_flags_in_bodies.main.body.getD i (.Pass ⟨0, 0, 0, 0⟩)
section
variable {P : Program} {w : World} {K : PySem.W.Frag} {mg : Str → Option Value} {base : Heap}

abbrev s_seed : Stmt := (topS 24)
theorem sc_seed : FnScope ["_law_script", "_law_k", "_law_cell"] ["_law_script", "_law_k"] (fnScope s_seed) := fnScope_by (by decide +kernel)
theorem ok_seed {f : Addr} {fd : FuncData} (F : C8.Fun K "_law_seed" "_law_seed" s_seed f fd) (M : Mg mg) : FnOk P w K mg base CX0 1 f fd ["_law_script", "_law_k"] (spSeed K) := by
  refine fn0 F sc_seed (fun vs H Q E h => ?_) (fun cdv A outer s H vs Q E hr h => ?_)
  · obtain ⟨a, ns, k, rfl, _⟩ := h
    rfl
  · obtain ⟨a, ns, k, rfl, hS, hl, hk0, hk1, q⟩ := h
    refine ⟨_, (pss_cons (ps_set (i := 2) sc_seed.nd rfl (Or.inl rfl) (pe_op op_add (pe_op op_mul pe_int (pv 1)) pe_int))
        (C8.pss_cut (ps_if (pt_cmpR op_lt (pv 1) (pe_callB call_len_seq (by rfl) M.len PySem.boot_len (pa_cons (pv 0) pa_nil)) (nomark _))
          (pss_one (ps_set (i := 2) sc_seed.nd rfl (Or.inl rfl) (pe_callB call_abs (by rfl) M.abs (by decide +kernel) (pa_cons (pe_ix (r := rIxL K) ix_list (pv 0) (pv 1) (fun _ _ => rfl)) pa_nil))))
          (pss_one (ps_if (pt_cmpR op_gt (pe_callB call_len_seq (by rfl) M.len PySem.boot_len (pa_cons (pv 0) pa_nil)) pe_int (nomark _))
              (pss_one (ps_set (i := 2) sc_seed.nd rfl (Or.inl rfl) (pe_op op_add (pv 2) (pe_op op_mul (pe_op op_mod (pe_callTy call_int1 (by rfl) M.int (by decide +kernel) (pa_cons (pe_callB call_abs (by rfl) M.abs (by decide +kernel) (pa_cons (pe_ix (r := rIxL K) ix_list (pv 0) (pe_op op_mod (pe_callTy call_int1 (by rfl) M.int (by decide +kernel) (pa_cons (pv 1) pa_nil)) (pe_callB call_len_seq (by rfl) M.len PySem.boot_len (pa_cons (pv 0) pa_nil))) (fun _ _ => rfl)) pa_nil)) pa_nil)) pe_int) pe_int))))
              pss_nil)))
        (pss_one (ps_ret (pe_lst (pa_cons (pe_ifExp (pt_cmpR op_ge (pv 2) (pe_op op_pow pe_int pe_int) (nomark _)) (pv 2) pe_int) (pa_cons (pe_op op_add (pe_op op_mod (pe_callTy call_int1 (by rfl) M.int (by decide +kernel) (pa_cons (pe_op op_add (pe_op op_mul (pe_op op_mod (pe_callTy call_int1 (by rfl) M.int (by decide +kernel) (pa_cons (pv 2) pa_nil)) pe_int) pe_int) (pe_op op_mul pe_int (pv 1))) pa_nil)) pe_int) pe_int) pa_nil))))))), ?_⟩
    refine ⟨.int k, rfl, _, k, rfl, rfl, .inl ⟨by decide, by decide⟩, _, _, rfl, rfl, ?_⟩
    refine ⟨fun σ' H' => H' = H ∧ ∃ y : Int, 0 ≤ y ∧ σ' = [some (.ref a), some (.int k), some (.int y)], ?_, ?_⟩
    · refine ⟨.int k, rfl, .ref a, rfl, a, ns.map V.int, rfl, .inl hS, _, _, rfl, rfl, _, rfl, ite2 (fun e => ?_) (fun e => ?_)⟩
      · have e1 : k.toNat < ns.length := by
          have := of_decide_eq_true e
          rw [List.length_map] at this
          omega
        have g : atI (ns.map V.int) k = some (.int ns[k.toNat]) := by
          have := atI_nat (xs := ns.map V.int) (j := k.toNat) (v := .int ns[k.toNat]) (by simp [e1])
          rw [Int.toNat_of_nonneg hk0] at this
          exact this
        exact ⟨.ref a, rfl, .int k, rfl, a, _, _, _, rfl, rfl, hS, g, _, rfl, rfl, _, by split <;> omega, rfl⟩
      · refine ⟨.ref a, rfl, a, ns.map V.int, rfl, .inl hS, _, _, rfl, rfl, _, rfl, ite2 (fun e => ?_) (fun e => ?_)⟩
        · have e1 : 0 < ns.length := by
            have := of_decide_eq_true e
            rw [List.length_map] at this
            omega
          have hm0 : 0 ≤ k % ((ns.length : Nat) : Int) := Int.emod_nonneg _ (by omega)
          have hm1 : k % ((ns.length : Nat) : Int) < (ns.length : Nat) := Int.emod_lt_of_pos _ (by omega)
          have e2 : (k % ((ns.length : Nat) : Int)).toNat < ns.length := by omega
          have g : atI (ns.map V.int) (k % ((ns.length : Nat) : Int)) = some (.int ns[(k % ((ns.length : Nat) : Int)).toNat]) := by
            have := atI_nat (xs := ns.map V.int) (j := (k % ((ns.length : Nat) : Int)).toNat) (v := .int ns[(k % ((ns.length : Nat) : Int)).toNat]) (by simp [e2])
            rw [Int.toNat_of_nonneg hm0] at this
            exact this
          refine ⟨_, rfl, .ref a, rfl, .int k, rfl, .inl ⟨_, rfl, .ref a, rfl, a, ns.map V.int, rfl, .inl hS, _, _, rfl, rfl, (by rw [List.length_map]; omega), a, _, _, _, rfl, rfl, hS, (by rw [List.length_map]; exact g), _, rfl, .inl ⟨_, rfl, _, _, rfl, rfl, (show (0 : Int) < 2147483629 by decide), _, _, rfl, rfl, .inl ⟨?_, ?_⟩, _, _, rfl, rfl, rfl, _, ?_, rfl⟩⟩⟩
          all_goals (have := Int.emod_nonneg (if ns[(k % ((ns.length : Nat) : Int)).toNat] < 0 then -ns[(k % ((ns.length : Nat) : Int)).toNat] else ns[(k % ((ns.length : Nat) : Int)).toNat]) (show (2147483629 : Int) ≠ 0 by decide); have := Int.emod_lt_of_pos (if ns[(k % ((ns.length : Nat) : Int)).toNat] < 0 then -ns[(k % ((ns.length : Nat) : Int)).toNat] else ns[(k % ((ns.length : Nat) : Int)).toNat]) (show (0 : Int) < 2147483629 by decide); omega)
        · exact ⟨rfl, _, by omega, rfl⟩
    · rintro σ' H' ⟨rfl, y, hy, rfl⟩
      have m0 := Int.emod_nonneg y (show (2147483629 : Int) ≠ 0 by decide)
      have m1 := Int.emod_lt_of_pos y (show (0 : Int) < 2147483629 by decide)
      refine ⟨.int y, rfl, _, _, rfl, rfl, ⟨by decide, by decide, by decide⟩, _, _, rfl, rfl, _, rfl, ?_⟩
      refine ite2 (fun e => ?_) (fun e => ?_)
      · refine ⟨.int y, rfl, .int y, rfl, .inl ⟨_, rfl, _, _, rfl, rfl, (show (0 : Int) < 2147483629 by decide), _, _, rfl, rfl, .inl ⟨by omega, by omega⟩, .int k, rfl, _, _, rfl, rfl, .inl ⟨by decide, by decide⟩, _, _, rfl, rfl, .inl ⟨_, rfl, _, _, rfl, rfl, (show (0 : Int) < 2147483629 by decide), _, _, rfl, rfl, (by show 2 ≤ sizeLine; decide), fun p hp => q p _ hp ⟨_, _, upd_same, hy, (mod_box _).1, (mod_box _).2⟩ (same_new hp)⟩⟩⟩
      · refine ⟨.int y, rfl, .inl ⟨_, rfl, _, _, rfl, rfl, (show (0 : Int) < 2147483629 by decide), _, _, rfl, rfl, .inl ⟨by omega, by omega⟩, .int k, rfl, _, _, rfl, rfl, .inl ⟨by decide, by decide⟩, _, _, rfl, rfl, .inl ⟨_, rfl, _, _, rfl, rfl, (show (0 : Int) < 2147483629 by decide), _, _, rfl, rfl, (by show 2 ≤ sizeLine; decide), fun p hp => q p _ hp ⟨_, _, upd_same, Int.le_refl 0, (mod_box _).1, (mod_box _).2⟩ (same_new hp)⟩⟩⟩

abbrev s_choose : Stmt := (topS 25)
theorem sc_choose : FnScope ["_law_box", "_law_many", "_law_digit", "_law_raw"] ["_law_box", "_law_many"] (fnScope s_choose) := fnScope_by (by decide +kernel)
theorem ok_choose {f : Addr} {fd : FuncData} (F : C8.Fun K "_law_choose" "_law_choose" s_choose f fd) (M : Mg mg) : FnOk P w K mg base CX0 1 f fd ["_law_box", "_law_many"] spChoose := by
  refine fn0 F sc_choose (fun vs H Q E h => ?_) (fun cdv A outer s H vs Q E hr h => ?_)
  · obtain ⟨b, m, rfl, _⟩ := h
    rfl
  · obtain ⟨b, m, rfl, ⟨c, d, hb, hc, hd0, hd1⟩, hm0, hm1, q⟩ := h
    refine ⟨_, (pss_cons (ps_if (pt_cmpR op_gt (pe_ix (r := rIxL K) ix_list (pv 0) pe_int (fun _ _ => rfl)) pe_int (nomark _))
          (pss_cons (ps_set (i := 2) sc_choose.nd rfl (Or.inl rfl) (pe_op op_mod (pe_callTy call_int1 (by rfl) M.int (by decide +kernel) (pa_cons (pe_ix (r := rIxL K) ix_list (pv 0) pe_int (fun _ _ => rfl)) pa_nil)) (pv 1)))
            (pss_cons (ps_asg (pe_op op_fdiv (pe_ix (r := rIxL K) ix_list (pv 0) pe_int (fun _ _ => rfl)) (pv 1)) (pg_sub (pv 0) pe_int set_list))
            (pss_one (ps_ret (pv 2)))))
          pss_nil)
        (pss_cons (ps_set (i := 3) sc_choose.nd rfl (Or.inl rfl) (pe_op op_mod (pe_callTy call_int1 (by rfl) M.int (by decide +kernel) (pa_cons (pe_op op_add (pe_op op_mul (pe_ix (r := rIxL K) ix_list (pv 0) pe_int (fun _ _ => rfl)) pe_int) pe_int) pa_nil)) pe_int))
        (pss_cons (ps_asg (pe_op op_add (pe_op op_mod (pe_callTy call_int1 (by rfl) M.int (by decide +kernel) (pa_cons (pe_op op_add (pe_op op_mul (pv 3) pe_int) pe_int) pa_nil)) pe_int) pe_int) (pg_sub (pv 0) pe_int set_list))
        (pss_one (ps_ret (pe_op op_mod (pe_callTy call_int1 (by rfl) M.int (by decide +kernel) (pa_cons (pe_op op_fdiv (pe_op op_add (pe_op op_mul (pv 3) pe_int) (pe_ix (r := rIxL K) ix_list (pv 0) pe_int (fun _ _ => rfl))) pe_int) pa_nil)) (pv 1))))))), ?_⟩
    have S0 : SqL K H b [.int c, .int d] := .inl (.inl hb)
    refine ⟨.ref b, rfl, b, _, 0, _, rfl, rfl, S0, atI0, _, _, rfl, rfl, _, rfl, ite2 (fun e => ?_) (fun e => ?_)⟩
    · have e1 : (0 : Int) < c := of_decide_eq_true e
      refine ⟨.ref b, rfl, b, _, 0, _, rfl, rfl, S0, atI0, .inl ⟨_, rfl, .int m, rfl, _, _, rfl, rfl, (show (0 : Int) < m by omega), ?_⟩⟩
      refine ⟨.ref b, rfl, b, _, 0, _, rfl, rfl, S0, atI0, .int m, rfl, _, _, rfl, rfl, ⟨by omega, by omega⟩, ?_⟩
      refine ⟨.ref b, rfl, b, _, 0, 0, rfl, rfl, hb, rfl, ?_⟩
      refine ⟨_, rfl, q _ _ (mod_in c (show (0 : Int) < m by omega)).1 (mod_in c (show (0 : Int) < m by omega)).2 ⟨_, _, upd_same, Int.ediv_nonneg hc (by omega), hd0, hd1⟩ Off.set⟩
    · refine ⟨.ref b, rfl, b, _, 1, _, rfl, rfl, S0, atI1, _, _, rfl, rfl, .inl ⟨by omega, by omega⟩, _, _, rfl, rfl, .inl ⟨_, rfl, _, _, rfl, rfl, (show (0 : Int) < 2147483563 by decide), ?_⟩⟩
      have r0 := mod_in (d * 40014 + 73) (show (0 : Int) < 2147483563 by decide)
      refine ⟨_, rfl, _, _, rfl, rfl, .inl ⟨by omega, by omega⟩, _, _, rfl, rfl, .inl ⟨_, rfl, _, _, rfl, rfl, (show (0 : Int) < 2147483629 by decide), _, _, rfl, rfl, ?_⟩⟩
      refine ⟨.ref b, rfl, b, _, 1, 1, rfl, rfl, hb, rfl, ?_⟩
      have S1 : SqL K (upd H b (.lst [.int c, .int ((((d * 40014 + 73) % 2147483563) * 40692 + 4703) % 2147483629 + 1)])) b [.int c, .int ((((d * 40014 + 73) % 2147483563) * 40692 + 4703) % 2147483629 + 1)] := .inl (.inl upd_same)
      refine ⟨_, rfl, _, _, rfl, rfl, .inl ⟨by omega, by omega⟩, .ref b, rfl, b, _, 1, _, rfl, rfl, S1, atI1, _, _, rfl, rfl, _, _, rfl, rfl, ⟨by decide, by decide⟩, .inl ⟨_, rfl, .int m, rfl, _, _, rfl, rfl, (show (0 : Int) < m by omega), ?_⟩⟩
      exact q _ _ (mod_in _ (show (0 : Int) < m by omega)).1 (mod_in _ (show (0 : Int) < m by omega)).2 ⟨_, _, upd_same, hc, (mod_box _).1, (mod_box _).2⟩ Off.set

abbrev s_is_word : Stmt := (topS 5)
theorem sc_is_word : FnScope ["value", "least", "letter"] ["value", "least"] (fnScope s_is_word) := fnScope_by (by decide +kernel)
theorem ok_is_word {f : Addr} {fd : FuncData} (F : C8.Fun K "is_word" "is_word" s_is_word f fd) (M : Mg mg) : FnOk P w K mg base CX0 1 f fd ["value", "least"] spIsWord := by
  refine fn0 F sc_is_word (fun vs H Q E h => ?_) (fun cdv A outer s H vs Q E hr h => ?_)
  · obtain ⟨z, n, rfl, _⟩ := h
    rfl
  · obtain ⟨z, n, rfl, hz, q⟩ := h
    refine ⟨_, (pss_one (ps_ret (pe_and (pe_callB call_isi (by rfl) M.isinstance (by decide +kernel) (pa_cons (pv 0) (pa_cons (pe_bltn (v := .ty "str") (u := .type "str") (by rfl) M.str (by decide +kernel) rfl) pa_nil))) (pe_and (pe_cmpR op_ge (pe_callB call_len_str (by rfl) M.len PySem.boot_len (pa_cons (pv 0) pa_nil)) (pv 1) (nomark _)) (pe_one (pe_callB (cr_all rfl) (by rfl) M.all (by decide +kernel) (pa_cons (pe_lc (own := [("letter", 2)]) (g := (gName 2)) rfl sc_is_word.nd (pi_str (pv 0)) (blkOk_by (N := ["value", "least", "letter"]) (sc := fnScope s_is_word) (by decide +kernel)) (fun _ _ _ _ _ => (pg_name (i := 2) sc_is_word.nd rfl (Or.inl rfl))) (fun _ _ _ _ _ => pts_nil) (fun _ _ _ _ _ => (pe_cmpR op_in_sign (pv 2) pe_str (by rfl)))) pa_nil))))))), ?_⟩
    refine ⟨.str (WS z), rfl, _, _, _, _, true, rfl, .ty "str", .base (.str _), kit_ty (by decide +kernel), true, rfl, iteT ?_⟩
    refine ⟨.str (WS z), rfl, _, rfl, ls_len z hz, .int n, rfl, _, _, rfl, rfl, _, rfl, ?_⟩
    rw [WS_len]
    refine ite2 (fun e => ?_) (fun e => ?_)
    · have e1 := of_decide_eq_true e
      refine ⟨.str (WS z), rfl, _, rfl, fun D hD => ?_⟩
      refine lc_it walk_str (fun i H1 => H1 D = some (.lst ((List.replicate i true).map V.bl)) ∧ Same H H1) ⟨upd_same, same_new hD⟩ (fun _ _ _ _ => trivial) (fun i x H1 H2 hi hp hy => ?_) (fun H1 hp => ?_)
      · obtain ⟨rfl, c, hc, rfl⟩ := hy
        obtain ⟨eD, sm⟩ := hp
        rw [WS_get] at hc
        obtain ⟨b, hb, rfl⟩ := Option.map_eq_some_iff.mp hc
        have hm : decide (cd b ∈ ("01" : Str).cps.toList) = true := by cases b <;> decide +kernel
        refine ⟨rfl, _, rfl, cd b, _, rfl, rfl, (List.replicate i true).map V.bl, eD, ?_, ?_, ?_⟩
        · rw [List.length_map, List.length_replicate]
          rw [WS_size] at hi
          exact small1000 (by omega)
        · rw [upd_same, hm, List.replicate_succ', List.map_append]
          rfl
        · intro a o ha
          rw [upd_ne (ne_of_none ha hD)]
          exact sm a o ha
      · obtain ⟨eD, sm⟩ := hp
        refine ⟨D, List.replicate (WS z).cps.size true, rfl, .inl (.inl eD), ?_⟩
        have h1 : (List.replicate (WS z).cps.size true).all id = true := by simp
        rw [h1]
        rw [decide_eq_true e1] at q
        exact q H1 sm
    · have e1 : decide (n ≤ (z.length : Int)) = false := by
        cases h : decide (n ≤ (z.length : Int)) with
        | false => rfl
        | true => exact absurd h e
      rw [e1] at q
      exact q H (Same.refl H)

abbrev s_is_bit : Stmt := (topS 6)
theorem sc_is_bit : FnScope ["value"] ["value"] (fnScope s_is_bit) := fnScope_by (by decide +kernel)
theorem ok_is_bit {f : Addr} {fd : FuncData} (F : C8.Fun K "is_bit" "is_bit" s_is_bit f fd) (M : Mg mg) (c_is_word_2 : Cal P w K mg base 1 "is_word" spIsWord []) : FnOk P w K mg base CX0 2 f fd ["value"] spIsBit := by
  refine fn0 F sc_is_bit (fun vs H Q E h => ?_) (fun cdv A outer s H vs Q E hr h => ?_)
  · obtain ⟨z, rfl, _⟩ := h
    rfl
  · obtain ⟨z, rfl, hz, q⟩ := h
    refine ⟨_, (pss_one (ps_ret (pe_and (pe_c c_is_word_2 hr (by decide) (by rfl) (pa_cons (pv 0) (pa_cons pe_int pa_nil))) (pe_one (pe_cmpR op_eq (pe_callB call_len_str (by rfl) M.len PySem.boot_len (pa_cons (pv 0) pa_nil)) pe_int (nomark _)))))), ?_⟩
    refine ⟨.str (WS z), rfl, z, 1, rfl, hz, fun H1 s1 => ⟨_, rfl, ite2 (fun e => ?_) (fun e => ?_)⟩⟩
    · refine ⟨.str (WS z), rfl, _, rfl, ls_len z hz, rfl, ?_⟩
      have e1 : decide (V.int ((WS z).length : Int) = V.int 1) = decide (z.length = 1) := by
        rw [WS_len]
        apply decide_eq_decide.mpr
        constructor
        · intro h
          injection h with h
          omega
        · intro h
          rw [h]
          rfl
      rw [e1]
      exact q H1 s1
    · have e1 : decide (z.length = 1) = false := decide_eq_false fun h => e (decide_eq_true (by omega))
      rw [e1] at q
      exact q H1 s1
abbrev s_is_stuff : Stmt := (topS 14)
theorem sc_is_stuff : FnScope ["value"] ["value"] (fnScope s_is_stuff) := fnScope_by (by decide +kernel)
theorem ok_is_stuff {f : Addr} {fd : FuncData} (F : C8.Fun K "is_stuff" "is_stuff" s_is_stuff f fd) (M : Mg mg) (c_is_word_2 : Cal P w K mg base 1 "is_word" spIsWord []) (c_is_bit : Cal P w K mg base 2 "is_bit" spIsBit []) : FnOk P w K mg base CX0 3 f fd ["value"] spIsStuff := by
  refine fn0 F sc_is_stuff (fun vs H Q E h => ?_) (fun cdv A outer s H vs Q E hr h => ?_)
  · obtain ⟨v, p, rfl, _⟩ := h
    rfl
  · obtain ⟨v, ⟨p, b⟩, rfl, ⟨t, rfl, ht⟩, hne, hl, q⟩ := h
    refine ⟨_, (pss_one (ps_ret (pe_and (pe_callB call_isi (by rfl) M.isinstance (by decide +kernel) (pa_cons (pv 0) (pa_cons (pe_bltn (v := .ty "tuple") (u := .type "tuple") (by rfl) M.tuple (by decide +kernel) rfl) pa_nil))) (pe_and (pe_cmpR op_eq (pe_callB call_len_seq (by rfl) M.len PySem.boot_len (pa_cons (pv 0) pa_nil)) pe_int (nomark _)) (pe_and (pe_c c_is_word_2 hr (by decide) (by rfl) (pa_cons (pe_ix (r := rIxT K) ix_tup (pv 0) pe_int (fun _ _ => rfl)) (pa_cons pe_int pa_nil))) (pe_one (pe_c c_is_bit hr (by decide) (by rfl) (pa_cons (pe_ix (r := rIxT K) ix_tup (pv 0) pe_int (fun _ _ => rfl)) pa_nil)))))))), ?_⟩
    have hp : 0 < p.length := List.length_pos_iff.mpr hne
    refine ⟨.ref t, rfl, _, _, _, _, true, rfl, .ty "tuple", .base (.tup ht), kit_ty (by decide +kernel), true, rfl, iteT ?_⟩
    refine ⟨.ref t, rfl, t, _, rfl, .inr (.inl (.inl ht)), rfl, _, rfl, ?_⟩
    refine iteT ⟨.ref t, rfl, t, _, 0, _, rfl, rfl, .inl (.inl ht), atI0, p, 1, rfl, by simp at hl; omega, fun H1 s1 => ⟨_, rfl, ?_⟩⟩
    rw [decide_eq_true (show (1 : Int) ≤ (p.length : Int) by omega)]
    refine iteT ⟨.ref t, rfl, t, _, 1, _, rfl, rfl, .inl (.inl (s1 _ _ ht)), atI1, [b], rfl, (by show 1 ≤ 1000; decide), fun H2 s2 => ?_⟩
    exact q H2 (s1.trans s2)
abbrev s_one_ends_with_another : Stmt := (topS 15)
theorem sc_one_ends_with_another : FnScope ["patterns", "at", "pattern", "other"] ["patterns"] (fnScope s_one_ends_with_another) := fnScope_by (by decide +kernel)
theorem ok_one_ends {f : Addr} {fd : FuncData} (F : C8.Fun K "one_ends_with_another" "one_ends_with_another" s_one_ends_with_another f fd) (M : Mg mg) : FnOk P w K mg base CX0 1 f fd ["patterns"] spOneEnds := by
  refine fn0 F sc_one_ends_with_another (fun vs H Q E h => ?_) (fun cdv A outer s H vs Q E hr h => ?_)
  · obtain ⟨l, ws, rfl, _⟩ := h
    rfl
  · obtain ⟨l, ws, rfl, hl, hz, q⟩ := h
    refine ⟨_, (pss_cons (ps_for PassesOwn.never rfl (pi_enum (by rfl) M.enumerate (pa_cons (pv 0) pa_nil)) (pg_tup rfl (pgs_cons (pg_name (i := 1) sc_one_ends_with_another.nd rfl (Or.inl rfl)) (pgs_cons (pg_name (i := 2) sc_one_ends_with_another.nd rfl (Or.inl rfl)) pgs_nil)))
          (pss_one (ps_for PassesOwn.never rfl (pi_list (pe_op op_cat (pe_slice sl_list (pv 0) po_none (po_some (pv 1))) (pe_slice sl_list (pv 0) (po_some (pe_op op_add (pv 1) pe_int)) po_none))) (pg_name (i := 3) sc_one_ends_with_another.nd rfl (Or.inl rfl))
              (pss_one (ps_if (pt_val (pe_m1 PySem.F.slot_str_endswith PySem.F.type_str_endswith mt_endswith (pv 2) (pv 3)))
                  (pss_one (ps_ret pe_bl))
                  pss_nil)))))
        (pss_one (ps_ret pe_bl))), ?_⟩
    refine ⟨.ref l, rfl, l, _, rfl, .inl (.inl hl), ?_⟩
    refine for_it (walk_enum (K := K) (a := l) (xs := strV ws)) (fun i σ H1 => ∃ x1 x2 x3, σ = [some (.ref l), x1, x2, x3] ∧ Same H H1 ∧ ((List.range ws.length).take i).all (partedAt ws) = true)
      ⟨none, none, none, rfl, Same.refl H, rfl⟩ (fun i σ H1 _ hp => ?_) (fun i x σ H1o H1 hi hp hy => ?_) (fun σ H1 hp => ?_)
    · obtain ⟨_, _, _, _, s1, _⟩ := hp
      exact .inl (.inl (s1 _ _ hl))
    · obtain ⟨T, x1, y1, rfl, hT, rfl, g1, g2⟩ := hy
      obtain ⟨x1, x2, x3, rfl, s1, hall⟩ := hp
      cases g1
      obtain ⟨pat, hpat, rfl⟩ := strV_get g2
      rw [strV_len] at hi
      have sT : Same H1o (upd H1o T (.tup [V.int (i : Nat), V.str (WS pat)])) := same_new hT
      have s2 := s1.trans sT
      refine ⟨T, _, rfl, .inl (.inl upd_same), rfl, _, _, rfl, _, _, rfl, rfl, ?_⟩
      refine ⟨.ref l, rfl, .int (i : Nat), rfl, _, rfl, l, _, rfl, .inl (.inl (s2 _ _ hl)), fun p1 hp1 => ?_⟩
      have s3 := s2.trans (same_new (o := .lst (cutV (strV ws) none (some (i : Int)))) hp1)
      refine ⟨.ref l, rfl, .int (i : Nat), rfl, _, _, rfl, rfl, _, rfl, l, _, rfl, .inl (.inl (s3 _ _ hl)), fun p2 hp2 => ?_⟩
      have s4 := s3.trans (same_new (o := .lst (cutV (strV ws) (some ((i : Int) + 1)) none)) hp2)
      have e1 : cutV (strV ws) none (some (i : Int)) = strV (ws.take i) := by rw [cutV_to, strV_take]
      have e2 : cutV (strV ws) (some ((i : Int) + 1)) none = strV (ws.drop (i + 1)) := by
        rw [show ((i : Int) + 1) = ((i + 1 : Nat) : Int) from rfl, cutV_from _ (by rw [strV_len]; omega), strV_drop]
      have n12 : p1 ≠ p2 := ne_of_none upd_same hp2
      refine ⟨p1, p2, strV (ws.take i), strV (ws.drop (i + 1)), rfl, rfl, by rw [upd_ne n12, upd_same, e1], by rw [upd_same, e2], ?_, fun p hp => ?_⟩
      · rw [strV_len, strV_len, List.length_take, List.length_drop]
        exact Nat.le_of_lt (small1000 (by omega))
      have s5 := s4.trans (same_new (o := .lst (strV (ws.take i) ++ strV (ws.drop (i + 1)))) hp)
      rw [← strV_app] at s5 ⊢
      refine ⟨p, rfl, ⟨_, .inl (.inl upd_same)⟩, ?_⟩
      have hgd : ws.getD i [] = pat := by rw [List.getD_eq_getElem?_getD, hpat]; rfl
      refine for_it (walk_list (K := K) (a := p) (xs := strV (ws.take i ++ ws.drop (i + 1)))) (fun j σ H2 => ∃ x3, σ = [some (.ref l), some (.int (i : Nat)), some (.str (WS pat)), x3] ∧ Same H H2 ∧ H2 p = some (.lst (strV (ws.take i ++ ws.drop (i + 1)))) ∧ ((ws.take i ++ ws.drop (i + 1)).take j).all (fun o => !(decide (o <:+ pat))) = true)
        ⟨x3, rfl, s5, upd_same, rfl⟩ (fun j σ H2 _ hp => ?_) (fun j x σ H2o H2 hj hp hy => ?_) (fun σ H2 hp => ?_)
      · obtain ⟨_, _, _, e, _⟩ := hp
        exact .inl (.inl e)
      · obtain ⟨rfl, hx⟩ := hy
        obtain ⟨x3, rfl, s6, ep, hal⟩ := hp
        obtain ⟨o, ho, rfl⟩ := strV_get hx
        refine ⟨.str (WS pat), rfl, ⟨_, rfl⟩, .str (WS o), rfl, _, _, rfl, rfl, _, rfl, ?_⟩
        rw [ends_WS]
        refine ite2 (fun e => ?_) (fun e => ?_)
        · have hb : partedAt ws i = false := by
            unfold partedAt
            rw [hgd]
            exact all_not ho (by rw [e]; rfl)
          have hB : partedB ws = false := all_not (i := i) (x := i) (by rw [List.getElem?_range hi]) hb
          rw [hB] at q
          exact q H2 s6
        · refine ⟨_, rfl, s6, ep, all_take_succ ho hal ?_⟩
          cases h : decide (o <:+ pat) with
          | true => exact absurd h e
          | false => rfl
      · obtain ⟨x3, rfl, s6, ep, hal⟩ := hp
        rw [strV_len, List.take_length] at hal
        refine ⟨_, _, _, rfl, s6, all_take_succ (x := i) (by rw [List.getElem?_range hi]) hall ?_⟩
        unfold partedAt
        rw [hgd]
        exact hal
    · obtain ⟨x1, x2, x3, rfl, s1, hall⟩ := hp
      rw [strV_len, List.take_of_length_le (by rw [List.length_range]; exact Nat.le_refl _)] at hall
      have hB : partedB ws = true := hall
      rw [hB] at q
      exact q H1 s1

abbrev s_are_stuffs : Stmt := (topS 16)
theorem sc_are_stuffs : FnScope ["value", "part", "pattern", "bit"] ["value"] (fnScope s_are_stuffs) := fnScope_by (by decide +kernel)
theorem ok_are_stuffs {f : Addr} {fd : FuncData} (F : C8.Fun K "are_stuffs" "are_stuffs" s_are_stuffs f fd) (M : Mg mg) (c_is_stuff : Cal P w K mg base 3 "is_stuff" spIsStuff []) (c_one_ends_with_another : Cal P w K mg base 1 "one_ends_with_another" spOneEnds []) : FnOk P w K mg base CX0 4 f fd ["value"] (spStuffs K) := by
  refine fn0 F sc_are_stuffs (fun vs H Q E h => ?_) (fun cdv A outer s H vs Q E hr h => ?_)
  · obtain ⟨l, o, xs, ps, rfl, _⟩ := h
    rfl
  · obtain ⟨l, o, xs, ps, rfl, hl, hp, ok, q⟩ := h
    refine ⟨_, (pss_cons (ps_if (PW.pt (pw_or (pt_not (pt_val (pe_callB call_isiT (by rfl) M.isinstance (by decide +kernel) (pa_cons (pv 0) (pa_cons (pe_tup (pa_cons (pe_bltn (v := .ty "list") (u := .type "list") (by rfl) M.list (by decide +kernel) rfl) (pa_cons (pe_bltn (v := .ty "tuple") (u := .type "tuple") (by rfl) M.tuple (by decide +kernel) rfl) pa_nil))) pa_nil))))) (pw_or1 (pt_not (pt_val (pe_callB (cr_all rfl) (by rfl) M.all (by decide +kernel) (pa_cons (pe_lc (own := [("part", 1)]) (g := (gName 1)) rfl sc_are_stuffs.nd (pi_seq (pi_list (pv 0)) (pi_tup (pv 0))) (blkOk_by (N := ["value", "part", "pattern", "bit"]) (sc := fnScope s_are_stuffs) (by decide +kernel)) (fun _ _ _ _ _ => (pg_name (i := 1) sc_are_stuffs.nd rfl (Or.inl rfl))) (fun _ _ _ _ _ => pts_nil) (fun _ _ _ _ _ => (pe_c c_is_stuff hr (by decide) (by rfl) (pa_cons (pv 1) pa_nil)))) pa_nil)))))))
          (pss_one (ps_ret pe_bl))
          pss_nil)
        (pss_one (ps_ret (pe_not (pe_c c_one_ends_with_another hr (by decide) (by rfl) (pa_cons (pe_lc (own := [("pattern", 2), ("bit", 3)]) (g := (gTup _ 2 (gCons (gName 2) (gCons (gName 3) gNil)))) rfl sc_are_stuffs.nd (pi_seq (pi_list (pv 0)) (pi_tup (pv 0))) (blkOk_by (N := ["value", "part", "pattern", "bit"]) (sc := fnScope s_are_stuffs) (by decide +kernel)) (fun _ _ _ _ _ => (pg_tup rfl (pgs_cons (pg_name (i := 2) sc_are_stuffs.nd rfl (Or.inl rfl)) (pgs_cons (pg_name (i := 3) sc_are_stuffs.nd rfl (Or.inl rfl)) pgs_nil)))) (fun _ _ _ _ _ => pts_nil) (fun _ _ _ _ _ => (pv 2))) pa_nil)))))), ?_⟩
    have hxl : xs.length = ps.length := hp.len
    have few := ok.few
    refine ⟨.ref l, rfl, by show 2 ≤ sizeLine; decide, fun tp htp => ?_⟩
    have s1 : Same H (upd H tp (.tup [.ty "list", .ty "tuple"])) := same_new htp
    obtain ⟨t, tx, kx⟩ := (hl.same s1).ty
    refine ⟨_, tp, [.ty "list", .ty "tuple"], t, [.type "list", .type "tuple"], true, rfl, upd_same, .cons (.ty _) (.cons (.ty _) .nil), tx, kx, true, rfl, iteF ?_⟩
    -- all([is_stuff(part) for part in value])
    refine ⟨l, o, xs, rfl, hl.same s1, fun J W D hD => ?_⟩
    have s2 := s1.trans (same_new (o := .lst []) hD)
    refine lc_it W (fun i H1 => H1 D = some (.lst ((List.replicate i true).map V.bl)) ∧ Same H H1) ⟨upd_same, s2⟩ (fun i H1 _ h => hl.same h.2) (fun i x H1o H1 hi hp1 hy => ?_) (fun H1 hp1 => ?_)
    · obtain ⟨rfl, hx⟩ := hy
      obtain ⟨eD, sm⟩ := hp1
      obtain ⟨p, hpi, pa⟩ := hp.get hx
      have hpm := List.mem_of_getElem? hpi
      refine ⟨rfl, x, rfl, x, p, rfl, pa.kp (kp_same sm), ok.ne p hpm, Nat.le_trans (ok.len p hpm) (by decide), fun H2 s12 => ⟨_, s12 _ _ eD, ?_, ?_, fun a u ha => ?_⟩⟩
      · rw [List.length_map, List.length_replicate]
        exact small1000 (by omega)
      · rw [upd_same, List.replicate_succ', List.map_append]
        rfl
      · rw [upd_ne (fun e => by rw [e] at ha; rw [s1 _ _ ha] at hD; cases hD)]
        exact s12 _ _ (sm _ _ ha)
    · obtain ⟨eD, sm⟩ := hp1
      refine ⟨D, List.replicate xs.length true, rfl, .inl (.inl eD), true, ?_, iteF ?_⟩
      · congr 1
        simp
      -- the patterns
      refine ⟨l, o, xs, rfl, hl.same sm, fun J W D2 hD2 => ?_⟩
      have s3 := sm.trans (same_new (o := .lst []) hD2)
      have fin : ∀ H3 l2, H3 l2 = some (.lst (strV (ps.map (·.1)))) → Same H H3 → spOneEnds [.ref l2] H3 (fun x H4 => ∃ c, x = .bl c ∧ Q (.bl (!c)) H4) E0 := fun H3 l2 e3 s3 =>
        ⟨l2, ps.map (·.1), rfl, e3, by rw [List.length_map]; omega, fun H4 s4 => ⟨_, rfl, by rw [ok.parted]; exact q H4 (s3.trans s4)⟩⟩
      refine lc_it W (fun i H1 => H1 D2 = some (.lst (strV ((ps.map (·.1)).take i))) ∧ Same H H1) ⟨upd_same, s3⟩ (fun i H1 _ h => hl.same h.2) (fun i x H1o H1 hi hp1 hy => ?_) (fun H1 hp1 => ?_)
      · obtain ⟨rfl, hx⟩ := hy
        obtain ⟨eD2, sm2⟩ := hp1
        obtain ⟨p, hpi, t, rfl, ht⟩ := hp.get hx
        refine ⟨t, _, rfl, .inl (.inl (sm2 _ _ ht)), rfl, _, _, rfl, _, _, rfl, rfl, rfl, _, rfl, strV ((ps.map (·.1)).take i), eD2, ?_, ?_, fun a u ha => ?_⟩
        · rw [strV_len, List.length_take, List.length_map]
          exact small1000 (by omega)
        · rw [upd_same, List.take_add_one, List.getElem?_map, hpi, strV_app]
          rfl
        · rw [upd_ne (fun e => by rw [e] at ha; rw [sm _ _ ha] at hD2; cases hD2)]
          exact sm2 _ _ ha
      · obtain ⟨eD2, sm2⟩ := hp1
        rw [List.take_of_length_le (by rw [List.length_map, hxl]; exact Nat.le_refl _)] at eD2
        exact fin H1 D2 eD2 sm2
abbrev s_longest_pattern : Stmt := (topS 17)
theorem sc_longest_pattern : FnScope ["stuffs", "pattern", "bit"] ["stuffs"] (fnScope s_longest_pattern) := fnScope_by (by decide +kernel)
theorem ok_longest {f : Addr} {fd : FuncData} (F : C8.Fun K "longest_pattern" "longest_pattern" s_longest_pattern f fd) (M : Mg mg) : FnOk P w K mg base CX0 1 f fd ["stuffs"] (spLongest K) := by
  refine fn0 F sc_longest_pattern (fun vs H Q E h => ?_) (fun cdv A outer s H vs Q E hr h => ?_)
  · obtain ⟨l, o, xs, ps, rfl, _⟩ := h
    rfl
  · obtain ⟨l, o, xs, ps, rfl, hl, hp, few, hlen, q⟩ := h
    refine ⟨_, (pss_one (ps_ret (pe_callBK (cr_maxD rfl hr.units) (by rfl) M.max (by decide +kernel) (pa_cons (pe_lc (own := [("pattern", 1), ("bit", 2)]) (g := (gTup _ 2 (gCons (gName 1) (gCons (gName 2) gNil)))) rfl sc_longest_pattern.nd (pi_seq (pi_list (pv 0)) (pi_tup (pv 0))) (blkOk_by (N := ["stuffs", "pattern", "bit"]) (sc := fnScope s_longest_pattern) (by decide +kernel)) (fun _ _ _ _ _ => (pg_tup rfl (pgs_cons (pg_name (i := 1) sc_longest_pattern.nd rfl (Or.inl rfl)) (pgs_cons (pg_name (i := 2) sc_longest_pattern.nd rfl (Or.inl rfl)) pgs_nil)))) (fun _ _ _ _ _ => pts_nil) (fun _ _ _ _ _ => (pe_callB call_len_str (by rfl) M.len PySem.boot_len (pa_cons (pv 1) pa_nil)))) pa_nil) (pk_cons pe_int pk_nil)))), ?_⟩
    have hxl : xs.length = ps.length := hp.len
    refine ⟨l, o, xs, rfl, hl, fun J W D hD => ?_⟩
    refine lc_it W (fun i H1 => H1 D = some (.lst (((ps.map fun p => (p.1.length : Int)).take i).map V.int)) ∧ Same H H1) ⟨upd_same, same_new hD⟩ (fun i H1 _ h => hl.same h.2) (fun i x H1o H1 hi hp1 hy => ?_) (fun H1 hp1 => ?_)
    · obtain ⟨rfl, hx⟩ := hy
      obtain ⟨eD, sm⟩ := hp1
      obtain ⟨p, hpi, t, rfl, ht⟩ := hp.get hx
      have hpm := List.mem_of_getElem? hpi
      refine ⟨t, _, rfl, .inl (.inl (sm _ _ ht)), rfl, _, _, rfl, _, _, rfl, rfl, rfl, _, rfl, _, rfl, ls_len _ (Nat.le_trans (hlen p hpm) (by decide)), ((ps.map fun p => (p.1.length : Int)).take i).map V.int, eD, ?_, ?_, fun a u ha => ?_⟩
      · rw [List.length_map, List.length_take, List.length_map]
        exact small1000 (by omega)
      · rw [upd_same, WS_len, List.take_add_one, List.getElem?_map, hpi, List.map_append]
        rfl
      · rw [upd_ne (ne_of_none ha hD)]
        exact sm _ _ ha
    · obtain ⟨eD, sm⟩ := hp1
      rw [List.take_of_length_le (by rw [List.length_map, hxl]; exact Nat.le_refl _)] at eD
      have hf : ∀ (ls : List Nat) (a : Nat), ((ls.foldl max a : Nat) : Int) = (ls.map (fun n : Nat => (n : Int))).foldl max (a : Int) := by
        intro ls
        induction ls with
        | nil => intro a; rfl
        | cons x r ih =>
          intro a
          rw [List.foldl_cons, ih, List.map_cons, List.foldl_cons]
          congr 1
          omega
      have hq : (longL ps : Int) = ((ps.map fun p => p.1.length).map (fun n : Nat => (n : Int))).foldl max 0 := hf _ 0
      refine ⟨D, ps.map fun p => (p.1.length : Int), rfl, rfl, .inl (.inl eD), fun e => ?_, fun n r e => ?_⟩
      · have : ps = [] := by simpa using e
        subst this
        exact q H1 sm
      · have h1 : ((ps.map fun p => p.1.length).map (fun n : Nat => (n : Int))) = n :: r := by rw [List.map_map]; exact e
        rw [h1, List.foldl_cons] at hq
        have hn : (0 : Int) ≤ n := by
          have : n ∈ ps.map fun p => (p.1.length : Int) := by rw [e]; exact List.mem_cons_self
          obtain ⟨p, _, rfl⟩ := List.mem_map.mp this
          omega
        rw [show max (0 : Int) n = n by omega] at hq
        rw [← hq]
        exact q H1 sm
abbrev s_bit_behind : Stmt := (topS 18)
theorem sc_bit_behind : FnScope ["stuffs", "line", "pattern", "bit"] ["stuffs", "line"] (fnScope s_bit_behind) := fnScope_by (by decide +kernel)
theorem ok_behind {f : Addr} {fd : FuncData} (F : C8.Fun K "bit_behind" "bit_behind" s_bit_behind f fd) (M : Mg mg) : FnOk P w K mg base CX0 1 f fd ["stuffs", "line"] (spBehind K) := by
  refine fn0 F sc_bit_behind (fun vs H Q E h => ?_) (fun cdv A outer s H vs Q E hr h => ?_)
  · obtain ⟨l, o, xs, ps, line, rfl, _⟩ := h
    rfl
  · obtain ⟨l, o, xs, ps, line, rfl, hl, hp, q⟩ := h
    refine ⟨_, (pss_cons (ps_for PassesOwn.never rfl (pi_seq (pi_list (pv 0)) (pi_tup (pv 0))) (pg_tup rfl (pgs_cons (pg_name (i := 2) sc_bit_behind.nd rfl (Or.inl rfl)) (pgs_cons (pg_name (i := 3) sc_bit_behind.nd rfl (Or.inl rfl)) pgs_nil)))
          (pss_one (ps_if (pt_val (pe_m1 PySem.F.slot_str_endswith PySem.F.type_str_endswith mt_endswith (pv 1) (pv 2)))
              (pss_one (ps_ret (pv 3)))
              pss_nil)))
        (pss_one (ps_ret pe_non))), ?_⟩
    refine ⟨l, o, xs, rfl, hl, fun J W => ?_⟩
    refine for_it W (fun i σ H1 => ∃ x2 x3, σ = [some (.ref l), some (.str (WS line)), x2, x3] ∧ Same H H1 ∧ ∀ j p, j < i → ps[j]? = some p → ¬ p.1 <:+ line) ⟨none, none, rfl, Same.refl H, fun j p h => absurd h (Nat.not_lt_zero j)⟩
      (fun i σ H1 _ h => by obtain ⟨_, _, _, s1, _⟩ := h; exact hl.same s1) (fun i x σ H1o H1 hi hp1 hy => ?_) (fun σ H1 hp1 => ?_)
    · obtain ⟨rfl, hx⟩ := hy
      obtain ⟨x2, x3, rfl, sm, no⟩ := hp1
      obtain ⟨p, hpi, t, rfl, ht⟩ := hp.get hx
      refine ⟨t, _, rfl, .inl (.inl (sm _ _ ht)), rfl, _, _, rfl, _, _, rfl, rfl, ?_⟩
      refine ⟨.str (WS line), rfl, ⟨_, rfl⟩, .str (WS p.1), rfl, _, _, rfl, rfl, _, rfl, ?_⟩
      rw [ends_WS]
      refine ite2 (fun e => ?_) (fun e => ?_)
      · have := putL_at hpi (of_decide_eq_true e) no
        rw [this] at q
        exact ⟨_, rfl, q H1 sm⟩
      · refine ⟨_, _, rfl, sm, fun j p' hj hpj => ?_⟩
        by_cases h : j < i
        · exact no j p' h hpj
        · have : j = i := by omega
          subst this
          rw [hpi] at hpj
          cases hpj
          exact fun h => e (decide_eq_true h)
    · obtain ⟨x2, x3, rfl, sm, no⟩ := hp1
      have := putL_none (line := line) (ps := ps) fun p hpm => by
        obtain ⟨j, hj⟩ := List.getElem?_of_mem hpm
        exact no j p (by rw [hp.len]; exact (List.getElem?_eq_some_iff.mp hj).1) hj
      rw [this] at q
      exact q H1 sm

abbrev s_never_ends : Stmt := (topS 19)
theorem sc_never_ends : FnScope ["stuffs", "line", "longest", "seen", "bit"] ["stuffs", "line"] (fnScope s_never_ends) := fnScope_by (by decide +kernel)
theorem ok_never {f : Addr} {fd : FuncData} (F : C8.Fun K "never_ends" "never_ends" s_never_ends f fd) (M : Mg mg) (c_longest_pattern : Cal P w K mg base 1 "longest_pattern" (spLongest K) []) (c_bit_behind : Cal P w K mg base 1 "bit_behind" (spBehind K) []) : FnOk P w K mg base CX0 2 f fd ["stuffs", "line"] (spNever K) := by
  refine fn0 F sc_never_ends (fun vs H Q E h => ?_) (fun cdv A outer s H vs Q E hr h => ?_)
  · obtain ⟨l, o, xs, ps, line, rfl, _⟩ := h
    rfl
  · obtain ⟨l, o, xs, ps, line, rfl, hl, hp, ok, hn, he, q⟩ := h
    refine ⟨_, (pss_cons (ps_set (i := 2) sc_never_ends.nd rfl (Or.inl rfl) (pe_c c_longest_pattern hr (by decide) (by rfl) (pa_cons (pv 0) pa_nil)))
        (pss_cons (ps_set (i := 3) sc_never_ends.nd rfl (Or.inl rfl) (pe_callTy0 cr_set0K (by rfl) M.set (by decide +kernel)))
        (pss_cons (ps_set (i := 4) sc_never_ends.nd rfl (Or.inl rfl) (pe_c c_bit_behind hr (by decide) (by rfl) (pa_cons (pv 0) (pa_cons (pv 1) pa_nil))))
        (pss_cons (ps_while PassesOwn.never (pt_cmpR op_notN (pv 4) pe_non (nomark _))
          (pss_cons (ps_set (i := 1) sc_never_ends.nd rfl (Or.inl rfl) (pe_slice sl_str (pe_op op_add_str (pv 1) (pv 4)) (po_some (pe_un un_neg (pv 2))) po_none))
            (pss_cons (ps_if (pt_cmpR or_sinK (pv 1) (pv 3) (by rfl))
              (pss_one (ps_ret pe_bl))
              pss_nil)
            (pss_cons (ps_expr (pe_saddK (pv 3) (pa_cons (pv 1) pa_nil)))
            (pss_one (ps_set (i := 4) sc_never_ends.nd rfl (Or.inl rfl) (pe_c c_bit_behind hr (by decide) (by rfl) (pa_cons (pv 0) (pa_cons (pv 1) pa_nil)))))))))
        (pss_one (ps_ret pe_bl)))))), ?_⟩
    have few := ok.few
    have lens : ∀ p ∈ ps, p.1.length ≤ 900 := fun p hp => Nat.le_trans (ok.len p hp) (by decide)
    have hL : longL ps ≤ 20 := longL_le ok.len
    refine ⟨.ref l, rfl, l, o, xs, ps, rfl, hl, hp, by omega, lens, fun H1 s1 => ?_⟩
    refine ⟨rfl, fun sn hsn => ?_⟩
    have s2 := s1.trans (same_new (o := SetK P w sn (fun _ => false) 0) hsn)
    refine ⟨.ref l, rfl, .str (WS line), rfl, l, o, xs, ps, line, rfl, hl.same s2, hp.kp (kp_same s2), fun H3 s23 => ?_⟩
    have s3 := s2.trans s23
    have eS := s23 _ _ (upd_same (H := H1) (a := sn) (o := SetK P w sn (fun _ => false) 0))
    have nsn : ∀ a u, H a = some u → a ≠ sn := fun a u ha e => by
      rw [e] at ha
      rw [s1 _ _ ha] at hsn
      cases hsn
    obtain ⟨m0, hm0, hat0⟩ := endsAt_of he
    refine ⟨fun m σ H9 => ∃ (u : List Bool) (S : Key → Bool) (n : Nat), σ = [some (.ref l), some (.str (WS u)), some (.int (longL ps)), some (.ref sn), some (oB (putL ps u))] ∧ endsAt ps m u ∧ m ≤ 40 ∧ n ≤ 40 - m ∧ u.length ≤ 900 ∧ Same H H9 ∧ H9 sn = some (SetK P w sn S n) ∧ (∀ k, S k = true → ∃ v m', k = Sum.inr (WS v) ∧ endsAt ps m' v ∧ m ≤ m'),
      ⟨m0, line, _, 0, rfl, hat0, hm0, Nat.zero_le _, hn, s3, eS, fun k hk => by cases hk⟩, ?_⟩
    rintro m σ H4 ⟨u, S, n, rfl, hat, hm, hn4, hu, s4, eS4, hS⟩
    refine ⟨_, rfl, rfl, _, rfl, ?_⟩
    cases e : putL ps u with
    | none =>
      refine iteF ?_
      exact q H4 s4
    | some b =>
      refine iteT ?_
      cases m with
      | zero => rw [show putL ps u = none from hat] at e; cases e
      | succ m =>
        obtain ⟨b', e', hat'⟩ := hat
        rw [e] at e'
        cases e'
        have hpos := longL_pos ok.ne e
        have hnl : (nextL ps u b).length ≤ 20 := Nat.le_trans (nextL_len ps u b) hL
        refine ⟨_, fun σ' H' hW => ⟨m, Nat.lt_succ_self m, hW⟩, ?_⟩
        refine ⟨_, rfl, _, rfl, _, _, rfl, rfl, ?_, .int (longL ps), rfl, _, rfl, _, rfl, _, rfl, ?_, ?_⟩
        · rw [WS_len, WS_len]
          exact Nat.le_of_lt (small1000 (by show u.length + 1 ≤ 1000; omega))
        · rw [WS_cat]
          exact ls_len _ (by rw [List.length_append]; show u.length + 1 ≤ 1000; omega)
        rw [WS_cat, cut_neg _ hpos]
        show gName 1 (V.str (WS (nextL ps u b))) _ _ _
        refine ⟨_, rfl, .ref sn, rfl, Sum.inr (WS (nextL ps u b)), sn, S, n, rfl, rfl, eS4, _, rfl, ?_⟩
        cases hs1 : S (Sum.inr (WS (nextL ps u b))) with
        | true =>
          obtain ⟨v, m', ev, h1, h2⟩ := hS _ hs1
          injection ev with ev
          rw [← WS_inj ev] at h1
          have := endsAt_one h1 hat'
          omega
        | false =>
          refine iteF ?_
          refine ⟨.ref sn, rfl, ⟨sn, S, n, rfl, eS4⟩, _, rfl, sn, Sum.inr (WS (nextL ps u b)), S, n, rfl, rfl, eS4, ?_, ?_⟩
          · show n + 1 < 4096
            omega
          rw [hs1]
          have s5 : Same H (upd H4 sn (SetK P w sn (fun j => S j || decide (j = Sum.inr (WS (nextL ps u b)))) (n + 1))) := fun a o ha => by
            rw [upd_ne (nsn a o ha)]
            exact s4 a o ha
          refine ⟨.ref l, rfl, .str (WS (nextL ps u b)), rfl, l, o, xs, ps, nextL ps u b, rfl, hl.same s5, hp.kp (kp_same s5), fun H6 s56 => ?_⟩
          refine ⟨nextL ps u b, _, n + 1, rfl, hat', by omega, by omega, by omega, s5.trans s56, s56 _ _ upd_same, fun k hk => ?_⟩
          · rw [Bool.or_eq_true] at hk
            rcases hk with hk | hk
            · obtain ⟨v, m', ev, h1, h2⟩ := hS _ hk
              exact ⟨v, m', ev, h1, by omega⟩
            · exact ⟨nextL ps u b, m, of_decide_eq_true hk, hat', Nat.le_refl _⟩
abbrev s_are_endless : Stmt := (topS 20)
theorem sc_are_endless : FnScope ["stuffs", "pattern", "bit"] ["stuffs"] (fnScope s_are_endless) := fnScope_by (by decide +kernel)
theorem ok_endless {f : Addr} {fd : FuncData} (F : C8.Fun K "are_endless" "are_endless" s_are_endless f fd) (M : Mg mg) (c_never_ends : Cal P w K mg base 2 "never_ends" (spNever K) []) : FnOk P w K mg base CX0 3 f fd ["stuffs"] (spEndless K) := by
  refine fn0 F sc_are_endless (fun vs H Q E h => ?_) (fun cdv A outer s H vs Q E hr h => ?_)
  · obtain ⟨l, o, xs, ps, rfl, _⟩ := h
    rfl
  · obtain ⟨l, o, xs, ps, rfl, hl, hp, ok, q⟩ := h
    refine ⟨_, (pss_one (ps_ret (pe_callB (cr_any rfl) (by rfl) M.any (by decide +kernel) (pa_cons (pe_lc (own := [("pattern", 1), ("bit", 2)]) (g := (gTup _ 2 (gCons (gName 1) (gCons (gName 2) gNil)))) rfl sc_are_endless.nd (pi_seq (pi_list (pv 0)) (pi_tup (pv 0))) (blkOk_by (N := ["stuffs", "pattern", "bit"]) (sc := fnScope s_are_endless) (by decide +kernel)) (fun _ _ _ _ _ => (pg_tup rfl (pgs_cons (pg_name (i := 1) sc_are_endless.nd rfl (Or.inl rfl)) (pgs_cons (pg_name (i := 2) sc_are_endless.nd rfl (Or.inl rfl)) pgs_nil)))) (fun _ _ _ _ _ => pts_nil) (fun _ _ _ _ _ => (pe_c c_never_ends hr (by decide) (by rfl) (pa_cons (pv 0) (pa_cons (pv 1) pa_nil))))) pa_nil)))), ?_⟩
    have hxl : xs.length = ps.length := hp.len
    have few := ok.few
    refine ⟨l, o, xs, rfl, hl, fun J W D hD => ?_⟩
    refine lc_it W (fun i H1 => H1 D = some (.lst ((List.replicate i false).map V.bl)) ∧ Same H H1) ⟨upd_same, same_new hD⟩ (fun i H1 _ h => hl.same h.2) (fun i x H1o H1 hi hp1 hy => ?_) (fun H1 hp1 => ?_)
    · obtain ⟨rfl, hx⟩ := hy
      obtain ⟨eD, sm⟩ := hp1
      obtain ⟨p, hpi, t, rfl, ht⟩ := hp.get hx
      have hpm := List.mem_of_getElem? hpi
      have hend := List.all_eq_true.mp ok.ends p hpm
      refine ⟨t, _, rfl, .inl (.inl (sm _ _ ht)), rfl, _, _, rfl, _, _, rfl, rfl, rfl, .ref l, rfl, _, rfl, l, o, xs, ps, p.1, rfl, hl.same sm, hp.kp (kp_same sm), ok, Nat.le_trans (ok.len p hpm) (by decide), hend, fun H2 s2 => ⟨(List.replicate i false).map V.bl, s2 _ _ eD, ?_, ?_, fun a u ha => ?_⟩⟩
      · rw [List.length_map, List.length_replicate]
        exact small1000 (by omega)
      · rw [upd_same, List.replicate_succ', List.map_append]
        rfl
      · rw [upd_ne (ne_of_none ha hD)]
        exact s2 _ _ (sm _ _ ha)
    · obtain ⟨eD, sm⟩ := hp1
      refine ⟨D, List.replicate xs.length false, rfl, .inl (.inl eD), ?_⟩
      have : (List.replicate xs.length false).any id = false := by simp
      rw [this]
      exact q H1 sm
abbrev s_Rule_init : Stmt := (inClass (topS 22) 0)
theorem sc_Rule_init : FnScope ["self", "flag", "stuffs"] ["self", "flag", "stuffs"] (fnScope s_Rule_init) := fnScope_by (by decide +kernel)
theorem ok_rinit {C f : Addr} {fd : FuncData} (F : C8.Fun K "__init__" "Rule.__init__" s_Rule_init f fd) (M : Mg mg) (T : RlT K C) (c_is_word_2 : Cal P w K mg base 1 "is_word" spIsWord []) (c_are_stuffs : Cal P w K mg base 4 "are_stuffs" (spStuffs K) []) (c_are_endless : Cal P w K mg base 3 "are_endless" (spEndless K) []) : FnOk P w K mg base CX0 5 f fd ["self", "flag", "stuffs"] (spRInit K C) := by
  refine fn0 F sc_Rule_init (fun vs H Q E h => ?_) (fun cdv A outer s H vs Q E hr h => ?_)
  · obtain ⟨p, dx, l, o, flag, xs, ps, rfl, _⟩ := h
    rfl
  · obtain ⟨p, dx, l, o, flag, xs, ps, rfl, hf2, hfl, hl, hp, ok, hpp, q⟩ := h
    refine ⟨_, (pss_cons (ps_if (pt_not (pt_val (pe_c c_is_word_2 hr (by decide) (by rfl) (pa_cons (pv 1) (pa_cons pe_int pa_nil)))))
          (pss_one ps_never)
          pss_nil)
        (pss_cons (ps_if (pt_not (pt_val (pe_c c_are_stuffs hr (by decide) (by rfl) (pa_cons (pv 2) pa_nil))))
          (pss_one ps_never)
          pss_nil)
        (pss_cons (ps_if (pt_val (pe_c c_are_endless hr (by decide) (by rfl) (pa_cons (pv 2) pa_nil)))
          (pss_one ps_never)
          pss_nil)
        (pss_cons (ps_fld (pv 0) (pv 1) rfl)
        (pss_one (ps_fld (pv 0) (pe_callTy call_tuple_of (by rfl) M.tuple (by decide +kernel) (pa_cons (pe_callB (cr_sortedQ hr.units) (by rfl) M.sorted (by decide +kernel) (pa_cons (pv 2) pa_nil)) pa_nil)) rfl)))))), ?_⟩
    refine ⟨.str (WS flag), rfl, flag, 2, rfl, by omega, fun H1 s1 => ⟨_, rfl, ?_⟩⟩
    rw [decide_eq_true (show (2 : Int) ≤ (flag.length : Int) by omega)]
    refine iteF ⟨.ref l, rfl, l, _, xs, ps, rfl, hl.same s1, hp.kp (kp_same s1), ok, fun H2 s12 => ⟨_, rfl, iteF ?_⟩⟩
    have s2 := s1.trans s12
    refine ⟨.ref l, rfl, l, _, xs, ps, rfl, hl.same s2, hp.kp (kp_same s2), ok, fun H3 s23 => ⟨_, rfl, iteF ?_⟩⟩
    have s3 := s2.trans s23
    refine ⟨.str (WS flag), rfl, .ref p, rfl, p, C, dx, [], rfl, s3 _ _ hpp, T.cl, T.nF, (by show 0 < 1000; decide), ?_⟩
    have k4 : Kp H3 (upd H3 p (.ins C dx (putF "flag" (.str (WS flag)) []))) → True := fun _ => trivial
    have hp4 : Pairs (upd H3 p (.ins C dx (putF "flag" (.str (WS flag)) []))) xs ps := by
      have h3 := hp.kp (kp_same s3)
      have : ∀ {vs : List V} {qs : List Stf}, Pairs H3 vs qs → Pairs (upd H3 p (.ins C dx (putF "flag" (.str (WS flag)) []))) vs qs := by
        intro vs
        induction vs with
        | nil => intro qs h; cases qs with | nil => trivial | cons _ _ => exact h.elim
        | cons v vs ih =>
          intro qs h
          cases qs with
          | nil => exact h.elim
          | cons q qs =>
            obtain ⟨⟨t, e, ht⟩, h2⟩ := h
            exact ⟨⟨t, e, by rw [upd_ne (ne_of ht (s3 _ _ hpp) (by intro z; cases z))]; exact ht⟩, ih h2⟩
      exact this h3
    refine ⟨.ref l, rfl, l, _, xs, ps, rfl, (hl.same s3).ins (s3 _ _ hpp), hp4, fun r vs' hr5 hp5 => ?_⟩
    have s5 : Same (upd H3 p (.ins C dx (putF "flag" (.str (WS flag)) []))) (upd (upd H3 p (.ins C dx (putF "flag" (.str (WS flag)) []))) r (.lst vs')) := same_new hr5
    refine ⟨r, vs', rfl, .inl ⟨.inl (.inl upd_same), fun t ht => ?_⟩⟩
    have s6 := s5.trans (same_new (o := .tup vs') ht)
    refine ⟨.ref p, rfl, p, C, dx, _, rfl, s6 _ _ upd_same, T.cl, T.nS, (by show 1 < 1000; decide), ?_⟩
    have ntp : t ≠ p := fun e => by
      have := s5 _ _ (upd_same (H := H3) (a := p) (o := .ins C dx (putF "flag" (.str (WS flag)) [])))
      rw [e] at ht
      rw [this] at ht
      cases ht
    refine q _ ⟨dx, t, vs', ?_, ?_, ?_⟩ (fun a o ha na => ?_)
    · rw [upd_same]
      unfold rlf
      show some (HO.ins C dx (if ("flag" : Str) = "stuffs" then _ else _)) = _
      rw [if_neg (by decide +kernel)]
      rfl
    · rw [upd_ne ntp, upd_same]
    · have h6 := hp5.kp (kp_same s6)
      have : ∀ {vs : List V} {qs : List Stf} {G : Hp} {u : HO}, G p = some (.ins C dx (putF "flag" (.str (WS flag)) [])) → Pairs G vs qs → Pairs (upd G p u) vs qs := by
        intro vs
        induction vs with
        | nil => intro qs G u _ h; cases qs with | nil => trivial | cons _ _ => exact h.elim
        | cons v vs ih =>
          intro qs G u hg h
          cases qs with
          | nil => exact h.elim
          | cons q qs =>
            obtain ⟨⟨t, e, ht⟩, h2⟩ := h
            exact ⟨⟨t, e, by rw [upd_ne (ne_of ht hg (by intro z; cases z))]; exact ht⟩, ih hg h2⟩
      exact this (s6 _ _ upd_same) h6
    · rw [upd_ne na]
      exact s6 _ _ (by rw [upd_ne na]; exact s3 _ _ ha)
abbrev s_Rule_put : Stmt := (inClass (topS 22) 4)
theorem sc_Rule_put : FnScope ["self", "line"] ["self", "line"] (fnScope s_Rule_put) := fnScope_by (by decide +kernel)
theorem ok_put {C f : Addr} {fd : FuncData} (F : C8.Fun K "put" "Rule.put" s_Rule_put f fd) (M : Mg mg) (T : RlT K C) (c_bit_behind : Cal P w K mg base 1 "bit_behind" (spBehind K) []) : FnOk P w K mg base CX0 2 f fd ["self", "line"] (spPut C) := by
  refine fn0 F sc_Rule_put (fun vs H Q E h => ?_) (fun cdv A outer s H vs Q E hr h => ?_)
  · obtain ⟨p, flag, ps, line, rfl, _⟩ := h
    rfl
  · obtain ⟨p, flag, ps, line, rfl, ⟨dx, t, xs, h1, h2, h3⟩, q⟩ := h
    refine ⟨_, (pss_one (ps_ret (pe_c c_bit_behind hr (by decide) (by rfl) (pa_cons (pe_fld (pv 0) rfl) (pa_cons (pv 1) pa_nil))))), ?_⟩
    exact ⟨.ref p, rfl, p, C, dx, _, _, rfl, h1, T.cl, T.nS, rlf_stuffs flag t, .str (WS line), rfl, t, _, xs, ps, line, rfl, .t h2, h3, q⟩

abbrev s_one_of : Stmt := (topS 26)
theorem sc_one_of : FnScope ["_law_box", "_law_some"] ["_law_box", "_law_some"] (fnScope s_one_of) := fnScope_by (by decide +kernel)
theorem ok_one_of {f : Addr} {fd : FuncData} (F : C8.Fun K "_law_one_of" "_law_one_of" s_one_of f fd) (M : Mg mg) (c_choose : Cal P w K mg base 1 "_law_choose" spChoose []) : FnOk P w K mg base CX0 2 f fd ["_law_box", "_law_some"] spOneOf := by
  refine fn0 F sc_one_of (fun vs H Q E h => ?_) (fun cdv A outer s H vs Q E hr h => ?_)
  · obtain ⟨b, l, xs, rfl, _⟩ := h
    rfl
  · obtain ⟨b, l, xs, rfl, hb, hl, hn, hx, hz, q⟩ := h
    refine ⟨_, (pss_one (ps_ret (pe_ix (r := rIxL K) ix_list (pv 1) (pe_c c_choose hr (by decide) (by rfl) (pa_cons (pv 0) (pa_cons (pe_callB call_len_seq (by rfl) M.len PySem.boot_len (pa_cons (pv 1) pa_nil)) pa_nil))) (fun _ _ => rfl)))), ?_⟩
    have h1 : 0 < xs.length := List.length_pos_iff.mpr hx
    refine ⟨.ref l, rfl, .ref b, rfl, .ref l, rfl, l, xs, rfl, .inl (.inl (.inl hl)), b, _, rfl, hb, by omega, by omega, fun r H' r0 r1 hb' off => ?_⟩
    have e : r.toNat < xs.length := by omega
    refine ⟨l, xs, r, xs[r.toNat], rfl, rfl, .inl (.inl (off _ _ hl hn)), ?_, q _ _ (List.getElem_mem _) hb' off⟩
    have := atI_nat (xs := xs) (j := r.toNat) (v := xs[r.toNat]) (by simp [e])
    rw [Int.toNat_of_nonneg r0] at this
    exact this
abbrev s_word : Stmt := (topS 27)
theorem sc_word : FnScope ["_law_box", "_law_few", "_law_many", "_law_turn"] ["_law_box", "_law_few", "_law_many"] (fnScope s_word) := fnScope_by (by decide +kernel)
theorem ok_word2 {f : Addr} {fd : FuncData} (F : C8.Fun K "_law_word" "_law_word" s_word f fd) (M : Mg mg) (c_choose : Cal P w K mg base 1 "_law_choose" spChoose []) (c_one_of : Cal P w K mg base 2 "_law_one_of" spOneOf []) : FnOk P w K mg base CX0 3 f fd ["_law_box", "_law_few", "_law_many"] spWord2 := by
  refine fn0 F sc_word (fun vs H Q E h => ?_) (fun cdv A outer s H vs Q E hr h => ?_)
  · obtain ⟨b, few, many, rfl, _⟩ := h
    rfl
  · obtain ⟨b, few, many, rfl, hb, hf0, hfm, hm, q⟩ := h
    refine ⟨_, (pss_one (ps_ret (pe_join pe_str (pe_lc (own := [("_law_turn", 3)]) (g := (gName 3)) rfl sc_word.nd (pi_range1 (by rfl) M.range (pa_cons (pe_op op_add (pv 1) (pe_c c_choose hr (by decide) (by rfl) (pa_cons (pv 0) (pa_cons (pe_op op_add (pe_op op_sub (pv 2) (pv 1)) pe_int) pa_nil)))) pa_nil)) (blkOk_by (N := ["_law_box", "_law_few", "_law_many", "_law_turn"]) (sc := fnScope s_word) (by decide +kernel)) (fun _ _ _ _ _ => (pg_name (i := 3) sc_word.nd rfl (Or.inl rfl))) (fun _ _ _ _ _ => pts_nil) (fun _ _ _ _ _ => (pe_c c_one_of hr (by decide) (by rfl) (pa_cons (pv 0) (pa_cons (pe_lst (pa_cons pe_str (pa_cons pe_str pa_nil))) pa_nil)))))))), ?_⟩
    refine ⟨⟨_, rfl⟩, .int few, rfl, .ref b, rfl, .int many, rfl, .int few, rfl, _, _, rfl, rfl, _, _, rfl, rfl, b, _, rfl, hb, by omega, by omega, fun r H0 r0 r1 hb0 off0 => ?_⟩
    refine ⟨_, _, rfl, rfl, few + r, rfl, by omega, by omega, fun D hD => ?_⟩
    have nD : D ≠ b := hb0.ne_new hD
    have hDn : ∀ a o, H a = some o → a ≠ b → a ≠ D := fun a o ha na => ne_of_none (off0 _ _ ha na) hD
    refine lc_it walk_range (fun i H1 => ∃ z : List Bool, z.length = i ∧ H1 D = some (.lst (bitV z)) ∧ BoxAt H1 b ∧ Off b H H1)
      ⟨[], rfl, upd_same, hb0.same (same_new hD), off0.trans (off_of (same_new hD))⟩ (fun _ _ _ _ => trivial) (fun i x H1o H1 hi hp hy => ?_) (fun H1 hp => ?_)
    · obtain ⟨rfl, rfl⟩ := hy
      obtain ⟨z, hz, eD, hb1, off⟩ := hp
      refine ⟨rfl, .ref b, rfl, by show 2 ≤ sizeLine; decide, fun l hl => ⟨b, l, _, rfl, hb1.same (same_new hl), upd_same, hb1.ne_new hl, by simp, by decide, fun x H3 hx hb3 off3 => ?_⟩⟩
      obtain ⟨bit, rfl⟩ := bit_of hx
      have nDl : D ≠ l := ne_of_none eD hl
      refine ⟨bitV z, off3 _ _ (by rw [upd_ne nDl]; exact eD) nD, ?_, z ++ [bit], by simp [hz], ?_, ?_, ?_⟩
      · unfold bitV
        rw [List.length_map]
        exact small1000 (by omega)
      · rw [upd_same]
        unfold bitV
        rw [List.map_append]
        rfl
      · obtain ⟨c, d, e, r⟩ := hb3
        exact ⟨c, d, by rw [upd_ne nD.symm]; exact e, r⟩
      · intro a o ha na
        rw [upd_ne (hDn a o ha na)]
        exact off3 _ _ (by rw [upd_ne (ne_of_none (off _ _ ha na) hl)]; exact off _ _ ha na) na
    · obtain ⟨z, hz, eD, hb1, off⟩ := hp
      refine ⟨_, D, z.map fun b => WS [b], rfl, rfl, .inl (.inl (.inl ?_)), join_bits_sz z (by omega), ?_⟩
      · rw [eD, List.map_map]
        rfl
      · rw [join_bits]
        exact q z _ (by omega) (by omega) hb1 off
abbrev s_put : Stmt := (topS 28)
theorem sc_put : FnScope ["_law_rule_here", "_law_line", "_law_pattern", "_law_bit", "_law_some"] ["_law_rule_here", "_law_line"] (fnScope s_put) := fnScope_by (by decide +kernel)
theorem ok_lput {f : Addr} {fd : FuncData} (F : C8.Fun K "_law_put" "_law_put" s_put f fd) (M : Mg mg) : FnOk P w K mg base CX0 1 f fd ["_law_rule_here", "_law_line"] spLPut := by
  refine fn0 F sc_put (fun vs H Q E h => ?_) (fun cdv A outer s H vs Q E hr h => ?_)
  · obtain ⟨t, flag, ps, line, rfl, _⟩ := h
    rfl
  · obtain ⟨t, flag, ps, line, rfl, ⟨l, xs, ht, hl, hp⟩, few, lens, hln, q⟩ := h
    refine ⟨_, (pss_cons (ps_setLc (i := 4) (own := [("_law_pattern", 2), ("_law_bit", 3)]) (g := (gTup _ 2 (gCons (gName 2) (gCons (gName 3) gNil)))) rfl sc_put.nd rfl rfl (sw_true rfl rfl rfl (by decide +kernel)) (pi_list (pe_ix (r := rIxT K) ix_tup (pv 0) pe_int (fun _ _ => rfl))) (blkOk_by (N := ["_law_rule_here", "_law_line", "_law_pattern", "_law_bit", "_law_some"]) (sc := fnScope s_put) (by decide +kernel)) (fun _ _ _ _ _ => (pg_tup rfl (pgs_cons (pg_name (i := 2) sc_put.nd rfl (Or.inl rfl)) (pgs_cons (pg_name (i := 3) sc_put.nd rfl (Or.inl rfl)) pgs_nil)))) (fun _ _ _ _ _ => (pts_one (pt_cmpR op_eq (pe_slice sl_str (pv 1) (po_some (pe_callB (call_max2 rfl) (by rfl) M.max (by decide +kernel) (pa_cons pe_int (pa_cons (pe_op op_sub (pe_callB call_len_str (by rfl) M.len PySem.boot_len (pa_cons (pv 1) pa_nil)) (pe_callB call_len_str (by rfl) M.len PySem.boot_len (pa_cons (pv 2) pa_nil))) pa_nil)))) po_none) (pv 2) (nomark _)))) (fun _ _ _ _ _ => (pv 3)))
        (pss_one (ps_ret (pe_ifExp (pt_cmpR (op_neD hr.units) (pv 4) (pe_lst pa_nil) (nomark _)) (pe_ix (r := rIxL K) ix_list (pv 4) pe_int (fun _ _ => rfl)) pe_str)))), ?_⟩
    have hxl : xs.length = ps.length := hp.len
    refine ⟨.ref t, rfl, t, _, 1, _, rfl, rfl, .inl (.inl ht), atI1, l, rfl, ⟨xs, .inl (.inl hl)⟩, fun D hD => ?_⟩
    have hDn : ∀ a o, H a = some o → a ≠ D := fun a o ha => ne_of_none ha hD
    refine lc_it (walk_list (K := K) (a := l) (xs := xs)) (fun i H1 => H1 D = some (.lst (strV (((ps.take i).filter fun p => decide (p.1 <:+ line)).map fun p => [p.2]))) ∧ Same H H1) ⟨upd_same, same_new hD⟩ (fun i H1 _ h => .inl (.inl (h.2 _ _ hl))) (fun i x H1o H1 hi hp1 hy => ?_) (fun H1 hp1 => ?_)
    · obtain ⟨rfl, hx⟩ := hy
      obtain ⟨eD, sm⟩ := hp1
      obtain ⟨p, hpi, t2, rfl, ht2⟩ := hp.get hx
      have hpm := List.mem_of_getElem? hpi
      have hpl := lens p hpm
      refine ⟨t2, _, rfl, .inl (.inl (sm _ _ ht2)), rfl, _, _, rfl, _, _, rfl, rfl, rfl, ?_⟩
      refine ⟨.str (WS line), rfl, .str (WS line), rfl, _, rfl, ls_len line (by omega), .str (WS p.1), rfl, _, rfl, ls_len p.1 (by omega), _, _, rfl, rfl, 0, _, rfl, _, rfl, _, rfl, ls_len line (by omega), .str (WS p.1), rfl, rfl, _, rfl, ?_⟩
      have ei : (if ((WS line).length : Int) - ((WS p.1).length : Int) > 0 then ((WS line).length : Int) - ((WS p.1).length : Int) else 0) = ((line.length - p.1.length : Nat) : Int) := by
        rw [WS_len, WS_len]
        split <;> omega
      rw [ei, cut_from _ (by omega), eqS]
      have ed : decide (line.drop ((line.length - p.1.length : Nat) : Int).toNat = p.1) = decide (p.1 <:+ line) := by
        apply decide_eq_decide.mpr
        rw [Int.toNat_natCast, List.suffix_iff_eq_drop]
        exact ⟨fun h => h.symm, fun h => h.symm⟩
      rw [ed]
      have eT : ((ps.take (i + 1)).filter fun p => decide (p.1 <:+ line)) = ((ps.take i).filter fun p => decide (p.1 <:+ line)) ++ (if decide (p.1 <:+ line) = true then [p] else []) := by
        rw [List.take_add_one, hpi, List.filter_append]
        congr 1
        show List.filter _ [p] = _
        rw [List.filter_cons, List.filter_nil]
      refine ite2 (fun e => ?_) (fun e => ?_)
      · rw [if_pos e] at eT
        refine ⟨_, rfl, strV (((ps.take i).filter fun p => decide (p.1 <:+ line)).map fun p => [p.2]), eD, ?_, ?_, fun a o ha => ?_⟩
        · rw [strV_len, List.length_map]
          refine small1000 (Nat.le_trans (List.length_filter_le _ _) ?_)
          rw [List.length_take]
          omega
        · rw [upd_same, eT, List.map_append, strV_app]
          rfl
        · rw [upd_ne (hDn a o ha)]
          exact sm _ _ ha
      · rw [if_neg e, List.append_nil] at eT
        rw [← eT] at eD
        exact ⟨eD, sm⟩
    · obtain ⟨eD, sm⟩ := hp1
      rw [hxl, List.take_length] at eD
      generalize hF : ((ps.filter fun p => decide (p.1 <:+ line)).map fun p => [p.2]) = ws at eD
      have hq : oS (putL ps line) = hdS ws := by
        rw [← hF]
        unfold putL
        rw [← List.head?_filter]
        cases ps.filter fun p => decide (p.1 <:+ line) with
        | nil => rfl
        | cons x r => rfl
      refine ⟨.ref D, rfl, by show 0 ≤ sizeLine; decide, fun e0 he0 => ?_⟩
      have s2 : Same H1 (upd H1 e0 (.lst [])) := same_new he0
      refine ⟨.list (ws.map fun w => PyData.str (WS w)), .list [], .lst (.inl (.inl (s2 _ _ eD))) (dpAll_strs ws), .lst (.inl (.inl upd_same)) .nil, shaped_strs ws, rfl, _, rfl, ?_⟩
      rw [eqv_nil]
      cases ws with
      | nil =>
        refine iteF ?_
        rw [hq] at q
        exact q _ (sm.trans s2)
      | cons u r =>
        refine iteT ⟨.ref D, rfl, D, _, 0, _, rfl, rfl, .inl (.inl (s2 _ _ eD)), atI0, ?_⟩
        rw [hq] at q
        exact q _ (sm.trans s2)

abbrev s_is_rule : Stmt := (topS 29)
theorem sc_is_rule : FnScope ["_law_rule_here", "_law_pattern", "_law_bit", "_law_names", "_law_at", "_law_one", "_law_spot", "_law_other_one", "_law_known", "_law_waiting", "_law_behind", "_law_line", "_law_turn", "_law_due", "_law_there"] ["_law_rule_here"] (fnScope s_is_rule) := fnScope_by (by decide +kernel)
theorem ok_is_ruleB {f : Addr} {fd : FuncData} (F : C8.Fun K "_law_is_rule" "_law_is_rule" s_is_rule f fd) (M : Mg mg) (c_put : Cal P w K mg base 1 "_law_put" spLPut []) : FnOk P w K mg base CX0 2 f fd ["_law_rule_here"] spIsRule := by
  refine fn0 F sc_is_rule (fun vs H Q E h => ?_) (fun cdv A outer s H vs Q E hr h => ?_)
  · obtain ⟨t, flag, ps, rfl, _⟩ := h
    rfl
  · obtain ⟨t, flag, ps, rfl, ru, few, hps, q⟩ := h
    obtain ⟨l, xs, ht, hl, hp⟩ := id ru
    have hxl : xs.length = ps.length := hp.len
    refine ⟨_, (pss_cons (ps_setLc (i := 3) (own := [("_law_pattern", 1), ("_law_bit", 2)]) (g := (gTup _ 2 (gCons (gName 1) (gCons (gName 2) gNil)))) rfl sc_is_rule.nd rfl rfl (sw_true rfl rfl rfl (by decide +kernel)) (pi_list (pe_ix (r := rIxT K) ix_tup (pv 0) pe_int (fun _ _ => rfl))) (blkOk_by (N := ["_law_rule_here", "_law_pattern", "_law_bit", "_law_names", "_law_at", "_law_one", "_law_spot", "_law_other_one", "_law_known", "_law_waiting", "_law_behind", "_law_line", "_law_turn", "_law_due", "_law_there"]) (sc := fnScope s_is_rule) (by decide +kernel)) (fun _ _ _ _ _ => (pg_tup rfl (pgs_cons (pg_name (i := 1) sc_is_rule.nd rfl (Or.inl rfl)) (pgs_cons (pg_name (i := 2) sc_is_rule.nd rfl (Or.inl rfl)) pgs_nil)))) (fun _ _ _ _ _ => pts_nil) (fun _ _ _ _ _ => (pv 1)))
        (pss_cons (ps_for PassesOwn.never rfl (pi_enum (by rfl) M.enumerate (pa_cons (pv 3) pa_nil)) (pg_tup rfl (pgs_cons (pg_name (i := 4) sc_is_rule.nd rfl (Or.inl rfl)) (pgs_cons (pg_name (i := 5) sc_is_rule.nd rfl (Or.inl rfl)) pgs_nil)))
          (pss_one (ps_for PassesOwn.never rfl (pi_enum (by rfl) M.enumerate (pa_cons (pv 3) pa_nil)) (pg_tup rfl (pgs_cons (pg_name (i := 6) sc_is_rule.nd rfl (Or.inl rfl)) (pgs_cons (pg_name (i := 7) sc_is_rule.nd rfl (Or.inl rfl)) pgs_nil)))
              (pss_one (ps_if (PW.pt (pw_and (pt_cmpR op_ne (pv 4) (pv 6) (nomark _)) (pw_and1 (pt_val (pe_m1 PySem.F.slot_str_endswith PySem.F.type_str_endswith mt_endswith (pv 5) (pv 7))))))
                  (pss_one (ps_ret pe_bl))
                  pss_nil)))))
        (pss_cons (ps_par (i := 8) (j := 9) rfl sc_is_rule.nd rfl rfl (by decide) rfl rfl (pa_cons (pe_disp (pps_cons pe_str pe_bl pps_nil) (by rfl) (by rfl) (fun z => by cases z) (by decide)) (pa_cons (pe_lst (pa_cons pe_str pa_nil)) pa_nil)) (by rfl))
        (pss_cons (ps_while PassesOwn.never (pt_cmpR (op_neD hr.units) (pv 9) (pe_lst pa_nil) (nomark _))
          (pss_cons (ps_set (i := 10) sc_is_rule.nd rfl (Or.inl rfl) (pe_bm0 PySem.F.plainAttrs_list PySem.F.slot_list_pop PySem.F.type_list_pop mt_pop (pv 9)))
            (pss_one (ps_for PassesOwn.never rfl (pi_str pe_str) (pg_name (i := 2) sc_is_rule.nd rfl (Or.inl rfl))
              (pss_cons (ps_set (i := 11) sc_is_rule.nd rfl (Or.inl rfl) (pe_op op_add_str (pv 10) (pv 2)))
                (pss_cons (ps_for PassesOwn.never rfl (pi_range1 (by rfl) M.range (pa_cons pe_int pa_nil)) (pg_name (i := 12) sc_is_rule.nd rfl (Or.inl rfl))
                  (pss_cons (ps_set (i := 13) sc_is_rule.nd rfl (Or.inl rfl) (pe_c c_put hr (by decide) (by rfl) (pa_cons (pv 0) (pa_cons (pv 11) pa_nil))))
                    (pss_cons (ps_if (pt_cmpR op_eq (pv 13) pe_str (nomark _))
                      (pss_one ps_break)
                      pss_nil)
                    (pss_one (ps_set (i := 11) sc_is_rule.nd rfl (Or.inl rfl) (pe_op op_add_str (pv 11) (pv 13)))))))
                (pss_cons (ps_if (pt_cmpR op_gt (pe_callB call_len_str (by rfl) M.len PySem.boot_len (pa_cons (pv 11) pa_nil)) (pe_op op_add (pe_callB call_len_str (by rfl) M.len PySem.boot_len (pa_cons (pv 10) pa_nil)) pe_int) (nomark _))
                  (pss_one (ps_ret pe_bl))
                  pss_nil)
                (pss_cons (ps_set (i := 14) sc_is_rule.nd rfl (Or.inl rfl) (pe_slice sl_str (pv 11) (po_some (pe_callB (call_max2 rfl) (by rfl) M.max (by decide +kernel) (pa_cons pe_int (pa_cons (pe_op op_sub (pe_callB call_len_str (by rfl) M.len PySem.boot_len (pa_cons (pv 11) pa_nil)) pe_int) pa_nil)))) po_none))
                (pss_one (ps_if (pt_cmp (pc_dnotin (hu_of hr) (pv 14) (pv 8)))
                  (pss_cons (ps_dput (hu_of hr) (pv 8) (pv 14) pe_bl rfl)
                    (pss_one (ps_expr (pe_bm PySem.F.plainAttrs_list PySem.F.slot_list_append PySem.F.type_list_append mt_append (pv 9) (pa_cons (pv 14) pa_nil)))))
                  pss_nil))))))))))
        (pss_one (ps_ret pe_bl)))))), ?_⟩
    -- the patterns
    refine ⟨.ref t, rfl, t, _, 1, _, rfl, rfl, .inl (.inl ht), atI1, l, rfl, ⟨xs, .inl (.inl hl)⟩, fun D hD => ?_⟩
    refine lc_it (walk_list (K := K) (a := l) (xs := xs)) (fun i H1 => H1 D = some (.lst (strV ((ps.map (·.1)).take i))) ∧ Same H H1) ⟨upd_same, same_new hD⟩ (fun i H1 _ h => .inl (.inl (h.2 _ _ hl))) (fun i x H1o H1 hi hp1 hy => ?_) (fun H1 hp1 => ?_)
    · obtain ⟨rfl, hx⟩ := hy
      obtain ⟨eD, sm⟩ := hp1
      obtain ⟨p, hpi, t2, rfl, ht2⟩ := hp.get hx
      refine ⟨t2, _, rfl, .inl (.inl (sm _ _ ht2)), rfl, _, _, rfl, _, _, rfl, rfl, rfl, _, rfl, strV ((ps.map (·.1)).take i), eD, ?_, ?_, fun a u ha => ?_⟩
      · rw [strV_len, List.length_take, List.length_map]
        exact small1000 (by omega)
      · rw [upd_same, List.take_add_one, List.getElem?_map, hpi, strV_app]
        rfl
      · rw [upd_ne (ne_of_none ha hD)]
        exact sm _ _ ha
    obtain ⟨eD, s1⟩ := hp1
    rw [hxl, ← List.length_map (f := (·.1)) (as := ps), List.take_length] at eD
    generalize hws : ps.map (·.1) = ws at eD
    have hwl : ws.length ≤ 2 := by rw [← hws, List.length_map]; exact few
    -- no pattern ends with another one
    refine ⟨.ref D, rfl, D, _, rfl, .inl (.inl eD), ?_⟩
    refine for_it (walk_enum (K := K) (a := D) (xs := strV ws)) (fun i σ H2 => ∃ x1 x2 x4 x5 x6 x7, σ = [some (.ref t), x1, x2, some (.ref D), x4, x5, x6, x7, none, none, none, none, none, none, none] ∧ Same H1 H2 ∧ ∀ (a b : Nat) (u v : List Bool), a < i → ws[a]? = some u → ws[b]? = some v → a ≠ b → ¬ v <:+ u)
      ⟨none, none, none, none, none, none, rfl, Same.refl H1, fun a _ _ _ h => absurd h (Nat.not_lt_zero a)⟩ (fun i σ H2 _ h => by obtain ⟨_, _, _, _, _, _, _, s2, _⟩ := h; exact .inl (.inl (s2 _ _ eD))) (fun i x σ H2o H2 hi hp2 hy => ?_) (fun σ H2 hp2 => ?_)
    · obtain ⟨T, x', y', rfl, hT, rfl, g1, g2⟩ := hy
      obtain ⟨x1, x2, x4, x5, x6, x7, rfl, s2, no⟩ := hp2
      cases g1
      obtain ⟨u, hu, rfl⟩ := strV_get g2
      rw [strV_len] at hi
      have sT := s2.trans (same_new (o := .tup [V.int (i : Nat), V.str (WS u)]) hT)
      refine ⟨T, _, rfl, .inl (.inl upd_same), rfl, _, _, rfl, _, _, rfl, rfl, ?_⟩
      refine ⟨.ref D, rfl, D, _, rfl, .inl (.inl (sT _ _ eD)), ?_⟩
      refine for_it (walk_enum (K := K) (a := D) (xs := strV ws)) (fun j σ H3 => ∃ x6 x7, σ = [some (.ref t), x1, x2, some (.ref D), some (.int (i : Nat)), some (.str (WS u)), x6, x7, none, none, none, none, none, none, none] ∧ Same H1 H3 ∧ ∀ (b : Nat) (v : List Bool), b < j → ws[b]? = some v → i ≠ b → ¬ v <:+ u)
        ⟨x6, x7, rfl, sT, fun b _ h => absurd h (Nat.not_lt_zero b)⟩ (fun j σ H3 _ h => by obtain ⟨_, _, _, s3, _⟩ := h; exact .inl (.inl (s3 _ _ eD))) (fun j x σ H3o H3 hj hp3 hy => ?_) (fun σ H3 hp3 => ?_)
      · obtain ⟨T3, x', y', rfl, hT3, rfl, g1, g2⟩ := hy
        obtain ⟨x6, x7, rfl, s3, no3⟩ := hp3
        cases g1
        obtain ⟨v, hv, rfl⟩ := strV_get g2
        have sT3 := s3.trans (same_new (o := .tup [V.int (j : Nat), V.str (WS v)]) hT3)
        refine ⟨T3, _, rfl, .inl (.inl upd_same), rfl, _, _, rfl, _, _, rfl, rfl, ?_⟩
        refine ⟨_, rfl, _, rfl, rfl, _, rfl, ?_⟩
        have goOn : (i ≠ j → ¬ v <:+ u) → ∃ x6 x7, ([some (.ref t), x1, x2, some (.ref D), some (.int (i : Nat)), some (.str (WS u)), some (.int (j : Nat)), some (.str (WS v)), none, none, none, none, none, none, none] : L2.St) = [some (.ref t), x1, x2, some (.ref D), some (.int (i : Nat)), some (.str (WS u)), x6, x7, none, none, none, none, none, none, none] ∧ Same H1 (upd H3o T3 (.tup [V.int (j : Nat), V.str (WS v)])) ∧ ∀ (b : Nat) (v : List Bool), b < j + 1 → ws[b]? = some v → i ≠ b → ¬ v <:+ u := fun hno => by
          refine ⟨_, _, rfl, sT3, fun b v' hb hv' hne => ?_⟩
          by_cases h : b < j
          · exact no3 b v' h hv' hne
          · have : b = j := by omega
            subst this
            rw [hv] at hv'
            cases hv'
            exact hno hne
        refine ite2 (fun e => ?_) (fun e => ?_)
        · refine ⟨_, rfl, ⟨_, rfl⟩, _, rfl, _, _, rfl, rfl, _, rfl, ?_⟩
          rw [ends_WS]
          refine ite2 (fun e2 => ?_) (fun e2 => ?_)
          · exact q false _ (s1.trans sT3) fun z => by cases z
          · exact goOn fun _ z => e2 (decide_eq_true z)
        · refine iteF ?_
          exact goOn fun hne => absurd (show (!decide (V.int (i : Nat) = V.int (j : Nat))) = true by rw [decide_eq_false fun z => hne (by injection z with z; omega)]; rfl) e
      · obtain ⟨x6, x7, rfl, s3, no3⟩ := hp3
        rw [strV_len] at no3
        refine ⟨_, _, _, _, _, _, rfl, s3, fun a b u' v' ha hu' hv' hne => ?_⟩
        by_cases h : a < i
        · exact no a b u' v' h hu' hv' hne
        · have : a = i := by omega
          subst this
          rw [hu] at hu'
          cases hu'
          exact no3 b v' (List.getElem?_eq_some_iff.mp hv').1 hv' hne
    obtain ⟨x1, x2, x4, x5, x6, x7, rfl, s2, no⟩ := hp2
    rw [strV_len] at no
    have hpart : partedB (ps.map (·.1)) = true := by
      rw [hws]
      exact partedB_of fun i j a b hi hj hne => no i j a b (List.getElem?_eq_some_iff.mp hi).1 hi hj hne
    -- known, waiting
    intro kd hkd
    refine ⟨upd_same, [(Sum.inr (WS []), V.bl true)], rfl, by decide, by show 1 ≤ sizeLine; decide, fun wl hwl0 => ⟨_, _, rfl, ?_⟩⟩
    have em : mergeK [] [(Sum.inr (WS []), V.bl true)] = ([(Sum.inr (WS []), V.bl true)] : Kv) := rfl
    rw [em] at hwl0 ⊢
    have nkw : kd ≠ wl := ne_of_none upd_same hwl0
    have skd : Same H2 (upd (upd H2 kd (.dK [])) kd (.dK [(Sum.inr (WS []), V.bl true)])) := fun a o ha => by
      rw [upd_ne (ne_of_none ha hkd), upd_ne (ne_of_none ha hkd)]
      exact ha
    have s5 := ((s1.trans s2).trans skd).trans (same_new (o := .lst [.str ""]) hwl0)
    have hkd0 : H kd = none := (s1.trans s2).free hkd
    have hwl1 : H wl = none := ((s1.trans s2).trans skd).free hwl0
    refine ⟨fun m σ H9 => ∃ (x1 x2 x4 x5 x6 x7 x10 x11 x12 x13 x14 : Option V) (kvs : Kv) (ws : List (List Bool)), σ = [some (.ref t), x1, x2, some (.ref D), x4, x5, x6, x7, some (.ref kd), some (.ref wl), x10, x11, x12, x13, x14] ∧ Same H H9 ∧ H9 kd = some (.dK kvs) ∧ H9 wl = some (.lst (strV ws)) ∧ Srch ps kvs ws none 0 ∧ m = 2 * left kvs + ws.length,
      ⟨_, x1, x2, x4, x5, x6, x7, none, none, none, none, none, _, [[]], rfl, s5, by rw [upd_ne nkw, upd_same], by rw [upd_same]; rfl, Srch.start ps, rfl⟩, ?_⟩
    rintro m σ H9 ⟨x1, x2, x4, x5, x6, x7, x10, x11, x12, x13, x14, kvs, ws, rfl, s9, ek9, ew9, sr, rfl⟩
    refine ⟨.ref wl, rfl, by show 0 ≤ sizeLine; decide, fun e0 he0 => ?_⟩
    have s10 : Same H9 (upd H9 e0 (.lst [])) := same_new he0
    have ek10 := s10 _ _ ek9
    have ew10 := s10 _ _ ew9
    refine ⟨.list (ws.map fun w => PyData.str (WS w)), .list [], .lst (.inl (.inl ew10)) (dpAll_strs ws), .lst (.inl (.inl upd_same)) .nil, shaped_strs ws, rfl, _, rfl, ?_⟩
    rw [eqv_nil]
    have s11 := s9.trans s10
    revert ek10 ew10 s11
    generalize upd H9 e0 (.lst []) = H10
    intro ek10 ew10 s11
    by_cases hne : ws = []
    · subst hne
      refine iteF ?_
      exact q true H10 s11 fun _ => ⟨rule_ok few hps hpart sr.closed, _, sr.closed⟩
    · have e1 : (ws.map fun w => PyData.str (WS w)).isEmpty = false := by
        cases ws with
        | nil => exact absurd rfl hne
        | cons _ _ => rfl
      rw [e1]
      refine iteT ?_
      obtain ⟨ws', u, rfl⟩ : ∃ ws' u, ws = ws' ++ [u] := ⟨ws.dropLast, ws.getLast hne, (List.dropLast_concat_getLast hne).symm⟩
      have hsz := sr.size
      have hwz := sr.wsz
      have ku := sr.wait u (List.mem_append_right _ (List.mem_singleton.mpr rfl))
      have hul := sr.short u ku
      refine ⟨_, fun σ' H' hW => hW, ?_⟩
      refine ⟨.ref wl, rfl, .inl ⟨rfl, _, .inl (.inl ew10)⟩, wl, strV (ws' ++ [u]), .str (WS u), rfl, rfl, ew10, ?_, ?_⟩
      · rw [strV_len, strV_app, List.length_append, List.getElem?_append_right (by rw [strV_len]; show ws'.length ≤ ws'.length + 1 - 1; omega), strV_len]
        show [V.str (WS u)][ws'.length + 1 - 1 - ws'.length]? = _
        rw [show ws'.length + 1 - 1 - ws'.length = 0 by omega]
        rfl
      have e2 : (strV (ws' ++ [u])).dropLast = strV ws' := by rw [strV_app]; show (strV ws' ++ [V.str (WS u)]).dropLast = _; rw [List.dropLast_concat]
      rw [e2]
      have nkw' : kd ≠ wl := nkw
      have s12 : Same H (upd H10 wl (.lst (strV ws'))) := fun a o ha => by rw [upd_ne (ne_of_none ha hwl1)]; exact s11 _ _ ha
      have hwlen : (ws' ++ [u]).length = ws'.length + 1 := by rw [List.length_append]; rfl
      -- both bits
      refine ⟨_, rfl, ?_⟩
      refine for_it walk_str (fun j σ H3 => ∃ (x2 x11 x12 x13 x14 : Option V) (kvs2 : Kv) (ws2 : List (List Bool)), σ = [some (.ref t), x1, x2, some (.ref D), x4, x5, x6, x7, some (.ref kd), some (.ref wl), some (.str (WS u)), x11, x12, x13, x14] ∧ Same H H3 ∧ H3 kd = some (.dK kvs2) ∧ H3 wl = some (.lst (strV ws2)) ∧ Srch ps kvs2 ws2 (some u) j ∧ 2 * left kvs2 + ws2.length ≤ 2 * left kvs + ws'.length)
        ⟨x2, x11, x12, x13, x14, kvs, ws', rfl, s12, by rw [upd_ne nkw]; exact ek10, upd_same, sr.pop, Nat.le_refl _⟩ (fun _ _ _ _ _ => trivial) (fun j x σ H3o H3 hj hp3 hy => ?_) (fun σ H3 hp3 => ?_)
      · obtain ⟨rfl, c, hc, rfl⟩ := hy
        obtain ⟨x2, x11, x12, x13, x14, kvs2, ws2, rfl, s3, ek3, ew3, sr3, hmu⟩ := hp3
        have hj2 : j < 2 := hj
        have hbit : (⟨#[c]⟩ : Str) = WS [decide (j = 1)] := by
          match j, hj2, hc with
          | 0, _, hc => cases hc; rfl
          | 1, _, hc => cases hc; rfl
        rw [hbit]
        have hsz3 := sr3.size
        have hwz3 := sr3.wsz
        refine ⟨.str (WS u), rfl, .str (WS [decide (j = 1)]), rfl, _, _, rfl, rfl, ?_, ?_⟩
        · rw [WS_len, WS_len]
          exact Nat.le_of_lt (small1000 (by show u.length + 1 ≤ 1000; omega))
        rw [WS_cat]
        -- all that is put in
        refine ⟨24, rfl, by decide, by decide, ?_⟩
        refine for_itB walk_range (fun g σ H4 => ∃ (x12 x13 : Option V), σ = [some (.ref t), x1, some (.str (WS [decide (j = 1)])), some (.ref D), x4, x5, x6, x7, some (.ref kd), some (.ref wl), some (.str (WS u)), some (.str (WS (putsN ps g (u ++ [decide (j = 1)])))), x12, x13, x14] ∧ Same H3 H4)
          (fun σ H4 => ∃ (x12 x13 : Option V), σ = [some (.ref t), x1, some (.str (WS [decide (j = 1)])), some (.ref D), x4, x5, x6, x7, some (.ref kd), some (.ref wl), some (.str (WS u)), some (.str (WS (putsN ps 24 (u ++ [decide (j = 1)])))), x12, x13, x14] ∧ Same H3 H4)
          ⟨x12, x13, rfl, Same.refl _⟩ (fun _ _ _ _ _ => trivial) (fun σ H4 h => h) (fun aft g x σ H4o H4 hg hp4 hy => ?_) (fun σ H4 hp4 => ?_)
        · obtain ⟨rfl, rfl⟩ := hy
          obtain ⟨x12, x13, rfl, s4⟩ := hp4
          have hg24 : g < 24 := hg
          have hll := putsN_len ps g (u ++ [decide (j = 1)])
          rw [List.length_append] at hll
          have hll2 : (putsN ps g (u ++ [decide (j = 1)])).length ≤ 40 := by
            have : [decide (j = 1)].length = 1 := rfl
            omega
          refine ⟨.ref t, rfl, _, rfl, t, flag, ps, _, rfl, ru.same (s3.trans s4), by omega, fun p hp => Nat.le_trans (hps p hp).2 (by decide), by omega, fun H5 s45 => ?_⟩
          have estop := fun h : putL ps (putsN ps g (u ++ [decide (j = 1)])) = none => puts_stop h (Nat.le_of_lt hg24)
          have esucc := putsN_succ ps g (u ++ [decide (j = 1)])
          unfold stepP at esucc
          revert estop esucc
          cases putL ps (putsN ps g (u ++ [decide (j = 1)])) with
          | none =>
            intro estop _
            refine ⟨.str "", rfl, rfl, _, rfl, ite2 (fun _ => aft _ _ ?_) (fun e => absurd (decide_eq_true rfl) e)⟩
            rw [estop rfl]
            exact ⟨_, _, rfl, s4.trans s45⟩
          | some b =>
            intro _ esucc
            refine ⟨.str (WS [b]), rfl, rfl, _, rfl, ite2 (fun e => absurd (of_decide_eq_true e) (str_ne (by cases b <;> decide +kernel))) (fun _ => ?_)⟩
            refine ⟨_, rfl, _, rfl, _, WS [b], rfl, rfl, ?_, ?_⟩
            · rw [WS_len, WS_len]
              exact Nat.le_of_lt (small1000 (by show _ + 1 ≤ 1000; omega))
            · rw [WS_cat]
              have e2 : putsN ps (g + 1) (u ++ [decide (j = 1)]) = putsN ps g (u ++ [decide (j = 1)]) ++ [b] := esucc
              rw [← e2]
              exact ⟨_, _, rfl, s4.trans s45⟩
        · obtain ⟨x12, x13, rfl, s4⟩ := hp4
          have e24 : (24 : Int).toNat = 24 := rfl
          have hll := putsN_len ps 24 (u ++ [decide (j = 1)])
          rw [List.length_append] at hll
          have hl1 : [decide (j = 1)].length = 1 := rfl
          have hDone : ∀ kvs' : Kv, (putsN ps 24 (u ++ [decide (j = 1)])).length ≤ u.length + 20 → kno kvs' (last5 (putsN ps 24 (u ++ [decide (j = 1)]))) → Done ps kvs' u (decide (j = 1)) := fun _ a b => ⟨a, b⟩
          have hnew := fun v (hv : valV kvs2 (Sum.inr (WS v)) = none) (hl : v.length ≤ 5) (hn : (putsN ps 24 (u ++ [decide (j = 1)])).length ≤ u.length + 20) (ev : v = last5 (putsN ps 24 (u ++ [decide (j = 1)]))) => sr3.new hj2 hv hl hn ev
          have hold := fun (hn : Done ps kvs2 u (decide (j = 1))) => sr3.old hj2 hn
          revert hll hDone hnew
          generalize putsN ps 24 (u ++ [decide (j = 1)]) = line
          intro hll hDone hnew
          have ek4 := s4 _ _ ek3
          have ew4 := s4 _ _ ew3
          refine ⟨_, rfl, _, rfl, ls_len _ (by omega), _, rfl, _, rfl, ls_len _ (by omega), _, _, rfl, rfl, _, _, rfl, rfl, _, rfl, ite2 (fun e => ?_) (fun e => ?_)⟩
          · exact q false H4 (s3.trans s4) fun z => by cases z
          · have hn : line.length ≤ u.length + 20 := by
              have : ¬ (((WS u).length : Int) + 20 < ((WS line).length : Int)) := fun z => e (decide_eq_true z)
              rw [WS_len, WS_len] at this
              omega
            refine ⟨_, rfl, _, rfl, _, rfl, ls_len _ (by omega), _, _, rfl, rfl, 0, _, rfl, _, rfl, _, rfl, ls_len _ (by omega), ?_⟩
            have ei : (if ((WS line).length : Int) - 5 > 0 then ((WS line).length : Int) - 5 else 0) = ((line.length - 5 : Nat) : Int) := by
              rw [WS_len]
              split <;> omega
            rw [ei, cut_from _ (by omega), Int.toNat_natCast]
            show gName 14 (V.str (WS (last5 line))) _ _ _
            have hv5 := last5_len line
            refine ⟨_, rfl, .ref kd, rfl, kd, _, rfl, DGet.k (k := Sum.inr (WS (last5 line))) ek4, _, rfl, ?_⟩
            cases hk : valV kvs2 (Sum.inr (WS (last5 line))) with
            | some v =>
              refine iteF ?_
              exact ⟨_, _, _, _, _, kvs2, ws2, rfl, s3.trans s4, ek4, ew4, hold (hDone _ hn (by unfold kno; rw [hk]; intro z; cases z)), hmu⟩
            | none =>
              refine iteT ?_
              refine ⟨.ref kd, rfl, _, rfl, kd, _, rfl, DPut.k (k := Sum.inr (WS (last5 line))) ek4 (small1000 (by omega)), ?_⟩
              have ew6 : (upd H4 kd (.dK (putK kvs2 (Sum.inr (WS (last5 line))) (.bl true)))) wl = some (.lst (strV ws2)) := by rw [upd_ne nkw.symm]; exact ew4
              refine ⟨.ref wl, rfl, .inl ⟨rfl, _, .inl (.inl ew6)⟩, _, rfl, wl, strV ws2, _, rfl, rfl, ew6, ?_, ?_⟩
              · rw [strV_len]
                exact small1000 (by omega)
              have hlt := left_put (kvs := kvs2) hv5 fun z => z hk
              refine ⟨_, _, _, _, _, putK kvs2 (Sum.inr (WS (last5 line))) (.bl true), ws2 ++ [last5 line], rfl, fun a o ha => ?_, ?_, ?_, hnew _ hk hv5 hn rfl, ?_⟩
              · rw [upd_ne (ne_of_none ha hwl1), upd_ne (ne_of_none ha hkd0)]
                exact s4 _ _ (s3 _ _ ha)
              · rw [upd_ne nkw, upd_same]
              · rw [upd_same, strV_app]
                rfl
              · rw [List.length_append]
                show _ + (_ + 1) ≤ _
                omega
      · obtain ⟨x2, x11, x12, x13, x14, kvs2, ws2, rfl, s3, ek3, ew3, sr3, hmu⟩ := hp3
        exact ⟨2 * left kvs2 + ws2.length, by rw [hwlen]; omega, _, _, _, _, _, _, _, _, _, _, _, kvs2, ws2, rfl, s3, ek3, ew3, Srch.back sr3, rfl⟩

abbrev s_rule : Stmt := (topS 30)
theorem sc_rule : FnScope ["_law_box", "_law_widest", "_law_longest_one", "_law_some", "_law_one", "_law_turn", "_law_stuffs", "_law_more", "_law_told"] ["_law_box", "_law_widest", "_law_longest_one"] (fnScope s_rule) := fnScope_by (by decide +kernel)
theorem ok_lrule {f : Addr} {fd : FuncData} (F : C8.Fun K "_law_rule" "_law_rule" s_rule f fd) (M : Mg mg) (c_choose : Cal P w K mg base 1 "_law_choose" spChoose []) (c_one_of : Cal P w K mg base 2 "_law_one_of" spOneOf []) (c_word : Cal P w K mg base 3 "_law_word" spWord2 []) (c_is_rule : Cal P w K mg base 2 "_law_is_rule" spIsRule []) : FnOk P w K mg base CX0 4 f fd ["_law_box", "_law_widest", "_law_longest_one"] spRule := by
  refine fn0 F sc_rule (fun vs H Q E h => ?_) (fun cdv A outer s H vs Q E hr h => ?_)
  · obtain ⟨b, wi, lo, rfl, _⟩ := h
    rfl
  · obtain ⟨b, wi, lo, rfl, hb, w2, w100, l1, l4, q⟩ := h
    refine ⟨_, (pss_cons (ps_set (i := 3) sc_rule.nd rfl (Or.inl rfl) (pe_lst (pa_cons (pe_tup (pa_cons pe_str (pa_cons (pe_lst (pa_cons (pe_tup (pa_cons pe_str (pa_cons pe_str pa_nil))) pa_nil)) pa_nil))) (pa_cons (pe_tup (pa_cons pe_str (pa_cons (pe_lst (pa_cons (pe_tup (pa_cons pe_str (pa_cons pe_str pa_nil))) pa_nil)) pa_nil))) (pa_cons (pe_tup (pa_cons pe_str (pa_cons (pe_lst (pa_cons (pe_tup (pa_cons pe_str (pa_cons pe_str pa_nil))) pa_nil)) pa_nil))) (pa_cons (pe_tup (pa_cons pe_str (pa_cons (pe_lst (pa_cons (pe_tup (pa_cons pe_str (pa_cons pe_str pa_nil))) pa_nil)) pa_nil))) pa_nil))))))
        (pss_cons (ps_setLc (i := 3) (own := [("_law_one", 4)]) (g := (gName 4)) rfl sc_rule.nd rfl rfl (sw_true rfl rfl rfl (by decide +kernel)) (pi_list (pv 3)) (blkOk_by (N := ["_law_box", "_law_widest", "_law_longest_one", "_law_some", "_law_one", "_law_turn", "_law_stuffs", "_law_more", "_law_told"]) (sc := fnScope s_rule) (by decide +kernel)) (fun _ _ _ _ _ => (pg_name (i := 4) sc_rule.nd rfl (Or.inl rfl))) (fun _ _ _ _ _ => (pts_one (PW.pt (pw_and (pt_cmpR op_le (pe_callB call_len_str (by rfl) M.len PySem.boot_len (pa_cons (pe_ix (r := rIxT K) ix_tup (pv 4) pe_int (fun _ _ => rfl)) pa_nil)) (pv 1) (nomark _)) (pw_and1 (pt_cmpR op_le (pe_callB call_len_str (by rfl) M.len PySem.boot_len (pa_cons (pe_ix (r := rIxT K) ix_tup (pe_ix (r := rIxL K) ix_list (pe_ix (r := rIxT K) ix_tup (pv 4) pe_int (fun _ _ => rfl)) pe_int (fun _ _ => rfl)) pe_int (fun _ _ => rfl)) pa_nil)) (pv 2) (nomark _))))))) (fun _ _ _ _ _ => (pv 4)))
        (pss_cons (ps_if (PW.pt (pw_and (pt_cmpR (op_neD hr.units) (pv 3) (pe_lst pa_nil) (nomark _)) (pw_and1 (pt_cmpR op_eq (pe_c c_choose hr (by decide) (by rfl) (pa_cons (pv 0) (pa_cons pe_int pa_nil))) pe_int (nomark _)))))
          (pss_one (ps_ret (pe_c c_one_of hr (by decide) (by rfl) (pa_cons (pv 0) (pa_cons (pv 3) pa_nil)))))
          pss_nil)
        (pss_cons (ps_for PassesOwn.never rfl (pi_range1 (by rfl) M.range (pa_cons pe_int pa_nil)) (pg_name (i := 5) sc_rule.nd rfl (Or.inl rfl))
          (pss_cons (ps_set (i := 6) sc_rule.nd rfl (Or.inl rfl) (pe_lst pa_nil))
            (pss_cons (ps_for PassesOwn.never rfl (pi_range1 (by rfl) M.range (pa_cons (pe_c c_one_of hr (by decide) (by rfl) (pa_cons (pv 0) (pa_cons (pe_lst (pa_cons pe_int (pa_cons pe_int (pa_cons pe_int (pa_cons pe_int (pa_cons pe_int pa_nil)))))) pa_nil))) pa_nil)) (pg_name (i := 7) sc_rule.nd rfl (Or.inl rfl))
              (pss_one (ps_expr (pe_bm PySem.F.plainAttrs_list PySem.F.slot_list_append PySem.F.type_list_append mt_append (pv 6) (pa_cons (pe_tup (pa_cons (pe_c c_word hr (by decide) (by rfl) (pa_cons (pv 0) (pa_cons pe_int (pa_cons (pv 2) pa_nil)))) (pa_cons (pe_c c_one_of hr (by decide) (by rfl) (pa_cons (pv 0) (pa_cons (pe_lst (pa_cons pe_str (pa_cons pe_str pa_nil))) pa_nil))) pa_nil))) pa_nil)))))
            (pss_cons (ps_set (i := 8) sc_rule.nd rfl (Or.inl rfl) (pe_tup (pa_cons (pe_c c_word hr (by decide) (by rfl) (pa_cons (pv 0) (pa_cons pe_int (pa_cons (pv 1) pa_nil)))) (pa_cons (pv 6) pa_nil))))
            (pss_one (ps_if (pt_val (pe_c c_is_rule hr (by decide) (by rfl) (pa_cons (pv 8) pa_nil)))
              (pss_one (ps_ret (pv 8)))
              pss_nil))))))
        (pss_one (ps_ret (pe_tup (pa_cons pe_str (pa_cons (pe_lst pa_nil) pa_nil))))))))), ?_⟩
    refine ⟨by show 2 ≤ sizeLine; decide, fun u1 n1 => ⟨by show 1 ≤ sizeLine; decide, fun m1 o1 => ⟨by show 2 ≤ sizeLine; decide, fun t1 p1 => ?_⟩⟩⟩
    obtain ⟨s1, r1⟩ := mk_ru (sf := "01110") (by decide +kernel) (by decide +kernel) (by decide +kernel) n1 o1 p1 (lr1 wi)
    revert s1 r1
    generalize upd (upd (upd H u1 _) m1 _) t1 _ = H1
    intro s1 r1
    refine ⟨by show 2 ≤ sizeLine; decide, fun u2 n2 => ⟨by show 1 ≤ sizeLine; decide, fun m2 o2 => ⟨by show 2 ≤ sizeLine; decide, fun t2 p2 => ?_⟩⟩⟩
    obtain ⟨s2, r2⟩ := mk_ru (sf := "0010") (by decide +kernel) (by decide +kernel) (by decide +kernel) n2 o2 p2 (lr2 wi)
    revert s2 r2
    generalize upd (upd (upd H1 u2 _) m2 _) t2 _ = H2
    intro s2 r2
    refine ⟨by show 2 ≤ sizeLine; decide, fun u3 n3 => ⟨by show 1 ≤ sizeLine; decide, fun m3 o3 => ⟨by show 2 ≤ sizeLine; decide, fun t3 p3 => ?_⟩⟩⟩
    obtain ⟨s3, r3⟩ := mk_ru (sf := "11") (by decide +kernel) (by decide +kernel) (by decide +kernel) n3 o3 p3 (lr3 wi)
    revert s3 r3
    generalize upd (upd (upd H2 u3 _) m3 _) t3 _ = H3
    intro s3 r3
    refine ⟨by show 2 ≤ sizeLine; decide, fun u4 n4 => ⟨by show 1 ≤ sizeLine; decide, fun m4 o4 => ⟨by show 2 ≤ sizeLine; decide, fun t4 p4 => ?_⟩⟩⟩
    obtain ⟨s4, r4⟩ := mk_ru (sf := "10001") (by decide +kernel) (by decide +kernel) (by decide +kernel) n4 o4 p4 (lr4 wi)
    revert s4 r4
    generalize upd (upd (upd H3 u4 _) m4 _) t4 _ = H4
    intro s4 r4
    refine ⟨by show 4 ≤ sizeLine; decide, fun l0 q0 => ?_⟩
    have h4 : ∀ v ∈ [V.ref t1, V.ref t2, V.ref t3, V.ref t4], Ru1 wi H4 v := by
      intro v hv
      simp only [List.mem_cons, List.not_mem_nil, or_false] at hv
      rcases hv with e | e | e | e
      · rw [e]; exact ((r1.same s2).same s3).same s4
      · rw [e]; exact (r2.same s3).same s4
      · rw [e]; exact r3.same s4
      · rw [e]; exact r4
    have s5 : Same H4 (upd H4 l0 (.lst [V.ref t1, V.ref t2, V.ref t3, V.ref t4])) := same_new q0
    have e5 : (upd H4 l0 (.lst [V.ref t1, V.ref t2, V.ref t3, V.ref t4])) l0 = some (.lst [V.ref t1, V.ref t2, V.ref t3, V.ref t4]) := upd_same
    have s05 := (((s1.trans s2).trans s3).trans s4).trans s5
    have hx4 : [V.ref t1, V.ref t2, V.ref t3, V.ref t4].length = 4 := rfl
    replace h4 := fun v hv => (h4 v hv).same s5
    revert h4 s05 e5 hx4
    clear s5
    generalize upd H4 l0 _ = H5
    generalize [V.ref t1, V.ref t2, V.ref t3, V.ref t4] = xs0
    intro e5 s05 hx4 h4
    refine ⟨.ref l0, rfl, l0, rfl, ⟨xs0, .inl (.inl e5)⟩, fun D hD => ?_⟩
    refine lc_it (walk_list (K := K) (a := l0) (xs := xs0)) (fun i H1 => ∃ ys : List V, H1 D = some (.lst ys) ∧ (∀ y ∈ ys, y ∈ xs0) ∧ ys.length ≤ i ∧ Same H5 H1) ⟨[], upd_same, (fun y hy => by cases hy), Nat.le_refl _, same_new hD⟩ (fun i H1 _ h => by obtain ⟨_, _, _, _, s⟩ := h; exact .inl (.inl (s _ _ e5))) (fun i x H1o H1 hi hp1 hy => ?_) (fun H6 hp1 => ?_)
    · obtain ⟨rfl, hx⟩ := hy
      obtain ⟨ys, eD, sub, yl, sm⟩ := hp1
      obtain ⟨t, flag, p, rfl, ⟨l, xs, g1, g2, g3⟩, lr⟩ := (h4 x (List.mem_of_getElem? hx)).same sm
      obtain ⟨p1, xs', rfl⟩ : ∃ v r, xs = v :: r := by cases xs with | nil => exact g3.elim | cons v r => exact ⟨v, r, rfl⟩
      obtain ⟨⟨u, rfl, g4⟩, g5⟩ := g3
      have f100 : flag.length ≤ 1000 := by have := lr.f5; omega
      have p4 : p.1.length ≤ 1000 := Nat.le_trans (lr.lens p List.mem_cons_self).2 (by decide)
      have keep : ∃ ys, H1 D = some (HO.lst ys) ∧ (∀ y ∈ ys, y ∈ xs0) ∧ ys.length ≤ i + 1 ∧ Same H5 H1 := ⟨ys, eD, sub, Nat.le_succ_of_le yl, sm⟩
      refine ⟨rfl, .ref t, rfl, t, _, 0, _, rfl, rfl, .inl (.inl g1), atI0, _, rfl, ls_len flag f100, .int wi, rfl, _, _, rfl, rfl, _, rfl, ite2 (fun _ => ?_) (fun _ => keep)⟩
      refine ⟨.ref t, rfl, t, _, 1, _, rfl, rfl, .inl (.inl g1), atI1, l, _, 0, _, rfl, rfl, .inl (.inl g2), atI0, u, _, 0, _, rfl, rfl, .inl (.inl g4), atI0, _, rfl, ls_len p.1 p4, .int lo, rfl, _, _, rfl, rfl, _, rfl, ite2 (fun _ => ?_) (fun _ => keep)⟩
      refine ⟨.ref t, rfl, ys, eD, small1000 (by omega), ys ++ [.ref t], upd_same, fun y hy => ?_, (by rw [List.length_append]; show ys.length + 1 ≤ _; omega), fun a o ha => ?_⟩
      · rcases List.mem_append.mp hy with h | h
        · exact sub y h
        · rw [List.mem_singleton.mp h]
          exact List.mem_of_getElem? hx
      · rw [upd_ne (ne_of_none ha hD)]
        exact sm _ _ ha
    · obtain ⟨ys, eD, sub, yl, sm⟩ := hp1
      have hY : ∀ y ∈ ys, RuV wi H6 y := fun y hy => ((h4 y (sub y hy)).same sm).v
      have s06 := s05.trans sm
      have hb6 := hb.same s06
      have nDb : D ≠ b := (hb.same s05).ne_new hD
      rw [hx4] at yl
      refine ⟨.ref D, rfl, by show 0 ≤ sizeLine; decide, fun e0 he0 => ?_⟩
      have s7 : Same H6 (upd H6 e0 (.lst [])) := same_new he0
      have e7 : (upd H6 e0 (.lst [])) e0 = some (.lst []) := upd_same
      have s07 := s06.trans s7
      have hb7 := hb6.same s7
      have eD7 := s7 _ _ eD
      replace hY := fun y hy => (hY y hy).same s7
      revert s07 hb7 eD7 hY e7
      clear s7
      generalize upd H6 e0 (.lst []) = H7
      intro e7 s07 hb7 eD7 hY
      obtain ⟨ds, d1, d2, d3, d4⟩ := nice_all (K := K) (H := H7) (vs := ys) fun y hy => by
        obtain ⟨t, flag, ps, rfl, h1, _⟩ := hY y hy
        exact nice_rule h1
      refine ⟨.list ds, .list [], .lst (.inl (.inl eD7)) d1, .lst (.inl (.inl e7)) .nil, shaped_all d2 d3, rfl, _, rfl, ?_⟩
      rw [eqv_nil, d4]
      have off7 : Own.Off b H H7 := off_of s07
      refine and_join (fun H8 => BoxAt H8 b ∧ Own.Off b H H8) (fun _ => ⟨hb7, off7⟩) (fun e k kx ky => ?_) (fun H8 g8 => ?_)
      · have hne : ys ≠ [] := fun z => by rw [z] at e; cases e
        refine ⟨.ref b, rfl, b, 2, rfl, hb7, by decide, by decide, fun r H8 r0 r2 hb8 off8 => ⟨rfl, _, rfl, ?_⟩⟩
        have off08 := off7.trans off8
        cases hd : decide (V.int r = V.int 0) with
        | false => exact ky _ ⟨hb8, off08⟩
        | true =>
          refine kx _ ?_
          refine ⟨.ref b, rfl, .ref D, rfl, b, D, ys, rfl, hb8, off8 _ _ eD7 nDb, nDb, hne, by omega, fun x H9 hx hb9 off9 => ?_⟩
          obtain ⟨t, flag, ps, rfl, h1, h2⟩ := ((hY x hx).off hb7 off8).off hb8 off9
          exact q t flag ps H9 h2 h1 hb9 (off08.trans off9)
      · obtain ⟨hb8, off8⟩ := g8
        refine ⟨8, rfl, by decide, by decide, ?_⟩
        refine for_it walk_range (fun i σ H9 => ∃ x5 x6 x7 x8, σ = [some (.ref b), some (.int wi), some (.int lo), some (.ref D), none, x5, x6, x7, x8] ∧ BoxAt H9 b ∧ Own.Off b H H9)
          ⟨none, none, none, none, rfl, hb8, off8⟩ (fun _ _ _ _ _ => trivial) (fun i x σ H9o H9 hi hp hy => ?_) (fun σ H9 hp => ?_)
        · obtain ⟨rfl, rfl⟩ := hy
          obtain ⟨x5, x6, x7, x8, rfl, hb9, off9⟩ := hp
          refine ⟨by show 0 ≤ sizeLine; decide, fun l hl => ?_⟩
          have nlb : l ≠ b := hb9.ne_new hl
          have hl0 : H l = none := by
            cases e : H l with
            | none => rfl
            | some u =>
              rw [off9 l u e nlb] at hl
              cases hl
          have sA : Same H9 (upd H9 l (.lst [])) := same_new hl
          have hbA := hb9.same sA
          have offA := off9.trans (off_of sA)
          have eA : (upd H9 l (.lst [])) l = some (.lst []) := upd_same
          revert hbA offA eA
          clear sA
          generalize upd H9 l (.lst []) = H10
          intro hbA offA eA
          refine ⟨.ref b, rfl, by show 5 ≤ sizeLine; decide, fun m hm => ⟨b, m, _, rfl, hbA.same (same_new hm), upd_same, hbA.ne_new hm, by simp, by decide, fun v H11 hv hb11 off11 => ?_⟩⟩
          obtain ⟨n, rfl, n0, n2⟩ : ∃ n : Int, v = .int n ∧ 0 ≤ n ∧ n ≤ 2 := by
            simp only [List.mem_cons, List.not_mem_nil, or_false] at hv
            rcases hv with e | e | e | e | e <;> exact ⟨_, e, by decide, by decide⟩
          have el11 : H11 l = some (.lst []) := off11 _ _ (same_new hm _ _ eA) nlb
          have offB : Own.Off b H H11 := (offA.trans (off_of (same_new hm))).trans off11
          refine ⟨n, rfl, by omega, by omega, ?_⟩
          refine for_it walk_range (fun j σ H12 => ∃ (x7 : Option V) (xs : List V) (ps : List Stf), σ = [some (.ref b), some (.int wi), some (.int lo), some (.ref D), none, some (.int (0 + (i : Nat))), some (.ref l), x7, x8] ∧ BoxAt H12 b ∧ Own.Off b H H12 ∧ H12 l = some (.lst xs) ∧ Pairs H12 xs ps ∧ ps.length = j ∧ (∀ p ∈ ps, p.1 ≠ [] ∧ p.1.length ≤ 4))
            ⟨x7, [], [], rfl, hb11, offB, el11, trivial, rfl, fun p hp => by cases hp⟩ (fun _ _ _ _ _ => trivial) (fun j x σ H12o H12 hj hp hy => ?_) (fun σ H12 hp => ?_)
          · obtain ⟨rfl, rfl⟩ := hy
            obtain ⟨x7, xs, ps, rfl, hb12, off12, el12, hps, hlen, hok⟩ := hp
            refine ⟨.ref l, rfl, .inl ⟨rfl, _, .inl (.inl el12)⟩, .ref b, rfl, .int lo, rfl, b, 1, lo, rfl, hb12, by decide, l1, by omega, fun z H13 z1 z2 hb13 off13 => ?_⟩
            refine ⟨.ref b, rfl, by show 2 ≤ sizeLine; decide, fun m2 hm2 => ⟨b, m2, _, rfl, hb13.same (same_new hm2), upd_same, hb13.ne_new hm2, by simp, by decide, fun x H14 hx hb14 off14 => ?_⟩⟩
            obtain ⟨bit, rfl⟩ := bit_of hx
            refine ⟨by show 2 ≤ sizeLine; decide, fun u hu => ?_⟩
            have el14 : H14 l = some (.lst xs) := off14 _ _ (same_new hm2 _ _ (off13 _ _ el12 nlb)) nlb
            have s15 : Same H14 (upd H14 u (.tup [.str (WS z), .str (WS [bit])])) := same_new hu
            have off0 : Own.Off b H H14 := ((off12.trans off13).trans (off_of (same_new hm2))).trans off14
            have k14 : Kp H12 H14 := ((kp_off hb12 off13).trans (kp_same (same_new hm2))).trans (kp_off (hb13.same (same_new hm2)) off14)
            have el15 := s15 _ _ el14
            have hj2 : j < 2 := by
              have : j < (n - 0).toNat := by simpa using hj
              omega
            have hxl : xs.length = ps.length := hps.len
            refine ⟨l, xs, _, rfl, rfl, el15, small1000 (by omega), ?_⟩
            have k16 := kp_lst (ys := xs ++ [.ref u]) el15
            refine ⟨_, xs ++ [.ref u], ps ++ [(z, bit)], rfl, ?_, fun a o ha na => ?_, upd_same, Pairs.snoc (((hps.kp k14).kp (kp_same s15)).kp k16) ⟨u, rfl, k16 _ _ upd_same trivial⟩, by rw [List.length_append, hlen]; rfl, fun p hp => ?_⟩
            · obtain ⟨c0, d0, e0, r0⟩ := hb14.same s15
              exact ⟨c0, d0, by rw [upd_ne nlb.symm]; exact e0, r0⟩
            · rw [upd_ne (ne_of_none ha hl0)]
              exact s15 _ _ (off0 _ _ ha na)
            · rcases List.mem_append.mp hp with h | h
              · exact hok p h
              · rw [List.mem_singleton.mp h]
                refine ⟨fun e => ?_, by show z.length ≤ 4; omega⟩
                rw [show z = [] from e] at z1
                exact absurd z1 (by decide)
          · obtain ⟨x7, xs, ps, rfl, hb12, off12, el12, hps, hlen, hok⟩ := hp
            have few : ps.length ≤ 2 := by
              rw [hlen]
              omega
            refine ⟨.ref b, rfl, .int wi, rfl, b, 2, wi, rfl, hb12, by decide, w2, by omega, fun z H13 z1 z2 hb13 off13 => ⟨.ref l, rfl, by show 2 ≤ sizeLine; decide, fun t ht => ?_⟩⟩
            have st : Same H13 (upd H13 t (.tup [.str (WS z), .ref l])) := same_new ht
            have ru : RuAt (upd H13 t (.tup [.str (WS z), .ref l])) t z ps := ⟨l, xs, upd_same, st _ _ (off13 _ _ el12 nlb), (hps.kp (kp_off hb12 off13)).kp (kp_same st)⟩
            have offC : Own.Off b H (upd H13 t (.tup [.str (WS z), .ref l])) := (off12.trans off13).trans (off_of st)
            have hbC := hb13.same st
            refine ⟨.ref t, rfl, t, z, ps, rfl, ru, few, hok, fun r H14 s14 hr => ⟨_, rfl, ite2 (fun e => ?_) (fun e => ?_)⟩⟩
            · exact ⟨.ref t, rfl, q t z ps H14 ⟨(hr e).1, few, hok, by omega, by omega, (hr e).2⟩ (ru.same s14) (hbC.same s14) (offC.trans (off_of s14))⟩
            · exact ⟨_, _, _, _, rfl, hbC.same s14, offC.trans (off_of s14)⟩
        · obtain ⟨x5, x6, x7, x8, rfl, hb9, off9⟩ := hp
          refine ⟨by show 0 ≤ sizeLine; decide, fun l hl => ⟨by show 2 ≤ sizeLine; decide, fun t ht => ?_⟩⟩
          have s1 : Same H9 (upd H9 l (.lst [])) := same_new hl
          have s2 := s1.trans (same_new (o := .tup [.str "110", .ref l]) ht)
          have e110 : ("110" : Str) = WS [true, true, false] := by decide +kernel
          refine q t [true, true, false] [] _ (lr5 wi) ⟨l, [], ?_, (same_new ht) _ _ upd_same, trivial⟩ (hb9.same s2) (off9.trans (off_of s2))
          rw [← e110]
          exact upd_same

abbrev s_made : Stmt := (topS 31)
theorem sc_made : FnScope ["_law_rule_here"] ["_law_rule_here"] (fnScope s_made) := fnScope_by (by decide +kernel)
theorem ok_made {C f : Addr} {fd : FuncData} (F : C8.Fun K "_law_made" "_law_made" s_made f fd) (M : Mg mg) (k_Rule_2 : Mak P w K mg base 5 "Rule" C (spRInit K C) []) : FnOk P w K mg base CX0 7 f fd ["_law_rule_here"] (spMade C) := by
  refine fn0 F sc_made (fun vs H Q E h => ?_) (fun cdv A outer s H vs Q E hr h => ?_)
  · obtain ⟨t, flag, ps, rfl, _⟩ := h
    rfl
  · obtain ⟨t, flag, ps, rfl, ⟨l, xs, h1, h2, h3⟩, ok, f2, f9, q⟩ := h
    refine ⟨_, (pss_one (ps_ret (pe_mk k_Rule_2 hr (by decide) (by rfl) (pa_cons (pe_ix (r := rIxT K) ix_tup (pv 0) pe_int (fun _ _ => rfl)) (pa_cons (pe_ix (r := rIxT K) ix_tup (pv 0) pe_int (fun _ _ => rfl)) pa_nil))))), ?_⟩
    refine ⟨.ref t, rfl, t, _, 0, _, rfl, rfl, .inl (.inl h1), atI0, .ref t, rfl, t, _, 1, _, rfl, rfl, .inl (.inl h1), atI1, fun p dx hp hdx ne => ?_⟩
    have sm : Same H (upd (upd H dx (HO.own p)) p (HO.ins C dx [])) := fun a o ha => by
      rw [upd_ne (ne_of_none ha hp), upd_ne (ne_of_none ha hdx)]
      exact ha
    refine ⟨p, dx, l, true, flag, xs, ps, rfl, f2, f9, .l (sm _ _ h2), h3.kp (kp_same sm), ok, upd_same, fun H' rl kp => ⟨rfl, q p H' rl (same_make hp hdx kp)⟩⟩

abbrev s_filled : Stmt := (topS 2)
theorem sc_filled : FnScope ["rule", "line", "due"] ["rule", "line"] (fnScope s_filled) := fnScope_by (by decide +kernel)
theorem ok_filled {C f : Addr} {fd : FuncData} (F : C8.Fun K "filled" "filled" s_filled f fd) (M : Mg mg) (m_put : Met P w K mg base 2 C "put" (spPut C) []) : FnOk P w K mg base CX0 3 f fd ["rule", "line"] (spFilled C) := by
  refine fn0 F sc_filled (fun vs H Q E h => ?_) (fun cdv A outer s H vs Q E hr h => ?_)
  · obtain ⟨p, flag, ps, line, rfl, _⟩ := h
    rfl
  · obtain ⟨p, flag, ps, line, rfl, rl, hend, hl, q⟩ := h
    refine ⟨_, (pss_cons (ps_set (i := 2) sc_filled.nd rfl (Or.inl rfl) (pe_mt m_put hr (by decide) (pv 0) (pa_cons (pv 1) pa_nil)))
        (pss_cons (ps_while PassesOwn.never (pt_cmpR op_notN (pv 2) pe_non (nomark _))
          (pss_cons (ps_aug (i := 1) sc_filled.nd rfl (Or.inl rfl) (pv 2) iop_add_str)
            (pss_one (ps_set (i := 2) sc_filled.nd rfl (Or.inl rfl) (pe_mt m_put hr (by decide) (pv 0) (pa_cons (pv 1) pa_nil))))))
        (pss_one (ps_ret (pv 1))))), ?_⟩
    have nfP : ∀ (flag : List Bool) (t : Addr), (rlf flag t).lookup ("put" : Str) = none := fun flag t => by
      unfold rlf
      rw [List.lookup_cons, show (("put" : Str) == "flag") = false by decide +kernel, List.lookup_cons, show (("put" : Str) == "stuffs") = false by decide +kernel]
      rfl
    obtain ⟨dx, t, xs, e1, f1, g1⟩ := id rl
    refine ⟨.ref p, rfl, p, dx, _, rfl, e1, nfP _ _, .str (WS line), rfl, p, flag, ps, line, rfl, rl, fun H1 s1 => ?_⟩
    refine ⟨fun m σ H9 => ∃ g : Nat, g ≤ 24 ∧ m = 24 - g ∧ σ = [some (.ref p), some (.str (WS (putsN ps g line))), some (oB (putL ps (putsN ps g line)))] ∧ Same H H9, ⟨24, 0, by decide, rfl, rfl, s1⟩, ?_⟩
    rintro m σ H9 ⟨g, hg, rfl, rfl, s9⟩
    have hlen := putsN_len ps g line
    have estop := fun h : putL ps (putsN ps g line) = none => puts_stop h hg
    have esucc := putsN_succ ps g line
    have hlt : putL ps (putsN ps g line) ≠ none → g < 24 := fun h => by
      rcases Nat.lt_or_ge g 24 with h1 | h1
      · exact h1
      · have : g = 24 := by omega
        subst this
        exact absurd hend h
    unfold stepP at esucc
    obtain ⟨dx9, t9, xs9, e9, f9, g9⟩ := rl.kp (kp_same s9)
    revert estop esucc hlt
    cases putL ps (putsN ps g line) with
    | none =>
      intro estop _ _
      refine ⟨.non, rfl, rfl, _, rfl, iteNS rfl ⟨_, rfl, ?_⟩⟩
      rw [← estop rfl]
      exact q H9 s9
    | some b =>
      intro _ esucc hlt
      have hg24 := hlt (by intro z; cases z)
      refine ⟨.str (WS [b]), rfl, rfl, _, rfl, iteNE (by intro z; cases z) ⟨_, fun σ' H' hW => hW, ?_⟩⟩
      refine ⟨_, rfl, _, rfl, _, _, rfl, rfl, cat_len5 _ _ (by show _ + 1 ≤ 100000; omega), ?_⟩
      rw [WS_cat]
      have e2 : putsN ps (g + 1) line = putsN ps g line ++ [b] := esucc
      rw [← e2]
      refine ⟨.ref p, rfl, p, dx9, _, rfl, e9, nfP _ _, _, rfl, p, flag, ps, _, rfl, rl.kp (kp_same s9), fun H2 s2 => ?_⟩
      exact ⟨24 - (g + 1), by omega, g + 1, hg24, rfl, rfl, s9.trans s2⟩
abbrev s_body : Stmt := (topS 3)
theorem sc_body : FnScope ["rule", "message", "line", "bit"] ["rule", "message"] (fnScope s_body) := fnScope_by (by decide +kernel)
theorem ok_body {C f : Addr} {fd : FuncData} (F : C8.Fun K "body" "body" s_body f fd) (M : Mg mg) (c_filled : Cal P w K mg base 3 "filled" (spFilled C) []) : FnOk P w K mg base CX0 4 f fd ["rule", "message"] (spBody C) := by
  refine fn0 F sc_body (fun vs H Q E h => ?_) (fun cdv A outer s H vs Q E hr h => ?_)
  · obtain ⟨p, flag, ps, m, rfl, _⟩ := h
    rfl
  · obtain ⟨p, flag, ps, m, rfl, rl, hf, h4, hm, q⟩ := h
    refine ⟨_, (pss_cons (ps_set (i := 2) sc_body.nd rfl (Or.inl rfl) pe_str)
        (pss_cons (ps_for PassesOwn.never rfl (pi_str (pv 1)) (pg_name (i := 3) sc_body.nd rfl (Or.inl rfl))
          (pss_one (ps_set (i := 2) sc_body.nd rfl (Or.inl rfl) (pe_c c_filled hr (by decide) (by rfl) (pa_cons (pv 0) (pa_cons (pe_op op_add_str (pv 2) (pv 3)) pa_nil))))))
        (pss_one (ps_ret (pv 2))))), ?_⟩
    refine ⟨.str (WS m), rfl, _, rfl, ?_⟩
    refine for_it walk_str (fun i σ H1 => ∃ x : Option V, σ = [some (.ref p), some (.str (WS m)), some (.str (WS (bodyL ps (m.take i)))), x] ∧ Same H H1) ⟨none, rfl, Same.refl H⟩ (fun _ _ _ _ _ => trivial) (fun i x σ H1o H1 hi hp hy => ?_) (fun σ H1 hp => ?_)
    · obtain ⟨rfl, c, hc, rfl⟩ := hy
      obtain ⟨x, rfl, s1⟩ := hp
      obtain ⟨b, hb, hcb⟩ : ∃ b, m[i]? = some b ∧ (⟨#[c]⟩ : Str) = WS [b] := bit_at hc
      rw [hcb]
      have hbl := body_len hf h4 (m.take i)
      have hti : (m.take i).length ≤ 400 := Nat.le_trans (by rw [List.length_take]; omega) hm
      obtain ⟨g1, g2⟩ := body_ok hf h4 (m.take i) b
      refine ⟨.ref p, rfl, _, rfl, _, rfl, _, _, rfl, rfl, cat_len5 _ _ (by show _ + 1 ≤ 100000; omega), ?_⟩
      rw [WS_cat]
      refine ⟨p, flag, ps, _, rfl, rl.kp (kp_same s1), g1, (by rw [List.length_append]; show _ + 1 ≤ 90000; omega), fun H2 s2 => ?_⟩
      rw [← bodyL_snoc, ← take_snoc hb]
      exact ⟨_, rfl, s1.trans s2⟩
    · obtain ⟨x, rfl, s1⟩ := hp
      rw [WS_size, List.take_length]
      exact ⟨_, rfl, q H1 s1⟩

abbrev s_flag_at : Stmt := (topS 8)
theorem sc_flag_at : FnScope ["rule", "message"] ["rule", "message"] (fnScope s_flag_at) := fnScope_by (by decide +kernel)
theorem ok_flag_at {C f : Addr} {fd : FuncData} (F : C8.Fun K "flag_at" "flag_at" s_flag_at f fd) (M : Mg mg) (T : RlT K C) (c_body : Cal P w K mg base 4 "body" (spBody C) []) : FnOk P w K mg base CX0 5 f fd ["rule", "message"] (spFlagAt C) := by
  refine fn0 F sc_flag_at (fun vs H Q E h => ?_) (fun cdv A outer s H vs Q E hr h => ?_)
  · obtain ⟨p, flag, ps, m, rfl, _⟩ := h
    rfl
  · obtain ⟨p, flag, ps, m, rfl, rl, hf, h4, hm, hfl, q⟩ := h
    refine ⟨_, (pss_one (ps_ret (pe_m1 PySem.F.slot_str_find PySem.F.type_str_find mt_find (pe_op op_add_str (pe_c c_body hr (by decide) (by rfl) (pa_cons (pv 0) (pa_cons (pv 1) pa_nil))) (pe_fld (pv 0) rfl)) (pe_fld (pv 0) rfl)))), ?_⟩
    have hbl := body_len hf h4 m
    refine ⟨.ref p, rfl, _, rfl, p, flag, ps, m, rfl, rl, hf, h4, hm, fun H1 s1 => ?_⟩
    obtain ⟨dx, t, xs, e1, f1, g1⟩ := rl.kp (kp_same s1)
    refine ⟨.ref p, rfl, p, C, dx, _, _, rfl, e1, T.cl, T.nF, rlf_flag flag t, _, _, rfl, rfl, cat_len5 _ _ (by omega), ?_⟩
    rw [WS_cat]
    refine ⟨⟨_, rfl⟩, .ref p, rfl, p, C, dx, _, _, rfl, e1, T.cl, T.nF, rlf_flag flag t, _, _, rfl, rfl, ?_⟩
    exact q H1 s1

abbrev s_body' : Stmt := (topS 32)
theorem sc_body' : FnScope ["_law_rule_here", "_law_message", "_law_line", "_law_bit", "_law_turn", "_law_due"] ["_law_rule_here", "_law_message"] (fnScope s_body') := fnScope_by (by decide +kernel)
theorem ok_lbody {f : Addr} {fd : FuncData} (F : C8.Fun K "_law_body" "_law_body" s_body' f fd) (M : Mg mg) (c_put : Cal P w K mg base 1 "_law_put" spLPut []) : FnOk P w K mg base CX0 2 f fd ["_law_rule_here", "_law_message"] spLBody := by
  refine fn0 F sc_body' (fun vs H Q E h => ?_) (fun cdv A outer s H vs Q E hr h => ?_)
  · obtain ⟨t, flag, ps, m, rfl, _⟩ := h
    rfl
  · obtain ⟨t, flag, ps, m, rfl, ru, hf, few, h4, hm, q⟩ := h
    refine ⟨_, (pss_cons (ps_set (i := 2) sc_body'.nd rfl (Or.inl rfl) pe_str)
        (pss_cons (ps_for PassesOwn.never rfl (pi_str (pv 1)) (pg_name (i := 3) sc_body'.nd rfl (Or.inl rfl))
          (pss_cons (ps_set (i := 2) sc_body'.nd rfl (Or.inl rfl) (pe_op op_add_str (pv 2) (pv 3)))
            (pss_one (ps_for PassesOwn.never rfl (pi_range1 (by rfl) M.range (pa_cons pe_int pa_nil)) (pg_name (i := 4) sc_body'.nd rfl (Or.inl rfl))
              (pss_cons (ps_set (i := 5) sc_body'.nd rfl (Or.inl rfl) (pe_c c_put hr (by decide) (by rfl) (pa_cons (pv 0) (pa_cons (pv 2) pa_nil))))
                (pss_cons (ps_if (pt_cmpR op_eq (pv 5) pe_str (nomark _))
                  (pss_one ps_break)
                  pss_nil)
                (pss_one (ps_set (i := 2) sc_body'.nd rfl (Or.inl rfl) (pe_op op_add_str (pv 2) (pv 5))))))))))
        (pss_one (ps_ret (pv 2))))), ?_⟩
    refine ⟨.str (WS m), rfl, _, rfl, ?_⟩
    refine for_it walk_str (fun i σ H1 => ∃ x3 x4 x5 : Option V, σ = [some (.ref t), some (.str (WS m)), some (.str (WS (bodyL ps (m.take i)))), x3, x4, x5] ∧ Same H H1) ⟨none, none, none, rfl, Same.refl H⟩ (fun _ _ _ _ _ => trivial) (fun i x σ H1o H1 hi hp hy => ?_) (fun σ H1 hp => ?_)
    · obtain ⟨rfl, c, hc, rfl⟩ := hy
      obtain ⟨x3, x4, x5, rfl, s1⟩ := hp
      obtain ⟨b, hb, hcb⟩ : ∃ b, m[i]? = some b ∧ (⟨#[c]⟩ : Str) = WS [b] := bit_at hc
      rw [hcb]
      have hbl := body_len hf h4 (m.take i)
      have him : i < m.length := by rw [WS_size] at hi; exact hi
      have hti : (m.take i).length ≤ 39 := by rw [List.length_take]; omega
      obtain ⟨g1, g2⟩ := body_ok hf h4 (m.take i) b
      refine ⟨_, rfl, _, rfl, _, _, rfl, rfl, cat_len5 _ _ (by show _ + 1 ≤ 100000; omega), ?_⟩
      rw [WS_cat]
      have fin : bodyL ps (m.take (i + 1)) = putsN ps 24 (bodyL ps (m.take i) ++ [b]) := by rw [take_snoc hb, bodyL_snoc]
      have hub : (bodyL ps (m.take i) ++ [b]).length ≤ 800 := by rw [List.length_append]; show _ + 1 ≤ 800; omega
      revert fin hub
      generalize bodyL ps (m.take i) ++ [b] = u
      intro fin hub
      refine ⟨24, rfl, by decide, by decide, ?_⟩
      refine for_itB walk_range (fun g σ H4 => ∃ (x4 x5 : Option V), σ = [some (.ref t), some (.str (WS m)), some (.str (WS (putsN ps g u))), some (.str (WS [b])), x4, x5] ∧ Same H1 H4)
        (fun σ H4 => ∃ (x4 x5 : Option V), σ = [some (.ref t), some (.str (WS m)), some (.str (WS (putsN ps 24 u))), some (.str (WS [b])), x4, x5] ∧ Same H1 H4)
        ⟨x4, x5, rfl, Same.refl _⟩ (fun _ _ _ _ _ => trivial) (fun σ H4 h => h) (fun aft g x σ H4o H4 hg hp4 hy => ?_) (fun σ H4 hp4 => ?_)
      · obtain ⟨rfl, rfl⟩ := hy
        obtain ⟨x4, x5, rfl, s4⟩ := hp4
        have hg24 : g < 24 := hg
        have hll := putsN_len ps g u
        refine ⟨.ref t, rfl, _, rfl, t, flag, ps, _, rfl, ru.same (s1.trans s4), by omega, fun p hp => Nat.le_trans (h4 p hp) (by decide), by omega, fun H5 s45 => ?_⟩
        have estop := fun h : putL ps (putsN ps g u) = none => puts_stop h (Nat.le_of_lt hg24)
        have esucc := putsN_succ ps g u
        unfold stepP at esucc
        revert estop esucc
        cases putL ps (putsN ps g u) with
        | none =>
          intro estop _
          refine ⟨.str "", rfl, rfl, _, rfl, ite2 (fun _ => aft _ _ ?_) (fun e => absurd (decide_eq_true rfl) e)⟩
          rw [estop rfl]
          exact ⟨_, _, rfl, s4.trans s45⟩
        | some b2 =>
          intro _ esucc
          refine ⟨.str (WS [b2]), rfl, rfl, _, rfl, ite2 (fun e => absurd (of_decide_eq_true e) (str_ne (by cases b2 <;> decide +kernel))) (fun _ => ?_)⟩
          refine ⟨_, rfl, _, rfl, _, WS [b2], rfl, rfl, cat_len5 _ _ (by show _ + 1 ≤ 100000; omega), ?_⟩
          rw [WS_cat]
          have e2 : putsN ps (g + 1) u = putsN ps g u ++ [b2] := esucc
          rw [← e2]
          exact ⟨_, _, rfl, s4.trans s45⟩
      · obtain ⟨x4, x5, rfl, s4⟩ := hp4
        rw [← fin]
        exact ⟨_, _, _, rfl, s1.trans s4⟩
    · obtain ⟨x3, x4, x5, rfl, s1⟩ := hp
      rw [WS_size, List.take_length]
      exact ⟨_, rfl, q H1 s1⟩

abbrev s_law : Stmt := (topS 33)
theorem sc_law : FnScope ["_law_script", "_law_k", "_law_box", "_law_turn", "_law_rule_here", "_law_made_here", "_law_more", "_law_message", "_law_due"] ["_law_script"] (fnScope s_law) := fnScope_by (by decide +kernel)
theorem ok_law {C f : Addr} {fd : FuncData} (F : C8.Fun K "law" "law" s_law f fd) (M : Mg mg) (c_seed : Cal P w K mg base 1 "_law_seed" (spSeed K) []) (c_rule : Cal P w K mg base 4 "_law_rule" spRule []) (c_made : Cal P w K mg base 7 "_law_made" (spMade C) []) (c_word : Cal P w K mg base 3 "_law_word" spWord2 []) (c_lbody : Cal P w K mg base 2 "_law_body" spLBody []) (c_flag_at : Cal P w K mg base 5 "flag_at" (spFlagAt C) []) : FnOk P w K mg base CX0 8 f fd ["_law_script"] (spLaw K) := by
  refine fn0 F sc_law (fun vs H Q E h => ?_) (fun cdv A outer s H vs Q E hr h => ?_)
  · obtain ⟨a, ns, rfl, _⟩ := h
    rfl
  · obtain ⟨a, ns, rfl, hS, hl, q⟩ := h
    refine ⟨_, (pss_cons (ps_for PassesOwn.never rfl (pi_range1 (by rfl) M.range (pa_cons (pe_callB (call_max2 rfl) (by rfl) M.max (by decide +kernel) (pa_cons pe_int (pa_cons (pe_callB (call_min2 rfl) (by rfl) M.min (by decide +kernel) (pa_cons pe_int (pa_cons (pe_callB call_len_seq (by rfl) M.len PySem.boot_len (pa_cons (pv 0) pa_nil)) pa_nil))) pa_nil))) pa_nil)) (pg_name (i := 1) sc_law.nd rfl (Or.inl rfl))
          (pss_cons (ps_set (i := 2) sc_law.nd rfl (Or.inl rfl) (pe_c c_seed hr (by decide) (by rfl) (pa_cons (pv 0) (pa_cons (pv 1) pa_nil))))
            (pss_one (ps_for PassesOwn.never rfl (pi_range1 (by rfl) M.range (pa_cons pe_int pa_nil)) (pg_name (i := 3) sc_law.nd rfl (Or.inl rfl))
              (pss_cons (ps_set (i := 4) sc_law.nd rfl (Or.inl rfl) (pe_c c_rule hr (by decide) (by rfl) (pa_cons (pv 2) (pa_cons pe_int (pa_cons pe_int pa_nil)))))
                (pss_cons (ps_set (i := 5) sc_law.nd rfl (Or.inl rfl) (pe_c c_made hr (by decide) (by rfl) (pa_cons (pv 4) pa_nil)))
                (pss_cons (ps_for PassesOwn.never rfl (pi_range1 (by rfl) M.range (pa_cons pe_int pa_nil)) (pg_name (i := 6) sc_law.nd rfl (Or.inl rfl))
                  (pss_cons (ps_set (i := 7) sc_law.nd rfl (Or.inl rfl) (pe_c c_word hr (by decide) (by rfl) (pa_cons (pv 2) (pa_cons pe_int (pa_cons pe_int pa_nil)))))
                    (pss_cons (ps_set (i := 8) sc_law.nd rfl (Or.inl rfl) (pe_m1 PySem.F.slot_str_find PySem.F.type_str_find mt_find (pe_op op_add_str (pe_c c_lbody hr (by decide) (by rfl) (pa_cons (pv 4) (pa_cons (pv 7) pa_nil))) (pe_ix (r := rIxT K) ix_tup (pv 4) pe_int (fun _ _ => rfl))) (pe_ix (r := rIxT K) ix_tup (pv 4) pe_int (fun _ _ => rfl))))
                    (pss_one (ps_if (PW.pt (pw_or (pt_cmpR op_ne (pe_callB SkE.call_repr_int (by rfl) M.repr (by decide +kernel) (pa_cons (pe_c c_flag_at hr (by decide) (by rfl) (pa_cons (pv 5) (pa_cons (pv 7) pa_nil))) pa_nil)) (pe_callB SkE.call_repr_int (by rfl) M.repr (by decide +kernel) (pa_cons (pv 8) pa_nil)) (nomark _)) (pw_or1 (pt_cmpR op_ne (pe_c c_flag_at hr (by decide) (by rfl) (pa_cons (pv 5) (pa_cons (pv 7) pa_nil))) (pv 8) (nomark _)))))
                      (pss_one (ps_ret pe_bl))
                      pss_nil)))))
                (pss_one (ps_if (pt_cmpR op_ne (pe_c c_flag_at hr (by decide) (by rfl) (pa_cons (pv 5) (pa_cons pe_str pa_nil))) pe_int (nomark _))
                  (pss_one (ps_ret pe_bl))
                  pss_nil)))))))))
        (pss_one (ps_ret pe_bl))), ?_⟩
    refine ⟨.ref a, rfl, a, ns.map V.int, rfl, .inl hS, 4, _, rfl, 2, _, rfl, _, rfl, (by split <;> (try split) <;> omega), (by split <;> (try split) <;> omega), ?_⟩
    refine for_it walk_range (fun i σ H1 => ∃ x1 x2 x3 x4 x5 x6 x7 x8, σ = [some (.ref a), x1, x2, x3, x4, x5, x6, x7, x8] ∧ Same H H1)
      ⟨_, _, _, _, _, _, _, _, rfl, Same.refl H⟩ (fun _ _ _ _ _ => trivial) (fun i x σ H1 H1' hi hp hy => ?_) (fun σ H1 hp => ?_)
    · obtain ⟨rfl, rfl⟩ := hy
      obtain ⟨x1, x2, x3, x4, x5, x6, x7, x8, rfl, s1⟩ := hp
      have hi4 : i < 100 := by
        revert hi
        split <;> (try split) <;> omega
      refine ⟨.ref a, rfl, _, rfl, a, ns, (0 : Int) + (i : Nat), rfl, s1.seq hS, hl, by omega, by omega, fun b H2 hb1 hb2 s2 => ?_⟩
      have hb0 : H b = none := s1.free hb1
      refine ⟨6, rfl, by decide, by decide, ?_⟩
      refine for_it walk_range (fun j σ H3 => ∃ (x3 x4 x5 x6 x7 x8 : Option V), σ = [some (.ref a), some (.int (0 + (i : Nat))), some (.ref b), x3, x4, x5, x6, x7, x8] ∧ Same H H3 ∧ BoxAt H3 b)
        ⟨x3, x4, x5, x6, x7, x8, rfl, s1.trans s2, hb2⟩ (fun _ _ _ _ _ => trivial) (fun j x σ H3 H3' hj hp hy => ?_) (fun σ H3 hp => ?_)
      · obtain ⟨rfl, rfl⟩ := hy
        obtain ⟨x3, x4, x5, x6, x7, x8, rfl, s3, hb3⟩ := hp
        refine ⟨.ref b, rfl, b, 6, 4, rfl, hb3, by decide, by decide, by decide, by decide, fun t flag ps H4 lr ru hb4 off4 => ?_⟩
        have s4 := same_off s3 off4 hb0
        have hfl : flag.length ≤ 6 := by have := lr.f5; omega
        have few := lr.few
        have h4 : ∀ p ∈ ps, p.1.length ≤ 4 := fun p hp => (lr.lens p hp).2
        have hput : ∀ u, putL (sortP ps) u = putL ps u := fun u => putL_perm lr.ok.parted (sortP_perm ps) u
        have hfS : Fill (sortP ps) := fill_perm hput lr.fill
        have h4S : ∀ p ∈ sortP ps, p.1.length ≤ 4 := fun p hp => h4 p ((sortP_perm ps).mem_iff.mp hp)
        refine ⟨.ref t, rfl, t, flag, ps, rfl, ru, lr.ok, lr.f2, by omega, fun p H5 rl s45 => ?_⟩
        have hb5 := hb4.same s45
        have ru5 := ru.same s45
        have s5 := s4.trans s45
        refine ⟨4, rfl, by decide, by decide, ?_⟩
        refine for_it walk_range (fun g σ H6 => ∃ (x6 x7 x8 : Option V), σ = [some (.ref a), some (.int (0 + (i : Nat))), some (.ref b), some (.int (0 + (j : Nat))), some (.ref t), some (.ref p), x6, x7, x8] ∧ Same H H6 ∧ BoxAt H6 b ∧ RuAt H6 t flag ps ∧ RlAt C H6 p flag (sortP ps))
          ⟨x6, x7, x8, rfl, s5, hb5, ru5, rl⟩ (fun _ _ _ _ _ => trivial) (fun g x σ H6 H6' hg hp hy => ?_) (fun σ H6 hp => ?_)
        · obtain ⟨rfl, rfl⟩ := hy
          obtain ⟨x6, x7, x8, rfl, s6, hb6, ru6, rl6⟩ := hp
          refine ⟨.ref b, rfl, b, 0, 40, rfl, hb6, by decide, by decide, by decide, fun m H7 m0 m40 hb7 off7 => ?_⟩
          have hm : m.length ≤ 40 := by omega
          have ru7 := ru6.off hb6 off7
          have rl7 := rl6.kp (kp_off hb6 off7)
          have s7 := same_off s6 off7 hb0
          have hbl := body_len lr.fill h4 m
          have ebp : bodyL (sortP ps) m = bodyL ps m := body_perm hput m
          refine ⟨.ref t, rfl, .str (WS m), rfl, t, flag, ps, m, rfl, ru7, lr.fill, few, h4, hm, fun H8 s78 => ?_⟩
          have ru8 := ru7.same s78
          obtain ⟨l8, xs8, g8, k8, r8⟩ := id ru8
          refine ⟨.ref t, rfl, t, _, 0, _, rfl, rfl, .inl (.inl g8), atI0, _, _, rfl, rfl, cat_len5 _ _ (by omega), ?_⟩
          rw [WS_cat]
          refine ⟨⟨_, rfl⟩, .ref t, rfl, t, _, 0, _, rfl, rfl, .inl (.inl g8), atI0, _, _, rfl, rfl, ?_⟩
          have hfb := find_bound (WS (bodyL ps m ++ flag)) (WS flag)
          have hlb : ((WS (bodyL ps m ++ flag)).length : Int) ≤ 90000 := by
            rw [WS_len, List.length_append]
            omega
          revert hfb
          generalize hn : Txt.find (WS (bodyL ps m ++ flag)) (WS flag) = n
          intro hfb
          have hlog : n.natAbs.log2 < 1920 := log_small (by omega) (by omega)
          have rl8 := rl7.kp (kp_same s78)
          refine ⟨.ref p, rfl, .str (WS m), rfl, p, flag, sortP ps, m, rfl, rl8, hfS, h4S, by omega, by omega, fun H9 s89 => ?_⟩
          rw [ebp, hn]
          refine ⟨n, rfl, hlog, .int n, rfl, n, rfl, hlog, rfl, _, rfl, iteNS rfl ?_⟩
          refine ⟨.ref p, rfl, .str (WS m), rfl, p, flag, sortP ps, m, rfl, rl8.kp (kp_same s89), hfS, h4S, by omega, by omega, fun H10 s910 => ?_⟩
          rw [ebp, hn]
          refine ⟨.int n, rfl, rfl, _, rfl, iteNS rfl ?_⟩
          have sA := s89.trans s910
          exact ⟨_, _, _, rfl, (s7.trans s78).trans sA, (hb7.same s78).same sA, ru8.same sA, rl8.kp (kp_same sA)⟩
        · obtain ⟨x6, x7, x8, rfl, s6, hb6, ru6, rl6⟩ := hp
          refine ⟨.ref p, rfl, p, flag, sortP ps, [], ?_, rl6, hfS, h4S, by decide, by omega, fun H7 s7 => ?_⟩
          · rw [WS_nil]
            rfl
          have e0 : Txt.find (WS (bodyL (sortP ps) [] ++ flag)) (WS flag) = 0 := find_self (WS flag)
          rw [e0]
          exact ⟨rfl, _, rfl, iteNS rfl ⟨_, _, _, _, _, _, rfl, s6.trans s7, hb6.same s7⟩⟩
      · obtain ⟨x3, x4, x5, x6, x7, x8, rfl, s3, hb3⟩ := hp
        exact ⟨_, _, _, _, _, _, _, _, rfl, s3⟩
    · obtain ⟨x1, x2, x3, x4, x5, x6, x7, x8, rfl, s1⟩ := hp
      exact q H1

end
theorem all_mk {l : PySem.W.OpenLaw} {w : World} {K : PySem.W.Frag} {h : Heap} {mg : Str → Option Value} {fa f1 f2 f3 f4 f5 f6 f7 f8 f9 f10 f11 f12 f13 f14 f15 f16 f17 f18 f19 f20 f21 f22 CRule f23 f24 : Addr} (X : K.In h) (G : h.Ns mainGlobals mg) (hfa : mg "law" = some (.ref fa))
    {od1 an1 : Option Addr} {sl1 : Array (Option Value)} {oc1 kV1 dc1 pm1 cd1 ct1 : Value}
    {T1 : Addr} {cT1 : Value} {oT1 : Option Addr} {nT1 : Nat} {sT1 : Array (Option Value)} {u1_0 : Tok}
    {od2 an2 : Option Addr} {sl2 : Array (Option Value)} {oc2 kV2 dc2 pm2 cd2 ct2 : Value}
    {od3 an3 : Option Addr} {sl3 : Array (Option Value)} {oc3 kV3 dc3 pm3 cd3 ct3 : Value}
    {od4 an4 : Option Addr} {sl4 : Array (Option Value)} {oc4 kV4 dc4 pm4 cd4 ct4 : Value}
    {od5 an5 : Option Addr} {sl5 : Array (Option Value)} {oc5 kV5 dc5 pm5 cd5 ct5 : Value}
    {od6 an6 : Option Addr} {sl6 : Array (Option Value)} {oc6 kV6 dc6 pm6 cd6 ct6 : Value}
    {od7 an7 : Option Addr} {sl7 : Array (Option Value)} {oc7 kV7 dc7 pm7 cd7 ct7 : Value}
    {od8 an8 : Option Addr} {sl8 : Array (Option Value)} {oc8 kV8 dc8 pm8 cd8 ct8 : Value}
    {od9 an9 : Option Addr} {sl9 : Array (Option Value)} {oc9 kV9 dc9 pm9 cd9 ct9 : Value}
    {od10 an10 : Option Addr} {sl10 : Array (Option Value)} {oc10 kV10 dc10 pm10 cd10 ct10 : Value}
    {od11 an11 : Option Addr} {sl11 : Array (Option Value)} {oc11 kV11 dc11 pm11 cd11 ct11 : Value}
    {od12 an12 : Option Addr} {sl12 : Array (Option Value)} {oc12 kV12 dc12 pm12 cd12 ct12 : Value}
    {od13 an13 : Option Addr} {sl13 : Array (Option Value)} {oc13 kV13 dc13 pm13 cd13 ct13 : Value}
    {od14 an14 : Option Addr} {sl14 : Array (Option Value)} {oc14 kV14 dc14 pm14 cd14 ct14 : Value}
    {od15 an15 : Option Addr} {sl15 : Array (Option Value)} {oc15 kV15 dc15 pm15 cd15 ct15 : Value}
    {od16 an16 : Option Addr} {sl16 : Array (Option Value)} {oc16 kV16 dc16 pm16 cd16 ct16 : Value}
    {od17 an17 : Option Addr} {sl17 : Array (Option Value)} {oc17 kV17 dc17 pm17 cd17 ct17 : Value}
    {od18 an18 : Option Addr} {sl18 : Array (Option Value)} {oc18 kV18 dc18 pm18 cd18 ct18 : Value}
    {od19 an19 : Option Addr} {sl19 : Array (Option Value)} {oc19 kV19 dc19 pm19 cd19 ct19 : Value}
    {od20 an20 : Option Addr} {sl20 : Array (Option Value)} {oc20 kV20 dc20 pm20 cd20 ct20 : Value}
    {od21 an21 : Option Addr} {sl21 : Array (Option Value)} {oc21 kV21 dc21 pm21 cd21 ct21 : Value}
    {od22 an22 : Option Addr} {sl22 : Array (Option Value)} {oc22 kV22 dc22 pm22 cd22 ct22 : Value}
    {od23 an23 : Option Addr} {sl23 : Array (Option Value)} {oc23 kV23 dc23 pm23 cd23 ct23 : Value}
    {T23 : Addr} {cT23 : Value} {oT23 : Option Addr} {nT23 : Nat} {sT23 : Array (Option Value)} 
    {E23_0 : Addr} {eO23_0 : Option Addr} {eN23_0 : Nat} {eS23_0 : Array (Option Value)}
    {od24 an24 : Option Addr} {sl24 : Array (Option Value)} {oc24 kV24 dc24 pm24 cd24 ct24 : Value}
    (a1 : PySem.W.nsIn K mainGlobals "is_word" = some (some (.ref f1)))
    (l1 : K.lookup f1 = some ⟨oc1, od1, .func (PySem.W.fnOf "is_word" "is_word" (fnArgs s_is_word) (fnBody s_is_word) (fnScope s_is_word) (.ref T1) kV1 dc1 pm1 an1 cd1 ct1), sl1⟩)
    (c1 : PySem.W.codeIn K cd1 "is_word" = true)
    (k1 : PySem.W.keepIn K (.ref f1) = true)
    (d1 : K.lookup T1 = some ⟨cT1, oT1, .seq #[.int 0 u1_0] nT1, sT1⟩)
    (a2 : PySem.W.nsIn K mainGlobals "is_bit" = some (some (.ref f2)))
    (l2 : K.lookup f2 = some ⟨oc2, od2, .func (PySem.W.fnOf "is_bit" "is_bit" (fnArgs s_is_bit) (fnBody s_is_bit) (fnScope s_is_bit) .none kV2 dc2 pm2 an2 cd2 ct2), sl2⟩)
    (c2 : PySem.W.codeIn K cd2 "is_bit" = true)
    (k2 : PySem.W.keepIn K (.ref f2) = true)
    (a3 : PySem.W.nsIn K mainGlobals "is_stuff" = some (some (.ref f3)))
    (l3 : K.lookup f3 = some ⟨oc3, od3, .func (PySem.W.fnOf "is_stuff" "is_stuff" (fnArgs s_is_stuff) (fnBody s_is_stuff) (fnScope s_is_stuff) .none kV3 dc3 pm3 an3 cd3 ct3), sl3⟩)
    (c3 : PySem.W.codeIn K cd3 "is_stuff" = true)
    (k3 : PySem.W.keepIn K (.ref f3) = true)
    (a4 : PySem.W.nsIn K mainGlobals "one_ends_with_another" = some (some (.ref f4)))
    (l4 : K.lookup f4 = some ⟨oc4, od4, .func (PySem.W.fnOf "one_ends_with_another" "one_ends_with_another" (fnArgs s_one_ends_with_another) (fnBody s_one_ends_with_another) (fnScope s_one_ends_with_another) .none kV4 dc4 pm4 an4 cd4 ct4), sl4⟩)
    (c4 : PySem.W.codeIn K cd4 "one_ends_with_another" = true)
    (k4 : PySem.W.keepIn K (.ref f4) = true)
    (a5 : PySem.W.nsIn K mainGlobals "are_stuffs" = some (some (.ref f5)))
    (l5 : K.lookup f5 = some ⟨oc5, od5, .func (PySem.W.fnOf "are_stuffs" "are_stuffs" (fnArgs s_are_stuffs) (fnBody s_are_stuffs) (fnScope s_are_stuffs) .none kV5 dc5 pm5 an5 cd5 ct5), sl5⟩)
    (c5 : PySem.W.codeIn K cd5 "are_stuffs" = true)
    (k5 : PySem.W.keepIn K (.ref f5) = true)
    (a6 : PySem.W.nsIn K mainGlobals "longest_pattern" = some (some (.ref f6)))
    (l6 : K.lookup f6 = some ⟨oc6, od6, .func (PySem.W.fnOf "longest_pattern" "longest_pattern" (fnArgs s_longest_pattern) (fnBody s_longest_pattern) (fnScope s_longest_pattern) .none kV6 dc6 pm6 an6 cd6 ct6), sl6⟩)
    (c6 : PySem.W.codeIn K cd6 "longest_pattern" = true)
    (k6 : PySem.W.keepIn K (.ref f6) = true)
    (a7 : PySem.W.nsIn K mainGlobals "bit_behind" = some (some (.ref f7)))
    (l7 : K.lookup f7 = some ⟨oc7, od7, .func (PySem.W.fnOf "bit_behind" "bit_behind" (fnArgs s_bit_behind) (fnBody s_bit_behind) (fnScope s_bit_behind) .none kV7 dc7 pm7 an7 cd7 ct7), sl7⟩)
    (c7 : PySem.W.codeIn K cd7 "bit_behind" = true)
    (k7 : PySem.W.keepIn K (.ref f7) = true)
    (a8 : PySem.W.nsIn K mainGlobals "never_ends" = some (some (.ref f8)))
    (l8 : K.lookup f8 = some ⟨oc8, od8, .func (PySem.W.fnOf "never_ends" "never_ends" (fnArgs s_never_ends) (fnBody s_never_ends) (fnScope s_never_ends) .none kV8 dc8 pm8 an8 cd8 ct8), sl8⟩)
    (c8 : PySem.W.codeIn K cd8 "never_ends" = true)
    (k8 : PySem.W.keepIn K (.ref f8) = true)
    (a9 : PySem.W.nsIn K mainGlobals "are_endless" = some (some (.ref f9)))
    (l9 : K.lookup f9 = some ⟨oc9, od9, .func (PySem.W.fnOf "are_endless" "are_endless" (fnArgs s_are_endless) (fnBody s_are_endless) (fnScope s_are_endless) .none kV9 dc9 pm9 an9 cd9 ct9), sl9⟩)
    (c9 : PySem.W.codeIn K cd9 "are_endless" = true)
    (k9 : PySem.W.keepIn K (.ref f9) = true)
    (a10 : PySem.W.nsIn K mainGlobals "_law_seed" = some (some (.ref f10)))
    (l10 : K.lookup f10 = some ⟨oc10, od10, .func (PySem.W.fnOf "_law_seed" "_law_seed" (fnArgs s_seed) (fnBody s_seed) (fnScope s_seed) .none kV10 dc10 pm10 an10 cd10 ct10), sl10⟩)
    (c10 : PySem.W.codeIn K cd10 "_law_seed" = true)
    (k10 : PySem.W.keepIn K (.ref f10) = true)
    (a11 : PySem.W.nsIn K mainGlobals "_law_choose" = some (some (.ref f11)))
    (l11 : K.lookup f11 = some ⟨oc11, od11, .func (PySem.W.fnOf "_law_choose" "_law_choose" (fnArgs s_choose) (fnBody s_choose) (fnScope s_choose) .none kV11 dc11 pm11 an11 cd11 ct11), sl11⟩)
    (c11 : PySem.W.codeIn K cd11 "_law_choose" = true)
    (k11 : PySem.W.keepIn K (.ref f11) = true)
    (a12 : PySem.W.nsIn K mainGlobals "_law_one_of" = some (some (.ref f12)))
    (l12 : K.lookup f12 = some ⟨oc12, od12, .func (PySem.W.fnOf "_law_one_of" "_law_one_of" (fnArgs s_one_of) (fnBody s_one_of) (fnScope s_one_of) .none kV12 dc12 pm12 an12 cd12 ct12), sl12⟩)
    (c12 : PySem.W.codeIn K cd12 "_law_one_of" = true)
    (k12 : PySem.W.keepIn K (.ref f12) = true)
    (a13 : PySem.W.nsIn K mainGlobals "_law_word" = some (some (.ref f13)))
    (l13 : K.lookup f13 = some ⟨oc13, od13, .func (PySem.W.fnOf "_law_word" "_law_word" (fnArgs s_word) (fnBody s_word) (fnScope s_word) .none kV13 dc13 pm13 an13 cd13 ct13), sl13⟩)
    (c13 : PySem.W.codeIn K cd13 "_law_word" = true)
    (k13 : PySem.W.keepIn K (.ref f13) = true)
    (a14 : PySem.W.nsIn K mainGlobals "_law_put" = some (some (.ref f14)))
    (l14 : K.lookup f14 = some ⟨oc14, od14, .func (PySem.W.fnOf "_law_put" "_law_put" (fnArgs s_put) (fnBody s_put) (fnScope s_put) .none kV14 dc14 pm14 an14 cd14 ct14), sl14⟩)
    (c14 : PySem.W.codeIn K cd14 "_law_put" = true)
    (k14 : PySem.W.keepIn K (.ref f14) = true)
    (a15 : PySem.W.nsIn K mainGlobals "_law_is_rule" = some (some (.ref f15)))
    (l15 : K.lookup f15 = some ⟨oc15, od15, .func (PySem.W.fnOf "_law_is_rule" "_law_is_rule" (fnArgs s_is_rule) (fnBody s_is_rule) (fnScope s_is_rule) .none kV15 dc15 pm15 an15 cd15 ct15), sl15⟩)
    (c15 : PySem.W.codeIn K cd15 "_law_is_rule" = true)
    (k15 : PySem.W.keepIn K (.ref f15) = true)
    (a16 : PySem.W.nsIn K mainGlobals "_law_rule" = some (some (.ref f16)))
    (l16 : K.lookup f16 = some ⟨oc16, od16, .func (PySem.W.fnOf "_law_rule" "_law_rule" (fnArgs s_rule) (fnBody s_rule) (fnScope s_rule) .none kV16 dc16 pm16 an16 cd16 ct16), sl16⟩)
    (c16 : PySem.W.codeIn K cd16 "_law_rule" = true)
    (k16 : PySem.W.keepIn K (.ref f16) = true)
    (a17 : PySem.W.nsIn K mainGlobals "_law_made" = some (some (.ref f17)))
    (l17 : K.lookup f17 = some ⟨oc17, od17, .func (PySem.W.fnOf "_law_made" "_law_made" (fnArgs s_made) (fnBody s_made) (fnScope s_made) .none kV17 dc17 pm17 an17 cd17 ct17), sl17⟩)
    (c17 : PySem.W.codeIn K cd17 "_law_made" = true)
    (k17 : PySem.W.keepIn K (.ref f17) = true)
    (a18 : PySem.W.nsIn K mainGlobals "filled" = some (some (.ref f18)))
    (l18 : K.lookup f18 = some ⟨oc18, od18, .func (PySem.W.fnOf "filled" "filled" (fnArgs s_filled) (fnBody s_filled) (fnScope s_filled) .none kV18 dc18 pm18 an18 cd18 ct18), sl18⟩)
    (c18 : PySem.W.codeIn K cd18 "filled" = true)
    (k18 : PySem.W.keepIn K (.ref f18) = true)
    (a19 : PySem.W.nsIn K mainGlobals "body" = some (some (.ref f19)))
    (l19 : K.lookup f19 = some ⟨oc19, od19, .func (PySem.W.fnOf "body" "body" (fnArgs s_body) (fnBody s_body) (fnScope s_body) .none kV19 dc19 pm19 an19 cd19 ct19), sl19⟩)
    (c19 : PySem.W.codeIn K cd19 "body" = true)
    (k19 : PySem.W.keepIn K (.ref f19) = true)
    (a20 : PySem.W.nsIn K mainGlobals "flag_at" = some (some (.ref f20)))
    (l20 : K.lookup f20 = some ⟨oc20, od20, .func (PySem.W.fnOf "flag_at" "flag_at" (fnArgs s_flag_at) (fnBody s_flag_at) (fnScope s_flag_at) .none kV20 dc20 pm20 an20 cd20 ct20), sl20⟩)
    (c20 : PySem.W.codeIn K cd20 "flag_at" = true)
    (k20 : PySem.W.keepIn K (.ref f20) = true)
    (a21 : PySem.W.nsIn K mainGlobals "_law_body" = some (some (.ref f21)))
    (l21 : K.lookup f21 = some ⟨oc21, od21, .func (PySem.W.fnOf "_law_body" "_law_body" (fnArgs s_body') (fnBody s_body') (fnScope s_body') .none kV21 dc21 pm21 an21 cd21 ct21), sl21⟩)
    (c21 : PySem.W.codeIn K cd21 "_law_body" = true)
    (k21 : PySem.W.keepIn K (.ref f21) = true)
    (a22 : PySem.W.nsIn K mainGlobals "law" = some (some (.ref f22)))
    (l22 : K.lookup f22 = some ⟨oc22, od22, .func (PySem.W.fnOf "law" "law" (fnArgs s_law) (fnBody s_law) (fnScope s_law) .none kV22 dc22 pm22 an22 cd22 ct22), sl22⟩)
    (c22 : PySem.W.codeIn K cd22 "law" = true)
    (k22 : PySem.W.keepIn K (.ref f22) = true)
    (aCRule : PySem.W.nsIn K mainGlobals "Rule" = some (some (.ref CRule)))
    (a23 : PySem.W.findIn K (.ref CRule) "__init__" = some (some (.ref f23)))
    (i23 : PySem.W.isFn K (.ref f23) = true)
    (l23 : K.lookup f23 = some ⟨oc23, od23, .func (PySem.W.fnOf "__init__" "Rule.__init__" (fnArgs s_Rule_init) (fnBody s_Rule_init) (fnScope s_Rule_init) (.ref T23) kV23 dc23 pm23 an23 cd23 ct23), sl23⟩)
    (c23 : PySem.W.codeIn K cd23 "Rule.__init__" = true)
    (k23 : PySem.W.keepIn K (.ref f23) = true)
    (d23 : K.lookup T23 = some ⟨cT23, oT23, .seq #[.ref E23_0] nT23, sT23⟩)
    (e23_0 : K.lookup E23_0 = some ⟨.type "tuple", eO23_0, .seq #[] eN23_0, eS23_0⟩)
    (a24 : PySem.W.findIn K (.ref CRule) "put" = some (some (.ref f24)))
    (i24 : PySem.W.isFn K (.ref f24) = true)
    (l24 : K.lookup f24 = some ⟨oc24, od24, .func (PySem.W.fnOf "put" "Rule.put" (fnArgs s_Rule_put) (fnBody s_Rule_put) (fnScope s_Rule_put) .none kV24 dc24 pm24 an24 cd24 ct24), sl24⟩)
    (c24 : PySem.W.codeIn K cd24 "Rule.put" = true)
    (k24 : PySem.W.keepIn K (.ref f24) = true)
    (pgCRule : PySem.W.plainGet K CRule Str.empty = true)
    (hdCRule : PySem.W.hasDictIn K CRule = true)
    (poCRule : PySem.W.plainOver K CRule = true)
    (saCRule : PySem.W.findIn K (.ref CRule) "__setattr__" = some (some (.builtin "object.__setattr__")))
    (mkCRule : PySem.W.makesIn K CRule = true)
    (kcCRule : PySem.W.keepIn K (.ref CRule) = true)
    (nCRule_flag : PySem.W.findIn K (.ref CRule) "flag" = some none)
    (nCRule_stuffs : PySem.W.findIn K (.ref CRule) "stuffs" = some none)
    (z_len : PySem.W.nsIn K mainGlobals "len" = some none)
    (z_abs : PySem.W.nsIn K mainGlobals "abs" = some none)
    (z_max : PySem.W.nsIn K mainGlobals "max" = some none)
    (z_min : PySem.W.nsIn K mainGlobals "min" = some none)
    (z_int : PySem.W.nsIn K mainGlobals "int" = some none)
    (z_str : PySem.W.nsIn K mainGlobals "str" = some none)
    (z_range : PySem.W.nsIn K mainGlobals "range" = some none)
    (z_zip : PySem.W.nsIn K mainGlobals "zip" = some none)
    (z_enumerate : PySem.W.nsIn K mainGlobals "enumerate" = some none)
    (z_isinstance : PySem.W.nsIn K mainGlobals "isinstance" = some none)
    (z_all : PySem.W.nsIn K mainGlobals "all" = some none)
    (z_any : PySem.W.nsIn K mainGlobals "any" = some none)
    (z_list : PySem.W.nsIn K mainGlobals "list" = some none)
    (z_tuple : PySem.W.nsIn K mainGlobals "tuple" = some none)
    (z_repr : PySem.W.nsIn K mainGlobals "repr" = some none)
    (z_set : PySem.W.nsIn K mainGlobals "set" = some none)
    (z_sorted : PySem.W.nsIn K mainGlobals "sorted" = some none)
    : ∃ fd : FuncData, (∀ (s : Shared) (v : Value), BindsTo s fd ⟨[v], []⟩ [("_law_script", v)]) ∧ ∀ base : Heap, K.In base → base.Ns mainGlobals mg → FnOk l.prog w K mg base CX0 8 fa fd ["_law_script"] (spLaw K) := by
  have e := hfa.symm.trans (PySem.W.mg_of X G a22)
  cases e
  have F1 : C8.Fun K "is_word" "is_word" s_is_word f1 _ := ⟨⟨_, _, _, _, _, _, _, _, _, _, rfl, l1, c1⟩⟩
  have D1 : FunD K "is_word" "is_word" (fnArgs s_is_word) (fnBody s_is_word) (fnScope s_is_word) [V.int 0] [] f1 _ := ⟨⟨_, _, _, _, _, _, _, _, _, _, rfl, l1, c1, .inr ⟨by simp, T1, _, _, _, rfl, d1, rfl, (.cons ⟨_, rfl⟩ .nil)⟩, .inl rfl⟩, k1⟩
  obtain ⟨ds1_1, v1_1, b1_1⟩ := D1.binds1 (ps := ["value", "least"]) 1 0 (by simp) rfl fun _ _ _ _ _ _ _ us its hu hi => match us, its, hu, hi with | [_], [_], _, _ => ⟨_, rfl, rfl⟩
  obtain ⟨ds1_2, v1_2, b1_2⟩ := D1.binds1 (ps := ["value", "least"]) 2 1 (by simp) rfl fun _ _ _ _ _ _ _ us its hu hi => match us, its, hu, hi with | [_, _], [_], _, _ => ⟨_, rfl, rfl⟩
  have g1 : mg "is_word" = some (.ref f1) := PySem.W.mg_of X G a1
  have F2 : C8.Fun K "is_bit" "is_bit" s_is_bit f2 _ := ⟨⟨_, _, _, _, _, _, _, _, _, _, rfl, l2, c2⟩⟩
  have b2 := F2.binds rfl (ps := ["value"]) fun _ _ _ _ _ _ us hl => match us, hl with | [_], _ => rfl
  have g2 : mg "is_bit" = some (.ref f2) := PySem.W.mg_of X G a2
  have F3 : C8.Fun K "is_stuff" "is_stuff" s_is_stuff f3 _ := ⟨⟨_, _, _, _, _, _, _, _, _, _, rfl, l3, c3⟩⟩
  have b3 := F3.binds rfl (ps := ["value"]) fun _ _ _ _ _ _ us hl => match us, hl with | [_], _ => rfl
  have g3 : mg "is_stuff" = some (.ref f3) := PySem.W.mg_of X G a3
  have F4 : C8.Fun K "one_ends_with_another" "one_ends_with_another" s_one_ends_with_another f4 _ := ⟨⟨_, _, _, _, _, _, _, _, _, _, rfl, l4, c4⟩⟩
  have b4 := F4.binds rfl (ps := ["patterns"]) fun _ _ _ _ _ _ us hl => match us, hl with | [_], _ => rfl
  have g4 : mg "one_ends_with_another" = some (.ref f4) := PySem.W.mg_of X G a4
  have F5 : C8.Fun K "are_stuffs" "are_stuffs" s_are_stuffs f5 _ := ⟨⟨_, _, _, _, _, _, _, _, _, _, rfl, l5, c5⟩⟩
  have b5 := F5.binds rfl (ps := ["value"]) fun _ _ _ _ _ _ us hl => match us, hl with | [_], _ => rfl
  have g5 : mg "are_stuffs" = some (.ref f5) := PySem.W.mg_of X G a5
  have F6 : C8.Fun K "longest_pattern" "longest_pattern" s_longest_pattern f6 _ := ⟨⟨_, _, _, _, _, _, _, _, _, _, rfl, l6, c6⟩⟩
  have b6 := F6.binds rfl (ps := ["stuffs"]) fun _ _ _ _ _ _ us hl => match us, hl with | [_], _ => rfl
  have g6 : mg "longest_pattern" = some (.ref f6) := PySem.W.mg_of X G a6
  have F7 : C8.Fun K "bit_behind" "bit_behind" s_bit_behind f7 _ := ⟨⟨_, _, _, _, _, _, _, _, _, _, rfl, l7, c7⟩⟩
  have b7 := F7.binds rfl (ps := ["stuffs", "line"]) fun _ _ _ _ _ _ us hl => match us, hl with | [_, _], _ => rfl
  have g7 : mg "bit_behind" = some (.ref f7) := PySem.W.mg_of X G a7
  have F8 : C8.Fun K "never_ends" "never_ends" s_never_ends f8 _ := ⟨⟨_, _, _, _, _, _, _, _, _, _, rfl, l8, c8⟩⟩
  have b8 := F8.binds rfl (ps := ["stuffs", "line"]) fun _ _ _ _ _ _ us hl => match us, hl with | [_, _], _ => rfl
  have g8 : mg "never_ends" = some (.ref f8) := PySem.W.mg_of X G a8
  have F9 : C8.Fun K "are_endless" "are_endless" s_are_endless f9 _ := ⟨⟨_, _, _, _, _, _, _, _, _, _, rfl, l9, c9⟩⟩
  have b9 := F9.binds rfl (ps := ["stuffs"]) fun _ _ _ _ _ _ us hl => match us, hl with | [_], _ => rfl
  have g9 : mg "are_endless" = some (.ref f9) := PySem.W.mg_of X G a9
  have F10 : C8.Fun K "_law_seed" "_law_seed" s_seed f10 _ := ⟨⟨_, _, _, _, _, _, _, _, _, _, rfl, l10, c10⟩⟩
  have b10 := F10.binds rfl (ps := ["_law_script", "_law_k"]) fun _ _ _ _ _ _ us hl => match us, hl with | [_, _], _ => rfl
  have g10 : mg "_law_seed" = some (.ref f10) := PySem.W.mg_of X G a10
  have F11 : C8.Fun K "_law_choose" "_law_choose" s_choose f11 _ := ⟨⟨_, _, _, _, _, _, _, _, _, _, rfl, l11, c11⟩⟩
  have b11 := F11.binds rfl (ps := ["_law_box", "_law_many"]) fun _ _ _ _ _ _ us hl => match us, hl with | [_, _], _ => rfl
  have g11 : mg "_law_choose" = some (.ref f11) := PySem.W.mg_of X G a11
  have F12 : C8.Fun K "_law_one_of" "_law_one_of" s_one_of f12 _ := ⟨⟨_, _, _, _, _, _, _, _, _, _, rfl, l12, c12⟩⟩
  have b12 := F12.binds rfl (ps := ["_law_box", "_law_some"]) fun _ _ _ _ _ _ us hl => match us, hl with | [_, _], _ => rfl
  have g12 : mg "_law_one_of" = some (.ref f12) := PySem.W.mg_of X G a12
  have F13 : C8.Fun K "_law_word" "_law_word" s_word f13 _ := ⟨⟨_, _, _, _, _, _, _, _, _, _, rfl, l13, c13⟩⟩
  have b13 := F13.binds rfl (ps := ["_law_box", "_law_few", "_law_many"]) fun _ _ _ _ _ _ us hl => match us, hl with | [_, _, _], _ => rfl
  have g13 : mg "_law_word" = some (.ref f13) := PySem.W.mg_of X G a13
  have F14 : C8.Fun K "_law_put" "_law_put" s_put f14 _ := ⟨⟨_, _, _, _, _, _, _, _, _, _, rfl, l14, c14⟩⟩
  have b14 := F14.binds rfl (ps := ["_law_rule_here", "_law_line"]) fun _ _ _ _ _ _ us hl => match us, hl with | [_, _], _ => rfl
  have g14 : mg "_law_put" = some (.ref f14) := PySem.W.mg_of X G a14
  have F15 : C8.Fun K "_law_is_rule" "_law_is_rule" s_is_rule f15 _ := ⟨⟨_, _, _, _, _, _, _, _, _, _, rfl, l15, c15⟩⟩
  have b15 := F15.binds rfl (ps := ["_law_rule_here"]) fun _ _ _ _ _ _ us hl => match us, hl with | [_], _ => rfl
  have g15 : mg "_law_is_rule" = some (.ref f15) := PySem.W.mg_of X G a15
  have F16 : C8.Fun K "_law_rule" "_law_rule" s_rule f16 _ := ⟨⟨_, _, _, _, _, _, _, _, _, _, rfl, l16, c16⟩⟩
  have b16 := F16.binds rfl (ps := ["_law_box", "_law_widest", "_law_longest_one"]) fun _ _ _ _ _ _ us hl => match us, hl with | [_, _, _], _ => rfl
  have g16 : mg "_law_rule" = some (.ref f16) := PySem.W.mg_of X G a16
  have F17 : C8.Fun K "_law_made" "_law_made" s_made f17 _ := ⟨⟨_, _, _, _, _, _, _, _, _, _, rfl, l17, c17⟩⟩
  have b17 := F17.binds rfl (ps := ["_law_rule_here"]) fun _ _ _ _ _ _ us hl => match us, hl with | [_], _ => rfl
  have g17 : mg "_law_made" = some (.ref f17) := PySem.W.mg_of X G a17
  have F18 : C8.Fun K "filled" "filled" s_filled f18 _ := ⟨⟨_, _, _, _, _, _, _, _, _, _, rfl, l18, c18⟩⟩
  have b18 := F18.binds rfl (ps := ["rule", "line"]) fun _ _ _ _ _ _ us hl => match us, hl with | [_, _], _ => rfl
  have g18 : mg "filled" = some (.ref f18) := PySem.W.mg_of X G a18
  have F19 : C8.Fun K "body" "body" s_body f19 _ := ⟨⟨_, _, _, _, _, _, _, _, _, _, rfl, l19, c19⟩⟩
  have b19 := F19.binds rfl (ps := ["rule", "message"]) fun _ _ _ _ _ _ us hl => match us, hl with | [_, _], _ => rfl
  have g19 : mg "body" = some (.ref f19) := PySem.W.mg_of X G a19
  have F20 : C8.Fun K "flag_at" "flag_at" s_flag_at f20 _ := ⟨⟨_, _, _, _, _, _, _, _, _, _, rfl, l20, c20⟩⟩
  have b20 := F20.binds rfl (ps := ["rule", "message"]) fun _ _ _ _ _ _ us hl => match us, hl with | [_, _], _ => rfl
  have g20 : mg "flag_at" = some (.ref f20) := PySem.W.mg_of X G a20
  have F21 : C8.Fun K "_law_body" "_law_body" s_body' f21 _ := ⟨⟨_, _, _, _, _, _, _, _, _, _, rfl, l21, c21⟩⟩
  have b21 := F21.binds rfl (ps := ["_law_rule_here", "_law_message"]) fun _ _ _ _ _ _ us hl => match us, hl with | [_, _], _ => rfl
  have g21 : mg "_law_body" = some (.ref f21) := PySem.W.mg_of X G a21
  have F22 : C8.Fun K "law" "law" s_law fa _ := ⟨⟨_, _, _, _, _, _, _, _, _, _, rfl, l22, c22⟩⟩
  have b22 := F22.binds rfl (ps := ["_law_script"]) fun _ _ _ _ _ _ us hl => match us, hl with | [_], _ => rfl
  have g22 : mg "law" = some (.ref fa) := PySem.W.mg_of X G a22
  have F23 : C8.Fun K "__init__" "Rule.__init__" s_Rule_init f23 _ := ⟨⟨_, _, _, _, _, _, _, _, _, _, rfl, l23, c23⟩⟩
  have D23 : FunD K "__init__" "Rule.__init__" (fnArgs s_Rule_init) (fnBody s_Rule_init) (fnScope s_Rule_init) [V.ref E23_0] [] f23 _ := ⟨⟨_, _, _, _, _, _, _, _, _, _, rfl, l23, c23, .inr ⟨by simp, T23, _, _, _, rfl, d23, rfl, (.cons rfl .nil)⟩, .inl rfl⟩, k23⟩
  obtain ⟨ds23_2, v23_2, b23_2⟩ := D23.binds1 (ps := ["self", "flag", "stuffs"]) 2 0 (by simp) rfl fun _ _ _ _ _ _ _ us its hu hi => match us, its, hu, hi with | [_, _], [_], _, _ => ⟨_, rfl, rfl⟩
  obtain ⟨ds23_3, v23_3, b23_3⟩ := D23.binds1 (ps := ["self", "flag", "stuffs"]) 3 1 (by simp) rfl fun _ _ _ _ _ _ _ us its hu hi => match us, its, hu, hi with | [_, _, _], [_], _, _ => ⟨_, rfl, rfl⟩
  have F24 : C8.Fun K "put" "Rule.put" s_Rule_put f24 _ := ⟨⟨_, _, _, _, _, _, _, _, _, _, rfl, l24, c24⟩⟩
  have b24 := F24.binds rfl (ps := ["self", "line"]) fun _ _ _ _ _ _ us hl => match us, hl with | [_, _], _ => rfl
  have clCRule : Cls K CRule := ⟨pgCRule, hdCRule, poCRule, saCRule⟩
  have gCRule : mg "Rule" = some (.ref CRule) := PySem.W.mg_of X G aCRule
  have M : Mg mg := ⟨PySem.W.mg_none_of X G z_len, PySem.W.mg_none_of X G z_abs, PySem.W.mg_none_of X G z_max, PySem.W.mg_none_of X G z_min, PySem.W.mg_none_of X G z_int, PySem.W.mg_none_of X G z_str, PySem.W.mg_none_of X G z_range, PySem.W.mg_none_of X G z_zip, PySem.W.mg_none_of X G z_enumerate, PySem.W.mg_none_of X G z_isinstance, PySem.W.mg_none_of X G z_all, PySem.W.mg_none_of X G z_any, PySem.W.mg_none_of X G z_list, PySem.W.mg_none_of X G z_tuple, PySem.W.mg_none_of X G z_repr, PySem.W.mg_none_of X G z_set, PySem.W.mg_none_of X G z_sorted⟩
  refine ⟨PySem.W.fnOf "law" "law" (fnArgs s_law) (fnBody s_law) (fnScope s_law) .none kV22 dc22 pm22 an22 cd22 ct22, fun s v => .of_eq rfl, fun base _ _ => ?_⟩
  have TRule : RlT K CRule := ⟨clCRule, nCRule_flag, nCRule_stuffs⟩
  have c_is_word_2 : Cal l.prog w K mg base 1 "is_word" spIsWord [] := ⟨_, _, _, _, ok_is_word F1 M, g1, k1, b1_2, v1_2⟩
  have c_is_word_1 : Cal l.prog w K mg base 1 "is_word" spIsWord [.int 0] := ⟨_, _, _, _, ok_is_word F1 M, g1, k1, b1_1, v1_1⟩
  have c_is_bit : Cal l.prog w K mg base 2 "is_bit" spIsBit [] := ⟨_, _, _, _, ok_is_bit F2 M c_is_word_2, g2, k2, b2, .nil⟩
  have c_is_stuff : Cal l.prog w K mg base 3 "is_stuff" spIsStuff [] := ⟨_, _, _, _, ok_is_stuff F3 M c_is_word_2 c_is_bit, g3, k3, b3, .nil⟩
  have c_one_ends : Cal l.prog w K mg base 1 "one_ends_with_another" spOneEnds [] := ⟨_, _, _, _, ok_one_ends F4 M, g4, k4, b4, .nil⟩
  have c_are_stuffs : Cal l.prog w K mg base 4 "are_stuffs" (spStuffs K) [] := ⟨_, _, _, _, ok_are_stuffs F5 M c_is_stuff c_one_ends, g5, k5, b5, .nil⟩
  have c_longest : Cal l.prog w K mg base 1 "longest_pattern" (spLongest K) [] := ⟨_, _, _, _, ok_longest F6 M, g6, k6, b6, .nil⟩
  have c_behind : Cal l.prog w K mg base 1 "bit_behind" (spBehind K) [] := ⟨_, _, _, _, ok_behind F7 M, g7, k7, b7, .nil⟩
  have c_never : Cal l.prog w K mg base 2 "never_ends" (spNever K) [] := ⟨_, _, _, _, ok_never F8 M c_longest c_behind, g8, k8, b8, .nil⟩
  have c_endless : Cal l.prog w K mg base 3 "are_endless" (spEndless K) [] := ⟨_, _, _, _, ok_endless F9 M c_never, g9, k9, b9, .nil⟩
  have c_seed : Cal l.prog w K mg base 1 "_law_seed" (spSeed K) [] := ⟨_, _, _, _, ok_seed F10 M, g10, k10, b10, .nil⟩
  have c_choose : Cal l.prog w K mg base 1 "_law_choose" spChoose [] := ⟨_, _, _, _, ok_choose F11 M, g11, k11, b11, .nil⟩
  have c_one_of : Cal l.prog w K mg base 2 "_law_one_of" spOneOf [] := ⟨_, _, _, _, ok_one_of F12 M c_choose, g12, k12, b12, .nil⟩
  have c_word : Cal l.prog w K mg base 3 "_law_word" spWord2 [] := ⟨_, _, _, _, ok_word2 F13 M c_choose c_one_of, g13, k13, b13, .nil⟩
  have c_put : Cal l.prog w K mg base 1 "_law_put" spLPut [] := ⟨_, _, _, _, ok_lput F14 M, g14, k14, b14, .nil⟩
  have c_is_rule : Cal l.prog w K mg base 2 "_law_is_rule" spIsRule [] := ⟨_, _, _, _, ok_is_ruleB F15 M c_put, g15, k15, b15, .nil⟩
  have c_rule : Cal l.prog w K mg base 4 "_law_rule" spRule [] := ⟨_, _, _, _, ok_lrule F16 M c_choose c_one_of c_word c_is_rule, g16, k16, b16, .nil⟩
  have OIRule := ok_rinit (P := l.prog) (w := w) (base := base) F23 M TRule c_is_word_2 c_are_stuffs c_endless
  have k_Rule_2 : Mak l.prog w K mg base 5 "Rule" CRule (spRInit K CRule) [] := ⟨_, _, _, _, ⟨mkCRule, a23, i23, kcCRule⟩, OIRule, gCRule, b23_3, v23_3⟩
  have k_Rule_1 : Mak l.prog w K mg base 5 "Rule" CRule (spRInit K CRule) [.ref E23_0] := ⟨_, _, _, _, ⟨mkCRule, a23, i23, kcCRule⟩, OIRule, gCRule, b23_2, v23_2⟩
  have hERule : ∀ H, SqK K false H E23_0 [] := fun H => show SqT K H E23_0 [] from .inr ⟨_, #[], _, e23_0, rfl, rfl, by decide, .nil⟩
  have m_put : Met l.prog w K mg base 2 CRule "put" (spPut CRule) [] := ⟨_, _, _, _, clCRule, ⟨a24, i24, k24⟩, ok_put F24 M TRule c_behind, b24, .nil⟩
  have c_made : Cal l.prog w K mg base 7 "_law_made" (spMade CRule) [] := ⟨_, _, _, _, ok_made F17 M k_Rule_2, g17, k17, b17, .nil⟩
  have c_filled : Cal l.prog w K mg base 3 "filled" (spFilled CRule) [] := ⟨_, _, _, _, ok_filled F18 M m_put, g18, k18, b18, .nil⟩
  have c_body : Cal l.prog w K mg base 4 "body" (spBody CRule) [] := ⟨_, _, _, _, ok_body F19 M c_filled, g19, k19, b19, .nil⟩
  have c_flag_at : Cal l.prog w K mg base 5 "flag_at" (spFlagAt CRule) [] := ⟨_, _, _, _, ok_flag_at F20 M TRule c_body, g20, k20, b20, .nil⟩
  have c_lbody : Cal l.prog w K mg base 2 "_law_body" spLBody [] := ⟨_, _, _, _, ok_lbody F21 M c_put, g21, k21, b21, .nil⟩
  exact ok_law F22 M c_seed c_rule c_made c_word c_lbody c_flag_at
end La
open PySem PySem.W PyProof.Rows
set_option maxHeartbeats 0 in
theorem PySem.Challenge.cw_unseenflips_k24_flags_in_bodies_holds : PySem.Challenge.rw_unseenflips_k24_flags_in_bodies.Holds := by
  w_on; o_law; k_head; (case hw => w_witness2)
  k_fill
  refine L2.walk_of (l := PySem.Challenge.rw_unseenflips_k24_flags_in_bodies) (n := 63) (k := 8) (x := "_law_script") (CX := fun _ => L2.CX0) (sp := fun w => Own.spLaw _) rfl (by decide) rfl ⟨rfl, by decide, by decide⟩ (fun w h Y => PySem.W.kIn_of Y) ?F (fun _ _ a ns hl _ hS => ⟨a, ns, rfl, hS, hl, fun _ => rfl⟩) (fun _ _ _ _ _ h => h)
  case F =>
    intro w mg fa h KX G hmg
    refine' La.all_mk KX G hmg ?a1 ?l1 ?c1 ?k1 ?d1 ?a2 ?l2 ?c2 ?k2 ?a3 ?l3 ?c3 ?k3 ?a4 ?l4 ?c4 ?k4 ?a5 ?l5 ?c5 ?k5 ?a6 ?l6 ?c6 ?k6 ?a7 ?l7 ?c7 ?k7 ?a8 ?l8 ?c8 ?k8 ?a9 ?l9 ?c9 ?k9 ?a10 ?l10 ?c10 ?k10 ?a11 ?l11 ?c11 ?k11 ?a12 ?l12 ?c12 ?k12 ?a13 ?l13 ?c13 ?k13 ?a14 ?l14 ?c14 ?k14 ?a15 ?l15 ?c15 ?k15 ?a16 ?l16 ?c16 ?k16 ?a17 ?l17 ?c17 ?k17 ?a18 ?l18 ?c18 ?k18 ?a19 ?l19 ?c19 ?k19 ?a20 ?l20 ?c20 ?k20 ?a21 ?l21 ?c21 ?k21 ?a22 ?l22 ?c22 ?k22 ?aCRule ?a23 ?i23 ?l23 ?c23 ?k23 ?d23 ?e23_0 ?a24 ?i24 ?l24 ?c24 ?k24 ?pgCRule ?hdCRule ?poCRule ?saCRule ?mkCRule ?kcCRule ?nCRule_flag ?nCRule_stuffs ?z_len ?z_abs ?z_max ?z_min ?z_int ?z_str ?z_range ?z_zip ?z_enumerate ?z_isinstance ?z_all ?z_any ?z_list ?z_tuple ?z_repr ?z_set ?z_sorted
    (case a1 => k_is)
    (case l1 => k_is)
    (case c1 => k_is)
    (case k1 => k_is)
    (case d1 => k_is)
    (case a2 => k_is)
    (case l2 => k_is)
    (case c2 => k_is)
    (case k2 => k_is)
    (case a3 => k_is)
    (case l3 => k_is)
    (case c3 => k_is)
    (case k3 => k_is)
    (case a4 => k_is)
    (case l4 => k_is)
    (case c4 => k_is)
    (case k4 => k_is)
    (case a5 => k_is)
    (case l5 => k_is)
    (case c5 => k_is)
    (case k5 => k_is)
    (case a6 => k_is)
    (case l6 => k_is)
    (case c6 => k_is)
    (case k6 => k_is)
    (case a7 => k_is)
    (case l7 => k_is)
    (case c7 => k_is)
    (case k7 => k_is)
    (case a8 => k_is)
    (case l8 => k_is)
    (case c8 => k_is)
    (case k8 => k_is)
    (case a9 => k_is)
    (case l9 => k_is)
    (case c9 => k_is)
    (case k9 => k_is)
    (case a10 => k_is)
    (case l10 => k_is)
    (case c10 => k_is)
    (case k10 => k_is)
    (case a11 => k_is)
    (case l11 => k_is)
    (case c11 => k_is)
    (case k11 => k_is)
    (case a12 => k_is)
    (case l12 => k_is)
    (case c12 => k_is)
    (case k12 => k_is)
    (case a13 => k_is)
    (case l13 => k_is)
    (case c13 => k_is)
    (case k13 => k_is)
    (case a14 => k_is)
    (case l14 => k_is)
    (case c14 => k_is)
    (case k14 => k_is)
    (case a15 => k_is)
    (case l15 => k_is)
    (case c15 => k_is)
    (case k15 => k_is)
    (case a16 => k_is)
    (case l16 => k_is)
    (case c16 => k_is)
    (case k16 => k_is)
    (case a17 => k_is)
    (case l17 => k_is)
    (case c17 => k_is)
    (case k17 => k_is)
    (case a18 => k_is)
    (case l18 => k_is)
    (case c18 => k_is)
    (case k18 => k_is)
    (case a19 => k_is)
    (case l19 => k_is)
    (case c19 => k_is)
    (case k19 => k_is)
    (case a20 => k_is)
    (case l20 => k_is)
    (case c20 => k_is)
    (case k20 => k_is)
    (case a21 => k_is)
    (case l21 => k_is)
    (case c21 => k_is)
    (case k21 => k_is)
    (case a22 => k_is)
    (case l22 => k_is)
    (case c22 => k_is)
    (case k22 => k_is)
    (case aCRule => k_is)
    (case a23 => k_is)
    (case i23 => k_is)
    (case l23 => k_is)
    (case c23 => k_is)
    (case k23 => k_is)
    (case d23 => k_is)
    (case e23_0 => k_is)
    (case a24 => k_is)
    (case i24 => k_is)
    (case l24 => k_is)
    (case c24 => k_is)
    (case k24 => k_is)
    (case pgCRule => k_is)
    (case hdCRule => k_is)
    (case poCRule => k_is)
    (case saCRule => k_is)
    (case mkCRule => k_is)
    (case kcCRule => k_is)
    (case nCRule_flag => k_is)
    (case nCRule_stuffs => k_is)
    (case z_len => k_is)
    (case z_abs => k_is)
    (case z_max => k_is)
    (case z_min => k_is)
    (case z_int => k_is)
    (case z_str => k_is)
    (case z_range => k_is)
    (case z_zip => k_is)
    (case z_enumerate => k_is)
    (case z_isinstance => k_is)
    (case z_all => k_is)
    (case z_any => k_is)
    (case z_list => k_is)
    (case z_tuple => k_is)
    (case z_repr => k_is)
    (case z_set => k_is)
    (case z_sorted => k_is)

