import PyProof.Rows.All
import Wide.All
import OpenK.AllK
import Wide.FinOn
import HandS.ForExc
import HandS.Walk
import KE.GoesNew
import HandS.FStr
import HandS.Property
import HandS.IsInst
import HandS.Codes
import HandS.Evl
import HandS.StrMore
import HandS.Defaults
import PyProof.StrBlock2
import HandS.Style
import HandS.SortKw
import HandS.SetKeys
import HandS.Iter
import HandS.TupAny
import KE.DataMinMax
import KE.SortData
import PyProof.EnumMake
import HandS.RaiseMore
import HandS.OwnEq
import HandS.More
import PyProof.InstNe
import OpenK.KOps
import PyProof.CallStr
import PyProof.Rows.Range3
import KE.OsSortAny
import HandS.DictComp
import PyProof.P3Eq
import PySem.Challenge.RW_unseenflips_k49_hits_on_lines
set_option Elab.async false
set_option linter.all false
set_option maxRecDepth 100000
set_option maxHeartbeats 2000000
namespace Own
open PySem PySem.Spec PyProof.Rows L2

/-- n turns that each give a new pair -/
def Itp (n : Nat) (f g : Nat → Option V) : It :=
  ⟨fun i _ => i < n, fun i H v H' => ∃ T x y, v = V.ref T ∧ H T = none ∧ H' = upd H T (.tup [x, y]) ∧ f i = some x ∧ g i = some y, fun i _ => n ≤ i⟩
theorem walk_itp {n : Nat} {f g : Nat → Option V} : Walk (Itp n f g) n (fun _ => True) (YPair f g) :=
  ⟨fun _ _ hi _ => hi, fun _ _ => Nat.le_refl _, fun _ _ _ _ _ _ y => y⟩

theorem turn_pairs {P : Program} {w : World} {K : PySem.W.Frag} {elts : List Expr} {kk : Nat} {tpos : Pos} {it : Addr} {fp wr : List Addr} {n : Nat} {St : Nat → Heap → Prop} {Px Py : Nat → Value → Prop} {f g : Nat → Option V}
    (mem : it ∈ fp) (obj : ∀ i h, St i h → ∀ b ∈ fp, ∃ o, h.get? b = some o ∧ ∀ v, o.data ≠ .cell v)
    (W : ∀ A : Around, A.handled = none → GoesN P w A (.Tuple elts kk tpos) it fp wr n (fun i h₀ v h => ∃ T x y, v = Value.ref T ∧ h₀.objs.size ≤ T ∧ Px i x ∧ Py i y ∧ h.IsTuple T #[x, y]) St)
    (sl : ∀ (A : Around) (i : Nat) (s : Shared) (Q : Value → Shared → Prop) (E : Value → Shared → Prop), St i s.heap → Q (.ref it) s → wpAny (model P w) A (pyIter (.ref it)) Q E s)
    (hx : ∀ i x, Px i x → ∃ v, f i = some v ∧ RelV v x) (hy : ∀ i x, Py i x → ∃ v, g i = some v ∧ RelV v x) :
    Turn P w K (.Tuple elts kk tpos) (Itp n f g) fp it (fun i h => i ≤ n ∧ St i h) where
  mem := mem
  obj := fun i h st => obj i h st.2
  keep := fun i h h' st k => ⟨st.1, (W ({} : Around) rfl).frame i h h' st.2 k⟩
  item := by
    intro X hP hw hK hc i pins s σ H E I hf st hg
    subst hP hw hK
    have hd := I.ok.hd hc
    refine wpAny_mono ((W X.A hd).goes i s (fun u s2 => ∃ x H', Inv X pins σ H' s2 ∧ RelV x u ∧ (Itp n f g).yld i H x H' ∧ (i + 1 ≤ n ∧ St (i + 1) s2.heap) ∧ ∀ b ∈ fp, H' b = none) E hg st.2 fun v h' tk hY st' hk htk => ?_) (fun r s1 q => q) fun _ _ q => q
    obtain ⟨T, x, y, ev, hT, px, py, isT⟩ := hY
    obtain ⟨vx, fx, rx⟩ := hx i x px
    obtain ⟨vy, gy, ry⟩ := hy i y py
    obtain ⟨oT, gT, cT, nT, dT⟩ := isT
    have new : ObjOk X.prog X.w (upd H T (.tup [vx, vy])) h' T (.tup [vx, vy]) :=
      ⟨by show 2 ≤ sizeLine; decide, [x, y], .cons rx (.cons ry .nil), ⟨oT, gT, cT, nT, dT⟩⟩
    have I1 := I.turnedNew (t' := tk) (ch := wr) hk (fun b hb => hf b ((W X.A hd).sub b hb)) hT new
    refine ⟨.ref T, _, I1, ev ▸ rfl, ⟨T, vx, vy, rfl, I.hok.fresh hT, rfl, fx, gy⟩, ⟨hg, st'⟩, fun b hb => ?_⟩
    obtain ⟨o, eo, _⟩ := obj i _ st.2 b hb
    rw [upd_ne (Nat.ne_of_lt (Nat.lt_of_lt_of_le (Heap.lt_size eo) hT))]
    exact (hf b hb).1
  done := by
    intro X hP hw hK hc i pins s σ H E I hf st hg
    subst hP hw hK
    have hd := I.ok.hd hc
    have ei : i = n := Nat.le_antisymm st.1 hg
    subst ei
    exact (W X.A hd).stops s (fun s1 => Inv X pins σ H s1) E st.2 fun h' tk hk htk => I.turnedL (t' := tk) (ch := wr) hk fun b hb => hf b ((W X.A hd).sub b hb)
  self := fun A i s Q E st h => sl A i s Q E st.2 h


/-- the signs of a text, one by one -/
def sgn (z : Str) (i : Nat) : Option V := z.cps[i]?.map fun c => V.str ⟨#[c]⟩

theorem iter_str_obj {h : Heap} {it : Addr} {T : String} {z : Str} {t : Tok} {i : Nat} (q : h.IsStrIter it T z t i) : ∃ o, h.get? it = some o ∧ ∀ v, o.data ≠ .cell v := by
  obtain ⟨o, g, _, d⟩ := q
  exact ⟨o, g, fun v e => by rw [d] at e; cases e⟩

def iZipS (ta : TA) : TI := fun σ H R => ta σ H fun vs H1 => ∃ x y : Str, vs = [V.str x, V.str y] ∧ R (Itp (min x.cps.size y.cps.size) (sgn x) (sgn y)) H1
/-- for a, b in zip(text, text) -/
theorem pi_zipS {X : Cx} {e1 e2 : Expr} {ta : TA} {np cp tp : Pos} {elts : List Expr} {kk : Nat} (hg : Gl X "zip") (hm : X.mg "zip" = none) (ha : PA X [e1, e2] ta)
    (se : starEach [e1, e2] X.env = (false, eval e1 X.env) :: starEach [e2] X.env := by rfl) (pl : (backTo cp (starEach [e2] X.env)).any (·.1) = false := by rfl) :
    PI X (.Tuple elts kk tp) (.Call (.Name "zip" np) [e1, e2] [] cp) (iZipS ta) := by
  constructor
  intro pins s σ H R I h
  refine Call_ (ld_blt I hg hm PyProof.Rows.boot_zip (PyProof.Rows.callWith_type1 (thn (ha.run cp pins s σ H _ I h) ?_) se pl))
  rintro us s1 ⟨vs, H1, I1, r1, x, y, rfl, q⟩
  match us, r1 with
  | [u1, u2], .cons ra (.cons rb .nil) =>
    obtain ⟨t1, rfl⟩ := ra
    obtain ⟨t2, rfl⟩ := rb
    refine zip_begins2 (begins_text x t1) (begins_text y t2) trivial trivial fun h' hz hTI hTO h1 h2 hsz hk => wpAny_pyIter_zip hz ?_
    have I2 : Inv X pins σ H1 { s1 with heap := h' } := I1.kept (t' := s1.toks) hk
    have S := zip_sep2 (N := s1.heap.objs.size) (fp1 := []) (fp2 := []) (fun b hb => nomatch hb) (fun b hb => nomatch hb)
    refine ⟨s1.heap.objs.size + 4, _, _, Itp (min x.cps.size y.cps.size) (sgn x) (sgn y), H1, rfl, I2,
      turn_pairs (Px := fun i v => ∃ c u, x.cps[i]? = some c ∧ v = Value.str ⟨#[c]⟩ u) (Py := fun i v => ∃ c u, y.cps[i]? = some c ∧ v = Value.str ⟨#[c]⟩ u) (St := fun i h => IsZip h (s1.heap.objs.size + 4) (s1.heap.objs.size + 2) (s1.heap.objs.size + 3) .none ∧ IsTupOf2 h (s1.heap.objs.size + 2) (.ref s1.heap.objs.size) (.ref (s1.heap.objs.size + 1)) ∧ (∃ a1 a2, IsTupOf2 h (s1.heap.objs.size + 3) a1 a2) ∧ h.IsStrIter s1.heap.objs.size (strIterType x) x t1 i ∧ h.IsStrIter (s1.heap.objs.size + 1) (strIterType y) y t2 i)
        List.mem_cons_self (fun i h st b hb => ?_) (fun A hd => GoesN.zip2 S (Draws.text (show A.in1.handled = none from hd) _ x t1) (Draws.text (show A.in1.handled = none from hd) _ y t2)) (fun A i s Q E st h => wpAny_pyIter_zip st.1 h) (fun i v ⟨c, u, hc, ev⟩ => ⟨.str ⟨#[c]⟩, by unfold sgn; rw [hc]; rfl, ev ▸ ⟨_, rfl⟩⟩) (fun i v ⟨c, u, hc, ev⟩ => ⟨.str ⟨#[c]⟩, by unfold sgn; rw [hc]; rfl, ev ▸ ⟨_, rfl⟩⟩),
      ⟨Nat.zero_le _, hz, hTI, ⟨_, _, hTO⟩, ⟨_, h1, rfl, rfl⟩, ⟨_, h2, rfl, rfl⟩⟩, fun c hcm => ?_, q⟩
    · obtain ⟨gz, gT, ⟨a1, a2, gO⟩, g1, g2⟩ := st
      have e' : b = s1.heap.objs.size + 4 ∨ b = s1.heap.objs.size + 2 ∨ b = s1.heap.objs.size + 3 ∨ b = s1.heap.objs.size ∨ b = s1.heap.objs.size + 1 := by simpa using hb
      rcases e' with rfl | rfl | rfl | rfl | rfl
      · exact ⟨_, gz, fun v z => nomatch z⟩
      · exact ⟨_, gT, fun v z => nomatch z⟩
      · exact ⟨_, gO, fun v z => nomatch z⟩
      · exact iter_str_obj g1
      · exact iter_str_obj g2
    · have e' : c = s1.heap.objs.size + 4 ∨ c = s1.heap.objs.size + 2 ∨ c = s1.heap.objs.size + 3 ∨ c = s1.heap.objs.size ∨ c = s1.heap.objs.size + 1 := by simpa using hcm
      have hle : s1.heap.objs.size ≤ c := by
        rcases e' with z | z | z | z | z <;> rw [z] <;> first | exact Nat.le_add_right _ _ | exact Nat.le_refl _
      exact I1.fpOk hle (I1.hok.fresh hle)

def iEnumS (ta : TA) : TI := fun σ H R => ta σ H fun vs H1 => ∃ x : Str, vs = [V.str x] ∧ R (Itp x.cps.size (fun i => some (.int (i : Nat))) (sgn x)) H1
/-- for i, a in enumerate(text) -/
theorem pi_enumS {X : Cx} {e1 : Expr} {ta : TA} {np cp tp : Pos} {elts : List Expr} {kk : Nat} (hg : Gl X "enumerate") (hm : X.mg "enumerate" = none) (ha : PA X [e1] ta)
    (se : starEach [e1] X.env = (false, eval e1 X.env) :: starEach [] X.env := by rfl) (pl : (backTo cp (starEach [] X.env)).any (·.1) = false := by rfl) :
    PI X (.Tuple elts kk tp) (.Call (.Name "enumerate" np) [e1] [] cp) (iEnumS ta) := by
  constructor
  intro pins s σ H R I h
  refine Call_ (ld_blt I hg hm PyProof.Rows.boot_enumerate (PyProof.Rows.callWith_type1 (thn (ha.run cp pins s σ H _ I h) ?_) se pl))
  rintro us s1 ⟨vs, H1, I1, r1, x, rfl, q⟩
  match us, r1 with
  | [u1], .cons ra .nil =>
    obtain ⟨t1, rfl⟩ := ra
    refine call_enumerate_str fun h' he hit hsz hk => wpAny_pyIter_enum he ?_
    have I2 : Inv X pins σ H1 { s1 with heap := h' } := I1.kept (t' := s1.toks) hk
    refine ⟨s1.heap.objs.size + 1, _, _, Itp x.cps.size (fun i => some (.int (i : Nat))) (sgn x), H1, rfl, I2,
      turn_pairs (Px := fun i v => ∃ t, v = Value.int ((0 : Int) + (i : Int)) t) (Py := fun i v => ∃ c u, x.cps[i]? = some c ∧ v = Value.str ⟨#[c]⟩ u) (St := fun i h => (∃ old, IsEnum h (s1.heap.objs.size + 1) s1.heap.objs.size ((0 : Int) + (i : Int)) old) ∧ h.IsStrIter s1.heap.objs.size (strIterType x) x t1 i)
        List.mem_cons_self (fun i h st b hb => ?_)
        (fun A hd => (GoesN.enumFrom 0 (Draws.text (show A.in1.handled = none from hd) s1.heap.objs.size x t1) (s1.heap.objs.size + 1) (Nat.succ_ne_self _) (by simp) (by simp)).mono fun i h₀ v h _ ⟨T, t, z, ev, hn, hz, hT⟩ => ⟨T, _, z, ev, hn, ⟨t, rfl⟩, hz, hT⟩)
        (fun A i s Q E st h => by
          obtain ⟨⟨old, gz⟩, _⟩ := st
          exact wpAny_pyIter_enum gz h)
        (fun i v ⟨t, ev⟩ => ⟨.int (i : Nat), rfl, by rw [ev, Int.zero_add]; exact ⟨_, rfl⟩⟩) (fun i v ⟨c, u, hc, ev⟩ => ⟨.str ⟨#[c]⟩, by unfold sgn; rw [hc]; rfl, ev ▸ ⟨_, rfl⟩⟩),
      ⟨Nat.zero_le _, ⟨_, he⟩, hit⟩, fun c hcm => ?_, q⟩
    · obtain ⟨⟨old, gz⟩, g1⟩ := st
      have e' : b = s1.heap.objs.size + 1 ∨ b = s1.heap.objs.size := by simpa using hb
      rcases e' with rfl | rfl
      · exact ⟨_, gz, fun v z => nomatch z⟩
      · exact iter_str_obj g1
    · have e' : c = s1.heap.objs.size + 1 ∨ c = s1.heap.objs.size := by simpa using hcm
      have hle : s1.heap.objs.size ≤ c := by
        rcases e' with z | z <;> rw [z] <;> first | exact Nat.le_add_right _ _ | exact Nat.le_refl _
      exact I1.fpOk hle (I1.hok.fresh hle)
end Own

set_option Elab.async false
set_option linter.all false
set_option maxRecDepth 100000
set_option maxHeartbeats 2000000
namespace Own
open PySem PySem.Spec PyProof.Rows L2
open C8 (Cal Mak Met pe_c pe_mk pe_mt pe_mt0 Def fnArgs fnBody fnScope fn0 fnScope_by)

/-! ### words of bits -/
def cd (b : Bool) : Nat := if b then 49 else 48
def WS (w : List Bool) : Str := SX.S (w.map cd)
theorem WS_len (w : List Bool) : (WS w).length = w.length := by unfold WS; rw [SX.S_len, List.length_map]
theorem WS_cat (a b : List Bool) : WS a ++ WS b = WS (a ++ b) := by unfold WS; rw [SX.S_cat, List.map_append]
theorem cd_inj {a b : Bool} (h : cd a = cd b) : a = b := by cases a <;> cases b <;> first | rfl | (exact absurd h (by decide))
theorem map_cd_inj : ∀ {a b : List Bool}, a.map cd = b.map cd → a = b
  | [], [], _ => rfl
  | [], _ :: _, h => by simp at h
  | _ :: _, [], h => by simp at h
  | x :: a, y :: b, h => by
    rw [List.map_cons, List.map_cons] at h
    injection h with h1 h2
    rw [cd_inj h1, map_cd_inj h2]
theorem WS_inj {a b : List Bool} (h : WS a = WS b) : a = b := map_cd_inj (SX.S_inj h)
theorem WS_eq {a b : List Bool} : (WS a = WS b) ↔ a = b := ⟨WS_inj, fun h => by rw [h]⟩
theorem WS_nil : WS [] = ("" : Str) := rfl
theorem WS_0 : WS [false] = ("0" : Str) := by decide +kernel
theorem WS_1 : WS [true] = ("1" : Str) := by decide +kernel
theorem WS_one (b : Bool) : WS [b] = ⟨#[cd b]⟩ := rfl
theorem WS_size (w : List Bool) : (WS w).cps.size = w.length := by
  show (w.map cd).toArray.size = w.length
  simp
theorem WS_get (w : List Bool) (i : Nat) : (WS w).cps[i]? = (w[i]?).map cd := by
  show (w.map cd).toArray[i]? = _
  simp
theorem sgn_WS (w : List Bool) (i : Nat) : sgn (WS w) i = (w[i]?).map fun b => V.str (WS [b]) := by
  unfold sgn
  rw [WS_get]
  cases w[i]? <;> rfl

/-! ### builtins that the module does not hide -/
structure Mg (mg : Str → Option Value) : Prop where
  len : mg "len" = none
  abs : mg "abs" = none
  max : mg "max" = none
  min : mg "min" = none
  int : mg "int" = none
  str : mg "str" = none
  range : mg "range" = none
  zip : mg "zip" = none
  enumerate : mg "enumerate" = none
  isinstance : mg "isinstance" = none
  all : mg "all" = none
  any : mg "any" = none
  list : mg "list" = none
  tuple : mg "tuple" = none
  repr : mg "repr" = none
  set : mg "set" = none
  sorted : mg "sorted" = none

/-! ### more rules -/
theorem op_mul_str {X : Cx} : OpR X (binaryOp .Mult) (fun x y H Q => ∃ (z : Str) (n : Int), x = .str z ∧ y = .int n ∧ MulOk z n ∧ Q (.str (Txt.mul z n)) H) := by
  intro pins s σ H x y v u Q I rx ry h
  obtain ⟨z, n, rfl, rfl, hk, q⟩ := h
  obtain ⟨t1, rfl⟩ := rx
  obtain ⟨t2, rfl⟩ := ry
  exact SB.mul hk fun t' k => ⟨.str (Txt.mul z n), H, I.tok _, ⟨_, rfl⟩, q⟩

section
variable {P : Program} {w : World} {K : PySem.W.Frag} {mg : Str → Option Value} {base : Heap}
/-- a property that may be read off the instances of the class at C -/
structure Prp (P : Program) (w : World) (K : PySem.W.Frag) (mg : Str → Option Value) (base : Heap) (k : Nat) (C : Addr) (m : Str) (sp : Sp) : Prop where
  ex : ∃ (p g : Addr) (fd : FuncData) (ps : List Str), Cls K C ∧ PropOf K C m p g ∧ FnOk P w K mg base CX0 k g fd ps sp ∧ Binds K fd ps []
end
section
variable {X : Cx} {k j : Nat} {C : Addr} {x m : Str} {sp : Sp} {dvs : List V} {p pos apos : Pos} {e o : Expr} {es : List Expr} {ta : TE} {t : TA}
theorem pe_p (c : Prp X.prog X.w X.K X.mg X.base k C m sp) (hr : Room j X.A) (hk : k + 1 ≤ j) (he : PE X o ta) (hab : attributeBase o m X.env (eval o X.env) = eval o X.env) :
    PE X (.Attribute o m pos) (tProp C sp [] E0 ta) := by
  obtain ⟨pp, g, fd, ps, hc, hp, F, b⟩ := c.ex
  exact pe_prop he hc hp F (hr.mono hk) b .nil pass0 hab
theorem pe_mk0 (c : Mak X.prog X.w X.K X.mg X.base k x C sp dvs) (hr : Room j X.A) (hk : k + 1 ≤ j) (hg : Gl X x) (hdb : (x == ("__debug__" : Str)) = false := by decide) : PE X (.Call (.Name x p) [] [] pos) (tMake C sp dvs E0 tNil) := by
  obtain ⟨f, fd, ps, ds, M, F, hm, b, d⟩ := c.ex
  exact pe_make0 M F (hr.mono hk) hg hm b d pass0 hdb
end

/-! ### the box of the draws -/
theorem mod_box (x : Int) : 1 ≤ x % 2147483629 + 1 ∧ x % 2147483629 + 1 ≤ 2147483629 := by
  have := Int.emod_nonneg x (show (2147483629 : Int) ≠ 0 by decide)
  have := Int.emod_lt_of_pos x (show (0 : Int) < 2147483629 by decide)
  omega
theorem mod_in (x : Int) {m : Int} (h : 0 < m) : 0 ≤ x % m ∧ x % m < m := ⟨Int.emod_nonneg x (by omega), Int.emod_lt_of_pos x h⟩
theorem atI0 {x : V} {r : List V} : atI (x :: r) 0 = some x := atI_nat (j := 0) rfl
theorem atI1 {x y : V} {r : List V} : atI (x :: y :: r) 1 = some y := atI_nat (j := 1) rfl
def BoxAt (H : Hp) (b : Addr) : Prop := ∃ c d : Int, H b = some (.lst [.int c, .int d]) ∧ 0 ≤ c ∧ 1 ≤ d ∧ d ≤ 2147483629
/-- all but what stands at b is as it was -/
def Off (b : Addr) (H H' : Hp) : Prop := ∀ a o, H a = some o → a ≠ b → H' a = some o
theorem Off.refl (b : Addr) (H : Hp) : Off b H H := fun _ _ h _ => h
theorem Off.trans {b : Addr} {H H1 H2 : Hp} (x : Off b H H1) (y : Off b H1 H2) : Off b H H2 := fun a o h n => y a o (x a o h n) n
theorem off_of {H H' : Hp} {b : Addr} (s : Same H H') : Off b H H' := fun a o h _ => s a o h
theorem Off.set {b : Addr} {H : Hp} {o : HO} : Off b H (upd H b o) := fun a u h n => by rw [upd_ne n]; exact h
theorem same_new {H : Hp} {p : Addr} {o : HO} (h : H p = none) : Same H (upd H p o) := fun b x e => by
  rw [upd_ne (ne_of_none e h)]
  exact e
theorem BoxAt.same {H H' : Hp} {b : Addr} (s : Same H H') (h : BoxAt H b) : BoxAt H' b := by
  obtain ⟨c, d, e, r⟩ := h
  exact ⟨c, d, s _ _ e, r⟩
theorem BoxAt.ne_tup {H : Hp} {b a : Addr} {xs : List V} (h : BoxAt H b) (e : H a = some (.tup xs)) : a ≠ b := by
  obtain ⟨c, d, e2, _⟩ := h
  exact ne_of e e2 (by intro z; cases z)
theorem BoxAt.ne_ins {H : Hp} {b a C dx : Addr} {fs : List (Str × V)} (h : BoxAt H b) (e : H a = some (.ins C dx fs)) : a ≠ b := by
  obtain ⟨c, d, e2, _⟩ := h
  exact ne_of e e2 (by intro z; cases z)
theorem BoxAt.ne_new {H : Hp} {b a : Addr} (h : BoxAt H b) (e : H a = none) : a ≠ b := by
  obtain ⟨c, d, e2, _⟩ := h
  exact (ne_of_none e2 e).symm

/-! ### promises of the law's own draws -/
def spSeed (K : PySem.W.Frag) : Sp := fun vs H Q _ => ∃ (a : Addr) (ns : List Int) (k : Int), vs = [.ref a, .int k] ∧ SqL K H a (ns.map V.int) ∧ ns.length ≤ 63 ∧ 0 ≤ k ∧ k ≤ 100 ∧ ∀ p H', H p = none → BoxAt H' p → Same H H' → Q (.ref p) H'
def spChoose : Sp := fun vs H Q _ => ∃ (b : Addr) (m : Int), vs = [.ref b, .int m] ∧ BoxAt H b ∧ 1 ≤ m ∧ m ≤ 100000 ∧ ∀ r H', 0 ≤ r → r < m → BoxAt H' b → Off b H H' → Q (.int r) H'
def spOneOf : Sp := fun vs H Q _ => ∃ (b l : Addr) (xs : List V), vs = [.ref b, .ref l] ∧ BoxAt H b ∧ H l = some (.lst xs) ∧ l ≠ b ∧ xs ≠ [] ∧ xs.length ≤ 1000 ∧ ∀ x H', x ∈ xs → BoxAt H' b → Off b H H' → Q x H'
def spWordN : Sp := fun vs H Q _ => ∃ (b : Addr) (n : Int), vs = [.ref b, .int n] ∧ BoxAt H b ∧ 0 ≤ n ∧ n ≤ 1000 ∧ ∀ (z : List Bool) H', (z.length : Int) = n → BoxAt H' b → Off b H H' → Q (.str (WS z)) H'
end Own
namespace Own
open PySem PySem.Spec PyProof.Rows L2
/-- the texts of the bits -/
def bitV (z : List Bool) : List V := z.map fun b => V.str (WS [b])
theorem bit_of {x : V} (h : x ∈ [V.str "0", V.str "1"]) : ∃ b, x = V.str (WS [b]) := by
  rcases List.mem_cons.mp h with e | h
  · exact ⟨false, by rw [e, WS_0]⟩
  · rcases List.mem_cons.mp h with e | h
    · exact ⟨true, by rw [e, WS_1]⟩
    · cases h
theorem joinL_nil : ∀ z : List (List Nat), TL.joinL [] z = z.flatten := by
  intro z
  induction z with
  | nil => rfl
  | cons x r ih =>
    cases r with
    | nil => simp [TL.joinL]
    | cons y r => simp [TL.joinL] at ih ⊢; rw [ih]
theorem join_bits (z : List Bool) : Txt.join "" (z.map fun b => WS [b]) = WS z := by
  have h : (z.map fun b => WS [b]) = (z.map fun b => [cd b]).map SX.S := by rw [List.map_map]; rfl
  rw [h, show ("" : Str) = SX.S [] from rfl, SX.join_S, joinL_nil]
  unfold WS
  congr 1
  clear h
  induction z with
  | nil => rfl
  | cons b r ih =>
    rw [List.map_cons, List.flatten_cons, List.map_cons, ih]
    rfl
theorem join_bits_sz (z : List Bool) (h : z.length ≤ 100000) : ((z.map fun b => WS [b]).map (·.length)).sum + (z.map fun b => WS [b]).length * ("" : Str).length ≤ 16777216 := by
  have h1 : ((z.map fun b => WS [b]).map (·.length)).sum = z.length := by
    induction z with
    | nil => rfl
    | cons b r ih =>
      simp only [List.map_cons, List.sum_cons, WS_len, List.length_cons, List.length_nil]
      rw [ih (by rw [List.length_cons] at h; omega)]
      omega
  rw [h1, show ("" : Str).length = 0 from rfl]
  omega
end Own
namespace Own
open PySem PySem.Spec PyProof.Rows L2
theorem subAt_S (a b : List Nat) (i : Nat) : Builtin.Str.subAt (SX.S a) (SX.S b) i = decide ((a.drop i).take b.length = b) := by
  unfold Builtin.Str.subAt
  have h1 : (SX.S b).length = b.length := SX.S_len b
  rw [h1]
  have h2 : ((SX.S a).cps.extract i (i + b.length)).toList = (a.drop i).take b.length := by
    show (a.toArray.extract i (i + b.length)).toList = _
    simp [List.extract_eq_take_drop]
  have h3 : (SX.S b).cps.toList = b := rfl
  by_cases h : (a.drop i).take b.length = b
  · rw [decide_eq_true h, beq_iff_eq]
    apply Array.toList_inj.mp
    rw [h2, h3, h]
  · rw [decide_eq_false h, beq_eq_false_iff_ne]
    intro e
    apply h
    rw [← h2, e, h3]
theorem take_map_cd {a b : List Bool} {i : Nat} : ((((a.map cd).drop i).take (b.map cd).length = b.map cd)) ↔ ((a.drop i).take b.length = b) := by
  rw [← List.map_drop, List.length_map, ← List.map_take]
  exact ⟨map_cd_inj, fun h => by rw [h]⟩
theorem ends_WS (a b : List Bool) : Txt.endswith (WS a) (WS b) = decide (b <:+ a) := by
  unfold Txt.endswith
  rw [WS_len, WS_len, Nat.zero_add]
  have h1 : Builtin.Str.subAt (WS a) (WS b) (a.length - b.length) = decide ((a.drop (a.length - b.length)).take b.length = b) := by
    unfold WS
    rw [subAt_S]
    exact decide_eq_decide.mpr take_map_cd
  rw [h1]
  by_cases hl : b.length ≤ a.length
  · rw [decide_eq_true hl, Bool.true_and]
    apply decide_eq_decide.mpr
    rw [List.take_of_length_le (by rw [List.length_drop]; omega)]
    constructor
    · intro h
      rw [← h]
      exact List.drop_suffix _ _
    · intro h
      exact (List.suffix_iff_eq_drop.mp h).symm
  · rw [decide_eq_false hl, Bool.false_and]
    symm
    rw [decide_eq_false_iff_not]
    intro h
    exact hl h.length_le
theorem starts_WS (a b : List Bool) : Txt.startswith (WS a) (WS b) = decide (b <+: a) := by
  unfold Txt.startswith
  rw [WS_len, WS_len, Nat.zero_add]
  have h1 : Builtin.Str.subAt (WS a) (WS b) 0 = decide ((a.drop 0).take b.length = b) := by
    unfold WS
    rw [subAt_S]
    exact decide_eq_decide.mpr take_map_cd
  rw [h1, List.drop_zero]
  by_cases hl : b.length ≤ a.length
  · rw [decide_eq_true hl, Bool.true_and]
    apply decide_eq_decide.mpr
    rw [List.prefix_iff_eq_take]
    exact ⟨fun h => h.symm, fun h => h.symm⟩
  · rw [decide_eq_false hl, Bool.false_and]
    symm
    rw [decide_eq_false_iff_not]
    intro h
    exact hl h.length_le
theorem cut_from (w : List Bool) {i : Int} (h : 0 ≤ i) : cutS (WS w) (some i) none = WS (w.drop i.toNat) := by
  rw [C8.cutS_slice]
  unfold WS
  rw [SX.slice_from h, List.map_drop]
theorem cut_to (w : List Bool) {i : Int} (h : 0 ≤ i) : cutS (WS w) none (some i) = WS (w.take i.toNat) := by
  rw [C8.cutS_slice]
  unfold WS
  rw [SX.slice_to h, List.map_take]
theorem foldl_app {α : Type} : ∀ (l : List (Array α)) (acc : Array α), (l.foldl (· ++ ·) acc).toList = acc.toList ++ (l.map (·.toList)).flatten
  | [], acc => by simp
  | x :: l, acc => by rw [List.foldl_cons, foldl_app l]; simp
theorem mul_WS (z : List Bool) {n : Int} (h : 0 ≤ n) : Txt.mul (WS z) n = WS (List.replicate n.toNat z).flatten := by
  unfold Txt.mul
  by_cases h1 : n < 1
  · have e : n = 0 := by omega
    subst e
    rfl
  · rw [if_neg h1]
    by_cases h2 : (n == 1 || (WS z).length == 0) = true
    · rw [if_pos h2]
      rw [Bool.or_eq_true, beq_iff_eq, beq_iff_eq, WS_len] at h2
      rcases h2 with e | e
      · subst e
        show WS z = WS (List.replicate 1 z).flatten
        simp
      · have e : z = [] := List.length_eq_zero_iff.mp e
        subst e
        congr 1
        induction n.toNat with
        | zero => rfl
        | succ k ih => rw [List.replicate_succ, List.flatten_cons, ← ih]; rfl
    · rw [if_neg h2]
      show _ = SX.S _
      have : ∀ a b : Str, a.cps.toList = b.cps.toList → a = b := fun a b h => by
        cases a; cases b; simp at h; rw [h]
      apply this
      rw [foldl_app]
      show [] ++ _ = List.map cd _
      rw [List.nil_append, List.map_replicate]
      generalize n.toNat = k
      induction k with
      | zero => rfl
      | succ k ih => rw [List.replicate_succ, List.replicate_succ, List.flatten_cons, List.flatten_cons, List.map_append, ih]; rfl
theorem flat_rep (k : Nat) (b : Bool) : (List.replicate k [b]).flatten = List.replicate k b := by
  induction k with
  | zero => rfl
  | succ k ih => rw [List.replicate_succ, List.replicate_succ, List.flatten_cons, ih]; rfl
theorem mul_ok (z : List Bool) {n : Int} (h : 0 ≤ n) (hn : n ≤ 1000) (hz : z.length ≤ 1000) : MulOk (WS z) n := by
  refine ⟨?_, ?_, ?_⟩
  · rw [Bool.or_eq_false_iff, decide_eq_false_iff_not, decide_eq_false_iff_not]
    omega
  · intro h1 _
    rw [WS_len]
    have h2 : (2 ^ 63 - 1 : Int) / 1000 ≤ (2 ^ 63 - 1) / n := by
      apply Int.le_ediv_of_mul_le (by omega)
      have : (2 ^ 63 - 1 : Int) / 1000 * n ≤ (2 ^ 63 - 1 : Int) / 1000 * 1000 := Int.mul_le_mul_of_nonneg_left hn (by decide)
      refine Int.le_trans this (by decide)
    have h3 : (1000 : Int) < (2 ^ 63 - 1) / 1000 := by decide
    omega
  · intro h1 _
    rw [WS_len]
    have h2 : z.length * n.toNat ≤ 1000 * 1000 := Nat.mul_le_mul hz (by omega)
    have : ∀ m : Nat, m ≤ 1000000 → Builtin.Str.tooLong m = false := fun m hm => by
      unfold Builtin.Str.tooLong
      rw [decide_eq_false_iff_not]
      have : (1000000 : Nat) < sizeLine := by decide
      omega
    exact this _ (by omega)
end Own
namespace Own
open PySem PySem.Spec PyProof.Rows L2
/-- a polynomial and a start that fit -/
structure Chk (poly st : List Bool) : Prop where
  len : poly.length = st.length + 1
  hd : [true] <+: poly
  lt : [true] <:+ poly
theorem chk_one : Chk [true] [] := ⟨rfl, List.prefix_rfl, List.suffix_rfl⟩
theorem chk_in {inner st : List Bool} (h : st.length = inner.length + 1) : Chk (true :: (inner ++ [true])) st :=
  ⟨by simp [h], ⟨_, rfl⟩, ⟨true :: inner, rfl⟩⟩
def spCheck : Sp := fun vs H Q _ => ∃ (b : Addr) (m : Int), vs = [.ref b, .int m] ∧ BoxAt H b ∧ 0 ≤ m ∧ m ≤ 100 ∧ ∀ (poly st : List Bool) p H', Chk poly st → (st.length : Int) ≤ m → H p = none → H' p = some (.tup [.str (WS poly), .str (WS st)]) → BoxAt H' b → Off b H H' → Q (.ref p) H'
theorem w101 (z : List Bool) : ("1" : Str) ++ WS z ++ "1" = WS (true :: (z ++ [true])) := by
  rw [← WS_1, WS_cat, WS_cat]
  rfl
end Own
namespace Own
open PySem PySem.Spec PyProof.Rows L2
/-! ### promises of the program's defs -/
def spIsWord : Sp := fun vs H Q _ => ∃ (z : List Bool) (n : Int), vs = [.str (WS z), .int n] ∧ z.length ≤ 1000 ∧ ∀ H', Same H H' → Q (.bl (decide (n ≤ (z.length : Int)))) H'
def xorL (a b : List Bool) : List Bool := a.zipWith (· ^^ ·) b
def spExch : Sp := fun vs H Q _ => ∃ (a b : List Bool), vs = [.str (WS a), .str (WS b)] ∧ a.length ≤ 1000 ∧ b.length ≤ 1000 ∧ ∀ H', Same H H' → Q (.str (WS (xorL a b))) H'
theorem ls_len (z : List Bool) (h : z.length ≤ 1000) : (WS z).length ≤ sizeLine := by
  rw [WS_len]
  exact Nat.le_of_lt (small1000 h)
theorem scal_str (a b : Str) : scal (.str a) (.str b) = true := rfl
theorem eqS (a b : List Bool) : decide (V.str (WS a) = V.str (WS b)) = decide (a = b) := by
  apply decide_eq_decide.mpr
  constructor
  · intro h
    injection h with h
    exact WS_inj h
  · intro h
    rw [h]
/-- the class's instances: its fields -/
def ckf (poly st : List Bool) : List (Str × V) := [("poly", .str (WS poly)), ("start", .str (WS st))]
def CkAt (C : Addr) (H : Hp) (p : Addr) (poly st : List Bool) : Prop := ∃ dx, H p = some (.ins C dx (ckf poly st))
theorem CkAt.same {C p : Addr} {H H' : Hp} {poly st : List Bool} (s : Same H H') (h : CkAt C H p poly st) : CkAt C H' p poly st := by
  obtain ⟨dx, e⟩ := h
  exact ⟨dx, s _ _ e⟩
theorem CkAt.off {C p b : Addr} {H H' : Hp} {poly st : List Bool} (hb : BoxAt H b) (o : Off b H H') (h : CkAt C H p poly st) : CkAt C H' p poly st := by
  obtain ⟨dx, e⟩ := h
  exact ⟨dx, o _ _ e (hb.ne_ins e)⟩
theorem ckf_poly (poly st : List Bool) : (ckf poly st).lookup ("poly" : Str) = some (.str (WS poly)) := rfl
theorem ckf_start (poly st : List Bool) : (ckf poly st).lookup ("start" : Str) = some (.str (WS st)) := by
  unfold ckf
  rw [List.lookup_cons, show (("start" : Str) == "poly") = false by decide +kernel]
  rfl
/-- what of the class is known -/
structure CkT (K : PySem.W.Frag) (C : Addr) : Prop where
  cl : Cls K C
  nP : NoAttr K C "poly"
  nS : NoAttr K C "start"
def spInit (C : Addr) : Sp := fun vs H Q _ => ∃ (p dx : Addr) (poly st : List Bool) (sv : V), vs = [.ref p, .str (WS poly), sv] ∧ ((sv = .non ∧ st = List.replicate (poly.length - 1) false) ∨ sv = .str (WS st)) ∧ Chk poly st ∧ st.length ≤ 900 ∧ H p = some (.ins C dx []) ∧
  ∀ H', CkAt C H' p poly st → (∀ a o, H a = some o → a ≠ p → H' a = some o) → Q .non H'
def spDegree (C : Addr) : Sp := fun vs H Q _ => ∃ (p : Addr) (poly st : List Bool), vs = [.ref p] ∧ CkAt C H p poly st ∧ poly.length ≤ 1000 ∧ Q (.int ((poly.length : Int) - 1)) H
/-- one bit more, divided -/
def stepR (marks left : List Bool) (b : Bool) : List Bool := if (left ++ [b]).head? = some true then xorL ((left ++ [b]).drop 1) marks else (left ++ [b]).drop 1
def restR (poly st bits : List Bool) : List Bool := bits.foldl (stepR (poly.drop 1)) st
theorem xorL_len (a b : List Bool) (h : a.length = b.length) : (xorL a b).length = a.length := by
  unfold xorL
  rw [List.length_zipWith, h, Nat.min_self]
theorem stepR_len {marks left : List Bool} {b : Bool} (h : left.length = marks.length) : (stepR marks left b).length = marks.length := by
  unfold stepR
  have : ((left ++ [b]).drop 1).length = marks.length := by simp [h]
  split
  · rw [xorL_len _ _ this, this]
  · exact this
theorem restR_len {poly st : List Bool} (h : poly.length = st.length + 1) : ∀ bits : List Bool, (restR poly st bits).length = st.length := by
  intro bits
  have key : ∀ (bits l : List Bool), l.length = (poly.drop 1).length → (bits.foldl (stepR (poly.drop 1)) l).length = (poly.drop 1).length := by
    intro bits
    induction bits with
    | nil => intro l h; exact h
    | cons b r ih => intro l h; exact ih _ (stepR_len h)
  have := key bits st (by simp [h])
  unfold restR
  rw [this]
  simp [h]
def spRest (C : Addr) : Sp := fun vs H Q _ => ∃ (p : Addr) (poly st bits : List Bool), vs = [.ref p, .str (WS bits)] ∧ CkAt C H p poly st ∧ Chk poly st ∧ st.length ≤ 900 ∧ bits.length ≤ 1000 ∧ ∀ H', Same H H' → Q (.str (WS (restR poly st bits))) H'
end Own
namespace Own
open PySem PySem.Spec PyProof.Rows L2
/-! ### the law's own division -/
def b2n (b : Bool) : Int := if b then 1 else 0
def rowV (l : List Bool) : List V := l.map fun b => V.int (b2n b)
theorem rowV_app (a b : List Bool) : rowV (a ++ b) = rowV a ++ rowV b := by unfold rowV; rw [List.map_append]
theorem rowV_len (a : List Bool) : (rowV a).length = a.length := by unfold rowV; rw [List.length_map]
theorem int_bit (b : Bool) : PySem.intText? (WS [b]) = some (b2n b) := by cases b <;> decide +kernel
theorem str_bit (b : Bool) : (toString (b2n b) : String) = (if b then "1" else "0") := by cases b <;> decide +kernel
theorem add_bits (x y : Bool) : (b2n x + b2n y) % 2 = b2n (x ^^ y) := by cases x <;> cases y <;> decide
theorem row_at {a b : List Bool} {x : Bool} {i : Int} (h : i = (a.length : Int)) : atI (rowV (a ++ x :: b)) i = some (.int (b2n x)) := by
  subst h
  apply atI_nat
  unfold rowV
  rw [List.getElem?_map, List.getElem?_append_right (Nat.le_refl _), Nat.sub_self]
  rfl
theorem row_set {a b : List Bool} {x y : Bool} : (rowV (a ++ x :: b)).set a.length (.int (b2n y)) = rowV (a ++ y :: b) := by
  unfold rowV
  simp [List.set_append]
theorem xorL_snoc {a b : List Bool} {s : Nat} {x y : Bool} (ha : a[s]? = some x) (hb : b[s]? = some y) : xorL (a.take (s + 1)) (b.take (s + 1)) = xorL (a.take s) (b.take s) ++ [x ^^ y] := by
  have h1 : a.take (s + 1) = a.take s ++ [x] := by rw [List.take_add_one, ha]; rfl
  have h2 : b.take (s + 1) = b.take s ++ [y] := by rw [List.take_add_one, hb]; rfl
  have l1 : s < a.length := (List.getElem?_eq_some_iff.mp ha).1
  have l2 : s < b.length := (List.getElem?_eq_some_iff.mp hb).1
  rw [h1, h2]
  unfold xorL
  rw [List.zipWith_append (by rw [List.length_take, List.length_take]; omega)]
  rfl
def spLRest : Sp := fun vs H Q _ => ∃ (t : Addr) (poly st bits : List Bool), vs = [.ref t, .str (WS bits)] ∧ H t = some (.tup [.str (WS poly), .str (WS st)]) ∧ Chk poly st ∧ st.length ≤ 900 ∧ bits.length ≤ 1000 ∧ ∀ H', Same H H' → Q (.str (WS (restR poly st bits))) H'
/-- one step of the division, as the law's row tells it -/
theorem step_true {poly left : List Bool} {b : Bool} (hp : [true] <+: poly) (hl : poly.length = left.length + 1) (h : (left ++ [b]).head? = some true) : xorL (left ++ [b]) poly = false :: stepR (poly.drop 1) left b := by
  obtain ⟨m, rfl⟩ := hp
  unfold stepR
  rw [if_pos h]
  cases e : left ++ [b] with
  | nil => simp at e
  | cons x r =>
    rw [e] at h
    have : x = true := by simpa using h
    subst this
    rfl
theorem step_false {poly left : List Bool} {b : Bool} (h : (left ++ [b]).head? = some false) : left ++ [b] = false :: stepR (poly.drop 1) left b := by
  unfold stepR
  rw [if_neg (by rw [h]; decide)]
  cases e : left ++ [b] with
  | nil => simp at e
  | cons x r =>
    rw [e] at h
    have : x = false := by simpa using h
    subst this
    rfl
end Own
namespace Own
open PySem PySem.Spec PyProof.Rows L2
theorem cutV_from (xs : List V) {n : Nat} (h : n ≤ xs.length) : cutV xs (some (n : Int)) none = xs.drop n := by
  unfold cutV
  rw [show HT.sIx xs.length 0 (some (n : Int)) = min n xs.length from HT.sIx_nat xs.length 0 n, HT.sIx_none, Nat.min_eq_left h]
  exact List.take_of_length_le (by rw [List.length_drop]; exact Nat.le_refl _)
end Own
namespace Own
open PySem PySem.Spec PyProof.Rows L2
theorem ixN_at {n j : Nat} {k : Int} (h : k = (j : Int)) (hj : j < n) : ixN n k = some j := by
  subst h
  unfold ixN
  rw [if_pos (by omega), if_pos (by omega)]
  rfl
end Own
namespace Own
open PySem PySem.Spec PyProof.Rows L2
/-- all but lists are as they were -/
def notL : HO → Prop
  | .lst _ => False
  | _ => True
def Kp (H H' : Hp) : Prop := ∀ a o, H a = some o → notL o → H' a = some o
theorem Kp.refl (H : Hp) : Kp H H := fun _ _ h _ => h
theorem Kp.trans {H H1 H2 : Hp} (x : Kp H H1) (y : Kp H1 H2) : Kp H H2 := fun a o h n => y a o (x a o h n) n
theorem kp_same {H H' : Hp} (s : Same H H') : Kp H H' := fun a o h _ => s a o h
theorem kp_off {b : Addr} {H H' : Hp} (hb : BoxAt H b) (o : Off b H H') : Kp H H' := fun a u h n => o a u h (fun e => by
  obtain ⟨c, d, e2, _⟩ := hb
  rw [e, e2] at h
  cases h
  exact n)
theorem kp_lst {H : Hp} {l : Addr} {xs ys : List V} (h : H l = some (.lst xs)) : Kp H (upd H l (.lst ys)) := fun a u e n => by
  rw [upd_ne (fun q => by rw [q, h] at e; cases e; exact n)]
  exact e
theorem CkAt.kp {C p : Addr} {H H' : Hp} {poly st : List Bool} (k : Kp H H') (h : CkAt C H p poly st) : CkAt C H' p poly st := by
  obtain ⟨dx, e⟩ := h
  exact ⟨dx, k _ _ e trivial⟩
theorem same_off {b : Addr} {H H1 H2 : Hp} (s : Same H H1) (o : Off b H1 H2) (hb : H b = none) : Same H H2 := fun a u h => o a u (s a u h) (ne_of_none h hb)
theorem same_make {H H' : Hp} {x dx : Addr} {o1 o2 : HO} (hx : H x = none) (hdx : H dx = none) (k : ∀ a o, (upd (upd H dx o1) x o2) a = some o → a ≠ x → H' a = some o) : Same H H' := fun a o h => by
  refine k a o ?_ (ne_of_none h hx)
  rw [upd_ne (ne_of_none h hx), upd_ne (ne_of_none h hdx)]
  exact h
def spLaw (K : PySem.W.Frag) : Sp := fun vs H Q _ => ∃ (a : Addr) (ns : List Int), vs = [.ref a] ∧ SqL K H a (ns.map V.int) ∧ ns.length ≤ 63 ∧ ∀ H', Q (.bl true) H'
theorem nofield {poly st : List Bool} {m : Str} (h1 : (m == "poly") = false) (h2 : (m == "start") = false) : (ckf poly st).lookup m = none := by
  unfold ckf
  rw [List.lookup_cons, h1, List.lookup_cons, h2]
  rfl
end Own

set_option Elab.async false
set_option linter.all false
set_option maxRecDepth 100000
set_option maxHeartbeats 2000000
namespace Own
open PySem PySem.Spec PyProof.Rows L2
open C8 (Cal Mak Met pe_c pe_mk pe_mt pe_mt0 Def fnArgs fnBody fnScope fn0 fnScope_by)
theorem call_repr_bl {X : Cx} : CallR X (.builtin "repr") (fun xs H Q => ∃ b, xs = [.bl b] ∧ Q (.str (if b then "True" else "False")) H) := by
  intro pins s σ H xs us Q I r h
  obtain ⟨b, rfl, q⟩ := h
  match us, r with
  | [u], .cons ra .nil =>
    cases (show u = Value.bool b from ra)
    exact PySem.P.repr_of_bool ⟨.str (if b then "True" else "False"), H, I.tok _, ⟨_, rfl⟩, q⟩

/-! ### the rest is linear -/
theorem xor_self (l : List Bool) : xorL l l = List.replicate l.length false := by
  unfold xorL
  induction l with
  | nil => rfl
  | cons x r ih => rw [List.zipWith_cons_cons, ih, List.length_cons, List.replicate_succ]; cases x <;> rfl
theorem xor_zero (l : List Bool) : xorL l (List.replicate l.length false) = l := by
  unfold xorL
  induction l with
  | nil => rfl
  | cons x r ih => rw [List.length_cons, List.replicate_succ, List.zipWith_cons_cons, ih]; cases x <;> rfl
theorem xor_comm (a b : List Bool) : xorL a b = xorL b a := by
  unfold xorL
  induction a generalizing b with
  | nil => cases b <;> rfl
  | cons x r ih =>
    cases b with
    | nil => rfl
    | cons y s => rw [List.zipWith_cons_cons, List.zipWith_cons_cons, ih]; cases x <;> cases y <;> rfl
theorem xor_assoc (a b c : List Bool) : xorL (xorL a b) c = xorL a (xorL b c) := by
  unfold xorL
  induction a generalizing b c with
  | nil => cases b <;> cases c <;> rfl
  | cons x r ih =>
    cases b with
    | nil => cases c <;> rfl
    | cons y s =>
      cases c with
      | nil => rfl
      | cons z t => rw [List.zipWith_cons_cons, List.zipWith_cons_cons, List.zipWith_cons_cons, List.zipWith_cons_cons, ih]; cases x <;> cases y <;> cases z <;> rfl
theorem xor_app {a b c d : List Bool} (h : a.length = b.length) : xorL (a ++ c) (b ++ d) = xorL a b ++ xorL c d := by
  unfold xorL
  exact List.zipWith_append h
theorem xor_eq_zero {a b : List Bool} (h : a.length = b.length) (e : xorL a b = List.replicate a.length false) : a = b := by
  have h1 : xorL (xorL a b) b = a := by
    rw [xor_assoc, xor_self, ← h, xor_zero]
  rw [← h1, e, h, xor_comm, xor_zero]
theorem xor_swap (a b c d : List Bool) : xorL (xorL a b) (xorL c d) = xorL (xorL a c) (xorL b d) := by
  rw [xor_assoc, xor_assoc, ← xor_assoc b c d, xor_comm b c, xor_assoc c b d]
theorem step_lin {m l1 l2 : List Bool} {b1 b2 : Bool} (h1 : l1.length = m.length) (h2 : l2.length = m.length) : stepR m (xorL l1 l2) (b1 ^^ b2) = xorL (stepR m l1 b1) (stepR m l2 b2) := by
  have e : xorL l1 l2 ++ [b1 ^^ b2] = xorL (l1 ++ [b1]) (l2 ++ [b2]) := by
    rw [xor_app (by omega)]
    rfl
  unfold stepR
  rw [e]
  obtain ⟨x, p, hp⟩ : ∃ x p, l1 ++ [b1] = x :: p := by
    cases l1 with
    | nil => exact ⟨b1, [], rfl⟩
    | cons x r => exact ⟨x, r ++ [b1], rfl⟩
  obtain ⟨y, q, hq⟩ : ∃ y q, l2 ++ [b2] = y :: q := by
    cases l2 with
    | nil => exact ⟨b2, [], rfl⟩
    | cons x r => exact ⟨x, r ++ [b2], rfl⟩
  have lp : p.length = m.length := by have := congrArg List.length hp; simp at this; omega
  have lq : q.length = m.length := by have := congrArg List.length hq; simp at this; omega
  have ez : xorL (x :: p) (y :: q) = (x ^^ y) :: xorL p q := rfl
  rw [hp, hq, ez]
  simp only [List.head?_cons, List.drop_succ_cons, List.drop_zero, Option.some.injEq]
  have lz : xorL m m = List.replicate m.length false := xor_self m
  cases x <;> cases y <;> simp only [Bool.false_eq_true, if_false, if_true, Bool.xor_false, Bool.false_xor, Bool.xor_true, Bool.not_false, Bool.not_true]
  · rw [xor_assoc]
  · rw [xor_assoc, xor_assoc, xor_comm q m]
  · rw [xor_swap, lz]
    have : (xorL p q).length = m.length := by rw [xorL_len _ _ (by omega)]; exact lp
    rw [← this, xor_zero]
theorem fold_lin {m : List Bool} : ∀ {w1 w2 l1 l2 : List Bool}, w1.length = w2.length → l1.length = m.length → l2.length = m.length →
    (xorL w1 w2).foldl (stepR m) (xorL l1 l2) = xorL (w1.foldl (stepR m) l1) (w2.foldl (stepR m) l2)
  | [], [], _, _, _, _, _ => rfl
  | a :: w1, b :: w2, l1, l2, h, h1, h2 => by
    have e : xorL (a :: w1) (b :: w2) = (a ^^ b) :: xorL w1 w2 := rfl
    rw [e, List.foldl_cons, List.foldl_cons, List.foldl_cons, step_lin h1 h2]
    exact fold_lin (by simpa using h) (stepR_len h1) (stepR_len h2)
/-- few bits behind zeros go in as they are -/
theorem fold_in {m : List Bool} : ∀ (w l : List Bool), l.length + w.length = m.length → w.foldl (stepR m) (List.replicate w.length false ++ l) = l ++ w
  | [], l, _ => by simp
  | b :: w, l, h => by
    rw [List.foldl_cons]
    have : stepR m (List.replicate (b :: w).length false ++ l) b = List.replicate w.length false ++ (l ++ [b]) := by
      unfold stepR
      rw [List.length_cons, List.replicate_succ]
      simp
    rw [this, fold_in w (l ++ [b]) (by simp at h ⊢; omega)]
    simp
theorem restR_app (poly st a b : List Bool) : restR poly st (a ++ b) = restR poly (restR poly st a) b := by
  unfold restR
  rw [List.foldl_append]
/-- the last bits, as many as the degree, are taken away from what noughts give -/
theorem restR_tail {poly st data w : List Bool} (h : poly.length = st.length + 1) (hw : w.length = st.length) : restR poly st (data ++ w) = xorL (restR poly st (data ++ List.replicate st.length false)) w := by
  rw [restR_app, restR_app]
  have hl : (restR poly st data).length = (poly.drop 1).length := by rw [restR_len h]; simp [h]
  have hm : (poly.drop 1).length = st.length := by simp [h]
  generalize restR poly st data = l at hl
  have e1 : w = xorL (List.replicate st.length false) w := by rw [xor_comm, ← hw, xor_zero]
  have e2 : l = xorL l (List.replicate st.length false) := by
    have : l.length = st.length := by omega
    rw [← this, xor_zero]
  have := fold_lin (m := poly.drop 1) (w1 := List.replicate st.length false) (w2 := w) (l1 := l) (l2 := List.replicate st.length false) (by simp [hw]) hl (by rw [List.length_replicate]; exact hm.symm)
  rw [← e1, ← e2] at this
  unfold restR
  rw [this]
  congr 1
  have := fold_in (m := poly.drop 1) w [] (by simp; omega)
  rw [List.append_nil, List.nil_append, hw] at this
  exact this
def goodB (poly st msg : List Bool) : Bool := decide (st.length ≤ msg.length) && !(decide (true ∈ restR poly st msg))
theorem zero_iff {l : List Bool} : ¬ true ∈ l ↔ l = List.replicate l.length false := by
  constructor
  · intro h
    rw [List.eq_replicate_iff]
    exact ⟨rfl, fun b hb => by cases b; rfl; exact absurd hb h⟩
  · intro h
    rw [h]
    intro hm
    have := List.eq_of_mem_replicate hm
    cases this
def bitsR (poly st data : List Bool) : List Bool := restR poly st (data ++ List.replicate st.length false)
theorem bitsR_len {poly st data : List Bool} (h : poly.length = st.length + 1) : (bitsR poly st data).length = st.length := restR_len h _
/-- these bits, and no others -/
theorem good_iff {poly st data w : List Bool} (h : poly.length = st.length + 1) (hw : w.length = st.length) : goodB poly st (data ++ w) = decide (w = bitsR poly st data) := by
  unfold goodB
  rw [decide_eq_true (by simp; omega), Bool.true_and, ← decide_not]
  apply decide_eq_decide.mpr
  rw [zero_iff, restR_len h, restR_tail h hw]
  have hb := bitsR_len (data := data) h
  constructor
  · intro e
    exact (xor_eq_zero (a := bitsR poly st data) (b := w) (by omega) (by rw [hb]; exact e)).symm
  · intro e
    have := xor_self (bitsR poly st data)
    rw [hb] at this
    rw [e]
    exact this
theorem mem_one (z : List Bool) : (49 ∈ (WS z).cps.toList) ↔ (true ∈ z) := by
  show 49 ∈ (z.map cd) ↔ _
  rw [List.mem_map]
  constructor
  · rintro ⟨b, hb, e⟩
    cases b
    · exact absurd e (by decide)
    · exact hb
  · intro h
    exact ⟨true, h, rfl⟩
def spBitsFor (C : Addr) : Sp := fun vs H Q _ => ∃ (p : Addr) (poly st data : List Bool), vs = [.ref p, .str (WS data)] ∧ CkAt C H p poly st ∧ Chk poly st ∧ st.length ≤ 400 ∧ data.length ≤ 500 ∧ ∀ H', Same H H' → Q (.str (WS (bitsR poly st data))) H'
def spGood (C : Addr) : Sp := fun vs H Q _ => ∃ (p : Addr) (poly st msg : List Bool), vs = [.ref p, .str (WS msg)] ∧ CkAt C H p poly st ∧ Chk poly st ∧ st.length ≤ 400 ∧ msg.length ≤ 900 ∧ ∀ H', Same H H' → Q (.bl (goodB poly st msg)) H'
end Own
namespace Own
open PySem PySem.Spec PyProof.Rows L2
/-! ### all words of a size -/
def two (w : List Bool) : List (List Bool) := [w ++ [false], w ++ [true]]
def wordsL : Nat → List (List Bool)
  | 0 => [[]]
  | n + 1 => (wordsL n).flatMap two
def strV (ws : List (List Bool)) : List V := ws.map fun w => V.str (WS w)
theorem strV_len (ws : List (List Bool)) : (strV ws).length = ws.length := by unfold strV; rw [List.length_map]
theorem strV_app (a b : List (List Bool)) : strV (a ++ b) = strV a ++ strV b := by unfold strV; rw [List.map_append]
theorem wordsL_len : ∀ n, (wordsL n).length = 2 ^ n
  | 0 => rfl
  | n + 1 => by
    unfold wordsL
    rw [List.length_flatMap]
    have : ∀ l : List (List Bool), (l.map fun a => (two a).length).sum = 2 * l.length := by
      intro l
      induction l with
      | nil => rfl
      | cons x r ih =>
        rw [List.map_cons, List.sum_cons, ih, List.length_cons]
        show 2 + 2 * r.length = 2 * (r.length + 1)
        omega
    rw [this, wordsL_len n, Nat.pow_succ]
    omega
theorem mem_wordsL : ∀ {n : Nat} {w : List Bool}, w ∈ wordsL n ↔ w.length = n
  | 0, w => by unfold wordsL; rw [List.mem_singleton, List.length_eq_zero_iff]
  | n + 1, w => by
    unfold wordsL
    rw [List.mem_flatMap]
    constructor
    · rintro ⟨u, hu, hw⟩
      have h1 := mem_wordsL.mp hu
      unfold two at hw
      rcases List.mem_cons.mp hw with e | hw
      · rw [e]; simp [h1]
      · rw [List.mem_singleton] at hw
        rw [hw]; simp [h1]
    · intro h
      have hne : w ≠ [] := by intro e; rw [e] at h; cases h
      refine ⟨w.dropLast, mem_wordsL.mpr (by rw [List.length_dropLast]; omega), ?_⟩
      have e := List.dropLast_concat_getLast hne
      unfold two
      cases hb : w.getLast hne with
      | false => rw [hb] at e; exact List.mem_cons.mpr (.inl e.symm)
      | true => rw [hb] at e; exact List.mem_cons.mpr (.inr (List.mem_singleton.mpr e.symm))
theorem one_good {poly st bits : List Bool} (h : poly.length = st.length + 1) : ∃ r, (wordsL st.length).filter (fun w => goodB poly st (bits ++ w)) = bitsR poly st bits :: r ∧ ∀ w ∈ (wordsL st.length).filter (fun w => goodB poly st (bits ++ w)), w = bitsR poly st bits := by
  have hb := bitsR_len (data := bits) h
  have all : ∀ w ∈ (wordsL st.length).filter (fun w => goodB poly st (bits ++ w)), w = bitsR poly st bits := fun w hw => by
    obtain ⟨h1, h2⟩ := List.mem_filter.mp hw
    rw [good_iff h (mem_wordsL.mp h1)] at h2
    exact of_decide_eq_true h2
  have hin : bitsR poly st bits ∈ (wordsL st.length).filter (fun w => goodB poly st (bits ++ w)) := List.mem_filter.mpr ⟨mem_wordsL.mpr hb, by rw [good_iff h hb]; exact decide_eq_true rfl⟩
  cases e : (wordsL st.length).filter (fun w => goodB poly st (bits ++ w)) with
  | nil => rw [e] at hin; cases hin
  | cons x r =>
    have hx : x = bitsR poly st bits := all x (by rw [e]; exact List.mem_cons_self)
    rw [e] at all
    exact ⟨r, by rw [hx], all⟩
def spWords : Sp := fun vs H Q _ => ∃ (n : Int), vs = [.int n] ∧ 0 ≤ n ∧ n ≤ 6 ∧ ∀ l H', H l = none → H' l = some (.lst (strV (wordsL n.toNat))) → Same H H' → Q (.ref l) H'
def spRight : Sp := fun vs H Q _ => ∃ (t : Addr) (poly st msg : List Bool), vs = [.ref t, .str (WS msg)] ∧ H t = some (.tup [.str (WS poly), .str (WS st)]) ∧ Chk poly st ∧ st.length ≤ 400 ∧ msg.length ≤ 900 ∧ ∀ H', Same H H' → Q (.bl (goodB poly st msg)) H'
def spLBits : Sp := fun vs H Q _ => ∃ (t : Addr) (poly st bits : List Bool), vs = [.ref t, .str (WS bits)] ∧ H t = some (.tup [.str (WS poly), .str (WS st)]) ∧ Chk poly st ∧ st.length ≤ 4 ∧ bits.length ≤ 400 ∧ ∀ H', Same H H' → Q (.str (WS (bitsR poly st bits))) H'
def spTurn : Sp := fun vs H Q _ => ∃ b : Bool, vs = [.str (WS [b])] ∧ Q (.str (WS [!b])) H
end Own
namespace Own
open PySem PySem.Spec PyProof.Rows L2
theorem iteNE {a b : V} {p q : Prop} (h : a ≠ b) (x : p) : if (!decide (a = b)) = true then p else q := by
  rw [decide_eq_false h]
  exact x
theorem str_ne {a b : Str} (h : a ≠ b) : V.str a ≠ V.str b := fun e => h (by injection e)
end Own

set_option Elab.async false
set_option linter.all false
set_option maxRecDepth 100000
set_option maxHeartbeats 2000000
namespace Own
open PySem PySem.Spec PyProof.Rows L2
open C8 (Cal Mak Met pe_c pe_mk pe_mt pe_mt0 Def fnArgs fnBody fnScope fn0 fnScope_by)

/-! ### max(ints, default=0) -/
def rMaxD (K : PySem.W.Frag) : List V → List V → Hp → VK → Prop := fun vs zs H Q => ∃ (a : Addr) (ns : List Int), vs = [V.ref a] ∧ zs = [V.int 0] ∧ SqL K H a (ns.map V.int) ∧ (ns = [] → Q (.int 0) H) ∧ ∀ n r, ns = n :: r → Q (.int (r.foldl max n)) H
theorem dpAll_ints {K : PySem.W.Frag} {H : Hp} : ∀ ns : List Int, DpAll K H (ns.map V.int) (ns.map PyData.int)
  | [] => .nil
  | n :: r => .cons (.int n) (dpAll_ints r)
theorem depth_ints : ∀ ns : List Int, PyData.depthAll (ns.map PyData.int) = 0
  | [] => rfl
  | n :: r => by
    show max (PyData.depth (.int n)) (PyData.depthAll (r.map PyData.int)) = 0
    rw [depth_ints r]
    rfl
theorem cr_maxD {X : Cx} (hc : X.calm = true) (hu : X.A.units + 64 < cLine) : CallRK X (.builtin "max") [Str.ofString "default"] (rMaxD X.K) := by
  intro pins s σ H vs zs us ws Q I r rz h
  obtain ⟨a, ns, rfl, rfl, hs, q0, q1⟩ := h
  match us, r, ws, rz with
  | [u], .cons ra .nil, [d], .cons rd .nil =>
    cases (show u = Value.ref a from ra)
    obtain ⟨t, rfl⟩ := (show ∃ t, d = Value.int 0 t from rd)
    obtain ⟨its, rv, hl, hz⟩ := I.list hs
    obtain ⟨as, hr⟩ := Dp.readsAll I (ns.map PyData.int) _ its (dpAll_ints ns) rv
    refine PySem.W.max_list_default (I.ok.hd hc) hl.isList (by simpa using hr) ?_ (by rw [depth_ints]; omega) (fun e h' tk hk => ?_) (fun y ys i v h' tk bs e hi hv hk => ?_)
    · refine ⟨fun x hx y hy => ?_, fun x hx => ?_⟩
      · obtain ⟨i, _, rfl⟩ := List.mem_map.mp hx
        obtain ⟨j, _, rfl⟩ := List.mem_map.mp hy
        rfl
      · obtain ⟨i, _, rfl⟩ := List.mem_map.mp hx
        intro e
        cases e
    · have e0 : ns = [] := by cases ns <;> first | rfl | cases e
      exact ⟨.int 0, H, I.kept (t' := tk) hk, ⟨_, rfl⟩, q0 e0⟩
    · cases ns with
      | nil => cases e
      | cons n r0 =>
        rw [List.map_cons] at e
        injection e with e1 e2
        subst e1 e2
        rw [PySem.W.maxD_ints] at hv
        cases hv
        exact ⟨.int (r0.foldl max n), H, I.kept (t' := tk) hk, ⟨_, rfl⟩, q1 n r0 rfl⟩

/-! ### pairs of a pattern and a bit -/
abbrev Stf := List Bool × Bool
def PairAt (H : Hp) (v : V) (p : Stf) : Prop := ∃ t, v = V.ref t ∧ H t = some (.tup [.str (WS p.1), .str (WS [p.2])])
def Pairs (H : Hp) : List V → List Stf → Prop
  | [], [] => True
  | v :: vs, p :: ps => PairAt H v p ∧ Pairs H vs ps
  | _, _ => False
theorem PairAt.kp {H H' : Hp} {v : V} {p : Stf} (k : Kp H H') (h : PairAt H v p) : PairAt H' v p := by
  obtain ⟨t, e, h⟩ := h
  exact ⟨t, e, k _ _ h trivial⟩
theorem Pairs.kp {H H' : Hp} (k : Kp H H') : ∀ {vs : List V} {ps : List Stf}, Pairs H vs ps → Pairs H' vs ps
  | [], [], _ => trivial
  | _ :: _, _ :: _, h => ⟨h.1.kp k, Pairs.kp k h.2⟩
  | [], _ :: _, h => h.elim
  | _ :: _, [], h => h.elim
theorem Pairs.len {H : Hp} : ∀ {vs : List V} {ps : List Stf}, Pairs H vs ps → vs.length = ps.length
  | [], [], _ => rfl
  | _ :: _, _ :: _, h => congrArg Nat.succ (Pairs.len h.2)
  | [], _ :: _, h => h.elim
  | _ :: _, [], h => h.elim
theorem Pairs.get {H : Hp} : ∀ {vs : List V} {ps : List Stf} {i : Nat} {v : V}, Pairs H vs ps → vs[i]? = some v → ∃ p, ps[i]? = some p ∧ PairAt H v p
  | v :: vs, p :: ps, 0, _, h, e => ⟨p, rfl, by cases e; exact h.1⟩
  | v :: vs, p :: ps, i + 1, _, h, e => Pairs.get (i := i) h.2 e
  | [], _, _, _, _, e => by cases e
  | _ :: _, [], _, _, h, _ => h.elim
/-- the data of a pair -/
def encP (p : Stf) : PyData := .tuple [.str (WS p.1), .str (WS [p.2])]
/-- the order of the pairs, as sorted has it -/
def sortP (ps : List Stf) : List Stf := ps.mergeSort (PySem.W.dataLe false encP)
theorem dp_pair {K : PySem.W.Frag} {H : Hp} {v : V} {p : Stf} (h : PairAt H v p) : Dp K H v (encP p) := by
  obtain ⟨t, rfl, h⟩ := h
  exact .tup (.inl (.inl h)) (.cons (.str _) (.cons (.str _) .nil))
theorem dpAll_pairs {K : PySem.W.Frag} {H : Hp} : ∀ {vs : List V} {ps : List Stf}, Pairs H vs ps → DpAll K H vs (ps.map encP)
  | [], [], _ => .nil
  | _ :: _, _ :: _, h => .cons (dp_pair h.1) (dpAll_pairs h.2)
  | [], _ :: _, h => h.elim
  | _ :: _, [], h => h.elim
def rSortedP (K : PySem.W.Frag) : List V → Hp → VK → Prop := fun xs H Q => ∃ (l : Addr) (vs : List V) (ps : List Stf), xs = [V.ref l] ∧ SqL K H l vs ∧ Pairs H vs ps ∧ ∀ q vs', H q = none → Pairs H vs' (sortP ps) → Q (.ref q) (upd H q (.lst vs'))
theorem pairs_of {X : Cx} {H : Hp} : ∀ {out : List Value} {ps : List Stf}, PySem.W.EachIs (fun v p => ∃ t, v = Value.ref t ∧ H t = some (.tup [.str (WS p.1), .str (WS [p.2])])) out ps → ∃ vs', Vals vs' out ∧ Pairs H vs' ps
  | _, _, .nil => ⟨[], .nil, trivial⟩
  | _, _, .cons ⟨t, e, h⟩ r => by
    obtain ⟨vs, h1, h2⟩ := pairs_of (X := X) r
    exact ⟨V.ref t :: vs, .cons e h1, ⟨t, rfl, h⟩, h2⟩
theorem each_of {H : Hp} : ∀ {vs : List V} {ps : List Stf} {us : List Value}, Pairs H vs ps → Vals vs us → PySem.W.EachIs (fun v p => ∃ t, v = Value.ref t ∧ H t = some (.tup [.str (WS p.1), .str (WS [p.2])])) us ps
  | [], [], _, _, .nil => .nil
  | _ :: _, _ :: _, _, h, .cons r rs => by
    obtain ⟨⟨t, e, h1⟩, h2⟩ := h
    subst e
    exact .cons ⟨t, r, h1⟩ (each_of h2 rs)
  | [], _ :: _, _, h, _ => h.elim
  | _ :: _, [], _, h, _ => h.elim
theorem cr_sortedP {X : Cx} (hu : X.A.units + 64 < cLine) : CallR X (.builtin "sorted") (rSortedP X.K) := by
  intro pins s σ H xs us Q I r h
  obtain ⟨l, vs, ps, rfl, hs, hp, q⟩ := h
  match us, r with
  | [u], .cons ra .nil =>
    cases (show u = Value.ref l from ra)
    obtain ⟨its, rv, hl, hz⟩ := I.list hs
    obtain ⟨as, hr⟩ := Dp.readsAll I (ps.map encP) _ its (dpAll_pairs hp) rv
    refine PySem.W.sorted_data (enc := encP) (bs := ps) hl.isList (each_of hp rv) (PySem.W.readsAll_each encP hr) ?_ ?_ (by rw [← hp.len]; exact hz) (fun b hb => ?_) (fun out ho eo => ?_)
    · exact PySem.W.AllAlike.of fun b b' => rfl
    · exact .inl fun d hd => by
        obtain ⟨p, _, rfl⟩ := List.mem_map.mp hd
        exact ⟨_, _, rfl⟩
    · have : (encP b).depth = 1 := rfl
      rw [this]
      omega
    · obtain ⟨vs', rv', hp'⟩ := pairs_of (X := X) eo
      obtain ⟨ep, he'⟩ := PyProof.Rows.sortedAll_at s.heap its out.toArray
      have hlen : vs'.length ≤ sizeLine := by
        rw [rv'.length, ho, ← hp.len]
        exact hz
      exact ⟨.ref _, upd H (s.heap.objs.size + 1) (.lst vs'), I.laid (t' := s.toks) (fun _ _ => PyProof.Rows.sortedAll_old) (Nat.le_succ _) ⟨hlen, _, ep, rv', he'⟩, rfl, q _ _ (I.hok.fresh (Nat.le_succ _)) hp'⟩
end Own
namespace Own
open PySem PySem.Spec PyProof.Rows L2
/-! ### what a rule is -/
/-- no other pattern is an end of the i-th one -/
def partedAt (ws : List (List Bool)) (i : Nat) : Bool := (ws.take i ++ ws.drop (i + 1)).all fun o => !(decide (o <:+ ws.getD i []))
/-- the patterns go together: no pattern ends with another one, none occurs twice -/
def partedB (ws : List (List Bool)) : Bool := (List.range ws.length).all (partedAt ws)
/-- the bit behind a line -/
def putL (ps : List Stf) (line : List Bool) : Option Bool := (ps.find? fun p => decide (p.1 <:+ line)).map (·.2)
def longL (ps : List Stf) : Nat := (ps.map fun p => p.1.length).foldl max 0
/-- the line behind a line where a bit is put in -/
def nextL (ps : List Stf) (line : List Bool) (b : Bool) : List Bool := (line ++ [b]).drop ((line ++ [b]).length - longL ps)
/-- bits are put in behind this line n times, then no more -/
def endsIn (ps : List Stf) : Nat → List Bool → Bool
  | 0, line => (putL ps line).isNone
  | n + 1, line => match putL ps line with
    | none => true
    | some b => endsIn ps n (nextL ps line b)
def endsAll (ps : List Stf) : Bool := ps.all fun p => endsIn ps 40 p.1
structure RuleOk (ps : List Stf) : Prop where
  ne : ∀ p ∈ ps, p.1 ≠ []
  len : ∀ p ∈ ps, p.1.length ≤ 20
  few : ps.length ≤ 8
  parted : partedB (ps.map (·.1)) = true
  ends : endsAll ps = true
/-! ### promises -/
def spIsBit : Sp := fun vs H Q _ => ∃ z : List Bool, vs = [.str (WS z)] ∧ z.length ≤ 1000 ∧ ∀ H', Same H H' → Q (.bl (decide (z.length = 1))) H'
def spIsStuff : Sp := fun vs H Q _ => ∃ (v : V) (p : Stf), vs = [v] ∧ PairAt H v p ∧ p.1 ≠ [] ∧ p.1.length ≤ 900 ∧ ∀ H', Same H H' → Q (.bl true) H'
def spOneEnds : Sp := fun vs H Q _ => ∃ (l : Addr) (ws : List (List Bool)), vs = [.ref l] ∧ H l = some (.lst (strV ws)) ∧ ws.length ≤ 100 ∧ ∀ H', Same H H' → Q (.bl (!partedB ws)) H'
/-- a list or a tuple, wherever it stands -/
def SqK (K : PySem.W.Frag) (o : Bool) (H : Hp) (l : Addr) (xs : List V) : Prop := if o = true then SqL K H l xs else SqT K H l xs
theorem SqK.same {K : PySem.W.Frag} {o : Bool} {H H' : Hp} {l : Addr} {xs : List V} (h : SqK K o H l xs) (s : Same H H') : SqK K o H' l xs := by
  cases o with
  | true => exact s.seq (show SqL K H l xs from h)
  | false => exact Evl.ex_t s (show SqT K H l xs from h)
theorem SqK.l {K : PySem.W.Frag} {H : Hp} {l : Addr} {xs : List V} (h : H l = some (.lst xs)) : SqK K true H l xs := show SqL K H l xs from .inl (.inl h)
theorem SqK.t {K : PySem.W.Frag} {H : Hp} {l : Addr} {xs : List V} (h : H l = some (.tup xs)) : SqK K false H l xs := show SqT K H l xs from .inl (.inl h)
theorem SqK.ins {K : PySem.W.Frag} {o : Bool} {H : Hp} {l p C dx : Addr} {g : List (Str × V)} {u : HO} {xs : List V} (h : SqK K o H l xs) (hp : H p = some (.ins C dx g)) : SqK K o (upd H p u) l xs := by
  cases o with
  | true =>
    rcases (show SqL K H l xs from h) with (h | ⟨o, h⟩) | h
    · exact show SqL _ _ _ _ from .inl (.inl (by rw [upd_ne (fun e => by rw [e, hp] at h; cases h)]; exact h))
    · exact show SqL _ _ _ _ from .inl (.inr ⟨o, by rw [upd_ne (fun e => by rw [e, hp] at h; cases h)]; exact h⟩)
    · exact show SqL _ _ _ _ from .inr h
  | false =>
    rcases (show SqT K H l xs from h) with (h | ⟨o, h⟩) | h
    · exact show SqT _ _ _ _ from .inl (.inl (by rw [upd_ne (fun e => by rw [e, hp] at h; cases h)]; exact h))
    · exact show SqT _ _ _ _ from .inl (.inr ⟨o, by rw [upd_ne (fun e => by rw [e, hp] at h; cases h)]; exact h⟩)
    · exact show SqT _ _ _ _ from .inr h
theorem SqK.ty {K : PySem.W.Frag} {o : Bool} {H : Hp} {l : Addr} {xs : List V} (h : SqK K o H l xs) : ∃ t : Value, TyX K H (.ref l) t ∧ PySem.W.kitAny K t [.type "list", .type "tuple"] = some true := by
  cases o with
  | true =>
    rcases (show SqL K H l xs from h) with (h | ⟨o, h⟩) | ⟨o, its, n, h1, h2, h3⟩
    · exact ⟨_, .base (.lst h), rfl⟩
    · exact ⟨_, .base (.frz h), rfl⟩
    · exact ⟨_, .kList h1 h2, rfl⟩
  | false =>
    rcases (show SqT K H l xs from h) with (h | ⟨o, h⟩) | ⟨o, its, n, h1, h2, h3⟩
    · exact ⟨_, .base (.tup h), rfl⟩
    · exact ⟨_, .fTuple h, rfl⟩
    · exact ⟨_, .kTuple h1 h2, rfl⟩
def spStuffs (K : PySem.W.Frag) : Sp := fun vs H Q _ => ∃ (l : Addr) (o : Bool) (xs : List V) (ps : List Stf), vs = [.ref l] ∧ SqK K o H l xs ∧ Pairs H xs ps ∧ RuleOk ps ∧ ∀ H', Same H H' → Q (.bl true) H'
def spLongest (K : PySem.W.Frag) : Sp := fun vs H Q _ => ∃ (l : Addr) (o : Bool) (xs : List V) (ps : List Stf), vs = [.ref l] ∧ SqK K o H l xs ∧ Pairs H xs ps ∧ ps.length ≤ 100 ∧ (∀ p ∈ ps, p.1.length ≤ 900) ∧ ∀ H', Same H H' → Q (.int (longL ps)) H'
def oB : Option Bool → V
  | none => .non
  | some b => .str (WS [b])
def spBehind (K : PySem.W.Frag) : Sp := fun vs H Q _ => ∃ (l : Addr) (o : Bool) (xs : List V) (ps : List Stf) (line : List Bool), vs = [.ref l, .str (WS line)] ∧ SqK K o H l xs ∧ Pairs H xs ps ∧ ∀ H', Same H H' → Q (oB (putL ps line)) H'
def spNever (K : PySem.W.Frag) : Sp := fun vs H Q _ => ∃ (l : Addr) (o : Bool) (xs : List V) (ps : List Stf) (line : List Bool), vs = [.ref l, .str (WS line)] ∧ SqK K o H l xs ∧ Pairs H xs ps ∧ RuleOk ps ∧ line.length ≤ 900 ∧ endsIn ps 40 line = true ∧ ∀ H', Same H H' → Q (.bl false) H'
def spEndless (K : PySem.W.Frag) : Sp := fun vs H Q _ => ∃ (l : Addr) (o : Bool) (xs : List V) (ps : List Stf), vs = [.ref l] ∧ SqK K o H l xs ∧ Pairs H xs ps ∧ RuleOk ps ∧ ∀ H', Same H H' → Q (.bl false) H'
/-- a list or a tuple in slot i, walked -/
def iSeqV (K : PySem.W.Frag) (i : Nat) : TI := fun σ H R => ∃ (a : Addr) (o : Bool) (xs : List V), σ[i]? = some (some (.ref a)) ∧ SqK K o H a xs ∧ ∀ J : It, Walk J xs.length (fun H' => SqK K o H' a xs) (YAt xs) → R J H
theorem pi_seq {X : Cx} {tg e : Expr} {i : Nat} (h1 : PI X tg e (iList X.K (tVar i))) (h2 : PI X tg e (iTup X.K (tVar i))) : PI X tg e (iSeqV X.K i) := by
  constructor
  rintro pins s σ H R I ⟨a, o, xs, hσ, ho, k⟩
  cases o with
  | true => exact h1.run pins s σ H R I ⟨_, hσ, a, rfl, ⟨xs, ho⟩, k _ (walk_list.mono (fun H' h => h) fun _ _ _ _ _ _ y => y)⟩
  | false => exact h2.run pins s σ H R I ⟨_, hσ, a, rfl, ⟨xs, ho⟩, k _ (walk_tup.mono (fun H' h => h) fun _ _ _ _ _ _ y => y)⟩
end Own

namespace Own
open PySem PySem.Spec PyProof.Rows L2
theorem pi_or {X : Cx} {tg e : Expr} {w1 w2 : TI} (h1 : PI X tg e w1) (h2 : PI X tg e w2) : PI X tg e (fun σ H R => w1 σ H R ∨ w2 σ H R) :=
  ⟨fun pins s σ H R I h => h.elim (h1.run pins s σ H R I) (h2.run pins s σ H R I)⟩
theorem putL_none {ps : List Stf} {line : List Bool} (h : ∀ p ∈ ps, ¬ p.1 <:+ line) : putL ps line = none := by
  unfold putL
  rw [List.find?_eq_none.mpr fun p hp => by rw [decide_eq_true_eq]; exact h p hp]
  rfl
theorem putL_at {ps : List Stf} {line : List Bool} {i : Nat} {p : Stf} (hi : ps[i]? = some p) (hp : p.1 <:+ line) (h : ∀ j q, j < i → ps[j]? = some q → ¬ q.1 <:+ line) : putL ps line = some p.2 := by
  unfold putL
  induction ps generalizing i with
  | nil => simp at hi
  | cons x r ih =>
    cases i with
    | zero =>
      cases hi
      simp only [List.find?_cons, decide_eq_true hp]
      rfl
    | succ i =>
      have h0 : ¬ x.1 <:+ line := h 0 x (by omega) rfl
      simp only [List.find?_cons, decide_eq_false h0]
      exact ih (i := i) hi fun j q hj e => h (j + 1) q (by omega) e
theorem cut_neg (w : List Bool) {n : Nat} (h : 0 < n) : cutS (WS w) (some (-(n : Int))) none = WS (w.drop (w.length - n)) := by
  have hl : (WS w).length = w.length := WS_len w
  unfold cutS WS
  rw [show (SX.S (w.map cd)).length = w.length from hl, HT.sIx_none]
  have e : HT.sIx w.length 0 (some (-(n : Int))) = w.length - n := by
    show (if (-(n : Int)) < 0 then ((-(n : Int)) + (w.length : Int)).toNat else min (-(n : Int)).toNat w.length) = w.length - n
    rw [if_pos (by omega)]
    omega
  rw [e]
  show (⟨_⟩ : Str) = ⟨_⟩
  congr 1
  rw [List.take_of_length_le]
  · rw [List.map_drop]
  · rw [List.length_drop]
    show (w.map cd).length - _ ≤ _
    rw [List.length_map]
    exact Nat.le_refl _
end Own

namespace Own
open PySem PySem.Spec PyProof.Rows L2
theorem cutV_to (xs : List V) {n : Nat} : cutV xs none (some (n : Int)) = xs.take n := by
  unfold cutV
  rw [HT.sIx_none, show HT.sIx xs.length xs.length (some (n : Int)) = min n xs.length from HT.sIx_nat xs.length xs.length n, List.drop_zero, Nat.sub_zero]
  by_cases h : n ≤ xs.length
  · rw [Nat.min_eq_left h]
  · rw [Nat.min_eq_right (by omega), List.take_length, List.take_of_length_le (by omega)]
theorem strV_take (ws : List (List Bool)) (n : Nat) : (strV ws).take n = strV (ws.take n) := by unfold strV; rw [List.map_take]
theorem strV_drop (ws : List (List Bool)) (n : Nat) : (strV ws).drop n = strV (ws.drop n) := by unfold strV; rw [List.map_drop]
theorem strV_get {ws : List (List Bool)} {i : Nat} {x : V} (h : (strV ws)[i]? = some x) : ∃ w, ws[i]? = some w ∧ x = .str (WS w) := by
  unfold strV at h
  rw [List.getElem?_map] at h
  obtain ⟨w, hw, e⟩ := Option.map_eq_some_iff.mp h
  exact ⟨w, hw, e.symm⟩
theorem all_take_succ {α : Type} {f : α → Bool} {l : List α} {i : Nat} {x : α} (hx : l[i]? = some x) (h : (l.take i).all f = true) (hf : f x = true) : (l.take (i + 1)).all f = true := by
  rw [List.take_add_one, hx, List.all_append, h]
  show (true && (f x && true)) = true
  rw [hf]
  rfl
theorem all_not {α : Type} {f : α → Bool} {l : List α} {i : Nat} {x : α} (hx : l[i]? = some x) (hf : f x = false) : l.all f = false := by
  rw [List.all_eq_false]
  exact ⟨x, List.mem_of_getElem? hx, by rw [hf]; decide⟩
end Own
namespace Own
open PySem PySem.Spec PyProof.Rows L2
/-! ### where bits are put in no more -/
/-- exactly n bits are put in behind this line -/
def endsAt (ps : List Stf) : Nat → List Bool → Prop
  | 0, u => putL ps u = none
  | n + 1, u => ∃ b, putL ps u = some b ∧ endsAt ps n (nextL ps u b)
theorem endsAt_of : ∀ {n : Nat} {ps : List Stf} {u : List Bool}, endsIn ps n u = true → ∃ m, m ≤ n ∧ endsAt ps m u
  | 0, ps, u, h => ⟨0, Nat.le_refl _, by
      unfold endsIn at h
      exact Option.isNone_iff_eq_none.mp h⟩
  | n + 1, ps, u, h => by
    unfold endsIn at h
    cases e : putL ps u with
    | none => exact ⟨0, Nat.zero_le _, e⟩
    | some b =>
      rw [e] at h
      obtain ⟨m, hm, h2⟩ := endsAt_of h
      exact ⟨m + 1, Nat.succ_le_succ hm, b, e, h2⟩
theorem endsAt_one : ∀ {n m : Nat} {ps : List Stf} {u : List Bool}, endsAt ps n u → endsAt ps m u → n = m
  | 0, 0, _, _, _, _ => rfl
  | 0, m + 1, _, _, h, ⟨b, e, _⟩ => by rw [show putL _ _ = none from h] at e; cases e
  | n + 1, 0, _, _, ⟨b, e, _⟩, h => by rw [show putL _ _ = none from h] at e; cases e
  | n + 1, m + 1, _, _, ⟨b, e, h1⟩, ⟨c, e2, h2⟩ => by
    rw [e] at e2
    cases e2
    rw [endsAt_one h1 h2]
theorem foldl_max_le : ∀ (l : List Nat) (a m : Nat), a ≤ m → (∀ x ∈ l, x ≤ m) → l.foldl max a ≤ m
  | [], a, m, h, _ => h
  | x :: r, a, m, h, k => by
    rw [List.foldl_cons]
    exact foldl_max_le r _ m (Nat.max_le.mpr ⟨h, k x List.mem_cons_self⟩) fun y hy => k y (List.mem_cons_of_mem _ hy)
theorem le_foldl_max : ∀ (l : List Nat) (a : Nat), a ≤ l.foldl max a ∧ ∀ x ∈ l, x ≤ l.foldl max a
  | [], a => ⟨Nat.le_refl _, fun x h => by cases h⟩
  | y :: r, a => by
    obtain ⟨h1, h2⟩ := le_foldl_max r (max a y)
    rw [List.foldl_cons]
    refine ⟨Nat.le_trans (Nat.le_max_left _ _) h1, fun x hx => ?_⟩
    rcases List.mem_cons.mp hx with rfl | hx
    · exact Nat.le_trans (Nat.le_max_right _ _) h1
    · exact h2 x hx
theorem longL_le {ps : List Stf} {m : Nat} (h : ∀ p ∈ ps, p.1.length ≤ m) : longL ps ≤ m :=
  foldl_max_le _ _ _ (Nat.zero_le _) fun x hx => by
    obtain ⟨p, hp, rfl⟩ := List.mem_map.mp hx
    exact h p hp
theorem le_longL {ps : List Stf} {p : Stf} (h : p ∈ ps) : p.1.length ≤ longL ps := (le_foldl_max _ _).2 _ (List.mem_map.mpr ⟨p, h, rfl⟩)
theorem putL_some {ps : List Stf} {u : List Bool} {b : Bool} (h : putL ps u = some b) : ∃ p ∈ ps, p.1 <:+ u ∧ p.2 = b := by
  unfold putL at h
  obtain ⟨p, hp, e⟩ := Option.map_eq_some_iff.mp h
  have h1 : (fun p : Stf => decide (p.1 <:+ u)) p = true := List.find?_some (p := fun p : Stf => decide (p.1 <:+ u)) hp
  exact ⟨p, List.mem_of_find?_eq_some hp, of_decide_eq_true h1, e⟩
theorem longL_pos {ps : List Stf} {u : List Bool} {b : Bool} (ok : ∀ p ∈ ps, p.1 ≠ []) (h : putL ps u = some b) : 0 < longL ps := by
  obtain ⟨p, hp, _⟩ := putL_some h
  exact Nat.lt_of_lt_of_le (List.length_pos_iff.mpr (ok p hp)) (le_longL hp)
theorem nextL_len (ps : List Stf) (u : List Bool) (b : Bool) : (nextL ps u b).length ≤ longL ps := by
  unfold nextL
  rw [List.length_drop]
  omega
/-! ### one pattern at most -/
theorem parted_ne {ws : List (List Bool)} (h : partedB ws = true) {i j : Nat} {a b : List Bool} (hi : ws[i]? = some a) (hj : ws[j]? = some b) (hn : i ≠ j) : ¬ b <:+ a := by
  intro hs
  have hil : i < ws.length := (List.getElem?_eq_some_iff.mp hi).1
  have h1 := List.all_eq_true.mp h i (List.mem_range.mpr hil)
  unfold partedAt at h1
  have hg : ws.getD i [] = a := by rw [List.getD_eq_getElem?_getD, hi]; rfl
  rw [hg] at h1
  have hm : b ∈ ws.take i ++ ws.drop (i + 1) := by
    rw [List.mem_append]
    by_cases hlt : j < i
    · exact .inl (List.mem_of_getElem? (i := j) (by rw [List.getElem?_take_of_lt hlt]; exact hj))
    · exact .inr (List.mem_of_getElem? (i := j - (i + 1)) (by rw [List.getElem?_drop, show i + 1 + (j - (i + 1)) = j by omega]; exact hj))
  have h2 := List.all_eq_true.mp h1 b hm
  rw [decide_eq_true hs] at h2
  cases h2
theorem one_match {ps : List Stf} (h : partedB (ps.map (·.1)) = true) {u : List Bool} {p q : Stf} (hp : p ∈ ps) (hq : q ∈ ps) (h1 : p.1 <:+ u) (h2 : q.1 <:+ u) : p = q := by
  obtain ⟨i, hi⟩ := List.getElem?_of_mem hp
  obtain ⟨j, hj⟩ := List.getElem?_of_mem hq
  by_cases e : i = j
  · subst e
    rw [hi] at hj
    exact Option.some.inj hj
  · have mi : (ps.map (·.1))[i]? = some p.1 := by rw [List.getElem?_map, hi]; rfl
    have mj : (ps.map (·.1))[j]? = some q.1 := by rw [List.getElem?_map, hj]; rfl
    rcases Nat.le_total p.1.length q.1.length with hl | hl
    · exact absurd (List.suffix_of_suffix_length_le h1 h2 hl) (parted_ne h mj mi fun z => e z.symm)
    · exact absurd (List.suffix_of_suffix_length_le h2 h1 hl) (parted_ne h mi mj e)
theorem putL_eq {ps : List Stf} (h : partedB (ps.map (·.1)) = true) {u : List Bool} {p : Stf} (hp : p ∈ ps) (h1 : p.1 <:+ u) : putL ps u = some p.2 := by
  cases e : putL ps u with
  | none =>
    unfold putL at e
    rw [Option.map_eq_none_iff, List.find?_eq_none] at e
    exact absurd (decide_eq_true h1) (e p hp)
  | some b =>
    obtain ⟨q, hq, h2, rfl⟩ := putL_some e
    rw [one_match h hp hq h1 h2]
theorem putL_perm {ps qs : List Stf} (h : partedB (ps.map (·.1)) = true) (pm : qs.Perm ps) (u : List Bool) : putL qs u = putL ps u := by
  cases e : putL qs u with
  | none =>
    symm
    apply putL_none
    intro p hp hs
    unfold putL at e
    rw [Option.map_eq_none_iff, List.find?_eq_none] at e
    exact e p (pm.mem_iff.mpr hp) (decide_eq_true hs)
  | some b =>
    obtain ⟨q, hq, h2, rfl⟩ := putL_some e
    exact (putL_eq h (pm.mem_iff.mp hq) h2).symm
theorem sortP_perm (ps : List Stf) : (sortP ps).Perm ps := List.mergeSort_perm _ _
/-! ### a rule that stands -/
def rlf (flag : List Bool) (t : Addr) : List (Str × V) := [("flag", .str (WS flag)), ("stuffs", .ref t)]
def RlAt (C : Addr) (H : Hp) (p : Addr) (flag : List Bool) (ps : List Stf) : Prop := ∃ dx t xs, H p = some (.ins C dx (rlf flag t)) ∧ H t = some (.tup xs) ∧ Pairs H xs ps
theorem RlAt.kp {C p : Addr} {H H' : Hp} {flag : List Bool} {ps : List Stf} (k : Kp H H') (h : RlAt C H p flag ps) : RlAt C H' p flag ps := by
  obtain ⟨dx, t, xs, h1, h2, h3⟩ := h
  exact ⟨dx, t, xs, k _ _ h1 trivial, k _ _ h2 trivial, h3.kp k⟩
theorem rlf_flag (flag : List Bool) (t : Addr) : (rlf flag t).lookup ("flag" : Str) = some (.str (WS flag)) := rfl
theorem rlf_stuffs (flag : List Bool) (t : Addr) : (rlf flag t).lookup ("stuffs" : Str) = some (.ref t) := by
  unfold rlf
  rw [List.lookup_cons, show (("stuffs" : Str) == "flag") = false by decide +kernel]
  rfl
theorem rlf_no {flag : List Bool} {t : Addr} {m : Str} (h1 : (m == "flag") = false) (h2 : (m == "stuffs") = false) : (rlf flag t).lookup m = none := by
  unfold rlf
  rw [List.lookup_cons, h1, List.lookup_cons, h2]
  rfl
structure RlT (K : PySem.W.Frag) (C : Addr) : Prop where
  cl : Cls K C
  nF : NoAttr K C "flag"
  nS : NoAttr K C "stuffs"
def spRInit (K : PySem.W.Frag) (C : Addr) : Sp := fun vs H Q _ => ∃ (p dx l : Addr) (o : Bool) (flag : List Bool) (xs : List V) (ps : List Stf), vs = [.ref p, .str (WS flag), .ref l] ∧ 2 ≤ flag.length ∧ flag.length ≤ 900 ∧ SqK K o H l xs ∧ Pairs H xs ps ∧ RuleOk ps ∧ H p = some (.ins C dx []) ∧
  ∀ H', RlAt C H' p flag (sortP ps) → (∀ a o, H a = some o → a ≠ p → H' a = some o) → Q .non H'
def spPut (C : Addr) : Sp := fun vs H Q _ => ∃ (p : Addr) (flag : List Bool) (ps : List Stf) (line : List Bool), vs = [.ref p, .str (WS line)] ∧ RlAt C H p flag ps ∧ ∀ H', Same H H' → Q (oB (putL ps line)) H'
end Own

set_option Elab.async false
set_option linter.all false
set_option maxRecDepth 100000
set_option maxHeartbeats 2000000
/-! enumerate(tuple); enumerate of a list or a tuple -/
namespace Own
open PySem PySem.Spec PyProof.Rows L2
open Sem (wp)
open AutoSeq1 (wpAny_loadPart')
theorem meets_enumerate_newT (l : Addr) (items : Array Value) (n : Nat) (dct : Option Addr) (sl : Array (Option Value)) :
    Meets (Builtin.«enumerate.__new__» ⟨[.type "enumerate", .ref l], []⟩) (fun _ R s => s.heap.get? l = some { cls := .type "tuple", dict := dct, data := .seq items n, slots := sl } ∧
      R (.ok (.ret (.ref (s.heap.push { cls := .type "tuple_iterator", data := .fields #[.ref l, .int 0 0] }).objs.size)))
        { s with heap := (s.heap.push { cls := .type "tuple_iterator", data := .fields #[.ref l, .int 0 0] }).push { cls := .type "enumerate", data := .fields #[.none, .bool false, .ref s.heap.objs.size, rawInt 0, .none, .none] } }) :=
  .of_wp fun prog w A R s h => by
    obtain ⟨hp, g, d, tk, os⟩ := s; obtain ⟨hl, h⟩ := h
    have hsub := sub_enumerate
    have hL : Heap.IsTuple (Shared.heap ⟨hp, g, d, tk, os⟩) l items := ⟨_, hl, rfl, n, rfl⟩
    wp_walk using wpAny_loadPart' hl
    refine wpAny_stack_any fun st => wpAny_pure ?_
    split
    · rename_i c _ _ _ _ _
      cases (c == Value.type "enumerate")
      · wp_walk using wpAny_loadPart' hl, wpAny_pyIter_tuple hL
        exact ⟨_, rfl, h⟩
      · wp_walk using wpAny_loadPart' hl, wpAny_pyIter_tuple hL
        exact ⟨_, rfl, h⟩
    · wp_walk using wpAny_loadPart' hl, wpAny_pyIter_tuple hL
      exact ⟨_, rfl, h⟩
section
variable {prog : Program} {w : World} {A : Around} {E : Value → Shared → Prop} {s : Shared}
theorem call_enumerate_tuple {l : Addr} {items : Array Value} {Q : Value → Shared → Prop} (hL : s.heap.IsTuple l items)
    (h : ∀ h', IsEnum h' (s.heap.objs.size + 1) s.heap.objs.size 0 .none → h'.IsTupleIter s.heap.objs.size l 0 → h'.objs.size = s.heap.objs.size + 2 →
      (∀ b o, s.heap.get? b = some o → h'.get? b = some o) → Q (.ref (s.heap.objs.size + 1)) { s with heap := h' }) :
    wpAny (model prog w) A (call (.type "enumerate") [.ref l]) Q E s := by
  obtain ⟨⟨c, dct, dt, sl⟩, hl, hc, n, hd⟩ := hL
  replace hc : c = .type "tuple" := hc
  replace hd : dt = .seq items n := hd
  subst hc hd
  refine callType_new F.called_enumerate (by decide) (F.typeCall_enumerate_1 _) (F.newCall_enumerate_1 _) (fun obj => F.args_object_init_2 obj _) F.entry_enumerate_new
    (meets_enumerate_newT l items n dct sl) ⟨hl, ?_⟩
  have hz : (s.heap.push { cls := .type "tuple_iterator", data := .fields #[.ref l, .int 0 0] }).objs.size = s.heap.objs.size + 1 := Heap.size_push ..
  show _ ∧ _
  rw [hz]
  have he : IsEnum ((s.heap.push { cls := .type "tuple_iterator", data := .fields #[.ref l, .int 0 0] }).push
      { cls := .type "enumerate", data := .fields #[.none, .bool false, .ref s.heap.objs.size, rawInt 0, .none, .none] }) (s.heap.objs.size + 1) s.heap.objs.size 0 .none := by
    have := Heap.get?_push_size (s.heap.push { cls := .type "tuple_iterator", data := .fields #[.ref l, .int 0 0] })
      (o := { cls := .type "enumerate", data := .fields #[.none, .bool false, .ref s.heap.objs.size, rawInt 0, .none, .none] }) rfl
    rw [hz] at this; exact this
  refine ⟨⟨_, he, rfl⟩, h _ he ⟨_, Heap.get?_push_of_some _ (Heap.get?_push_size _ rfl), rfl, rfl⟩ (by rw [Heap.size_push, hz]) fun b o x => Heap.get?_push_of_some _ (Heap.get?_push_of_some _ x)⟩
end
/-- the tuple at a as it stands at each turn, each item in a new pair -/
def IteT (K : PySem.W.Frag) (a : Addr) (N : Nat) : It :=
  ⟨fun i H => ∃ (xs : List V) (x : V), SqT K H a xs ∧ xs[i]? = some x ∧ xs.length = N, fun i H v H' => ∃ T x, v = V.ref T ∧ H T = none ∧ H' = upd H T (.tup [.int (i : Nat), x]) ∧ ∀ xs, SqT K H a xs → xs[i]? = some x, fun i H => ∃ xs : List V, SqT K H a xs ∧ xs.length ≤ i ∧ xs.length = N⟩
theorem turn_enumT {P : Program} {w : World} {K : PySem.W.Frag} {elts : List Expr} {kk : Nat} {tpos : Pos} (a e it : Addr) (N : Nat) :
    Turn P w K (.Tuple elts kk tpos) (IteT K a N) [e, it] e (fun i h => i ≤ N ∧ (∃ old, IsEnum h e it ((0 : Int) + (i : Nat)) old) ∧ h.IsTupleIter it a i ∧ e ≠ it ∧ a ≠ e ∧ a ≠ it) where
  mem := by simp
  obj := fun i h st b hb => by
    obtain ⟨_, ⟨old, he⟩, ⟨o, ho, hc, hd⟩, _⟩ := st
    have e' : b = e ∨ b = it := by simpa using hb
    rcases e' with z | z
    · rw [z]; exact ⟨_, he, fun v q => nomatch q⟩
    · rw [z]; exact ⟨o, ho, fun v q => by rw [hd] at q; cases q⟩
  keep := fun i h h' st k => let ⟨hN, ⟨old, he⟩, hi, hne⟩ := st; ⟨hN, ⟨old, k e (by simp) _ he⟩, hi.at fun o q => k it (by simp) o q, hne⟩
  item := by
    intro X hP hw hK hc i pins s σ H E I hf st hg
    subst hP hw hK
    obtain ⟨hN, ⟨old, he⟩, hit, h1, h2, h3⟩ := st
    obtain ⟨xs, x, hq, hx, hxN⟩ := hg
    obtain ⟨its, rv, p, hz⟩ := I.tuple hq
    obtain ⟨u, hu, ru⟩ := rv.get hx
    have hel : e < s.heap.objs.size := Heap.lt_size he
    have hil : it < s.heap.objs.size := by obtain ⟨_, q, _⟩ := hit; exact Heap.lt_size q
    have hin : i < its.toArray.size := by
      rw [List.size_toArray]
      exact (List.getElem?_eq_some_iff.mp hu).1
    have W := GoesN.enumFrom (elts := elts) (x1 := kk) (pos := tpos) 0 (Draws.tuple (prog := X.prog) (w := X.w) (A := X.A.in1) (show X.A.in1.handled = none from I.ok.hd hc) it a h3 its.toArray) e h1 (by simp [h1, h2.symm]) (by simp)
    refine wpAny_mono (W.goes i s (fun u s2 => ∃ x H', Inv X pins σ H' s2 ∧ RelV x u ∧ (IteT X.K a N).yld i H x H' ∧ (i + 1 ≤ N ∧ (∃ old, IsEnum s2.heap e it ((0 : Int) + ((i + 1 : Nat) : Int)) old) ∧ s2.heap.IsTupleIter it a (i + 1) ∧ e ≠ it ∧ a ≠ e ∧ a ≠ it) ∧ ∀ b ∈ [e, it], H' b = none) E hin ⟨⟨old, he⟩, hit, p⟩ fun v h' tk hY st' hk htk => ?_) (fun r s1 q => q) fun _ _ q => q
    obtain ⟨T, t, x', ev, hT, px, isT⟩ := hY
    have ex : x' = u := by
      have : its[i]? = some x' := by simpa using px
      rw [hu] at this
      exact (Option.some.inj this).symm
    subst ex
    obtain ⟨oT, gT, cT, nT, dT⟩ := isT
    have new : ObjOk X.prog X.w (upd H T (.tup [.int (i : Nat), x])) h' T (.tup [.int (i : Nat), x]) :=
      ⟨by show 2 ≤ sizeLine; decide, [.int ((0 : Int) + (i : Int)) t, x'], .cons ⟨t, by rw [Int.zero_add]⟩ (.cons ru .nil), ⟨oT, gT, cT, nT, dT⟩⟩
    have I1 := I.turnedNew (t' := tk) (ch := [e, it]) hk (fun b hb => hf b hb) hT new
    refine ⟨.ref T, _, I1, ev ▸ rfl, ⟨T, x, rfl, I.hok.fresh hT, rfl, fun ys hy => by rw [I.tuple_inj hy hq]; exact hx⟩, ⟨by have := (List.getElem?_eq_some_iff.mp hx).1; omega, st'.1, st'.2.1, h1, h2, h3⟩, fun b hb => ?_⟩
    have hb' : b < s.heap.objs.size := by
      have e' : b = e ∨ b = it := by simpa using hb
      rcases e' with z | z
      · rw [z]; exact hel
      · rw [z]; exact hil
    rw [upd_ne (Nat.ne_of_lt (Nat.lt_of_lt_of_le hb' hT))]
    exact (hf b hb).1
  done := by
    intro X hP hw hK hc i pins s σ H E I hf st hg
    subst hP hw hK
    obtain ⟨hN, ⟨old, he⟩, hit, h1, h2, h3⟩ := st
    obtain ⟨xs, hq, hx, hxN⟩ := hg
    obtain ⟨its, rv, p, hz⟩ := I.tuple hq
    have W := GoesN.enumFrom (elts := elts) (x1 := kk) (pos := tpos) 0 (Draws.tuple (prog := X.prog) (w := X.w) (A := X.A.in1) (show X.A.in1.handled = none from I.ok.hd hc) it a h3 its.toArray) e h1 (by simp [h1, h2.symm]) (by simp)
    have hl := rv.length
    have ei : i = its.toArray.size := by
      rw [List.size_toArray]
      omega
    subst ei
    exact W.stops s (fun s1 => Inv X pins σ H s1) E ⟨⟨old, he⟩, hit, p⟩ fun h' tk hk htk => I.turnedL (t' := tk) (ch := [e, it]) hk fun b hb => hf b hb
  self := fun A i s Q E st h => by
    obtain ⟨_, ⟨_, he⟩, _⟩ := st
    exact wpAny_pyIter_enum he h
def iEnumT (K : PySem.W.Frag) (ta : TA) : TI := fun σ H R => ta σ H fun vs H1 => ∃ a xs, vs = [.ref a] ∧ SqT K H1 a xs ∧ R (IteT K a xs.length) H1
/-- for i, a in enumerate(tuple) -/
theorem pi_enumT {X : Cx} {e1 : Expr} {ta : TA} {np cp tp : Pos} {elts : List Expr} {kk : Nat} (hg : Gl X "enumerate") (hm : X.mg "enumerate" = none) (ha : PA X [e1] ta)
    (se : starEach [e1] X.env = (false, eval e1 X.env) :: starEach [] X.env := by rfl) (pl : (backTo cp (starEach [] X.env)).any (·.1) = false := by rfl) :
    PI X (.Tuple elts kk tp) (.Call (.Name "enumerate" np) [e1] [] cp) (iEnumT X.K ta) := by
  constructor
  intro pins s σ H R I h
  refine Call_ (ld_blt I hg hm PyProof.Rows.boot_enumerate (PyProof.Rows.callWith_type1 (thn (ha.run cp pins s σ H _ I h) ?_) se pl))
  rintro us s1 ⟨vs, H1, I1, r1, a, xs, rfl, hq, q⟩
  match us, r1 with
  | [u1], .cons ra .nil =>
    cases (show u1 = Value.ref a from ra)
    obtain ⟨its, rv, p1, hz⟩ := I1.tuple hq
    have lt : a < s1.heap.objs.size := by obtain ⟨o, ho, _⟩ := p1; exact Heap.lt_size ho
    refine call_enumerate_tuple p1 fun h' he hit hsz hk => wpAny_pyIter_enum he ?_
    have I2 : Inv X pins σ H1 { s1 with heap := h' } := I1.kept (t' := s1.toks) hk
    refine ⟨s1.heap.objs.size + 1, [s1.heap.objs.size + 1, s1.heap.objs.size], _, _, H1, rfl, I2, turn_enumT a (s1.heap.objs.size + 1) s1.heap.objs.size xs.length, ⟨Nat.zero_le _, ⟨.none, he⟩, hit, Nat.succ_ne_self _, Nat.ne_of_lt (Nat.lt_succ_of_lt lt), Nat.ne_of_lt lt⟩, fun b hb => ?_, q⟩
    have e' : b = s1.heap.objs.size + 1 ∨ b = s1.heap.objs.size := by simpa using hb
    have hle : s1.heap.objs.size ≤ b := by
      rcases e' with z | z
      · rw [z]; exact Nat.le_add_right _ _
      · rw [z]; exact Nat.le_refl _
    exact I1.fpOk hle (I1.hok.fresh hle)
theorem walk_enumT {K : PySem.W.Frag} {a : Addr} {xs : List V} : Walk (IteT K a xs.length) xs.length (fun H => SqT K H a xs) (YPair (fun i => some (.int (i : Nat))) (fun i => xs[i]?)) := by
  refine ⟨fun i _ hi q => ⟨xs, xs[i], q, by simp [hi], rfl⟩, fun _ q => ⟨xs, q, Nat.le_refl _, rfl⟩, fun i H v H' _ q y => ?_⟩
  obtain ⟨T, x, h1, h2, h3, h4⟩ := y
  exact ⟨T, .int (i : Nat), x, h1, h2, h3, rfl, h4 xs q⟩
/-- enumerate of a list or a tuple in slot i -/
def iEnumSeq (K : PySem.W.Frag) (i : Nat) : TI := fun σ H R => ∃ (a : Addr) (o : Bool) (xs : List V), σ[i]? = some (some (.ref a)) ∧ SqK K o H a xs ∧ ∀ J : It, Walk J xs.length (fun H' => SqK K o H' a xs) (YPair (fun i => some (.int (i : Nat))) (fun i => xs[i]?)) → R J H
theorem pi_enumSeq {X : Cx} {tg e : Expr} {i : Nat} (h1 : PI X tg e (iEnum X.K (tCons (tVar i) tNil))) (h2 : PI X tg e (iEnumT X.K (tCons (tVar i) tNil))) : PI X tg e (iEnumSeq X.K i) := by
  constructor
  rintro pins s σ H R I ⟨a, o, xs, hσ, ho, k⟩
  cases o with
  | true => exact h1.run pins s σ H R I ⟨_, hσ, a, xs, rfl, ho, k _ walk_enum⟩
  | false => exact h2.run pins s σ H R I ⟨_, hσ, a, xs, rfl, ho, k _ walk_enumT⟩
end Own

set_option Elab.async false
set_option linter.all false
set_option maxRecDepth 100000
set_option maxHeartbeats 4000000
namespace Own
open PySem PySem.Spec PyProof.Rows L2
/-! ### the law's own search, and what it tells -/
def last5 (u : List Bool) : List Bool := u.drop (u.length - 5)
def putsN (ps : List Stf) : Nat → List Bool → List Bool
  | 0, u => u
  | n + 1, u => putsN ps n (match putL ps u with | some b => u ++ [b] | none => u)
/-- one message, followed from standing to standing: nowhere more than twenty bits at once -/
def simF (ps : List Stf) : List Bool → List Bool → Bool
  | [], _ => true
  | b :: m, s => decide ((putsN ps 24 (s ++ [b])).length ≤ s.length + 20) && simF ps m (last5 (putsN ps 24 (s ++ [b])))
/-- the standings are closed under one bit more -/
def Closed (ps : List Stf) (K : List Bool → Prop) : Prop := K [] ∧ ∀ s, K s → ∀ b : Bool, (putsN ps 24 (s ++ [b])).length ≤ s.length + 20 ∧ K (last5 (putsN ps 24 (s ++ [b])))
theorem sim_closed {ps : List Stf} {K : List Bool → Prop} (h : Closed ps K) : ∀ (m s : List Bool), K s → simF ps m s = true
  | [], _, _ => rfl
  | b :: m, s, hs => by
    obtain ⟨h1, h2⟩ := h.2 s hs b
    unfold simF
    rw [decide_eq_true h1, Bool.true_and]
    exact sim_closed h m _ h2
def small : List Stf := ((wordsL 1 ++ wordsL 2 ++ wordsL 3 ++ wordsL 4).map fun w => [(w, false), (w, true)]).flatten
def rowAt (i : Nat) : List (List Stf) := small.map fun y => [small.getD i ([], false), y]
def sound (ps : List Stf) : Bool := endsAll ps || !(partedB (ps.map (·.1))) || !((wordsL 4).all fun m => simF ps m [])
theorem sound_0 : sound [] = true := by decide +kernel
theorem sound_1 : (small.map fun x => [x]).all sound = true := by decide +kernel
theorem row_0 : (rowAt 0).all sound = true := by decide +kernel
theorem row_1 : (rowAt 1).all sound = true := by decide +kernel
theorem row_2 : (rowAt 2).all sound = true := by decide +kernel
theorem row_3 : (rowAt 3).all sound = true := by decide +kernel
theorem row_4 : (rowAt 4).all sound = true := by decide +kernel
theorem row_5 : (rowAt 5).all sound = true := by decide +kernel
theorem row_6 : (rowAt 6).all sound = true := by decide +kernel
theorem row_7 : (rowAt 7).all sound = true := by decide +kernel
theorem row_8 : (rowAt 8).all sound = true := by decide +kernel
theorem row_9 : (rowAt 9).all sound = true := by decide +kernel
theorem row_10 : (rowAt 10).all sound = true := by decide +kernel
theorem row_11 : (rowAt 11).all sound = true := by decide +kernel
theorem row_12 : (rowAt 12).all sound = true := by decide +kernel
theorem row_13 : (rowAt 13).all sound = true := by decide +kernel
theorem row_14 : (rowAt 14).all sound = true := by decide +kernel
theorem row_15 : (rowAt 15).all sound = true := by decide +kernel
theorem row_16 : (rowAt 16).all sound = true := by decide +kernel
theorem row_17 : (rowAt 17).all sound = true := by decide +kernel
theorem row_18 : (rowAt 18).all sound = true := by decide +kernel
theorem row_19 : (rowAt 19).all sound = true := by decide +kernel
theorem row_20 : (rowAt 20).all sound = true := by decide +kernel
theorem row_21 : (rowAt 21).all sound = true := by decide +kernel
theorem row_22 : (rowAt 22).all sound = true := by decide +kernel
theorem row_23 : (rowAt 23).all sound = true := by decide +kernel
theorem row_24 : (rowAt 24).all sound = true := by decide +kernel
theorem row_25 : (rowAt 25).all sound = true := by decide +kernel
theorem row_26 : (rowAt 26).all sound = true := by decide +kernel
theorem row_27 : (rowAt 27).all sound = true := by decide +kernel
theorem row_28 : (rowAt 28).all sound = true := by decide +kernel
theorem row_29 : (rowAt 29).all sound = true := by decide +kernel
theorem row_30 : (rowAt 30).all sound = true := by decide +kernel
theorem row_31 : (rowAt 31).all sound = true := by decide +kernel
theorem row_32 : (rowAt 32).all sound = true := by decide +kernel
theorem row_33 : (rowAt 33).all sound = true := by decide +kernel
theorem row_34 : (rowAt 34).all sound = true := by decide +kernel
theorem row_35 : (rowAt 35).all sound = true := by decide +kernel
theorem row_36 : (rowAt 36).all sound = true := by decide +kernel
theorem row_37 : (rowAt 37).all sound = true := by decide +kernel
theorem row_38 : (rowAt 38).all sound = true := by decide +kernel
theorem row_39 : (rowAt 39).all sound = true := by decide +kernel
theorem row_40 : (rowAt 40).all sound = true := by decide +kernel
theorem row_41 : (rowAt 41).all sound = true := by decide +kernel
theorem row_42 : (rowAt 42).all sound = true := by decide +kernel
theorem row_43 : (rowAt 43).all sound = true := by decide +kernel
theorem row_44 : (rowAt 44).all sound = true := by decide +kernel
theorem row_45 : (rowAt 45).all sound = true := by decide +kernel
theorem row_46 : (rowAt 46).all sound = true := by decide +kernel
theorem row_47 : (rowAt 47).all sound = true := by decide +kernel
theorem row_48 : (rowAt 48).all sound = true := by decide +kernel
theorem row_49 : (rowAt 49).all sound = true := by decide +kernel
theorem row_50 : (rowAt 50).all sound = true := by decide +kernel
theorem row_51 : (rowAt 51).all sound = true := by decide +kernel
theorem row_52 : (rowAt 52).all sound = true := by decide +kernel
theorem row_53 : (rowAt 53).all sound = true := by decide +kernel
theorem row_54 : (rowAt 54).all sound = true := by decide +kernel
theorem row_55 : (rowAt 55).all sound = true := by decide +kernel
theorem row_56 : (rowAt 56).all sound = true := by decide +kernel
theorem row_57 : (rowAt 57).all sound = true := by decide +kernel
theorem row_58 : (rowAt 58).all sound = true := by decide +kernel
theorem row_59 : (rowAt 59).all sound = true := by decide +kernel
theorem rows : ∀ i, i < 60 → (rowAt i).all sound = true
  | 0, _ => row_0
  | 1, _ => row_1
  | 2, _ => row_2
  | 3, _ => row_3
  | 4, _ => row_4
  | 5, _ => row_5
  | 6, _ => row_6
  | 7, _ => row_7
  | 8, _ => row_8
  | 9, _ => row_9
  | 10, _ => row_10
  | 11, _ => row_11
  | 12, _ => row_12
  | 13, _ => row_13
  | 14, _ => row_14
  | 15, _ => row_15
  | 16, _ => row_16
  | 17, _ => row_17
  | 18, _ => row_18
  | 19, _ => row_19
  | 20, _ => row_20
  | 21, _ => row_21
  | 22, _ => row_22
  | 23, _ => row_23
  | 24, _ => row_24
  | 25, _ => row_25
  | 26, _ => row_26
  | 27, _ => row_27
  | 28, _ => row_28
  | 29, _ => row_29
  | 30, _ => row_30
  | 31, _ => row_31
  | 32, _ => row_32
  | 33, _ => row_33
  | 34, _ => row_34
  | 35, _ => row_35
  | 36, _ => row_36
  | 37, _ => row_37
  | 38, _ => row_38
  | 39, _ => row_39
  | 40, _ => row_40
  | 41, _ => row_41
  | 42, _ => row_42
  | 43, _ => row_43
  | 44, _ => row_44
  | 45, _ => row_45
  | 46, _ => row_46
  | 47, _ => row_47
  | 48, _ => row_48
  | 49, _ => row_49
  | 50, _ => row_50
  | 51, _ => row_51
  | 52, _ => row_52
  | 53, _ => row_53
  | 54, _ => row_54
  | 55, _ => row_55
  | 56, _ => row_56
  | 57, _ => row_57
  | 58, _ => row_58
  | 59, _ => row_59
  | _ + 60, h => absurd h (by omega)
theorem mem_small {p : Stf} (h1 : p.1 ≠ []) (h2 : p.1.length ≤ 4) : p ∈ small := by
  unfold small
  rw [List.mem_flatten]
  obtain ⟨w, b⟩ := p
  have h0 : 0 < w.length := List.length_pos_iff.mpr h1
  refine ⟨[(w, false), (w, true)], List.mem_map.mpr ⟨w, ?_, rfl⟩, by cases b <;> simp⟩
  simp only [List.mem_append, mem_wordsL]
  simp at h2
  omega
theorem small_len : small.length = 60 := by decide +kernel
theorem all_sound {ps : List Stf} (hl : ps.length ≤ 2) (h : ∀ p ∈ ps, p.1 ≠ [] ∧ p.1.length ≤ 4) : sound ps = true := by
  match ps, hl, h with
  | [], _, _ => exact sound_0
  | [x], _, h =>
    have := mem_small (h x List.mem_cons_self).1 (h x List.mem_cons_self).2
    exact List.all_eq_true.mp sound_1 _ (List.mem_map.mpr ⟨x, this, rfl⟩)
  | [x, y], _, h =>
    have hx := mem_small (h x List.mem_cons_self).1 (h x List.mem_cons_self).2
    have hy := mem_small (h y (List.mem_cons_of_mem _ List.mem_cons_self)).1 (h y (List.mem_cons_of_mem _ List.mem_cons_self)).2
    obtain ⟨i, hi⟩ := List.getElem?_of_mem hx
    have hlt : i < 60 := by rw [← small_len]; exact (List.getElem?_eq_some_iff.mp hi).1
    refine List.all_eq_true.mp (rows i hlt) _ (List.mem_map.mpr ⟨y, hy, ?_⟩)
    rw [List.getD_eq_getElem?_getD, hi]
    rfl
  | _ :: _ :: _ :: _, hl, _ => exact absurd hl (by simp)
/-- the law's search found nothing endless: then nothing is endless -/
theorem rule_ok {ps : List Stf} {K : List Bool → Prop} (hl : ps.length ≤ 2) (h : ∀ p ∈ ps, p.1 ≠ [] ∧ p.1.length ≤ 4) (hp : partedB (ps.map (·.1)) = true) (hc : Closed ps K) : RuleOk ps := by
  refine ⟨fun p hp => (h p hp).1, fun p hp => Nat.le_trans (h p hp).2 (by decide), by omega, hp, ?_⟩
  have := all_sound hl h
  unfold sound at this
  have hs : ((wordsL 4).all fun m => simF ps m []) = true := List.all_eq_true.mpr fun m _ => sim_closed hc m [] hc.1
  rw [hp, hs] at this
  simpa using this
end Own

set_option Elab.async false
set_option linter.all false
set_option maxRecDepth 100000
set_option maxHeartbeats 4000000
namespace Own
open PySem PySem.Spec PyProof.Rows L2
/-! ### promises of the law's own rules -/
def spWord2 : Sp := fun vs H Q _ => ∃ (b : Addr) (few many : Int), vs = [.ref b, .int few, .int many] ∧ BoxAt H b ∧ 0 ≤ few ∧ few ≤ many ∧ many ≤ 400 ∧ ∀ (z : List Bool) H', few ≤ (z.length : Int) → (z.length : Int) ≤ many → BoxAt H' b → Off b H H' → Q (.str (WS z)) H'
/-- the law's rule: a flag and a list of pairs -/
def RuAt (H : Hp) (t : Addr) (flag : List Bool) (ps : List Stf) : Prop := ∃ l xs, H t = some (.tup [.str (WS flag), .ref l]) ∧ H l = some (.lst xs) ∧ Pairs H xs ps
def oS : Option Bool → V
  | none => .str ""
  | some b => .str (WS [b])
def spLPut : Sp := fun vs H Q _ => ∃ (t : Addr) (flag : List Bool) (ps : List Stf) (line : List Bool), vs = [.ref t, .str (WS line)] ∧ RuAt H t flag ps ∧ ps.length ≤ 100 ∧ (∀ p ∈ ps, p.1.length ≤ 900) ∧ line.length ≤ 900 ∧ ∀ H', Same H H' → Q (oS (putL ps line)) H'
/-- the law's search ends well -/
def Fill (ps : List Stf) : Prop := ∃ G, Closed ps G
def spIsRule : Sp := fun vs H Q _ => ∃ (t : Addr) (flag : List Bool) (ps : List Stf), vs = [.ref t] ∧ RuAt H t flag ps ∧ ps.length ≤ 2 ∧ (∀ p ∈ ps, p.1 ≠ [] ∧ p.1.length ≤ 4) ∧ ∀ (r : Bool) H', Same H H' → (r = true → RuleOk ps ∧ Fill ps) → Q (.bl r) H'
theorem RuAt.same {H H' : Hp} {t : Addr} {flag : List Bool} {ps : List Stf} (s : Same H H') (h : RuAt H t flag ps) : RuAt H' t flag ps := by
  obtain ⟨l, xs, h1, h2, h3⟩ := h
  exact ⟨l, xs, s _ _ h1, s _ _ h2, h3.kp (kp_same s)⟩
theorem strOk_WS (w : List Bool) : PyData.strOk (WS w) = true := by
  show ((w.map cd).toArray.all (· < 0x110000)) = true
  rw [← Array.all_toList, List.all_eq_true]
  intro x hx
  obtain ⟨b, _, rfl⟩ := List.mem_map.mp (show x ∈ w.map cd from hx)
  cases b <;> rfl
theorem canLay_strs : ∀ ws : List (List Bool), PyData.canLayAll0 (ws.map fun w => PyData.str (WS w)) = true
  | [] => rfl
  | w :: r => by
    show (PyData.canLay0 (.str (WS w)) && PyData.canLayAll0 (r.map fun w => PyData.str (WS w))) = true
    rw [canLay_strs r, Bool.and_true]
    exact strOk_WS w
theorem depth_strs : ∀ ws : List (List Bool), PyData.depthAll (ws.map fun w => PyData.str (WS w)) = 0
  | [] => rfl
  | w :: r => by
    show max (PyData.depth (.str (WS w))) (PyData.depthAll (r.map fun w => PyData.str (WS w))) = 0
    rw [depth_strs r]
    rfl
theorem dpAll_strs {K : PySem.W.Frag} {H : Hp} : ∀ ws : List (List Bool), DpAll K H (strV ws) (ws.map fun w => PyData.str (WS w))
  | [] => .nil
  | w :: r => .cons (.str _) (dpAll_strs r)
theorem shaped_strs (ws : List (List Bool)) : SeqAt.shaped (.list (ws.map fun w => PyData.str (WS w))) = true := by
  unfold SeqAt.shaped
  rw [Bool.and_eq_true, decide_eq_true_eq]
  refine ⟨canLay_strs ws, ?_⟩
  show PyData.depthAll _ + 1 ≤ 64
  rw [depth_strs]
  decide
def hdS : List (List Bool) → V
  | [] => .str ""
  | u :: _ => .str (WS u)
theorem eqv_nil (ds : List PyData) : PyData.eqv (.list ds) (.list []) = ds.isEmpty := by
  cases ds <;> rfl
end Own

namespace Own
open PySem PySem.Spec PyProof.Rows L2
def stepP (ps : List Stf) (u : List Bool) : List Bool := match putL ps u with | some b => u ++ [b] | none => u
theorem putsN_zero (ps : List Stf) (u : List Bool) : putsN ps 0 u = u := rfl
theorem putsN_succ (ps : List Stf) : ∀ (n : Nat) (u : List Bool), putsN ps (n + 1) u = stepP ps (putsN ps n u)
  | 0, u => rfl
  | n + 1, u => by
    show putsN ps (n + 1) (stepP ps u) = stepP ps (putsN ps n (stepP ps u))
    exact putsN_succ ps n _
theorem stepP_len (ps : List Stf) (u : List Bool) : (stepP ps u).length ≤ u.length + 1 := by
  unfold stepP
  split
  · simp
  · omega
theorem putsN_len (ps : List Stf) : ∀ (n : Nat) (u : List Bool), (putsN ps n u).length ≤ u.length + n
  | 0, u => Nat.le_refl _
  | n + 1, u => by
    rw [putsN_succ]
    have := stepP_len ps (putsN ps n u)
    have := putsN_len ps n u
    omega
theorem last5_len (u : List Bool) : (last5 u).length ≤ 5 := by
  unfold last5
  rw [List.length_drop]
  omega
theorem partedB_of {ws : List (List Bool)} (h : ∀ (i j : Nat) (a b : List Bool), ws[i]? = some a → ws[j]? = some b → i ≠ j → ¬ b <:+ a) : partedB ws = true := by
  unfold partedB
  rw [List.all_eq_true]
  intro i hi
  rw [List.mem_range] at hi
  unfold partedAt
  rw [List.all_eq_true]
  intro o ho
  have hg : ws[i]? = some (ws.getD i []) := by
    rw [List.getD_eq_getElem?_getD, List.getElem?_eq_getElem hi]
    rfl
  rw [List.mem_append] at ho
  have hn : ¬ o <:+ ws.getD i [] := by
    rcases ho with ho | ho
    · obtain ⟨j, hj⟩ := List.getElem?_of_mem ho
      have hlt : j < i := by
        have := (List.getElem?_eq_some_iff.mp hj).1
        rw [List.length_take] at this
        omega
      rw [List.getElem?_take_of_lt hlt] at hj
      exact h i j _ _ hg hj (by omega)
    · obtain ⟨j, hj⟩ := List.getElem?_of_mem ho
      rw [List.getElem?_drop] at hj
      exact h i _ _ _ hg hj (by omega)
  rw [decide_eq_false hn]
  rfl
/-! ### what is known -/
abbrev Kv := List (Key × V)
def kno (kvs : Kv) (w : List Bool) : Prop := valV kvs (Sum.inr (WS w)) ≠ none
def allW : List (List Bool) := wordsL 0 ++ wordsL 1 ++ wordsL 2 ++ wordsL 3 ++ wordsL 4 ++ wordsL 5
def left (kvs : Kv) : Nat := (allW.filter fun w => (valV kvs (Sum.inr (WS w))).isNone).length
theorem mem_allW {w : List Bool} (h : w.length ≤ 5) : w ∈ allW := by
  unfold allW
  simp only [List.mem_append, mem_wordsL]
  omega
theorem kno_put {kvs : Kv} {w u : List Bool} : kno (putK kvs (Sum.inr (WS w)) (.bl true)) u ↔ (u = w ∨ kno kvs u) := by
  unfold kno
  rw [valV_put]
  by_cases h : u = w
  · subst h
    rw [if_pos rfl]
    simp
  · rw [if_neg fun e => h (WS_inj (Sum.inr.inj e))]
    simp [h]
theorem filter_lt {α : Type} {f g : α → Bool} : ∀ {l : List α} {x : α}, x ∈ l → f x = true → g x = false → (∀ y ∈ l, g y = true → f y = true) → (l.filter g).length < (l.filter f).length
  | y :: l, x, hx, hf, hg, h => by
    have hle : ∀ (l : List α), (∀ y ∈ l, g y = true → f y = true) → (l.filter g).length ≤ (l.filter f).length := by
      intro l
      induction l with
      | nil => intro _; exact Nat.le_refl _
      | cons z r ih =>
        intro k
        have i := ih fun y hy => k y (List.mem_cons_of_mem _ hy)
        rw [List.filter_cons, List.filter_cons]
        by_cases hz : g z = true
        · rw [if_pos hz, if_pos (k z List.mem_cons_self hz)]
          exact Nat.succ_le_succ i
        · rw [if_neg hz]
          split
          · exact Nat.le_succ_of_le i
          · exact i
    rw [List.filter_cons, List.filter_cons]
    rcases List.mem_cons.mp hx with rfl | hx
    · rw [hf, hg]
      exact Nat.lt_succ_of_le (hle l fun y hy => h y (List.mem_cons_of_mem _ hy))
    · have i := filter_lt hx hf hg fun y hy => h y (List.mem_cons_of_mem _ hy)
      by_cases hz : g y = true
      · rw [if_pos hz, if_pos (h y List.mem_cons_self hz)]
        exact Nat.succ_lt_succ i
      · rw [if_neg hz]
        split
        · exact Nat.lt_succ_of_lt i
        · exact i
theorem left_put {kvs : Kv} {w : List Bool} (hw : w.length ≤ 5) (hn : ¬ kno kvs w) : left (putK kvs (Sum.inr (WS w)) (.bl true)) < left kvs := by
  unfold left
  refine filter_lt (mem_allW hw) ?_ ?_ fun y _ hy => ?_
  · unfold kno at hn
    rw [Classical.not_not] at hn
    rw [hn]
    rfl
  · rw [valV_put, if_pos rfl]
    rfl
  · rw [valV_put] at hy
    split at hy
    · cases hy
    · exact hy
/-- done with a standing -/
def Done (ps : List Stf) (kvs : Kv) (w : List Bool) (b : Bool) : Prop := (putsN ps 24 (w ++ [b])).length ≤ w.length + 20 ∧ kno kvs (last5 (putsN ps 24 (w ++ [b])))
theorem Done.put {ps : List Stf} {kvs : Kv} {w u : List Bool} {b : Bool} (h : Done ps kvs w b) : Done ps (putK kvs (Sum.inr (WS u)) (.bl true)) w b := ⟨h.1, kno_put.mpr (.inr h.2)⟩
structure Srch (ps : List Stf) (kvs : Kv) (ws : List (List Bool)) (cur : Option (List Bool)) (j : Nat) : Prop where
  zero : kno kvs []
  short : ∀ w, kno kvs w → w.length ≤ 5
  wait : ∀ w ∈ ws, kno kvs w
  done : ∀ w, kno kvs w → w ∈ ws ∨ (∀ b, Done ps kvs w b) ∨ some w = cur
  curd : ∀ w, some w = cur → (0 < j → Done ps kvs w false) ∧ (1 < j → Done ps kvs w true)
  size : kvs.length + left kvs ≤ 64
  wsz : ws.length ≤ kvs.length
theorem left0 : left [(Sum.inr (WS []), V.bl true)] = 62 := by decide +kernel
end Own
namespace Own
open PySem PySem.Spec PyProof.Rows L2
theorem Srch.start (ps : List Stf) : Srch ps [(Sum.inr (WS []), V.bl true)] [[]] none 0 := by
  have hk : ∀ w, kno [(Sum.inr (WS []), V.bl true)] w → w = [] := fun w h => by
    by_cases e : w = []
    · exact e
    · exact absurd (valV_neg (p := (Sum.inr (WS []), V.bl true)) (r := []) (k := Sum.inr (WS w)) fun z => e (WS_inj (Sum.inr.inj z)).symm) fun z => h (by rw [z]; rfl)
  refine ⟨?_, fun w h => ?_, fun w h => ?_, fun w h => ?_, fun w h => (by cases h), by rw [left0]; decide, by decide⟩
  · unfold kno
    rw [valV_pos rfl]
    intro e
    cases e
  · rw [hk w h]
    decide
  · rw [List.mem_singleton.mp h]
    unfold kno
    rw [valV_pos rfl]
    intro e
    cases e
  · exact .inl (by rw [hk w h]; exact List.mem_singleton.mpr rfl)
/-- one is taken -/
theorem Srch.pop {ps : List Stf} {kvs : Kv} {ws : List (List Bool)} {u : List Bool} (h : Srch ps kvs (ws ++ [u]) none 0) : Srch ps kvs ws (some u) 0 := by
  refine ⟨h.zero, h.short, fun w hw => h.wait w (List.mem_append_left _ hw), fun w hw => ?_, fun w _ => ⟨fun z => absurd z (by decide), fun z => absurd z (by decide)⟩, h.size, ?_⟩
  · rcases h.done w hw with h1 | h1 | h1
    · rcases List.mem_append.mp h1 with h2 | h2
      · exact .inl h2
      · exact .inr (.inr (by rw [List.mem_singleton.mp h2]))
    · exact .inr (.inl h1)
    · cases h1
  · have := h.wsz
    rw [List.length_append] at this
    omega
/-- both bits are through -/
theorem Srch.back {ps : List Stf} {kvs : Kv} {ws : List (List Bool)} {u : List Bool} (h : Srch ps kvs ws (some u) 2) : Srch ps kvs ws none 0 := by
  refine ⟨h.zero, h.short, h.wait, fun w hw => ?_, fun w e => (by cases e), h.size, h.wsz⟩
  rcases h.done w hw with h1 | h1 | h1
  · exact .inl h1
  · exact .inr (.inl h1)
  · obtain ⟨d0, d1⟩ := h.curd w h1
    exact .inr (.inl fun b => by cases b; exact d0 (by decide); exact d1 (by decide))
theorem curd_next {ps : List Stf} {kvs : Kv} {u : List Bool} {j : Nat} (hj : j < 2) (h : (0 < j → Done ps kvs u false) ∧ (1 < j → Done ps kvs u true)) (hn : Done ps kvs u (decide (j = 1))) : (0 < j + 1 → Done ps kvs u false) ∧ (1 < j + 1 → Done ps kvs u true) := by
  match j, hj with
  | 0, _ => exact ⟨fun _ => hn, fun z => absurd z (by decide)⟩
  | 1, _ => exact ⟨fun _ => h.1 (by decide), fun _ => hn⟩
/-- the standing behind is known already -/
theorem Srch.old {ps : List Stf} {kvs : Kv} {ws : List (List Bool)} {u : List Bool} {j : Nat} (h : Srch ps kvs ws (some u) j) (hj : j < 2) (hn : Done ps kvs u (decide (j = 1))) : Srch ps kvs ws (some u) (j + 1) :=
  ⟨h.zero, h.short, h.wait, h.done, fun w e => by cases e; exact curd_next hj (h.curd u rfl) hn, h.size, h.wsz⟩
/-- it is new -/
theorem Srch.new {ps : List Stf} {kvs : Kv} {ws : List (List Bool)} {u v : List Bool} {j : Nat} (h : Srch ps kvs ws (some u) j) (hj : j < 2) (hv : valV kvs (Sum.inr (WS v)) = none) (hl : v.length ≤ 5) (hn : (putsN ps 24 (u ++ [decide (j = 1)])).length ≤ u.length + 20) (ev : v = last5 (putsN ps 24 (u ++ [decide (j = 1)]))) :
    Srch ps (putK kvs (Sum.inr (WS v)) (.bl true)) (ws ++ [v]) (some u) (j + 1) := by
  have hk : ¬ kno kvs v := fun z => z hv
  have hlp := left_put hl hk
  have hln : (putK kvs (Sum.inr (WS v)) (V.bl true)).length = kvs.length + 1 := by
    rw [putK_new _ hv, List.length_append]
    rfl
  refine ⟨kno_put.mpr (.inr h.zero), fun w hw => ?_, fun w hw => ?_, fun w hw => ?_, fun w e => ?_, ?_, ?_⟩
  · rcases kno_put.mp hw with rfl | hw
    · exact hl
    · exact h.short w hw
  · rcases List.mem_append.mp hw with hw | hw
    · exact kno_put.mpr (.inr (h.wait w hw))
    · exact kno_put.mpr (.inl (List.mem_singleton.mp hw))
  · rcases kno_put.mp hw with rfl | hw
    · exact .inl (List.mem_append_right _ (List.mem_singleton.mpr rfl))
    · rcases h.done w hw with h1 | h1 | h1
      · exact .inl (List.mem_append_left _ h1)
      · exact .inr (.inl fun b => (h1 b).put)
      · exact .inr (.inr h1)
  · cases e
    obtain ⟨d0, d1⟩ := h.curd u rfl
    exact curd_next hj ⟨fun z => (d0 z).put, fun z => (d1 z).put⟩ ⟨hn, by rw [← ev]; exact kno_put.mpr (.inl rfl)⟩
  · have := h.size
    omega
  · have := h.wsz
    rw [hln, List.length_append]
    show ws.length + 1 ≤ _
    omega
theorem Srch.closed {ps : List Stf} {kvs : Kv} (h : Srch ps kvs [] none 0) : Closed ps (kno kvs) :=
  ⟨h.zero, fun s hs b => by
    rcases h.done s hs with h1 | h1 | h1
    · cases h1
    · exact h1 b
    · cases h1⟩
end Own

set_option Elab.async false
set_option linter.all false
set_option maxRecDepth 100000
set_option maxHeartbeats 2000000
namespace Own
open PySem PySem.Spec PyProof.Rows L2
section
variable {prog : Program} {w : World} {A : Around} {E : Value → Shared → Prop} {s : Shared}
/-- all that a tuple holds, in a new list -/
theorem collectT {t : Addr} {us : List Value} {Q : List Value → Shared → Prop} (ht : s.heap.IsTuple t us.toArray) (hz : us.length ≤ sizeLine)
    (h : Q us { s with heap := (s.heap.push (seqObj "list" #[] 0)).update s.heap.objs.size (Obj.mapSeq (· ++ us.toArray)) }) : wpAny (model prog w) A (collect (.ref t)) Q E s := by
  obtain ⟨o, go, co, k, dO⟩ := id ht
  have go' : (s.heap.push (seqObj "list" #[] 0)).get? t = some o := Heap.get?_push_of_some _ go
  have gn : (s.heap.push (seqObj "list" #[] 0)).get? s.heap.objs.size = some (seqObj "list" #[] 0) := Heap.get?_push_size _ rfl
  unfold collect
  refine wpAny_bind (wpAny_runValue (codeAny_builtin entry_proto_collect' ?_))
  refine wpAny_bind (wpAny_newList (wpAny_pure ⟨Code.quiet_builtin _ (by decide +kernel), codeAny_builtin entry_list_iadd' ?_⟩))
  show wpAny _ _ (Builtin.List.listExtendWith (.ref s.heap.objs.size) (.ref t) _) _ _ { s with heap := s.heap.push (seqObj "list" #[] 0) }
  unfold Builtin.List.listExtendWith
  refine wpAny_bind (wpAny_typeOf (T := "tuple") ⟨o, go', co⟩ ?_)
  rw [if_pos (by rw [show (Value.type "tuple" == Value.type "tuple") = true by rfl, Bool.or_true])]
  refine wpAny_bind (listItems_at go' dO (wpAny_bind (listItems_at (xs := #[]) (n := 0) gn rfl ?_)))
  rw [if_neg (by simp)]
  refine wpAny_bind (listUpdate_at (xs := #[]) (n := 0) gn rfl ?_ (Nat.zero_le _) (by simp only [Array.size_append, List.size_toArray, List.length_nil]; omega))
  refine wpAny_pure ?_
  show wpAny (model prog w) A (load s.heap.objs.size >>= _) Q E { s with heap := (s.heap.push (seqObj "list" #[] 0)).update s.heap.objs.size (Obj.mapSeq (· ++ us.toArray)) }
  refine wpAny_bind (wpAny_load (get?_update_seq gn _) ?_)
  have e : ((#[] : Array Value) ++ us.toArray).toList = us := by simp
  show wpAny _ _ (pure ((#[] : Array Value) ++ us.toArray).toList) Q E _
  rw [e]
  exact wpAny_pure h
open PySem.W in
/-- sorted(tuple) -/
theorem sortedT {κ : KeyKind} {t : Addr} {us : List Value} {Q : Value → Shared → Prop} (ht : s.heap.IsTuple t us.toArray) (S : SortsAt prog w A.in1.in1 { s with heap := sortingHeap (copyHeap s.heap us) (s.heap.objs.size + 1) us } κ us) (hz : us.length ≤ sizeLine)
    (h : Q (.ref (s.heap.objs.size + 1)) { s with heap := sortedAll s.heap us (sortVals κ false us us).toArray }) : wpAny (model prog w) A (call (.builtin "sorted") [.ref t]) Q E s := by
  refine call_function_entry_kw kind_sorted plain_sorted entry_sorted (args_sorted1 _) ?_
  unfold Builtin.«sorted»
  refine wpAny_bind (m := checkCount "sorted" 1 1 _) (wpAny_pure (wpAny_bind (collectT ht hz (wpAny_bind (wpAny_newList ?_ hz)))))
  have e1 : ((s.heap.push (seqObj "list" #[] 0)).update s.heap.objs.size (Obj.mapSeq (· ++ us.toArray))).objs.size = s.heap.objs.size + 1 := by
    rw [Heap.size_update, Heap.size_push]
  show wpAny _ _ _ _ _ { s with heap := copyHeap s.heap us }
  rw [e1]
  refine wpAny_bind (wpAny_holding (wpAny_call_entry_kw slot_list_sort ⟨_, copyHeap_at s.heap us, rfl⟩ entry_list_sort ?_ (args_list_sort _)))
  show wpAny (model prog w) A.in1.in1 (Builtin.«list.sort» ⟨[.ref (s.heap.objs.size + 1)], []⟩) _ _ _
  exact list_sort_vals (s := { s with heap := copyHeap s.heap us }) (copyHeap_at s.heap us) S hz ⟨_, rfl, wpAny_pure ⟨_, rfl, h⟩⟩
end
def rSortedQ (K : PySem.W.Frag) : List V → Hp → VK → Prop := fun xs H Q => ∃ (l : Addr) (o : Bool) (vs : List V) (ps : List Stf), xs = [V.ref l] ∧ SqK K o H l vs ∧ Pairs H vs ps ∧ ∀ q vs', H q = none → Pairs H vs' (sortP ps) → Q (.ref q) (upd H q (.lst vs'))
open PySem.W in
theorem cr_sortedQ {X : Cx} (hu : X.A.units + 64 < cLine) : CallR X (.builtin "sorted") (rSortedQ X.K) := by
  intro pins s σ H xs us Q I r h
  obtain ⟨l, o, vs, ps, rfl, hs, hp, q⟩ := h
  rcases o with _ | _
  rotate_left
  · exact cr_sortedP hu pins s σ H [V.ref l] us Q I r ⟨l, vs, ps, rfl, hs, hp, q⟩
  · match us, r with
    | [u], .cons ra .nil =>
      cases (show u = Value.ref l from ra)
      obtain ⟨its, rv, hl, hz⟩ := I.tuple hs
      obtain ⟨as, hr⟩ := Dp.readsAll I (ps.map encP) _ its (dpAll_pairs hp) rv
      have e := each_of hp rv
      have er := readsAll_each encP hr
      have hal : AllAlike (ps.map encP) := AllAlike.of fun b b' => rfl
      have hk : Sortable (ps.map encP) := .inl fun d hd => by
        obtain ⟨p, _, rfl⟩ := List.mem_map.mp hd
        exact ⟨_, _, rfl⟩
      have er' : EachIs (fun v b => ∃ as, Reads (sortingHeap (copyHeap s.heap its) (s.heap.objs.size + 1) its) v (encP b) as) its ps := er.mono fun _ _ ⟨as, r⟩ => ⟨as, PyProof.Rows.Reads.keeps (fun _ _ => sorting_copy_old) r⟩
      have hb : ∀ d, d ∈ ps.map encP → X.A.in1.in1.units + d.depth < cLine := fun d hd => by
        obtain ⟨p, _, rfl⟩ := List.mem_map.mp hd
        have : (encP p).depth = 1 := rfl
        rw [this]
        have : X.A.in1.in1.units = X.A.units + 2 := rfl
        omega
      refine sortedT hl (SortsAt.data (s := { s with heap := sortingHeap (copyHeap s.heap its) (s.heap.objs.size + 1) its }) (each_map (R := fun v d => ∃ as, Reads (sortingHeap (copyHeap s.heap its) (s.heap.objs.size + 1) its) v d as) encP er') hal hk hb) (by rw [← rv.length]; exact hz) ?_
      have ho : (sortVals (dataKind (sortingHeap (copyHeap s.heap its) (s.heap.objs.size + 1) its) (ps.map encP)) false its its).length = ps.length := by
        rw [sortVals_length false rfl]
        exact e.length
      have eo := sortVals_data false e er' hal
      revert ho eo
      generalize sortVals (dataKind (sortingHeap (copyHeap s.heap its) (s.heap.objs.size + 1) its) (ps.map encP)) false its its = out
      intro ho eo
      obtain ⟨vs', rv', hp'⟩ := pairs_of (X := X) eo
      obtain ⟨ep, he'⟩ := PyProof.Rows.sortedAll_at s.heap its out.toArray
      have hlen : vs'.length ≤ sizeLine := by
        rw [rv'.length, ho, ← hp.len]
        exact hz
      exact ⟨.ref _, upd H (s.heap.objs.size + 1) (.lst vs'), I.laid (t' := s.toks) (fun _ _ => PyProof.Rows.sortedAll_old) (Nat.le_succ _) ⟨hlen, _, ep, rv', he'⟩, rfl, q _ _ (I.hok.fresh (Nat.le_succ _)) hp'⟩
end Own

set_option Elab.async false
set_option linter.all false
set_option maxRecDepth 100000
set_option maxHeartbeats 2000000
namespace Own
open PySem PySem.Spec PyProof.Rows L2
/-! ### nested data that are compared -/
def NiceAt (K : PySem.W.Frag) (H : Hp) (v : V) : Prop := ∃ d : PyData, Dp K H v d ∧ d.canLay0 = true ∧ d.depth ≤ 40
theorem nice_all {K : PySem.W.Frag} {H : Hp} : ∀ {vs : List V}, (∀ v ∈ vs, NiceAt K H v) → ∃ ds, DpAll K H vs ds ∧ PyData.canLayAll0 ds = true ∧ PyData.depthAll ds ≤ 40 ∧ ds.isEmpty = vs.isEmpty
  | [], _ => ⟨[], .nil, rfl, by decide, rfl⟩
  | v :: vs, h => by
    obtain ⟨d, h1, h2, h3⟩ := h v List.mem_cons_self
    obtain ⟨ds, g1, g2, g3, _⟩ := nice_all (vs := vs) fun u hu => h u (List.mem_cons_of_mem _ hu)
    refine ⟨d :: ds, .cons h1 g1, ?_, ?_, rfl⟩
    · show (PyData.canLay0 d && PyData.canLayAll0 ds) = true
      rw [h2, g2]
      rfl
    · show max (PyData.depth d) (PyData.depthAll ds) ≤ 40
      omega
theorem shaped_all {ds : List PyData} (h1 : PyData.canLayAll0 ds = true) (h2 : PyData.depthAll ds ≤ 40) : SeqAt.shaped (.list ds) = true := by
  unfold SeqAt.shaped
  rw [Bool.and_eq_true, decide_eq_true_eq]
  refine ⟨h1, ?_⟩
  show PyData.depthAll _ + 1 ≤ 64
  omega
theorem canLay_encP (p : Stf) : (encP p).canLay0 = true := by
  show (PyData.strOk (WS p.1) && (PyData.strOk (WS [p.2]) && true)) = true
  rw [strOk_WS, strOk_WS]
  rfl
theorem canLay_pairs : ∀ ps : List Stf, PyData.canLayAll0 (ps.map encP) = true
  | [] => rfl
  | p :: r => by
    show (PyData.canLay0 (encP p) && PyData.canLayAll0 (r.map encP)) = true
    rw [canLay_pairs r, canLay_encP]
    rfl
theorem depth_pairs : ∀ ps : List Stf, PyData.depthAll (ps.map encP) ≤ 1
  | [] => by decide
  | p :: r => by
    show max (PyData.depth (encP p)) (PyData.depthAll (r.map encP)) ≤ 1
    have := depth_pairs r
    have e : (encP p).depth = 1 := rfl
    omega
theorem nice_rule {K : PySem.W.Frag} {H : Hp} {t : Addr} {flag : List Bool} {ps : List Stf} (h : RuAt H t flag ps) : NiceAt K H (.ref t) := by
  obtain ⟨l, xs, h1, h2, h3⟩ := h
  refine ⟨.tuple [.str (WS flag), .list (ps.map encP)], .tup (.inl (.inl h1)) (.cons (.str _) (.cons (.lst (.inl (.inl h2)) (dpAll_pairs h3)) .nil)), ?_, ?_⟩
  · show (PyData.strOk (WS flag) && (PyData.canLayAll0 (ps.map encP) && true)) = true
    rw [strOk_WS, canLay_pairs]
    rfl
  · show max 0 (max (PyData.depthAll (ps.map encP) + 1) 0) + 1 ≤ 40
    have := depth_pairs ps
    omega
theorem RuAt.off {H H' : Hp} {b t : Addr} {flag : List Bool} {ps : List Stf} (h : RuAt H t flag ps) (hb : BoxAt H b) (o : Off b H H') : RuAt H' t flag ps := by
  obtain ⟨l, xs, h1, h2, h3⟩ := h
  have k := kp_off hb o
  refine ⟨l, xs, k _ _ h1 trivial, o _ _ h2 (fun e => ?_), h3.kp k⟩
  obtain ⟨c, d, e2, _⟩ := hb
  rw [← e, h2] at e2
  cases e2
  cases ps with
  | nil => exact h3
  | cons p r =>
    obtain ⟨⟨t, e, _⟩, _⟩ := h3
    cases e
theorem Pairs.snoc {H : Hp} : ∀ {vs : List V} {ps : List Stf} {v : V} {p : Stf}, Pairs H vs ps → PairAt H v p → Pairs H (vs ++ [v]) (ps ++ [p])
  | [], [], _, _, _, h => ⟨h, trivial⟩
  | _ :: _, _ :: _, _, _, h, h2 => ⟨h.1, Pairs.snoc h.2 h2⟩
  | [], _ :: _, _, _, h, _ => h.elim
  | _ :: _, [], _, _, h, _ => h.elim
/-- a rule as the law takes one -/
structure LRule (wi : Int) (flag : List Bool) (ps : List Stf) : Prop where
  ok : RuleOk ps
  few : ps.length ≤ 2
  lens : ∀ p ∈ ps, p.1 ≠ [] ∧ p.1.length ≤ 4
  f2 : 2 ≤ flag.length
  f5 : (flag.length : Int) ≤ max wi 5
  fill : Fill ps
def RuV (wi : Int) (H : Hp) (v : V) : Prop := ∃ t flag ps, v = V.ref t ∧ RuAt H t flag ps ∧ LRule wi flag ps
def spRule : Sp := fun vs H Q _ => ∃ (b : Addr) (wi lo : Int), vs = [.ref b, .int wi, .int lo] ∧ BoxAt H b ∧ 2 ≤ wi ∧ wi ≤ 100 ∧ 1 ≤ lo ∧ lo ≤ 4 ∧ ∀ t flag ps H', LRule wi flag ps → RuAt H' t flag ps → BoxAt H' b → Off b H H' → Q (.ref t) H'
def fillB (ps : List Stf) : Bool := allW.all fun s => [false, true].all fun b => decide ((putsN ps 24 (s ++ [b])).length ≤ s.length + 20)
theorem fill_of {ps : List Stf} (h : fillB ps = true) : Fill ps := ⟨fun s => s.length ≤ 5, by decide, fun s hs b => by
  have h1 := List.all_eq_true.mp h s (mem_allW hs)
  have h2 := List.all_eq_true.mp h1 b (by cases b <;> decide)
  exact ⟨of_decide_eq_true h2, last5_len _⟩⟩
theorem lr1 (wi : Int) : LRule wi [false, true, true, true, false] [([true, true], false)] := ⟨⟨by decide, by decide, by decide, by decide, by decide +kernel⟩, by decide, by decide, by decide, by show (5 : Int) ≤ max wi 5; omega, fill_of (by decide +kernel)⟩
theorem lr2 (wi : Int) : LRule wi [false, false, true, false] [([false, false, true], true)] := ⟨⟨by decide, by decide, by decide, by decide, by decide +kernel⟩, by decide, by decide, by decide, by show (4 : Int) ≤ max wi 5; omega, fill_of (by decide +kernel)⟩
theorem lr3 (wi : Int) : LRule wi [true, true] [([true], false)] := ⟨⟨by decide, by decide, by decide, by decide, by decide +kernel⟩, by decide, by decide, by decide, by show (2 : Int) ≤ max wi 5; omega, fill_of (by decide +kernel)⟩
theorem lr4 (wi : Int) : LRule wi [true, false, false, false, true] [([false, false], true)] := ⟨⟨by decide, by decide, by decide, by decide, by decide +kernel⟩, by decide, by decide, by decide, by show (5 : Int) ≤ max wi 5; omega, fill_of (by decide +kernel)⟩
theorem lr5 (wi : Int) : LRule wi [true, true, false] [] := ⟨⟨by decide, by decide, by decide, by decide, by decide +kernel⟩, by decide, by decide, by decide, by show (3 : Int) ≤ max wi 5; omega, fill_of (by decide +kernel)⟩
end Own
namespace Own
open PySem PySem.Spec PyProof.Rows L2
theorem RuV.same {wi : Int} {H H' : Hp} {v : V} (s : Same H H') (h : RuV wi H v) : RuV wi H' v := by
  obtain ⟨t, flag, ps, e, h1, h2⟩ := h
  exact ⟨t, flag, ps, e, h1.same s, h2⟩
theorem RuV.off {wi : Int} {H H' : Hp} {b : Addr} {v : V} (h : RuV wi H v) (hb : BoxAt H b) (o : Off b H H') : RuV wi H' v := by
  obtain ⟨t, flag, ps, e, h1, h2⟩ := h
  exact ⟨t, flag, ps, e, h1.off hb o, h2⟩
theorem RuV.kp {wi : Int} {H H' : Hp} {v : V} {D : Addr} {xs : List V} (s : Same H H') (h : RuV wi H v) : RuV wi H' v := h.same s
end Own
namespace Own
open PySem PySem.Spec PyProof.Rows L2
def rO : Option Bool → Str
  | none => "None"
  | some b => PySem.reprText (WS [b])
theorem cr_reprO {X : Cx} : CallR X (.builtin "repr") (fun xs H Q => ∃ o : Option Bool, xs = [oB o] ∧ Q (.str (rO o)) H) := by
  intro pins s σ H xs us Q I r h
  obtain ⟨o, rfl, q⟩ := h
  match us, r with
  | [u], .cons ra .nil =>
    cases o with
    | none =>
      cases (show u = Value.none from ra)
      exact PySem.P.repr_of_none ⟨.str "None", H, I.tok _, ⟨_, rfl⟩, q⟩
    | some b =>
      obtain ⟨t, rfl⟩ := (show ∃ t, u = Value.str (WS [b]) t from ra)
      exact PySem.P.repr_of_str ⟨.str _, H, I.tok _, ⟨_, rfl⟩, q⟩ (by cases b <;> decide +kernel)
def spMade (C : Addr) : Sp := fun vs H Q _ => ∃ (t : Addr) (flag : List Bool) (ps : List Stf), vs = [.ref t] ∧ RuAt H t flag ps ∧ RuleOk ps ∧ 2 ≤ flag.length ∧ flag.length ≤ 900 ∧ ∀ p H', RlAt C H' p flag (sortP ps) → Same H H' → Q (.ref p) H'
end Own
namespace Own
open PySem PySem.Spec PyProof.Rows L2
def Ru1 (wi : Int) (H : Hp) (v : V) : Prop := ∃ t flag p, v = V.ref t ∧ RuAt H t flag [p] ∧ LRule wi flag [p]
theorem Ru1.same {wi : Int} {H H' : Hp} {v : V} (s : Same H H') (h : Ru1 wi H v) : Ru1 wi H' v := by
  obtain ⟨t, flag, ps, e, h1, h2⟩ := h
  exact ⟨t, flag, ps, e, h1.same s, h2⟩
theorem Ru1.v {wi : Int} {H : Hp} {v : V} (h : Ru1 wi H v) : RuV wi H v := by
  obtain ⟨t, flag, p, e, h1, h2⟩ := h
  exact ⟨t, flag, [p], e, h1, h2⟩
theorem mk_ru {wi : Int} {H : Hp} {u m t : Addr} {f p : List Bool} {b : Bool} {sf sp sb : Str} (ef : sf = WS f) (ep : sp = WS p) (eb : sb = WS [b]) (n : H u = none) (o : (upd H u (.tup [.str sp, .str sb])) m = none) (q : (upd (upd H u (.tup [.str sp, .str sb])) m (.lst [.ref u])) t = none) (lr : LRule wi f [(p, b)]) :
    Same H (upd (upd (upd H u (.tup [.str sp, .str sb])) m (.lst [.ref u])) t (.tup [.str sf, .ref m])) ∧ Ru1 wi (upd (upd (upd H u (.tup [.str sp, .str sb])) m (.lst [.ref u])) t (.tup [.str sf, .ref m])) (.ref t) := by
  subst ef ep eb
  have s1 : Same H (upd H u (.tup [.str (WS p), .str (WS [b])])) := same_new n
  have s2 := same_new (o := .lst [.ref u]) o
  have s3 := same_new (o := .tup [.str (WS f), .ref m]) q
  refine ⟨(s1.trans s2).trans s3, t, f, (p, b), rfl, ⟨m, [.ref u], upd_same, s3 _ _ upd_same, ⟨u, rfl, (s2.trans s3) _ _ upd_same⟩, trivial⟩, lr⟩
end Own
namespace Own
open PySem PySem.Spec PyProof.Rows L2
theorem and_join {c : Bool} {H : Hp} {TT : Hp → (Bool → Hp → Prop) → Prop} {X Y : Hp → Prop} (G : Hp → Prop) (h0 : c = false → G H) (h : c = true → ∀ k : Bool → Hp → Prop, (∀ H', X H' → k true H') → (∀ H', G H' → k false H') → TT H k) (hy : ∀ H', G H' → Y H') :
    if c = true then TT H (fun b H1 => if b = true then X H1 else Y H1) else (fun b H1 => if b = true then X H1 else Y H1) false H := by
  cases c with
  | true =>
    rw [if_pos rfl]
    exact h rfl _ (fun H' x => by show if true = true then _ else _; rw [if_pos rfl]; exact x) fun H' g => by
      show if false = true then _ else _
      rw [if_neg (by decide)]
      exact hy _ g
  | false =>
    rw [if_neg (by decide)]
    show if false = true then _ else _
    rw [if_neg (by decide)]
    exact hy _ (h0 rfl)
end Own
namespace Own
open PySem PySem.Spec PyProof.Rows L2
end Own
namespace Own
open PySem PySem.Spec PyProof.Rows L2
theorem putL_part {ps : List Stf} (h : partedB (ps.map (·.1)) = true) {p : Stf} (hp : p ∈ ps) (hne : p.1 ≠ []) : putL ps (p.1.drop 1) = none := by
  refine putL_none fun q hq hs => ?_
  have e := one_match h hq hp (hs.trans (List.drop_suffix 1 p.1)) List.suffix_rfl
  rw [e] at hs
  have l1 := hs.length_le
  have l0 := List.length_pos_iff.mpr hne
  rw [List.length_drop] at l1
  omega
theorem sortP_nil : sortP [] = [] := List.perm_nil.mp (sortP_perm [])
theorem rule_nil : RuleOk [] := (lr5 6).ok
end Own

set_option Elab.async false
set_option linter.all false
set_option maxRecDepth 100000
set_option maxHeartbeats 2000000
namespace Own
open PySem PySem.Spec PyProof.Rows L2
def spRLong (C : Addr) : Sp := fun vs H Q _ => ∃ (p : Addr) (flag : List Bool) (ps : List Stf), vs = [.ref p] ∧ RlAt C H p flag ps ∧ ps.length ≤ 100 ∧ (∀ p ∈ ps, p.1.length ≤ 900) ∧ ∀ H', Same H H' → Q (.int (longL ps)) H'
theorem parted_get {ws : List (List Bool)} (h : partedB ws = true) {i j : Nat} {a b : List Bool} (hi : ws[i]? = some a) (hj : ws[j]? = some b) (hne : i ≠ j) : ¬ b <:+ a := by
  unfold partedB at h
  have h1 := List.all_eq_true.mp h i (List.mem_range.mpr (List.getElem?_eq_some_iff.mp hi).1)
  unfold partedAt at h1
  have hg : ws.getD i [] = a := by
    rw [List.getD_eq_getElem?_getD, hi]
    rfl
  rw [hg] at h1
  have hm : b ∈ ws.take i ++ ws.drop (i + 1) := by
    rw [List.mem_append]
    by_cases hlt : j < i
    · refine .inl (List.mem_of_getElem? (i := j) ?_)
      rw [List.getElem?_take_of_lt hlt]
      exact hj
    · refine .inr (List.mem_of_getElem? (i := j - (i + 1)) ?_)
      rw [List.getElem?_drop, show i + 1 + (j - (i + 1)) = j by omega]
      exact hj
  have h2 := List.all_eq_true.mp h1 b hm
  intro hs
  rw [decide_eq_true hs] at h2
  cases h2
theorem one_filter {ps : List Stf} (h : partedB (ps.map (·.1)) = true) (u : List Bool) : (ps.filter fun p => decide (p.1 <:+ u)).length ≤ 1 := by
  have pw : ps.Pairwise fun p q => ¬ (p.1 <:+ u ∧ q.1 <:+ u) := by
    rw [List.pairwise_iff_getElem]
    intro i j hi hj hij ⟨h1, h2⟩
    have gi : (ps.map (·.1))[i]? = some ps[i].1 := by rw [List.getElem?_map, List.getElem?_eq_getElem hi]; rfl
    have gj : (ps.map (·.1))[j]? = some ps[j].1 := by rw [List.getElem?_map, List.getElem?_eq_getElem hj]; rfl
    rcases List.suffix_or_suffix_of_suffix h1 h2 with s | s
    · exact parted_get h gj gi (by omega) s
    · exact parted_get h gi gj (by omega) s
  have pf := pw.filter (fun p => decide (p.1 <:+ u))
  have al : ∀ p ∈ ps.filter (fun p => decide (p.1 <:+ u)), p.1 <:+ u := fun p hp => of_decide_eq_true (List.mem_filter.mp hp).2
  revert pf al
  generalize ps.filter (fun p => decide (p.1 <:+ u)) = l
  intro pf al
  match l, pf, al with
  | [], _, _ => exact (by decide)
  | [_], _, _ => exact Nat.le_refl _
  | x :: y :: r, pf, al =>
    exact absurd ⟨al x List.mem_cons_self, al y (List.mem_cons_of_mem _ List.mem_cons_self)⟩ ((List.pairwise_cons.mp pf).1 y List.mem_cons_self)
/-- only the last bits count -/
theorem putL_tail {ps : List Stf} {u : List Bool} {n : Nat} (h : ∀ p ∈ ps, p.1.length ≤ n) : putL ps (u.drop (u.length - n)) = putL ps u := by
  unfold putL
  congr 1
  have e : ∀ p ∈ ps, decide (p.1 <:+ u.drop (u.length - n)) = decide (p.1 <:+ u) := fun p hp => by
    apply decide_eq_decide.mpr
    constructor
    · exact fun s => s.trans (List.drop_suffix _ _)
    · intro s
      refine List.suffix_of_suffix_length_le s (List.drop_suffix _ _) ?_
      rw [List.length_drop]
      have := h p hp
      have := s.length_le
      omega
  clear h
  induction ps with
  | nil => rfl
  | cons p r ih =>
    rw [List.find?_cons, List.find?_cons, e p List.mem_cons_self, ih fun q hq => e q (List.mem_cons_of_mem _ hq)]
end Own

set_option Elab.async false
set_option linter.all false
set_option maxRecDepth 100000
set_option maxHeartbeats 2000000
/-! lines: all that is put in behind a line, and the body of a message -/
namespace Own
open PySem PySem.Spec PyProof.Rows L2
theorem small5 {n : Nat} (h : n ≤ 100000) : n < sizeLine := Nat.lt_of_le_of_lt h (by decide)
theorem ls_len5 (z : List Bool) (h : z.length ≤ 100000) : (WS z).length ≤ sizeLine := by
  rw [WS_len]
  exact Nat.le_of_lt (small5 h)
theorem cat_len5 (u v : List Bool) (h : u.length + v.length ≤ 100000) : (WS u).length + (WS v).length ≤ sizeLine := by
  rw [WS_len, WS_len]
  exact Nat.le_of_lt (small5 h)
theorem puts_none {ps : List Stf} {u : List Bool} (h : putL ps u = none) : ∀ n, putsN ps n u = u
  | 0 => rfl
  | n + 1 => by
    rw [putsN_succ, puts_none h n]
    unfold stepP
    rw [h]
theorem puts_add {ps : List Stf} {u : List Bool} (g : Nat) : ∀ n, putsN ps (g + n) u = putsN ps n (putsN ps g u)
  | 0 => rfl
  | n + 1 => by
    rw [← Nat.add_assoc, putsN_succ, puts_add g n, putsN_succ]
/-- nothing more is put in -/
theorem puts_stop {ps : List Stf} {u : List Bool} {g n : Nat} (h : putL ps (putsN ps g u) = none) (hg : g ≤ n) : putsN ps n u = putsN ps g u := by
  obtain ⟨k, rfl⟩ := Nat.exists_eq_add_of_le hg
  rw [puts_add, puts_none h]
theorem puts_or (ps : List Stf) (u : List Bool) : ∀ n, (putsN ps n u).length = u.length + n ∨ putL ps (putsN ps n u) = none
  | 0 => .inl rfl
  | n + 1 => by
    rw [putsN_succ]
    unfold stepP
    cases e : putL ps (putsN ps n u) with
    | none => exact .inr e
    | some b =>
      rcases puts_or ps u n with h | h
      · refine .inl ?_
        show (putsN ps n u ++ [b]).length = _
        rw [List.length_append, h]
        rfl
      · rw [e] at h
        cases h
theorem puts_end {ps : List Stf} {u : List Bool} {n : Nat} (h : (putsN ps n u).length < u.length + n) : putL ps (putsN ps n u) = none :=
  (puts_or ps u n).elim (fun e => absurd e (by omega)) id
theorem putL_cat {ps : List Stf} (h4 : ∀ p ∈ ps, p.1.length ≤ 4) (x y : List Bool) (hy : 4 ≤ y.length) : putL ps (x ++ y) = putL ps y := by
  rw [← putL_tail (n := 4) h4, ← putL_tail (n := 4) (u := y) h4]
  congr 1
  rw [List.length_append, List.drop_append, List.drop_eq_nil_of_le (by omega : x.length ≤ x.length + y.length - 4), List.nil_append]
  congr 1
  omega
theorem puts_cat {ps : List Stf} (h4 : ∀ p ∈ ps, p.1.length ≤ 4) (x : List Bool) : ∀ (n : Nat) (y : List Bool), 4 ≤ y.length → putsN ps n (x ++ y) = x ++ putsN ps n y
  | 0, _, _ => rfl
  | n + 1, y, hy => by
    show putsN ps n (stepP ps (x ++ y)) = x ++ putsN ps n (stepP ps y)
    unfold stepP
    rw [putL_cat h4 x y hy]
    cases putL ps y with
    | none => exact puts_cat h4 x n y hy
    | some b =>
      show putsN ps n (x ++ y ++ [b]) = _
      rw [List.append_assoc]
      exact puts_cat h4 x n (y ++ [b]) (by rw [List.length_append]; omega)
theorem puts_ge (ps : List Stf) (u : List Bool) : ∀ n, u.length ≤ (putsN ps n u).length
  | 0 => Nat.le_refl _
  | n + 1 => by
    rw [putsN_succ]
    unfold stepP
    have := puts_ge ps u n
    split
    · rw [List.length_append]
      omega
    · exact this
theorem last5_cat (x z : List Bool) (h : 5 ≤ z.length) : last5 (x ++ z) = last5 z := by
  unfold last5
  rw [List.length_append, List.drop_append, List.drop_eq_nil_of_le (by omega : x.length ≤ x.length + z.length - 5), List.nil_append]
  congr 1
  omega
theorem snoc_ind {P : List Bool → Prop} (h0 : P []) (h1 : ∀ m b, P m → P (m ++ [b])) (m : List Bool) : P m := by
  have h : ∀ r : List Bool, P r.reverse := by
    intro r
    induction r with
    | nil => exact h0
    | cons b r ih =>
      rw [List.reverse_cons]
      exact h1 _ b ih
  have e := h m.reverse
  rw [List.reverse_reverse] at e
  exact e
/-- the body of a message -/
def bodyL (ps : List Stf) (m : List Bool) : List Bool := m.foldl (fun l b => putsN ps 24 (l ++ [b])) []
theorem bodyL_snoc (ps : List Stf) (m : List Bool) (b : Bool) : bodyL ps (m ++ [b]) = putsN ps 24 (bodyL ps m ++ [b]) := by
  unfold bodyL
  rw [List.foldl_append]
  rfl
theorem fill_line {ps : List Stf} {G : List Bool → Prop} (hc : Closed ps G) (h4 : ∀ p ∈ ps, p.1.length ≤ 4) {line : List Bool} (hl : G (last5 line)) (b : Bool) :
    G (last5 (putsN ps 24 (line ++ [b]))) ∧ putL ps (putsN ps 24 (line ++ [b])) = none ∧ (putsN ps 24 (line ++ [b])).length ≤ line.length + 20 := by
  obtain ⟨h1, h2⟩ := hc.2 _ hl b
  have hend : putL ps (putsN ps 24 (last5 line ++ [b])) = none := puts_end (by rw [List.length_append]; show _ < (last5 line).length + 1 + 24; omega)
  by_cases hs : line.length ≤ 5
  · have e : last5 line = line := by
      unfold last5
      rw [show line.length - 5 = 0 by omega]
      rfl
    rw [e] at h1 h2 hend
    exact ⟨h2, hend, h1⟩
  · obtain ⟨x, y, e, hy, el⟩ : ∃ x y, line = x ++ y ∧ y.length = 5 ∧ last5 line = y :=
      ⟨line.take (line.length - 5), line.drop (line.length - 5), (List.take_append_drop _ _).symm, by rw [List.length_drop]; omega, rfl⟩
    rw [el] at h1 h2 hend
    have hyl : (y ++ [b]).length = 6 := by rw [List.length_append, hy]; rfl
    have hge := puts_ge ps (y ++ [b]) 24
    rw [e, List.append_assoc, puts_cat h4 x 24 (y ++ [b]) (by omega), last5_cat _ _ (by omega), putL_cat h4 _ _ (by omega), List.length_append, List.length_append]
    exact ⟨h2, hend, by omega⟩
theorem body_ok {ps : List Stf} (hf : Fill ps) (h4 : ∀ p ∈ ps, p.1.length ≤ 4) (m : List Bool) (b : Bool) :
    putL ps (putsN ps 24 (bodyL ps m ++ [b])) = none ∧ (putsN ps 24 (bodyL ps m ++ [b])).length ≤ (bodyL ps m).length + 20 := by
  obtain ⟨G, hc⟩ := hf
  have hG : ∀ m : List Bool, G (last5 (bodyL ps m)) := by
    refine snoc_ind hc.1 fun m b ih => ?_
    rw [bodyL_snoc]
    exact (fill_line hc h4 ih b).1
  exact (fill_line hc h4 (hG m) b).2
theorem body_len {ps : List Stf} (hf : Fill ps) (h4 : ∀ p ∈ ps, p.1.length ≤ 4) (m : List Bool) : (bodyL ps m).length ≤ 20 * m.length := by
  refine snoc_ind (P := fun m => (bodyL ps m).length ≤ 20 * m.length) (Nat.le_refl _) (fun m b ih => ?_) m
  rw [bodyL_snoc]
  have := (body_ok hf h4 m b).2
  rw [List.length_append]
  show _ ≤ 20 * (m.length + 1)
  omega
theorem puts_perm {ps qs : List Stf} (h : ∀ u, putL qs u = putL ps u) : ∀ (n : Nat) (u : List Bool), putsN qs n u = putsN ps n u
  | 0, _ => rfl
  | n + 1, u => by
    rw [putsN_succ, putsN_succ, puts_perm h n u]
    unfold stepP
    rw [h]
theorem fill_perm {ps qs : List Stf} (h : ∀ u, putL qs u = putL ps u) (hf : Fill ps) : Fill qs := by
  obtain ⟨G, h0, h1⟩ := hf
  refine ⟨G, h0, fun s hs b => ?_⟩
  rw [puts_perm h]
  exact h1 s hs b
theorem body_perm {ps qs : List Stf} (h : ∀ u, putL qs u = putL ps u) (m : List Bool) : bodyL qs m = bodyL ps m := by
  unfold bodyL
  congr 1
  funext l b
  exact puts_perm h 24 _
theorem take_snoc {m : List Bool} {i : Nat} {b : Bool} (h : m[i]? = some b) : m.take (i + 1) = m.take i ++ [b] := by
  rw [List.take_add_one, h]
  rfl
/-- a for that is left by break, too: what stands behind it is shown once -/
theorem for_itB {J : It} {n : Nat} {G : Hp → Prop} {Y : Nat → Hp → V → Hp → Prop} (w : Walk J n G Y) {g : TG} {tb : TS} {D : Ends} {σ : L2.St} {H : Hp} (Pv : Nat → L2.St → Hp → Prop) (B : L2.St → Hp → Prop) (h0 : Pv 0 σ H) (hG : ∀ i σ H, i ≤ n → Pv i σ H → G H)
    (hn : ∀ σ H, Pv n σ H → B σ H)
    (hs : (∀ σ H, B σ H → D.nx σ H) → ∀ i x σ H H', i < n → Pv i σ H → Y i H x H' → g x σ H' fun σ2 H2 => tb { D with nx := Pv (i + 1), ct := Pv (i + 1), bk := D.nx } σ2 H2) (hd : ∀ σ H, B σ H → D.nx σ H) :
    ∃ W : Nat → Nat → L2.St → Hp → Prop, (∃ m, W 0 m σ H) ∧ ∀ i m σ H, W i m σ H →
      (J.stop i H ∧ D.nx σ H) ∨ (J.go i H ∧ ∃ N : L2.St → Hp → Prop, (∀ σ' H', N σ' H' → ∃ m', m' < m ∧ W (i + 1) m' σ' H') ∧ ∀ x H', J.yld i H x H' → g x σ H' fun σ2 H2 => tb { D with nx := N, ct := N, bk := D.nx } σ2 H2) :=
  for_it w Pv h0 hG (hs hd) fun σ H p => hd σ H (hn σ H p)
open PySem.StrLaws in
theorem find_or (x y : Str) : (Txt.find x y = -1 ∧ ∀ i, ¬ At x y x.length i) ∨ ∃ i : Nat, Txt.find x y = (i : Int) ∧ At x y x.length i ∧ ∀ k, k < i → ¬ At x y x.length k := by
  rcases occ_head x y 1 (Nat.le_refl 1) with ⟨e, h⟩ | ⟨i, r, e, h1, h2⟩
  · refine .inl ⟨?_, h⟩
    unfold Txt.find
    rw [e]
  · refine .inr ⟨i, ?_, h1, h2⟩
    unfold Txt.find
    rw [e]
theorem find_bound (x y : Str) : -1 ≤ Txt.find x y ∧ Txt.find x y ≤ (x.length : Int) := by
  rcases find_or x y with ⟨e, _⟩ | ⟨i, e, h, _⟩
  · rw [e]
    omega
  · rw [e]
    have := h.1
    omega
theorem find_self (x : Str) : Txt.find x x = 0 := by
  have h0 : PySem.StrLaws.At x x x.length 0 := by
    refine ⟨by omega, ?_⟩
    unfold Builtin.Str.subAt
    rw [Nat.zero_add]
    show (x.cps.extract 0 x.cps.size == x.cps) = true
    rw [Array.extract_size]
    exact beq_self_eq_true _
  rcases find_or x x with ⟨_, h⟩ | ⟨i, e, _, h⟩
  · exact absurd h0 (h 0)
  · cases i with
    | zero => exact e
    | succ i => exact absurd h0 (h 0 (Nat.succ_pos i))
theorem log_small {n : Int} (h1 : -100000 ≤ n) (h2 : n ≤ 100000) : n.natAbs.log2 < 1920 := by
  by_cases h0 : n.natAbs = 0
  · rw [h0]
    decide
  · exact Nat.lt_trans ((Nat.log2_lt h0).mpr (show n.natAbs < 2 ^ 17 by omega)) (by decide)
theorem bit_at {w : List Bool} {i : Nat} {c : Nat} (h : (WS w).cps[i]? = some c) : ∃ b, w[i]? = some b ∧ (⟨#[c]⟩ : Str) = WS [b] := by
  rw [WS_get] at h
  obtain ⟨b, hb, rfl⟩ := Option.map_eq_some_iff.mp h
  exact ⟨b, hb, rfl⟩
/-! ### promises -/
def spFilled (C : Addr) : Sp := fun vs H Q _ => ∃ (p : Addr) (flag : List Bool) (ps : List Stf) (line : List Bool), vs = [.ref p, .str (WS line)] ∧ RlAt C H p flag ps ∧ putL ps (putsN ps 24 line) = none ∧ line.length ≤ 90000 ∧ ∀ H', Same H H' → Q (.str (WS (putsN ps 24 line))) H'
def spBody (C : Addr) : Sp := fun vs H Q _ => ∃ (p : Addr) (flag : List Bool) (ps : List Stf) (m : List Bool), vs = [.ref p, .str (WS m)] ∧ RlAt C H p flag ps ∧ Fill ps ∧ (∀ p ∈ ps, p.1.length ≤ 4) ∧ m.length ≤ 400 ∧ ∀ H', Same H H' → Q (.str (WS (bodyL ps m))) H'
def spFlagAt (C : Addr) : Sp := fun vs H Q _ => ∃ (p : Addr) (flag : List Bool) (ps : List Stf) (m : List Bool), vs = [.ref p, .str (WS m)] ∧ RlAt C H p flag ps ∧ Fill ps ∧ (∀ p ∈ ps, p.1.length ≤ 4) ∧ m.length ≤ 400 ∧ flag.length ≤ 900 ∧ ∀ H', Same H H' → Q (.int (Txt.find (WS (bodyL ps m ++ flag)) (WS flag))) H'
def spLBody : Sp := fun vs H Q _ => ∃ (t : Addr) (flag : List Bool) (ps : List Stf) (m : List Bool), vs = [.ref t, .str (WS m)] ∧ RuAt H t flag ps ∧ Fill ps ∧ ps.length ≤ 2 ∧ (∀ p ∈ ps, p.1.length ≤ 4) ∧ m.length ≤ 40 ∧ ∀ H', Same H H' → Q (.str (WS (bodyL ps m))) H'
end Own

set_option Elab.async false
set_option linter.all false
set_option maxRecDepth 100000
set_option maxHeartbeats 2000000
/-! own == and != of two instances of one class -/
namespace OwnC
open PySem PySem.Spec PyProof.Rows PySem.W
section
variable {prog : Program} {w : World} {A : Around} {E : Value → Shared → Prop} {s : Shared} {K : Frag} {x C f L : Addr} {h₀ : Heap} {m : Str → Option Value} {ox : Obj} {od : Option Obj} {b tb : Value}
theorem ne_entry (X : K.In s.heap) (I : InstAt s.heap x ox C od) (hs : findIn K (.ref C) "__eq__" = some (some (.ref f))) (hf : isFn K (.ref f) = true) (hu : A.units < cLine) {Q : Fin → Shared → Prop}
    (hcall : wpAny (model prog w) A (call (.ref f) [.ref x, b]) (fun v s' => ∃ c, v = .bool c ∧ Q (.done (.ret (.bool (!c)))) s') E s) :
    wpAny (model prog w) A (Builtin.«object.__ne__» ⟨[.ref x, b], []⟩) Q E s := by
  unfold Builtin.«object.__ne__»
  repeat (first
    | with_reducible refine wpAny_cRoomFor hu ?_
    | (refine wpAny_bind (m := callSpecialIfBound? (.ref x) (Str.ofString "__eq__") [b])
        (ifBound_K X I hs hf (wpAny_mono hcall (fun v s' hr => by
          obtain ⟨c, rfl, hq⟩ := hr
          repeat (first | exact hq | exact wpAny_pure hq | exact wpAny_truthy_bool hq | (refine wpAny_bind (m := truthy (.bool _)) (wpAny_truthy_bool ?_)) | wp_step)) fun _ _ e => e)))
    | wp_step)
theorem try_ne {Q : Option Value → Shared → Prop} (X : K.In s.heap) (I : InstAt s.heap x ox C od) (hm : mroIn K C (.type "object") = some true) (hne : findIn K (.ref C) "__ne__" = some (some (.builtin "object.__ne__")))
    (hs : findIn K (.ref C) "__eq__" = some (some (.ref f))) (hf : isFn K (.ref f) = true) (hu : A.in1.units < cLine)
    (hcall : wpAny (model prog w) A.in1 (call (.ref f) [.ref x, b]) (fun v s' => ∃ c, v = .bool c ∧ Q (some (.bool (!c))) s') E s) :
    wpAny (model prog w) A (tryCompare (.ref x) "__ne__" b) Q E s := by
  have fin : wpAny (model prog w) A (call (.builtin "object.__ne__") [.ref x, b]) (fun v s' => ∃ c, v = .bool (!c) ∧ Q (some (.bool (!c))) s') E s :=
    wpAny_call (codeAny_call_builtin F.cmp_object.ne.plain F.cmpEntry_ne (PySem.W.check_slot F.cmpKind_ne F.cmpSplit_ne (I.type.andThen (PySem.W.looks_mroIn X hm)) (F.cmpArgs_ne _ _)
      (ne_entry (A := A.in1) X I hs hf hu (wpAny_mono hcall (fun v s' hv => by
        obtain ⟨c, e, q⟩ := hv
        exact ⟨c, e, c, rfl, q⟩) fun _ _ e => e))))
  unfold tryCompare
  refine wpAny_bind ?_
  simp only [callSpecialIfBound?, bindSpecialIfBound?]
  refine wpAny_holding (wpAny_bind (wpAny_bind (wpAny_bind (I.type.here ((PySem.W.looks_findIn X hne).here ?_)))))
  refine wpAny_bind (wpAny_askSetting (wpAny_ite ?_))
  have fin2 : wpAny (model prog w) A (call (.builtin "object.__ne__") ([.ref x] ++ [b]) >>= fun v => pure (some v)) (fun r s' => ∃ c, r = some (.bool (!c)) ∧ Q (some (.bool (!c))) s') E s := wpAny_bind (wpAny_mono fin (fun v s' h' => by
    obtain ⟨c, e, q⟩ := h'
    subst e
    exact wpAny_pure ⟨c, rfl, q⟩) fun _ _ h' => h')
  split
  · exact wpAny_bind (wpAny_of_eq (F.cmp_object.ne.bind _) (wpAny_pure (wpAny_mono fin2 (fun r s' z => by
      obtain ⟨c, rfl, q⟩ := z
      exact wpAny_pure q) fun _ _ h => h)))
  · exact wpAny_tryCatch (wpAny_bind (wpAny_of_eq (F.cmp_object.ne.bind _) (wpAny_pure (wpAny_mono fin2 (fun r s' z => by
      obtain ⟨c, rfl, q⟩ := z
      exact wpAny_pure q) fun _ _ h => h))))
theorem cmpNe_K {Q : Value → Shared → Prop} (F : Fr h₀ L s.heap m) (X₀ : K.In h₀) (I : InstAt s.heap x ox C od) (hb : Looks (model prog w) s.heap (typeOf b) tb) (hn : notFirst K C tb = true)
    (hm : mroIn K C (.type "object") = some true) (hne : findIn K (.ref C) "__ne__" = some (some (.builtin "object.__ne__"))) (hs : findIn K (.ref C) "__eq__" = some (some (.ref f))) (hf : isFn K (.ref f) = true) (hu : A.units + 1 < cLine)
    (h : wpAny (model prog w) A.in1 (call (.ref f) [.ref x, b]) (fun v s' => ∃ c, v = .bool c ∧ Q (.bool (!c)) s') E s) : wpAny (model prog w) A (richCompare .NotEq (.ref x) b) Q E s := by
  have X := X₀.keeps F.keep
  have one : wpAny (model prog w) A (tryCompare (.ref x) (cmpInfo .NotEq).2.1 b) (fun r s' => ∃ v, r = some v ∧ Q v s') E s := by
    rw [cmpInfo_NotEq]
    exact try_ne X I hm hne hs hf (show A.units + 1 < cLine from hu) (wpAny_mono h (fun v s' z => by
      obtain ⟨c, e, q⟩ := z
      exact ⟨c, e, _, rfl, q⟩) fun _ _ e => e)
  unfold richCompare
  simp only [oneThing_ref]
  refine wpAny_holding (wpAny_bind (wpAny_cRoomFor (Nat.lt_of_succ_lt hu) ?_))
  refine wpAny_bind (I.type.here (wpAny_bind (hb.here ?_)))
  split
  · rename_i q
    have e : subIn K tb (.ref C) = some false := by
      rcases Bool.or_eq_true_iff.mp hn with e | e
      · rw [beq_iff_eq.mp e] at q; simp at q
      · exact beq_iff_eq.mp e
    refine wpAny_bind ((looks_subIn X e).here ?_)
    simp only [Bool.false_eq_true, if_false]
    refine wpAny_bind (wpAny_mono one (fun r s' z => ?_) fun _ _ e => e)
    obtain ⟨v, rfl, hq⟩ := z
    exact wpAny_pure hq
  · refine wpAny_bind (wpAny_pure ?_)
    simp only [Bool.false_eq_true, if_false]
    refine wpAny_bind (wpAny_mono one (fun r s' z => ?_) fun _ _ e => e)
    obtain ⟨v, rfl, hq⟩ := z
    exact wpAny_pure hq
open Builtin Builtin.Str in
theorem str_new_in {v : Value} : MeetsIn prog w («str.__new__» ⟨[.type "str", v], []⟩) (fun A R s => wpAny (model prog w) A.in1 (strOf v) (fun r s' => R (.ok (.ret r)) s') (fun e s' => R (.error e) s') s) :=
  .of_wp fun A R s h => by
    rw [str_new_tree v]
    refine wpAny_bind (wpAny_pure ?_)
    refine wpAny_bind (wpAny_of_eq isSubtype_str_str ?_)
    exact wpAny_bind (wpAny_mono h (fun r s' h' => wpAny_pure ⟨_, rfl, h'⟩) fun _ _ e => e)
open Builtin Builtin.Str in
theorem str_K {Q : Value → Shared → Prop} (hu : A.in1.in1.units < cLine) (FR : Fr h₀ L s.heap m) (X₀ : K.In h₀) (I : InstAt s.heap x ox C od) (hs : findIn K (.ref C) "__str__" = some (some (.ref f))) (hf : isFn K (.ref f) = true)
    (h : wpAny (model prog w) A.in1.in1 (call (.ref f) [.ref x]) (StrBack Q) E s) : wpAny (model prog w) A (call (.type "str") [.ref x]) Q E s := by
  refine callType_newIn F.called_str (by decide) (F.typeCall_str_1 _) (F.newCall_str_1 _) (fun obj => F.args_object_init_2 obj _) F.entry_str_new str_new_in ?_
  unfold Builtin.Str.strOf
  rw [if_neg (show ¬ isExactStr (.ref x) = true from fun e => by cases e)]
  refine wpAny_bind (wpAny_cRoomFor hu ?_)
  refine wpAny_bind (m := callSpecial? (.ref x) (Str.ofString "__str__")) (special_fn (X₀.keeps FR.keep) I hs (beq_iff_eq.mp hf) (wpAny_mono h (fun r s' hr => ?_) fun _ _ y => y))
  cases r <;> first | exact hr.elim | skip
  rename_i a t
  refine wpAny_bind (wpAny_of_eq (rfl : asStr? (.str a t) = pure (some a)) ?_)
  exact wpAny_pure ⟨typeIs_str _ _ _, hr⟩
end
end OwnC
namespace Own
open PySem PySem.Spec PyProof.Rows L2
open C8 (pass0)
/-- == (neg = false) and != (neg = true) of two instances of the class at C, by the promise of its own == -/
def rOwnCmp (C : Addr) (sp : Sp) (neg : Bool) : R2 := fun x y H Q => ∃ a b dx dy fs gs, x = .ref a ∧ y = .ref b ∧ H a = some (.ins C dx fs) ∧ H b = some (.ins C dy gs) ∧ sp [.ref a, .ref b] H (fun v H' => ∃ c, v = .bl c ∧ Q (.bl (if neg then !c else c)) H') C8.E0
/-- what the module says of the class whose == it is -/
structure EqM (P : Program) (w : World) (K : PySem.W.Frag) (mg : Str → Option Value) (base : Heap) (k : Nat) (C : Addr) (sp : Sp) : Prop where
  ex : ∃ (f : Addr) (fd : FuncData) (ps : List Str), FnOk P w K mg base C8.CX0 k f fd ps sp ∧ PySem.W.findIn K (.ref C) "__eq__" = some (some (.ref f)) ∧ PySem.W.isFn K (.ref f) = true ∧ Binds K fd ps [] ∧
    PySem.W.mroIn K C (.type "object") = some true ∧ PySem.W.findIn K (.ref C) "__ne__" = some (some (.builtin "object.__ne__"))
section
variable {X : Cx} {j k : Nat} {C : Addr} {sp : Sp}
theorem own_call {A : Around} {pins : List (Addr × Obj)} {σ : L2.St} {H : Hp} {s : Shared} {f : Addr} {fd : FuncData} {ps : List Str} {a b : Addr} {Q : VK} (I : Inv X pins σ H s) (sb : Sub X k A) (F : FnOk X.prog X.w X.K X.mg X.base C8.CX0 k f fd ps sp) (hb : Binds X.K fd ps [])
    (hsp : sp [.ref a, .ref b] H Q C8.E0) : wpAny (model X.prog X.w) A (call (.ref f) [.ref a, .ref b]) (fun v s' => ∃ z H', Inv X pins σ H' s' ∧ RelV z v ∧ Q z H') X.xe s := by
  have e0 : Env0 X.prog X.w X.K X.mg X.base A X.stack s H := by
    have e := I.env0
    exact ⟨by rw [sb.fr]; exact e.frames, e.mod, e.bs, e.bsz, e.funs, e.frf, e.hok, e.bare⟩
  have hl := F.len _ _ _ _ hsp
  have r2 : Vals [V.ref a, V.ref b] [Value.ref a, Value.ref b] := .cons rfl (.cons rfl .nil)
  refine wpAny_call (codeAny_mono (F.run A X.stack s H ⟨[.ref a, .ref b], []⟩ [.ref a, .ref b] [.ref a, .ref b] _ C8.E0 sb.room e0 (by
    have := hb s [.ref a, .ref b] I.kIn (by simpa using hl)
    simpa using this) r2 hsp) fun r s' hq => ?_)
  cases r with
  | error e => exact C8.pass0 (X := X) (E := C8.E0) pins σ H s e s' I hq
  | ok fl =>
    cases fl with
    | ret w =>
      obtain ⟨z, H', I', rz, ez⟩ := I.after hq
      exact ⟨z, H', I', rz, ez⟩
    | next => exact False.elim hq
    | brk => exact False.elim hq
    | cont => exact False.elim hq
theorem op_ownEq (M : EqM X.prog X.w X.K X.mg X.base k C sp) (hr : Room j X.A) (hk : k ≤ j) : OpR X (compareOp .Eq) (rOwnCmp C sp false) := by
  intro pins s σ H x y u v Q I rx ry h
  obtain ⟨a, b, dx, dy, fs, gs, rfl, rfl, ha, hb', hsp⟩ := h
  obtain ⟨f, fd, ps, F, hs, hf, hb, _, _⟩ := M.ex
  cases rx
  cases ry
  obtain ⟨mA, J, _⟩ := ins_get I.hok ha
  obtain ⟨mB, J', _⟩ := ins_get I.hok hb'
  obtain ⟨od, J, _⟩ := J.look
  obtain ⟨od', J', _⟩ := J'.look
  obtain ⟨m, hF⟩ := I.fr
  show wpAny (model X.prog X.w) X.A (richCompare .Eq (.ref a) (.ref b)) (EP X pins σ Q) X.xe s
  refine PySem.W.cmp_K (op := .Eq) (tb := .ref C) hr.units0 hF I.ok.mod.kin J J'.type (by simp [PySem.W.notFirst]) hs hf ?_
  refine wpAny_mono (own_call I ⟨hr.mono hk, rfl⟩ F hb hsp) (fun r s' z => ?_) fun _ _ x => x
  obtain ⟨z, H', I', rz, c, rfl, q⟩ := z
  cases rz
  exact ⟨.bl c, H', I', rfl, q⟩
theorem op_ownNe (M : EqM X.prog X.w X.K X.mg X.base k C sp) (hr : Room j X.A) (hk : k + 1 ≤ j) : OpR X (compareOp .NotEq) (rOwnCmp C sp true) := by
  intro pins s σ H x y u v Q I rx ry h
  obtain ⟨a, b, dx, dy, fs, gs, rfl, rfl, ha, hb', hsp⟩ := h
  obtain ⟨f, fd, ps, F, hs, hf, hb, hm, hne⟩ := M.ex
  cases rx
  cases ry
  obtain ⟨mA, J, _⟩ := ins_get I.hok ha
  obtain ⟨mB, J', _⟩ := ins_get I.hok hb'
  obtain ⟨od, J, _⟩ := J.look
  obtain ⟨od', J', _⟩ := J'.look
  obtain ⟨m, hF⟩ := I.fr
  have sb : Sub X (k + 1) X.A := ⟨hr.mono hk, rfl⟩
  show wpAny (model X.prog X.w) X.A (richCompare .NotEq (.ref a) (.ref b)) (EP X pins σ Q) X.xe s
  refine OwnC.cmpNe_K (tb := .ref C) hF I.ok.mod.kin J J'.type (by simp [PySem.W.notFirst]) hm hne hs hf sb.in1.room.units0 ?_
  refine wpAny_mono (own_call I sb.in1 F hb hsp) (fun r s' z => ?_) fun _ _ x => x
  obtain ⟨z, H', I', rz, c, rfl, q⟩ := z
  cases rz
  exact ⟨c, rfl, .bl (!c), H', I', rfl, q⟩
/-- a special method of one argument, as the module has it -/
structure OneM (P : Program) (w : World) (K : PySem.W.Frag) (mg : Str → Option Value) (base : Heap) (k : Nat) (C : Addr) (name : Str) (sp : Sp) : Prop where
  ex : ∃ (f : Addr) (fd : FuncData) (ps : List Str), FnOk P w K mg base C8.CX0 k f fd ps sp ∧ PySem.W.findIn K (.ref C) name = some (some (.ref f)) ∧ PySem.W.isFn K (.ref f) = true ∧ Binds K fd ps []
theorem one_call {A : Around} {pins : List (Addr × Obj)} {σ : L2.St} {H : Hp} {s : Shared} {f : Addr} {fd : FuncData} {ps : List Str} {a : Addr} {Q : VK} (I : Inv X pins σ H s) (sb : Sub X k A) (F : FnOk X.prog X.w X.K X.mg X.base C8.CX0 k f fd ps sp) (hb : Binds X.K fd ps [])
    (hsp : sp [.ref a] H Q C8.E0) : wpAny (model X.prog X.w) A (call (.ref f) [.ref a]) (fun v s' => ∃ z H', Inv X pins σ H' s' ∧ RelV z v ∧ Q z H') X.xe s := by
  have e0 : Env0 X.prog X.w X.K X.mg X.base A X.stack s H := by
    have e := I.env0
    exact ⟨by rw [sb.fr]; exact e.frames, e.mod, e.bs, e.bsz, e.funs, e.frf, e.hok, e.bare⟩
  have hl := F.len _ _ _ _ hsp
  have r2 : Vals [V.ref a] [Value.ref a] := .cons rfl .nil
  refine wpAny_call (codeAny_mono (F.run A X.stack s H ⟨[.ref a], []⟩ [.ref a] [.ref a] _ C8.E0 sb.room e0 (by
    have := hb s [.ref a] I.kIn (by simpa using hl)
    simpa using this) r2 hsp) fun r s' hq => ?_)
  cases r with
  | error e => exact C8.pass0 (X := X) (E := C8.E0) pins σ H s e s' I hq
  | ok fl =>
    cases fl with
    | ret w =>
      obtain ⟨z, H', I', rz, ez⟩ := I.after hq
      exact ⟨z, H', I', rz, ez⟩
    | next => exact False.elim hq
    | brk => exact False.elim hq
    | cont => exact False.elim hq
def rOwnStr (C : Addr) (sp : Sp) : List V → Hp → VK → Prop := fun xs H Q => ∃ a dx fs, xs = [V.ref a] ∧ H a = some (.ins C dx fs) ∧ sp [.ref a] H (fun v H' => ∃ z, v = .str z ∧ Q (.str z) H') C8.E0
def rOwnLen (C : Addr) (sp : Sp) : List V → Hp → VK → Prop := fun xs H Q => ∃ a dx fs, xs = [V.ref a] ∧ H a = some (.ins C dx fs) ∧ sp [.ref a] H (fun v H' => ∃ n : Int, v = .int n ∧ 0 ≤ n ∧ n < 2 ^ 63 ∧ Q (.int n) H') C8.E0
theorem call_ownStr (M : OneM X.prog X.w X.K X.mg X.base k C "__str__" sp) (hr : Room j X.A) (hk : k + 2 ≤ j) : CallR X (.type "str") (rOwnStr C sp) := by
  intro pins s σ H xs us Q I r h
  obtain ⟨a, dx, fs, rfl, ha, hsp⟩ := h
  match us, r with
  | [u], .cons ra .nil =>
    cases (show u = Value.ref a from ra)
    obtain ⟨f, fd, ps, F, hs, hf, hb⟩ := M.ex
    obtain ⟨mA, J, _⟩ := ins_get I.hok ha
    obtain ⟨od, J, _⟩ := J.look
    obtain ⟨m, hF⟩ := I.fr
    have sb : Sub X (k + 1 + 1) X.A := ⟨hr.mono hk, rfl⟩
    refine OwnC.str_K sb.in1.in1.room.units0 hF I.ok.mod.kin J hs hf ?_
    refine wpAny_mono (one_call I sb.in1.in1 F hb hsp) (fun r s' z => ?_) fun _ _ x => x
    obtain ⟨z, H', I', rz, c, rfl, q⟩ := z
    obtain ⟨t, rfl⟩ := (show ∃ t, r = Value.str c t from rz)
    exact ⟨.str c, H', I', ⟨t, rfl⟩, q⟩
theorem call_ownLen (M : OneM X.prog X.w X.K X.mg X.base k C "__len__" sp) (hr : Room j X.A) (hk : k + 1 ≤ j) : CallR X (.builtin "len") (rOwnLen C sp) := by
  intro pins s σ H xs us Q I r h
  obtain ⟨a, dx, fs, rfl, ha, hsp⟩ := h
  match us, r with
  | [u], .cons ra .nil =>
    cases (show u = Value.ref a from ra)
    obtain ⟨f, fd, ps, F, hs, hf, hb⟩ := M.ex
    obtain ⟨mA, J, _⟩ := ins_get I.hok ha
    obtain ⟨od, J, _⟩ := J.look
    obtain ⟨m, hF⟩ := I.fr
    have sb : Sub X (k + 1) X.A := ⟨hr.mono hk, rfl⟩
    refine PySem.W.len_K hF I.ok.mod.kin J hs hf ?_
    refine wpAny_mono (one_call I sb.in1 F hb hsp) (fun r s' z => ?_) fun _ _ x => x
    obtain ⟨z, H', I', rz, n, rfl, n0, n1, q⟩ := z
    obtain ⟨t, rfl⟩ := (show ∃ t, r = Value.int n t from rz)
    exact ⟨⟨n0, n1⟩, .int n, H', I'.tok _, ⟨_, rfl⟩, q⟩
end
end Own

set_option Elab.async false
set_option linter.all false
set_option maxRecDepth 100000
set_option maxHeartbeats 2000000
/-! rules compared, exchanged, told -/
namespace Own
open PySem PySem.Spec PyProof.Rows L2
/-! ### sorted: one result for all orders -/
theorem encP_inj {p q : Stf} (h : PySem.W.keyToks (encP p) = PySem.W.keyToks (encP q)) : p = q := by
  have h' : ([.inl 1, .inr (WS p.1).cps.toList, .inl 1, .inr (WS [p.2]).cps.toList, .inl 0] : List (Int ⊕ List Nat)) = [.inl 1, .inr (WS q.1).cps.toList, .inl 1, .inr (WS [q.2]).cps.toList, .inl 0] := h
  injection h' with _ h1
  injection h1 with e1 h2
  injection h2 with _ h3
  injection h3 with e2 _
  injection e1 with e1
  injection e2 with e2
  have s1 : WS p.1 = WS q.1 := by
    cases hp : WS p.1 with | mk a => cases hq : WS q.1 with | mk b =>
      rw [hp, hq] at e1
      exact congrArg _ (Array.toList_inj.mp e1)
  have s2 : WS [p.2] = WS [q.2] := by
    cases hp : WS [p.2] with | mk a => cases hq : WS [q.2] with | mk b =>
      rw [hp, hq] at e2
      exact congrArg _ (Array.toList_inj.mp e2)
  have t1 := WS_inj s1
  have t2 := WS_inj s2
  injection t2 with t2
  exact Prod.ext t1 t2
theorem le_anti (p q : Stf) (h1 : PySem.W.dataLe false encP p q = true) (h2 : PySem.W.dataLe false encP q p = true) : p = q := by
  have h1' : (!(listOrd itemOrd).blt (PySem.W.keyToks (encP q)) (PySem.W.keyToks (encP p))) = true := h1
  have h2' : (!(listOrd itemOrd).blt (PySem.W.keyToks (encP p)) (PySem.W.keyToks (encP q))) = true := h2
  rw [Bool.not_eq_true'] at h1' h2'
  exact encP_inj ((listOrd itemOrd).total _ _ h2' h1')
theorem sortP_eq {ps qs : List Stf} (h : ps.Perm qs) : sortP ps = sortP qs := by
  have T := PySem.W.sortLe_total (listOrd itemOrd) false fun b : Stf => PySem.W.keyToks (encP b)
  have hp : ((sortP ps).Pairwise fun x y => PySem.W.dataLe false encP x y = true) := List.pairwise_mergeSort T.trans (fun a b => by
    have := T.total a b
    rwa [Bool.or_eq_true]) ps
  exact PySem.W.Srt.the_of_perm _ T.trans (fun a b => by
    have := T.total a b
    rwa [Bool.or_eq_true]) le_anti ((sortP_perm ps).trans h) hp
theorem sortP_idem (ps : List Stf) : sortP (sortP ps) = sortP ps := sortP_eq (sortP_perm ps)
/-! ### the order does not matter -/
theorem parted_iff {ws : List (List Bool)} : partedB ws = true ↔ ws.Pairwise fun a b => ¬ b <:+ a ∧ ¬ a <:+ b := by
  rw [List.pairwise_iff_getElem]
  constructor
  · intro h i j hi hj hij
    exact ⟨parted_ne h (List.getElem?_eq_getElem hi) (List.getElem?_eq_getElem hj) (by omega), parted_ne h (List.getElem?_eq_getElem hj) (List.getElem?_eq_getElem hi) (by omega)⟩
  · intro h
    refine partedB_of fun i j a b hi hj hne => ?_
    obtain ⟨li, ei⟩ := List.getElem?_eq_some_iff.mp hi
    obtain ⟨lj, ej⟩ := List.getElem?_eq_some_iff.mp hj
    rw [← ei, ← ej]
    rcases Nat.lt_or_gt_of_ne hne with hlt | hlt
    · exact (h i j li lj hlt).1
    · exact (h j i lj li hlt).2
theorem parted_perm {ws vs : List (List Bool)} (pm : vs.Perm ws) (h : partedB ws = true) : partedB vs = true := by
  rw [parted_iff] at h ⊢
  exact (pm.pairwise_iff fun {x y} h => ⟨h.2, h.1⟩).mpr h
theorem longL_perm {ps qs : List Stf} (pm : qs.Perm ps) : longL qs = longL ps :=
  Nat.le_antisymm (longL_le fun p hp => le_longL (pm.mem_iff.mp hp)) (longL_le fun p hp => le_longL (pm.mem_iff.mpr hp))
theorem ends_perm {ps qs : List Stf} (hp : ∀ u, putL qs u = putL ps u) (hl : longL qs = longL ps) : ∀ (n : Nat) (u : List Bool), endsIn qs n u = endsIn ps n u
  | 0, u => by
    unfold endsIn
    rw [hp]
  | n + 1, u => by
    unfold endsIn
    rw [hp]
    cases putL ps u with
    | none => rfl
    | some b =>
      show endsIn qs n (nextL qs u b) = endsIn ps n (nextL ps u b)
      unfold nextL
      rw [hl]
      exact ends_perm hp hl n _
theorem RuleOk.perm {ps qs : List Stf} (pm : qs.Perm ps) (ok : RuleOk ps) : RuleOk qs := by
  refine ⟨fun p hp => ok.ne p (pm.mem_iff.mp hp), fun p hp => ok.len p (pm.mem_iff.mp hp), by rw [pm.length_eq]; exact ok.few, parted_perm (pm.map _) ok.parted, ?_⟩
  have h := ok.ends
  unfold endsAll at h ⊢
  rw [List.all_eq_true] at h ⊢
  intro p hp
  rw [ends_perm (putL_perm ok.parted pm) (longL_perm pm)]
  exact h p (pm.mem_iff.mp hp)
theorem RuleOk.sort {ps : List Stf} (ok : RuleOk ps) : RuleOk (sortP ps) := ok.perm (sortP_perm ps)
/-! ### 0 and 1 exchanged -/
def nt (u : List Bool) : List Bool := u.map not
theorem nt_nt (u : List Bool) : nt (nt u) = u := by
  unfold nt
  rw [List.map_map]
  conv => rhs; rw [← List.map_id u]
  congr 1
  funext b
  cases b <;> rfl
theorem nt_len (u : List Bool) : (nt u).length = u.length := List.length_map ..
theorem nt_suf {a b : List Bool} : nt a <:+ nt b ↔ a <:+ b := by
  constructor
  · intro h
    have := h.map not
    change nt (nt a) <:+ nt (nt b) at this
    rwa [nt_nt, nt_nt] at this
  · exact fun h => h.map not
def swS (p : Stf) : Stf := (nt p.1, !p.2)
def swP (ps : List Stf) : List Stf := ps.map swS
theorem swS_swS (p : Stf) : swS (swS p) = p := by
  unfold swS
  rw [nt_nt, Bool.not_not]
theorem swP_swP (ps : List Stf) : swP (swP ps) = ps := by
  unfold swP
  rw [List.map_map]
  conv => rhs; rw [← List.map_id ps]
  congr 1
  funext p
  exact swS_swS p
theorem swP_perm {ps qs : List Stf} (h : ps.Perm qs) : (swP ps).Perm (swP qs) := h.map swS
theorem putL_sw (ps : List Stf) (u : List Bool) : putL (swP ps) (nt u) = (putL ps u).map not := by
  unfold putL swP
  rw [List.find?_map]
  have e : ((fun p : Stf => decide (p.1 <:+ nt u)) ∘ swS) = fun p : Stf => decide (p.1 <:+ u) := by
    funext p
    exact decide_eq_decide.mpr nt_suf
  rw [e]
  cases ps.find? fun p => decide (p.1 <:+ u) <;> rfl
theorem longL_sw (ps : List Stf) : longL (swP ps) = longL ps := by
  unfold longL swP
  rw [List.map_map]
  congr 1
  refine List.map_congr_left fun p _ => ?_
  exact nt_len p.1
theorem ends_sw (ps : List Stf) : ∀ (n : Nat) (u : List Bool), endsIn (swP ps) n (nt u) = endsIn ps n u
  | 0, u => by
    unfold endsIn
    rw [putL_sw]
    cases putL ps u <;> rfl
  | n + 1, u => by
    unfold endsIn
    rw [putL_sw]
    cases putL ps u with
    | none => rfl
    | some b =>
      show endsIn (swP ps) n (nextL (swP ps) (nt u) (!b)) = endsIn ps n (nextL ps u b)
      have e : nextL (swP ps) (nt u) (!b) = nt (nextL ps u b) := by
        unfold nextL nt
        rw [longL_sw, List.map_drop, List.map_append, List.length_append, List.length_append, List.length_map]
        rfl
      rw [e]
      exact ends_sw ps n _
theorem RuleOk.sw {ps : List Stf} (ok : RuleOk ps) : RuleOk (swP ps) := by
  refine ⟨fun p hp => ?_, fun p hp => ?_, ?_, ?_, ?_⟩
  · obtain ⟨q, hq, rfl⟩ := List.mem_map.mp hp
    intro e
    have := congrArg List.length e
    have h2 := List.length_pos_iff.mpr (ok.ne q hq)
    rw [show (swS q).1.length = q.1.length from nt_len _] at this
    rw [this] at h2
    exact absurd h2 (by decide)
  · obtain ⟨q, hq, rfl⟩ := List.mem_map.mp hp
    rw [show (swS q).1.length = q.1.length from nt_len _]
    exact ok.len q hq
  · unfold swP
    rw [List.length_map]
    exact ok.few
  · have h := ok.parted
    rw [parted_iff] at h ⊢
    have e : (swP ps).map (·.1) = (ps.map (·.1)).map nt := by
      unfold swP
      rw [List.map_map, List.map_map]
      rfl
    rw [e, List.pairwise_map]
    exact h.imp fun {a b} h => ⟨fun z => h.1 (nt_suf.mp z), fun z => h.2 (nt_suf.mp z)⟩
  · have h := ok.ends
    unfold endsAll at h ⊢
    rw [List.all_eq_true] at h ⊢
    intro p hp
    obtain ⟨q, hq, rfl⟩ := List.mem_map.mp hp
    show endsIn (swP ps) 40 (nt q.1) = true
    rw [ends_sw]
    exact h q hq
/-! ### the data of stuffs -/
theorem eqv_encP (p q : Stf) : PyData.eqv (encP p) (encP q) = decide (p = q) := by
  show (WS p.1 == WS q.1 && (WS [p.2] == WS [q.2] && true)) = _
  rw [Bool.and_true]
  by_cases h : p = q
  · rw [h, decide_eq_true rfl, beq_self_eq_true, beq_self_eq_true]
    rfl
  · rw [decide_eq_false h, Bool.eq_false_iff]
    intro e
    rw [Bool.and_eq_true] at e
    have h1 := WS_inj (eq_of_beq e.1)
    have h2 := WS_inj (eq_of_beq e.2)
    injection h2 with h2
    exact h (Prod.ext h1 h2)
theorem eqv_pairs : ∀ ps qs : List Stf, PyData.eqvAll (ps.map encP) (qs.map encP) = decide (ps = qs)
  | [], [] => rfl
  | [], _ :: _ => rfl
  | _ :: _, [] => rfl
  | p :: ps, q :: qs => by
    show (PyData.eqv (encP p) (encP q) && PyData.eqvAll (ps.map encP) (qs.map encP)) = _
    rw [eqv_encP, eqv_pairs ps qs]
    by_cases h1 : p = q <;> by_cases h2 : ps = qs <;> simp [h1, h2]
theorem shaped_pairsT (ps : List Stf) : SeqAt.shaped (.tuple (ps.map encP)) = true := by
  unfold SeqAt.shaped
  rw [Bool.and_eq_true, decide_eq_true_eq]
  refine ⟨canLay_pairs ps, ?_⟩
  show PyData.depthAll _ + 1 ≤ 64
  have := depth_pairs ps
  omega
/-! ### promises -/
def spOther : Sp := fun vs H Q _ => ∃ w : List Bool, vs = [.str (WS w)] ∧ w.length ≤ 1000 ∧ ∀ H', Same H H' → Q (.str (WS (nt w))) H'
def spRlEq (C : Addr) : Sp := fun vs H Q _ => ∃ (a b : Addr) (f1 f2 : List Bool) (p1 p2 : List Stf), vs = [.ref a, .ref b] ∧ RlAt C H a f1 p1 ∧ RlAt C H b f2 p2 ∧ ∀ H', Same H H' → Q (.bl (decide (f1 = f2 ∧ p1 = p2))) H'
def spRlLen (C : Addr) : Sp := fun vs H Q _ => ∃ (a : Addr) (f : List Bool) (ps : List Stf), vs = [.ref a] ∧ RlAt C H a f ps ∧ ps.length ≤ 100 ∧ ∀ H', Same H H' → Q (.int ps.length) H'
/-- the text of a stuff, and of a rule -/
def stText (p : Stf) : Str := ((Str.empty ++ WS p.1) ++ (":" : Str)) ++ WS [p.2]
def putText (ps : List Stf) : Str := Txt.join (" " : Str) (ps.map stText)
def rlText (flag : List Bool) (ps : List Stf) : Str := if ps = [] then (Str.empty ++ ("flag " : Str)) ++ WS flag else (((Str.empty ++ ("flag " : Str)) ++ WS flag) ++ (" put " : Str)) ++ putText ps
def spRlStr (C : Addr) : Sp := fun vs H Q _ => ∃ (a : Addr) (f : List Bool) (ps : List Stf), vs = [.ref a] ∧ RlAt C H a f ps ∧ f.length ≤ 900 ∧ ps.length ≤ 8 ∧ (∀ p ∈ ps, p.1.length ≤ 20) ∧ ∀ H', Same H H' → Q (.str (rlText f ps)) H'
def spSwapped (C : Addr) : Sp := fun vs H Q _ => ∃ (a : Addr) (f : List Bool) (ps : List Stf), vs = [.ref a] ∧ RlAt C H a f ps ∧ 2 ≤ f.length ∧ f.length ≤ 900 ∧ RuleOk ps ∧ ∀ p H', RlAt C H' p (nt f) (sortP (swP ps)) → Same H H' → Q (.ref p) H'
end Own
namespace Own
open PySem PySem.Spec PyProof.Rows L2
theorem str_len (a b : Str) : (a ++ b).length = a.length + b.length := by simp [Str.length, Str.cps_append]
theorem stText_len (p : Stf) : (stText p).length = p.1.length + 2 := by
  unfold stText
  rw [str_len, str_len, str_len, WS_len, WS_len]
  show 0 + p.1.length + 1 + 1 = _
  omega
theorem join_cons2 (sep x y : Str) (r : List Str) : Txt.join sep (x :: y :: r) = (x ++ sep) ++ Txt.join sep (y :: r) := by
  rw [TL.join_eq, TL.join_eq]
  rfl
theorem join_len_le (sep : Str) : ∀ (l : List Str) (n : Nat), (∀ x ∈ l, x.length ≤ n) → (Txt.join sep l).length ≤ l.length * (n + sep.length)
  | [], _, _ => Nat.zero_le _
  | [x], n, h => by
    have := h x List.mem_cons_self
    show x.length ≤ 1 * (n + sep.length)
    omega
  | x :: y :: r, n, h => by
    have h1 := h x List.mem_cons_self
    have ih := join_len_le sep (y :: r) n fun z hz => h z (List.mem_cons_of_mem _ hz)
    have e : Txt.join sep (x :: y :: r) = (x ++ sep) ++ Txt.join sep (y :: r) := join_cons2 sep x y r
    rw [e, str_len, str_len]
    have : (x :: y :: r).length * (n + sep.length) = (n + sep.length) + (y :: r).length * (n + sep.length) := by
      rw [show (x :: y :: r).length = (y :: r).length + 1 from rfl, Nat.add_mul, Nat.one_mul, Nat.add_comm]
    omega
theorem sum_len_le : ∀ (l : List Str) (n : Nat), (∀ x ∈ l, x.length ≤ n) → (l.map (·.length)).sum ≤ l.length * n
  | [], _, _ => Nat.zero_le _
  | x :: r, n, h => by
    have h1 := h x List.mem_cons_self
    have ih := sum_len_le r n fun z hz => h z (List.mem_cons_of_mem _ hz)
    rw [List.map_cons, List.sum_cons, List.length_cons, Nat.add_mul, Nat.one_mul]
    omega
theorem putText_sz {ps : List Stf} (hz : ps.length ≤ 8) (h : ∀ p ∈ ps, p.1.length ≤ 20) : ((ps.map stText).map (·.length)).sum + (ps.map stText).length * (" " : Str).length ≤ 16777216 := by
  have := sum_len_le (ps.map stText) 22 fun x hx => by
    obtain ⟨p, hp, rfl⟩ := List.mem_map.mp hx
    rw [stText_len]
    have := h p hp
    omega
  rw [List.length_map] at this ⊢
  have w : (" " : Str).length = 1 := rfl
  rw [w]
  omega
theorem putText_len {ps : List Stf} (hz : ps.length ≤ 8) (h : ∀ p ∈ ps, p.1.length ≤ 20) : (putText ps).length ≤ 1000 := by
  have := join_len_le (" " : Str) (ps.map stText) 22 fun x hx => by
    obtain ⟨p, hp, rfl⟩ := List.mem_map.mp hx
    rw [stText_len]
    have := h p hp
    omega
  rw [List.length_map] at this
  unfold putText
  refine Nat.le_trans this ?_
  show ps.length * (22 + 1) ≤ 1000
  omega
end Own

set_option Elab.async false
set_option linter.all false
set_option maxRecDepth 100000
set_option maxHeartbeats 2000000
/-! hits on a line -/
namespace Own
open PySem PySem.Spec PyProof.Rows L2
inductive Kd where
  | turn | lose | double
deriving DecidableEq
def kT : Kd → Str
  | .turn => "turn"
  | .lose => "lose"
  | .double => "double"
abbrev Ht := Nat × Kd
def HitAt (H : Hp) (v : V) (h : Ht) : Prop := ∃ t, v = V.ref t ∧ H t = some (.tup [.int (h.1 : Nat), .str (kT h.2)])
theorem HitAt.kp {H H' : Hp} {v : V} {h : Ht} (k : Kp H H') (x : HitAt H v h) : HitAt H' v h := by
  obtain ⟨t, e, x⟩ := x
  exact ⟨t, e, k _ _ x trivial⟩
def Hits (H : Hp) : List V → List Ht → Prop
  | [], [] => True
  | v :: vs, p :: ps => HitAt H v p ∧ Hits H vs ps
  | _, _ => False
theorem Hits.kp {H H' : Hp} (k : Kp H H') : ∀ {vs : List V} {ps : List Ht}, Hits H vs ps → Hits H' vs ps
  | [], [], _ => trivial
  | _ :: _, _ :: _, h => ⟨h.1.kp k, Hits.kp k h.2⟩
  | [], _ :: _, h => h.elim
  | _ :: _, [], h => h.elim
theorem Hits.len {H : Hp} : ∀ {vs : List V} {ps : List Ht}, Hits H vs ps → vs.length = ps.length
  | [], [], _ => rfl
  | _ :: _, _ :: _, h => congrArg Nat.succ (Hits.len h.2)
  | [], _ :: _, h => h.elim
  | _ :: _, [], h => h.elim
theorem Hits.get {H : Hp} : ∀ {vs : List V} {ps : List Ht} {i : Nat} {v : V}, Hits H vs ps → vs[i]? = some v → ∃ p, ps[i]? = some p ∧ HitAt H v p
  | v :: vs, p :: ps, 0, _, h, e => ⟨p, rfl, by cases e; exact h.1⟩
  | v :: vs, p :: ps, i + 1, _, h, e => Hits.get (i := i) h.2 e
  | [], _, _, _, _, e => by cases e
  | _ :: _, [], _, _, h, _ => h.elim
theorem Hits.snoc {H : Hp} : ∀ {vs : List V} {ps : List Ht} {v : V} {p : Ht}, Hits H vs ps → HitAt H v p → Hits H (vs ++ [v]) (ps ++ [p])
  | [], [], _, _, _, h => ⟨h, trivial⟩
  | _ :: _, _ :: _, _, _, h, h2 => ⟨h.1, Hits.snoc h.2 h2⟩
  | [], _ :: _, _, _, h, _ => h.elim
  | _ :: _, [], _, _, h, _ => h.elim
/-! ### dicts of unlike keys -/
theorem putK_new {kvs : List (Key × V)} {k : Key} {v : V} (h : ∀ p ∈ kvs, p.1 ≠ k) : putK kvs k v = kvs ++ [(k, v)] := by
  unfold putK
  rw [if_neg]
  intro z
  obtain ⟨p, hp, e⟩ := List.any_eq_true.mp z
  exact h p hp (of_decide_eq_true e)
theorem merge_nodup : ∀ (more kvs : List (Key × V)), ((kvs ++ more).map (·.1)).Nodup → mergeK kvs more = kvs ++ more
  | [], kvs, _ => (List.append_nil kvs).symm
  | p :: r, kvs, h => by
    have hp : ∀ q ∈ kvs, q.1 ≠ p.1 := fun q hq e => by
      rw [List.map_append, List.nodup_append] at h
      exact h.2.2 q.1 (List.mem_map_of_mem hq) p.1 (List.mem_map_of_mem List.mem_cons_self) e
    show mergeK (putK kvs p.1 p.2) r = _
    rw [putK_new hp, merge_nodup r _ (by rw [List.append_assoc]; exact h), List.append_assoc]
    rfl
theorem valV_mem : ∀ {kvs : List (Key × V)} {k : Key} {v : V}, (kvs.map (·.1)).Nodup → (k, v) ∈ kvs → valV kvs k = some v
  | [], _, _, _, h => by cases h
  | p :: r, k, v, nd, h => by
    rw [List.map_cons, List.nodup_cons] at nd
    unfold valV
    by_cases e : p.1 = k
    · rw [List.find?_cons_of_pos (by exact decide_eq_true e)]
      rcases List.mem_cons.mp h with h | h
      · rw [← h]
        rfl
      · exact absurd (List.mem_map_of_mem (f := (·.1)) h) (by show k ∉ _; rw [← e]; exact nd.1)
    · rw [List.find?_cons_of_neg (by rw [decide_eq_true_eq]; exact e)]
      rcases List.mem_cons.mp h with h | h
      · rw [← h] at e
        exact absurd rfl e
      · exact valV_mem nd.2 h
theorem valV_none {kvs : List (Key × V)} {k : Key} (h : ∀ p ∈ kvs, p.1 ≠ k) : valV kvs k = none := by
  unfold valV
  rw [Option.map_eq_none_iff, List.find?_eq_none]
  exact fun p hp z => h p hp (of_decide_eq_true z)
/-! ### hits in order -/
structure Asc (hs : List Ht) (n : Nat) : Prop where
  up : hs.Pairwise fun a b => a.1 < b.1
  lt : ∀ h ∈ hs, h.1 < n
def kOf (hs : List Ht) (n : Nat) : Option Kd := (hs.find? fun h => decide (h.1 = n)).map (·.2)
def kvH (hs : List Ht) : List (Key × V) := hs.map fun h => (Sum.inl ((h.1 : Nat) : Int), V.str (kT h.2))
theorem kvH_nodup {hs : List Ht} {n : Nat} (a : Asc hs n) : ((kvH hs).map (·.1)).Nodup := by
  unfold kvH
  rw [List.map_map, List.nodup_iff_pairwise_ne, List.pairwise_map]
  refine a.up.imp fun {x y} h e => ?_
  have e' : (Sum.inl ((x.1 : Nat) : Int) : Key) = Sum.inl ((y.1 : Nat) : Int) := e
  injection e' with e'
  omega
theorem kOf_mem {hs : List Ht} {n m : Nat} {k : Kd} (a : Asc hs n) (h : (m, k) ∈ hs) : kOf hs m = some k := by
  unfold kOf
  have up := a.up
  clear a
  induction hs with
  | nil => cases h
  | cons p r ih =>
    rw [List.pairwise_cons] at up
    rcases List.mem_cons.mp h with h | h
    · rw [List.find?_cons_of_pos (by rw [← h]; exact decide_eq_true rfl), ← h]
      rfl
    · have := up.1 _ h
      rw [List.find?_cons_of_neg (by rw [decide_eq_true_eq]; show p.1 ≠ m; have : p.1 < m := this; omega)]
      exact ih h up.2
theorem kOf_none {hs : List Ht} {m : Nat} (h : ∀ p ∈ hs, p.1 ≠ m) : kOf hs m = none := by
  unfold kOf
  rw [Option.map_eq_none_iff, List.find?_eq_none]
  exact fun p hp z => h p hp (of_decide_eq_true z)
theorem val_kvH {hs : List Ht} {n : Nat} (a : Asc hs n) (m : Nat) : valV (kvH hs) (Sum.inl (m : Int)) = (kOf hs m).map fun k => V.str (kT k) := by
  by_cases h : ∃ k, (m, k) ∈ hs
  · obtain ⟨k, hk⟩ := h
    rw [kOf_mem a hk]
    exact valV_mem (kvH_nodup a) (List.mem_map.mpr ⟨(m, k), hk, rfl⟩)
  · have h1 : ∀ p ∈ hs, p.1 ≠ m := fun p hp e => h ⟨p.2, by rw [← e]; exact hp⟩
    rw [kOf_none h1]
    refine valV_none fun q hq e => ?_
    obtain ⟨p, hp, rfl⟩ := List.mem_map.mp hq
    have e' : (Sum.inl ((p.1 : Nat) : Int) : Key) = Sum.inl ((m : Nat) : Int) := e
    injection e' with e'
    exact h1 p hp (by omega)
theorem kvH_take {hs : List Ht} {n i : Nat} {p : Ht} (a : Asc hs n) (hp : hs[i]? = some p) : putK (kvH (hs.take i)) (Sum.inl ((p.1 : Nat) : Int)) (.str (kT p.2)) = kvH (hs.take (i + 1)) := by
  have e : hs.take (i + 1) = hs.take i ++ [p] := by rw [List.take_add_one, hp]; rfl
  rw [e]
  unfold kvH
  rw [List.map_append]
  refine putK_new fun q hq e2 => ?_
  obtain ⟨x, hx, rfl⟩ := List.mem_map.mp hq
  have e' : (Sum.inl ((x.1 : Nat) : Int) : Key) = Sum.inl ((p.1 : Nat) : Int) := e2
  injection e' with e'
  have up := a.up.sublist (List.take_sublist (i + 1) hs)
  rw [e, List.pairwise_append] at up
  have := up.2.2 x hx p (List.mem_singleton.mpr rfl)
  omega
theorem kvH_merge {hs : List Ht} {n : Nat} (a : Asc hs n) : mergeK [] (kvH hs) = kvH hs := by
  rw [merge_nodup _ _ (by rw [List.nil_append]; exact kvH_nodup a), List.nil_append]
/-! ### what arrives -/
def arrB (b : Bool) : Option Kd → List Bool
  | none => [b]
  | some .turn => [!b]
  | some .lose => []
  | some .double => [b, b]
def pieGo (f : Nat → Option Kd) : Nat → List Bool → List (List Bool)
  | _, [] => []
  | n, b :: r => arrB b (f n) :: pieGo f (n + 1) r
theorem pieGo_app (f : Nat → Option Kd) : ∀ (u v : List Bool) (n : Nat), pieGo f n (u ++ v) = pieGo f n u ++ pieGo f (n + u.length) v
  | [], v, n => rfl
  | b :: u, v, n => by
    show arrB b (f n) :: pieGo f (n + 1) (u ++ v) = _
    rw [pieGo_app f u v (n + 1)]
    show _ = arrB b (f n) :: (pieGo f (n + 1) u ++ pieGo f (n + (u.length + 1)) v)
    rw [show n + 1 + u.length = n + (u.length + 1) by omega]
def arrL (hs : List Ht) (line : List Bool) : List Bool := (pieGo (kOf hs) 0 line).flatten
theorem pie_snoc {f : Nat → Option Kd} {line : List Bool} {i : Nat} {b : Bool} (hb : line[i]? = some b) : pieGo f 0 (line.take (i + 1)) = pieGo f 0 (line.take i) ++ [arrB b (f i)] := by
  have hi := (List.getElem?_eq_some_iff.mp hb).1
  rw [List.take_add_one, hb]
  show pieGo f 0 (line.take i ++ [b]) = _
  rw [pieGo_app, Nat.zero_add, List.length_take, Nat.min_eq_left (by omega)]
  rfl
theorem arrB_len (b : Bool) (k : Option Kd) : (arrB b k).length ≤ 2 := by
  cases k with
  | none => show 1 ≤ 2; decide
  | some k => cases k <;> cases b <;> decide
theorem pie_len (f : Nat → Option Kd) : ∀ (line : List Bool) (n : Nat), (pieGo f n line).flatten.length ≤ 2 * line.length
  | [], _ => Nat.le_refl _
  | b :: r, n => by
    show (arrB b (f n) ++ (pieGo f (n + 1) r).flatten).length ≤ 2 * (r.length + 1)
    rw [List.length_append]
    have := arrB_len b (f n)
    have := pie_len f r (n + 1)
    omega
theorem pie_many (f : Nat → Option Kd) : ∀ (line : List Bool) (n : Nat), (pieGo f n line).length = line.length
  | [], _ => rfl
  | b :: r, n => by
    show (pieGo f (n + 1) r).length + 1 = r.length + 1
    rw [pie_many f r (n + 1)]
theorem pie_none {f : Nat → Option Kd} : ∀ (line : List Bool) (n : Nat), (∀ i, i < line.length → f (n + i) = none) → (pieGo f n line).flatten = line
  | [], _, _ => rfl
  | b :: r, n, h => by
    show arrB b (f n) ++ (pieGo f (n + 1) r).flatten = _
    rw [show f n = none from h 0 (Nat.succ_pos _), pie_none r (n + 1) fun i hi => by
      rw [show n + 1 + i = n + (i + 1) by omega]
      exact h (i + 1) (Nat.succ_lt_succ hi)]
    rfl
theorem pie_lose {f : Nat → Option Kd} : ∀ (line : List Bool) (n : Nat), (∀ i, i < line.length → f (n + i) = some .lose) → (pieGo f n line).flatten = []
  | [], _, _ => rfl
  | b :: r, n, h => by
    show arrB b (f n) ++ (pieGo f (n + 1) r).flatten = _
    rw [show f n = some .lose from h 0 (Nat.succ_pos _), pie_lose r (n + 1) fun i hi => by
      rw [show n + 1 + i = n + (i + 1) by omega]
      exact h (i + 1) (Nat.succ_lt_succ hi)]
    rfl
theorem pie_turn {f : Nat → Option Kd} : ∀ (line : List Bool) (n : Nat), (∀ i, i < line.length → f (n + i) = some .turn) → (pieGo f n line).flatten = line.map (!·)
  | [], _, _ => rfl
  | b :: r, n, h => by
    show arrB b (f n) ++ (pieGo f (n + 1) r).flatten = _
    rw [show f n = some .turn from h 0 (Nat.succ_pos _), pie_turn r (n + 1) fun i hi => by
      rw [show n + 1 + i = n + (i + 1) by omega]
      exact h (i + 1) (Nat.succ_lt_succ hi)]
    rfl
def allH (k : Kd) (n : Nat) : List Ht := (List.range n).map fun i => (i, k)
theorem allH_asc (k : Kd) (n : Nat) : Asc (allH k n) n := by
  refine ⟨?_, fun h hh => ?_⟩
  · unfold allH
    rw [List.pairwise_map]
    exact List.pairwise_lt_range
  · obtain ⟨i, hi, rfl⟩ := List.mem_map.mp hh
    exact List.mem_range.mp hi
theorem kOf_all (k : Kd) {n i : Nat} (hi : i < n) : kOf (allH k n) i = some k := kOf_mem (allH_asc k n) (List.mem_map.mpr ⟨i, List.mem_range.mpr hi, rfl⟩)
theorem arr_nil (line : List Bool) : arrL [] line = line := pie_none line 0 fun i _ => rfl
theorem arr_lose (line : List Bool) : arrL (allH .lose line.length) line = [] := pie_lose line 0 fun i hi => by rw [Nat.zero_add]; exact kOf_all .lose hi
theorem arr_turn (line : List Bool) : arrL (allH .turn line.length) line = line.map (!·) := pie_turn line 0 fun i hi => by rw [Nat.zero_add]; exact kOf_all .turn hi
theorem arr_twice (line : List Bool) : arrL (allH .turn line.length) (arrL (allH .turn line.length) line) = line := by
  have h := arr_turn (line.map (!·))
  rw [List.length_map] at h
  rw [arr_turn, h, List.map_map]
  have e : ((fun x : Bool => !x) ∘ fun x => !x) = id := by
    funext x
    cases x <;> rfl
  rw [e, List.map_id]
theorem join_words (ws : List (List Bool)) : Txt.join "" (ws.map WS) = WS ws.flatten := by
  have h : ws.map WS = (ws.map (·.map cd)).map SX.S := by rw [List.map_map]; rfl
  rw [h, show ("" : Str) = SX.S [] from rfl, SX.join_S, joinL_nil]
  unfold WS
  rw [List.map_flatten]
theorem join_words_sz (ws : List (List Bool)) (h : ws.flatten.length ≤ 100000) : ((ws.map WS).map (·.length)).sum + (ws.map WS).length * ("" : Str).length ≤ 16777216 := by
  have h1 : ((ws.map WS).map (·.length)).sum = ws.flatten.length := by
    rw [List.map_map, List.length_flatten]
    congr 1
    apply List.map_congr_left
    intro w _
    exact WS_len w
  rw [h1, show ("" : Str).length = 0 from rfl]
  omega
/-! ### data of hits -/
def encH (h : Ht) : PyData := .tuple [.int (h.1 : Nat), .str (kT h.2)]
theorem dpAll_hits {K : PySem.W.Frag} {H : Hp} : ∀ {vs : List V} {hs : List Ht}, Hits H vs hs → DpAll K H vs (hs.map encH)
  | [], [], _ => .nil
  | _ :: _, _ :: _, h => by
    obtain ⟨⟨t, rfl, h1⟩, h2⟩ := h
    exact .cons (.tup (.inl (.inl h1)) (.cons (.int _) (.cons (.str _) .nil))) (dpAll_hits h2)
  | [], _ :: _, h => h.elim
  | _ :: _, [], h => h.elim
theorem encH_ok (h : Ht) : PyData.canLay0 (encH h) = true := by
  show (true && (PyData.strOk (kT h.2) && true)) = true
  cases h.2 <;> decide +kernel
theorem canLay_hits : ∀ hs : List Ht, PyData.canLayAll0 (hs.map encH) = true
  | [] => rfl
  | h :: r => by
    show (PyData.canLay0 (encH h) && PyData.canLayAll0 (r.map encH)) = true
    rw [canLay_hits r, Bool.and_true]
    exact encH_ok h
theorem depth_hits : ∀ hs : List Ht, PyData.depthAll (hs.map encH) ≤ 1
  | [] => Nat.zero_le _
  | h :: r => by
    show max (PyData.depth (encH h)) (PyData.depthAll (r.map encH)) ≤ 1
    exact Nat.max_le.mpr ⟨by show max 0 (max 0 0) + 1 ≤ 1; decide, depth_hits r⟩
theorem shaped_hits (hs : List Ht) : SeqAt.shaped (.list (hs.map encH)) = true := by
  unfold SeqAt.shaped
  rw [Bool.and_eq_true, decide_eq_true_eq]
  refine ⟨canLay_hits hs, ?_⟩
  show PyData.depthAll _ + 1 ≤ 64
  have := depth_hits hs
  omega
theorem eqv_hits (hs : List Ht) : PyData.eqv (.list (hs.map encH)) (.list (hs.map encH)) = true := by
  show PyData.eqvAll (hs.map encH) (hs.map encH) = true
  exact PySem.SeqAt.eqvAll_refl _ (canLay_hits hs)
/-! ### promises -/
def oK : Option Kd → V
  | none => .non
  | some k => .str (kT k)
def spIsInt : Sp := fun vs H Q _ => ∃ i : Int, vs = [.int i] ∧ Q (.bl true) H
def spIsHit : Sp := fun vs H Q _ => ∃ (v : V) (h : Ht) (a z : Int), vs = [v, .int a, .int z] ∧ HitAt H v h ∧ a ≤ (h.1 : Nat) ∧ ((h.1 : Nat) : Int) < z ∧ Q (.bl true) H
def spArriving : Sp := fun vs H Q _ => ∃ (b : Bool) (k : Option Kd), vs = [.str (WS [b]), oK k] ∧ ∀ H', Same H H' → Q (.str (WS (arrB b k))) H'
def spHit (K : PySem.W.Frag) : Sp := fun vs H Q _ => ∃ (line : List Bool) (l : Addr) (o : Bool) (xs : List V) (hs : List Ht), vs = [.str (WS line), .ref l] ∧ line.length ≤ 900 ∧ SqK K o H l xs ∧ Hits H xs hs ∧ Asc hs line.length ∧ ∀ H', Same H H' → Q (.str (WS (arrL hs line))) H'
def spLArr : Sp := fun vs H Q _ => ∃ (line : List Bool) (l : Addr) (xs : List V) (hs : List Ht), vs = [.str (WS line), .ref l] ∧ line.length ≤ 900 ∧ H l = some (.lst xs) ∧ Hits H xs hs ∧ Asc hs line.length ∧ ∀ H', Same H H' → Q (.str (WS (arrL hs line))) H'
def spLHits : Sp := fun vs H Q _ => ∃ (b : Addr) (n : Nat), vs = [.ref b, .int (n : Nat)] ∧ BoxAt H b ∧ n ≤ 900 ∧ ∀ l xs hs H', H l = none → H' l = some (.lst xs) → Hits H' xs hs → Asc hs n → BoxAt H' b → Off b H H' → Q (.ref l) H'
theorem asc_len {hs : List Ht} {n : Nat} (a : Asc hs n) : hs.length ≤ n := by
  have nd : (hs.map (·.1)).Nodup := by
    rw [List.nodup_iff_pairwise_ne, List.pairwise_map]
    exact a.up.imp fun h => Nat.ne_of_lt h
  have := nd.length_le_of_subset (l₂ := List.range n) fun x hx => by
    obtain ⟨h, hh, rfl⟩ := List.mem_map.mp hx
    exact List.mem_range.mpr (a.lt h hh)
  rwa [List.length_map, List.length_range] at this
end Own
namespace Own
open PySem PySem.Spec PyProof.Rows L2
/-- a dict comprehension over a walk -/
theorem dc_it {J : It} {n : Nat} {G : Hp → Prop} {Y : Nat → Hp → V → Hp → Prop} (w : Walk J n G Y) {g : TG} {tt : TT} {tk tv : TE} {vs : List Nat} {σ : L2.St} {H1 : Hp} {D : Addr} {Qd : Hp → Prop} (Pv : Nat → Hp → Prop) (h0 : Pv 0 (upd H1 D (.dK []))) (hG : ∀ i H, i ≤ n → Pv i H → G H)
    (hs : ∀ i x H H', i < n → Pv i H → Y i H x H' → g x (wipe σ vs) H' fun σ2 H2 => wipe σ2 vs = wipe σ vs ∧ tt σ2 H2 fun b H3 =>
      if b = true then tk σ2 H3 fun y H4 => tv σ2 H4 fun z H5 => ∃ kvs k, y = kV k ∧ H5 D = some (.dK kvs) ∧ kvs.length < sizeLine ∧ Pv (i + 1) (upd H5 D (.dK (putK kvs k z))) else Pv (i + 1) H3) (hd : ∀ H, Pv n H → Qd H) :
    ∃ W : Nat → Nat → Hp → Prop, (∃ m, W 0 m (upd H1 D (.dK []))) ∧ ∀ i m H, W i m H →
      (J.stop i H ∧ Qd H) ∨ (J.go i H ∧ ∃ Nx : Hp → Prop, (∀ H', Nx H' → ∃ m', m' < m ∧ W (i + 1) m' H') ∧ ∀ x H', J.yld i H x H' → g x (wipe σ vs) H' fun σ2 H2 => wipe σ2 vs = wipe σ vs ∧ tt σ2 H2 fun b H3 =>
        if b = true then tk σ2 H3 fun y H4 => tv σ2 H4 fun z H5 => ∃ kvs k, y = kV k ∧ H5 D = some (.dK kvs) ∧ kvs.length < sizeLine ∧ Nx (upd H5 D (.dK (putK kvs k z))) else Nx H3) := by
  refine ⟨fun i m H => m = n - i ∧ i ≤ n ∧ Pv i H, ⟨n, by simp, Nat.zero_le _, h0⟩, ?_⟩
  rintro i m H ⟨rfl, hi, p⟩
  have q := hG i H hi p
  by_cases hlt : i < n
  · refine .inr ⟨w.goes i H hlt q, Pv (i + 1), fun H' p' => ⟨n - (i + 1), by omega, rfl, hlt, p'⟩, fun x H' y => hs i x H H' hlt p (w.yields i H x H' hlt q y)⟩
  · have e : i = n := by omega
    subst e
    exact .inl ⟨w.stops H q, hd H p⟩
theorem hits_paired {K : PySem.W.Frag} {H : Hp} : ∀ {vs : List V} {hs : List Ht}, Hits H vs hs → ∃ ps : List Addr, vs = ps.map V.ref ∧ Paired (fun p kv => SqT K H p [kV kv.1, kv.2]) ps (kvH hs)
  | [], [], _ => ⟨[], rfl, .nil⟩
  | _ :: _, _ :: _, h => by
    obtain ⟨⟨t, rfl, h1⟩, h2⟩ := h
    obtain ⟨ps, e, h3⟩ := hits_paired (K := K) h2
    exact ⟨t :: ps, by rw [e]; rfl, .cons (.inl (.inl h1)) h3⟩
  | [], _ :: _, h => h.elim
  | _ :: _, [], h => h.elim
theorem Asc.nil : Asc [] 0 := ⟨.nil, fun h hh => by cases hh⟩
theorem Asc.up1 {hs : List Ht} {n : Nat} (a : Asc hs n) : Asc hs (n + 1) := ⟨a.up, fun h hh => Nat.lt_succ_of_lt (a.lt h hh)⟩
theorem Asc.snoc {hs : List Ht} {n : Nat} (a : Asc hs n) (k : Kd) : Asc (hs ++ [(n, k)]) (n + 1) := by
  refine ⟨?_, fun h hh => ?_⟩
  · rw [List.pairwise_append]
    refine ⟨a.up, List.pairwise_singleton _ _, fun x hx y hy => ?_⟩
    rw [List.mem_singleton.mp hy]
    exact a.lt x hx
  · rcases List.mem_append.mp hh with h1 | h1
    · exact Nat.lt_succ_of_lt (a.lt h h1)
    · rw [List.mem_singleton.mp h1]
      exact Nat.lt_succ_self n
theorem kd_of {x : V} (h : x ∈ [V.str "turn", V.str "lose", V.str "double"]) : ∃ k, x = V.str (kT k) := by
  simp only [List.mem_cons, List.not_mem_nil, or_false] at h
  rcases h with e | e | e
  · exact ⟨.turn, e⟩
  · exact ⟨.lose, e⟩
  · exact ⟨.double, e⟩
def kS : Option Kd → Str
  | none => ""
  | some k => kT k
def comesL (b : Bool) : List (Key × V) := [(Sum.inr "", .str (WS [b])), (Sum.inr "turn", .str (WS [!b])), (Sum.inr "lose", .str (WS [])), (Sum.inr "double", .str (WS [b, b]))]
theorem comes_nodup (b : Bool) : ((comesL b).map (·.1)).Nodup := by
  show ([Sum.inr "", Sum.inr "turn", Sum.inr "lose", Sum.inr "double"] : List Key).Nodup
  decide +kernel
theorem comes_merge (b : Bool) : mergeK [] (comesL b) = comesL b := by
  rw [merge_nodup _ _ (by rw [List.nil_append]; exact comes_nodup b), List.nil_append]
theorem comes_val (b : Bool) (k : Option Kd) : valV (comesL b) (Sum.inr (kS k)) = some (.str (WS (arrB b k))) := by
  refine valV_mem (comes_nodup b) ?_
  unfold comesL
  cases k with
  | none => exact List.mem_cons_self
  | some k =>
    cases k with
    | turn => exact List.mem_cons_of_mem _ List.mem_cons_self
    | lose => exact List.mem_cons_of_mem _ (List.mem_cons_of_mem _ List.mem_cons_self)
    | double => exact List.mem_cons_of_mem _ (List.mem_cons_of_mem _ (List.mem_cons_of_mem _ List.mem_cons_self))
end Own
namespace Own
open PySem PySem.Spec PyProof.Rows L2
theorem allH_succ (k : Kd) (n : Nat) : allH k (n + 1) = allH k n ++ [(n, k)] := by
  unfold allH
  rw [List.range_succ, List.map_append]
  rfl
theorem same_app {H H1 : Hp} {l : Addr} {xs : List V} (s : Same H H1) (hn : H l = none) : Same H (upd H1 l (.lst xs)) := fun a o ha => by
  rw [upd_ne (ne_of_none ha hn)]
  exact s _ _ ha
theorem allH_len (k : Kd) (n : Nat) : (allH k n).length = n := by
  unfold allH
  rw [List.length_map, List.length_range]
theorem allH_asc' (k : Kd) {n m : Nat} (h : n = m) : Asc (allH k n) m := h ▸ allH_asc k n
end Own

set_option Elab.async false
set_option linter.all false
set_option maxRecDepth 100000
set_option maxHeartbeats 4000000
namespace La
open PySem PySem.Spec PyProof.Rows L2 Own
open C8 (Cal Mak Met pe_c pe_mk pe_mt pe_mt0 Def fnArgs fnBody fnScope fn0 fnScope_by)
def topS (i : Nat) : Stmt := PySem.Challenge.pw_unseenflips_k49_hits_on_lines.main.body.getD i (.Pass ⟨0, 0, 0, 0⟩)
section
variable {P : Program} {w : World} {K : PySem.W.Frag} {mg : Str → Option Value} {base : Heap}

abbrev s_choose : Stmt := (topS 14)
theorem sc_choose : FnScope ["_law_box", "_law_many", "_law_digit", "_law_raw"] ["_law_box", "_law_many"] (fnScope s_choose) := fnScope_by (by decide +kernel)
theorem ok_choose {f : Addr} {fd : FuncData} (F : C8.Fun K "_law_choose" "_law_choose" s_choose f fd) (M : Mg mg) : FnOk P w K mg base CX0 1 f fd ["_law_box", "_law_many"] spChoose := by
  refine fn0 F sc_choose (fun vs H Q E h => ?_) (fun cdv A outer s H vs Q E hr h => ?_)
  · obtain ⟨b, m, rfl, _⟩ := h
    rfl
  · obtain ⟨b, m, rfl, ⟨c, d, hb, hc, hd0, hd1⟩, hm0, hm1, q⟩ := h
    refine ⟨_, (pss_cons (ps_if (pt_cmpR op_gt (pe_ix (r := rIxL K) ix_list (pv 0) pe_int (fun _ _ => rfl)) pe_int (nomark _))
          (pss_cons (ps_set (i := 2) sc_choose.nd rfl (Or.inl rfl) (pe_op op_mod (pe_callTy call_int1 (by rfl) M.int (by decide +kernel) (pa_cons (pe_ix (r := rIxL K) ix_list (pv 0) pe_int (fun _ _ => rfl)) pa_nil)) (pv 1)))
            (pss_cons (ps_asg (pe_op op_fdiv (pe_ix (r := rIxL K) ix_list (pv 0) pe_int (fun _ _ => rfl)) (pv 1)) (pg_sub (pv 0) pe_int set_list))
            (pss_one (ps_ret (pv 2)))))
          pss_nil)
        (pss_cons (ps_set (i := 3) sc_choose.nd rfl (Or.inl rfl) (pe_op op_mod (pe_callTy call_int1 (by rfl) M.int (by decide +kernel) (pa_cons (pe_op op_add (pe_op op_mul (pe_ix (r := rIxL K) ix_list (pv 0) pe_int (fun _ _ => rfl)) pe_int) pe_int) pa_nil)) pe_int))
        (pss_cons (ps_asg (pe_op op_add (pe_op op_mod (pe_callTy call_int1 (by rfl) M.int (by decide +kernel) (pa_cons (pe_op op_add (pe_op op_mul (pv 3) pe_int) pe_int) pa_nil)) pe_int) pe_int) (pg_sub (pv 0) pe_int set_list))
        (pss_one (ps_ret (pe_op op_mod (pe_callTy call_int1 (by rfl) M.int (by decide +kernel) (pa_cons (pe_op op_fdiv (pe_op op_add (pe_op op_mul (pv 3) pe_int) (pe_ix (r := rIxL K) ix_list (pv 0) pe_int (fun _ _ => rfl))) pe_int) pa_nil)) (pv 1))))))), ?_⟩
    have S0 : SqL K H b [.int c, .int d] := .inl (.inl hb)
    refine ⟨.ref b, rfl, b, _, 0, _, rfl, rfl, S0, atI0, _, _, rfl, rfl, _, rfl, ite2 (fun e => ?_) (fun e => ?_)⟩
    · have e1 : (0 : Int) < c := of_decide_eq_true e
      refine ⟨.ref b, rfl, b, _, 0, _, rfl, rfl, S0, atI0, .inl ⟨_, rfl, .int m, rfl, _, _, rfl, rfl, (show (0 : Int) < m by omega), ?_⟩⟩
      refine ⟨.ref b, rfl, b, _, 0, _, rfl, rfl, S0, atI0, .int m, rfl, _, _, rfl, rfl, ⟨by omega, by omega⟩, ?_⟩
      refine ⟨.ref b, rfl, b, _, 0, 0, rfl, rfl, hb, rfl, ?_⟩
      refine ⟨_, rfl, q _ _ (mod_in c (show (0 : Int) < m by omega)).1 (mod_in c (show (0 : Int) < m by omega)).2 ⟨_, _, upd_same, Int.ediv_nonneg hc (by omega), hd0, hd1⟩ Off.set⟩
    · refine ⟨.ref b, rfl, b, _, 1, _, rfl, rfl, S0, atI1, _, _, rfl, rfl, .inl ⟨by omega, by omega⟩, _, _, rfl, rfl, .inl ⟨_, rfl, _, _, rfl, rfl, (show (0 : Int) < 2147483563 by decide), ?_⟩⟩
      have r0 := mod_in (d * 40014 + 73) (show (0 : Int) < 2147483563 by decide)
      refine ⟨_, rfl, _, _, rfl, rfl, .inl ⟨by omega, by omega⟩, _, _, rfl, rfl, .inl ⟨_, rfl, _, _, rfl, rfl, (show (0 : Int) < 2147483629 by decide), _, _, rfl, rfl, ?_⟩⟩
      refine ⟨.ref b, rfl, b, _, 1, 1, rfl, rfl, hb, rfl, ?_⟩
      have S1 : SqL K (upd H b (.lst [.int c, .int ((((d * 40014 + 73) % 2147483563) * 40692 + 4703) % 2147483629 + 1)])) b [.int c, .int ((((d * 40014 + 73) % 2147483563) * 40692 + 4703) % 2147483629 + 1)] := .inl (.inl upd_same)
      refine ⟨_, rfl, _, _, rfl, rfl, .inl ⟨by omega, by omega⟩, .ref b, rfl, b, _, 1, _, rfl, rfl, S1, atI1, _, _, rfl, rfl, _, _, rfl, rfl, ⟨by decide, by decide⟩, .inl ⟨_, rfl, .int m, rfl, _, _, rfl, rfl, (show (0 : Int) < m by omega), ?_⟩⟩
      exact q _ _ (mod_in _ (show (0 : Int) < m by omega)).1 (mod_in _ (show (0 : Int) < m by omega)).2 ⟨_, _, upd_same, hc, (mod_box _).1, (mod_box _).2⟩ Off.set

abbrev s_seed : Stmt := (topS 13)
theorem sc_seed : FnScope ["_law_script", "_law_k", "_law_cell"] ["_law_script", "_law_k"] (fnScope s_seed) := fnScope_by (by decide +kernel)
theorem ok_seed {f : Addr} {fd : FuncData} (F : C8.Fun K "_law_seed" "_law_seed" s_seed f fd) (M : Mg mg) : FnOk P w K mg base CX0 1 f fd ["_law_script", "_law_k"] (spSeed K) := by
  refine fn0 F sc_seed (fun vs H Q E h => ?_) (fun cdv A outer s H vs Q E hr h => ?_)
  · obtain ⟨a, ns, k, rfl, _⟩ := h
    rfl
  · obtain ⟨a, ns, k, rfl, hS, hl, hk0, hk1, q⟩ := h
    refine ⟨_, (pss_cons (ps_set (i := 2) sc_seed.nd rfl (Or.inl rfl) (pe_op op_add (pe_op op_mul pe_int (pv 1)) pe_int))
        (C8.pss_cut (ps_if (pt_cmpR op_lt (pv 1) (pe_callB call_len_seq (by rfl) M.len PySem.boot_len (pa_cons (pv 0) pa_nil)) (nomark _))
          (pss_one (ps_set (i := 2) sc_seed.nd rfl (Or.inl rfl) (pe_callB call_abs (by rfl) M.abs (by decide +kernel) (pa_cons (pe_ix (r := rIxL K) ix_list (pv 0) (pv 1) (fun _ _ => rfl)) pa_nil))))
          (pss_one (ps_if (pt_cmpR op_gt (pe_callB call_len_seq (by rfl) M.len PySem.boot_len (pa_cons (pv 0) pa_nil)) pe_int (nomark _))
              (pss_one (ps_set (i := 2) sc_seed.nd rfl (Or.inl rfl) (pe_op op_add (pv 2) (pe_op op_mul (pe_op op_mod (pe_callTy call_int1 (by rfl) M.int (by decide +kernel) (pa_cons (pe_callB call_abs (by rfl) M.abs (by decide +kernel) (pa_cons (pe_ix (r := rIxL K) ix_list (pv 0) (pe_op op_mod (pe_callTy call_int1 (by rfl) M.int (by decide +kernel) (pa_cons (pv 1) pa_nil)) (pe_callB call_len_seq (by rfl) M.len PySem.boot_len (pa_cons (pv 0) pa_nil))) (fun _ _ => rfl)) pa_nil)) pa_nil)) pe_int) pe_int))))
              pss_nil)))
        (pss_one (ps_ret (pe_lst (pa_cons (pe_ifExp (pt_cmpR op_ge (pv 2) (pe_op op_pow pe_int pe_int) (nomark _)) (pv 2) pe_int) (pa_cons (pe_op op_add (pe_op op_mod (pe_callTy call_int1 (by rfl) M.int (by decide +kernel) (pa_cons (pe_op op_add (pe_op op_mul (pe_op op_mod (pe_callTy call_int1 (by rfl) M.int (by decide +kernel) (pa_cons (pv 2) pa_nil)) pe_int) pe_int) (pe_op op_mul pe_int (pv 1))) pa_nil)) pe_int) pe_int) pa_nil))))))), ?_⟩
    refine ⟨.int k, rfl, _, k, rfl, rfl, .inl ⟨by decide, by decide⟩, _, _, rfl, rfl, ?_⟩
    refine ⟨fun σ' H' => H' = H ∧ ∃ y : Int, 0 ≤ y ∧ σ' = [some (.ref a), some (.int k), some (.int y)], ?_, ?_⟩
    · refine ⟨.int k, rfl, .ref a, rfl, a, ns.map V.int, rfl, .inl hS, _, _, rfl, rfl, _, rfl, ite2 (fun e => ?_) (fun e => ?_)⟩
      · have e1 : k.toNat < ns.length := by
          have := of_decide_eq_true e
          rw [List.length_map] at this
          omega
        have g : atI (ns.map V.int) k = some (.int ns[k.toNat]) := by
          have := atI_nat (xs := ns.map V.int) (j := k.toNat) (v := .int ns[k.toNat]) (by simp [e1])
          rw [Int.toNat_of_nonneg hk0] at this
          exact this
        exact ⟨.ref a, rfl, .int k, rfl, a, _, _, _, rfl, rfl, hS, g, _, rfl, rfl, _, by split <;> omega, rfl⟩
      · refine ⟨.ref a, rfl, a, ns.map V.int, rfl, .inl hS, _, _, rfl, rfl, _, rfl, ite2 (fun e => ?_) (fun e => ?_)⟩
        · have e1 : 0 < ns.length := by
            have := of_decide_eq_true e
            rw [List.length_map] at this
            omega
          have hm0 : 0 ≤ k % ((ns.length : Nat) : Int) := Int.emod_nonneg _ (by omega)
          have hm1 : k % ((ns.length : Nat) : Int) < (ns.length : Nat) := Int.emod_lt_of_pos _ (by omega)
          have e2 : (k % ((ns.length : Nat) : Int)).toNat < ns.length := by omega
          have g : atI (ns.map V.int) (k % ((ns.length : Nat) : Int)) = some (.int ns[(k % ((ns.length : Nat) : Int)).toNat]) := by
            have := atI_nat (xs := ns.map V.int) (j := (k % ((ns.length : Nat) : Int)).toNat) (v := .int ns[(k % ((ns.length : Nat) : Int)).toNat]) (by simp [e2])
            rw [Int.toNat_of_nonneg hm0] at this
            exact this
          refine ⟨_, rfl, .ref a, rfl, .int k, rfl, .inl ⟨_, rfl, .ref a, rfl, a, ns.map V.int, rfl, .inl hS, _, _, rfl, rfl, (by rw [List.length_map]; omega), a, _, _, _, rfl, rfl, hS, (by rw [List.length_map]; exact g), _, rfl, .inl ⟨_, rfl, _, _, rfl, rfl, (show (0 : Int) < 2147483629 by decide), _, _, rfl, rfl, .inl ⟨?_, ?_⟩, _, _, rfl, rfl, rfl, _, ?_, rfl⟩⟩⟩
          all_goals (have := Int.emod_nonneg (if ns[(k % ((ns.length : Nat) : Int)).toNat] < 0 then -ns[(k % ((ns.length : Nat) : Int)).toNat] else ns[(k % ((ns.length : Nat) : Int)).toNat]) (show (2147483629 : Int) ≠ 0 by decide); have := Int.emod_lt_of_pos (if ns[(k % ((ns.length : Nat) : Int)).toNat] < 0 then -ns[(k % ((ns.length : Nat) : Int)).toNat] else ns[(k % ((ns.length : Nat) : Int)).toNat]) (show (0 : Int) < 2147483629 by decide); omega)
        · exact ⟨rfl, _, by omega, rfl⟩
    · rintro σ' H' ⟨rfl, y, hy, rfl⟩
      have m0 := Int.emod_nonneg y (show (2147483629 : Int) ≠ 0 by decide)
      have m1 := Int.emod_lt_of_pos y (show (0 : Int) < 2147483629 by decide)
      refine ⟨.int y, rfl, _, _, rfl, rfl, ⟨by decide, by decide, by decide⟩, _, _, rfl, rfl, _, rfl, ?_⟩
      refine ite2 (fun e => ?_) (fun e => ?_)
      · refine ⟨.int y, rfl, .int y, rfl, .inl ⟨_, rfl, _, _, rfl, rfl, (show (0 : Int) < 2147483629 by decide), _, _, rfl, rfl, .inl ⟨by omega, by omega⟩, .int k, rfl, _, _, rfl, rfl, .inl ⟨by decide, by decide⟩, _, _, rfl, rfl, .inl ⟨_, rfl, _, _, rfl, rfl, (show (0 : Int) < 2147483629 by decide), _, _, rfl, rfl, (by show 2 ≤ sizeLine; decide), fun p hp => q p _ hp ⟨_, _, upd_same, hy, (mod_box _).1, (mod_box _).2⟩ (same_new hp)⟩⟩⟩
      · refine ⟨.int y, rfl, .inl ⟨_, rfl, _, _, rfl, rfl, (show (0 : Int) < 2147483629 by decide), _, _, rfl, rfl, .inl ⟨by omega, by omega⟩, .int k, rfl, _, _, rfl, rfl, .inl ⟨by decide, by decide⟩, _, _, rfl, rfl, .inl ⟨_, rfl, _, _, rfl, rfl, (show (0 : Int) < 2147483629 by decide), _, _, rfl, rfl, (by show 2 ≤ sizeLine; decide), fun p hp => q p _ hp ⟨_, _, upd_same, Int.le_refl 0, (mod_box _).1, (mod_box _).2⟩ (same_new hp)⟩⟩⟩

abbrev s_one_of : Stmt := (topS 15)
theorem sc_one_of : FnScope ["_law_box", "_law_some"] ["_law_box", "_law_some"] (fnScope s_one_of) := fnScope_by (by decide +kernel)
theorem ok_one_of {f : Addr} {fd : FuncData} (F : C8.Fun K "_law_one_of" "_law_one_of" s_one_of f fd) (M : Mg mg) (c_choose : Cal P w K mg base 1 "_law_choose" spChoose []) : FnOk P w K mg base CX0 2 f fd ["_law_box", "_law_some"] spOneOf := by
  refine fn0 F sc_one_of (fun vs H Q E h => ?_) (fun cdv A outer s H vs Q E hr h => ?_)
  · obtain ⟨b, l, xs, rfl, _⟩ := h
    rfl
  · obtain ⟨b, l, xs, rfl, hb, hl, hn, hx, hz, q⟩ := h
    refine ⟨_, (pss_one (ps_ret (pe_ix (r := rIxL K) ix_list (pv 1) (pe_c c_choose hr (by decide) (by rfl) (pa_cons (pv 0) (pa_cons (pe_callB call_len_seq (by rfl) M.len PySem.boot_len (pa_cons (pv 1) pa_nil)) pa_nil))) (fun _ _ => rfl)))), ?_⟩
    have h1 : 0 < xs.length := List.length_pos_iff.mpr hx
    refine ⟨.ref l, rfl, .ref b, rfl, .ref l, rfl, l, xs, rfl, .inl (.inl (.inl hl)), b, _, rfl, hb, by omega, by omega, fun r H' r0 r1 hb' off => ?_⟩
    have e : r.toNat < xs.length := by omega
    refine ⟨l, xs, r, xs[r.toNat], rfl, rfl, .inl (.inl (off _ _ hl hn)), ?_, q _ _ (List.getElem_mem _) hb' off⟩
    have := atI_nat (xs := xs) (j := r.toNat) (v := xs[r.toNat]) (by simp [e])
    rw [Int.toNat_of_nonneg r0] at this
    exact this
abbrev s_word : Stmt := (topS 16)
theorem sc_word : FnScope ["_law_box", "_law_few", "_law_many", "_law_turn"] ["_law_box", "_law_few", "_law_many"] (fnScope s_word) := fnScope_by (by decide +kernel)
theorem ok_word2 {f : Addr} {fd : FuncData} (F : C8.Fun K "_law_word" "_law_word" s_word f fd) (M : Mg mg) (c_choose : Cal P w K mg base 1 "_law_choose" spChoose []) (c_one_of : Cal P w K mg base 2 "_law_one_of" spOneOf []) : FnOk P w K mg base CX0 3 f fd ["_law_box", "_law_few", "_law_many"] spWord2 := by
  refine fn0 F sc_word (fun vs H Q E h => ?_) (fun cdv A outer s H vs Q E hr h => ?_)
  · obtain ⟨b, few, many, rfl, _⟩ := h
    rfl
  · obtain ⟨b, few, many, rfl, hb, hf0, hfm, hm, q⟩ := h
    refine ⟨_, (pss_one (ps_ret (pe_join pe_str (pe_lc (own := [("_law_turn", 3)]) (g := (gName 3)) rfl sc_word.nd (pi_range1 (by rfl) M.range (pa_cons (pe_op op_add (pv 1) (pe_c c_choose hr (by decide) (by rfl) (pa_cons (pv 0) (pa_cons (pe_op op_add (pe_op op_sub (pv 2) (pv 1)) pe_int) pa_nil)))) pa_nil)) (blkOk_by (N := ["_law_box", "_law_few", "_law_many", "_law_turn"]) (sc := fnScope s_word) (by decide +kernel)) (fun _ _ _ _ _ => (pg_name (i := 3) sc_word.nd rfl (Or.inl rfl))) (fun _ _ _ _ _ => pts_nil) (fun _ _ _ _ _ => (pe_c c_one_of hr (by decide) (by rfl) (pa_cons (pv 0) (pa_cons (pe_lst (pa_cons pe_str (pa_cons pe_str pa_nil))) pa_nil)))))))), ?_⟩
    refine ⟨⟨_, rfl⟩, .int few, rfl, .ref b, rfl, .int many, rfl, .int few, rfl, _, _, rfl, rfl, _, _, rfl, rfl, b, _, rfl, hb, by omega, by omega, fun r H0 r0 r1 hb0 off0 => ?_⟩
    refine ⟨_, _, rfl, rfl, few + r, rfl, by omega, by omega, fun D hD => ?_⟩
    have nD : D ≠ b := hb0.ne_new hD
    have hDn : ∀ a o, H a = some o → a ≠ b → a ≠ D := fun a o ha na => ne_of_none (off0 _ _ ha na) hD
    refine lc_it walk_range (fun i H1 => ∃ z : List Bool, z.length = i ∧ H1 D = some (.lst (bitV z)) ∧ BoxAt H1 b ∧ Off b H H1)
      ⟨[], rfl, upd_same, hb0.same (same_new hD), off0.trans (off_of (same_new hD))⟩ (fun _ _ _ _ => trivial) (fun i x H1o H1 hi hp hy => ?_) (fun H1 hp => ?_)
    · obtain ⟨rfl, rfl⟩ := hy
      obtain ⟨z, hz, eD, hb1, off⟩ := hp
      refine ⟨rfl, .ref b, rfl, by show 2 ≤ sizeLine; decide, fun l hl => ⟨b, l, _, rfl, hb1.same (same_new hl), upd_same, hb1.ne_new hl, by simp, by decide, fun x H3 hx hb3 off3 => ?_⟩⟩
      obtain ⟨bit, rfl⟩ := bit_of hx
      have nDl : D ≠ l := ne_of_none eD hl
      refine ⟨bitV z, off3 _ _ (by rw [upd_ne nDl]; exact eD) nD, ?_, z ++ [bit], by simp [hz], ?_, ?_, ?_⟩
      · unfold bitV
        rw [List.length_map]
        exact small1000 (by omega)
      · rw [upd_same]
        unfold bitV
        rw [List.map_append]
        rfl
      · obtain ⟨c, d, e, r⟩ := hb3
        exact ⟨c, d, by rw [upd_ne nD.symm]; exact e, r⟩
      · intro a o ha na
        rw [upd_ne (hDn a o ha na)]
        exact off3 _ _ (by rw [upd_ne (ne_of_none (off _ _ ha na) hl)]; exact off _ _ ha na) na
    · obtain ⟨z, hz, eD, hb1, off⟩ := hp
      refine ⟨_, D, z.map fun b => WS [b], rfl, rfl, .inl (.inl (.inl ?_)), join_bits_sz z (by omega), ?_⟩
      · rw [eD, List.map_map]
        rfl
      · rw [join_bits]
        exact q z _ (by omega) (by omega) hb1 off

abbrev s_other_bits : Stmt := (topS 6)
theorem sc_other_bits : FnScope ["word", "bit"] ["word"] (fnScope s_other_bits) := fnScope_by (by decide +kernel)
theorem ok_other_bits {f : Addr} {fd : FuncData} (F : C8.Fun K "other_bits" "other_bits" s_other_bits f fd) (M : Mg mg) : FnOk P w K mg base CX0 1 f fd ["word"] spOther := by
  refine fn0 F sc_other_bits (fun vs H Q E h => ?_) (fun cdv A outer s H vs Q E hr h => ?_)
  · obtain ⟨u, rfl, _⟩ := h
    rfl
  · obtain ⟨u, rfl, hu, q⟩ := h
    refine ⟨_, (pss_one (ps_ret (pe_join pe_str (pe_lc (own := [("bit", 1)]) (g := (gName 1)) rfl sc_other_bits.nd (pi_str (pv 0)) (blkOk_by (N := ["word", "bit"]) (sc := fnScope s_other_bits) (by decide +kernel)) (fun _ _ _ _ _ => (pg_name (i := 1) sc_other_bits.nd rfl (Or.inl rfl))) (fun _ _ _ _ _ => pts_nil) (fun _ _ _ _ _ => (pe_ifExp (pt_cmpR op_eq (pv 1) pe_str (nomark _)) pe_str pe_str)))))), ?_⟩
    refine ⟨⟨_, rfl⟩, .str (WS u), rfl, _, rfl, fun D hD => ?_⟩
    refine lc_it walk_str (fun i H1 => H1 D = some (.lst (bitV ((nt u).take i))) ∧ Same H H1) ⟨upd_same, same_new hD⟩ (fun _ _ _ _ => trivial) (fun i x H1 H2 hi hp hy => ?_) (fun H1 hp => ?_)
    · obtain ⟨rfl, c, hc, rfl⟩ := hy
      obtain ⟨eD, sm⟩ := hp
      obtain ⟨b, hb, hcb⟩ := bit_at hc
      rw [hcb]
      refine ⟨rfl, .str (WS [b]), rfl, rfl, _, rfl, ?_⟩
      have hx : (nt u)[i]? = some (!b) := by
        unfold nt
        rw [List.getElem?_map, hb]
        rfl
      have fin : ∃ acc, H2 D = some (.lst acc) ∧ acc.length < sizeLine ∧ (fun i H1 => H1 D = some (.lst (bitV ((nt u).take i))) ∧ Same H H1) (i + 1) (upd H2 D (.lst (acc ++ [V.str (WS [!b])]))) := by
        refine ⟨bitV ((nt u).take i), eD, ?_, ?_, fun a o ha => ?_⟩
        · unfold bitV
          rw [List.length_map, List.length_take]
          rw [WS_size] at hi
          exact small5 (by omega)
        · rw [upd_same, take_snoc hx]
          unfold bitV
          rw [List.map_append]
          rfl
        · rw [upd_ne (ne_of_none ha hD)]
          exact sm _ _ ha
      have hd : decide (V.str (WS [b]) = V.str "0") = !b := by cases b <;> decide +kernel
      rw [hd]
      cases b with
      | false =>
        refine iteT ?_
        rw [show WS [!false] = "1" by decide +kernel] at fin
        exact fin
      | true =>
        refine iteF ?_
        rw [show WS [!true] = "0" by decide +kernel] at fin
        exact fin
    · obtain ⟨eD, sm⟩ := hp
      have hl : (nt u).take (WS u).cps.size = nt u := List.take_of_length_le (by rw [WS_size, nt_len]; exact Nat.le_refl _)
      rw [hl] at eD
      refine ⟨_, D, (nt u).map fun b => WS [b], rfl, rfl, .inl (.inl (.inl ?_)), join_bits_sz _ (by rw [nt_len]; omega), ?_⟩
      · rw [eD, List.map_map]
        rfl
      · rw [join_bits]
        exact q H1 sm

abbrev s_is_int : Stmt := (topS 4)
theorem sc_is_int : FnScope ["value"] ["value"] (fnScope s_is_int) := fnScope_by (by decide +kernel)
theorem ok_is_int {f : Addr} {fd : FuncData} (F : C8.Fun K "is_int" "is_int" s_is_int f fd) (M : Mg mg) (mbool : mg "bool" = none) : FnOk P w K mg base CX0 1 f fd ["value"] spIsInt := by
  refine fn0 F sc_is_int (fun vs H Q E h => ?_) (fun cdv A outer s H vs Q E hr h => ?_)
  · obtain ⟨i, rfl, _⟩ := h
    rfl
  · obtain ⟨i, rfl, q⟩ := h
    refine ⟨_, (pss_one (ps_ret (pe_and (pe_callB call_isi (by rfl) M.isinstance (by decide +kernel) (pa_cons (pv 0) (pa_cons (pe_bltn (v := .ty "int") (u := .type "int") (by rfl) M.int (by decide +kernel) rfl) pa_nil))) (pe_one (pe_not (pe_callB call_isi (by rfl) M.isinstance (by decide +kernel) (pa_cons (pv 0) (pa_cons (pe_bltn (v := .ty "bool") (u := .type "bool") (by rfl) mbool (by decide +kernel) rfl) pa_nil)))))))), ?_⟩
    refine ⟨.int i, rfl, _, _, _, _, true, rfl, .ty "int", .base (.int _), kit_ty (by decide +kernel), true, rfl, iteT ?_⟩
    refine ⟨.int i, rfl, _, _, _, _, false, rfl, .ty "bool", .base (.int _), kit_ty (by decide +kernel), false, rfl, ?_⟩
    exact q
abbrev s_is_hit : Stmt := (topS 9)
theorem sc_is_hit : FnScope ["value", "least", "size"] ["value", "least", "size"] (fnScope s_is_hit) := fnScope_by (by decide +kernel)
theorem ok_is_hit {aKINDS f : Addr} {fd : FuncData} (F : C8.Fun K "is_hit" "is_hit" s_is_hit f fd) (M : Mg mg) (g_KINDS : mg "KINDS" = some (.ref aKINDS)) (hK : ∀ H, SqT K H aKINDS [.str "double", .str "lose", .str "turn"]) (c_is_int : Cal P w K mg base 1 "is_int" spIsInt []) : FnOk P w K mg base CX0 2 f fd ["value", "least", "size"] spIsHit := by
  refine fn0 F sc_is_hit (fun vs H Q E h => ?_) (fun cdv A outer s H vs Q E hr h => ?_)
  · obtain ⟨v, h, a, z, rfl, _⟩ := h
    rfl
  · obtain ⟨v, ⟨n, k⟩, a, z, rfl, ⟨t, rfl, ht⟩, h1, h2, q⟩ := h
    refine ⟨_, (pss_cons (ps_if (PW.pt (pw_or (pt_not (pt_val (pe_callB call_isi (by rfl) M.isinstance (by decide +kernel) (pa_cons (pv 0) (pa_cons (pe_bltn (v := .ty "tuple") (u := .type "tuple") (by rfl) M.tuple (by decide +kernel) rfl) pa_nil))))) (pw_or (pt_cmpR op_ne (pe_callB call_len_seq (by rfl) M.len PySem.boot_len (pa_cons (pv 0) pa_nil)) pe_int (nomark _)) (pw_or1 (pt_not (pt_val (pe_c c_is_int hr (by decide) (by rfl) (pa_cons (pe_ix (r := rIxT K) ix_tup (pv 0) pe_int (fun _ _ => rfl)) pa_nil))))))))
          (pss_one (ps_ret pe_bl))
          pss_nil)
        (pss_one (ps_ret (pe_and (pe_chain op_le op_lt (pv 1) (pe_ix (r := rIxT K) ix_tup (pv 0) pe_int (fun _ _ => rfl)) (pv 2)) (pe_one (pe_cmpR op_in_seq (pe_ix (r := rIxT K) ix_tup (pv 0) pe_int (fun _ _ => rfl)) (pe_glob (v := .ref aKINDS) (by rfl) g_KINDS rfl) (by rfl))))))), ?_⟩
    refine ⟨.ref t, rfl, _, _, _, _, true, rfl, .ty "tuple", .base (.tup ht), kit_ty (by decide +kernel), true, rfl, iteF ?_⟩
    refine ⟨.ref t, rfl, t, _, rfl, .inr (.inl (.inl ht)), rfl, _, rfl, iteNS rfl ?_⟩
    refine ⟨.ref t, rfl, t, _, 0, _, rfl, rfl, .inl (.inl ht), atI0, _, rfl, _, rfl, iteF ?_⟩
    refine ⟨.int a, rfl, .ref t, rfl, t, _, 0, _, rfl, rfl, .inl (.inl ht), atI0, _, _, rfl, rfl, _, rfl, ?_⟩
    rw [decide_eq_true (show a ≤ ((n : Nat) : Int) from h1)]
    refine iteT ⟨.int z, rfl, _, _, rfl, rfl, _, rfl, ?_⟩
    rw [decide_eq_true (show ((n : Nat) : Int) < z from h2)]
    refine iteT ⟨.ref t, rfl, t, _, 1, _, rfl, rfl, .inl (.inl ht), atI1, aKINDS, _, rfl, .inr (hK H), rfl, rfl, ?_⟩
    show Q (.bl (inV (.str (kT k)) [.str "double", .str "lose", .str "turn"])) H
    rw [show inV (.str (kT k)) [.str "double", .str "lose", .str "turn"] = true by cases k <;> decide +kernel]
    exact q
abbrev s_arriving : Stmt := (topS 10)
theorem sc_arriving : FnScope ["bit", "kind"] ["bit", "kind"] (fnScope s_arriving) := fnScope_by (by decide +kernel)
theorem ok_arriving {f : Addr} {fd : FuncData} (F : C8.Fun K "arriving" "arriving" s_arriving f fd) (M : Mg mg) (c_other_bits : Cal P w K mg base 1 "other_bits" spOther []) : FnOk P w K mg base CX0 2 f fd ["bit", "kind"] spArriving := by
  refine fn0 F sc_arriving (fun vs H Q E h => ?_) (fun cdv A outer s H vs Q E hr h => ?_)
  · obtain ⟨b, k, rfl, _⟩ := h
    rfl
  · obtain ⟨b, k, rfl, q⟩ := h
    refine ⟨_, (pss_cons (ps_if (pt_cmpR op_eq (pv 1) pe_str (nomark _))
          (pss_one (ps_ret (pe_op op_add_str (pv 0) (pv 0))))
          pss_nil)
        (pss_cons (ps_if (pt_cmpR op_eq (pv 1) pe_str (nomark _))
          (pss_one (ps_ret pe_str))
          pss_nil)
        (pss_cons (ps_if (pt_cmpR op_eq (pv 1) pe_str (nomark _))
          (pss_one (ps_ret (pe_c c_other_bits hr (by decide) (by rfl) (pa_cons (pv 0) pa_nil))))
          pss_nil)
        (pss_one (ps_ret (pv 0)))))), ?_⟩
    cases k with
    | none =>
      refine ⟨.non, rfl, rfl, _, rfl, ?_⟩
      rw [decide_eq_false (by intro z; cases z)]
      refine iteF ⟨.non, rfl, rfl, _, rfl, ?_⟩
      rw [decide_eq_false (by intro z; cases z)]
      refine iteF ⟨.non, rfl, rfl, _, rfl, ?_⟩
      rw [decide_eq_false (by intro z; cases z)]
      exact iteF ⟨_, rfl, q H (Same.refl H)⟩
    | some k =>
      cases k with
      | double =>
        refine ⟨.str (kT .double), rfl, rfl, _, rfl, ?_⟩
        rw [decide_eq_true (show V.str (kT .double) = V.str "double" from rfl)]
        refine iteT ⟨.str (WS [b]), rfl, .str (WS [b]), rfl, _, _, rfl, rfl, cat_len5 _ _ (by show 2 ≤ 100000; decide), ?_⟩
        rw [WS_cat]
        exact q H (Same.refl H)
      | lose =>
        refine ⟨.str (kT .lose), rfl, rfl, _, rfl, ?_⟩
        rw [decide_eq_false (str_ne (by decide +kernel))]
        refine iteF ⟨.str (kT .lose), rfl, rfl, _, rfl, ?_⟩
        rw [decide_eq_true (show V.str (kT .lose) = V.str "lose" from rfl)]
        exact iteT (q H (Same.refl H))
      | turn =>
        refine ⟨.str (kT .turn), rfl, rfl, _, rfl, ?_⟩
        rw [decide_eq_false (str_ne (by decide +kernel))]
        refine iteF ⟨.str (kT .turn), rfl, rfl, _, rfl, ?_⟩
        rw [decide_eq_false (str_ne (by decide +kernel))]
        refine iteF ⟨.str (kT .turn), rfl, rfl, _, rfl, ?_⟩
        rw [decide_eq_true (show V.str (kT .turn) = V.str "turn" from rfl)]
        exact iteT ⟨.str (WS [b]), rfl, [b], rfl, by show 1 ≤ 1000; decide, fun H' s' => q H' s'⟩
abbrev s_hit : Stmt := (topS 11)
theorem sc_hit : FnScope ["line", "hits", "least", "index", "value", "at", "kind", "kinds", "bit"] ["line", "hits"] (fnScope s_hit) := fnScope_by (by decide +kernel)
theorem ok_hit {f : Addr} {fd : FuncData} (F : C8.Fun K "hit" "hit" s_hit f fd) (M : Mg mg) (c_is_hit : Cal P w K mg base 2 "is_hit" spIsHit []) (c_arriving : Cal P w K mg base 2 "arriving" spArriving []) : FnOk P w K mg base CX0 3 f fd ["line", "hits"] (spHit K) := by
  refine fn0 F sc_hit (fun vs H Q E h => ?_) (fun cdv A outer s H vs Q E hr h => ?_)
  · obtain ⟨line, l, o, xs, hs, rfl, _⟩ := h
    rfl
  · obtain ⟨line, l, o, xs, hs, rfl, hln, hl, hh, asc, q⟩ := h
    refine ⟨_, (pss_cons (ps_if (pt_not (pt_val (pe_callB call_isiT (by rfl) M.isinstance (by decide +kernel) (pa_cons (pv 1) (pa_cons (pe_tup (pa_cons (pe_bltn (v := .ty "list") (u := .type "list") (by rfl) M.list (by decide +kernel) rfl) (pa_cons (pe_bltn (v := .ty "tuple") (u := .type "tuple") (by rfl) M.tuple (by decide +kernel) rfl) pa_nil))) pa_nil)))))
          (pss_one ps_never)
          pss_nil)
        (pss_cons (ps_set (i := 2) sc_hit.nd rfl (Or.inl rfl) pe_int)
        (pss_cons (ps_for PassesOwn.never rfl (pi_enumSeq (pi_enum (by rfl) M.enumerate (pa_cons (pv 1) pa_nil)) (pi_enumT (by rfl) M.enumerate (pa_cons (pv 1) pa_nil))) (pg_tup rfl (pgs_cons (pg_name (i := 3) sc_hit.nd rfl (Or.inl rfl)) (pgs_cons (pg_name (i := 4) sc_hit.nd rfl (Or.inl rfl)) pgs_nil)))
          (pss_cons (ps_if (pt_not (pt_val (pe_c c_is_hit hr (by decide) (by rfl) (pa_cons (pv 4) (pa_cons (pv 2) (pa_cons (pe_callB call_len_str (by rfl) M.len PySem.boot_len (pa_cons (pv 0) pa_nil)) pa_nil))))))
              (pss_one ps_never)
              pss_nil)
            (pss_one (ps_set (i := 2) sc_hit.nd rfl (Or.inl rfl) (pe_op op_add (pe_ix (r := rIxT K) ix_tup (pv 4) pe_int (fun _ _ => rfl)) pe_int)))))
        (pss_cons (ps_set (i := 7) sc_hit.nd rfl (Or.inr rfl) (pe_dc (own := [("at", 5), ("kind", 6)]) (g := (gTup _ 2 (gCons (gName 5) (gCons (gName 6) gNil)))) rfl sc_hit.nd (pi_seq (pi_list (pv 1)) (pi_tup (pv 1))) (blkOk_by (N := ["line", "hits", "least", "index", "value", "at", "kind", "kinds", "bit"]) (sc := fnScope s_hit) (by decide +kernel)) (fun _ _ _ _ _ => (pg_tup rfl (pgs_cons (pg_name (i := 5) sc_hit.nd rfl (Or.inl rfl)) (pgs_cons (pg_name (i := 6) sc_hit.nd rfl (Or.inl rfl)) pgs_nil)))) (fun _ _ _ _ _ => pts_nil) (fun _ _ _ _ _ => (pv 5)) (fun _ _ _ _ _ => (pv 6))))
        (pss_one (ps_ret (pe_join pe_str (pe_lc (own := [("at", 5), ("bit", 8)]) (g := (gTup _ 2 (gCons (gName 5) (gCons (gName 8) gNil)))) rfl sc_hit.nd (pi_enumS (by rfl) M.enumerate (pa_cons (pv 0) pa_nil)) (blkOk_by (N := ["line", "hits", "least", "index", "value", "at", "kind", "kinds", "bit"]) (sc := fnScope s_hit) (by decide +kernel)) (fun _ _ _ _ _ => (pg_tup rfl (pgs_cons (pg_name (i := 5) sc_hit.nd rfl (Or.inl rfl)) (pgs_cons (pg_name (i := 8) sc_hit.nd rfl (Or.inl rfl)) pgs_nil)))) (fun _ _ _ _ _ => pts_nil) (fun _ _ _ _ _ => (pe_c c_arriving hr (by decide) (by rfl) (pa_cons (pv 8) (pa_cons (pe_dget1 (hu_of hr) (pv 7) (pv 5) ⟨by rfl, by rfl, by rfl, by rfl⟩) pa_nil)))))))))))), ?_⟩
    have hxl : xs.length = hs.length := hh.len
    have hhl := asc_len asc
    refine ⟨.ref l, rfl, by show 2 ≤ sizeLine; decide, fun tp htp => ?_⟩
    have s1 : Same H (upd H tp (.tup [.ty "list", .ty "tuple"])) := same_new htp
    obtain ⟨t, tx, kx⟩ := (hl.same s1).ty
    refine ⟨_, tp, [.ty "list", .ty "tuple"], t, [.type "list", .type "tuple"], true, rfl, upd_same, .cons (.ty _) (.cons (.ty _) .nil), tx, kx, true, rfl, iteF ?_⟩
    refine ⟨l, o, xs, rfl, hl.same s1, fun J W => ?_⟩
    refine for_it W (fun i σ H1 => ∃ (a : Int) (x3 x4 : Option V), σ = [some (.str (WS line)), some (.ref l), some (.int a), x3, x4, none, none, none, none] ∧ Same H H1 ∧ ∀ h, hs[i]? = some h → a ≤ ((h.1 : Nat) : Int))
      ⟨0, none, none, rfl, s1, fun h _ => Int.natCast_nonneg _⟩ (fun i σ H1 _ hp => by obtain ⟨_, _, _, _, s2, _⟩ := hp; exact hl.same s2) (fun i x σ H1o H1 hi hp1 hy => ?_) (fun σ H1 hp1 => ?_)
    · obtain ⟨T, x', y', rfl, hT, rfl, g1, g2⟩ := hy
      obtain ⟨a, x3, x4, rfl, s2, ha⟩ := hp1
      cases g1
      obtain ⟨h, hhi, t2, rfl, ht2⟩ := hh.get g2
      have sT : Same H1o (upd H1o T (.tup [V.int (i : Nat), V.ref t2])) := same_new hT
      have s3 := s2.trans sT
      refine ⟨T, _, rfl, .inl (.inl upd_same), rfl, _, _, rfl, _, _, rfl, rfl, ?_⟩
      refine ⟨.ref t2, rfl, .int a, rfl, .str (WS line), rfl, _, rfl, ls_len line (by omega), .ref t2, h, a, _, rfl, ⟨t2, rfl, s3 _ _ ht2⟩, ha h hhi, ?_, _, rfl, iteF ?_⟩
      · rw [WS_len]
        have := asc.lt h (List.mem_of_getElem? hhi)
        omega
      · refine ⟨.ref t2, rfl, t2, _, 0, _, rfl, rfl, .inl (.inl (s3 _ _ ht2)), atI0, _, _, rfl, rfl, ?_⟩
        refine ⟨_, _, _, rfl, s3, fun h' hh' => ?_⟩
        obtain ⟨l1, e1⟩ := List.getElem?_eq_some_iff.mp hhi
        obtain ⟨l2, e2⟩ := List.getElem?_eq_some_iff.mp hh'
        have := List.pairwise_iff_getElem.mp asc.up i (i + 1) l1 l2 (Nat.lt_succ_self i)
        rw [e1, e2] at this
        omega
    · obtain ⟨a, x3, x4, rfl, s2, _⟩ := hp1
      refine ⟨l, o, xs, rfl, hl.same s2, fun J2 W2 D hD => ?_⟩
      have nD : ∀ a u, H a = some u → a ≠ D := fun a u ha => ne_of_none (s2 _ _ ha) hD
      refine dc_it W2 (fun i H2 => H2 D = some (.dK (kvH (hs.take i))) ∧ Same H H2) ⟨by rw [upd_same]; rfl, s2.trans (same_new hD)⟩ (fun i H2 _ h => hl.same h.2) (fun i x H2o H2 hi hp2 hy => ?_) (fun H2 hp2 => ?_)
      · obtain ⟨rfl, hx⟩ := hy
        obtain ⟨eD, s3⟩ := hp2
        obtain ⟨h, hhi, t2, rfl, ht2⟩ := hh.get hx
        refine ⟨t2, _, rfl, .inl (.inl (s3 _ _ ht2)), rfl, _, _, rfl, _, _, rfl, rfl, rfl, ?_⟩
        refine ⟨_, rfl, _, rfl, kvH (hs.take i), Sum.inl ((h.1 : Nat) : Int), rfl, eD, ?_, ?_, fun a u ha => ?_⟩
        · unfold kvH
          rw [List.length_map, List.length_take]
          exact small1000 (by omega)
        · rw [upd_same, kvH_take asc hhi]
        · rw [upd_ne (nD a u ha)]
          exact s3 _ _ ha
      · obtain ⟨eD, s3⟩ := hp2
        rw [hxl, List.take_length] at eD
        refine ⟨⟨_, rfl⟩, .str (WS line), rfl, WS line, rfl, fun G hG => ?_⟩
        have nG : ∀ a u, H a = some u → a ≠ G := fun a u ha => ne_of_none (s3 _ _ ha) hG
        have nDG : D ≠ G := ne_of_none eD hG
        refine lc_it walk_itp (fun i H4 => H4 G = some (.lst (strV (pieGo (kOf hs) 0 (line.take i)))) ∧ H4 D = some (.dK (kvH hs)) ∧ Same H H4) ⟨by rw [upd_same]; rfl, by rw [upd_ne nDG]; exact eD, s3.trans (same_new hG)⟩ (fun _ _ _ _ => trivial) (fun i x H4o H4 hi hp4 hy => ?_) (fun H4 hp4 => ?_)
        · obtain ⟨T, x', y', rfl, hT, rfl, g1, g2⟩ := hy
          obtain ⟨eG, eD4, s4⟩ := hp4
          cases g1
          rw [sgn_WS] at g2
          obtain ⟨b, hb, rfl⟩ := Option.map_eq_some_iff.mp g2
          have hil : i < line.length := (List.getElem?_eq_some_iff.mp hb).1
          have sT : Same H4o (upd H4o T (.tup [V.int (i : Nat), V.str (WS [b])])) := same_new hT
          refine ⟨T, _, rfl, .inl (.inl upd_same), rfl, _, _, rfl, _, _, rfl, rfl, rfl, ?_⟩
          refine ⟨.str (WS [b]), rfl, .ref D, rfl, D, rfl, .inl ⟨_, .inl (sT _ _ eD4)⟩, .int (i : Nat), rfl, _, DGet.k (k := Sum.inl ((i : Nat) : Int)) (sT _ _ eD4), b, kOf hs i, ?_, fun H5 s5 => ?_⟩
          · rw [val_kvH asc]
            cases kOf hs i <;> rfl
          · have s45 := sT.trans s5
            refine ⟨_, s45 _ _ eG, ?_, ?_, ?_, fun a u ha => ?_⟩
            · rw [strV_len, pie_many, List.length_take]
              exact small1000 (by omega)
            · rw [upd_same, pie_snoc hb, strV_app]
              rfl
            · rw [upd_ne nDG]
              exact s45 _ _ eD4
            · rw [upd_ne (nG a u ha)]
              exact s45 _ _ (s4 _ _ ha)
        · obtain ⟨eG, eD4, s4⟩ := hp4
          rw [WS_size, List.take_length] at eG
          have hfl := pie_len (kOf hs) line 0
          refine ⟨_, G, (pieGo (kOf hs) 0 line).map WS, rfl, rfl, .inl (.inl (.inl ?_)), join_words_sz _ (by omega), ?_⟩
          · rw [eG, List.map_map]
            rfl
          · rw [join_words]
            exact q H4 s4
abbrev s_arrived : Stmt := (topS 17)
theorem sc_arrived : FnScope ["_law_line", "_law_told", "_law_kinds", "_law_found", "_law_at", "_law_bit", "_law_kind", "_law_comes"] ["_law_line", "_law_told"] (fnScope s_arrived) := fnScope_by (by decide +kernel)
theorem ok_larr {f : Addr} {fd : FuncData} (F : C8.Fun K "_law_arrived" "_law_arrived" s_arrived f fd) (M : Mg mg) (mdict : mg "dict" = none) : FnOk P w K mg base CX0 1 f fd ["_law_line", "_law_told"] spLArr := by
  refine fn0 F sc_arrived (fun vs H Q E h => ?_) (fun cdv A outer s H vs Q E hr h => ?_)
  · obtain ⟨line, l, xs, hs, rfl, _⟩ := h
    rfl
  · obtain ⟨line, l, xs, hs, rfl, hln, hl, hh, asc, q⟩ := h
    refine ⟨_, (pss_cons (ps_par (i := 2) (j := 3) rfl sc_arrived.nd rfl rfl (by decide) rfl rfl (pa_cons (pe_callTy (call_dictP rfl) (by rfl) mdict (by decide +kernel) (pa_cons (pv 1) pa_nil)) (pa_cons pe_str pa_nil)) (by rfl))
        (pss_cons (ps_for PassesOwn.never rfl (pi_enumS (by rfl) M.enumerate (pa_cons (pv 0) pa_nil)) (pg_tup rfl (pgs_cons (pg_name (i := 4) sc_arrived.nd rfl (Or.inl rfl)) (pgs_cons (pg_name (i := 5) sc_arrived.nd rfl (Or.inl rfl)) pgs_nil)))
          (pss_cons (ps_set (i := 6) sc_arrived.nd rfl (Or.inl rfl) (pe_dget2 (hu_of hr) (pv 2) (pv 4) pe_str ⟨by rfl, by rfl, by rfl, by rfl⟩))
            (pss_cons (ps_set (i := 7) sc_arrived.nd rfl (Or.inl rfl) (pe_disp (pps_cons pe_str (pv 5) (pps_cons pe_str (pe_ifExp (pt_cmpR op_eq (pv 5) pe_str (nomark _)) pe_str pe_str) (pps_cons pe_str pe_str (pps_cons pe_str (pe_op op_add_str (pv 5) (pv 5)) pps_nil)))) (by rfl) (by rfl) (fun z => by cases z) (by decide)))
            (pss_one (ps_set (i := 3) sc_arrived.nd rfl (Or.inl rfl) (pe_op op_add_str (pv 3) (pe_dget (hu_of hr) (pv 7) (pv 6) (fun _ _ => rfl))))))))
        (pss_one (ps_ret (pv 3))))), ?_⟩
    obtain ⟨ps, rfl, hps⟩ := hits_paired (K := K) hh
    refine ⟨.ref l, rfl, l, ps, kvH hs, rfl, .inl (.inl hl), hps, fun D hD => ⟨_, _, rfl, ?_⟩⟩
    rw [kvH_merge asc]
    refine ⟨.str (WS line), rfl, WS line, rfl, ?_⟩
    refine for_it walk_itp (fun i σ H1 => ∃ (x4 x5 x6 x7 : Option V), σ = [some (.str (WS line)), some (.ref l), some (.ref D), some (.str (WS (pieGo (kOf hs) 0 (line.take i)).flatten)), x4, x5, x6, x7] ∧ Same H H1 ∧ H1 D = some (.dK (kvH hs)))
      ⟨none, none, none, none, rfl, same_new hD, upd_same⟩ (fun _ _ _ _ _ => trivial) (fun i x σ H1o H1 hi hp1 hy => ?_) (fun σ H1 hp1 => ?_)
    · obtain ⟨T, x', y', rfl, hT, rfl, g1, g2⟩ := hy
      obtain ⟨x4, x5, x6, x7, rfl, s1, eD⟩ := hp1
      cases g1
      rw [sgn_WS] at g2
      obtain ⟨b, hb, rfl⟩ := Option.map_eq_some_iff.mp g2
      have sT : Same H1o (upd H1o T (.tup [V.int (i : Nat), V.str (WS [b])])) := same_new hT
      have eD2 := sT _ _ eD
      refine ⟨T, _, rfl, .inl (.inl upd_same), rfl, _, _, rfl, _, _, rfl, rfl, ?_⟩
      revert eD2
      have s2 := s1.trans sT
      revert s2
      generalize upd H1o T (.tup [V.int (i : Nat), V.str (WS [b])]) = H2
      intro s2 eD2
      refine ⟨.ref D, rfl, D, rfl, .inl ⟨_, .inl eD2⟩, .int (i : Nat), rfl, _, DGet.k (k := Sum.inl ((i : Nat) : Int)) eD2, ?_⟩
      have ek : (valV (kvH hs) (Sum.inl ((i : Nat) : Int))).getD (.str "") = .str (kS (kOf hs i)) := by
        rw [val_kvH asc]
        cases kOf hs i <;> rfl
      rw [ek]
      refine fun C hC => ⟨.str (WS [b]), rfl, .str (WS [b]), rfl, rfl, _, rfl, ?_⟩
      have hfl := pie_len (kOf hs) (line.take i) 0
      have htl : (line.take i).length ≤ 900 := by rw [List.length_take]; omega
      cases b with
      | true =>
        rw [decide_eq_true (show V.str (WS [true]) = V.str "1" by rw [WS_1])]
        refine iteT ⟨.str (WS [true]), rfl, .str (WS [true]), rfl, _, _, rfl, rfl, cat_len5 _ _ (by show 2 ≤ 100000; decide), upd_same, comesL true, ?_, by decide, ?_⟩
        · rw [WS_cat]
          show _ = [(V.str "", V.str (WS [true])), (V.str "turn", V.str (WS [!true])), (V.str "lose", V.str (WS [])), (V.str "double", V.str (WS [true, true]))]
          rw [show WS [!true] = ("0" : Str) by decide +kernel]
          rfl
        rw [comes_merge]
        have sC : Same H2 (upd (upd H2 C (.dK [])) C (.dK (comesL true))) := fun a u ha => by
          rw [upd_ne (ne_of_none ha hC), upd_ne (ne_of_none ha hC)]
          exact ha
        refine ⟨_, rfl, .ref C, rfl, .str (kS (kOf hs i)), rfl, C, _, rfl, (comes_val true (kOf hs i)) ▸ DGet.k (k := Sum.inr (kS (kOf hs i))) upd_same, _, _, rfl, rfl, cat_len5 _ _ ?_, ?_⟩
        · have := arrB_len true (kOf hs i)
          omega
        · rw [WS_cat, show (pieGo (kOf hs) 0 (line.take i)).flatten ++ arrB true (kOf hs i) = (pieGo (kOf hs) 0 (line.take (i + 1))).flatten by rw [pie_snoc hb, List.flatten_append]; simp]
          exact ⟨_, _, _, _, rfl, s2.trans sC, sC _ _ eD2⟩
      | false =>
        rw [decide_eq_false (str_ne (show WS [false] ≠ ("1" : Str) by decide +kernel))]
        refine iteF ⟨.str (WS [false]), rfl, .str (WS [false]), rfl, _, _, rfl, rfl, cat_len5 _ _ (by show 2 ≤ 100000; decide), upd_same, comesL false, ?_, by decide, ?_⟩
        · rw [WS_cat]
          show _ = [(V.str "", V.str (WS [false])), (V.str "turn", V.str (WS [!false])), (V.str "lose", V.str (WS [])), (V.str "double", V.str (WS [false, false]))]
          rw [show WS [!false] = ("1" : Str) by decide +kernel]
          rfl
        rw [comes_merge]
        have sC : Same H2 (upd (upd H2 C (.dK [])) C (.dK (comesL false))) := fun a u ha => by
          rw [upd_ne (ne_of_none ha hC), upd_ne (ne_of_none ha hC)]
          exact ha
        refine ⟨_, rfl, .ref C, rfl, .str (kS (kOf hs i)), rfl, C, _, rfl, (comes_val false (kOf hs i)) ▸ DGet.k (k := Sum.inr (kS (kOf hs i))) upd_same, _, _, rfl, rfl, cat_len5 _ _ ?_, ?_⟩
        · have := arrB_len false (kOf hs i)
          omega
        · rw [WS_cat, show (pieGo (kOf hs) 0 (line.take i)).flatten ++ arrB false (kOf hs i) = (pieGo (kOf hs) 0 (line.take (i + 1))).flatten by rw [pie_snoc hb, List.flatten_append]; simp]
          exact ⟨_, _, _, _, rfl, s2.trans sC, sC _ _ eD2⟩
    · obtain ⟨x4, x5, x6, x7, rfl, s1, eD⟩ := hp1
      rw [WS_size, List.take_length]
      exact ⟨_, rfl, q H1 s1⟩
abbrev s_hits : Stmt := (topS 18)
theorem sc_hits : FnScope ["_law_box", "_law_many", "_law_found", "_law_at"] ["_law_box", "_law_many"] (fnScope s_hits) := fnScope_by (by decide +kernel)
theorem ok_lhits {f : Addr} {fd : FuncData} (F : C8.Fun K "_law_hits" "_law_hits" s_hits f fd) (M : Mg mg) (c_choose : Cal P w K mg base 1 "_law_choose" spChoose []) (c_one_of : Cal P w K mg base 2 "_law_one_of" spOneOf []) : FnOk P w K mg base CX0 3 f fd ["_law_box", "_law_many"] spLHits := by
  refine fn0 F sc_hits (fun vs H Q E h => ?_) (fun cdv A outer s H vs Q E hr h => ?_)
  · obtain ⟨b, n, rfl, _⟩ := h
    rfl
  · obtain ⟨b, n, rfl, hb, hn, q⟩ := h
    refine ⟨_, (pss_cons (ps_set (i := 2) sc_hits.nd rfl (Or.inl rfl) (pe_lst pa_nil))
        (pss_cons (ps_for PassesOwn.never rfl (pi_range1 (by rfl) M.range (pa_cons (pv 1) pa_nil)) (pg_name (i := 3) sc_hits.nd rfl (Or.inl rfl))
          (pss_one (ps_if (pt_cmpR op_eq (pe_c c_choose hr (by decide) (by rfl) (pa_cons (pv 0) (pa_cons pe_int pa_nil))) pe_int (nomark _))
              (pss_one (ps_expr (pe_bm PySem.F.plainAttrs_list PySem.F.slot_list_append PySem.F.type_list_append mt_append (pv 2) (pa_cons (pe_tup (pa_cons (pv 3) (pa_cons (pe_c c_one_of hr (by decide) (by rfl) (pa_cons (pv 0) (pa_cons (pe_lst (pa_cons pe_str (pa_cons pe_str (pa_cons pe_str pa_nil)))) pa_nil))) pa_nil))) pa_nil))))
              pss_nil)))
        (pss_one (ps_ret (pv 2))))), ?_⟩
    refine ⟨by show 0 ≤ sizeLine; decide, fun G hG => ?_⟩
    have nGb : G ≠ b := hb.ne_new hG
    refine ⟨.int (n : Nat), rfl, (n : Nat), rfl, by omega, by omega, ?_⟩
    refine for_it walk_range (fun i σ H1 => ∃ (x3 : Option V) (xs : List V) (hs : List Ht), σ = [some (.ref b), some (.int (n : Nat)), some (.ref G), x3] ∧ H1 G = some (.lst xs) ∧ Hits H1 xs hs ∧ Asc hs i ∧ BoxAt H1 b ∧ Own.Off b H H1)
      ⟨none, [], [], rfl, upd_same, trivial, Asc.nil, hb.same (same_new hG), off_of (same_new hG)⟩ (fun _ _ _ _ _ => trivial) (fun i x σ H1o H1 hi hp hy => ?_) (fun σ H1 hp => ?_)
    · obtain ⟨rfl, rfl⟩ := hy
      obtain ⟨x3, xs, hs, rfl, eG, hh, asc, hb1, off1⟩ := hp
      have hi9 : i < 900 := by
        have : i < ((n : Int) - 0).toNat := by simpa using hi
        omega
      have hhl := asc_len asc
      refine ⟨.ref b, rfl, b, 4, rfl, hb1, by decide, by decide, fun r H2 r0 r1 hb2 off2 => ⟨rfl, _, rfl, ?_⟩⟩
      have eG2 := off2 _ _ eG nGb
      have hh2 := hh.kp (kp_off hb1 off2)
      have off02 := off1.trans off2
      refine ite2 (fun e => ?_) (fun e => ?_)
      · refine ⟨.ref G, rfl, .inl ⟨rfl, _, .inl (.inl eG2)⟩, _, rfl, .ref b, rfl, by show 3 ≤ sizeLine; decide, fun m hm => ⟨b, m, _, rfl, hb2.same (same_new hm), upd_same, hb2.ne_new hm, by simp, by decide, fun x H3 hx hb3 off3 => ?_⟩⟩
        obtain ⟨k, rfl⟩ := kd_of hx
        have off23 : Own.Off b H2 H3 := (off_of (same_new hm)).trans off3
        refine ⟨by show 2 ≤ sizeLine; decide, fun t ht => ?_⟩
        have st : Same H3 (upd H3 t (.tup [.int (0 + (i : Nat)), .str (kT k)])) := same_new ht
        have eG4 := st _ _ (off23 _ _ eG2 nGb)
        refine ⟨G, xs, _, rfl, rfl, eG4, small1000 (by rw [hh.len]; omega), ?_⟩
        have kG := kp_lst (ys := xs ++ [.ref t]) eG4
        refine ⟨_, xs ++ [.ref t], hs ++ [(i, k)], rfl, upd_same, (((hh2.kp (kp_off hb2 off23)).kp (kp_same st)).kp kG).snoc ⟨t, rfl, ?_⟩, asc.snoc k, ?_, fun a u ha na => ?_⟩
        · have := kG _ _ (upd_same (H := H3) (a := t) (o := .tup [.int (0 + (i : Nat)), .str (kT k)])) trivial
          rw [Int.zero_add] at this
          rw [Int.zero_add]
          exact this
        · obtain ⟨c0, d0, e0, r0⟩ := hb3.same st
          exact ⟨c0, d0, by rw [upd_ne nGb.symm]; exact e0, r0⟩
        · rw [upd_ne (ne_of_none ha hG)]
          exact st _ _ (off23 _ _ (off02 _ _ ha na) na)
      · exact ⟨_, xs, hs, rfl, eG2, hh2, asc.up1, hb2, off02⟩
    · obtain ⟨x3, xs, hs, rfl, eG, hh, asc, hb1, off1⟩ := hp
      have en : ((n : Int)).toNat = n := by simp
      refine ⟨_, rfl, q G xs hs H1 hG eG hh ?_ hb1 off1⟩
      have : Asc hs ((n : Int) - 0).toNat := asc
      rwa [show ((n : Int) - 0).toNat = n by omega] at this

abbrev s_law : Stmt := (topS 19)
theorem sc_law : FnScope ["_law_script", "_law_k", "_law_box", "_law_turn", "_law_line", "_law_told", "_law_handed", "_law_at", "_law_every"] ["_law_script"] (fnScope s_law) := fnScope_by (by decide +kernel)
theorem ok_law {f : Addr} {fd : FuncData} (F : C8.Fun K "law" "law" s_law f fd) (M : Mg mg) (c_seed : Cal P w K mg base 1 "_law_seed" (spSeed K) []) (c_word : Cal P w K mg base 3 "_law_word" spWord2 []) (c_hits : Cal P w K mg base 3 "_law_hits" spLHits []) (c_arrived : Cal P w K mg base 1 "_law_arrived" spLArr []) (c_hit : Cal P w K mg base 3 "hit" (spHit K) []) : FnOk P w K mg base CX0 4 f fd ["_law_script"] (spLaw K) := by
  refine fn0 F sc_law (fun vs H Q E h => ?_) (fun cdv A outer s H vs Q E hr h => ?_)
  · obtain ⟨a, ns, rfl, _⟩ := h
    rfl
  · obtain ⟨a, ns, rfl, hS, hl, q⟩ := h
    refine ⟨_, (pss_cons (ps_for PassesOwn.never rfl (pi_range1 (by rfl) M.range (pa_cons (pe_callB (call_max2 rfl) (by rfl) M.max (by decide +kernel) (pa_cons pe_int (pa_cons (pe_callB (call_min2 rfl) (by rfl) M.min (by decide +kernel) (pa_cons pe_int (pa_cons (pe_callB call_len_seq (by rfl) M.len PySem.boot_len (pa_cons (pv 0) pa_nil)) pa_nil))) pa_nil))) pa_nil)) (pg_name (i := 1) sc_law.nd rfl (Or.inl rfl))
          (pss_cons (ps_set (i := 2) sc_law.nd rfl (Or.inl rfl) (pe_c c_seed hr (by decide) (by rfl) (pa_cons (pv 0) (pa_cons (pv 1) pa_nil))))
            (pss_one (ps_for PassesOwn.never rfl (pi_range1 (by rfl) M.range (pa_cons pe_int pa_nil)) (pg_name (i := 3) sc_law.nd rfl (Or.inl rfl))
              (pss_cons (ps_set (i := 4) sc_law.nd rfl (Or.inl rfl) (pe_c c_word hr (by decide) (by rfl) (pa_cons (pv 2) (pa_cons pe_int (pa_cons pe_int pa_nil)))))
                (pss_cons (ps_set (i := 5) sc_law.nd rfl (Or.inl rfl) (pe_c c_hits hr (by decide) (by rfl) (pa_cons (pv 2) (pa_cons (pe_callB call_len_str (by rfl) M.len PySem.boot_len (pa_cons (pv 4) pa_nil)) pa_nil))))
                (pss_cons (ps_set (i := 6) sc_law.nd rfl (Or.inl rfl) (pe_callTy call_list_of (by rfl) M.list (by decide +kernel) (pa_cons (pv 5) pa_nil)))
                (pss_cons (ps_if (PW.pt (pw_or (pt_cmpR op_ne (pe_c c_hit hr (by decide) (by rfl) (pa_cons (pv 4) (pa_cons (pv 6) pa_nil))) (pe_c c_arrived hr (by decide) (by rfl) (pa_cons (pv 4) (pa_cons (pv 5) pa_nil))) (nomark _)) (pw_or1 (pt_cmpR (op_neD hr.units) (pv 6) (pv 5) (nomark _)))))
                  (pss_one (ps_ret pe_bl))
                  pss_nil)
                (pss_cons (ps_if (PW.pt (pw_or (pt_cmpR op_ne (pe_c c_hit hr (by decide) (by rfl) (pa_cons (pv 4) (pa_cons (pe_callTy call_tuple_of (by rfl) M.tuple (by decide +kernel) (pa_cons (pv 5) pa_nil)) pa_nil))) (pe_c c_arrived hr (by decide) (by rfl) (pa_cons (pv 4) (pa_cons (pv 5) pa_nil))) (nomark _)) (pw_or1 (pt_cmpR op_ne (pe_c c_hit hr (by decide) (by rfl) (pa_cons (pv 4) (pa_cons (pe_lst pa_nil) pa_nil))) (pv 4) (nomark _)))))
                  (pss_one (ps_ret pe_bl))
                  pss_nil)
                (pss_one (ps_if (pt_cmpR op_ne (pv 4) pe_str (nomark _))
                  (pss_cons (ps_setLc (i := 8) (own := [("_law_at", 7)]) (g := (gName 7)) rfl sc_law.nd rfl rfl (sw_true rfl rfl rfl (by decide +kernel)) (pi_range1 (by rfl) M.range (pa_cons (pe_callB call_len_str (by rfl) M.len PySem.boot_len (pa_cons (pv 4) pa_nil)) pa_nil)) (blkOk_by (N := ["_law_script", "_law_k", "_law_box", "_law_turn", "_law_line", "_law_told", "_law_handed", "_law_at", "_law_every"]) (sc := fnScope s_law) (by decide +kernel)) (fun _ _ _ _ _ => (pg_name (i := 7) sc_law.nd rfl (Or.inl rfl))) (fun _ _ _ _ _ => pts_nil) (fun _ _ _ _ _ => (pe_tup (pa_cons (pv 7) (pa_cons pe_str pa_nil)))))
                    (pss_one (ps_if (PW.pt (pw_or (pt_cmpR op_ne (pe_c c_hit hr (by decide) (by rfl) (pa_cons (pe_c c_hit hr (by decide) (by rfl) (pa_cons (pv 4) (pa_cons (pv 8) pa_nil))) (pa_cons (pv 8) pa_nil))) (pv 4) (nomark _)) (pw_or1 (pt_cmpR op_ne (pe_c c_hit hr (by decide) (by rfl) (pa_cons (pv 4) (pa_cons (pe_lc (own := [("_law_at", 7)]) (g := (gName 7)) rfl sc_law.nd (pi_range1 (by rfl) M.range (pa_cons (pe_callB call_len_str (by rfl) M.len PySem.boot_len (pa_cons (pv 4) pa_nil)) pa_nil)) (blkOk_by (N := ["_law_script", "_law_k", "_law_box", "_law_turn", "_law_line", "_law_told", "_law_handed", "_law_at", "_law_every"]) (sc := fnScope s_law) (by decide +kernel)) (fun _ _ _ _ _ => (pg_name (i := 7) sc_law.nd rfl (Or.inl rfl))) (fun _ _ _ _ _ => pts_nil) (fun _ _ _ _ _ => (pe_tup (pa_cons (pv 7) (pa_cons pe_str pa_nil))))) pa_nil))) pe_str (nomark _)))))
                      (pss_one (ps_ret pe_bl))
                      pss_nil)))
                  pss_nil)))))))))))
        (pss_one (ps_ret (pe_cmpR op_eq (pe_c c_hit hr (by decide) (by rfl) (pa_cons pe_str (pa_cons (pe_tup pa_nil) pa_nil))) pe_str (nomark _))))), ?_⟩
    refine ⟨.ref a, rfl, a, ns.map V.int, rfl, .inl hS, 5, _, rfl, 2, _, rfl, _, rfl, (by split <;> (try split) <;> omega), (by split <;> (try split) <;> omega), ?_⟩
    refine for_it walk_range (fun i σ H1 => ∃ x1 x2 x3 x4 x5 x6 x7 x8, σ = [some (.ref a), x1, x2, x3, x4, x5, x6, x7, x8] ∧ Same H H1)
      ⟨_, _, _, _, _, _, _, _, rfl, Same.refl H⟩ (fun _ _ _ _ _ => trivial) (fun i x σ H1 H1' hi hp hy => ?_) (fun σ H1 hp => ?_)
    · obtain ⟨rfl, rfl⟩ := hy
      obtain ⟨x1, x2, x3, x4, x5, x6, x7, x8, rfl, s1⟩ := hp
      have hi4 : i < 100 := by
        revert hi
        split <;> (try split) <;> omega
      refine ⟨.ref a, rfl, _, rfl, a, ns, (0 : Int) + (i : Nat), rfl, s1.seq hS, hl, by omega, by omega, fun b H2 hb1 hb2 s2 => ?_⟩
      have hb0 : H b = none := s1.free hb1
      refine ⟨8, rfl, by decide, by decide, ?_⟩
      refine for_it walk_range (fun j σ H3 => ∃ (x3 x4 x5 x6 x7 x8 : Option V), σ = [some (.ref a), some (.int (0 + (i : Nat))), some (.ref b), x3, x4, x5, x6, x7, x8] ∧ Same H H3 ∧ BoxAt H3 b)
        ⟨x3, x4, x5, x6, x7, x8, rfl, s1.trans s2, hb2⟩ (fun _ _ _ _ _ => trivial) (fun j x σ H3 H3' hj hp hy => ?_) (fun σ H3 hp => ?_)
      · obtain ⟨rfl, rfl⟩ := hy
        obtain ⟨x3, x4, x5, x6, x7, x8, rfl, s3, hb3⟩ := hp
        refine ⟨.ref b, rfl, b, 0, 40, rfl, hb3, by decide, by decide, by decide, fun line H4 z0 z40 hb4 off4 => ?_⟩
        have s4 := same_off s3 off4 hb0
        have hln : line.length ≤ 40 := by omega
        refine ⟨.ref b, rfl, .str (WS line), rfl, _, rfl, ls_len line (by omega), b, line.length, by rw [WS_len] <;> rfl, hb4, by omega, fun l xs hs H5 hl0 el hh asc hb5 off5 => ?_⟩
        have s5 := same_off s4 off5 hb0
        refine ⟨.ref l, rfl, l, xs, rfl, .inl (.inl (.inl el)), fun hd hhd => ?_⟩
        have s56 : Same H5 (upd H5 hd (.lst xs)) := same_new hhd
        have ehd : (upd H5 hd (.lst xs)) hd = some (.lst xs) := upd_same
        revert s56 ehd
        generalize upd H5 hd (.lst xs) = H6
        intro s56 ehd
        -- the list that was handed in
        refine ⟨.str (WS line), rfl, .ref hd, rfl, line, hd, true, xs, hs, rfl, by omega, .l ehd, hh.kp (kp_same s56), asc, fun H7 s67 => ?_⟩
        have s57 := s56.trans s67
        refine ⟨.str (WS line), rfl, .ref l, rfl, line, l, xs, hs, rfl, by omega, s57 _ _ el, hh.kp (kp_same s57), asc, fun H8 s78 => ?_⟩
        have s58 := s57.trans s78
        refine ⟨rfl, _, rfl, iteNS rfl ?_⟩
        have hh8 := hh.kp (kp_same s58)
        refine ⟨.ref hd, rfl, .ref l, rfl, .list (hs.map encH), .list (hs.map encH), .lst (.inl (.inl ((s67.trans s78) _ _ ehd))) (dpAll_hits hh8), .lst (.inl (.inl (s58 _ _ el))) (dpAll_hits hh8), shaped_hits hs, shaped_hits hs, _, rfl, ?_⟩
        rw [eqv_hits]
        refine iteF ?_
        -- a tuple
        refine ⟨.str (WS line), rfl, .ref l, rfl, l, xs, rfl, .inl ⟨.inl (.inl (s58 _ _ el)), fun tu htu => ?_⟩⟩
        have s9 : Same H8 (upd H8 tu (.tup xs)) := same_new htu
        have s59 := s58.trans s9
        refine ⟨line, tu, false, xs, hs, rfl, by omega, .t upd_same, hh.kp (kp_same s59), asc, fun HA sA => ?_⟩
        have s5A := s59.trans sA
        refine ⟨.str (WS line), rfl, .ref l, rfl, line, l, xs, hs, rfl, by omega, s5A _ _ el, hh.kp (kp_same s5A), asc, fun HB sB => ?_⟩
        have s5B := s5A.trans sB
        refine ⟨rfl, _, rfl, iteNS rfl ?_⟩
        -- no hits
        refine ⟨.str (WS line), rfl, by show 0 ≤ sizeLine; decide, fun e he => ?_⟩
        have sC : Same HB (upd HB e (.lst [])) := same_new he
        refine ⟨line, e, true, [], [], rfl, by omega, .l upd_same, trivial, ⟨.nil, fun h hh => by cases hh⟩, fun HD sD => ?_⟩
        rw [arr_nil]
        refine ⟨.str (WS line), rfl, rfl, _, rfl, iteNS rfl ?_⟩
        have s5D := (s5B.trans sC).trans sD
        have s0D := s5.trans s5D
        have hbD := hb5.same s5D
        clear s56 s67 s57 s78 s58 hh8 s9 s59 sA s5A sB s5B sC sD ehd
        refine ⟨.str (WS line), rfl, rfl, _, rfl, ite2 (fun _ => ?_) (fun _ => ⟨_, _, _, _, _, _, rfl, s0D, hbD⟩)⟩
        -- every bit
        have hrn : (((WS line).length : Nat) : Int).toNat = line.length := by
          rw [WS_len]
          omega
        refine ⟨.str (WS line), rfl, _, rfl, ls_len line (by omega), _, rfl, by rw [WS_len]; omega, by rw [WS_len]; omega, fun D hD => ?_⟩
        have nD : ∀ a u, H a = some u → a ≠ D := fun a u ha => ne_of_none (s0D _ _ ha) hD
        refine lc_it walk_range (fun i H1 => ∃ ys, H1 D = some (.lst ys) ∧ Hits H1 ys (allH .turn i) ∧ Same HD H1) ⟨[], upd_same, trivial, same_new hD⟩ (fun _ _ _ _ => trivial) (fun i x H1o H1 hi hp1 hy => ?_) (fun HE hp1 => ?_)
        · obtain ⟨rfl, rfl⟩ := hy
          obtain ⟨ys, eD, hys, sm⟩ := hp1
          have hi40 : i < 40 := by
            rw [hrn] at hi
            omega
          refine ⟨rfl, _, rfl, by show 2 ≤ sizeLine; decide, fun t ht => ?_⟩
          have st : Same H1 (upd H1 t (.tup [.int (0 + (i : Nat)), .str "turn"])) := same_new ht
          have eD2 := st _ _ eD
          have kG := kp_lst (ys := ys ++ [.ref t]) eD2
          refine ⟨ys, eD2, small1000 (by rw [hys.len, allH_len]; omega), ys ++ [.ref t], upd_same, ?_, same_app (L2.Same.trans sm st) hD⟩
          rw [allH_succ]
          refine ((hys.kp (kp_same st)).kp kG).snoc ⟨t, rfl, ?_⟩
          have := kG _ _ (upd_same (H := H1) (a := t) (o := .tup [.int (0 + (i : Nat)), .str "turn"])) trivial
          rw [Int.zero_add] at this
          rw [Int.zero_add]
          exact this
        · obtain ⟨ys, eD, hys, sm⟩ := hp1
          rw [hrn] at hys
          have aT := allH_asc .turn line.length
          have hlt : (arrL (allH .turn line.length) line).length = line.length := by rw [arr_turn, List.length_map]
          refine ⟨.str (WS line), rfl, .ref D, rfl, line, D, true, ys, _, rfl, by omega, .l eD, hys, aT, fun HF sF => ?_⟩
          refine ⟨.ref D, rfl, _, D, true, ys, _, rfl, by omega, .l (sF _ _ eD), hys.kp (kp_same sF), by rw [hlt]; exact aT, fun HG sG => ?_⟩
          rw [arr_twice]
          refine ⟨.str (WS line), rfl, rfl, _, rfl, iteNS rfl ?_⟩
          have sDG := (sm.trans sF).trans sG
          refine ⟨.str (WS line), rfl, .str (WS line), rfl, _, rfl, ls_len line (by omega), _, rfl, by rw [WS_len]; omega, by rw [WS_len]; omega, fun D2 hD2 => ?_⟩
          refine lc_it walk_range (fun i H1 => ∃ ys, H1 D2 = some (.lst ys) ∧ Hits H1 ys (allH .lose i) ∧ Same HG H1) ⟨[], upd_same, trivial, same_new hD2⟩ (fun _ _ _ _ => trivial) (fun i x H1o H1 hi hp1 hy => ?_) (fun HI hp1 => ?_)
          · obtain ⟨rfl, rfl⟩ := hy
            obtain ⟨ys, eD, hys, sm⟩ := hp1
            have hi40 : i < 40 := by
              rw [hrn] at hi
              omega
            refine ⟨rfl, _, rfl, by show 2 ≤ sizeLine; decide, fun t ht => ?_⟩
            have st : Same H1 (upd H1 t (.tup [.int (0 + (i : Nat)), .str "lose"])) := same_new ht
            have eD2 := st _ _ eD
            have kG := kp_lst (ys := ys ++ [.ref t]) eD2
            refine ⟨ys, eD2, small1000 (by rw [hys.len, allH_len]; omega), ys ++ [.ref t], upd_same, ?_, same_app (L2.Same.trans sm st) hD2⟩
            rw [allH_succ]
            refine ((hys.kp (kp_same st)).kp kG).snoc ⟨t, rfl, ?_⟩
            have := kG _ _ (upd_same (H := H1) (a := t) (o := .tup [.int (0 + (i : Nat)), .str "lose"])) trivial
            rw [Int.zero_add] at this
            rw [Int.zero_add]
            exact this
          · obtain ⟨zs, eZ, hzs, smZ⟩ := hp1
            rw [hrn] at hzs
            refine ⟨line, D2, true, zs, _, rfl, by omega, .l eZ, hzs, allH_asc .lose line.length, fun HJ sJ => ?_⟩
            rw [arr_lose]
            have sDJ := (sDG.trans smZ).trans sJ
            exact ⟨rfl, _, rfl, iteNS rfl ⟨_, _, _, _, _, _, rfl, s0D.trans sDJ, hbD.same sDJ⟩⟩
      · obtain ⟨x3, x4, x5, x6, x7, x8, rfl, s3, hb3⟩ := hp
        exact ⟨_, _, _, _, _, _, _, _, rfl, s3⟩
    · obtain ⟨x1, x2, x3, x4, x5, x6, x7, x8, rfl, s1⟩ := hp
      refine ⟨by show 0 ≤ sizeLine; decide, fun e he => ?_⟩
      refine ⟨[], e, false, [], [], rfl, by decide, .t upd_same, trivial, Asc.nil, fun H2 s2 => ⟨rfl, ?_⟩⟩
      rw [arr_nil, decide_eq_true (show V.str (WS []) = V.str "" from rfl)]
      exact q H2

end
theorem all_mk {l : PySem.W.OpenLaw} {w : World} {K : PySem.W.Frag} {h : Heap} {mg : Str → Option Value} {fa f1 f2 f3 f4 f5 f6 f7 f8 f9 f10 f11 f12 aKINDS : Addr} (X : K.In h) (G : h.Ns mainGlobals mg) (hfa : mg "law" = some (.ref fa))
    {od1 an1 : Option Addr} {sl1 : Array (Option Value)} {oc1 kV1 dc1 pm1 cd1 ct1 : Value}
    {od2 an2 : Option Addr} {sl2 : Array (Option Value)} {oc2 kV2 dc2 pm2 cd2 ct2 : Value}
    {od3 an3 : Option Addr} {sl3 : Array (Option Value)} {oc3 kV3 dc3 pm3 cd3 ct3 : Value}
    {od4 an4 : Option Addr} {sl4 : Array (Option Value)} {oc4 kV4 dc4 pm4 cd4 ct4 : Value}
    {od5 an5 : Option Addr} {sl5 : Array (Option Value)} {oc5 kV5 dc5 pm5 cd5 ct5 : Value}
    {od6 an6 : Option Addr} {sl6 : Array (Option Value)} {oc6 kV6 dc6 pm6 cd6 ct6 : Value}
    {od7 an7 : Option Addr} {sl7 : Array (Option Value)} {oc7 kV7 dc7 pm7 cd7 ct7 : Value}
    {od8 an8 : Option Addr} {sl8 : Array (Option Value)} {oc8 kV8 dc8 pm8 cd8 ct8 : Value}
    {od9 an9 : Option Addr} {sl9 : Array (Option Value)} {oc9 kV9 dc9 pm9 cd9 ct9 : Value}
    {od10 an10 : Option Addr} {sl10 : Array (Option Value)} {oc10 kV10 dc10 pm10 cd10 ct10 : Value}
    {od11 an11 : Option Addr} {sl11 : Array (Option Value)} {oc11 kV11 dc11 pm11 cd11 ct11 : Value}
    {od12 an12 : Option Addr} {sl12 : Array (Option Value)} {oc12 kV12 dc12 pm12 cd12 ct12 : Value}
    {oGKINDS : Option Addr} {nGKINDS : Nat} {sGKINDS : Array (Option Value)} {uGKINDS0 : Tok} {uGKINDS1 : Tok} {uGKINDS2 : Tok}
    (a1 : PySem.W.nsIn K mainGlobals "_law_seed" = some (some (.ref f1)))
    (l1 : K.lookup f1 = some ⟨oc1, od1, .func (PySem.W.fnOf "_law_seed" "_law_seed" (fnArgs s_seed) (fnBody s_seed) (fnScope s_seed) .none kV1 dc1 pm1 an1 cd1 ct1), sl1⟩)
    (c1 : PySem.W.codeIn K cd1 "_law_seed" = true)
    (k1 : PySem.W.keepIn K (.ref f1) = true)
    (a2 : PySem.W.nsIn K mainGlobals "_law_choose" = some (some (.ref f2)))
    (l2 : K.lookup f2 = some ⟨oc2, od2, .func (PySem.W.fnOf "_law_choose" "_law_choose" (fnArgs s_choose) (fnBody s_choose) (fnScope s_choose) .none kV2 dc2 pm2 an2 cd2 ct2), sl2⟩)
    (c2 : PySem.W.codeIn K cd2 "_law_choose" = true)
    (k2 : PySem.W.keepIn K (.ref f2) = true)
    (a3 : PySem.W.nsIn K mainGlobals "_law_one_of" = some (some (.ref f3)))
    (l3 : K.lookup f3 = some ⟨oc3, od3, .func (PySem.W.fnOf "_law_one_of" "_law_one_of" (fnArgs s_one_of) (fnBody s_one_of) (fnScope s_one_of) .none kV3 dc3 pm3 an3 cd3 ct3), sl3⟩)
    (c3 : PySem.W.codeIn K cd3 "_law_one_of" = true)
    (k3 : PySem.W.keepIn K (.ref f3) = true)
    (a4 : PySem.W.nsIn K mainGlobals "_law_word" = some (some (.ref f4)))
    (l4 : K.lookup f4 = some ⟨oc4, od4, .func (PySem.W.fnOf "_law_word" "_law_word" (fnArgs s_word) (fnBody s_word) (fnScope s_word) .none kV4 dc4 pm4 an4 cd4 ct4), sl4⟩)
    (c4 : PySem.W.codeIn K cd4 "_law_word" = true)
    (k4 : PySem.W.keepIn K (.ref f4) = true)
    (a5 : PySem.W.nsIn K mainGlobals "is_int" = some (some (.ref f5)))
    (l5 : K.lookup f5 = some ⟨oc5, od5, .func (PySem.W.fnOf "is_int" "is_int" (fnArgs s_is_int) (fnBody s_is_int) (fnScope s_is_int) .none kV5 dc5 pm5 an5 cd5 ct5), sl5⟩)
    (c5 : PySem.W.codeIn K cd5 "is_int" = true)
    (k5 : PySem.W.keepIn K (.ref f5) = true)
    (a6 : PySem.W.nsIn K mainGlobals "other_bits" = some (some (.ref f6)))
    (l6 : K.lookup f6 = some ⟨oc6, od6, .func (PySem.W.fnOf "other_bits" "other_bits" (fnArgs s_other_bits) (fnBody s_other_bits) (fnScope s_other_bits) .none kV6 dc6 pm6 an6 cd6 ct6), sl6⟩)
    (c6 : PySem.W.codeIn K cd6 "other_bits" = true)
    (k6 : PySem.W.keepIn K (.ref f6) = true)
    (a7 : PySem.W.nsIn K mainGlobals "is_hit" = some (some (.ref f7)))
    (l7 : K.lookup f7 = some ⟨oc7, od7, .func (PySem.W.fnOf "is_hit" "is_hit" (fnArgs s_is_hit) (fnBody s_is_hit) (fnScope s_is_hit) .none kV7 dc7 pm7 an7 cd7 ct7), sl7⟩)
    (c7 : PySem.W.codeIn K cd7 "is_hit" = true)
    (k7 : PySem.W.keepIn K (.ref f7) = true)
    (a8 : PySem.W.nsIn K mainGlobals "arriving" = some (some (.ref f8)))
    (l8 : K.lookup f8 = some ⟨oc8, od8, .func (PySem.W.fnOf "arriving" "arriving" (fnArgs s_arriving) (fnBody s_arriving) (fnScope s_arriving) .none kV8 dc8 pm8 an8 cd8 ct8), sl8⟩)
    (c8 : PySem.W.codeIn K cd8 "arriving" = true)
    (k8 : PySem.W.keepIn K (.ref f8) = true)
    (a9 : PySem.W.nsIn K mainGlobals "hit" = some (some (.ref f9)))
    (l9 : K.lookup f9 = some ⟨oc9, od9, .func (PySem.W.fnOf "hit" "hit" (fnArgs s_hit) (fnBody s_hit) (fnScope s_hit) .none kV9 dc9 pm9 an9 cd9 ct9), sl9⟩)
    (c9 : PySem.W.codeIn K cd9 "hit" = true)
    (k9 : PySem.W.keepIn K (.ref f9) = true)
    (a10 : PySem.W.nsIn K mainGlobals "_law_arrived" = some (some (.ref f10)))
    (l10 : K.lookup f10 = some ⟨oc10, od10, .func (PySem.W.fnOf "_law_arrived" "_law_arrived" (fnArgs s_arrived) (fnBody s_arrived) (fnScope s_arrived) .none kV10 dc10 pm10 an10 cd10 ct10), sl10⟩)
    (c10 : PySem.W.codeIn K cd10 "_law_arrived" = true)
    (k10 : PySem.W.keepIn K (.ref f10) = true)
    (a11 : PySem.W.nsIn K mainGlobals "_law_hits" = some (some (.ref f11)))
    (l11 : K.lookup f11 = some ⟨oc11, od11, .func (PySem.W.fnOf "_law_hits" "_law_hits" (fnArgs s_hits) (fnBody s_hits) (fnScope s_hits) .none kV11 dc11 pm11 an11 cd11 ct11), sl11⟩)
    (c11 : PySem.W.codeIn K cd11 "_law_hits" = true)
    (k11 : PySem.W.keepIn K (.ref f11) = true)
    (a12 : PySem.W.nsIn K mainGlobals "law" = some (some (.ref f12)))
    (l12 : K.lookup f12 = some ⟨oc12, od12, .func (PySem.W.fnOf "law" "law" (fnArgs s_law) (fnBody s_law) (fnScope s_law) .none kV12 dc12 pm12 an12 cd12 ct12), sl12⟩)
    (c12 : PySem.W.codeIn K cd12 "law" = true)
    (k12 : PySem.W.keepIn K (.ref f12) = true)
    (z_bool : PySem.W.nsIn K mainGlobals "bool" = some none)
    (z_dict : PySem.W.nsIn K mainGlobals "dict" = some none)
    (aGKINDS : PySem.W.nsIn K mainGlobals "KINDS" = some (some (.ref aKINDS)))
    (dGKINDS : K.lookup aKINDS = some ⟨.type "tuple", oGKINDS, .seq #[.str "double" uGKINDS0, .str "lose" uGKINDS1, .str "turn" uGKINDS2] nGKINDS, sGKINDS⟩)
    (z_len : PySem.W.nsIn K mainGlobals "len" = some none)
    (z_abs : PySem.W.nsIn K mainGlobals "abs" = some none)
    (z_max : PySem.W.nsIn K mainGlobals "max" = some none)
    (z_min : PySem.W.nsIn K mainGlobals "min" = some none)
    (z_int : PySem.W.nsIn K mainGlobals "int" = some none)
    (z_str : PySem.W.nsIn K mainGlobals "str" = some none)
    (z_range : PySem.W.nsIn K mainGlobals "range" = some none)
    (z_zip : PySem.W.nsIn K mainGlobals "zip" = some none)
    (z_enumerate : PySem.W.nsIn K mainGlobals "enumerate" = some none)
    (z_isinstance : PySem.W.nsIn K mainGlobals "isinstance" = some none)
    (z_all : PySem.W.nsIn K mainGlobals "all" = some none)
    (z_any : PySem.W.nsIn K mainGlobals "any" = some none)
    (z_list : PySem.W.nsIn K mainGlobals "list" = some none)
    (z_tuple : PySem.W.nsIn K mainGlobals "tuple" = some none)
    (z_repr : PySem.W.nsIn K mainGlobals "repr" = some none)
    (z_set : PySem.W.nsIn K mainGlobals "set" = some none)
    (z_sorted : PySem.W.nsIn K mainGlobals "sorted" = some none)
    : ∃ fd : FuncData, (∀ (s : Shared) (v : Value), BindsTo s fd ⟨[v], []⟩ [("_law_script", v)]) ∧ ∀ base : Heap, K.In base → base.Ns mainGlobals mg → FnOk l.prog w K mg base CX0 4 fa fd ["_law_script"] (spLaw K) := by
  have e := hfa.symm.trans (PySem.W.mg_of X G a12)
  cases e
  have F1 : C8.Fun K "_law_seed" "_law_seed" s_seed f1 _ := ⟨⟨_, _, _, _, _, _, _, _, _, _, rfl, l1, c1⟩⟩
  have b1 := F1.binds rfl (ps := ["_law_script", "_law_k"]) fun _ _ _ _ _ _ us hl => match us, hl with | [_, _], _ => rfl
  have g1 : mg "_law_seed" = some (.ref f1) := PySem.W.mg_of X G a1
  have F2 : C8.Fun K "_law_choose" "_law_choose" s_choose f2 _ := ⟨⟨_, _, _, _, _, _, _, _, _, _, rfl, l2, c2⟩⟩
  have b2 := F2.binds rfl (ps := ["_law_box", "_law_many"]) fun _ _ _ _ _ _ us hl => match us, hl with | [_, _], _ => rfl
  have g2 : mg "_law_choose" = some (.ref f2) := PySem.W.mg_of X G a2
  have F3 : C8.Fun K "_law_one_of" "_law_one_of" s_one_of f3 _ := ⟨⟨_, _, _, _, _, _, _, _, _, _, rfl, l3, c3⟩⟩
  have b3 := F3.binds rfl (ps := ["_law_box", "_law_some"]) fun _ _ _ _ _ _ us hl => match us, hl with | [_, _], _ => rfl
  have g3 : mg "_law_one_of" = some (.ref f3) := PySem.W.mg_of X G a3
  have F4 : C8.Fun K "_law_word" "_law_word" s_word f4 _ := ⟨⟨_, _, _, _, _, _, _, _, _, _, rfl, l4, c4⟩⟩
  have b4 := F4.binds rfl (ps := ["_law_box", "_law_few", "_law_many"]) fun _ _ _ _ _ _ us hl => match us, hl with | [_, _, _], _ => rfl
  have g4 : mg "_law_word" = some (.ref f4) := PySem.W.mg_of X G a4
  have F5 : C8.Fun K "is_int" "is_int" s_is_int f5 _ := ⟨⟨_, _, _, _, _, _, _, _, _, _, rfl, l5, c5⟩⟩
  have b5 := F5.binds rfl (ps := ["value"]) fun _ _ _ _ _ _ us hl => match us, hl with | [_], _ => rfl
  have g5 : mg "is_int" = some (.ref f5) := PySem.W.mg_of X G a5
  have F6 : C8.Fun K "other_bits" "other_bits" s_other_bits f6 _ := ⟨⟨_, _, _, _, _, _, _, _, _, _, rfl, l6, c6⟩⟩
  have b6 := F6.binds rfl (ps := ["word"]) fun _ _ _ _ _ _ us hl => match us, hl with | [_], _ => rfl
  have g6 : mg "other_bits" = some (.ref f6) := PySem.W.mg_of X G a6
  have F7 : C8.Fun K "is_hit" "is_hit" s_is_hit f7 _ := ⟨⟨_, _, _, _, _, _, _, _, _, _, rfl, l7, c7⟩⟩
  have b7 := F7.binds rfl (ps := ["value", "least", "size"]) fun _ _ _ _ _ _ us hl => match us, hl with | [_, _, _], _ => rfl
  have g7 : mg "is_hit" = some (.ref f7) := PySem.W.mg_of X G a7
  have F8 : C8.Fun K "arriving" "arriving" s_arriving f8 _ := ⟨⟨_, _, _, _, _, _, _, _, _, _, rfl, l8, c8⟩⟩
  have b8 := F8.binds rfl (ps := ["bit", "kind"]) fun _ _ _ _ _ _ us hl => match us, hl with | [_, _], _ => rfl
  have g8 : mg "arriving" = some (.ref f8) := PySem.W.mg_of X G a8
  have F9 : C8.Fun K "hit" "hit" s_hit f9 _ := ⟨⟨_, _, _, _, _, _, _, _, _, _, rfl, l9, c9⟩⟩
  have b9 := F9.binds rfl (ps := ["line", "hits"]) fun _ _ _ _ _ _ us hl => match us, hl with | [_, _], _ => rfl
  have g9 : mg "hit" = some (.ref f9) := PySem.W.mg_of X G a9
  have F10 : C8.Fun K "_law_arrived" "_law_arrived" s_arrived f10 _ := ⟨⟨_, _, _, _, _, _, _, _, _, _, rfl, l10, c10⟩⟩
  have b10 := F10.binds rfl (ps := ["_law_line", "_law_told"]) fun _ _ _ _ _ _ us hl => match us, hl with | [_, _], _ => rfl
  have g10 : mg "_law_arrived" = some (.ref f10) := PySem.W.mg_of X G a10
  have F11 : C8.Fun K "_law_hits" "_law_hits" s_hits f11 _ := ⟨⟨_, _, _, _, _, _, _, _, _, _, rfl, l11, c11⟩⟩
  have b11 := F11.binds rfl (ps := ["_law_box", "_law_many"]) fun _ _ _ _ _ _ us hl => match us, hl with | [_, _], _ => rfl
  have g11 : mg "_law_hits" = some (.ref f11) := PySem.W.mg_of X G a11
  have F12 : C8.Fun K "law" "law" s_law fa _ := ⟨⟨_, _, _, _, _, _, _, _, _, _, rfl, l12, c12⟩⟩
  have b12 := F12.binds rfl (ps := ["_law_script"]) fun _ _ _ _ _ _ us hl => match us, hl with | [_], _ => rfl
  have g12 : mg "law" = some (.ref fa) := PySem.W.mg_of X G a12
  have mbool : mg "bool" = none := PySem.W.mg_none_of X G z_bool
  have mdict : mg "dict" = none := PySem.W.mg_none_of X G z_dict
  have g_KINDS : mg "KINDS" = some (.ref aKINDS) := PySem.W.mg_of X G aGKINDS
  have h_KINDS : ∀ H, SqT K H aKINDS [.str "double", .str "lose", .str "turn"] := fun H => .inr ⟨_, #[.str "double" uGKINDS0, .str "lose" uGKINDS1, .str "turn" uGKINDS2], _, dGKINDS, rfl, rfl, by show 3 ≤ sizeLine; decide, (.cons ⟨_, rfl⟩ (.cons ⟨_, rfl⟩ (.cons ⟨_, rfl⟩ .nil)))⟩
  have M : Mg mg := ⟨PySem.W.mg_none_of X G z_len, PySem.W.mg_none_of X G z_abs, PySem.W.mg_none_of X G z_max, PySem.W.mg_none_of X G z_min, PySem.W.mg_none_of X G z_int, PySem.W.mg_none_of X G z_str, PySem.W.mg_none_of X G z_range, PySem.W.mg_none_of X G z_zip, PySem.W.mg_none_of X G z_enumerate, PySem.W.mg_none_of X G z_isinstance, PySem.W.mg_none_of X G z_all, PySem.W.mg_none_of X G z_any, PySem.W.mg_none_of X G z_list, PySem.W.mg_none_of X G z_tuple, PySem.W.mg_none_of X G z_repr, PySem.W.mg_none_of X G z_set, PySem.W.mg_none_of X G z_sorted⟩
  refine ⟨PySem.W.fnOf "law" "law" (fnArgs s_law) (fnBody s_law) (fnScope s_law) .none kV12 dc12 pm12 an12 cd12 ct12, fun s v => .of_eq rfl, fun base _ _ => ?_⟩
  have c_seed : Cal l.prog w K mg base 1 "_law_seed" (spSeed K) [] := ⟨_, _, _, _, ok_seed F1 M, g1, k1, b1, .nil⟩
  have c_choose : Cal l.prog w K mg base 1 "_law_choose" spChoose [] := ⟨_, _, _, _, ok_choose F2 M, g2, k2, b2, .nil⟩
  have c_one_of : Cal l.prog w K mg base 2 "_law_one_of" spOneOf [] := ⟨_, _, _, _, ok_one_of F3 M c_choose, g3, k3, b3, .nil⟩
  have c_word : Cal l.prog w K mg base 3 "_law_word" spWord2 [] := ⟨_, _, _, _, ok_word2 F4 M c_choose c_one_of, g4, k4, b4, .nil⟩
  have c_is_int : Cal l.prog w K mg base 1 "is_int" spIsInt [] := ⟨_, _, _, _, ok_is_int F5 M mbool, g5, k5, b5, .nil⟩
  have c_other_bits : Cal l.prog w K mg base 1 "other_bits" spOther [] := ⟨_, _, _, _, ok_other_bits F6 M, g6, k6, b6, .nil⟩
  have c_is_hit : Cal l.prog w K mg base 2 "is_hit" spIsHit [] := ⟨_, _, _, _, ok_is_hit F7 M g_KINDS h_KINDS c_is_int, g7, k7, b7, .nil⟩
  have c_arriving : Cal l.prog w K mg base 2 "arriving" spArriving [] := ⟨_, _, _, _, ok_arriving F8 M c_other_bits, g8, k8, b8, .nil⟩
  have c_hit : Cal l.prog w K mg base 3 "hit" (spHit K) [] := ⟨_, _, _, _, ok_hit F9 M c_is_hit c_arriving, g9, k9, b9, .nil⟩
  have c_arrived : Cal l.prog w K mg base 1 "_law_arrived" spLArr [] := ⟨_, _, _, _, ok_larr F10 M mdict, g10, k10, b10, .nil⟩
  have c_hits : Cal l.prog w K mg base 3 "_law_hits" spLHits [] := ⟨_, _, _, _, ok_lhits F11 M c_choose c_one_of, g11, k11, b11, .nil⟩
  exact ok_law F12 M c_seed c_word c_hits c_arrived c_hit
end La
open PySem PySem.W PyProof.Rows
set_option maxHeartbeats 0 in
theorem PySem.Challenge.cw_unseenflips_k49_hits_on_lines_holds : PySem.Challenge.rw_unseenflips_k49_hits_on_lines.Holds := by
  w_on; o_law; k_head; (case hw => w_witness2)
  k_fill
  refine L2.walk_of (l := PySem.Challenge.rw_unseenflips_k49_hits_on_lines) (n := 63) (k := 4) (x := "_law_script") (CX := fun _ => L2.CX0) (sp := fun w => Own.spLaw _) rfl (by decide) rfl ⟨rfl, by decide, by decide⟩ (fun w h Y => PySem.W.kIn_of Y) ?F (fun _ _ a ns hl _ hS => ⟨a, ns, rfl, hS, hl, fun _ => rfl⟩) (fun _ _ _ _ _ h => h)
  case F =>
    intro w mg fa h KX G hmg
    refine' La.all_mk KX G hmg ?a1 ?l1 ?c1 ?k1 ?a2 ?l2 ?c2 ?k2 ?a3 ?l3 ?c3 ?k3 ?a4 ?l4 ?c4 ?k4 ?a5 ?l5 ?c5 ?k5 ?a6 ?l6 ?c6 ?k6 ?a7 ?l7 ?c7 ?k7 ?a8 ?l8 ?c8 ?k8 ?a9 ?l9 ?c9 ?k9 ?a10 ?l10 ?c10 ?k10 ?a11 ?l11 ?c11 ?k11 ?a12 ?l12 ?c12 ?k12 ?z_bool ?z_dict ?aGKINDS ?dGKINDS ?z_len ?z_abs ?z_max ?z_min ?z_int ?z_str ?z_range ?z_zip ?z_enumerate ?z_isinstance ?z_all ?z_any ?z_list ?z_tuple ?z_repr ?z_set ?z_sorted
    (case a1 => k_is)
    (case l1 => k_is)
    (case c1 => k_is)
    (case k1 => k_is)
    (case a2 => k_is)
    (case l2 => k_is)
    (case c2 => k_is)
    (case k2 => k_is)
    (case a3 => k_is)
    (case l3 => k_is)
    (case c3 => k_is)
    (case k3 => k_is)
    (case a4 => k_is)
    (case l4 => k_is)
    (case c4 => k_is)
    (case k4 => k_is)
    (case a5 => k_is)
    (case l5 => k_is)
    (case c5 => k_is)
    (case k5 => k_is)
    (case a6 => k_is)
    (case l6 => k_is)
    (case c6 => k_is)
    (case k6 => k_is)
    (case a7 => k_is)
    (case l7 => k_is)
    (case c7 => k_is)
    (case k7 => k_is)
    (case a8 => k_is)
    (case l8 => k_is)
    (case c8 => k_is)
    (case k8 => k_is)
    (case a9 => k_is)
    (case l9 => k_is)
    (case c9 => k_is)
    (case k9 => k_is)
    (case a10 => k_is)
    (case l10 => k_is)
    (case c10 => k_is)
    (case k10 => k_is)
    (case a11 => k_is)
    (case l11 => k_is)
    (case c11 => k_is)
    (case k11 => k_is)
    (case a12 => k_is)
    (case l12 => k_is)
    (case c12 => k_is)
    (case k12 => k_is)
    (case z_bool => k_is)
    (case z_dict => k_is)
    (case aGKINDS => k_is)
    (case dGKINDS => k_is)
    (case z_len => k_is)
    (case z_abs => k_is)
    (case z_max => k_is)
    (case z_min => k_is)
    (case z_int => k_is)
    (case z_str => k_is)
    (case z_range => k_is)
    (case z_zip => k_is)
    (case z_enumerate => k_is)
    (case z_isinstance => k_is)
    (case z_all => k_is)
    (case z_any => k_is)
    (case z_list => k_is)
    (case z_tuple => k_is)
    (case z_repr => k_is)
    (case z_set => k_is)
    (case z_sorted => k_is)

