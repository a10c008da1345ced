import PyProof.Rows.All
import Wide.All
import OpenK.AllK
import Wide.FinOn
import HandS.ForExc
import HandS.Walk
import KE.GoesNew
import HandS.FStr
import HandS.Property
import HandS.IsInst
import HandS.Codes
import HandS.Evl
import HandS.StrMore
import HandS.Defaults
import PyProof.StrBlock2
import HandS.Style
import HandS.OwnEq
import HandS.More
import PyProof.InstNe
import OpenK.KOps
import PyProof.CallStr
import PyProof.Rows.Range3
import KE.KDictKeyed
import HandS.Dict
import HandS.SortKw
import HandS.SetKeys
import HandS.Iter
import HandS.TupAny
import KE.DataMinMax
import KE.SortData
import PyProof.EnumMake
import HandS.RaiseMore
import KE.OsSortAny
import HandS.DictComp
import PyProof.P3Eq
import HandS.ClsMeth
import HandS.Nested
import HandS.EndTab
import HandS.ExcInit
import HandS.ExcField
import HandS.WordsExc
import HandS.TryOnly
import HandS.TryElse
import OpenK.KMore
import HandS.SetFor
import HandS.Deep
import PyProof.ReprRoads
import HandS.FStrTup
import HandS.Small
import HandS.Star
import PyProof.ReprLen
import HandS.DictTup
import KE.KDictDisplayH
import HandS.ExcIs
import KE.KDictList
import HandS.Sort
import HandS.ListItems
import PySem.Challenge.RW_unseenflips_k58_whole_lengths_and_ways
set_option Elab.async false
set_option linter.all false
set_option maxRecDepth 100000
set_option maxHeartbeats 2000000
namespace Own
open PySem PySem.Spec PyProof.Rows L2

/-- n turns that each give a new pair -/
def Itp (n : Nat) (f g : Nat → Option V) : It :=
  ⟨fun i _ => i < n, fun i H v H' => ∃ T x y, v = V.ref T ∧ H T = none ∧ H' = upd H T (.tup [x, y]) ∧ f i = some x ∧ g i = some y, fun i _ => n ≤ i⟩
theorem walk_itp {n : Nat} {f g : Nat → Option V} : Walk (Itp n f g) n (fun _ => True) (YPair f g) :=
  ⟨fun _ _ hi _ => hi, fun _ _ => Nat.le_refl _, fun _ _ _ _ _ _ y => y⟩

theorem turn_pairs {P : Program} {w : World} {K : PySem.W.Frag} {elts : List Expr} {kk : Nat} {tpos : Pos} {it : Addr} {fp wr : List Addr} {n : Nat} {St : Nat → Heap → Prop} {Px Py : Nat → Value → Prop} {f g : Nat → Option V}
    (mem : it ∈ fp) (obj : ∀ i h, St i h → ∀ b ∈ fp, ∃ o, h.get? b = some o ∧ ∀ v, o.data ≠ .cell v)
    (W : ∀ A : Around, A.handled = none → GoesN P w A (.Tuple elts kk tpos) it fp wr n (fun i h₀ v h => ∃ T x y, v = Value.ref T ∧ h₀.objs.size ≤ T ∧ Px i x ∧ Py i y ∧ h.IsTuple T #[x, y]) St)
    (sl : ∀ (A : Around) (i : Nat) (s : Shared) (Q : Value → Shared → Prop) (E : Value → Shared → Prop), St i s.heap → Q (.ref it) s → wpAny (model P w) A (pyIter (.ref it)) Q E s)
    (hx : ∀ i x, Px i x → ∃ v, f i = some v ∧ RelV v x) (hy : ∀ i x, Py i x → ∃ v, g i = some v ∧ RelV v x) :
    Turn P w K (.Tuple elts kk tpos) (Itp n f g) fp it (fun i h => i ≤ n ∧ St i h) where
  mem := mem
  obj := fun i h st => obj i h st.2
  keep := fun i h h' st k => ⟨st.1, (W ({} : Around) rfl).frame i h h' st.2 k⟩
  item := by
    intro X hP hw hK hc i pins s σ H E I hf st hg
    subst hP hw hK
    have hd := I.ok.hd hc
    refine wpAny_mono ((W X.A hd).goes i s (fun u s2 => ∃ x H', Inv X pins σ H' s2 ∧ RelV x u ∧ (Itp n f g).yld i H x H' ∧ (i + 1 ≤ n ∧ St (i + 1) s2.heap) ∧ ∀ b ∈ fp, H' b = none) E hg st.2 fun v h' tk hY st' hk htk => ?_) (fun r s1 q => q) fun _ _ q => q
    obtain ⟨T, x, y, ev, hT, px, py, isT⟩ := hY
    obtain ⟨vx, fx, rx⟩ := hx i x px
    obtain ⟨vy, gy, ry⟩ := hy i y py
    obtain ⟨oT, gT, cT, nT, dT⟩ := isT
    have new : ObjOk X.prog X.w (upd H T (.tup [vx, vy])) h' T (.tup [vx, vy]) :=
      ⟨by show 2 ≤ sizeLine; decide, [x, y], .cons rx (.cons ry .nil), ⟨oT, gT, cT, nT, dT⟩⟩
    have I1 := I.turnedNew (t' := tk) (ch := wr) hk (fun b hb => hf b ((W X.A hd).sub b hb)) hT new
    refine ⟨.ref T, _, I1, ev ▸ rfl, ⟨T, vx, vy, rfl, I.hok.fresh hT, rfl, fx, gy⟩, ⟨hg, st'⟩, fun b hb => ?_⟩
    obtain ⟨o, eo, _⟩ := obj i _ st.2 b hb
    rw [upd_ne (Nat.ne_of_lt (Nat.lt_of_lt_of_le (Heap.lt_size eo) hT))]
    exact (hf b hb).1
  done := by
    intro X hP hw hK hc i pins s σ H E I hf st hg
    subst hP hw hK
    have hd := I.ok.hd hc
    have ei : i = n := Nat.le_antisymm st.1 hg
    subst ei
    exact (W X.A hd).stops s (fun s1 => Inv X pins σ H s1) E st.2 fun h' tk hk htk => I.turnedL (t' := tk) (ch := wr) hk fun b hb => hf b ((W X.A hd).sub b hb)
  self := fun A i s Q E st h => sl A i s Q E st.2 h


/-- the signs of a text, one by one -/
def sgn (z : Str) (i : Nat) : Option V := z.cps[i]?.map fun c => V.str ⟨#[c]⟩

theorem iter_str_obj {h : Heap} {it : Addr} {T : String} {z : Str} {t : Tok} {i : Nat} (q : h.IsStrIter it T z t i) : ∃ o, h.get? it = some o ∧ ∀ v, o.data ≠ .cell v := by
  obtain ⟨o, g, _, d⟩ := q
  exact ⟨o, g, fun v e => by rw [d] at e; cases e⟩

def iZipS (ta : TA) : TI := fun σ H R => ta σ H fun vs H1 => ∃ x y : Str, vs = [V.str x, V.str y] ∧ R (Itp (min x.cps.size y.cps.size) (sgn x) (sgn y)) H1
/-- for a, b in zip(text, text) -/
theorem pi_zipS {X : Cx} {e1 e2 : Expr} {ta : TA} {np cp tp : Pos} {elts : List Expr} {kk : Nat} (hg : Gl X "zip") (hm : X.mg "zip" = none) (ha : PA X [e1, e2] ta)
    (se : starEach [e1, e2] X.env = (false, eval e1 X.env) :: starEach [e2] X.env := by rfl) (pl : (backTo cp (starEach [e2] X.env)).any (·.1) = false := by rfl) :
    PI X (.Tuple elts kk tp) (.Call (.Name "zip" np) [e1, e2] [] cp) (iZipS ta) := by
  constructor
  intro pins s σ H R I h
  refine Call_ (ld_blt I hg hm PyProof.Rows.boot_zip (PyProof.Rows.callWith_type1 (thn (ha.run cp pins s σ H _ I h) ?_) se pl))
  rintro us s1 ⟨vs, H1, I1, r1, x, y, rfl, q⟩
  match us, r1 with
  | [u1, u2], .cons ra (.cons rb .nil) =>
    obtain ⟨t1, rfl⟩ := ra
    obtain ⟨t2, rfl⟩ := rb
    refine zip_begins2 (begins_text x t1) (begins_text y t2) trivial trivial fun h' hz hTI hTO h1 h2 hsz hk => wpAny_pyIter_zip hz ?_
    have I2 : Inv X pins σ H1 { s1 with heap := h' } := I1.kept (t' := s1.toks) hk
    have S := zip_sep2 (N := s1.heap.objs.size) (fp1 := []) (fp2 := []) (fun b hb => nomatch hb) (fun b hb => nomatch hb)
    refine ⟨s1.heap.objs.size + 4, _, _, Itp (min x.cps.size y.cps.size) (sgn x) (sgn y), H1, rfl, I2,
      turn_pairs (Px := fun i v => ∃ c u, x.cps[i]? = some c ∧ v = Value.str ⟨#[c]⟩ u) (Py := fun i v => ∃ c u, y.cps[i]? = some c ∧ v = Value.str ⟨#[c]⟩ u) (St := fun i h => IsZip h (s1.heap.objs.size + 4) (s1.heap.objs.size + 2) (s1.heap.objs.size + 3) .none ∧ IsTupOf2 h (s1.heap.objs.size + 2) (.ref s1.heap.objs.size) (.ref (s1.heap.objs.size + 1)) ∧ (∃ a1 a2, IsTupOf2 h (s1.heap.objs.size + 3) a1 a2) ∧ h.IsStrIter s1.heap.objs.size (strIterType x) x t1 i ∧ h.IsStrIter (s1.heap.objs.size + 1) (strIterType y) y t2 i)
        List.mem_cons_self (fun i h st b hb => ?_) (fun A hd => GoesN.zip2 S (Draws.text (show A.in1.handled = none from hd) _ x t1) (Draws.text (show A.in1.handled = none from hd) _ y t2)) (fun A i s Q E st h => wpAny_pyIter_zip st.1 h) (fun i v ⟨c, u, hc, ev⟩ => ⟨.str ⟨#[c]⟩, by unfold sgn; rw [hc]; rfl, ev ▸ ⟨_, rfl⟩⟩) (fun i v ⟨c, u, hc, ev⟩ => ⟨.str ⟨#[c]⟩, by unfold sgn; rw [hc]; rfl, ev ▸ ⟨_, rfl⟩⟩),
      ⟨Nat.zero_le _, hz, hTI, ⟨_, _, hTO⟩, ⟨_, h1, rfl, rfl⟩, ⟨_, h2, rfl, rfl⟩⟩, fun c hcm => ?_, q⟩
    · obtain ⟨gz, gT, ⟨a1, a2, gO⟩, g1, g2⟩ := st
      have e' : b = s1.heap.objs.size + 4 ∨ b = s1.heap.objs.size + 2 ∨ b = s1.heap.objs.size + 3 ∨ b = s1.heap.objs.size ∨ b = s1.heap.objs.size + 1 := by simpa using hb
      rcases e' with rfl | rfl | rfl | rfl | rfl
      · exact ⟨_, gz, fun v z => nomatch z⟩
      · exact ⟨_, gT, fun v z => nomatch z⟩
      · exact ⟨_, gO, fun v z => nomatch z⟩
      · exact iter_str_obj g1
      · exact iter_str_obj g2
    · have e' : c = s1.heap.objs.size + 4 ∨ c = s1.heap.objs.size + 2 ∨ c = s1.heap.objs.size + 3 ∨ c = s1.heap.objs.size ∨ c = s1.heap.objs.size + 1 := by simpa using hcm
      have hle : s1.heap.objs.size ≤ c := by
        rcases e' with z | z | z | z | z <;> rw [z] <;> first | exact Nat.le_add_right _ _ | exact Nat.le_refl _
      exact I1.fpOk hle (I1.hok.fresh hle)

def iEnumS (ta : TA) : TI := fun σ H R => ta σ H fun vs H1 => ∃ x : Str, vs = [V.str x] ∧ R (Itp x.cps.size (fun i => some (.int (i : Nat))) (sgn x)) H1
/-- for i, a in enumerate(text) -/
theorem pi_enumS {X : Cx} {e1 : Expr} {ta : TA} {np cp tp : Pos} {elts : List Expr} {kk : Nat} (hg : Gl X "enumerate") (hm : X.mg "enumerate" = none) (ha : PA X [e1] ta)
    (se : starEach [e1] X.env = (false, eval e1 X.env) :: starEach [] X.env := by rfl) (pl : (backTo cp (starEach [] X.env)).any (·.1) = false := by rfl) :
    PI X (.Tuple elts kk tp) (.Call (.Name "enumerate" np) [e1] [] cp) (iEnumS ta) := by
  constructor
  intro pins s σ H R I h
  refine Call_ (ld_blt I hg hm PyProof.Rows.boot_enumerate (PyProof.Rows.callWith_type1 (thn (ha.run cp pins s σ H _ I h) ?_) se pl))
  rintro us s1 ⟨vs, H1, I1, r1, x, rfl, q⟩
  match us, r1 with
  | [u1], .cons ra .nil =>
    obtain ⟨t1, rfl⟩ := ra
    refine call_enumerate_str fun h' he hit hsz hk => wpAny_pyIter_enum he ?_
    have I2 : Inv X pins σ H1 { s1 with heap := h' } := I1.kept (t' := s1.toks) hk
    refine ⟨s1.heap.objs.size + 1, _, _, Itp x.cps.size (fun i => some (.int (i : Nat))) (sgn x), H1, rfl, I2,
      turn_pairs (Px := fun i v => ∃ t, v = Value.int ((0 : Int) + (i : Int)) t) (Py := fun i v => ∃ c u, x.cps[i]? = some c ∧ v = Value.str ⟨#[c]⟩ u) (St := fun i h => (∃ old, IsEnum h (s1.heap.objs.size + 1) s1.heap.objs.size ((0 : Int) + (i : Int)) old) ∧ h.IsStrIter s1.heap.objs.size (strIterType x) x t1 i)
        List.mem_cons_self (fun i h st b hb => ?_)
        (fun A hd => (GoesN.enumFrom 0 (Draws.text (show A.in1.handled = none from hd) s1.heap.objs.size x t1) (s1.heap.objs.size + 1) (Nat.succ_ne_self _) (by simp) (by simp)).mono fun i h₀ v h _ ⟨T, t, z, ev, hn, hz, hT⟩ => ⟨T, _, z, ev, hn, ⟨t, rfl⟩, hz, hT⟩)
        (fun A i s Q E st h => by
          obtain ⟨⟨old, gz⟩, _⟩ := st
          exact wpAny_pyIter_enum gz h)
        (fun i v ⟨t, ev⟩ => ⟨.int (i : Nat), rfl, by rw [ev, Int.zero_add]; exact ⟨_, rfl⟩⟩) (fun i v ⟨c, u, hc, ev⟩ => ⟨.str ⟨#[c]⟩, by unfold sgn; rw [hc]; rfl, ev ▸ ⟨_, rfl⟩⟩),
      ⟨Nat.zero_le _, ⟨_, he⟩, hit⟩, fun c hcm => ?_, q⟩
    · obtain ⟨⟨old, gz⟩, g1⟩ := st
      have e' : b = s1.heap.objs.size + 1 ∨ b = s1.heap.objs.size := by simpa using hb
      rcases e' with rfl | rfl
      · exact ⟨_, gz, fun v z => nomatch z⟩
      · exact iter_str_obj g1
    · have e' : c = s1.heap.objs.size + 1 ∨ c = s1.heap.objs.size := by simpa using hcm
      have hle : s1.heap.objs.size ≤ c := by
        rcases e' with z | z <;> rw [z] <;> first | exact Nat.le_add_right _ _ | exact Nat.le_refl _
      exact I1.fpOk hle (I1.hok.fresh hle)
end Own

set_option Elab.async false
set_option linter.all false
set_option maxRecDepth 100000
set_option maxHeartbeats 2000000
namespace Own
open PySem PySem.Spec PyProof.Rows L2
open C8 (Cal Mak Met pe_c pe_mk pe_mt pe_mt0 Def fnArgs fnBody fnScope fn0 fnScope_by)

/-! ### words of bits -/
def cd (b : Bool) : Nat := if b then 49 else 48
def WS (w : List Bool) : Str := SX.S (w.map cd)
theorem WS_len (w : List Bool) : (WS w).length = w.length := by unfold WS; rw [SX.S_len, List.length_map]
theorem WS_cat (a b : List Bool) : WS a ++ WS b = WS (a ++ b) := by unfold WS; rw [SX.S_cat, List.map_append]
theorem cd_inj {a b : Bool} (h : cd a = cd b) : a = b := by cases a <;> cases b <;> first | rfl | (exact absurd h (by decide))
theorem map_cd_inj : ∀ {a b : List Bool}, a.map cd = b.map cd → a = b
  | [], [], _ => rfl
  | [], _ :: _, h => by simp at h
  | _ :: _, [], h => by simp at h
  | x :: a, y :: b, h => by
    rw [List.map_cons, List.map_cons] at h
    injection h with h1 h2
    rw [cd_inj h1, map_cd_inj h2]
theorem WS_inj {a b : List Bool} (h : WS a = WS b) : a = b := map_cd_inj (SX.S_inj h)
theorem WS_nil : WS [] = ("" : Str) := rfl
theorem WS_0 : WS [false] = ("0" : Str) := by decide +kernel
theorem WS_1 : WS [true] = ("1" : Str) := by decide +kernel
theorem WS_size (w : List Bool) : (WS w).cps.size = w.length := by
  show (w.map cd).toArray.size = w.length
  simp
theorem WS_get (w : List Bool) (i : Nat) : (WS w).cps[i]? = (w[i]?).map cd := by
  show (w.map cd).toArray[i]? = _
  simp
theorem sgn_WS (w : List Bool) (i : Nat) : sgn (WS w) i = (w[i]?).map fun b => V.str (WS [b]) := by
  unfold sgn
  rw [WS_get]
  cases w[i]? <;> rfl

/-! ### builtins that the module does not hide -/
structure Mg (mg : Str → Option Value) : Prop where
  len : mg "len" = none
  abs : mg "abs" = none
  max : mg "max" = none
  min : mg "min" = none
  int : mg "int" = none
  str : mg "str" = none
  range : mg "range" = none
  zip : mg "zip" = none
  enumerate : mg "enumerate" = none
  isinstance : mg "isinstance" = none
  all : mg "all" = none
  any : mg "any" = none
  list : mg "list" = none
  tuple : mg "tuple" = none
  repr : mg "repr" = none
  set : mg "set" = none
  sorted : mg "sorted" = none

/-! ### more rules -/
theorem op_mul_str {X : Cx} : OpR X (binaryOp .Mult) (fun x y H Q => ∃ (z : Str) (n : Int), x = .str z ∧ y = .int n ∧ MulOk z n ∧ Q (.str (Txt.mul z n)) H) := by
  intro pins s σ H x y v u Q I rx ry h
  obtain ⟨z, n, rfl, rfl, hk, q⟩ := h
  obtain ⟨t1, rfl⟩ := rx
  obtain ⟨t2, rfl⟩ := ry
  exact SB.mul hk fun t' k => ⟨.str (Txt.mul z n), H, I.tok _, ⟨_, rfl⟩, q⟩

section
variable {P : Program} {w : World} {K : PySem.W.Frag} {mg : Str → Option Value} {base : Heap}
/-- a property that may be read off the instances of the class at C -/
structure Prp (P : Program) (w : World) (K : PySem.W.Frag) (mg : Str → Option Value) (base : Heap) (k : Nat) (C : Addr) (m : Str) (sp : Sp) : Prop where
  ex : ∃ (p g : Addr) (fd : FuncData) (ps : List Str), Cls K C ∧ PropOf K C m p g ∧ FnOk P w K mg base CX0 k g fd ps sp ∧ Binds K fd ps []
end
section
variable {X : Cx} {k j : Nat} {C : Addr} {x m : Str} {sp : Sp} {dvs : List V} {p pos apos : Pos} {e o : Expr} {es : List Expr} {ta : TE} {t : TA}
theorem pe_p (c : Prp X.prog X.w X.K X.mg X.base k C m sp) (hr : Room j X.A) (hk : k + 1 ≤ j) (he : PE X o ta) (hab : attributeBase o m X.env (eval o X.env) = eval o X.env) :
    PE X (.Attribute o m pos) (tProp C sp [] E0 ta) := by
  obtain ⟨pp, g, fd, ps, hc, hp, F, b⟩ := c.ex
  exact pe_prop he hc hp F (hr.mono hk) b .nil pass0 hab
theorem pe_mk0 (c : Mak X.prog X.w X.K X.mg X.base k x C sp dvs) (hr : Room j X.A) (hk : k + 1 ≤ j) (hg : Gl X x) (hdb : (x == ("__debug__" : Str)) = false := by decide) : PE X (.Call (.Name x p) [] [] pos) (tMake C sp dvs E0 tNil) := by
  obtain ⟨f, fd, ps, ds, M, F, hm, b, d⟩ := c.ex
  exact pe_make0 M F (hr.mono hk) hg hm b d pass0 hdb
end

/-! ### the box of the draws -/
theorem mod_box (x : Int) : 1 ≤ x % 2147483629 + 1 ∧ x % 2147483629 + 1 ≤ 2147483629 := by
  have := Int.emod_nonneg x (show (2147483629 : Int) ≠ 0 by decide)
  have := Int.emod_lt_of_pos x (show (0 : Int) < 2147483629 by decide)
  omega
theorem mod_in (x : Int) {m : Int} (h : 0 < m) : 0 ≤ x % m ∧ x % m < m := ⟨Int.emod_nonneg x (by omega), Int.emod_lt_of_pos x h⟩
theorem atI0 {x : V} {r : List V} : atI (x :: r) 0 = some x := atI_nat (j := 0) rfl
theorem atI1 {x y : V} {r : List V} : atI (x :: y :: r) 1 = some y := atI_nat (j := 1) rfl
def BoxAt (H : Hp) (b : Addr) : Prop := ∃ c d : Int, H b = some (.lst [.int c, .int d]) ∧ 0 ≤ c ∧ 1 ≤ d ∧ d ≤ 2147483629
/-- all but what stands at b is as it was -/
def Off (b : Addr) (H H' : Hp) : Prop := ∀ a o, H a = some o → a ≠ b → H' a = some o
theorem Off.refl (b : Addr) (H : Hp) : Off b H H := fun _ _ h _ => h
theorem Off.trans {b : Addr} {H H1 H2 : Hp} (x : Off b H H1) (y : Off b H1 H2) : Off b H H2 := fun a o h n => y a o (x a o h n) n
theorem off_of {H H' : Hp} {b : Addr} (s : Same H H') : Off b H H' := fun a o h _ => s a o h
theorem Off.set {b : Addr} {H : Hp} {o : HO} : Off b H (upd H b o) := fun a u h n => by rw [upd_ne n]; exact h
theorem same_new {H : Hp} {p : Addr} {o : HO} (h : H p = none) : Same H (upd H p o) := fun b x e => by
  rw [upd_ne (ne_of_none e h)]
  exact e
theorem BoxAt.same {H H' : Hp} {b : Addr} (s : Same H H') (h : BoxAt H b) : BoxAt H' b := by
  obtain ⟨c, d, e, r⟩ := h
  exact ⟨c, d, s _ _ e, r⟩
theorem BoxAt.ne_new {H : Hp} {b a : Addr} (h : BoxAt H b) (e : H a = none) : a ≠ b := by
  obtain ⟨c, d, e2, _⟩ := h
  exact (ne_of_none e2 e).symm

/-! ### promises of the law's own draws -/
def spSeed (K : PySem.W.Frag) : Sp := fun vs H Q _ => ∃ (a : Addr) (ns : List Int) (k : Int), vs = [.ref a, .int k] ∧ SqL K H a (ns.map V.int) ∧ ns.length ≤ 63 ∧ 0 ≤ k ∧ k ≤ 100 ∧ ∀ p H', H p = none → BoxAt H' p → Same H H' → Q (.ref p) H'
def spChoose : Sp := fun vs H Q _ => ∃ (b : Addr) (m : Int), vs = [.ref b, .int m] ∧ BoxAt H b ∧ 1 ≤ m ∧ m ≤ 100000 ∧ ∀ r H', 0 ≤ r → r < m → BoxAt H' b → Off b H H' → Q (.int r) H'
def spOneOf : Sp := fun vs H Q _ => ∃ (b l : Addr) (xs : List V), vs = [.ref b, .ref l] ∧ BoxAt H b ∧ H l = some (.lst xs) ∧ l ≠ b ∧ xs ≠ [] ∧ xs.length ≤ 1000 ∧ ∀ x H', x ∈ xs → BoxAt H' b → Off b H H' → Q x H'
end Own
namespace Own
open PySem PySem.Spec PyProof.Rows L2
/-- the texts of the bits -/
def bitV (z : List Bool) : List V := z.map fun b => V.str (WS [b])
theorem bit_of {x : V} (h : x ∈ [V.str "0", V.str "1"]) : ∃ b, x = V.str (WS [b]) := by
  rcases List.mem_cons.mp h with e | h
  · exact ⟨false, by rw [e, WS_0]⟩
  · rcases List.mem_cons.mp h with e | h
    · exact ⟨true, by rw [e, WS_1]⟩
    · cases h
theorem joinL_nil : ∀ z : List (List Nat), TL.joinL [] z = z.flatten := by
  intro z
  induction z with
  | nil => rfl
  | cons x r ih =>
    cases r with
    | nil => simp [TL.joinL]
    | cons y r => simp [TL.joinL] at ih ⊢; rw [ih]
theorem join_bits (z : List Bool) : Txt.join "" (z.map fun b => WS [b]) = WS z := by
  have h : (z.map fun b => WS [b]) = (z.map fun b => [cd b]).map SX.S := by rw [List.map_map]; rfl
  rw [h, show ("" : Str) = SX.S [] from rfl, SX.join_S, joinL_nil]
  unfold WS
  congr 1
  clear h
  induction z with
  | nil => rfl
  | cons b r ih =>
    rw [List.map_cons, List.flatten_cons, List.map_cons, ih]
    rfl
theorem join_bits_sz (z : List Bool) (h : z.length ≤ 100000) : ((z.map fun b => WS [b]).map (·.length)).sum + (z.map fun b => WS [b]).length * ("" : Str).length ≤ 16777216 := by
  have h1 : ((z.map fun b => WS [b]).map (·.length)).sum = z.length := by
    induction z with
    | nil => rfl
    | cons b r ih =>
      simp only [List.map_cons, List.sum_cons, WS_len, List.length_cons, List.length_nil]
      rw [ih (by rw [List.length_cons] at h; omega)]
      omega
  rw [h1, show ("" : Str).length = 0 from rfl]
  omega
end Own
namespace Own
open PySem PySem.Spec PyProof.Rows L2
theorem subAt_S (a b : List Nat) (i : Nat) : Builtin.Str.subAt (SX.S a) (SX.S b) i = decide ((a.drop i).take b.length = b) := by
  unfold Builtin.Str.subAt
  have h1 : (SX.S b).length = b.length := SX.S_len b
  rw [h1]
  have h2 : ((SX.S a).cps.extract i (i + b.length)).toList = (a.drop i).take b.length := by
    show (a.toArray.extract i (i + b.length)).toList = _
    simp [List.extract_eq_take_drop]
  have h3 : (SX.S b).cps.toList = b := rfl
  by_cases h : (a.drop i).take b.length = b
  · rw [decide_eq_true h, beq_iff_eq]
    apply Array.toList_inj.mp
    rw [h2, h3, h]
  · rw [decide_eq_false h, beq_eq_false_iff_ne]
    intro e
    apply h
    rw [← h2, e, h3]
theorem take_map_cd {a b : List Bool} {i : Nat} : ((((a.map cd).drop i).take (b.map cd).length = b.map cd)) ↔ ((a.drop i).take b.length = b) := by
  rw [← List.map_drop, List.length_map, ← List.map_take]
  exact ⟨map_cd_inj, fun h => by rw [h]⟩
theorem ends_WS (a b : List Bool) : Txt.endswith (WS a) (WS b) = decide (b <:+ a) := by
  unfold Txt.endswith
  rw [WS_len, WS_len, Nat.zero_add]
  have h1 : Builtin.Str.subAt (WS a) (WS b) (a.length - b.length) = decide ((a.drop (a.length - b.length)).take b.length = b) := by
    unfold WS
    rw [subAt_S]
    exact decide_eq_decide.mpr take_map_cd
  rw [h1]
  by_cases hl : b.length ≤ a.length
  · rw [decide_eq_true hl, Bool.true_and]
    apply decide_eq_decide.mpr
    rw [List.take_of_length_le (by rw [List.length_drop]; omega)]
    constructor
    · intro h
      rw [← h]
      exact List.drop_suffix _ _
    · intro h
      exact (List.suffix_iff_eq_drop.mp h).symm
  · rw [decide_eq_false hl, Bool.false_and]
    symm
    rw [decide_eq_false_iff_not]
    intro h
    exact hl h.length_le
theorem starts_WS (a b : List Bool) : Txt.startswith (WS a) (WS b) = decide (b <+: a) := by
  unfold Txt.startswith
  rw [WS_len, WS_len, Nat.zero_add]
  have h1 : Builtin.Str.subAt (WS a) (WS b) 0 = decide ((a.drop 0).take b.length = b) := by
    unfold WS
    rw [subAt_S]
    exact decide_eq_decide.mpr take_map_cd
  rw [h1, List.drop_zero]
  by_cases hl : b.length ≤ a.length
  · rw [decide_eq_true hl, Bool.true_and]
    apply decide_eq_decide.mpr
    rw [List.prefix_iff_eq_take]
    exact ⟨fun h => h.symm, fun h => h.symm⟩
  · rw [decide_eq_false hl, Bool.false_and]
    symm
    rw [decide_eq_false_iff_not]
    intro h
    exact hl h.length_le
theorem cut_from (w : List Bool) {i : Int} (h : 0 ≤ i) : cutS (WS w) (some i) none = WS (w.drop i.toNat) := by
  rw [C8.cutS_slice]
  unfold WS
  rw [SX.slice_from h, List.map_drop]
theorem foldl_app {α : Type} : ∀ (l : List (Array α)) (acc : Array α), (l.foldl (· ++ ·) acc).toList = acc.toList ++ (l.map (·.toList)).flatten
  | [], acc => by simp
  | x :: l, acc => by rw [List.foldl_cons, foldl_app l]; simp
theorem mul_WS (z : List Bool) {n : Int} (h : 0 ≤ n) : Txt.mul (WS z) n = WS (List.replicate n.toNat z).flatten := by
  unfold Txt.mul
  by_cases h1 : n < 1
  · have e : n = 0 := by omega
    subst e
    rfl
  · rw [if_neg h1]
    by_cases h2 : (n == 1 || (WS z).length == 0) = true
    · rw [if_pos h2]
      rw [Bool.or_eq_true, beq_iff_eq, beq_iff_eq, WS_len] at h2
      rcases h2 with e | e
      · subst e
        show WS z = WS (List.replicate 1 z).flatten
        simp
      · have e : z = [] := List.length_eq_zero_iff.mp e
        subst e
        congr 1
        induction n.toNat with
        | zero => rfl
        | succ k ih => rw [List.replicate_succ, List.flatten_cons, ← ih]; rfl
    · rw [if_neg h2]
      show _ = SX.S _
      have : ∀ a b : Str, a.cps.toList = b.cps.toList → a = b := fun a b h => by
        cases a; cases b; simp at h; rw [h]
      apply this
      rw [foldl_app]
      show [] ++ _ = List.map cd _
      rw [List.nil_append, List.map_replicate]
      generalize n.toNat = k
      induction k with
      | zero => rfl
      | succ k ih => rw [List.replicate_succ, List.replicate_succ, List.flatten_cons, List.flatten_cons, List.map_append, ih]; rfl
theorem flat_rep (k : Nat) (b : Bool) : (List.replicate k [b]).flatten = List.replicate k b := by
  induction k with
  | zero => rfl
  | succ k ih => rw [List.replicate_succ, List.replicate_succ, List.flatten_cons, ih]; rfl
theorem mul_ok (z : List Bool) {n : Int} (h : 0 ≤ n) (hn : n ≤ 1000) (hz : z.length ≤ 1000) : MulOk (WS z) n := by
  refine ⟨?_, ?_, ?_⟩
  · rw [Bool.or_eq_false_iff, decide_eq_false_iff_not, decide_eq_false_iff_not]
    omega
  · intro h1 _
    rw [WS_len]
    have h2 : (2 ^ 63 - 1 : Int) / 1000 ≤ (2 ^ 63 - 1) / n := by
      apply Int.le_ediv_of_mul_le (by omega)
      have : (2 ^ 63 - 1 : Int) / 1000 * n ≤ (2 ^ 63 - 1 : Int) / 1000 * 1000 := Int.mul_le_mul_of_nonneg_left hn (by decide)
      refine Int.le_trans this (by decide)
    have h3 : (1000 : Int) < (2 ^ 63 - 1) / 1000 := by decide
    omega
  · intro h1 _
    rw [WS_len]
    have h2 : z.length * n.toNat ≤ 1000 * 1000 := Nat.mul_le_mul hz (by omega)
    have : ∀ m : Nat, m ≤ 1000000 → Builtin.Str.tooLong m = false := fun m hm => by
      unfold Builtin.Str.tooLong
      rw [decide_eq_false_iff_not]
      have : (1000000 : Nat) < sizeLine := by decide
      omega
    exact this _ (by omega)
end Own
namespace Own
open PySem PySem.Spec PyProof.Rows L2
/-- a polynomial and a start that fit -/
structure Chk (poly st : List Bool) : Prop where
  len : poly.length = st.length + 1
  hd : [true] <+: poly
  lt : [true] <:+ poly
theorem chk_one : Chk [true] [] := ⟨rfl, List.prefix_rfl, List.suffix_rfl⟩
theorem chk_in {inner st : List Bool} (h : st.length = inner.length + 1) : Chk (true :: (inner ++ [true])) st :=
  ⟨by simp [h], ⟨_, rfl⟩, ⟨true :: inner, rfl⟩⟩
def spCheck : Sp := fun vs H Q _ => ∃ (b : Addr) (m : Int), vs = [.ref b, .int m] ∧ BoxAt H b ∧ 0 ≤ m ∧ m ≤ 100 ∧ ∀ (poly st : List Bool) p H', Chk poly st → (st.length : Int) ≤ m → H p = none → H' p = some (.tup [.str (WS poly), .str (WS st)]) → BoxAt H' b → Off b H H' → Q (.ref p) H'
theorem w101 (z : List Bool) : ("1" : Str) ++ WS z ++ "1" = WS (true :: (z ++ [true])) := by
  rw [← WS_1, WS_cat, WS_cat]
  rfl
end Own
namespace Own
open PySem PySem.Spec PyProof.Rows L2
/-! ### promises of the program's defs -/
def spIsWord : Sp := fun vs H Q _ => ∃ (z : List Bool) (n : Int), vs = [.str (WS z), .int n] ∧ z.length ≤ 1000 ∧ ∀ H', Same H H' → Q (.bl (decide (n ≤ (z.length : Int)))) H'
def xorL (a b : List Bool) : List Bool := a.zipWith (· ^^ ·) b
def spExch : Sp := fun vs H Q _ => ∃ (a b : List Bool), vs = [.str (WS a), .str (WS b)] ∧ a.length ≤ 1000 ∧ b.length ≤ 1000 ∧ ∀ H', Same H H' → Q (.str (WS (xorL a b))) H'
theorem ls_len (z : List Bool) (h : z.length ≤ 1000) : (WS z).length ≤ sizeLine := by
  rw [WS_len]
  exact Nat.le_of_lt (small1000 h)
theorem eqS (a b : List Bool) : decide (V.str (WS a) = V.str (WS b)) = decide (a = b) := by
  apply decide_eq_decide.mpr
  constructor
  · intro h
    injection h with h
    exact WS_inj h
  · intro h
    rw [h]
/-- the class's instances: its fields -/
def ckf (poly st : List Bool) : List (Str × V) := [("poly", .str (WS poly)), ("start", .str (WS st))]
def CkAt (C : Addr) (H : Hp) (p : Addr) (poly st : List Bool) : Prop := ∃ dx, H p = some (.ins C dx (ckf poly st))
theorem CkAt.same {C p : Addr} {H H' : Hp} {poly st : List Bool} (s : Same H H') (h : CkAt C H p poly st) : CkAt C H' p poly st := by
  obtain ⟨dx, e⟩ := h
  exact ⟨dx, s _ _ e⟩
theorem ckf_poly (poly st : List Bool) : (ckf poly st).lookup ("poly" : Str) = some (.str (WS poly)) := rfl
theorem ckf_start (poly st : List Bool) : (ckf poly st).lookup ("start" : Str) = some (.str (WS st)) := by
  unfold ckf
  rw [List.lookup_cons, show (("start" : Str) == "poly") = false by decide +kernel]
  rfl
/-- what of the class is known -/
structure CkT (K : PySem.W.Frag) (C : Addr) : Prop where
  cl : Cls K C
  nP : NoAttr K C "poly"
  nS : NoAttr K C "start"
def spInit (C : Addr) : Sp := fun vs H Q _ => ∃ (p dx : Addr) (poly st : List Bool) (sv : V), vs = [.ref p, .str (WS poly), sv] ∧ ((sv = .non ∧ st = List.replicate (poly.length - 1) false) ∨ sv = .str (WS st)) ∧ Chk poly st ∧ st.length ≤ 900 ∧ H p = some (.ins C dx []) ∧
  ∀ H', CkAt C H' p poly st → (∀ a o, H a = some o → a ≠ p → H' a = some o) → Q .non H'
def spDegree (C : Addr) : Sp := fun vs H Q _ => ∃ (p : Addr) (poly st : List Bool), vs = [.ref p] ∧ CkAt C H p poly st ∧ poly.length ≤ 1000 ∧ Q (.int ((poly.length : Int) - 1)) H
/-- one bit more, divided -/
def stepR (marks left : List Bool) (b : Bool) : List Bool := if (left ++ [b]).head? = some true then xorL ((left ++ [b]).drop 1) marks else (left ++ [b]).drop 1
def restR (poly st bits : List Bool) : List Bool := bits.foldl (stepR (poly.drop 1)) st
theorem xorL_len (a b : List Bool) (h : a.length = b.length) : (xorL a b).length = a.length := by
  unfold xorL
  rw [List.length_zipWith, h, Nat.min_self]
theorem stepR_len {marks left : List Bool} {b : Bool} (h : left.length = marks.length) : (stepR marks left b).length = marks.length := by
  unfold stepR
  have : ((left ++ [b]).drop 1).length = marks.length := by simp [h]
  split
  · rw [xorL_len _ _ this, this]
  · exact this
theorem restR_len {poly st : List Bool} (h : poly.length = st.length + 1) : ∀ bits : List Bool, (restR poly st bits).length = st.length := by
  intro bits
  have key : ∀ (bits l : List Bool), l.length = (poly.drop 1).length → (bits.foldl (stepR (poly.drop 1)) l).length = (poly.drop 1).length := by
    intro bits
    induction bits with
    | nil => intro l h; exact h
    | cons b r ih => intro l h; exact ih _ (stepR_len h)
  have := key bits st (by simp [h])
  unfold restR
  rw [this]
  simp [h]
def spRest (C : Addr) : Sp := fun vs H Q _ => ∃ (p : Addr) (poly st bits : List Bool), vs = [.ref p, .str (WS bits)] ∧ CkAt C H p poly st ∧ Chk poly st ∧ st.length ≤ 900 ∧ bits.length ≤ 1000 ∧ ∀ H', Same H H' → Q (.str (WS (restR poly st bits))) H'
end Own
namespace Own
open PySem PySem.Spec PyProof.Rows L2
/-! ### the law's own division -/
end Own
namespace Own
open PySem PySem.Spec PyProof.Rows L2
theorem cutV_from (xs : List V) {n : Nat} (h : n ≤ xs.length) : cutV xs (some (n : Int)) none = xs.drop n := by
  unfold cutV
  rw [show HT.sIx xs.length 0 (some (n : Int)) = min n xs.length from HT.sIx_nat xs.length 0 n, HT.sIx_none, Nat.min_eq_left h]
  exact List.take_of_length_le (by rw [List.length_drop]; exact Nat.le_refl _)
end Own
namespace Own
open PySem PySem.Spec PyProof.Rows L2
end Own
namespace Own
open PySem PySem.Spec PyProof.Rows L2
/-- all but lists are as they were -/
def notL : HO → Prop
  | .lst _ => False
  | _ => True
def Kp (H H' : Hp) : Prop := ∀ a o, H a = some o → notL o → H' a = some o
theorem Kp.trans {H H1 H2 : Hp} (x : Kp H H1) (y : Kp H1 H2) : Kp H H2 := fun a o h n => y a o (x a o h n) n
theorem kp_same {H H' : Hp} (s : Same H H') : Kp H H' := fun a o h _ => s a o h
theorem kp_off {b : Addr} {H H' : Hp} (hb : BoxAt H b) (o : Off b H H') : Kp H H' := fun a u h n => o a u h (fun e => by
  obtain ⟨c, d, e2, _⟩ := hb
  rw [e, e2] at h
  cases h
  exact n)
theorem kp_lst {H : Hp} {l : Addr} {xs ys : List V} (h : H l = some (.lst xs)) : Kp H (upd H l (.lst ys)) := fun a u e n => by
  rw [upd_ne (fun q => by rw [q, h] at e; cases e; exact n)]
  exact e
theorem CkAt.kp {C p : Addr} {H H' : Hp} {poly st : List Bool} (k : Kp H H') (h : CkAt C H p poly st) : CkAt C H' p poly st := by
  obtain ⟨dx, e⟩ := h
  exact ⟨dx, k _ _ e trivial⟩
theorem same_make {H H' : Hp} {x dx : Addr} {o1 o2 : HO} (hx : H x = none) (hdx : H dx = none) (k : ∀ a o, (upd (upd H dx o1) x o2) a = some o → a ≠ x → H' a = some o) : Same H H' := fun a o h => by
  refine k a o ?_ (ne_of_none h hx)
  rw [upd_ne (ne_of_none h hx), upd_ne (ne_of_none h hdx)]
  exact h
end Own

set_option Elab.async false
set_option linter.all false
set_option maxRecDepth 100000
set_option maxHeartbeats 2000000
namespace Own
open PySem PySem.Spec PyProof.Rows L2
open C8 (Cal Mak Met pe_c pe_mk pe_mt pe_mt0 Def fnArgs fnBody fnScope fn0 fnScope_by)
/-! ### the rest is linear -/
def goodB (poly st msg : List Bool) : Bool := decide (st.length ≤ msg.length) && !(decide (true ∈ restR poly st msg))
end Own
namespace Own
open PySem PySem.Spec PyProof.Rows L2
/-! ### all words of a size -/
def two (w : List Bool) : List (List Bool) := [w ++ [false], w ++ [true]]
def wordsL : Nat → List (List Bool)
  | 0 => [[]]
  | n + 1 => (wordsL n).flatMap two
def strV (ws : List (List Bool)) : List V := ws.map fun w => V.str (WS w)
theorem strV_len (ws : List (List Bool)) : (strV ws).length = ws.length := by unfold strV; rw [List.length_map]
theorem strV_app (a b : List (List Bool)) : strV (a ++ b) = strV a ++ strV b := by unfold strV; rw [List.map_append]
theorem wordsL_len : ∀ n, (wordsL n).length = 2 ^ n
  | 0 => rfl
  | n + 1 => by
    unfold wordsL
    rw [List.length_flatMap]
    have : ∀ l : List (List Bool), (l.map fun a => (two a).length).sum = 2 * l.length := by
      intro l
      induction l with
      | nil => rfl
      | cons x r ih =>
        rw [List.map_cons, List.sum_cons, ih, List.length_cons]
        show 2 + 2 * r.length = 2 * (r.length + 1)
        omega
    rw [this, wordsL_len n, Nat.pow_succ]
    omega
theorem mem_wordsL : ∀ {n : Nat} {w : List Bool}, w ∈ wordsL n ↔ w.length = n
  | 0, w => by unfold wordsL; rw [List.mem_singleton, List.length_eq_zero_iff]
  | n + 1, w => by
    unfold wordsL
    rw [List.mem_flatMap]
    constructor
    · rintro ⟨u, hu, hw⟩
      have h1 := mem_wordsL.mp hu
      unfold two at hw
      rcases List.mem_cons.mp hw with e | hw
      · rw [e]; simp [h1]
      · rw [List.mem_singleton] at hw
        rw [hw]; simp [h1]
    · intro h
      have hne : w ≠ [] := by intro e; rw [e] at h; cases h
      refine ⟨w.dropLast, mem_wordsL.mpr (by rw [List.length_dropLast]; omega), ?_⟩
      have e := List.dropLast_concat_getLast hne
      unfold two
      cases hb : w.getLast hne with
      | false => rw [hb] at e; exact List.mem_cons.mpr (.inl e.symm)
      | true => rw [hb] at e; exact List.mem_cons.mpr (.inr (List.mem_singleton.mpr e.symm))
end Own
namespace Own
open PySem PySem.Spec PyProof.Rows L2
theorem iteNE {a b : V} {p q : Prop} (h : a ≠ b) (x : p) : if (!decide (a = b)) = true then p else q := by
  rw [decide_eq_false h]
  exact x
theorem str_ne {a b : Str} (h : a ≠ b) : V.str a ≠ V.str b := fun e => h (by injection e)
end Own

set_option Elab.async false
set_option linter.all false
set_option maxRecDepth 100000
set_option maxHeartbeats 2000000
/-! own == and != of two instances of one class -/
namespace OwnC
open PySem PySem.Spec PyProof.Rows PySem.W
section
variable {prog : Program} {w : World} {A : Around} {E : Value → Shared → Prop} {s : Shared} {K : Frag} {x C f L : Addr} {h₀ : Heap} {m : Str → Option Value} {ox : Obj} {od : Option Obj} {b tb : Value}
open Builtin Builtin.Str in
open Builtin Builtin.Str in
end
end OwnC
namespace Own
open PySem PySem.Spec PyProof.Rows L2
open C8 (pass0)
section
variable {X : Cx} {j k : Nat} {C : Addr} {sp : Sp}
end
end Own

set_option Elab.async false
set_option linter.all false
set_option maxRecDepth 100000
set_option maxHeartbeats 2000000
/-! dicts whose keys are nested tuples (of ints, texts, None): tracked by HO.ext -/
namespace ND
open PySem PySem.Spec PyProof.Rows L2
mutual
/-- the value v is the key k -/
inductive KAt (H : Hp) : NestedKey → V → Prop
  | none : KAt H .none .non
  | num (i : Int) : KAt H (.num i) (.int i)
  | text (x : Str) : KAt H (.text x) (.str x)
  | tup {a : Addr} {vs : List V} {ks : List NestedKey} : H a = some (.tup vs) → KAll H ks vs → KAt H (.tup ks) (.ref a)
inductive KAll (H : Hp) : List NestedKey → List V → Prop
  | nil : KAll H [] []
  | cons {k : NestedKey} {v : V} {ks : List NestedKey} {vs : List V} : KAt H k v → KAll H ks vs → KAll H (k :: ks) (v :: vs)
end
section
variable {H H' : Hp}
mutual
theorem KAt.tups (t : ∀ a xs, H a = some (.tup xs) → H' a = some (.tup xs)) : ∀ {k : NestedKey} {v : V}, KAt H k v → KAt H' k v
  | _, _, .none => .none
  | _, _, .num i => .num i
  | _, _, .text x => .text x
  | _, _, .tup h r => .tup (t _ _ h) (KAll.tups t r)
theorem KAll.tups (t : ∀ a xs, H a = some (.tup xs) → H' a = some (.tup xs)) : ∀ {ks : List NestedKey} {vs : List V}, KAll H ks vs → KAll H' ks vs
  | _, _, .nil => .nil
  | _, _, .cons h r => .cons (KAt.tups t h) (KAll.tups t r)
end
theorem KAt.same (s : ∀ a o, H a = some o → H' a = some o) {k : NestedKey} {v : V} (h : KAt H k v) : KAt H' k v := h.tups fun a xs e => s a _ e
end
section
variable {P : Program} {w : World} {H : Hp} {h : Heap}
mutual
theorem is_of (ok : HOk P w H h) : ∀ {k : NestedKey} {v : V} {u : Value}, KAt H k v → RelV v u → NestedIs h k u
  | _, _, _, .none, r => by
    obtain rfl := (show _ = Value.none from r)
    exact .none
  | _, _, _, .num i, r => by
    obtain ⟨t, rfl⟩ := r
    exact .int i t
  | _, _, _, .text x, r => by
    obtain ⟨t, rfl⟩ := r
    exact .text x t
  | _, _, _, .tup (a := a) (vs := vs) e l, r => by
    obtain rfl := (show _ = Value.ref a from r)
    obtain ⟨_, its, rv, o, h1, h2, n, h3⟩ := (show ObjOk P w H h a (.tup vs) from ok a _ e)
    exact .tup h1 h2 h3 (by simpa using all_of ok l rv)
theorem all_of (ok : HOk P w H h) : ∀ {ks : List NestedKey} {vs : List V} {us : List Value}, KAll H ks vs → Vals vs us → NestedAll h ks us
  | _, _, _, .nil, r => by
    cases r
    exact .nil
  | _, _, _, .cons k l, r => by
    cases r with
    | cons rv rs => exact .cons (is_of ok k rv) (all_of ok l rs)
end
end
/-- what is known of an entry: its key, the key's address, its value -/
abbrev NEnt := NestedKey × Addr × V
def EntR (p : NEnt) (q : NestedKey × Addr × Value) : Prop := p.1 = q.1 ∧ p.2.1 = q.2.1 ∧ RelV p.2.2 q.2.2
def NdO (P : Program) (w : World) (a : Addr) (kvs : List NEnt) : HO := .ext fun h => kvs.length ≤ sizeLine ∧ (a == sysModules) = false ∧ ∃ xs, Paired EntR kvs xs ∧
  ∃ o es ep, h.get? a = some o ∧ o.ExactDict ∧ o.data = .dict es ep ∧ es.toList = xs.map (entryOfKey (nestedKind P w)) ∧ (xs.map (·.1)).Nodup
/-- at a stands a dict with nested keys -/
def NdAt (P : Program) (w : World) (H : Hp) (a : Addr) (kvs : List NEnt) : Prop := H a = some (NdO P w a kvs) ∧ ∀ p ∈ kvs, p.1.depth ≤ 8 ∧ KAt H p.1 (.ref p.2.1)
theorem NdAt.same {P : Program} {w : World} {H H' : Hp} {a : Addr} {kvs : List NEnt} (s : ∀ a o, H a = some o → H' a = some o) (h : NdAt P w H a kvs) : NdAt P w H' a kvs :=
  ⟨s _ _ h.1, fun p hp => ⟨(h.2 p hp).1, (h.2 p hp).2.same s⟩⟩
def ndVal (kvs : List NEnt) (k : NestedKey) : Option V := (kvs.find? fun x => decide (x.1 = k)).map (·.2.2)
def ndPut (kvs : List NEnt) (k : NestedKey) (b : Addr) (v : V) : List NEnt := if (ndVal kvs k).isSome then kvs.map (fun x => if x.1 = k then (x.1, x.2.1, v) else x) else kvs ++ [(k, b, v)]
theorem ndPut_new {kvs : List NEnt} {k : NestedKey} {b : Addr} {v : V} (h : ndVal kvs k = none) : ndPut kvs k b v = kvs ++ [(k, b, v)] := by simp [ndPut, h]
theorem ndPut_len (kvs : List NEnt) (k : NestedKey) (b : Addr) (v : V) : (ndPut kvs k b v).length ≤ kvs.length + 1 := by
  unfold ndPut
  split
  · rw [List.length_map]
    omega
  · rw [List.length_append]
    exact Nat.le_refl _
theorem rel_val : ∀ {kvs : List NEnt} {xs : List (NestedKey × Addr × Value)}, Paired EntR kvs xs → ∀ k, RelO (ndVal kvs k) ((atKey xs k).map (·.2))
  | _, _, .nil, k => True.intro
  | _, _, .cons (a := p) (b := q) r t, k => by
    obtain ⟨e1, e2, e3⟩ := r
    have ih := rel_val t k
    unfold ndVal atKey at ih ⊢
    rw [List.find?_cons, List.find?_cons, e1]
    by_cases e : q.1 = k
    · rw [decide_eq_true e]
      exact e3
    · rw [decide_eq_false e]
      exact ih
theorem rel_some {kvs : List NEnt} {xs : List (NestedKey × Addr × Value)} (r : Paired EntR kvs xs) (k : NestedKey) : (ndVal kvs k).isSome = (atKey xs k).isSome := by
  have q := (rel_val r k).isSome_eq
  rw [Option.isSome_map] at q
  exact q
theorem rel_map {k : NestedKey} {v : V} {u : Value} (ru : RelV v u) : ∀ {kvs : List NEnt} {xs : List (NestedKey × Addr × Value)}, Paired EntR kvs xs →
    Paired EntR (kvs.map fun x => if x.1 = k then (x.1, x.2.1, v) else x) (xs.map (putAt k u))
  | _, _, .nil => .nil
  | _, _, .cons (a := p) (b := q) r t => by
    obtain ⟨e1, e2, e3⟩ := r
    refine .cons ?_ (rel_map ru t)
    unfold putAt
    dsimp only
    by_cases e : q.1 = k
    · rw [if_pos e, if_pos (e1.trans e)]
      exact ⟨e1, e2, ru⟩
    · rw [if_neg e, if_neg (fun z => e (e1.symm.trans z))]
      exact ⟨e1, e2, e3⟩
theorem paired_snoc {α β : Type} {F : α → β → Prop} {a : α} {b : β} (r : F a b) : ∀ {l : List α} {m : List β}, Paired F l m → Paired F (l ++ [a]) (m ++ [b])
  | _, _, .nil => .cons r .nil
  | _, _, .cons h t => .cons h (paired_snoc r t)
theorem rel_put {kvs : List NEnt} {xs : List (NestedKey × Addr × Value)} (r : Paired EntR kvs xs) (k : NestedKey) (b : Addr) {v : V} {u : Value} (ru : RelV v u) : Paired EntR (ndPut kvs k b v) (storedH xs k b u) := by
  unfold ndPut storedH
  rw [rel_some r k]
  split
  · exact rel_map ru r
  · exact paired_snoc ⟨rfl, rfl, ru⟩ r
section
variable {P : Program} {w : World} {H : Hp} {h : Heap} {a : Addr} {kvs : List NEnt}
theorem nd_of (ok : HOk P w H h) (e : NdAt P w H a kvs) : kvs.length ≤ sizeLine ∧ (a == sysModules) = false ∧ ∃ xs, Paired EntR kvs xs ∧ h.DictOfH (nestedKind P w) a xs := by
  obtain ⟨e1, e2⟩ := e
  obtain ⟨⟨z, y, xs, r, o, es, ep, h1, h2, h3, h4, h5⟩, _⟩ := (show ObjOk P w H h a (NdO P w a kvs) from ok a _ e1)
  refine ⟨z, y, xs, r, o, es, ep, h1, h2, h3, h4, fun x hx => ?_, h5⟩
  have all : ∀ {l : List NEnt} {m : List (NestedKey × Addr × Value)}, Paired EntR l m → (∀ p ∈ l, p.1.depth ≤ 8 ∧ KAt H p.1 (.ref p.2.1)) → ∀ x ∈ m, (nestedKind P w).is h x.1 x.2.1 := by
    intro l m q
    induction q with
    | nil => intro _ x hx; exact nomatch hx
    | @cons p q ps qs hq t ih =>
      intro hl x hx
      rcases List.mem_cons.mp hx with e | hx
      · subst e
        obtain ⟨d, k⟩ := hl p List.mem_cons_self
        refine ⟨is_of ok (by rw [← hq.1]; exact k) ?_, by rw [← hq.1]; exact d⟩
        show Value.ref x.2.1 = Value.ref p.2.1
        rw [hq.2.1]
      · exact ih (fun p hp => hl p (List.mem_cons_of_mem _ hp)) x hx
  exact all r e2 x hx
theorem nd_ok {H' : Hp} {h' : Heap} (z : kvs.length ≤ sizeLine) (y : (a == sysModules) = false) {xs : List (NestedKey × Addr × Value)} (r : Paired EntR kvs xs) (d : h'.DictOfH (nestedKind P w) a xs) : ObjOk P w H' h' a (NdO P w a kvs) := by
  obtain ⟨o, es, ep, h1, h2, h3, h4, _, h5⟩ := d
  refine ⟨⟨z, y, xs, r, o, es, ep, h1, h2, h3, h4, h5⟩, ⟨o, h1⟩, fun g1 g2 q k => ?_⟩
  obtain ⟨z, y, xs, r, o, es, ep, h1, h2, h3, h4, h5⟩ := q
  exact ⟨z, y, xs, r, o, es, ep, k _ h1, h2, h3, h4, h5⟩
theorem nd_ne_tup {b : Addr} {xs : List V} : HO.tup xs ≠ NdO P w b kvs := fun z => by
  have z' : HO.tup xs = HO.ext _ := z
  cases z'
end
section
variable {X : Cx} {pins : List (Addr × Obj)} {σ : L2.St} {H : Hp} {s : Shared} {a b : Addr} {k : NestedKey} {kvs : List NEnt} {v : V} {u r : Value} {A : Around} {E : Value → Shared → Prop}
theorem key_is (ok : HOk X.prog X.w H s.heap) (d : k.depth ≤ 8) (e : KAt H k (.ref b)) : (nestedKind X.prog X.w).is s.heap k b := ⟨is_of ok e rfl, d⟩
/-- d[k], there -/
theorem nd_getItem {Q : Value → Shared → Prop} (hu : A.units + 9 < cLine) (I : Inv X pins σ H s) (e : NdAt X.prog X.w H a kvs) (d : k.depth ≤ 8) (ek : KAt H k (.ref b)) (l : ndVal kvs k = some v)
    (h : ∀ w' s', Inv X pins σ H s' → RelV v w' → Q w' s') : wpAny (model X.prog X.w) A (getItem (.ref a) (.ref b)) Q E s := by
  obtain ⟨z, y, xs, rel, dd⟩ := nd_of I.hok e
  obtain ⟨w', hw, rw'⟩ := RelO.some_of (v := v) (o := (atKey xs k).map (·.2)) (by rw [← l]; exact rel_val rel k)
  obtain ⟨p, hp, hp2⟩ := Option.map_eq_some_iff.mp hw
  refine wpAny_getItem_heap (show A.units + 1 + 8 < cLine by omega) (key_is I.hok d ek) dd hp ?_
  rw [hp2]
  exact h w' _ (I.tok _) rw'
theorem nd_in {Q : Value → Shared → Prop} (hu : A.units + 9 < cLine) (I : Inv X pins σ H s) (e : NdAt X.prog X.w H a kvs) (d : k.depth ≤ 8) (ek : KAt H k (.ref b)) (h : ∀ s', Inv X pins σ H s' → Q (.bool (ndVal kvs k).isSome) s') :
    wpAny (model X.prog X.w) A (compareOp .In (.ref b) (.ref a)) Q E s := by
  obtain ⟨z, y, xs, rel, dd⟩ := nd_of I.hok e
  refine wpAny_in_heap (show A.units + 1 + 8 < cLine by omega) (key_is I.hok d ek) y dd ?_
  rw [← rel_some rel k]
  exact h _ (I.tok _)
theorem nd_notIn {Q : Value → Shared → Prop} (hu : A.units + 9 < cLine) (I : Inv X pins σ H s) (e : NdAt X.prog X.w H a kvs) (d : k.depth ≤ 8) (ek : KAt H k (.ref b)) (h : ∀ s', Inv X pins σ H s' → Q (.bool (!(ndVal kvs k).isSome)) s') :
    wpAny (model X.prog X.w) A (compareOp .NotIn (.ref b) (.ref a)) Q E s := by
  obtain ⟨z, y, xs, rel, dd⟩ := nd_of I.hok e
  refine wpAny_notIn_heap (show A.units + 1 + 8 < cLine by omega) (key_is I.hok d ek) y dd ?_
  rw [← rel_some rel k]
  exact h _ (I.tok _)
/-- d[k] = v -/
theorem nd_setItem {Q : Unit → Shared → Prop} (hu : A.units + 9 < cLine) (I : Inv X pins σ H s) (e : NdAt X.prog X.w H a kvs) (d : k.depth ≤ 8) (ek : KAt H k (.ref b)) (hl : kvs.length < sizeLine) (rv : RelV v r)
    (h : ∀ s', Inv X pins σ (upd H a (NdO X.prog X.w a (ndPut kvs k b v))) s' → Q () s') : wpAny (model X.prog X.w) A (setItem (.ref a) (.ref b) r) Q E s := by
  obtain ⟨z, y, xs, rel, dd⟩ := nd_of I.hok e
  have hz : xs.length ≤ sizeLine := by rw [← Paired.length rel]; exact z
  have hl2 : (ndPut kvs k b v).length ≤ sizeLine := by have := ndPut_len kvs k b v; omega
  refine wpAny_setItem_heap (hsz := hz) (show A.units + 1 + 8 < cLine by omega) (key_is I.hok d ek) dd fun h' dd' hs => h _ ?_
  have he : ∃ q, h'.get? a = some q := let ⟨q, _, _, hq, _⟩ := dd'; ⟨q, hq⟩
  exact d_write I (by rw [e.1]; exact True.intro) hs he (nd_ok hl2 y (rel_put rel k b rv) dd')
/-- what stands behind d[k] = v -/
theorem NdAt.put {P : Program} {w : World} {H : Hp} (e : NdAt P w H a kvs) (d : k.depth ≤ 8) (ek : KAt H k (.ref b)) : NdAt P w (upd H a (NdO P w a (ndPut kvs k b v))) a (ndPut kvs k b v) := by
  refine ⟨upd_same, fun p hp => ?_⟩
  have tk : ∀ {q : NestedKey} {z : V}, KAt H q z → KAt (upd H a (NdO P w a (ndPut kvs k b v))) q z := fun h => h.tups fun c ys ec => by
    rw [upd_ne (ne_of ec e.1 nd_ne_tup)]
    exact ec
  unfold ndPut at hp
  split at hp
  · obtain ⟨x, hx, rfl⟩ := List.mem_map.mp hp
    obtain ⟨h1, h2⟩ := e.2 x hx
    split
    · exact ⟨h1, tk h2⟩
    · exact ⟨h1, tk h2⟩
  · rcases List.mem_append.mp hp with hp | hp
    · exact ⟨(e.2 p hp).1, tk (e.2 p hp).2⟩
    · rw [List.mem_singleton.mp hp]
      exact ⟨d, tk ek⟩
end
/-! ### readings and rules -/
theorem hu9 {k : Nat} {A : Around} (hr : Room k A) : A.units + 9 < cLine := by
  have := hr.units
  omega
def tNGet (P : Program) (w : World) (td ty : TE) : TE := fun σ H Q => td σ H fun x H1 => ty σ H1 fun y H2 => ∃ (a b : Addr) (kvs : List NEnt) (k : NestedKey) (v : V), x = .ref a ∧ y = .ref b ∧ NdAt P w H2 a kvs ∧ k.depth ≤ 8 ∧ KAt H2 k (.ref b) ∧ ndVal kvs k = some v ∧ Q v H2
def tNIn (P : Program) (w : World) (ty td : TE) : TE := fun σ H Q => ty σ H fun y H1 => td σ H1 fun x H2 => ∃ (a b : Addr) (kvs : List NEnt) (k : NestedKey), x = .ref a ∧ y = .ref b ∧ NdAt P w H2 a kvs ∧ k.depth ≤ 8 ∧ KAt H2 k (.ref b) ∧ Q (.bl (ndVal kvs k).isSome) H2
def tNNotIn (P : Program) (w : World) (ty td : TE) : TE := fun σ H Q => ty σ H fun y H1 => td σ H1 fun x H2 => ∃ (a b : Addr) (kvs : List NEnt) (k : NestedKey), x = .ref a ∧ y = .ref b ∧ NdAt P w H2 a kvs ∧ k.depth ≤ 8 ∧ KAt H2 k (.ref b) ∧ Q (.bl (!(ndVal kvs k).isSome)) H2
def sNPut (P : Program) (w : World) (td ty tv : TE) : TS := fun D σ H => tv σ H fun v H1 => td σ H1 fun x H2 => ty σ H2 fun y H3 => ∃ (a b : Addr) (kvs : List NEnt) (k : NestedKey), x = .ref a ∧ y = .ref b ∧ NdAt P w H3 a kvs ∧ k.depth ≤ 8 ∧ KAt H3 k (.ref b) ∧ kvs.length < sizeLine ∧ D.nx σ (upd H3 a (NdO P w a (ndPut kvs k b v)))
def tNNew (P : Program) (w : World) : TE := fun _ H Q => ∀ p, H p = none → Q (.ref p) (upd H p (NdO P w p []))
section
variable {X : Cx} {o i value : Expr} {pos pos' : Pos} {td ty tv : TE}
theorem nd_typeIs {pins : List (Addr × Obj)} {σ : L2.St} {H : Hp} {s : Shared} {a : Addr} {kvs : List NEnt} (I : Inv X pins σ H s) (e : NdAt X.prog X.w H a kvs) : s.TypeIs (.ref a) "dict" := by
  obtain ⟨_, _, xs, _, dd⟩ := nd_of I.hok e
  exact dd.typeIs
theorem pe_nget (hu : X.A.units + 9 < cLine) (ho : PE X o td) (hi : PE X i ty) (hs : NoSl i) : PE X (.Subscript o i pos) (tNGet X.prog X.w td ty) := by
  refine ⟨fun pins s σ H Q I h => ?_⟩
  refine subD_of PySem.F.slot_dict_getitem.lookup hs (thn (ho.run pins s σ H _ I h) fun u s1 ⟨x, H1, I1, rx, q1⟩ => thn (hi.run pins s1 σ H1 _ I1 q1) fun iv s2 ⟨y, H2, I2, ry, a, b, kvs, k, v, ex, ey, e, d, ek, l, q2⟩ => ?_)
  subst ex ey
  obtain rfl : u = Value.ref a := rx
  obtain rfl : iv = Value.ref b := ry
  exact ⟨nd_typeIs I2 e, nd_getItem hu I2 e d ek l fun w' s3 I3 rw' => ⟨v, H2, I3, rw', q2⟩⟩
theorem pc_nin (hu : X.A.units + 9 < cLine) (hi : PE X i ty) (ho : PE X o td) : PC X .In i o (tNIn X.prog X.w ty td) := by
  refine ⟨fun pins s σ H Q I h => ?_⟩
  refine thn (hi.run pins s σ H _ I h) fun iv s1 ⟨y, H1, I1, ry, q1⟩ => thn (ho.run pins s1 σ H1 _ I1 q1) fun u s2 ⟨x, H2, I2, rx, a, b, kvs, k, ex, ey, e, d, ek, q2⟩ => ?_
  subst ex ey
  obtain rfl : u = Value.ref a := rx
  obtain rfl : iv = Value.ref b := ry
  exact nd_in hu I2 e d ek fun s3 I3 => ⟨.bl (ndVal kvs k).isSome, H2, I3, rfl, q2⟩
theorem pc_nnotin (hu : X.A.units + 9 < cLine) (hi : PE X i ty) (ho : PE X o td) : PC X .NotIn i o (tNNotIn X.prog X.w ty td) := by
  refine ⟨fun pins s σ H Q I h => ?_⟩
  refine thn (hi.run pins s σ H _ I h) fun iv s1 ⟨y, H1, I1, ry, q1⟩ => thn (ho.run pins s1 σ H1 _ I1 q1) fun u s2 ⟨x, H2, I2, rx, a, b, kvs, k, ex, ey, e, d, ek, q2⟩ => ?_
  subst ex ey
  obtain rfl : u = Value.ref a := rx
  obtain rfl : iv = Value.ref b := ry
  exact nd_notIn hu I2 e d ek fun s3 I3 => ⟨.bl (!(ndVal kvs k).isSome), H2, I3, rfl, q2⟩
theorem ps_nput (hu : X.A.units + 9 < cLine) (ho : PE X o td) (hi : PE X i ty) (hv : PE X value tv) (hs : swapsWith value (some (.Subscript o i pos')) pos.line X.env = pure false) :
    PS X (.Assign [.Subscript o i pos'] value pos) (sNPut X.prog X.w td ty tv) := by
  refine ⟨fun pins s σ H D I h => ?_⟩
  refine wpAny_Assign_Subscript (thn (hv.run pins s σ H _ I h) fun r s1 ⟨v, H1, I1, rv, q1⟩ => thn (ho.run pins s1 σ H1 _ I1 q1) fun u s2 ⟨x, H2, I2, rx, q2⟩ => thn (hi.run pins s2 σ H2 _ I2 q2) fun iv s3 ⟨y, H3, I3, ry, a, b, kvs, k, ex, ey, e, d, ek, hl, q3⟩ => ?_) hs
  subst ex ey
  obtain rfl : u = Value.ref a := rx
  obtain rfl : iv = Value.ref b := ry
  exact nd_setItem hu I3 e d ek hl rv fun s4 I4 => ⟨σ, _, I4, q3⟩
theorem nd_empty {P : Program} {w : World} {H : Hp} (h : Heap) (hb : sysModules < h.objs.size) : ObjOk P w H (h.push { cls := .type "dict", data := .dict #[] }) h.objs.size (NdO P w h.objs.size []) :=
  nd_ok (Nat.zero_le _) (beq_eq_false_iff_ne.mpr (Ne.symm (Nat.ne_of_lt hb))) .nil (Heap.DictOfH.new h)
theorem pe_nnew : PE X (.Dict [] [] pos) (tNNew X.prog X.w) := ⟨fun pins s σ H Q I h =>
  wpAny_Dict_empty ⟨.ref s.heap.objs.size, _, I.laid (a := s.heap.objs.size) (o := NdO X.prog X.w s.heap.objs.size []) (t' := s.toks) (fun _ _ q => Heap.get?_push_of_some _ q) (Nat.le_refl _) (nd_empty s.heap I.big), rfl, h _ (I.hok.fresh (Nat.le_refl _))⟩⟩
end
end ND

set_option Elab.async false
set_option linter.all false
set_option maxRecDepth 100000
set_option maxHeartbeats 2000000
namespace Own
open PySem PySem.Spec PyProof.Rows L2
open C8 (Cal Mak Met pe_c pe_mk pe_mt pe_mt0 Def fnArgs fnBody fnScope fn0 fnScope_by)

/-! ### max(ints, default=0) -/
def rMaxD (K : PySem.W.Frag) : List V → List V → Hp → VK → Prop := fun vs zs H Q => ∃ (a : Addr) (ns : List Int), vs = [V.ref a] ∧ zs = [V.int 0] ∧ SqL K H a (ns.map V.int) ∧ (ns = [] → Q (.int 0) H) ∧ ∀ n r, ns = n :: r → Q (.int (r.foldl max n)) H
theorem dpAll_ints {K : PySem.W.Frag} {H : Hp} : ∀ ns : List Int, DpAll K H (ns.map V.int) (ns.map PyData.int)
  | [] => .nil
  | n :: r => .cons (.int n) (dpAll_ints r)
theorem depth_ints : ∀ ns : List Int, PyData.depthAll (ns.map PyData.int) = 0
  | [] => rfl
  | n :: r => by
    show max (PyData.depth (.int n)) (PyData.depthAll (r.map PyData.int)) = 0
    rw [depth_ints r]
    rfl
theorem cr_maxD {X : Cx} (hc : X.calm = true) (hu : X.A.units + 64 < cLine) : CallRK X (.builtin "max") [Str.ofString "default"] (rMaxD X.K) := by
  intro pins s σ H vs zs us ws Q I r rz h
  obtain ⟨a, ns, rfl, rfl, hs, q0, q1⟩ := h
  match us, r, ws, rz with
  | [u], .cons ra .nil, [d], .cons rd .nil =>
    cases (show u = Value.ref a from ra)
    obtain ⟨t, rfl⟩ := (show ∃ t, d = Value.int 0 t from rd)
    obtain ⟨its, rv, hl, hz⟩ := I.list hs
    obtain ⟨as, hr⟩ := Dp.readsAll I (ns.map PyData.int) _ its (dpAll_ints ns) rv
    refine PySem.W.max_list_default (I.ok.hd hc) hl.isList (by simpa using hr) ?_ (by rw [depth_ints]; omega) (fun e h' tk hk => ?_) (fun y ys i v h' tk bs e hi hv hk => ?_)
    · refine ⟨fun x hx y hy => ?_, fun x hx => ?_⟩
      · obtain ⟨i, _, rfl⟩ := List.mem_map.mp hx
        obtain ⟨j, _, rfl⟩ := List.mem_map.mp hy
        rfl
      · obtain ⟨i, _, rfl⟩ := List.mem_map.mp hx
        intro e
        cases e
    · have e0 : ns = [] := by cases ns <;> first | rfl | cases e
      exact ⟨.int 0, H, I.kept (t' := tk) hk, ⟨_, rfl⟩, q0 e0⟩
    · cases ns with
      | nil => cases e
      | cons n r0 =>
        rw [List.map_cons] at e
        injection e with e1 e2
        subst e1 e2
        rw [PySem.W.maxD_ints] at hv
        cases hv
        exact ⟨.int (r0.foldl max n), H, I.kept (t' := tk) hk, ⟨_, rfl⟩, q1 n r0 rfl⟩

/-! ### pairs of a pattern and a bit -/
abbrev Stf := List Bool × Bool
def PairAt (H : Hp) (v : V) (p : Stf) : Prop := ∃ t, v = V.ref t ∧ H t = some (.tup [.str (WS p.1), .str (WS [p.2])])
def Pairs (H : Hp) : List V → List Stf → Prop
  | [], [] => True
  | v :: vs, p :: ps => PairAt H v p ∧ Pairs H vs ps
  | _, _ => False
theorem PairAt.kp {H H' : Hp} {v : V} {p : Stf} (k : Kp H H') (h : PairAt H v p) : PairAt H' v p := by
  obtain ⟨t, e, h⟩ := h
  exact ⟨t, e, k _ _ h trivial⟩
theorem Pairs.kp {H H' : Hp} (k : Kp H H') : ∀ {vs : List V} {ps : List Stf}, Pairs H vs ps → Pairs H' vs ps
  | [], [], _ => trivial
  | _ :: _, _ :: _, h => ⟨h.1.kp k, Pairs.kp k h.2⟩
  | [], _ :: _, h => h.elim
  | _ :: _, [], h => h.elim
theorem Pairs.len {H : Hp} : ∀ {vs : List V} {ps : List Stf}, Pairs H vs ps → vs.length = ps.length
  | [], [], _ => rfl
  | _ :: _, _ :: _, h => congrArg Nat.succ (Pairs.len h.2)
  | [], _ :: _, h => h.elim
  | _ :: _, [], h => h.elim
theorem Pairs.get {H : Hp} : ∀ {vs : List V} {ps : List Stf} {i : Nat} {v : V}, Pairs H vs ps → vs[i]? = some v → ∃ p, ps[i]? = some p ∧ PairAt H v p
  | v :: vs, p :: ps, 0, _, h, e => ⟨p, rfl, by cases e; exact h.1⟩
  | v :: vs, p :: ps, i + 1, _, h, e => Pairs.get (i := i) h.2 e
  | [], _, _, _, _, e => by cases e
  | _ :: _, [], _, _, h, _ => h.elim
/-- the data of a pair -/
def encP (p : Stf) : PyData := .tuple [.str (WS p.1), .str (WS [p.2])]
/-- the order of the pairs, as sorted has it -/
def sortP (ps : List Stf) : List Stf := ps.mergeSort (PySem.W.dataLe false encP)
theorem dp_pair {K : PySem.W.Frag} {H : Hp} {v : V} {p : Stf} (h : PairAt H v p) : Dp K H v (encP p) := by
  obtain ⟨t, rfl, h⟩ := h
  exact .tup (.inl (.inl h)) (.cons (.str _) (.cons (.str _) .nil))
theorem dpAll_pairs {K : PySem.W.Frag} {H : Hp} : ∀ {vs : List V} {ps : List Stf}, Pairs H vs ps → DpAll K H vs (ps.map encP)
  | [], [], _ => .nil
  | _ :: _, _ :: _, h => .cons (dp_pair h.1) (dpAll_pairs h.2)
  | [], _ :: _, h => h.elim
  | _ :: _, [], h => h.elim
def rSortedP (K : PySem.W.Frag) : List V → Hp → VK → Prop := fun xs H Q => ∃ (l : Addr) (vs : List V) (ps : List Stf), xs = [V.ref l] ∧ SqL K H l vs ∧ Pairs H vs ps ∧ ∀ q vs', H q = none → Pairs H vs' (sortP ps) → Q (.ref q) (upd H q (.lst vs'))
theorem pairs_of {X : Cx} {H : Hp} : ∀ {out : List Value} {ps : List Stf}, PySem.W.EachIs (fun v p => ∃ t, v = Value.ref t ∧ H t = some (.tup [.str (WS p.1), .str (WS [p.2])])) out ps → ∃ vs', Vals vs' out ∧ Pairs H vs' ps
  | _, _, .nil => ⟨[], .nil, trivial⟩
  | _, _, .cons ⟨t, e, h⟩ r => by
    obtain ⟨vs, h1, h2⟩ := pairs_of (X := X) r
    exact ⟨V.ref t :: vs, .cons e h1, ⟨t, rfl, h⟩, h2⟩
theorem each_of {H : Hp} : ∀ {vs : List V} {ps : List Stf} {us : List Value}, Pairs H vs ps → Vals vs us → PySem.W.EachIs (fun v p => ∃ t, v = Value.ref t ∧ H t = some (.tup [.str (WS p.1), .str (WS [p.2])])) us ps
  | [], [], _, _, .nil => .nil
  | _ :: _, _ :: _, _, h, .cons r rs => by
    obtain ⟨⟨t, e, h1⟩, h2⟩ := h
    subst e
    exact .cons ⟨t, r, h1⟩ (each_of h2 rs)
  | [], _ :: _, _, h, _ => h.elim
  | _ :: _, [], _, h, _ => h.elim
theorem cr_sortedP {X : Cx} (hu : X.A.units + 64 < cLine) : CallR X (.builtin "sorted") (rSortedP X.K) := by
  intro pins s σ H xs us Q I r h
  obtain ⟨l, vs, ps, rfl, hs, hp, q⟩ := h
  match us, r with
  | [u], .cons ra .nil =>
    cases (show u = Value.ref l from ra)
    obtain ⟨its, rv, hl, hz⟩ := I.list hs
    obtain ⟨as, hr⟩ := Dp.readsAll I (ps.map encP) _ its (dpAll_pairs hp) rv
    refine PySem.W.sorted_data (enc := encP) (bs := ps) hl.isList (each_of hp rv) (PySem.W.readsAll_each encP hr) ?_ ?_ (by rw [← hp.len]; exact hz) (fun b hb => ?_) (fun out ho eo => ?_)
    · exact PySem.W.AllAlike.of fun b b' => rfl
    · exact .inl fun d hd => by
        obtain ⟨p, _, rfl⟩ := List.mem_map.mp hd
        exact ⟨_, _, rfl⟩
    · have : (encP b).depth = 1 := rfl
      rw [this]
      omega
    · obtain ⟨vs', rv', hp'⟩ := pairs_of (X := X) eo
      obtain ⟨ep, he'⟩ := PyProof.Rows.sortedAll_at s.heap its out.toArray
      have hlen : vs'.length ≤ sizeLine := by
        rw [rv'.length, ho, ← hp.len]
        exact hz
      exact ⟨.ref _, upd H (s.heap.objs.size + 1) (.lst vs'), I.laid (t' := s.toks) (fun _ _ => PyProof.Rows.sortedAll_old) (Nat.le_succ _) ⟨hlen, _, ep, rv', he'⟩, rfl, q _ _ (I.hok.fresh (Nat.le_succ _)) hp'⟩
end Own
namespace Own
open PySem PySem.Spec PyProof.Rows L2
/-! ### what a rule is -/
/-- no other pattern is an end of the i-th one -/
def partedAt (ws : List (List Bool)) (i : Nat) : Bool := (ws.take i ++ ws.drop (i + 1)).all fun o => !(decide (o <:+ ws.getD i []))
/-- the patterns go together: no pattern ends with another one, none occurs twice -/
def partedB (ws : List (List Bool)) : Bool := (List.range ws.length).all (partedAt ws)
/-- the bit behind a line -/
def putL (ps : List Stf) (line : List Bool) : Option Bool := (ps.find? fun p => decide (p.1 <:+ line)).map (·.2)
def longL (ps : List Stf) : Nat := (ps.map fun p => p.1.length).foldl max 0
/-- the line behind a line where a bit is put in -/
def nextL (ps : List Stf) (line : List Bool) (b : Bool) : List Bool := (line ++ [b]).drop ((line ++ [b]).length - longL ps)
/-- bits are put in behind this line n times, then no more -/
def endsIn (ps : List Stf) : Nat → List Bool → Bool
  | 0, line => (putL ps line).isNone
  | n + 1, line => match putL ps line with
    | none => true
    | some b => endsIn ps n (nextL ps line b)
def endsAll (ps : List Stf) : Bool := ps.all fun p => endsIn ps 40 p.1
structure RuleOk (ps : List Stf) : Prop where
  ne : ∀ p ∈ ps, p.1 ≠ []
  len : ∀ p ∈ ps, p.1.length ≤ 20
  few : ps.length ≤ 8
  parted : partedB (ps.map (·.1)) = true
  ends : endsAll ps = true
/-! ### promises -/
def spIsBit : Sp := fun vs H Q _ => ∃ z : List Bool, vs = [.str (WS z)] ∧ z.length ≤ 1000 ∧ ∀ H', Same H H' → Q (.bl (decide (z.length = 1))) H'
def spIsStuff : Sp := fun vs H Q _ => ∃ (v : V) (p : Stf), vs = [v] ∧ PairAt H v p ∧ p.1 ≠ [] ∧ p.1.length ≤ 900 ∧ ∀ H', Same H H' → Q (.bl true) H'
def spOneEnds : Sp := fun vs H Q _ => ∃ (l : Addr) (ws : List (List Bool)), vs = [.ref l] ∧ H l = some (.lst (strV ws)) ∧ ws.length ≤ 100 ∧ ∀ H', Same H H' → Q (.bl (!partedB ws)) H'
/-- a list or a tuple, wherever it stands -/
def SqK (K : PySem.W.Frag) (o : Bool) (H : Hp) (l : Addr) (xs : List V) : Prop := if o = true then SqL K H l xs else SqT K H l xs
theorem SqK.same {K : PySem.W.Frag} {o : Bool} {H H' : Hp} {l : Addr} {xs : List V} (h : SqK K o H l xs) (s : Same H H') : SqK K o H' l xs := by
  cases o with
  | true => exact s.seq (show SqL K H l xs from h)
  | false => exact Evl.ex_t s (show SqT K H l xs from h)
theorem SqK.l {K : PySem.W.Frag} {H : Hp} {l : Addr} {xs : List V} (h : H l = some (.lst xs)) : SqK K true H l xs := show SqL K H l xs from .inl (.inl h)
theorem SqK.t {K : PySem.W.Frag} {H : Hp} {l : Addr} {xs : List V} (h : H l = some (.tup xs)) : SqK K false H l xs := show SqT K H l xs from .inl (.inl h)
theorem SqK.ins {K : PySem.W.Frag} {o : Bool} {H : Hp} {l p C dx : Addr} {g : List (Str × V)} {u : HO} {xs : List V} (h : SqK K o H l xs) (hp : H p = some (.ins C dx g)) : SqK K o (upd H p u) l xs := by
  cases o with
  | true =>
    rcases (show SqL K H l xs from h) with (h | ⟨o, h⟩) | h
    · exact show SqL _ _ _ _ from .inl (.inl (by rw [upd_ne (fun e => by rw [e, hp] at h; cases h)]; exact h))
    · exact show SqL _ _ _ _ from .inl (.inr ⟨o, by rw [upd_ne (fun e => by rw [e, hp] at h; cases h)]; exact h⟩)
    · exact show SqL _ _ _ _ from .inr h
  | false =>
    rcases (show SqT K H l xs from h) with (h | ⟨o, h⟩) | h
    · exact show SqT _ _ _ _ from .inl (.inl (by rw [upd_ne (fun e => by rw [e, hp] at h; cases h)]; exact h))
    · exact show SqT _ _ _ _ from .inl (.inr ⟨o, by rw [upd_ne (fun e => by rw [e, hp] at h; cases h)]; exact h⟩)
    · exact show SqT _ _ _ _ from .inr h
theorem SqK.ty {K : PySem.W.Frag} {o : Bool} {H : Hp} {l : Addr} {xs : List V} (h : SqK K o H l xs) : ∃ t : Value, TyX K H (.ref l) t ∧ PySem.W.kitAny K t [.type "list", .type "tuple"] = some true := by
  cases o with
  | true =>
    rcases (show SqL K H l xs from h) with (h | ⟨o, h⟩) | ⟨o, its, n, h1, h2, h3⟩
    · exact ⟨_, .base (.lst h), rfl⟩
    · exact ⟨_, .base (.frz h), rfl⟩
    · exact ⟨_, .kList h1 h2, rfl⟩
  | false =>
    rcases (show SqT K H l xs from h) with (h | ⟨o, h⟩) | ⟨o, its, n, h1, h2, h3⟩
    · exact ⟨_, .base (.tup h), rfl⟩
    · exact ⟨_, .fTuple h, rfl⟩
    · exact ⟨_, .kTuple h1 h2, rfl⟩
def spStuffs (K : PySem.W.Frag) : Sp := fun vs H Q _ => ∃ (l : Addr) (o : Bool) (xs : List V) (ps : List Stf), vs = [.ref l] ∧ SqK K o H l xs ∧ Pairs H xs ps ∧ RuleOk ps ∧ ∀ H', Same H H' → Q (.bl true) H'
def spLongest (K : PySem.W.Frag) : Sp := fun vs H Q _ => ∃ (l : Addr) (o : Bool) (xs : List V) (ps : List Stf), vs = [.ref l] ∧ SqK K o H l xs ∧ Pairs H xs ps ∧ ps.length ≤ 100 ∧ (∀ p ∈ ps, p.1.length ≤ 900) ∧ ∀ H', Same H H' → Q (.int (longL ps)) H'
def oB : Option Bool → V
  | none => .non
  | some b => .str (WS [b])
def spBehind (K : PySem.W.Frag) : Sp := fun vs H Q _ => ∃ (l : Addr) (o : Bool) (xs : List V) (ps : List Stf) (line : List Bool), vs = [.ref l, .str (WS line)] ∧ SqK K o H l xs ∧ Pairs H xs ps ∧ ∀ H', Same H H' → Q (oB (putL ps line)) H'
def spNever (K : PySem.W.Frag) : Sp := fun vs H Q _ => ∃ (l : Addr) (o : Bool) (xs : List V) (ps : List Stf) (line : List Bool), vs = [.ref l, .str (WS line)] ∧ SqK K o H l xs ∧ Pairs H xs ps ∧ RuleOk ps ∧ line.length ≤ 900 ∧ endsIn ps 40 line = true ∧ ∀ H', Same H H' → Q (.bl false) H'
def spEndless (K : PySem.W.Frag) : Sp := fun vs H Q _ => ∃ (l : Addr) (o : Bool) (xs : List V) (ps : List Stf), vs = [.ref l] ∧ SqK K o H l xs ∧ Pairs H xs ps ∧ RuleOk ps ∧ ∀ H', Same H H' → Q (.bl false) H'
/-- a list or a tuple in slot i, walked -/
def iSeqV (K : PySem.W.Frag) (i : Nat) : TI := fun σ H R => ∃ (a : Addr) (o : Bool) (xs : List V), σ[i]? = some (some (.ref a)) ∧ SqK K o H a xs ∧ ∀ J : It, Walk J xs.length (fun H' => SqK K o H' a xs) (YAt xs) → R J H
theorem pi_seq {X : Cx} {tg e : Expr} {i : Nat} (h1 : PI X tg e (iList X.K (tVar i))) (h2 : PI X tg e (iTup X.K (tVar i))) : PI X tg e (iSeqV X.K i) := by
  constructor
  rintro pins s σ H R I ⟨a, o, xs, hσ, ho, k⟩
  cases o with
  | true => exact h1.run pins s σ H R I ⟨_, hσ, a, rfl, ⟨xs, ho⟩, k _ (walk_list.mono (fun H' h => h) fun _ _ _ _ _ _ y => y)⟩
  | false => exact h2.run pins s σ H R I ⟨_, hσ, a, rfl, ⟨xs, ho⟩, k _ (walk_tup.mono (fun H' h => h) fun _ _ _ _ _ _ y => y)⟩
end Own

namespace Own
open PySem PySem.Spec PyProof.Rows L2
theorem putL_none {ps : List Stf} {line : List Bool} (h : ∀ p ∈ ps, ¬ p.1 <:+ line) : putL ps line = none := by
  unfold putL
  rw [List.find?_eq_none.mpr fun p hp => by rw [decide_eq_true_eq]; exact h p hp]
  rfl
theorem putL_at {ps : List Stf} {line : List Bool} {i : Nat} {p : Stf} (hi : ps[i]? = some p) (hp : p.1 <:+ line) (h : ∀ j q, j < i → ps[j]? = some q → ¬ q.1 <:+ line) : putL ps line = some p.2 := by
  unfold putL
  induction ps generalizing i with
  | nil => simp at hi
  | cons x r ih =>
    cases i with
    | zero =>
      cases hi
      simp only [List.find?_cons, decide_eq_true hp]
      rfl
    | succ i =>
      have h0 : ¬ x.1 <:+ line := h 0 x (by omega) rfl
      simp only [List.find?_cons, decide_eq_false h0]
      exact ih (i := i) hi fun j q hj e => h (j + 1) q (by omega) e
theorem cut_neg (w : List Bool) {n : Nat} (h : 0 < n) : cutS (WS w) (some (-(n : Int))) none = WS (w.drop (w.length - n)) := by
  have hl : (WS w).length = w.length := WS_len w
  unfold cutS WS
  rw [show (SX.S (w.map cd)).length = w.length from hl, HT.sIx_none]
  have e : HT.sIx w.length 0 (some (-(n : Int))) = w.length - n := by
    show (if (-(n : Int)) < 0 then ((-(n : Int)) + (w.length : Int)).toNat else min (-(n : Int)).toNat w.length) = w.length - n
    rw [if_pos (by omega)]
    omega
  rw [e]
  show (⟨_⟩ : Str) = ⟨_⟩
  congr 1
  rw [List.take_of_length_le]
  · rw [List.map_drop]
  · rw [List.length_drop]
    show (w.map cd).length - _ ≤ _
    rw [List.length_map]
    exact Nat.le_refl _
end Own

namespace Own
open PySem PySem.Spec PyProof.Rows L2
theorem cutV_to (xs : List V) {n : Nat} : cutV xs none (some (n : Int)) = xs.take n := by
  unfold cutV
  rw [HT.sIx_none, show HT.sIx xs.length xs.length (some (n : Int)) = min n xs.length from HT.sIx_nat xs.length xs.length n, List.drop_zero, Nat.sub_zero]
  by_cases h : n ≤ xs.length
  · rw [Nat.min_eq_left h]
  · rw [Nat.min_eq_right (by omega), List.take_length, List.take_of_length_le (by omega)]
theorem strV_take (ws : List (List Bool)) (n : Nat) : (strV ws).take n = strV (ws.take n) := by unfold strV; rw [List.map_take]
theorem strV_drop (ws : List (List Bool)) (n : Nat) : (strV ws).drop n = strV (ws.drop n) := by unfold strV; rw [List.map_drop]
theorem strV_get {ws : List (List Bool)} {i : Nat} {x : V} (h : (strV ws)[i]? = some x) : ∃ w, ws[i]? = some w ∧ x = .str (WS w) := by
  unfold strV at h
  rw [List.getElem?_map] at h
  obtain ⟨w, hw, e⟩ := Option.map_eq_some_iff.mp h
  exact ⟨w, hw, e.symm⟩
theorem all_take_succ {α : Type} {f : α → Bool} {l : List α} {i : Nat} {x : α} (hx : l[i]? = some x) (h : (l.take i).all f = true) (hf : f x = true) : (l.take (i + 1)).all f = true := by
  rw [List.take_add_one, hx, List.all_append, h]
  show (true && (f x && true)) = true
  rw [hf]
  rfl
theorem all_not {α : Type} {f : α → Bool} {l : List α} {i : Nat} {x : α} (hx : l[i]? = some x) (hf : f x = false) : l.all f = false := by
  rw [List.all_eq_false]
  exact ⟨x, List.mem_of_getElem? hx, by rw [hf]; decide⟩
end Own
namespace Own
open PySem PySem.Spec PyProof.Rows L2
/-! ### where bits are put in no more -/
/-- exactly n bits are put in behind this line -/
def endsAt (ps : List Stf) : Nat → List Bool → Prop
  | 0, u => putL ps u = none
  | n + 1, u => ∃ b, putL ps u = some b ∧ endsAt ps n (nextL ps u b)
theorem endsAt_of : ∀ {n : Nat} {ps : List Stf} {u : List Bool}, endsIn ps n u = true → ∃ m, m ≤ n ∧ endsAt ps m u
  | 0, ps, u, h => ⟨0, Nat.le_refl _, by
      unfold endsIn at h
      exact Option.isNone_iff_eq_none.mp h⟩
  | n + 1, ps, u, h => by
    unfold endsIn at h
    cases e : putL ps u with
    | none => exact ⟨0, Nat.zero_le _, e⟩
    | some b =>
      rw [e] at h
      obtain ⟨m, hm, h2⟩ := endsAt_of h
      exact ⟨m + 1, Nat.succ_le_succ hm, b, e, h2⟩
theorem endsAt_one : ∀ {n m : Nat} {ps : List Stf} {u : List Bool}, endsAt ps n u → endsAt ps m u → n = m
  | 0, 0, _, _, _, _ => rfl
  | 0, m + 1, _, _, h, ⟨b, e, _⟩ => by rw [show putL _ _ = none from h] at e; cases e
  | n + 1, 0, _, _, ⟨b, e, _⟩, h => by rw [show putL _ _ = none from h] at e; cases e
  | n + 1, m + 1, _, _, ⟨b, e, h1⟩, ⟨c, e2, h2⟩ => by
    rw [e] at e2
    cases e2
    rw [endsAt_one h1 h2]
theorem foldl_max_le : ∀ (l : List Nat) (a m : Nat), a ≤ m → (∀ x ∈ l, x ≤ m) → l.foldl max a ≤ m
  | [], a, m, h, _ => h
  | x :: r, a, m, h, k => by
    rw [List.foldl_cons]
    exact foldl_max_le r _ m (Nat.max_le.mpr ⟨h, k x List.mem_cons_self⟩) fun y hy => k y (List.mem_cons_of_mem _ hy)
theorem le_foldl_max : ∀ (l : List Nat) (a : Nat), a ≤ l.foldl max a ∧ ∀ x ∈ l, x ≤ l.foldl max a
  | [], a => ⟨Nat.le_refl _, fun x h => by cases h⟩
  | y :: r, a => by
    obtain ⟨h1, h2⟩ := le_foldl_max r (max a y)
    rw [List.foldl_cons]
    refine ⟨Nat.le_trans (Nat.le_max_left _ _) h1, fun x hx => ?_⟩
    rcases List.mem_cons.mp hx with rfl | hx
    · exact Nat.le_trans (Nat.le_max_right _ _) h1
    · exact h2 x hx
theorem longL_le {ps : List Stf} {m : Nat} (h : ∀ p ∈ ps, p.1.length ≤ m) : longL ps ≤ m :=
  foldl_max_le _ _ _ (Nat.zero_le _) fun x hx => by
    obtain ⟨p, hp, rfl⟩ := List.mem_map.mp hx
    exact h p hp
theorem le_longL {ps : List Stf} {p : Stf} (h : p ∈ ps) : p.1.length ≤ longL ps := (le_foldl_max _ _).2 _ (List.mem_map.mpr ⟨p, h, rfl⟩)
theorem putL_some {ps : List Stf} {u : List Bool} {b : Bool} (h : putL ps u = some b) : ∃ p ∈ ps, p.1 <:+ u ∧ p.2 = b := by
  unfold putL at h
  obtain ⟨p, hp, e⟩ := Option.map_eq_some_iff.mp h
  have h1 : (fun p : Stf => decide (p.1 <:+ u)) p = true := List.find?_some (p := fun p : Stf => decide (p.1 <:+ u)) hp
  exact ⟨p, List.mem_of_find?_eq_some hp, of_decide_eq_true h1, e⟩
theorem longL_pos {ps : List Stf} {u : List Bool} {b : Bool} (ok : ∀ p ∈ ps, p.1 ≠ []) (h : putL ps u = some b) : 0 < longL ps := by
  obtain ⟨p, hp, _⟩ := putL_some h
  exact Nat.lt_of_lt_of_le (List.length_pos_iff.mpr (ok p hp)) (le_longL hp)
theorem nextL_len (ps : List Stf) (u : List Bool) (b : Bool) : (nextL ps u b).length ≤ longL ps := by
  unfold nextL
  rw [List.length_drop]
  omega
/-! ### one pattern at most -/
theorem parted_ne {ws : List (List Bool)} (h : partedB ws = true) {i j : Nat} {a b : List Bool} (hi : ws[i]? = some a) (hj : ws[j]? = some b) (hn : i ≠ j) : ¬ b <:+ a := by
  intro hs
  have hil : i < ws.length := (List.getElem?_eq_some_iff.mp hi).1
  have h1 := List.all_eq_true.mp h i (List.mem_range.mpr hil)
  unfold partedAt at h1
  have hg : ws.getD i [] = a := by rw [List.getD_eq_getElem?_getD, hi]; rfl
  rw [hg] at h1
  have hm : b ∈ ws.take i ++ ws.drop (i + 1) := by
    rw [List.mem_append]
    by_cases hlt : j < i
    · exact .inl (List.mem_of_getElem? (i := j) (by rw [List.getElem?_take_of_lt hlt]; exact hj))
    · exact .inr (List.mem_of_getElem? (i := j - (i + 1)) (by rw [List.getElem?_drop, show i + 1 + (j - (i + 1)) = j by omega]; exact hj))
  have h2 := List.all_eq_true.mp h1 b hm
  rw [decide_eq_true hs] at h2
  cases h2
theorem one_match {ps : List Stf} (h : partedB (ps.map (·.1)) = true) {u : List Bool} {p q : Stf} (hp : p ∈ ps) (hq : q ∈ ps) (h1 : p.1 <:+ u) (h2 : q.1 <:+ u) : p = q := by
  obtain ⟨i, hi⟩ := List.getElem?_of_mem hp
  obtain ⟨j, hj⟩ := List.getElem?_of_mem hq
  by_cases e : i = j
  · subst e
    rw [hi] at hj
    exact Option.some.inj hj
  · have mi : (ps.map (·.1))[i]? = some p.1 := by rw [List.getElem?_map, hi]; rfl
    have mj : (ps.map (·.1))[j]? = some q.1 := by rw [List.getElem?_map, hj]; rfl
    rcases Nat.le_total p.1.length q.1.length with hl | hl
    · exact absurd (List.suffix_of_suffix_length_le h1 h2 hl) (parted_ne h mj mi fun z => e z.symm)
    · exact absurd (List.suffix_of_suffix_length_le h2 h1 hl) (parted_ne h mi mj e)
theorem putL_eq {ps : List Stf} (h : partedB (ps.map (·.1)) = true) {u : List Bool} {p : Stf} (hp : p ∈ ps) (h1 : p.1 <:+ u) : putL ps u = some p.2 := by
  cases e : putL ps u with
  | none =>
    unfold putL at e
    rw [Option.map_eq_none_iff, List.find?_eq_none] at e
    exact absurd (decide_eq_true h1) (e p hp)
  | some b =>
    obtain ⟨q, hq, h2, rfl⟩ := putL_some e
    rw [one_match h hp hq h1 h2]
theorem putL_perm {ps qs : List Stf} (h : partedB (ps.map (·.1)) = true) (pm : qs.Perm ps) (u : List Bool) : putL qs u = putL ps u := by
  cases e : putL qs u with
  | none =>
    symm
    apply putL_none
    intro p hp hs
    unfold putL at e
    rw [Option.map_eq_none_iff, List.find?_eq_none] at e
    exact e p (pm.mem_iff.mpr hp) (decide_eq_true hs)
  | some b =>
    obtain ⟨q, hq, h2, rfl⟩ := putL_some e
    exact (putL_eq h (pm.mem_iff.mp hq) h2).symm
theorem sortP_perm (ps : List Stf) : (sortP ps).Perm ps := List.mergeSort_perm _ _
/-! ### a rule that stands -/
def rlf (flag : List Bool) (t : Addr) : List (Str × V) := [("flag", .str (WS flag)), ("stuffs", .ref t)]
def RlAt (C : Addr) (H : Hp) (p : Addr) (flag : List Bool) (ps : List Stf) : Prop := ∃ dx t xs, H p = some (.ins C dx (rlf flag t)) ∧ H t = some (.tup xs) ∧ Pairs H xs ps
theorem RlAt.kp {C p : Addr} {H H' : Hp} {flag : List Bool} {ps : List Stf} (k : Kp H H') (h : RlAt C H p flag ps) : RlAt C H' p flag ps := by
  obtain ⟨dx, t, xs, h1, h2, h3⟩ := h
  exact ⟨dx, t, xs, k _ _ h1 trivial, k _ _ h2 trivial, h3.kp k⟩
theorem rlf_flag (flag : List Bool) (t : Addr) : (rlf flag t).lookup ("flag" : Str) = some (.str (WS flag)) := rfl
theorem rlf_stuffs (flag : List Bool) (t : Addr) : (rlf flag t).lookup ("stuffs" : Str) = some (.ref t) := by
  unfold rlf
  rw [List.lookup_cons, show (("stuffs" : Str) == "flag") = false by decide +kernel]
  rfl
structure RlT (K : PySem.W.Frag) (C : Addr) : Prop where
  cl : Cls K C
  nF : NoAttr K C "flag"
  nS : NoAttr K C "stuffs"
def spRInit (K : PySem.W.Frag) (C : Addr) : Sp := fun vs H Q _ => ∃ (p dx l : Addr) (o : Bool) (flag : List Bool) (xs : List V) (ps : List Stf), vs = [.ref p, .str (WS flag), .ref l] ∧ 2 ≤ flag.length ∧ flag.length ≤ 900 ∧ SqK K o H l xs ∧ Pairs H xs ps ∧ RuleOk ps ∧ H p = some (.ins C dx []) ∧
  ∀ H', RlAt C H' p flag (sortP ps) → (∀ a o, H a = some o → a ≠ p → H' a = some o) → Q .non H'
def spPut (C : Addr) : Sp := fun vs H Q _ => ∃ (p : Addr) (flag : List Bool) (ps : List Stf) (line : List Bool), vs = [.ref p, .str (WS line)] ∧ RlAt C H p flag ps ∧ ∀ H', Same H H' → Q (oB (putL ps line)) H'
end Own

set_option Elab.async false
set_option linter.all false
set_option maxRecDepth 100000
set_option maxHeartbeats 2000000
/-! enumerate(tuple); enumerate of a list or a tuple -/
namespace Own
open PySem PySem.Spec PyProof.Rows L2
open Sem (wp)
open AutoSeq1 (wpAny_loadPart')
section
variable {prog : Program} {w : World} {A : Around} {E : Value → Shared → Prop} {s : Shared}
end
end Own

set_option Elab.async false
set_option linter.all false
set_option maxRecDepth 100000
set_option maxHeartbeats 4000000
namespace Own
open PySem PySem.Spec PyProof.Rows L2
/-! ### the law's own search, and what it tells -/
def last5 (u : List Bool) : List Bool := u.drop (u.length - 5)
def putsN (ps : List Stf) : Nat → List Bool → List Bool
  | 0, u => u
  | n + 1, u => putsN ps n (match putL ps u with | some b => u ++ [b] | none => u)
/-- one message, followed from standing to standing: nowhere more than twenty bits at once -/
def simF (ps : List Stf) : List Bool → List Bool → Bool
  | [], _ => true
  | b :: m, s => decide ((putsN ps 24 (s ++ [b])).length ≤ s.length + 20) && simF ps m (last5 (putsN ps 24 (s ++ [b])))
/-- the standings are closed under one bit more -/
def Closed (ps : List Stf) (K : List Bool → Prop) : Prop := K [] ∧ ∀ s, K s → ∀ b : Bool, (putsN ps 24 (s ++ [b])).length ≤ s.length + 20 ∧ K (last5 (putsN ps 24 (s ++ [b])))
theorem sim_closed {ps : List Stf} {K : List Bool → Prop} (h : Closed ps K) : ∀ (m s : List Bool), K s → simF ps m s = true
  | [], _, _ => rfl
  | b :: m, s, hs => by
    obtain ⟨h1, h2⟩ := h.2 s hs b
    unfold simF
    rw [decide_eq_true h1, Bool.true_and]
    exact sim_closed h m _ h2
def small : List Stf := ((wordsL 1 ++ wordsL 2 ++ wordsL 3 ++ wordsL 4).map fun w => [(w, false), (w, true)]).flatten
def rowAt (i : Nat) : List (List Stf) := small.map fun y => [small.getD i ([], false), y]
def sound (ps : List Stf) : Bool := endsAll ps || !(partedB (ps.map (·.1))) || !((wordsL 4).all fun m => simF ps m [])
theorem sound_0 : sound [] = true := by decide +kernel
theorem sound_1 : (small.map fun x => [x]).all sound = true := by decide +kernel
theorem row_0 : (rowAt 0).all sound = true := by decide +kernel
theorem row_1 : (rowAt 1).all sound = true := by decide +kernel
theorem row_2 : (rowAt 2).all sound = true := by decide +kernel
theorem row_3 : (rowAt 3).all sound = true := by decide +kernel
theorem row_4 : (rowAt 4).all sound = true := by decide +kernel
theorem row_5 : (rowAt 5).all sound = true := by decide +kernel
theorem row_6 : (rowAt 6).all sound = true := by decide +kernel
theorem row_7 : (rowAt 7).all sound = true := by decide +kernel
theorem row_8 : (rowAt 8).all sound = true := by decide +kernel
theorem row_9 : (rowAt 9).all sound = true := by decide +kernel
theorem row_10 : (rowAt 10).all sound = true := by decide +kernel
theorem row_11 : (rowAt 11).all sound = true := by decide +kernel
theorem row_12 : (rowAt 12).all sound = true := by decide +kernel
theorem row_13 : (rowAt 13).all sound = true := by decide +kernel
theorem row_14 : (rowAt 14).all sound = true := by decide +kernel
theorem row_15 : (rowAt 15).all sound = true := by decide +kernel
theorem row_16 : (rowAt 16).all sound = true := by decide +kernel
theorem row_17 : (rowAt 17).all sound = true := by decide +kernel
theorem row_18 : (rowAt 18).all sound = true := by decide +kernel
theorem row_19 : (rowAt 19).all sound = true := by decide +kernel
theorem row_20 : (rowAt 20).all sound = true := by decide +kernel
theorem row_21 : (rowAt 21).all sound = true := by decide +kernel
theorem row_22 : (rowAt 22).all sound = true := by decide +kernel
theorem row_23 : (rowAt 23).all sound = true := by decide +kernel
theorem row_24 : (rowAt 24).all sound = true := by decide +kernel
theorem row_25 : (rowAt 25).all sound = true := by decide +kernel
theorem row_26 : (rowAt 26).all sound = true := by decide +kernel
theorem row_27 : (rowAt 27).all sound = true := by decide +kernel
theorem row_28 : (rowAt 28).all sound = true := by decide +kernel
theorem row_29 : (rowAt 29).all sound = true := by decide +kernel
theorem row_30 : (rowAt 30).all sound = true := by decide +kernel
theorem row_31 : (rowAt 31).all sound = true := by decide +kernel
theorem row_32 : (rowAt 32).all sound = true := by decide +kernel
theorem row_33 : (rowAt 33).all sound = true := by decide +kernel
theorem row_34 : (rowAt 34).all sound = true := by decide +kernel
theorem row_35 : (rowAt 35).all sound = true := by decide +kernel
theorem row_36 : (rowAt 36).all sound = true := by decide +kernel
theorem row_37 : (rowAt 37).all sound = true := by decide +kernel
theorem row_38 : (rowAt 38).all sound = true := by decide +kernel
theorem row_39 : (rowAt 39).all sound = true := by decide +kernel
theorem row_40 : (rowAt 40).all sound = true := by decide +kernel
theorem row_41 : (rowAt 41).all sound = true := by decide +kernel
theorem row_42 : (rowAt 42).all sound = true := by decide +kernel
theorem row_43 : (rowAt 43).all sound = true := by decide +kernel
theorem row_44 : (rowAt 44).all sound = true := by decide +kernel
theorem row_45 : (rowAt 45).all sound = true := by decide +kernel
theorem row_46 : (rowAt 46).all sound = true := by decide +kernel
theorem row_47 : (rowAt 47).all sound = true := by decide +kernel
theorem row_48 : (rowAt 48).all sound = true := by decide +kernel
theorem row_49 : (rowAt 49).all sound = true := by decide +kernel
theorem row_50 : (rowAt 50).all sound = true := by decide +kernel
theorem row_51 : (rowAt 51).all sound = true := by decide +kernel
theorem row_52 : (rowAt 52).all sound = true := by decide +kernel
theorem row_53 : (rowAt 53).all sound = true := by decide +kernel
theorem row_54 : (rowAt 54).all sound = true := by decide +kernel
theorem row_55 : (rowAt 55).all sound = true := by decide +kernel
theorem row_56 : (rowAt 56).all sound = true := by decide +kernel
theorem row_57 : (rowAt 57).all sound = true := by decide +kernel
theorem row_58 : (rowAt 58).all sound = true := by decide +kernel
theorem row_59 : (rowAt 59).all sound = true := by decide +kernel
theorem rows : ∀ i, i < 60 → (rowAt i).all sound = true
  | 0, _ => row_0
  | 1, _ => row_1
  | 2, _ => row_2
  | 3, _ => row_3
  | 4, _ => row_4
  | 5, _ => row_5
  | 6, _ => row_6
  | 7, _ => row_7
  | 8, _ => row_8
  | 9, _ => row_9
  | 10, _ => row_10
  | 11, _ => row_11
  | 12, _ => row_12
  | 13, _ => row_13
  | 14, _ => row_14
  | 15, _ => row_15
  | 16, _ => row_16
  | 17, _ => row_17
  | 18, _ => row_18
  | 19, _ => row_19
  | 20, _ => row_20
  | 21, _ => row_21
  | 22, _ => row_22
  | 23, _ => row_23
  | 24, _ => row_24
  | 25, _ => row_25
  | 26, _ => row_26
  | 27, _ => row_27
  | 28, _ => row_28
  | 29, _ => row_29
  | 30, _ => row_30
  | 31, _ => row_31
  | 32, _ => row_32
  | 33, _ => row_33
  | 34, _ => row_34
  | 35, _ => row_35
  | 36, _ => row_36
  | 37, _ => row_37
  | 38, _ => row_38
  | 39, _ => row_39
  | 40, _ => row_40
  | 41, _ => row_41
  | 42, _ => row_42
  | 43, _ => row_43
  | 44, _ => row_44
  | 45, _ => row_45
  | 46, _ => row_46
  | 47, _ => row_47
  | 48, _ => row_48
  | 49, _ => row_49
  | 50, _ => row_50
  | 51, _ => row_51
  | 52, _ => row_52
  | 53, _ => row_53
  | 54, _ => row_54
  | 55, _ => row_55
  | 56, _ => row_56
  | 57, _ => row_57
  | 58, _ => row_58
  | 59, _ => row_59
  | _ + 60, h => absurd h (by omega)
theorem mem_small {p : Stf} (h1 : p.1 ≠ []) (h2 : p.1.length ≤ 4) : p ∈ small := by
  unfold small
  rw [List.mem_flatten]
  obtain ⟨w, b⟩ := p
  have h0 : 0 < w.length := List.length_pos_iff.mpr h1
  refine ⟨[(w, false), (w, true)], List.mem_map.mpr ⟨w, ?_, rfl⟩, by cases b <;> simp⟩
  simp only [List.mem_append, mem_wordsL]
  simp at h2
  omega
theorem small_len : small.length = 60 := by decide +kernel
theorem all_sound {ps : List Stf} (hl : ps.length ≤ 2) (h : ∀ p ∈ ps, p.1 ≠ [] ∧ p.1.length ≤ 4) : sound ps = true := by
  match ps, hl, h with
  | [], _, _ => exact sound_0
  | [x], _, h =>
    have := mem_small (h x List.mem_cons_self).1 (h x List.mem_cons_self).2
    exact List.all_eq_true.mp sound_1 _ (List.mem_map.mpr ⟨x, this, rfl⟩)
  | [x, y], _, h =>
    have hx := mem_small (h x List.mem_cons_self).1 (h x List.mem_cons_self).2
    have hy := mem_small (h y (List.mem_cons_of_mem _ List.mem_cons_self)).1 (h y (List.mem_cons_of_mem _ List.mem_cons_self)).2
    obtain ⟨i, hi⟩ := List.getElem?_of_mem hx
    have hlt : i < 60 := by rw [← small_len]; exact (List.getElem?_eq_some_iff.mp hi).1
    refine List.all_eq_true.mp (rows i hlt) _ (List.mem_map.mpr ⟨y, hy, ?_⟩)
    rw [List.getD_eq_getElem?_getD, hi]
    rfl
  | _ :: _ :: _ :: _, hl, _ => exact absurd hl (by simp)
/-- the law's search found nothing endless: then nothing is endless -/
theorem rule_ok {ps : List Stf} {K : List Bool → Prop} (hl : ps.length ≤ 2) (h : ∀ p ∈ ps, p.1 ≠ [] ∧ p.1.length ≤ 4) (hp : partedB (ps.map (·.1)) = true) (hc : Closed ps K) : RuleOk ps := by
  refine ⟨fun p hp => (h p hp).1, fun p hp => Nat.le_trans (h p hp).2 (by decide), by omega, hp, ?_⟩
  have := all_sound hl h
  unfold sound at this
  have hs : ((wordsL 4).all fun m => simF ps m []) = true := List.all_eq_true.mpr fun m _ => sim_closed hc m [] hc.1
  rw [hp, hs] at this
  simpa using this
end Own

set_option Elab.async false
set_option linter.all false
set_option maxRecDepth 100000
set_option maxHeartbeats 4000000
namespace Own
open PySem PySem.Spec PyProof.Rows L2
/-! ### promises of the law's own rules -/
def spWord2 : Sp := fun vs H Q _ => ∃ (b : Addr) (few many : Int), vs = [.ref b, .int few, .int many] ∧ BoxAt H b ∧ 0 ≤ few ∧ few ≤ many ∧ many ≤ 400 ∧ ∀ (z : List Bool) H', few ≤ (z.length : Int) → (z.length : Int) ≤ many → BoxAt H' b → Off b H H' → Q (.str (WS z)) H'
/-- the law's rule: a flag and a list of pairs -/
def RuAt (H : Hp) (t : Addr) (flag : List Bool) (ps : List Stf) : Prop := ∃ l xs, H t = some (.tup [.str (WS flag), .ref l]) ∧ H l = some (.lst xs) ∧ Pairs H xs ps
def oS : Option Bool → V
  | none => .str ""
  | some b => .str (WS [b])
def spLPut : Sp := fun vs H Q _ => ∃ (t : Addr) (flag : List Bool) (ps : List Stf) (line : List Bool), vs = [.ref t, .str (WS line)] ∧ RuAt H t flag ps ∧ ps.length ≤ 100 ∧ (∀ p ∈ ps, p.1.length ≤ 900) ∧ line.length ≤ 900 ∧ ∀ H', Same H H' → Q (oS (putL ps line)) H'
/-- the law's search ends well -/
def Fill (ps : List Stf) : Prop := ∃ G, Closed ps G
def spIsRule : Sp := fun vs H Q _ => ∃ (t : Addr) (flag : List Bool) (ps : List Stf), vs = [.ref t] ∧ RuAt H t flag ps ∧ ps.length ≤ 2 ∧ (∀ p ∈ ps, p.1 ≠ [] ∧ p.1.length ≤ 4) ∧ ∀ (r : Bool) H', Same H H' → (r = true → RuleOk ps ∧ Fill ps) → Q (.bl r) H'
theorem RuAt.same {H H' : Hp} {t : Addr} {flag : List Bool} {ps : List Stf} (s : Same H H') (h : RuAt H t flag ps) : RuAt H' t flag ps := by
  obtain ⟨l, xs, h1, h2, h3⟩ := h
  exact ⟨l, xs, s _ _ h1, s _ _ h2, h3.kp (kp_same s)⟩
theorem strOk_WS (w : List Bool) : PyData.strOk (WS w) = true := by
  show ((w.map cd).toArray.all (· < 0x110000)) = true
  rw [← Array.all_toList, List.all_eq_true]
  intro x hx
  obtain ⟨b, _, rfl⟩ := List.mem_map.mp (show x ∈ w.map cd from hx)
  cases b <;> rfl
theorem canLay_strs : ∀ ws : List (List Bool), PyData.canLayAll0 (ws.map fun w => PyData.str (WS w)) = true
  | [] => rfl
  | w :: r => by
    show (PyData.canLay0 (.str (WS w)) && PyData.canLayAll0 (r.map fun w => PyData.str (WS w))) = true
    rw [canLay_strs r, Bool.and_true]
    exact strOk_WS w
theorem depth_strs : ∀ ws : List (List Bool), PyData.depthAll (ws.map fun w => PyData.str (WS w)) = 0
  | [] => rfl
  | w :: r => by
    show max (PyData.depth (.str (WS w))) (PyData.depthAll (r.map fun w => PyData.str (WS w))) = 0
    rw [depth_strs r]
    rfl
theorem dpAll_strs {K : PySem.W.Frag} {H : Hp} : ∀ ws : List (List Bool), DpAll K H (strV ws) (ws.map fun w => PyData.str (WS w))
  | [] => .nil
  | w :: r => .cons (.str _) (dpAll_strs r)
theorem shaped_strs (ws : List (List Bool)) : SeqAt.shaped (.list (ws.map fun w => PyData.str (WS w))) = true := by
  unfold SeqAt.shaped
  rw [Bool.and_eq_true, decide_eq_true_eq]
  refine ⟨canLay_strs ws, ?_⟩
  show PyData.depthAll _ + 1 ≤ 64
  rw [depth_strs]
  decide
def hdS : List (List Bool) → V
  | [] => .str ""
  | u :: _ => .str (WS u)
theorem eqv_nil (ds : List PyData) : PyData.eqv (.list ds) (.list []) = ds.isEmpty := by
  cases ds <;> rfl
end Own

namespace Own
open PySem PySem.Spec PyProof.Rows L2
def stepP (ps : List Stf) (u : List Bool) : List Bool := match putL ps u with | some b => u ++ [b] | none => u
theorem putsN_succ (ps : List Stf) : ∀ (n : Nat) (u : List Bool), putsN ps (n + 1) u = stepP ps (putsN ps n u)
  | 0, u => rfl
  | n + 1, u => by
    show putsN ps (n + 1) (stepP ps u) = stepP ps (putsN ps n (stepP ps u))
    exact putsN_succ ps n _
theorem stepP_len (ps : List Stf) (u : List Bool) : (stepP ps u).length ≤ u.length + 1 := by
  unfold stepP
  split
  · simp
  · omega
theorem putsN_len (ps : List Stf) : ∀ (n : Nat) (u : List Bool), (putsN ps n u).length ≤ u.length + n
  | 0, u => Nat.le_refl _
  | n + 1, u => by
    rw [putsN_succ]
    have := stepP_len ps (putsN ps n u)
    have := putsN_len ps n u
    omega
theorem last5_len (u : List Bool) : (last5 u).length ≤ 5 := by
  unfold last5
  rw [List.length_drop]
  omega
theorem partedB_of {ws : List (List Bool)} (h : ∀ (i j : Nat) (a b : List Bool), ws[i]? = some a → ws[j]? = some b → i ≠ j → ¬ b <:+ a) : partedB ws = true := by
  unfold partedB
  rw [List.all_eq_true]
  intro i hi
  rw [List.mem_range] at hi
  unfold partedAt
  rw [List.all_eq_true]
  intro o ho
  have hg : ws[i]? = some (ws.getD i []) := by
    rw [List.getD_eq_getElem?_getD, List.getElem?_eq_getElem hi]
    rfl
  rw [List.mem_append] at ho
  have hn : ¬ o <:+ ws.getD i [] := by
    rcases ho with ho | ho
    · obtain ⟨j, hj⟩ := List.getElem?_of_mem ho
      have hlt : j < i := by
        have := (List.getElem?_eq_some_iff.mp hj).1
        rw [List.length_take] at this
        omega
      rw [List.getElem?_take_of_lt hlt] at hj
      exact h i j _ _ hg hj (by omega)
    · obtain ⟨j, hj⟩ := List.getElem?_of_mem ho
      rw [List.getElem?_drop] at hj
      exact h i _ _ _ hg hj (by omega)
  rw [decide_eq_false hn]
  rfl
/-! ### what is known -/
abbrev Kv := List (Key × V)
def kno (kvs : Kv) (w : List Bool) : Prop := valV kvs (Sum.inr (WS w)) ≠ none
def allW : List (List Bool) := wordsL 0 ++ wordsL 1 ++ wordsL 2 ++ wordsL 3 ++ wordsL 4 ++ wordsL 5
def left (kvs : Kv) : Nat := (allW.filter fun w => (valV kvs (Sum.inr (WS w))).isNone).length
theorem mem_allW {w : List Bool} (h : w.length ≤ 5) : w ∈ allW := by
  unfold allW
  simp only [List.mem_append, mem_wordsL]
  omega
theorem kno_put {kvs : Kv} {w u : List Bool} : kno (putK kvs (Sum.inr (WS w)) (.bl true)) u ↔ (u = w ∨ kno kvs u) := by
  unfold kno
  rw [valV_put]
  by_cases h : u = w
  · subst h
    rw [if_pos rfl]
    simp
  · rw [if_neg fun e => h (WS_inj (Sum.inr.inj e))]
    simp [h]
theorem filter_lt {α : Type} {f g : α → Bool} : ∀ {l : List α} {x : α}, x ∈ l → f x = true → g x = false → (∀ y ∈ l, g y = true → f y = true) → (l.filter g).length < (l.filter f).length
  | y :: l, x, hx, hf, hg, h => by
    have hle : ∀ (l : List α), (∀ y ∈ l, g y = true → f y = true) → (l.filter g).length ≤ (l.filter f).length := by
      intro l
      induction l with
      | nil => intro _; exact Nat.le_refl _
      | cons z r ih =>
        intro k
        have i := ih fun y hy => k y (List.mem_cons_of_mem _ hy)
        rw [List.filter_cons, List.filter_cons]
        by_cases hz : g z = true
        · rw [if_pos hz, if_pos (k z List.mem_cons_self hz)]
          exact Nat.succ_le_succ i
        · rw [if_neg hz]
          split
          · exact Nat.le_succ_of_le i
          · exact i
    rw [List.filter_cons, List.filter_cons]
    rcases List.mem_cons.mp hx with rfl | hx
    · rw [hf, hg]
      exact Nat.lt_succ_of_le (hle l fun y hy => h y (List.mem_cons_of_mem _ hy))
    · have i := filter_lt hx hf hg fun y hy => h y (List.mem_cons_of_mem _ hy)
      by_cases hz : g y = true
      · rw [if_pos hz, if_pos (h y List.mem_cons_self hz)]
        exact Nat.succ_lt_succ i
      · rw [if_neg hz]
        split
        · exact Nat.lt_succ_of_lt i
        · exact i
theorem left_put {kvs : Kv} {w : List Bool} (hw : w.length ≤ 5) (hn : ¬ kno kvs w) : left (putK kvs (Sum.inr (WS w)) (.bl true)) < left kvs := by
  unfold left
  refine filter_lt (mem_allW hw) ?_ ?_ fun y _ hy => ?_
  · unfold kno at hn
    rw [Classical.not_not] at hn
    rw [hn]
    rfl
  · rw [valV_put, if_pos rfl]
    rfl
  · rw [valV_put] at hy
    split at hy
    · cases hy
    · exact hy
/-- done with a standing -/
def Done (ps : List Stf) (kvs : Kv) (w : List Bool) (b : Bool) : Prop := (putsN ps 24 (w ++ [b])).length ≤ w.length + 20 ∧ kno kvs (last5 (putsN ps 24 (w ++ [b])))
theorem Done.put {ps : List Stf} {kvs : Kv} {w u : List Bool} {b : Bool} (h : Done ps kvs w b) : Done ps (putK kvs (Sum.inr (WS u)) (.bl true)) w b := ⟨h.1, kno_put.mpr (.inr h.2)⟩
structure Srch (ps : List Stf) (kvs : Kv) (ws : List (List Bool)) (cur : Option (List Bool)) (j : Nat) : Prop where
  zero : kno kvs []
  short : ∀ w, kno kvs w → w.length ≤ 5
  wait : ∀ w ∈ ws, kno kvs w
  done : ∀ w, kno kvs w → w ∈ ws ∨ (∀ b, Done ps kvs w b) ∨ some w = cur
  curd : ∀ w, some w = cur → (0 < j → Done ps kvs w false) ∧ (1 < j → Done ps kvs w true)
  size : kvs.length + left kvs ≤ 64
  wsz : ws.length ≤ kvs.length
theorem left0 : left [(Sum.inr (WS []), V.bl true)] = 62 := by decide +kernel
end Own
namespace Own
open PySem PySem.Spec PyProof.Rows L2
theorem Srch.start (ps : List Stf) : Srch ps [(Sum.inr (WS []), V.bl true)] [[]] none 0 := by
  have hk : ∀ w, kno [(Sum.inr (WS []), V.bl true)] w → w = [] := fun w h => by
    by_cases e : w = []
    · exact e
    · exact absurd (valV_neg (p := (Sum.inr (WS []), V.bl true)) (r := []) (k := Sum.inr (WS w)) fun z => e (WS_inj (Sum.inr.inj z)).symm) fun z => h (by rw [z]; rfl)
  refine ⟨?_, fun w h => ?_, fun w h => ?_, fun w h => ?_, fun w h => (by cases h), by rw [left0]; decide, by decide⟩
  · unfold kno
    rw [valV_pos rfl]
    intro e
    cases e
  · rw [hk w h]
    decide
  · rw [List.mem_singleton.mp h]
    unfold kno
    rw [valV_pos rfl]
    intro e
    cases e
  · exact .inl (by rw [hk w h]; exact List.mem_singleton.mpr rfl)
/-- one is taken -/
theorem Srch.pop {ps : List Stf} {kvs : Kv} {ws : List (List Bool)} {u : List Bool} (h : Srch ps kvs (ws ++ [u]) none 0) : Srch ps kvs ws (some u) 0 := by
  refine ⟨h.zero, h.short, fun w hw => h.wait w (List.mem_append_left _ hw), fun w hw => ?_, fun w _ => ⟨fun z => absurd z (by decide), fun z => absurd z (by decide)⟩, h.size, ?_⟩
  · rcases h.done w hw with h1 | h1 | h1
    · rcases List.mem_append.mp h1 with h2 | h2
      · exact .inl h2
      · exact .inr (.inr (by rw [List.mem_singleton.mp h2]))
    · exact .inr (.inl h1)
    · cases h1
  · have := h.wsz
    rw [List.length_append] at this
    omega
/-- both bits are through -/
theorem Srch.back {ps : List Stf} {kvs : Kv} {ws : List (List Bool)} {u : List Bool} (h : Srch ps kvs ws (some u) 2) : Srch ps kvs ws none 0 := by
  refine ⟨h.zero, h.short, h.wait, fun w hw => ?_, fun w e => (by cases e), h.size, h.wsz⟩
  rcases h.done w hw with h1 | h1 | h1
  · exact .inl h1
  · exact .inr (.inl h1)
  · obtain ⟨d0, d1⟩ := h.curd w h1
    exact .inr (.inl fun b => by cases b; exact d0 (by decide); exact d1 (by decide))
theorem curd_next {ps : List Stf} {kvs : Kv} {u : List Bool} {j : Nat} (hj : j < 2) (h : (0 < j → Done ps kvs u false) ∧ (1 < j → Done ps kvs u true)) (hn : Done ps kvs u (decide (j = 1))) : (0 < j + 1 → Done ps kvs u false) ∧ (1 < j + 1 → Done ps kvs u true) := by
  match j, hj with
  | 0, _ => exact ⟨fun _ => hn, fun z => absurd z (by decide)⟩
  | 1, _ => exact ⟨fun _ => h.1 (by decide), fun _ => hn⟩
/-- the standing behind is known already -/
theorem Srch.old {ps : List Stf} {kvs : Kv} {ws : List (List Bool)} {u : List Bool} {j : Nat} (h : Srch ps kvs ws (some u) j) (hj : j < 2) (hn : Done ps kvs u (decide (j = 1))) : Srch ps kvs ws (some u) (j + 1) :=
  ⟨h.zero, h.short, h.wait, h.done, fun w e => by cases e; exact curd_next hj (h.curd u rfl) hn, h.size, h.wsz⟩
/-- it is new -/
theorem Srch.new {ps : List Stf} {kvs : Kv} {ws : List (List Bool)} {u v : List Bool} {j : Nat} (h : Srch ps kvs ws (some u) j) (hj : j < 2) (hv : valV kvs (Sum.inr (WS v)) = none) (hl : v.length ≤ 5) (hn : (putsN ps 24 (u ++ [decide (j = 1)])).length ≤ u.length + 20) (ev : v = last5 (putsN ps 24 (u ++ [decide (j = 1)]))) :
    Srch ps (putK kvs (Sum.inr (WS v)) (.bl true)) (ws ++ [v]) (some u) (j + 1) := by
  have hk : ¬ kno kvs v := fun z => z hv
  have hlp := left_put hl hk
  have hln : (putK kvs (Sum.inr (WS v)) (V.bl true)).length = kvs.length + 1 := by
    rw [putK_new _ hv, List.length_append]
    rfl
  refine ⟨kno_put.mpr (.inr h.zero), fun w hw => ?_, fun w hw => ?_, fun w hw => ?_, fun w e => ?_, ?_, ?_⟩
  · rcases kno_put.mp hw with rfl | hw
    · exact hl
    · exact h.short w hw
  · rcases List.mem_append.mp hw with hw | hw
    · exact kno_put.mpr (.inr (h.wait w hw))
    · exact kno_put.mpr (.inl (List.mem_singleton.mp hw))
  · rcases kno_put.mp hw with rfl | hw
    · exact .inl (List.mem_append_right _ (List.mem_singleton.mpr rfl))
    · rcases h.done w hw with h1 | h1 | h1
      · exact .inl (List.mem_append_left _ h1)
      · exact .inr (.inl fun b => (h1 b).put)
      · exact .inr (.inr h1)
  · cases e
    obtain ⟨d0, d1⟩ := h.curd u rfl
    exact curd_next hj ⟨fun z => (d0 z).put, fun z => (d1 z).put⟩ ⟨hn, by rw [← ev]; exact kno_put.mpr (.inl rfl)⟩
  · have := h.size
    omega
  · have := h.wsz
    rw [hln, List.length_append]
    show ws.length + 1 ≤ _
    omega
theorem Srch.closed {ps : List Stf} {kvs : Kv} (h : Srch ps kvs [] none 0) : Closed ps (kno kvs) :=
  ⟨h.zero, fun s hs b => by
    rcases h.done s hs with h1 | h1 | h1
    · cases h1
    · exact h1 b
    · cases h1⟩
end Own

set_option Elab.async false
set_option linter.all false
set_option maxRecDepth 100000
set_option maxHeartbeats 2000000
namespace Own
open PySem PySem.Spec PyProof.Rows L2
section
variable {prog : Program} {w : World} {A : Around} {E : Value → Shared → Prop} {s : Shared}
/-- all that a tuple holds, in a new list -/
theorem collectT {t : Addr} {us : List Value} {Q : List Value → Shared → Prop} (ht : s.heap.IsTuple t us.toArray) (hz : us.length ≤ sizeLine)
    (h : Q us { s with heap := (s.heap.push (seqObj "list" #[] 0)).update s.heap.objs.size (Obj.mapSeq (· ++ us.toArray)) }) : wpAny (model prog w) A (collect (.ref t)) Q E s := by
  obtain ⟨o, go, co, k, dO⟩ := id ht
  have go' : (s.heap.push (seqObj "list" #[] 0)).get? t = some o := Heap.get?_push_of_some _ go
  have gn : (s.heap.push (seqObj "list" #[] 0)).get? s.heap.objs.size = some (seqObj "list" #[] 0) := Heap.get?_push_size _ rfl
  unfold collect
  refine wpAny_bind (wpAny_runValue (codeAny_builtin entry_proto_collect' ?_))
  refine wpAny_bind (wpAny_newList (wpAny_pure ⟨Code.quiet_builtin _ (by decide +kernel), codeAny_builtin entry_list_iadd' ?_⟩))
  show wpAny _ _ (Builtin.List.listExtendWith (.ref s.heap.objs.size) (.ref t) _) _ _ { s with heap := s.heap.push (seqObj "list" #[] 0) }
  unfold Builtin.List.listExtendWith
  refine wpAny_bind (wpAny_typeOf (T := "tuple") ⟨o, go', co⟩ ?_)
  rw [if_pos (by rw [show (Value.type "tuple" == Value.type "tuple") = true by rfl, Bool.or_true])]
  refine wpAny_bind (listItems_at go' dO (wpAny_bind (listItems_at (xs := #[]) (n := 0) gn rfl ?_)))
  rw [if_neg (by simp)]
  refine wpAny_bind (listUpdate_at (xs := #[]) (n := 0) gn rfl ?_ (Nat.zero_le _) (by simp only [Array.size_append, List.size_toArray, List.length_nil]; omega))
  refine wpAny_pure ?_
  show wpAny (model prog w) A (load s.heap.objs.size >>= _) Q E { s with heap := (s.heap.push (seqObj "list" #[] 0)).update s.heap.objs.size (Obj.mapSeq (· ++ us.toArray)) }
  refine wpAny_bind (wpAny_load (get?_update_seq gn _) ?_)
  have e : ((#[] : Array Value) ++ us.toArray).toList = us := by simp
  show wpAny _ _ (pure ((#[] : Array Value) ++ us.toArray).toList) Q E _
  rw [e]
  exact wpAny_pure h
open PySem.W in
/-- sorted(tuple) -/
theorem sortedT {κ : KeyKind} {t : Addr} {us : List Value} {Q : Value → Shared → Prop} (ht : s.heap.IsTuple t us.toArray) (S : SortsAt prog w A.in1.in1 { s with heap := sortingHeap (copyHeap s.heap us) (s.heap.objs.size + 1) us } κ us) (hz : us.length ≤ sizeLine)
    (h : Q (.ref (s.heap.objs.size + 1)) { s with heap := sortedAll s.heap us (sortVals κ false us us).toArray }) : wpAny (model prog w) A (call (.builtin "sorted") [.ref t]) Q E s := by
  refine call_function_entry_kw kind_sorted plain_sorted entry_sorted (args_sorted1 _) ?_
  unfold Builtin.«sorted»
  refine wpAny_bind (m := checkCount "sorted" 1 1 _) (wpAny_pure (wpAny_bind (collectT ht hz (wpAny_bind (wpAny_newList ?_ hz)))))
  have e1 : ((s.heap.push (seqObj "list" #[] 0)).update s.heap.objs.size (Obj.mapSeq (· ++ us.toArray))).objs.size = s.heap.objs.size + 1 := by
    rw [Heap.size_update, Heap.size_push]
  show wpAny _ _ _ _ _ { s with heap := copyHeap s.heap us }
  rw [e1]
  refine wpAny_bind (wpAny_holding (wpAny_call_entry_kw slot_list_sort ⟨_, copyHeap_at s.heap us, rfl⟩ entry_list_sort ?_ (args_list_sort _)))
  show wpAny (model prog w) A.in1.in1 (Builtin.«list.sort» ⟨[.ref (s.heap.objs.size + 1)], []⟩) _ _ _
  exact list_sort_vals (s := { s with heap := copyHeap s.heap us }) (copyHeap_at s.heap us) S hz ⟨_, rfl, wpAny_pure ⟨_, rfl, h⟩⟩
end
def rSortedQ (K : PySem.W.Frag) : List V → Hp → VK → Prop := fun xs H Q => ∃ (l : Addr) (o : Bool) (vs : List V) (ps : List Stf), xs = [V.ref l] ∧ SqK K o H l vs ∧ Pairs H vs ps ∧ ∀ q vs', H q = none → Pairs H vs' (sortP ps) → Q (.ref q) (upd H q (.lst vs'))
open PySem.W in
theorem cr_sortedQ {X : Cx} (hu : X.A.units + 64 < cLine) : CallR X (.builtin "sorted") (rSortedQ X.K) := by
  intro pins s σ H xs us Q I r h
  obtain ⟨l, o, vs, ps, rfl, hs, hp, q⟩ := h
  rcases o with _ | _
  rotate_left
  · exact cr_sortedP hu pins s σ H [V.ref l] us Q I r ⟨l, vs, ps, rfl, hs, hp, q⟩
  · match us, r with
    | [u], .cons ra .nil =>
      cases (show u = Value.ref l from ra)
      obtain ⟨its, rv, hl, hz⟩ := I.tuple hs
      obtain ⟨as, hr⟩ := Dp.readsAll I (ps.map encP) _ its (dpAll_pairs hp) rv
      have e := each_of hp rv
      have er := readsAll_each encP hr
      have hal : AllAlike (ps.map encP) := AllAlike.of fun b b' => rfl
      have hk : Sortable (ps.map encP) := .inl fun d hd => by
        obtain ⟨p, _, rfl⟩ := List.mem_map.mp hd
        exact ⟨_, _, rfl⟩
      have er' : EachIs (fun v b => ∃ as, Reads (sortingHeap (copyHeap s.heap its) (s.heap.objs.size + 1) its) v (encP b) as) its ps := er.mono fun _ _ ⟨as, r⟩ => ⟨as, PyProof.Rows.Reads.keeps (fun _ _ => sorting_copy_old) r⟩
      have hb : ∀ d, d ∈ ps.map encP → X.A.in1.in1.units + d.depth < cLine := fun d hd => by
        obtain ⟨p, _, rfl⟩ := List.mem_map.mp hd
        have : (encP p).depth = 1 := rfl
        rw [this]
        have : X.A.in1.in1.units = X.A.units + 2 := rfl
        omega
      refine sortedT hl (SortsAt.data (s := { s with heap := sortingHeap (copyHeap s.heap its) (s.heap.objs.size + 1) its }) (each_map (R := fun v d => ∃ as, Reads (sortingHeap (copyHeap s.heap its) (s.heap.objs.size + 1) its) v d as) encP er') hal hk hb) (by rw [← rv.length]; exact hz) ?_
      have ho : (sortVals (dataKind (sortingHeap (copyHeap s.heap its) (s.heap.objs.size + 1) its) (ps.map encP)) false its its).length = ps.length := by
        rw [sortVals_length false rfl]
        exact e.length
      have eo := sortVals_data false e er' hal
      revert ho eo
      generalize sortVals (dataKind (sortingHeap (copyHeap s.heap its) (s.heap.objs.size + 1) its) (ps.map encP)) false its its = out
      intro ho eo
      obtain ⟨vs', rv', hp'⟩ := pairs_of (X := X) eo
      obtain ⟨ep, he'⟩ := PyProof.Rows.sortedAll_at s.heap its out.toArray
      have hlen : vs'.length ≤ sizeLine := by
        rw [rv'.length, ho, ← hp.len]
        exact hz
      exact ⟨.ref _, upd H (s.heap.objs.size + 1) (.lst vs'), I.laid (t' := s.toks) (fun _ _ => PyProof.Rows.sortedAll_old) (Nat.le_succ _) ⟨hlen, _, ep, rv', he'⟩, rfl, q _ _ (I.hok.fresh (Nat.le_succ _)) hp'⟩
end Own

set_option Elab.async false
set_option linter.all false
set_option maxRecDepth 100000
set_option maxHeartbeats 2000000
namespace Own
open PySem PySem.Spec PyProof.Rows L2
/-! ### nested data that are compared -/
def NiceAt (K : PySem.W.Frag) (H : Hp) (v : V) : Prop := ∃ d : PyData, Dp K H v d ∧ d.canLay0 = true ∧ d.depth ≤ 40
theorem nice_all {K : PySem.W.Frag} {H : Hp} : ∀ {vs : List V}, (∀ v ∈ vs, NiceAt K H v) → ∃ ds, DpAll K H vs ds ∧ PyData.canLayAll0 ds = true ∧ PyData.depthAll ds ≤ 40 ∧ ds.isEmpty = vs.isEmpty
  | [], _ => ⟨[], .nil, rfl, by decide, rfl⟩
  | v :: vs, h => by
    obtain ⟨d, h1, h2, h3⟩ := h v List.mem_cons_self
    obtain ⟨ds, g1, g2, g3, _⟩ := nice_all (vs := vs) fun u hu => h u (List.mem_cons_of_mem _ hu)
    refine ⟨d :: ds, .cons h1 g1, ?_, ?_, rfl⟩
    · show (PyData.canLay0 d && PyData.canLayAll0 ds) = true
      rw [h2, g2]
      rfl
    · show max (PyData.depth d) (PyData.depthAll ds) ≤ 40
      omega
theorem shaped_all {ds : List PyData} (h1 : PyData.canLayAll0 ds = true) (h2 : PyData.depthAll ds ≤ 40) : SeqAt.shaped (.list ds) = true := by
  unfold SeqAt.shaped
  rw [Bool.and_eq_true, decide_eq_true_eq]
  refine ⟨h1, ?_⟩
  show PyData.depthAll _ + 1 ≤ 64
  omega
theorem canLay_encP (p : Stf) : (encP p).canLay0 = true := by
  show (PyData.strOk (WS p.1) && (PyData.strOk (WS [p.2]) && true)) = true
  rw [strOk_WS, strOk_WS]
  rfl
theorem canLay_pairs : ∀ ps : List Stf, PyData.canLayAll0 (ps.map encP) = true
  | [] => rfl
  | p :: r => by
    show (PyData.canLay0 (encP p) && PyData.canLayAll0 (r.map encP)) = true
    rw [canLay_pairs r, canLay_encP]
    rfl
theorem depth_pairs : ∀ ps : List Stf, PyData.depthAll (ps.map encP) ≤ 1
  | [] => by decide
  | p :: r => by
    show max (PyData.depth (encP p)) (PyData.depthAll (r.map encP)) ≤ 1
    have := depth_pairs r
    have e : (encP p).depth = 1 := rfl
    omega
theorem nice_rule {K : PySem.W.Frag} {H : Hp} {t : Addr} {flag : List Bool} {ps : List Stf} (h : RuAt H t flag ps) : NiceAt K H (.ref t) := by
  obtain ⟨l, xs, h1, h2, h3⟩ := h
  refine ⟨.tuple [.str (WS flag), .list (ps.map encP)], .tup (.inl (.inl h1)) (.cons (.str _) (.cons (.lst (.inl (.inl h2)) (dpAll_pairs h3)) .nil)), ?_, ?_⟩
  · show (PyData.strOk (WS flag) && (PyData.canLayAll0 (ps.map encP) && true)) = true
    rw [strOk_WS, canLay_pairs]
    rfl
  · show max 0 (max (PyData.depthAll (ps.map encP) + 1) 0) + 1 ≤ 40
    have := depth_pairs ps
    omega
theorem RuAt.off {H H' : Hp} {b t : Addr} {flag : List Bool} {ps : List Stf} (h : RuAt H t flag ps) (hb : BoxAt H b) (o : Off b H H') : RuAt H' t flag ps := by
  obtain ⟨l, xs, h1, h2, h3⟩ := h
  have k := kp_off hb o
  refine ⟨l, xs, k _ _ h1 trivial, o _ _ h2 (fun e => ?_), h3.kp k⟩
  obtain ⟨c, d, e2, _⟩ := hb
  rw [← e, h2] at e2
  cases e2
  cases ps with
  | nil => exact h3
  | cons p r =>
    obtain ⟨⟨t, e, _⟩, _⟩ := h3
    cases e
theorem Pairs.snoc {H : Hp} : ∀ {vs : List V} {ps : List Stf} {v : V} {p : Stf}, Pairs H vs ps → PairAt H v p → Pairs H (vs ++ [v]) (ps ++ [p])
  | [], [], _, _, _, h => ⟨h, trivial⟩
  | _ :: _, _ :: _, _, _, h, h2 => ⟨h.1, Pairs.snoc h.2 h2⟩
  | [], _ :: _, _, _, h, _ => h.elim
  | _ :: _, [], _, _, h, _ => h.elim
/-- a rule as the law takes one -/
structure LRule (wi : Int) (flag : List Bool) (ps : List Stf) : Prop where
  ok : RuleOk ps
  few : ps.length ≤ 2
  lens : ∀ p ∈ ps, p.1 ≠ [] ∧ p.1.length ≤ 4
  f2 : 2 ≤ flag.length
  f5 : (flag.length : Int) ≤ max wi 5
  fill : Fill ps
def fillB (ps : List Stf) : Bool := allW.all fun s => [false, true].all fun b => decide ((putsN ps 24 (s ++ [b])).length ≤ s.length + 20)
theorem fill_of {ps : List Stf} (h : fillB ps = true) : Fill ps := ⟨fun s => s.length ≤ 5, by decide, fun s hs b => by
  have h1 := List.all_eq_true.mp h s (mem_allW hs)
  have h2 := List.all_eq_true.mp h1 b (by cases b <;> decide)
  exact ⟨of_decide_eq_true h2, last5_len _⟩⟩
theorem lr1 (wi : Int) : LRule wi [false, true, true, true, false] [([true, true], false)] := ⟨⟨by decide, by decide, by decide, by decide, by decide +kernel⟩, by decide, by decide, by decide, by show (5 : Int) ≤ max wi 5; omega, fill_of (by decide +kernel)⟩
theorem lr2 (wi : Int) : LRule wi [false, false, true, false] [([false, false, true], true)] := ⟨⟨by decide, by decide, by decide, by decide, by decide +kernel⟩, by decide, by decide, by decide, by show (4 : Int) ≤ max wi 5; omega, fill_of (by decide +kernel)⟩
theorem lr3 (wi : Int) : LRule wi [true, true] [([true], false)] := ⟨⟨by decide, by decide, by decide, by decide, by decide +kernel⟩, by decide, by decide, by decide, by show (2 : Int) ≤ max wi 5; omega, fill_of (by decide +kernel)⟩
theorem lr4 (wi : Int) : LRule wi [true, false, false, false, true] [([false, false], true)] := ⟨⟨by decide, by decide, by decide, by decide, by decide +kernel⟩, by decide, by decide, by decide, by show (5 : Int) ≤ max wi 5; omega, fill_of (by decide +kernel)⟩
theorem lr5 (wi : Int) : LRule wi [true, true, false] [] := ⟨⟨by decide, by decide, by decide, by decide, by decide +kernel⟩, by decide, by decide, by decide, by show (3 : Int) ≤ max wi 5; omega, fill_of (by decide +kernel)⟩
end Own
namespace Own
open PySem PySem.Spec PyProof.Rows L2
end Own
namespace Own
open PySem PySem.Spec PyProof.Rows L2
def spMade (C : Addr) : Sp := fun vs H Q _ => ∃ (t : Addr) (flag : List Bool) (ps : List Stf), vs = [.ref t] ∧ RuAt H t flag ps ∧ RuleOk ps ∧ 2 ≤ flag.length ∧ flag.length ≤ 900 ∧ ∀ p H', RlAt C H' p flag (sortP ps) → Same H H' → Q (.ref p) H'
end Own
namespace Own
open PySem PySem.Spec PyProof.Rows L2
def Ru1 (wi : Int) (H : Hp) (v : V) : Prop := ∃ t flag p, v = V.ref t ∧ RuAt H t flag [p] ∧ LRule wi flag [p]
theorem Ru1.same {wi : Int} {H H' : Hp} {v : V} (s : Same H H') (h : Ru1 wi H v) : Ru1 wi H' v := by
  obtain ⟨t, flag, ps, e, h1, h2⟩ := h
  exact ⟨t, flag, ps, e, h1.same s, h2⟩
theorem mk_ru {wi : Int} {H : Hp} {u m t : Addr} {f p : List Bool} {b : Bool} {sf sp sb : Str} (ef : sf = WS f) (ep : sp = WS p) (eb : sb = WS [b]) (n : H u = none) (o : (upd H u (.tup [.str sp, .str sb])) m = none) (q : (upd (upd H u (.tup [.str sp, .str sb])) m (.lst [.ref u])) t = none) (lr : LRule wi f [(p, b)]) :
    Same H (upd (upd (upd H u (.tup [.str sp, .str sb])) m (.lst [.ref u])) t (.tup [.str sf, .ref m])) ∧ Ru1 wi (upd (upd (upd H u (.tup [.str sp, .str sb])) m (.lst [.ref u])) t (.tup [.str sf, .ref m])) (.ref t) := by
  subst ef ep eb
  have s1 : Same H (upd H u (.tup [.str (WS p), .str (WS [b])])) := same_new n
  have s2 := same_new (o := .lst [.ref u]) o
  have s3 := same_new (o := .tup [.str (WS f), .ref m]) q
  refine ⟨(s1.trans s2).trans s3, t, f, (p, b), rfl, ⟨m, [.ref u], upd_same, s3 _ _ upd_same, ⟨u, rfl, (s2.trans s3) _ _ upd_same⟩, trivial⟩, lr⟩
end Own
namespace Own
open PySem PySem.Spec PyProof.Rows L2
theorem and_join {c : Bool} {H : Hp} {TT : Hp → (Bool → Hp → Prop) → Prop} {X Y : Hp → Prop} (G : Hp → Prop) (h0 : c = false → G H) (h : c = true → ∀ k : Bool → Hp → Prop, (∀ H', X H' → k true H') → (∀ H', G H' → k false H') → TT H k) (hy : ∀ H', G H' → Y H') :
    if c = true then TT H (fun b H1 => if b = true then X H1 else Y H1) else (fun b H1 => if b = true then X H1 else Y H1) false H := by
  cases c with
  | true =>
    rw [if_pos rfl]
    exact h rfl _ (fun H' x => by show if true = true then _ else _; rw [if_pos rfl]; exact x) fun H' g => by
      show if false = true then _ else _
      rw [if_neg (by decide)]
      exact hy _ g
  | false =>
    rw [if_neg (by decide)]
    show if false = true then _ else _
    rw [if_neg (by decide)]
    exact hy _ (h0 rfl)
end Own
namespace Own
open PySem PySem.Spec PyProof.Rows L2
end Own
namespace Own
open PySem PySem.Spec PyProof.Rows L2
end Own

set_option Elab.async false
set_option linter.all false
set_option maxRecDepth 100000
set_option maxHeartbeats 2000000
namespace Own
open PySem PySem.Spec PyProof.Rows L2
def spRLong (C : Addr) : Sp := fun vs H Q _ => ∃ (p : Addr) (flag : List Bool) (ps : List Stf), vs = [.ref p] ∧ RlAt C H p flag ps ∧ ps.length ≤ 100 ∧ (∀ p ∈ ps, p.1.length ≤ 900) ∧ ∀ H', Same H H' → Q (.int (longL ps)) H'
/-- only the last bits count -/
theorem putL_tail {ps : List Stf} {u : List Bool} {n : Nat} (h : ∀ p ∈ ps, p.1.length ≤ n) : putL ps (u.drop (u.length - n)) = putL ps u := by
  unfold putL
  congr 1
  have e : ∀ p ∈ ps, decide (p.1 <:+ u.drop (u.length - n)) = decide (p.1 <:+ u) := fun p hp => by
    apply decide_eq_decide.mpr
    constructor
    · exact fun s => s.trans (List.drop_suffix _ _)
    · intro s
      refine List.suffix_of_suffix_length_le s (List.drop_suffix _ _) ?_
      rw [List.length_drop]
      have := h p hp
      have := s.length_le
      omega
  clear h
  induction ps with
  | nil => rfl
  | cons p r ih =>
    rw [List.find?_cons, List.find?_cons, e p List.mem_cons_self, ih fun q hq => e q (List.mem_cons_of_mem _ hq)]
end Own

set_option Elab.async false
set_option linter.all false
set_option maxRecDepth 100000
set_option maxHeartbeats 2000000
/-! lines: all that is put in behind a line, and the body of a message -/
namespace Own
open PySem PySem.Spec PyProof.Rows L2
theorem small5 {n : Nat} (h : n ≤ 100000) : n < sizeLine := Nat.lt_of_le_of_lt h (by decide)
theorem ls_len5 (z : List Bool) (h : z.length ≤ 100000) : (WS z).length ≤ sizeLine := by
  rw [WS_len]
  exact Nat.le_of_lt (small5 h)
theorem cat_len5 (u v : List Bool) (h : u.length + v.length ≤ 100000) : (WS u).length + (WS v).length ≤ sizeLine := by
  rw [WS_len, WS_len]
  exact Nat.le_of_lt (small5 h)
theorem puts_none {ps : List Stf} {u : List Bool} (h : putL ps u = none) : ∀ n, putsN ps n u = u
  | 0 => rfl
  | n + 1 => by
    rw [putsN_succ, puts_none h n]
    unfold stepP
    rw [h]
theorem puts_add {ps : List Stf} {u : List Bool} (g : Nat) : ∀ n, putsN ps (g + n) u = putsN ps n (putsN ps g u)
  | 0 => rfl
  | n + 1 => by
    rw [← Nat.add_assoc, putsN_succ, puts_add g n, putsN_succ]
/-- nothing more is put in -/
theorem puts_stop {ps : List Stf} {u : List Bool} {g n : Nat} (h : putL ps (putsN ps g u) = none) (hg : g ≤ n) : putsN ps n u = putsN ps g u := by
  obtain ⟨k, rfl⟩ := Nat.exists_eq_add_of_le hg
  rw [puts_add, puts_none h]
theorem puts_or (ps : List Stf) (u : List Bool) : ∀ n, (putsN ps n u).length = u.length + n ∨ putL ps (putsN ps n u) = none
  | 0 => .inl rfl
  | n + 1 => by
    rw [putsN_succ]
    unfold stepP
    cases e : putL ps (putsN ps n u) with
    | none => exact .inr e
    | some b =>
      rcases puts_or ps u n with h | h
      · refine .inl ?_
        show (putsN ps n u ++ [b]).length = _
        rw [List.length_append, h]
        rfl
      · rw [e] at h
        cases h
theorem puts_end {ps : List Stf} {u : List Bool} {n : Nat} (h : (putsN ps n u).length < u.length + n) : putL ps (putsN ps n u) = none :=
  (puts_or ps u n).elim (fun e => absurd e (by omega)) id
theorem putL_cat {ps : List Stf} (h4 : ∀ p ∈ ps, p.1.length ≤ 4) (x y : List Bool) (hy : 4 ≤ y.length) : putL ps (x ++ y) = putL ps y := by
  rw [← putL_tail (n := 4) h4, ← putL_tail (n := 4) (u := y) h4]
  congr 1
  rw [List.length_append, List.drop_append, List.drop_eq_nil_of_le (by omega : x.length ≤ x.length + y.length - 4), List.nil_append]
  congr 1
  omega
theorem puts_cat {ps : List Stf} (h4 : ∀ p ∈ ps, p.1.length ≤ 4) (x : List Bool) : ∀ (n : Nat) (y : List Bool), 4 ≤ y.length → putsN ps n (x ++ y) = x ++ putsN ps n y
  | 0, _, _ => rfl
  | n + 1, y, hy => by
    show putsN ps n (stepP ps (x ++ y)) = x ++ putsN ps n (stepP ps y)
    unfold stepP
    rw [putL_cat h4 x y hy]
    cases putL ps y with
    | none => exact puts_cat h4 x n y hy
    | some b =>
      show putsN ps n (x ++ y ++ [b]) = _
      rw [List.append_assoc]
      exact puts_cat h4 x n (y ++ [b]) (by rw [List.length_append]; omega)
theorem puts_ge (ps : List Stf) (u : List Bool) : ∀ n, u.length ≤ (putsN ps n u).length
  | 0 => Nat.le_refl _
  | n + 1 => by
    rw [putsN_succ]
    unfold stepP
    have := puts_ge ps u n
    split
    · rw [List.length_append]
      omega
    · exact this
theorem last5_cat (x z : List Bool) (h : 5 ≤ z.length) : last5 (x ++ z) = last5 z := by
  unfold last5
  rw [List.length_append, List.drop_append, List.drop_eq_nil_of_le (by omega : x.length ≤ x.length + z.length - 5), List.nil_append]
  congr 1
  omega
theorem snoc_ind {P : List Bool → Prop} (h0 : P []) (h1 : ∀ m b, P m → P (m ++ [b])) (m : List Bool) : P m := by
  have h : ∀ r : List Bool, P r.reverse := by
    intro r
    induction r with
    | nil => exact h0
    | cons b r ih =>
      rw [List.reverse_cons]
      exact h1 _ b ih
  have e := h m.reverse
  rw [List.reverse_reverse] at e
  exact e
/-- the body of a message -/
def bodyL (ps : List Stf) (m : List Bool) : List Bool := m.foldl (fun l b => putsN ps 24 (l ++ [b])) []
theorem bodyL_snoc (ps : List Stf) (m : List Bool) (b : Bool) : bodyL ps (m ++ [b]) = putsN ps 24 (bodyL ps m ++ [b]) := by
  unfold bodyL
  rw [List.foldl_append]
  rfl
theorem fill_line {ps : List Stf} {G : List Bool → Prop} (hc : Closed ps G) (h4 : ∀ p ∈ ps, p.1.length ≤ 4) {line : List Bool} (hl : G (last5 line)) (b : Bool) :
    G (last5 (putsN ps 24 (line ++ [b]))) ∧ putL ps (putsN ps 24 (line ++ [b])) = none ∧ (putsN ps 24 (line ++ [b])).length ≤ line.length + 20 := by
  obtain ⟨h1, h2⟩ := hc.2 _ hl b
  have hend : putL ps (putsN ps 24 (last5 line ++ [b])) = none := puts_end (by rw [List.length_append]; show _ < (last5 line).length + 1 + 24; omega)
  by_cases hs : line.length ≤ 5
  · have e : last5 line = line := by
      unfold last5
      rw [show line.length - 5 = 0 by omega]
      rfl
    rw [e] at h1 h2 hend
    exact ⟨h2, hend, h1⟩
  · obtain ⟨x, y, e, hy, el⟩ : ∃ x y, line = x ++ y ∧ y.length = 5 ∧ last5 line = y :=
      ⟨line.take (line.length - 5), line.drop (line.length - 5), (List.take_append_drop _ _).symm, by rw [List.length_drop]; omega, rfl⟩
    rw [el] at h1 h2 hend
    have hyl : (y ++ [b]).length = 6 := by rw [List.length_append, hy]; rfl
    have hge := puts_ge ps (y ++ [b]) 24
    rw [e, List.append_assoc, puts_cat h4 x 24 (y ++ [b]) (by omega), last5_cat _ _ (by omega), putL_cat h4 _ _ (by omega), List.length_append, List.length_append]
    exact ⟨h2, hend, by omega⟩
theorem body_ok {ps : List Stf} (hf : Fill ps) (h4 : ∀ p ∈ ps, p.1.length ≤ 4) (m : List Bool) (b : Bool) :
    putL ps (putsN ps 24 (bodyL ps m ++ [b])) = none ∧ (putsN ps 24 (bodyL ps m ++ [b])).length ≤ (bodyL ps m).length + 20 := by
  obtain ⟨G, hc⟩ := hf
  have hG : ∀ m : List Bool, G (last5 (bodyL ps m)) := by
    refine snoc_ind hc.1 fun m b ih => ?_
    rw [bodyL_snoc]
    exact (fill_line hc h4 ih b).1
  exact (fill_line hc h4 (hG m) b).2
theorem puts_perm {ps qs : List Stf} (h : ∀ u, putL qs u = putL ps u) : ∀ (n : Nat) (u : List Bool), putsN qs n u = putsN ps n u
  | 0, _ => rfl
  | n + 1, u => by
    rw [putsN_succ, putsN_succ, puts_perm h n u]
    unfold stepP
    rw [h]
theorem fill_perm {ps qs : List Stf} (h : ∀ u, putL qs u = putL ps u) (hf : Fill ps) : Fill qs := by
  obtain ⟨G, h0, h1⟩ := hf
  refine ⟨G, h0, fun s hs b => ?_⟩
  rw [puts_perm h]
  exact h1 s hs b
theorem take_snoc {m : List Bool} {i : Nat} {b : Bool} (h : m[i]? = some b) : m.take (i + 1) = m.take i ++ [b] := by
  rw [List.take_add_one, h]
  rfl
/-- a for that is left by break, too: what stands behind it is shown once -/
theorem for_itB {J : It} {n : Nat} {G : Hp → Prop} {Y : Nat → Hp → V → Hp → Prop} (w : Walk J n G Y) {g : TG} {tb : TS} {D : Ends} {σ : L2.St} {H : Hp} (Pv : Nat → L2.St → Hp → Prop) (B : L2.St → Hp → Prop) (h0 : Pv 0 σ H) (hG : ∀ i σ H, i ≤ n → Pv i σ H → G H)
    (hn : ∀ σ H, Pv n σ H → B σ H)
    (hs : (∀ σ H, B σ H → D.nx σ H) → ∀ i x σ H H', i < n → Pv i σ H → Y i H x H' → g x σ H' fun σ2 H2 => tb { D with nx := Pv (i + 1), ct := Pv (i + 1), bk := D.nx } σ2 H2) (hd : ∀ σ H, B σ H → D.nx σ H) :
    ∃ W : Nat → Nat → L2.St → Hp → Prop, (∃ m, W 0 m σ H) ∧ ∀ i m σ H, W i m σ H →
      (J.stop i H ∧ D.nx σ H) ∨ (J.go i H ∧ ∃ N : L2.St → Hp → Prop, (∀ σ' H', N σ' H' → ∃ m', m' < m ∧ W (i + 1) m' σ' H') ∧ ∀ x H', J.yld i H x H' → g x σ H' fun σ2 H2 => tb { D with nx := N, ct := N, bk := D.nx } σ2 H2) :=
  for_it w Pv h0 hG (hs hd) fun σ H p => hd σ H (hn σ H p)
open PySem.StrLaws in
theorem find_or (x y : Str) : (Txt.find x y = -1 ∧ ∀ i, ¬ At x y x.length i) ∨ ∃ i : Nat, Txt.find x y = (i : Int) ∧ At x y x.length i ∧ ∀ k, k < i → ¬ At x y x.length k := by
  rcases occ_head x y 1 (Nat.le_refl 1) with ⟨e, h⟩ | ⟨i, r, e, h1, h2⟩
  · refine .inl ⟨?_, h⟩
    unfold Txt.find
    rw [e]
  · refine .inr ⟨i, ?_, h1, h2⟩
    unfold Txt.find
    rw [e]
theorem bit_at {w : List Bool} {i : Nat} {c : Nat} (h : (WS w).cps[i]? = some c) : ∃ b, w[i]? = some b ∧ (⟨#[c]⟩ : Str) = WS [b] := by
  rw [WS_get] at h
  obtain ⟨b, hb, rfl⟩ := Option.map_eq_some_iff.mp h
  exact ⟨b, hb, rfl⟩
/-! ### promises -/
def spFilled (C : Addr) : Sp := fun vs H Q _ => ∃ (p : Addr) (flag : List Bool) (ps : List Stf) (line : List Bool), vs = [.ref p, .str (WS line)] ∧ RlAt C H p flag ps ∧ putL ps (putsN ps 24 line) = none ∧ line.length ≤ 90000 ∧ ∀ H', Same H H' → Q (.str (WS (putsN ps 24 line))) H'
end Own

set_option Elab.async false
set_option linter.all false
set_option maxRecDepth 100000
set_option maxHeartbeats 2000000
/-! rules compared, exchanged, told -/
namespace Own
open PySem PySem.Spec PyProof.Rows L2
/-! ### sorted: one result for all orders -/
/-! ### the order does not matter -/
theorem parted_iff {ws : List (List Bool)} : partedB ws = true ↔ ws.Pairwise fun a b => ¬ b <:+ a ∧ ¬ a <:+ b := by
  rw [List.pairwise_iff_getElem]
  constructor
  · intro h i j hi hj hij
    exact ⟨parted_ne h (List.getElem?_eq_getElem hi) (List.getElem?_eq_getElem hj) (by omega), parted_ne h (List.getElem?_eq_getElem hj) (List.getElem?_eq_getElem hi) (by omega)⟩
  · intro h
    refine partedB_of fun i j a b hi hj hne => ?_
    obtain ⟨li, ei⟩ := List.getElem?_eq_some_iff.mp hi
    obtain ⟨lj, ej⟩ := List.getElem?_eq_some_iff.mp hj
    rw [← ei, ← ej]
    rcases Nat.lt_or_gt_of_ne hne with hlt | hlt
    · exact (h i j li lj hlt).1
    · exact (h j i lj li hlt).2
theorem parted_perm {ws vs : List (List Bool)} (pm : vs.Perm ws) (h : partedB ws = true) : partedB vs = true := by
  rw [parted_iff] at h ⊢
  exact (pm.pairwise_iff fun {x y} h => ⟨h.2, h.1⟩).mpr h
theorem longL_perm {ps qs : List Stf} (pm : qs.Perm ps) : longL qs = longL ps :=
  Nat.le_antisymm (longL_le fun p hp => le_longL (pm.mem_iff.mp hp)) (longL_le fun p hp => le_longL (pm.mem_iff.mpr hp))
theorem ends_perm {ps qs : List Stf} (hp : ∀ u, putL qs u = putL ps u) (hl : longL qs = longL ps) : ∀ (n : Nat) (u : List Bool), endsIn qs n u = endsIn ps n u
  | 0, u => by
    unfold endsIn
    rw [hp]
  | n + 1, u => by
    unfold endsIn
    rw [hp]
    cases putL ps u with
    | none => rfl
    | some b =>
      show endsIn qs n (nextL qs u b) = endsIn ps n (nextL ps u b)
      unfold nextL
      rw [hl]
      exact ends_perm hp hl n _
theorem RuleOk.perm {ps qs : List Stf} (pm : qs.Perm ps) (ok : RuleOk ps) : RuleOk qs := by
  refine ⟨fun p hp => ok.ne p (pm.mem_iff.mp hp), fun p hp => ok.len p (pm.mem_iff.mp hp), by rw [pm.length_eq]; exact ok.few, parted_perm (pm.map _) ok.parted, ?_⟩
  have h := ok.ends
  unfold endsAll at h ⊢
  rw [List.all_eq_true] at h ⊢
  intro p hp
  rw [ends_perm (putL_perm ok.parted pm) (longL_perm pm)]
  exact h p (pm.mem_iff.mp hp)
theorem RuleOk.sort {ps : List Stf} (ok : RuleOk ps) : RuleOk (sortP ps) := ok.perm (sortP_perm ps)
/-! ### 0 and 1 exchanged -/
def nt (u : List Bool) : List Bool := u.map not
theorem nt_len (u : List Bool) : (nt u).length = u.length := List.length_map ..
/-! ### the data of stuffs -/
/-! ### promises -/
def spOther : Sp := fun vs H Q _ => ∃ w : List Bool, vs = [.str (WS w)] ∧ w.length ≤ 1000 ∧ ∀ H', Same H H' → Q (.str (WS (nt w))) H'
end Own
namespace Own
open PySem PySem.Spec PyProof.Rows L2
end Own

set_option Elab.async false
set_option linter.all false
set_option maxRecDepth 100000
set_option maxHeartbeats 2000000
/-! hits on a line -/
namespace Own
open PySem PySem.Spec PyProof.Rows L2
inductive Kd where
  | turn | lose | double
deriving DecidableEq
def kT : Kd → Str
  | .turn => "turn"
  | .lose => "lose"
  | .double => "double"
abbrev Ht := Nat × Kd
def HitAt (H : Hp) (v : V) (h : Ht) : Prop := ∃ t, v = V.ref t ∧ H t = some (.tup [.int (h.1 : Nat), .str (kT h.2)])
theorem HitAt.kp {H H' : Hp} {v : V} {h : Ht} (k : Kp H H') (x : HitAt H v h) : HitAt H' v h := by
  obtain ⟨t, e, x⟩ := x
  exact ⟨t, e, k _ _ x trivial⟩
def Hits (H : Hp) : List V → List Ht → Prop
  | [], [] => True
  | v :: vs, p :: ps => HitAt H v p ∧ Hits H vs ps
  | _, _ => False
theorem Hits.kp {H H' : Hp} (k : Kp H H') : ∀ {vs : List V} {ps : List Ht}, Hits H vs ps → Hits H' vs ps
  | [], [], _ => trivial
  | _ :: _, _ :: _, h => ⟨h.1.kp k, Hits.kp k h.2⟩
  | [], _ :: _, h => h.elim
  | _ :: _, [], h => h.elim
theorem Hits.len {H : Hp} : ∀ {vs : List V} {ps : List Ht}, Hits H vs ps → vs.length = ps.length
  | [], [], _ => rfl
  | _ :: _, _ :: _, h => congrArg Nat.succ (Hits.len h.2)
  | [], _ :: _, h => h.elim
  | _ :: _, [], h => h.elim
theorem Hits.snoc {H : Hp} : ∀ {vs : List V} {ps : List Ht} {v : V} {p : Ht}, Hits H vs ps → HitAt H v p → Hits H (vs ++ [v]) (ps ++ [p])
  | [], [], _, _, _, h => ⟨h, trivial⟩
  | _ :: _, _ :: _, _, _, h, h2 => ⟨h.1, Hits.snoc h.2 h2⟩
  | [], _ :: _, _, _, h, _ => h.elim
  | _ :: _, [], _, _, h, _ => h.elim
/-! ### dicts of unlike keys -/
/-! ### hits in order -/
/-! ### what arrives -/
def arrB (b : Bool) : Option Kd → List Bool
  | none => [b]
  | some .turn => [!b]
  | some .lose => []
  | some .double => [b, b]
/-! ### data of hits -/
/-! ### promises -/
def oK : Option Kd → V
  | none => .non
  | some k => .str (kT k)
def spArriving : Sp := fun vs H Q _ => ∃ (b : Bool) (k : Option Kd), vs = [.str (WS [b]), oK k] ∧ ∀ H', Same H H' → Q (.str (WS (arrB b k))) H'
end Own
namespace Own
open PySem PySem.Spec PyProof.Rows L2
end Own
namespace Own
open PySem PySem.Spec PyProof.Rows L2
end Own

set_option Elab.async false
set_option linter.all false
set_option maxRecDepth 100000
set_option maxHeartbeats 2000000
namespace Own
open PySem PySem.Spec PyProof.Rows L2
end Own
namespace Own
open PySem PySem.Spec PyProof.Rows L2
end Own

set_option Elab.async false
set_option linter.all false
set_option maxRecDepth 100000
set_option maxHeartbeats 2000000
namespace Own
open PySem PySem.Spec PyProof.Rows L2
open C8 (Mak)
section
variable {X : Cx} {j k i : Nat} {C : Addr} {sp : Sp} {dvs : List V} {x x0 : Str} {p pos : Pos} {e : Expr} {es : List Expr} {t : TA}
end
end Own

set_option Elab.async false
set_option linter.all false
set_option maxRecDepth 100000
set_option maxHeartbeats 2000000
/-! rules read from their texts -/
namespace Own
open PySem PySem.Spec PyProof.Rows L2
/-- a value by if, used once -/
theorem ife_join {c : Bool} {te1 te2 : TE} {σ : L2.St} {H : Hp} {k : VK} (G : V → Hp → Prop) (h1 : c = true → ∀ k : VK, (∀ v H', G v H' → k v H') → te1 σ H k) (h2 : c = false → ∀ k : VK, (∀ v H', G v H' → k v H') → te2 σ H k) (h : ∀ v H', G v H' → k v H') :
    if c = true then te1 σ H k else te2 σ H k := by
  cases c with
  | true => exact h1 rfl k h
  | false => exact h2 rfl k h
theorem RlAt.same {C p : Addr} {H H' : Hp} {f : List Bool} {ps : List Stf} (s : Same H H') (h : RlAt C H p f ps) : RlAt C H' p f ps := h.kp (kp_same s)
/-! ### promises -/
end Own
namespace Own
open PySem PySem.Spec PyProof.Rows L2
end Own

set_option Elab.async false
set_option linter.all false
set_option maxRecDepth 100000
set_option maxHeartbeats 2000000
namespace Own
open PySem PySem.Spec PyProof.Rows L2
/-! ### a single wrong bit is seen -/
end Own
namespace Own
open PySem PySem.Spec PyProof.Rows L2
end Own
namespace Own
open PySem PySem.Spec PyProof.Rows L2
end Own

set_option Elab.async false
set_option linter.all false
set_option maxRecDepth 100000
set_option maxHeartbeats 2000000
/-! lines: where a flag begins, what is taken out, what is received -/
namespace Own
open PySem PySem.Spec PyProof.Rows L2
/-! ### the first flag -/
def findW (v : List Bool) : List Bool → Option Nat
  | [] => if v.isEmpty then some 0 else none
  | b :: r => if v.isPrefixOf (b :: r) then some 0 else (findW v r).map (· + 1)
theorem findW_some {v : List Bool} : ∀ {u : List Bool} {i : Nat}, findW v u = some i → v <+: u.drop i ∧ ∀ k, k < i → ¬ v <+: u.drop k
  | [], i, h => by
    unfold findW at h
    split at h
    · rename_i e
      cases h
      rw [List.isEmpty_iff.mp e]
      exact ⟨List.nil_prefix, fun k hk => absurd hk (Nat.not_lt_zero k)⟩
    · cases h
  | b :: r, i, h => by
    unfold findW at h
    split at h
    · rename_i e
      cases h
      exact ⟨List.isPrefixOf_iff_prefix.mp e, fun k hk => absurd hk (Nat.not_lt_zero k)⟩
    · rename_i e
      obtain ⟨j, hj, rfl⟩ := Option.map_eq_some_iff.mp h
      obtain ⟨h1, h2⟩ := findW_some hj
      refine ⟨h1, fun k hk => ?_⟩
      cases k with
      | zero => exact fun z => e (List.isPrefixOf_iff_prefix.mpr z)
      | succ k => exact h2 k (by omega)
theorem findW_none {v : List Bool} (hv : v ≠ []) : ∀ {u : List Bool}, findW v u = none → ∀ k, ¬ v <+: u.drop k
  | [], _, k => by
    rw [List.drop_nil]
    exact fun z => hv (List.prefix_nil.mp z)
  | b :: r, h, k => by
    unfold findW at h
    split at h
    · cases h
    · rename_i e
      have h' := Option.map_eq_none_iff.mp h
      cases k with
      | zero => exact fun z => e (List.isPrefixOf_iff_prefix.mpr z)
      | succ k => exact findW_none hv h' k
theorem findW_uniq {v u : List Bool} {i : Nat} (h1 : v <+: u.drop i) (h2 : ∀ k, k < i → ¬ v <+: u.drop k) (hv : v ≠ []) : findW v u = some i := by
  cases e : findW v u with
  | none => exact absurd h1 (findW_none hv e i)
  | some j =>
    obtain ⟨g1, g2⟩ := findW_some e
    rcases Nat.lt_trichotomy i j with h | h | h
    · exact absurd h1 (g2 i h)
    · rw [h]
    · exact absurd g1 (h2 j h)
theorem pre_WS (v u : List Bool) (i : Nat) : TL.pre (TL.tl (WS v)) ((TL.tl (WS u)).drop i) = true ↔ v <+: u.drop i := by
  have e1 : TL.tl (WS v) = v.map cd := rfl
  have e2 : TL.tl (WS u) = u.map cd := rfl
  rw [e1, e2]
  unfold TL.pre
  rw [beq_iff_eq, List.length_map, ← List.map_drop, ← List.map_take, List.prefix_iff_eq_take]
  exact ⟨fun h => (map_cd_inj h).symm, fun h => by rw [← h]⟩
theorem find_WS (v u : List Bool) (hv : v ≠ []) : Txt.find (WS u) (WS v) = (match findW v u with | some i => (i : Int) | none => -1) := by
  have ht : TL.tl (WS v) ≠ [] := by
    intro e
    have e' : v.map cd = [] := e
    exact hv (List.map_eq_nil_iff.mp e')
  rcases find_or (WS u) (WS v) with ⟨e, h⟩ | ⟨i, e, h, hk⟩
  · rw [e]
    cases ef : findW v u with
    | none => rfl
    | some j => exact absurd ((TL.at_iff ht j).mpr ((pre_WS v u j).mpr (findW_some ef).1)) (h j)
  · rw [e, findW_uniq ((pre_WS v u i).mp ((TL.at_iff ht i).mp h)) (fun k hl z => hk k hl ((TL.at_iff ht k).mpr ((pre_WS v u k).mpr z))) hv]
/-! ### what is taken out -/
def takGo (ps : List Stf) : List Bool → List Bool → List Bool → Option (List Bool)
  | ahead, msg, [] => if (putL ps ahead).isSome then none else some msg
  | ahead, msg, b :: r => match putL ps ahead with
    | none => takGo ps (ahead ++ [b]) (msg ++ [b]) r
    | some d => if d = b then takGo ps (ahead ++ [b]) msg r else none
def takL (ps : List Stf) (line : List Bool) : Option (List Bool) := takGo ps [] [] line
/-! ### what is told of a part, of a line -/
def partV (ps : List Stf) (poly st part : List Bool) : Str × V := match takL ps part with
  | none => ("put", .non)
  | some m => if goodB poly st m then ("good", .str (WS (m.take (m.length - st.length)))) else ("check", .non)
def oW : Option (List Bool) → V
  | none => .non
  | some w => .str (WS w)
/-! ### promises -/
end Own
namespace Own
open PySem PySem.Spec PyProof.Rows L2
end Own
namespace Own
open PySem PySem.Spec PyProof.Rows L2
open C8 (Cal)
end Own

set_option Elab.async false
set_option linter.all false
set_option maxRecDepth 100000
set_option maxHeartbeats 2000000
/-! the other rule search: last four bits, chains of forty -/
namespace Own
open PySem PySem.Spec PyProof.Rows L2
def last4 (u : List Bool) : List Bool := u.drop (u.length - 4)
theorem last4_full {u : List Bool} (h : 4 ≤ u.length) : (last4 u).length = 4 := by
  unfold last4
  rw [List.length_drop]
  omega
theorem putL_last4 {ps : List Stf} (h4 : ∀ p ∈ ps, p.1.length ≤ 4) (u : List Bool) : putL ps (last4 u) = putL ps u := putL_tail h4
theorem puts_pre (ps : List Stf) (u : List Bool) : ∀ n, u <+: putsN ps n u
  | 0 => List.prefix_rfl
  | n + 1 => by
    rw [putsN_succ]
    unfold stepP
    split
    · exact (puts_pre ps u n).trans (List.prefix_append _ _)
    · exact puts_pre ps u n
/-! ### promises -/
end Own
namespace Own
open PySem PySem.Spec PyProof.Rows L2
end Own
namespace Own
open PySem PySem.Spec PyProof.Rows L2
end Own
namespace Own
open PySem PySem.Spec PyProof.Rows L2
end Own
namespace Own
open PySem PySem.Spec PyProof.Rows L2
end Own

set_option Elab.async false
set_option linter.all false
set_option maxRecDepth 100000
set_option maxHeartbeats 2000000
/-! a def that is handed a function made in the calling def, and calls it -/
namespace Clo
open PySem PySem.Spec PyProof.Rows L2 LamX NdefX
/-- the promise of a def that may speak of the heap and the frames at its entry -/
structure FnOkH (P : Program) (w : World) (K : PySem.W.Frag) (mg : Str → Option Value) (base : Heap) (CX : CXT) (k : Nat) (f : Addr) (fd : FuncData) (ps : List Str) (sp : List Env → Heap → Sp) : Prop where
  len : ∀ o h vs H Q E, sp o h vs H Q E → vs.length = ps.length
  run : ∀ (A : Around) (outer : List Env) (s : Shared) (H : Hp) (args : Args) (us : List Value) (vs : List V) (Q : VK) (E : XK), Room k A → Env0 P w K mg base A outer s H → BindsTo s fd args (ps.zip us) → Vals vs us → sp outer s.heap vs H Q E →
    codeAny (model P w) A (.call (.ref f) args) (CR CX outer P w H s Q E) s
section
variable {P : Program} {w : World} {K : PySem.W.Frag} {mg : Str → Option Value} {base : Heap}
theorem fn_ofH {CX : CXT} {k : Nat} {f : Addr} {name qual : Str} {params : Arguments} {body : List Stmt} {scope : Scope} {dV kV doc pm cdv ct oc : Value} {an od : Option Addr}
    {osl : Array (Option Value)} {N ps : List Str} {sp : List Env → Heap → Sp} (lk : K.lookup f = some ⟨oc, od, .func (PySem.W.fnOf name qual params body scope dV kV doc pm an cdv ct), osl⟩) (hcd : PySem.W.codeIn K cdv qual = true) (S : FnScope N ps scope)
    (len : ∀ o h vs H Q E, sp o h vs H Q E → vs.length = ps.length)
    (hbody : ∀ (A : Around) (outer : List Env) (s : Shared) (H : Hp) (vs : List V) (Q : VK) (E : XK), Room k (A.deeper (envOfC qual scope s.heap.objs.size f cdv)) → sp outer s.heap vs H Q E →
      ∃ t, PSs (cxOf CX P w K mg base N qual scope f cdv A outer s H E) body t ∧ t { nx := fun _ H' => Q .non H', rt := Q } (L2.start N vs) H) :
    FnOkH P w K mg base CX (k + 1) f (PySem.W.fnOf name qual params body scope dV kV doc pm an cdv ct) ps sp := by
  refine ⟨len, fun A outer s H args us vs Q E hr e0 hb r hsp => ?_⟩
  have hl := len _ _ _ _ _ _ hsp
  have KX : K.In s.heap := e0.mod.kin.keeps fun b o e => (e0.bs b o e).1
  have lim : s.heap.NoLimit := e0.mod.nolimit.keeps fun b o e => (e0.bs b o e).1
  have hkind : ∀ y ∈ ps.zip us, scope.names.lookup y.1 = some .local ∨ (scope.names.lookup y.1 = some .cell ∧ ((cellsFrom (s.heap.objs.size + 1) scope.names []).lookup y.1).isSome = true) := fun ⟨n, v⟩ hy => by
    rcases S.par n (List.of_mem_zip hy).1 with q | q
    · exact .inl q
    · exact .inr ⟨q, PySem.W.cellsFrom_some _ _ _ (.inl q)⟩
  refine codeAny_call_function hr.depth (KX _ _ lk) rfl S.co S.gen rfl (PySem.W.codeRec_of KX hcd) (hb _ _ _ _ ?_)
  refine wpAny_newFunctionEnv_cells S.kind hkind fun env he s1 x => ?_
  subst he
  refine ⟨lim.keeps x.toInCall.keep, codeAny_func ?_⟩
  obtain ⟨t, ht, hq⟩ := hbody A outer s H vs Q E (hr.deeper _) hsp
  have I : Inv (cxOf CX P w K mg base N qual scope f cdv A outer s H E) [] (L2.start N vs) H s1 := inv_start S hr.hd e0 hl r x
  refine wpAny_mono (ht.run [] s1 (L2.start N vs) H _ I hq) (fun fl s' hs => ?_) fun e s' hs => hs
  have fin : ∀ {σ' : L2.St} {H' : Hp} {v : V} {u : Value}, Inv (cxOf CX P w K mg base N qual scope f cdv A outer s H E) [] σ' H' s' → RelV v u → Q v H' → CE outer P w H s Q u s' :=
    fun {σ' H' v u} J rv q => ⟨v, H', J.os, J.bare, J.base, J.hok, rv, q⟩
  cases fl with
  | ret u =>
    obtain ⟨v, σ', H', J, rv, q⟩ := hs
    exact fin J rv q
  | next =>
    obtain ⟨σ', H', J, q⟩ := hs
    exact fin (v := V.non) (u := Value.none) J rfl q
  | brk =>
    obtain ⟨_, _, _, q⟩ := hs
    exact False.elim q
  | cont =>
    obtain ⟨_, _, _, q⟩ := hs
    exact False.elim q
/-- a def by its body -/
theorem fnH {x qual : Str} {st : Stmt} {f : Addr} {fd : FuncData} {N ps : List Str} {k : Nat} {sp : List Env → Heap → Sp} (F : C8.Fun K x qual st f fd) (S : FnScope N ps (C8.fnScope st)) (len : ∀ o h vs H Q E, sp o h vs H Q E → vs.length = ps.length)
    (hbody : ∀ (cdv : Value) (A : Around) (outer : List Env) (s : Shared) (H : Hp) (vs : List V) (Q : VK) (E : XK), Room k (A.deeper (envOfC qual (C8.fnScope st) s.heap.objs.size f cdv)) → sp outer s.heap vs H Q E →
      ∃ t, PSs (cxOf CX0 P w K mg base N qual (C8.fnScope st) f cdv A outer s H E).nox (C8.fnBody st) t ∧ t { nx := fun _ H' => Q .non H', rt := Q } (L2.start N vs) H) : FnOkH P w K mg base CX0 (k + 1) f fd ps sp := by
  obtain ⟨oc, od, dV, kV, doc, pm, an, cdv, ct, osl, rfl, lk, hcd⟩ := F.ex
  refine fn_ofH lk hcd S len fun A outer s H vs Q E hr hsp => ?_
  obtain ⟨t, h, q⟩ := hbody cdv A outer s H vs Q E hr hsp
  exact ⟨t, h.nox, q⟩
end
/-! ### the parameter that is called -/
def tCallP (f : Addr) (F : NF) (ws : List (Option V)) (i : Nat) (sp : List (Option V) → Sp) (E : XK) (t : TA) : TE := fun σ H Q => σ[i]? = some (some (.ref f)) ∧ H f = some (FnO f F) ∧
  t σ H fun vs H1 => H1 f = some (FnO f F) ∧ H1 F.c = some (CodeO F.c F.qual) ∧ sp ws vs H1 Q E
section
variable {X : Cx} {CX : CXT} {f : Addr} {F : NF} {ws : List (Option V)} {ps fr : List Str} {i j k : Nat} {x : Str} {sp : List (Option V) → Sp} {E : XK} {t : TA} {e : Expr} {es : List Expr} {p pos : Pos}
theorem pe_callp (Fn : NOk X.prog X.w X.K X.mg X.base CX k f F ps fr sp) (C : CellsAt F.cl fr ws X.s_0.heap X.H_0) (nf : ∀ y c, F.cl.lookup y = some c → c ∉ X.fs) (ne : ∀ y c, F.cl.lookup y = some c → c ∉ X.ex) (hr : Room j X.A) (hk : k ≤ j) (hx : Passes CX X E) (hN : X.N[i]? = some x) (hv : Vis X.env.scope x) (ha : PA X (e :: es) t)
    (hd : (x == ("__debug__" : Str)) = false := by decide) (hcd : (x == ("__classdict__" : Str)) = false := by decide)
    (he : starEach (e :: es) X.env = (false, eval e X.env) :: starEach es X.env := by rfl) (hpl : (backTo pos (starEach es X.env)).any (·.1) = false := by rfl) :
    PE X (.Call (.Name x p) (e :: es) [] pos) (tCallP f F ws i sp E t) := by
  refine ⟨fun pins s σ H Q I h => ?_⟩
  obtain ⟨hs, hf, ht⟩ := h
  refine wpAny_Call_Name_kw (thn ((pe_var (pos := p) hN hv hd hcd).run pins s σ H (fun v H1 => v = .ref f ∧ H1 = H) I ⟨.ref f, hs, rfl, rfl⟩) fun u s1 ⟨v, H1, I1, r1, q1⟩ => ?_)
  obtain ⟨ev, eH⟩ := q1
  subst ev
  rw [eH] at I1
  obtain rfl : u = Value.ref f := r1
  refine PySem.W.callWith_F (first := []) (fnAt_of I1 hf) (thn (ha.run pos pins s1 σ H _ I1 ht) fun us s2 ⟨vs, H2, I2, r, h1, h2, q⟩ => ⟨fnAt_of I2 h1, ?_⟩) he hpl
  show wpAny _ _ (call (.ref f) us) _ _ _
  refine wpAny_call (codeAny_mono (Fn.run X.A X.stack s2 H2 us vs ws Q E (hr.mono hk) I2.env0 h1 h2 (C.later nf ne I2) r q) fun r s' hq => ?_)
  cases r with
  | error e => exact hx pins σ H2 s2 e s' I2 hq
  | ok fl =>
    cases fl with
    | ret u => exact I2.after hq
    | next => exact False.elim hq
    | brk => exact False.elim hq
    | cont => exact False.elim hq
end
/-! ### the call that hands the function over -/
/-- a def that takes one function: what its caller must show -/
abbrev HSp := List Str → Addr → NF → List (Option V) → Sp
def hSp (sp : HSp) : List Env → Heap → Sp := fun outer h vs H Q E => ∃ (fr : List Str) (f : Addr) (F : NF) (ws : List (Option V)), CellsAt F.cl fr ws h H ∧ (∀ y c, F.cl.lookup y = some c → c ∉ frs outer) ∧ H f = some (FnO f F) ∧ H F.c = some (CodeO F.c F.qual) ∧ sp fr f F ws vs H Q E
def tCallC (mk : Addr → NF) (js : List Nat) (fr : List Str) (sp : HSp) (t : TA) : TE := fun σ H Q => t σ H fun vs H1 => ∃ f c', H1 f = some (FnO f (mk c')) ∧ H1 (mk c').c = some (CodeO (mk c').c (mk c').qual) ∧ sp fr f (mk c') (js.map (slotAt σ)) vs H1 Q C8.E0
section
variable {X : Cx} {mk : Addr → NF} {cl : List (Str × Addr)} {fr ps : List Str} {js : List Nat} {j k : Nat} {x : Str} {g : Addr} {fd : FuncData} {sp : HSp} {t : TA} {e : Expr} {es : List Expr} {p pos : Pos}
theorem cells_young {pins : List (Addr × Obj)} {σ : L2.St} {H : Hp} {s : Shared} (I : Inv X pins σ H s) (cp : Caps X cl fr js) (hfn : ∀ y, X.fn y = true) : ∀ y c, cl.lookup y = some c → c ∉ frs X.stack := fun y c e hb => by
  have e2 := cp.sub y c e
  rcases List.mem_cons.mp (I.stkSub c hb) with h | h
  · exact I.cne y c e2 h
  · obtain ⟨_, o, ho, _⟩ := I.ok.funs.mem h
    have h1 := Heap.lt_size ho
    have h2 := I.ok.cab y c (hfn y) e2
    exact absurd h1 (Nat.not_lt.mpr h2)
theorem pe_callC (Fh : FnOkH X.prog X.w X.K X.mg X.base CX0 k g fd ps (hSp sp)) (hcl : ∀ c', (mk c').cl = cl) (cp : X.Ok → Caps X cl fr js) (hfn : ∀ y, X.fn y = true) (hr : Room j X.A) (hk : k ≤ j) (hg : Gl X x) (hm : X.mg x = some (.ref g)) (hkp : PySem.W.keepIn X.K (.ref g) = true) (hb : Binds X.K fd ps [])
    (ha : PA X (e :: es) t) (hdb : (x == ("__debug__" : Str)) = false := by decide) (he : starEach (e :: es) X.env = (false, eval e X.env) :: starEach es X.env := by rfl) (hpl : (backTo pos (starEach es X.env)).any (·.1) = false := by rfl) :
    PE X (.Call (.Name x p) (e :: es) [] pos) (tCallC mk js fr sp t) := by
  refine ⟨fun pins s σ H Q I h => ?_⟩
  refine wpAny_Call_Name_kw (ld_glob I hg hm ?_ hdb)
  refine PySem.W.callWith_K (h₀ := X.base) I.ok.mod.kin hkp (thn (ha.run pos pins s σ H _ I h) fun us s1 ⟨vs, H1, I1, r, q⟩ => ⟨I1.kIn, ?_⟩) he hpl
  obtain ⟨f, c', h1, h2, q⟩ := q
  have C := cells_of I1 (cp I1.ok)
  have hh : hSp sp X.stack s1.heap vs H1 Q C8.E0 := ⟨fr, f, mk c', js.map (slotAt σ), by rw [hcl c']; exact C, by rw [hcl c']; exact cells_young I1 (cp I1.ok) hfn, h1, h2, q⟩
  have hl : us.length = ps.length := by rw [← r.length]; exact Fh.len _ _ _ _ _ _ hh
  have hb1 : BindsTo s1 fd ⟨us, []⟩ (ps.zip us) := by
    have := hb s1 us I1.kIn (by rw [List.append_nil]; exact hl)
    rwa [List.append_nil] at this
  show wpAny _ _ (call (.ref g) us) _ _ _
  refine wpAny_call (codeAny_mono (Fh.run X.A X.stack s1 H1 ⟨us, []⟩ us vs Q C8.E0 (hr.mono hk) I1.env0 hb1 r hh) fun r s' hq => ?_)
  cases r with
  | error e => exact (C8.pass0 (E := C8.E0)) pins σ H1 s1 e s' I1 hq
  | ok fl =>
    cases fl with
    | ret u => exact I1.after hq
    | next => exact False.elim hq
    | brk => exact False.elim hq
    | cont => exact False.elim hq
end
/-! ### the end of a law whose defs make functions -/
def TopTab (q : Program) (K : PySem.W.Frag) (h : Heap) : Prop := ∀ (x : Str) (c P : Addr), ((recsOf q).find? fun e => e.name == x).isSome = true → PySem.W.tabIn K x = some (c, P) → PySem.W.CodeHd h c P ∧ h.get? P = some { cls := .none, data := .fields #[] }
theorem walk_ofTop {l : PySem.W.OpenLaw} {n k : Nat} {q : Program} {loose : List Str} {XP : (Str → Option Value) → Heap → Prop} {YP : World → Heap → Prop} {d : DefRec} {K : Params → PySem.W.Frag} {CX : World → CXT} {x : Str}
    (hn : l.most = some n) (hn2 : n ≤ sizeLine) (hdf : d.params.defaults = []) (hr : Room k callerA) (hY : ∀ (w : World) (h : Heap), YP w h → (K w.params).In h)
    (F : ∀ (w : World) (mg : Str → Option Value) (fa : Addr) (h : Heap), (K w.params).In h → h.Ns mainGlobals mg → mg d.name = some (.ref fa) → TopTab q (K w.params) h → LawAtS l w (K w.params) (CX w) k n x mg fa h)
    (hCX : ∀ (w : World) (H : Hp) (s : Shared) (e : Value) (s' : Shared), CX w [] H s (fun _ _ _ => False) e s' → False) :
    PySem.W.WalkO q loose XP YP l.row.toRowW d [] (fun f vs => PySem.call f vs) := by
  refine Att.attach_callB hn hdf fun w s₀ s₁ mg mb fa o pm cd doc a vs ns G Y ho hd hcd hmg hobj hints hlen hbits hg => ?_
  have KX := hY w _ Y
  obtain ⟨fd, cs, sp, hT, nT, C, hb, hsp, hF⟩ := F w mg fa _ KX G.T.g hmg fun x c P hx ht => by
    obtain ⟨d, hd⟩ := Option.isSome_iff_exists.mp hx
    exact PySem.W.tab_of G.T KX hd ht
  exact law_callTs KX G.T.g G.T.b G.T.builtins G.T.nolimit hg hT nT C G.T.bmain hobj hints (Nat.le_trans hlen hn2) hr hF hb (fun H hH hS => hsp H a ns hlen hbits hH hS) fun H e s' => hCX w H s₁ e s'
end Clo
namespace Clo
open PySem PySem.Spec PyProof.Rows L2 LamX NdefX
/-- a def by its body; its code object is known -/
theorem fn0c {P : Program} {w : World} {K : PySem.W.Frag} {mg : Str → Option Value} {base : Heap} {x qual : Str} {st : Stmt} {f : Addr} {fd : FuncData} {N ps : List Str} {k : Nat} {sp : Sp} (F : C8.Fun K x qual st f fd) (S : FnScope N ps (C8.fnScope st)) (len : ∀ vs H Q E, sp vs H Q E → vs.length = ps.length)
    (hbody : ∀ (cdv : Value) (A : Around) (outer : List Env) (s : Shared) (H : Hp) (vs : List V) (Q : VK) (E : XK), fd.code = cdv → Room k (A.deeper (envOfC qual (C8.fnScope st) s.heap.objs.size f cdv)) → sp vs H Q E →
      ∃ t, PSs (cxOf CX0 P w K mg base N qual (C8.fnScope st) f cdv A outer s H E).nox (C8.fnBody st) t ∧ t { nx := fun _ H' => Q .non H', rt := Q } (L2.start N vs) H) : FnOk P w K mg base CX0 (k + 1) f fd ps sp := by
  obtain ⟨oc, od, dV, kV, doc, pm, an, cdv, ct, osl, rfl, lk, hcd⟩ := F.ex
  refine fn_of lk hcd S len fun A outer s H vs Q E hr hsp => ?_
  obtain ⟨t, h, q⟩ := hbody cdv A outer s H vs Q E rfl hr hsp
  exact ⟨t, h.nox, q⟩
end Clo
namespace Clo
open PySem PySem.Spec PyProof.Rows L2
theorem tabIn_of {K : PySem.W.Frag} {x : Str} {f c P : Addr} {oc e : Value} {od dd : Option Addr} {fd : FuncData} {osl sl : Array (Option Value)} {vs : Array Value} (h1 : PySem.W.nsIn K mainGlobals x = some (some (.ref f))) (h2 : K.lookup f = some ⟨oc, od, .func fd, osl⟩) (h3 : fd.code = .ref c) (h4 : K.lookup c = some ⟨e, dd, .fields vs, sl⟩) (h5 : vs[11]? = some (.ref P)) : PySem.W.tabIn K x = some (c, P) := by
  unfold PySem.W.tabIn
  simp only [h1, h2, h3, h4, h5]
end Clo

set_option Elab.async false
set_option linter.all false
set_option maxRecDepth 100000
set_option maxHeartbeats 2000000
/-! a rule that puts a zero behind each one; all words of a size -/
namespace Own
open PySem PySem.Spec PyProof.Rows L2
end Own

set_option Elab.async false
set_option linter.all false
set_option maxRecDepth 100000
set_option maxHeartbeats 2000000
/-! the walk by levels: the first message that is refused -/
namespace Own
open PySem PySem.Spec PyProof.Rows L2
/-- the messages in their order, as numbers -/
def codeM (m : List Bool) : Nat := m.foldl (fun n b => 2 * n + (if b then 1 else 0)) 1
theorem codeM_snoc (m : List Bool) (b : Bool) : codeM (m ++ [b]) = 2 * codeM m + (if b then 1 else 0) := by
  unfold codeM
  rw [List.foldl_append]
  rfl
abbrev Stp := List Bool → Bool → Option (List Bool)
def runG (g : Stp) (m : List Bool) : Option (List Bool) := m.foldl (fun o b => o.bind fun s => g s b) (some [])
theorem runG_snoc (g : Stp) (m : List Bool) (b : Bool) : runG g (m ++ [b]) = (runG g m).bind fun s => g s b := by
  unfold runG
  rw [List.foldl_append]
  rfl
def FirstR (g : Stp) (M : List Bool) : Prop := runG g M = none ∧ ∀ m, codeM m < codeM M → runG g m ≠ none
def FR (g : Stp) : Option (List Bool) → Prop
  | none => ∀ m, runG g m ≠ none
  | some M => FirstR g M
abbrev Pr2 := List Bool × List Bool
def bi (c : Bool) : Nat := if c then 1 else 0
structure Bfs (g : Stp) (L : Nat) (A : List Pr2) (q j : Nat) : Prop where
  run : ∀ (i : Nat) (s m : List Bool), A[i]? = some (s, m) → runG g m = some s
  asc : A.Pairwise fun x y => codeM x.2 < codeM y.2
  root : A[0]? = some ([], [])
  nd : (A.tail.map (·.1)).Nodup
  len : ∀ x ∈ A, x.1.length ≤ L
  mlen : ∀ (i : Nat) (s m : List Bool), A[i]? = some (s, m) → m.length ≤ i
  done : ∀ (i : Nat) (s m : List Bool) (c : Bool), A[i]? = some (s, m) → (i < q ∨ i = q ∧ bi c < j) → ∃ t, g s c = some t ∧ ∃ (k : Nat) (m2 : List Bool), A[k]? = some (t, m2) ∧ codeM m2 ≤ codeM (m ++ [c])
  young : ∀ (s m : List Bool), A[q]? = some (s, m) → ∀ x ∈ A, codeM x.2 < 2 * codeM m + j
  le : q ≤ A.length
theorem Bfs.start (g : Stp) (L : Nat) : Bfs g L [([], [])] 0 0 := by
  refine ⟨fun i s m h => ?_, List.pairwise_singleton _ _, rfl, List.nodup_nil, fun x hx => ?_, fun i s m h => ?_, fun i s m c _ h => ?_, fun s m h x hx => ?_, Nat.zero_le _⟩
  · cases i with
    | zero => cases h; rfl
    | succ i => simp at h
  · rw [List.mem_singleton.mp hx]
    exact Nat.zero_le _
  · cases i with
    | zero => cases h; exact Nat.le_refl _
    | succ i => simp at h
  · rcases h with h | ⟨_, h⟩ <;> exact absurd h (Nat.not_lt_zero _)
  · cases h
    rw [List.mem_singleton.mp hx]
    decide
theorem tail_get {A : List Pr2} {t : List Bool} (h : t ∈ A.tail.map (·.1)) : ∃ (k : Nat) (m2 : List Bool), A[k]? = some (t, m2) ∧ (t, m2) ∈ A := by
  obtain ⟨x, hx, rfl⟩ := List.mem_map.mp h
  have hm := List.mem_of_mem_tail hx
  obtain ⟨k, hk⟩ := List.getElem?_of_mem hm
  exact ⟨k, x.2, hk, hm⟩
/-- a place that was met before -/
theorem Bfs.old {g : Stp} {L : Nat} {A : List Pr2} {q j : Nat} {s m t : List Bool} (b : Bfs g L A q j) (hq : A[q]? = some (s, m)) (hj : j < 2) (hg : g s (decide (j = 1)) = some t) (ht : t ∈ A.tail.map (·.1)) : Bfs g L A q (j + 1) := by
  refine ⟨b.run, b.asc, b.root, b.nd, b.len, b.mlen, fun i s' m' c hi h => ?_, fun s' m' h x hx => Nat.lt_succ_of_lt (b.young s' m' h x hx), b.le⟩
  by_cases e : i = q ∧ bi c = j
  · obtain ⟨rfl, ec⟩ := e
    rw [hq] at hi
    cases hi
    have ec2 : c = decide (j = 1) := by
      cases c
      · rw [← ec]; rfl
      · rw [← ec]; rfl
    subst ec2
    obtain ⟨k, m2, hk, hm⟩ := tail_get ht
    refine ⟨t, hg, k, m2, hk, ?_⟩
    have hy : codeM m2 < 2 * codeM m + j := b.young s m hq _ hm
    rw [codeM_snoc]
    have ej : j = (if decide (j = 1) = true then 1 else 0) := ec.symm
    omega
  · refine b.done i s' m' c hi ?_
    rcases h with h | ⟨h1, h2⟩
    · exact .inl h
    · refine .inr ⟨h1, ?_⟩
      have : bi c ≠ j := fun z => e ⟨h1, z⟩
      omega
/-- a new place -/
theorem Bfs.new {g : Stp} {L : Nat} {A : List Pr2} {q j : Nat} {s m t : List Bool} (b : Bfs g L A q j) (hq : A[q]? = some (s, m)) (hj : j < 2) (hg : g s (decide (j = 1)) = some t) (hl : t.length ≤ L) (ht : t ∉ A.tail.map (·.1)) : Bfs g L (A ++ [(t, m ++ [decide (j = 1)])]) q (j + 1) := by
  have hql := (List.getElem?_eq_some_iff.mp hq).1
  have ej : codeM (m ++ [decide (j = 1)]) = 2 * codeM m + j := by
    rw [codeM_snoc]
    match j, hj with
    | 0, _ => rfl
    | 1, _ => rfl
  have up : ∀ {k : Nat} {x : Pr2}, A[k]? = some x → (A ++ [(t, m ++ [decide (j = 1)])])[k]? = some x := fun {k x} h => by
    rw [List.getElem?_append_left (List.getElem?_eq_some_iff.mp h).1]
    exact h
  have dn : ∀ {k : Nat} {x : Pr2}, (A ++ [(t, m ++ [decide (j = 1)])])[k]? = some x → A[k]? = some x ∨ k = A.length ∧ x = (t, m ++ [decide (j = 1)]) := fun {k x} h => by
    by_cases hk : k < A.length
    · rw [List.getElem?_append_left hk] at h
      exact .inl h
    · rw [List.getElem?_append_right (by omega)] at h
      cases e : k - A.length with
      | zero =>
        rw [e] at h
        cases h
        exact .inr ⟨by omega, rfl⟩
      | succ n =>
        rw [e] at h
        simp at h
  have hne : A ≠ [] := fun e => by rw [e] at hql; exact absurd hql (Nat.not_lt_zero _)
  have etl : (A ++ [(t, m ++ [decide (j = 1)])]).tail = A.tail ++ [(t, m ++ [decide (j = 1)])] := List.tail_append_of_ne_nil hne
  refine ⟨fun i s' m' h => ?_, ?_, up b.root, ?_, fun x hx => ?_, fun i s' m' h => ?_, fun i s' m' c hi h => ?_, fun s' m' h x hx => ?_, by rw [List.length_append]; exact Nat.le_trans b.le (Nat.le_add_right _ _)⟩
  · rcases dn h with h | ⟨_, h⟩
    · exact b.run i s' m' h
    · cases h
      rw [runG_snoc, b.run q s m hq]
      exact hg
  · rw [List.pairwise_append]
    refine ⟨b.asc, List.pairwise_singleton _ _, fun x hx y hy => ?_⟩
    rw [List.mem_singleton.mp hy]
    show codeM x.2 < codeM (m ++ [decide (j = 1)])
    rw [ej]
    exact b.young s m hq x hx
  · rw [etl, List.map_append, List.nodup_append]
    refine ⟨b.nd, by simp, fun x hx y hy e => ?_⟩
    have hy' : y = t := by simpa using hy
    rw [e, hy'] at hx
    exact ht hx
  · rcases List.mem_append.mp hx with h | h
    · exact b.len x h
    · rw [List.mem_singleton.mp h]
      exact hl
  · rcases dn h with h | ⟨e1, e2⟩
    · exact b.mlen i s' m' h
    · have e3 : m' = m ++ [decide (j = 1)] := congrArg Prod.snd e2
      have := b.mlen q s m hq
      rw [e3, e1, List.length_append]
      show m.length + 1 ≤ _
      omega
  · have old : ∀ {i : Nat} {s' m' : List Bool} {c : Bool}, A[i]? = some (s', m') → (i < q ∨ i = q ∧ bi c < j) → ∃ t2, g s' c = some t2 ∧ ∃ (k : Nat) (m2 : List Bool), (A ++ [(t, m ++ [decide (j = 1)])])[k]? = some (t2, m2) ∧ codeM m2 ≤ codeM (m' ++ [c]) := fun hi h => by
      obtain ⟨t2, h1, k, m2, h2, h3⟩ := b.done _ _ _ _ hi h
      exact ⟨t2, h1, k, m2, up h2, h3⟩
    rcases dn hi with hi | ⟨rfl, _⟩
    · by_cases e : i = q ∧ bi c = j
      · obtain ⟨rfl, ec⟩ := e
        rw [hq] at hi
        cases hi
        have ec2 : c = decide (j = 1) := by
          cases c
          · rw [← ec]; rfl
          · rw [← ec]; rfl
        subst ec2
        refine ⟨t, hg, A.length, m ++ [decide (j = 1)], ?_, Nat.le_refl _⟩
        rw [List.getElem?_append_right (Nat.le_refl _), Nat.sub_self]
        rfl
      · refine old hi ?_
        rcases h with h | ⟨h1, h2⟩
        · exact .inl h
        · refine .inr ⟨h1, ?_⟩
          have : bi c ≠ j := fun z => e ⟨h1, z⟩
          omega
    · rcases h with h | ⟨h, _⟩
      · have := b.le
        omega
      · omega
  · have h' : A[q]? = some (s', m') := by
      rw [List.getElem?_append_left hql] at h
      exact h
    rw [hq] at h'
    cases h'
    rcases List.mem_append.mp hx with h | h
    · exact Nat.lt_succ_of_lt (b.young s m hq x h)
    · rw [List.mem_singleton.mp h]
      show codeM (m ++ [decide (j = 1)]) < _
      omega
theorem Bfs.next {g : Stp} {L : Nat} {A : List Pr2} {q : Nat} (b : Bfs g L A q 2) (hq : q < A.length) : Bfs g L A (q + 1) 0 := by
  refine ⟨b.run, b.asc, b.root, b.nd, b.len, b.mlen, fun i s m c hi h => b.done i s m c hi ?_, fun s m h x hx => ?_, hq⟩
  · rcases h with h | ⟨_, h⟩
    · by_cases e : i < q
      · exact .inl e
      · refine .inr ⟨by omega, ?_⟩
        cases c <;> decide
    · exact absurd h (Nat.not_lt_zero _)
  · obtain ⟨s0, m0⟩ : Pr2 := A[q]
    have h0 : A[q]? = some A[q] := List.getElem?_eq_getElem hq
    have h1 := b.young A[q].1 A[q].2 h0 x hx
    obtain ⟨l2, e2⟩ := List.getElem?_eq_some_iff.mp h
    have h2 := List.pairwise_iff_getElem.mp b.asc q (q + 1) hq l2 (Nat.lt_succ_self q)
    rw [e2] at h2
    have h3 : codeM A[q].2 < codeM m := h2
    omega
/-- the places up to the one that is looked at -/
theorem Bfs.cover {g : Stp} {L : Nat} {A : List Pr2} {q j : Nat} {s m : List Bool} (b : Bfs g L A q j) (hq : A[q]? = some (s, m)) : ∀ (n : Nat) (p : List Bool), p.length ≤ n → codeM p ≤ codeM m → ∃ (sp : List Bool) (i : Nat) (p' : List Bool), runG g p = some sp ∧ A[i]? = some (sp, p') ∧ codeM p' ≤ codeM p := by
  intro n
  induction n with
  | zero =>
    intro p hp _
    have : p = [] := List.length_eq_zero_iff.mp (by omega)
    subst this
    exact ⟨[], 0, [], rfl, b.root, Nat.le_refl _⟩
  | succ n ih =>
    intro p hp hc
    by_cases e : p = []
    · subst e
      exact ⟨[], 0, [], rfl, b.root, Nat.le_refl _⟩
    · obtain ⟨r, c, rfl⟩ : ∃ r c, p = r ++ [c] := ⟨p.dropLast, p.getLast e, (List.dropLast_concat_getLast e).symm⟩
      rw [codeM_snoc] at hc
      rw [List.length_append] at hp
      have hp1 : r.length + 1 ≤ n + 1 := hp
      have hpos : 1 ≤ codeM r := by
        have h : ∀ (m : List Bool) (k : Nat), 1 ≤ k → 1 ≤ m.foldl (fun n b => 2 * n + (if b then 1 else 0)) k := by
          intro m
          induction m with
          | nil => intro k h; exact h
          | cons x m ih => intro k h; exact ih _ (Nat.le_trans h (Nat.le_trans (Nat.le_mul_of_pos_left k (by decide)) (Nat.le_add_right _ _)))
        exact h r 1 (Nat.le_refl _)
      obtain ⟨sr, i, r', h1, h2, h3⟩ := ih r (by omega) (by omega)
      have hiq : i < q := by
        apply Classical.byContradiction
        intro hn
        obtain ⟨li, ei⟩ := List.getElem?_eq_some_iff.mp h2
        obtain ⟨lq, eq⟩ := List.getElem?_eq_some_iff.mp hq
        rcases Nat.lt_or_ge q i with hl | hl
        · have := List.pairwise_iff_getElem.mp b.asc q i lq li hl
          rw [ei, eq] at this
          have : codeM m < codeM r' := this
          omega
        · have : i = q := by omega
          subst this
          rw [hq] at h2
          cases h2
          omega
      obtain ⟨t, h4, k, m2, h5, h6⟩ := b.done i sr r' c h2 (.inl hiq)
      refine ⟨t, k, m2, ?_, h5, ?_⟩
      · rw [runG_snoc, h1]
        exact h4
      · rw [codeM_snoc] at h6 ⊢
        omega
theorem Bfs.least {g : Stp} {L : Nat} {A : List Pr2} {q j : Nat} {s m : List Bool} (b : Bfs g L A q j) (hq : A[q]? = some (s, m)) (hj : j < 2) (hg : g s (decide (j = 1)) = none) : FirstR g (m ++ [decide (j = 1)]) := by
  have ej : codeM (m ++ [decide (j = 1)]) = 2 * codeM m + j := by
    rw [codeM_snoc]
    match j, hj with
    | 0, _ => rfl
    | 1, _ => rfl
  refine ⟨by rw [runG_snoc, b.run q s m hq]; exact hg, fun p hp => ?_⟩
  rw [ej] at hp
  by_cases e : p = []
  · subst e
    intro z
    cases z
  · obtain ⟨r, c, rfl⟩ : ∃ r c, p = r ++ [c] := ⟨p.dropLast, p.getLast e, (List.dropLast_concat_getLast e).symm⟩
    rw [codeM_snoc] at hp
    have hbc : (if c = true then 1 else 0) = bi c := rfl
    rw [hbc] at hp
    obtain ⟨sr, i, r', h1, h2, h3⟩ := b.cover hq r.length r (Nat.le_refl _) (by omega)
    have hiq : i < q ∨ i = q ∧ bi c < j := by
      obtain ⟨li, ei⟩ := List.getElem?_eq_some_iff.mp h2
      obtain ⟨lq, eq⟩ := List.getElem?_eq_some_iff.mp hq
      rcases Nat.lt_trichotomy i q with hl | hl | hl
      · exact .inl hl
      · subst hl
        rw [hq] at h2
        cases h2
        exact .inr ⟨rfl, by omega⟩
      · have := List.pairwise_iff_getElem.mp b.asc q i lq li hl
        rw [ei, eq] at this
        have : codeM m < codeM r' := this
        omega
    obtain ⟨t, h4, _⟩ := b.done i sr r' c h2 hiq
    rw [runG_snoc, h1]
    show g sr c ≠ none
    rw [h4]
    intro z
    cases z
theorem Bfs.never {g : Stp} {L : Nat} {A : List Pr2} (b : Bfs g L A A.length 0) : ∀ m, runG g m ≠ none := by
  have h : ∀ m, ∃ (s : List Bool) (i : Nat) (p : List Bool), runG g m = some s ∧ A[i]? = some (s, p) := by
    refine snoc_ind ⟨[], 0, [], rfl, b.root⟩ fun m c ⟨s, i, p, h1, h2⟩ => ?_
    obtain ⟨t, h3, k, m2, h4, _⟩ := b.done i s p c h2 (.inl (List.getElem?_eq_some_iff.mp h2).1)
    exact ⟨t, k, m2, by rw [runG_snoc, h1]; exact h3, h4⟩
  intro m
  obtain ⟨s, _, _, e, _⟩ := h m
  rw [e]
  intro z
  cases z
/-! ### how many places there are -/
def allUp : Nat → List (List Bool)
  | 0 => wordsL 0
  | n + 1 => allUp n ++ wordsL (n + 1)
theorem allUp_len : ∀ n, (allUp n).length + 1 = 2 ^ (n + 1)
  | 0 => rfl
  | n + 1 => by
    show (allUp n ++ wordsL (n + 1)).length + 1 = _
    rw [List.length_append, wordsL_len]
    have := allUp_len n
    rw [Nat.pow_succ 2 (n + 1)]
    omega
theorem mem_allUp : ∀ {n : Nat} {w : List Bool}, w.length ≤ n → w ∈ allUp n
  | 0, w, h => mem_wordsL.mpr (by omega)
  | n + 1, w, h => by
    show w ∈ allUp n ++ wordsL (n + 1)
    rw [List.mem_append]
    by_cases e : w.length ≤ n
    · exact .inl (mem_allUp e)
    · exact .inr (mem_wordsL.mpr (by omega))
theorem Bfs.small {g : Stp} {L : Nat} {A : List Pr2} {q j : Nat} (b : Bfs g L A q j) : A.length ≤ 2 ^ (L + 1) := by
  have h := b.nd.length_le_of_subset (l₂ := allUp L) fun w hw => by
    obtain ⟨x, hx, rfl⟩ := List.mem_map.mp hw
    exact mem_allUp (b.len x (List.mem_of_mem_tail hx))
  rw [List.length_map, List.length_tail] at h
  have := allUp_len L
  omega
end Own
namespace Own
open PySem PySem.Spec PyProof.Rows L2
/-- a list of pairs of texts -/
def LvAt (H : Hp) (v : V) (x : Pr2) : Prop := ∃ t, v = V.ref t ∧ H t = some (.tup [.str (WS x.1), .str (WS x.2)])
def Lvs (H : Hp) : List V → List Pr2 → Prop
  | [], [] => True
  | v :: vs, p :: ps => LvAt H v p ∧ Lvs H vs ps
  | _, _ => False
theorem LvAt.kp {H H' : Hp} {v : V} {h : Pr2} (k : Kp H H') (x : LvAt H v h) : LvAt H' v h := by
  obtain ⟨t, e, x⟩ := x
  exact ⟨t, e, k _ _ x trivial⟩
theorem Lvs.kp {H H' : Hp} (k : Kp H H') : ∀ {vs : List V} {ps : List Pr2}, Lvs H vs ps → Lvs H' vs ps
  | [], [], _ => trivial
  | _ :: _, _ :: _, h => ⟨h.1.kp k, Lvs.kp k h.2⟩
  | [], _ :: _, h => h.elim
  | _ :: _, [], h => h.elim
theorem Lvs.len {H : Hp} : ∀ {vs : List V} {ps : List Pr2}, Lvs H vs ps → vs.length = ps.length
  | [], [], _ => rfl
  | _ :: _, _ :: _, h => congrArg Nat.succ (Lvs.len h.2)
  | [], _ :: _, h => h.elim
  | _ :: _, [], h => h.elim
theorem Lvs.get {H : Hp} : ∀ {vs : List V} {ps : List Pr2} {i : Nat} {v : V}, Lvs H vs ps → vs[i]? = some v → ∃ p, ps[i]? = some p ∧ LvAt H v p
  | v :: vs, p :: ps, 0, _, h, e => ⟨p, rfl, by cases e; exact h.1⟩
  | v :: vs, p :: ps, i + 1, _, h, e => Lvs.get (i := i) h.2 e
  | [], _, _, _, _, e => by cases e
  | _ :: _, [], _, _, h, _ => h.elim
theorem Lvs.snoc {H : Hp} : ∀ {vs : List V} {ps : List Pr2} {v : V} {p : Pr2}, Lvs H vs ps → LvAt H v p → Lvs H (vs ++ [v]) (ps ++ [p])
  | [], [], _, _, _, h => ⟨h, trivial⟩
  | _ :: _, _ :: _, _, _, h, h2 => ⟨h.1, Lvs.snoc h.2 h2⟩
  | [], _ :: _, _, _, h, _ => h.elim
  | _ :: _, [], _, _, h, _ => h.elim
/-- what the set of the places that were met tells -/
structure SeenOk (S : Key → Bool) (n : Nat) (A : List Pr2) : Prop where
  iff : ∀ t, S (Sum.inr (WS t)) = true ↔ t ∈ A.tail.map (·.1)
  le : n + 1 ≤ A.length
theorem SeenOk.start : SeenOk (fun _ => false) 0 [([], [])] := ⟨fun t => by simp, Nat.le_refl _⟩
theorem SeenOk.add {S : Key → Bool} {n : Nat} {A : List Pr2} {t m : List Bool} (o : SeenOk S n A) : SeenOk (fun j => S j || decide (j = Sum.inr (WS t))) (n + 1) (A ++ [(t, m)]) := by
  have hne : A ≠ [] := fun e => by
    have := o.le
    rw [e] at this
    exact absurd this (Nat.not_succ_le_zero _)
  refine ⟨fun u => ?_, by rw [List.length_append]; exact Nat.succ_le_succ o.le⟩
  rw [Bool.or_eq_true, o.iff, decide_eq_true_eq, List.tail_append_of_ne_nil hne, List.map_append, List.mem_append]
  constructor
  · rintro (h | h)
    · exact .inl h
    · have h' : (Sum.inr (WS u) : Key) = Sum.inr (WS t) := h
      injection h' with h'
      exact .inr (by rw [WS_inj h']; simp)
  · rintro (h | h)
    · exact .inl h
    · have : u = t := by simpa using h
      exact .inr (by rw [this])
def hFR (P : Program) (w : World) (K : PySem.W.Frag) (mg : Str → Option Value) (base : Heap) (k : Nat) : Clo.HSp := fun fr f F ws vs H Q _ => ∃ (ps : List Str) (g : Stp) (L : Nat) (sp : List (Option V) → Sp) (R : List Bool → Prop), vs = [.ref f] ∧ NdefX.NOk P w K mg base CX0 k f F ps fr sp ∧ L ≤ 9 ∧ R [] ∧ (∀ s b t, R s → g s b = some t → R t) ∧ (∀ s, R s → s.length ≤ L) ∧
  (∀ (s : List Bool) (b : Bool) (H1 : Hp) (Q' : VK), R s → Same H H1 → (∀ H2, Same H1 H2 → Q' (oW (g s b)) H2) → sp ws [.str (WS s), .str (WS [b])] H1 Q' C8.E0) ∧ ∀ r H', Same H H' → FR g r → (∀ M, r = some M → M.length ≤ 1024) → Q (oW r) H'
theorem run_R {g : Stp} {R : List Bool → Prop} (R0 : R []) (Rs : ∀ s b t, R s → g s b = some t → R t) : ∀ (m s : List Bool), runG g m = some s → R s := by
  refine snoc_ind (P := fun m => ∀ s, runG g m = some s → R s) (fun s h => by cases h; exact R0) fun m b ih s h => ?_
  rw [runG_snoc] at h
  obtain ⟨u, h1, h2⟩ := Option.bind_eq_some_iff.mp h
  exact Rs u b s (ih u h1) h2
end Own
namespace Own
open PySem PySem.Spec PyProof.Rows L2
theorem Lvs.tups {H H' : Hp} (k : ∀ {a : Addr} {xs : List V}, H a = some (.tup xs) → H' a = some (.tup xs)) : ∀ {vs : List V} {ps : List Pr2}, Lvs H vs ps → Lvs H' vs ps
  | [], [], _ => trivial
  | _ :: _, _ :: _, h => by
    obtain ⟨⟨t, e, h1⟩, h2⟩ := h
    exact ⟨⟨t, e, k h1⟩, Lvs.tups k h2⟩
  | [], _ :: _, h => h.elim
  | _ :: _, [], h => h.elim
theorem small1000' {n : Nat} (h : n ≤ 1500) : n < sizeLine := Nat.lt_of_le_of_lt h (by decide)
theorem app_same {H H1 : Hp} {l : Addr} {xs : List V} (s : Same H H1) (hn : H l = none) : Same H (upd H1 l (.lst xs)) := fun a o ha => by
  rw [upd_ne (ne_of_none ha hn)]
  exact s _ _ ha
end Own

set_option Elab.async false
set_option linter.all false
set_option maxRecDepth 100000
set_option maxHeartbeats 2000000
/-! messages that are spoiled: the walk by line ends -/
namespace Own
open PySem PySem.Spec PyProof.Rows L2
theorem putL_catL {ps : List Stf} {n : Nat} (h : ∀ p ∈ ps, p.1.length ≤ n) (x y : List Bool) (hy : n ≤ y.length) : putL ps (x ++ y) = putL ps y := by
  rw [← putL_tail (n := n) h, ← putL_tail (n := n) (u := y) h]
  congr 1
  rw [List.length_append, List.drop_append, List.drop_eq_nil_of_le (by omega : x.length ≤ x.length + y.length - n), List.nil_append]
  congr 1
  omega
theorem puts_catL {ps : List Stf} {l : Nat} (h : ∀ p ∈ ps, p.1.length ≤ l) (x : List Bool) : ∀ (n : Nat) (y : List Bool), l ≤ y.length → putsN ps n (x ++ y) = x ++ putsN ps n y
  | 0, _, _ => rfl
  | n + 1, y, hy => by
    show putsN ps n (stepP ps (x ++ y)) = x ++ putsN ps n (stepP ps y)
    unfold stepP
    rw [putL_catL h x y hy]
    cases putL ps y with
    | none => exact puts_catL h x n y hy
    | some b =>
      show putsN ps n (x ++ y ++ [b]) = _
      rw [List.append_assoc]
      exact puts_catL h x n (y ++ [b]) (by rw [List.length_append]; omega)
def lastN (n : Nat) (u : List Bool) : List Bool := u.drop (u.length - n)
theorem lastN_len (n : Nat) (u : List Bool) : (lastN n u).length ≤ n := by
  unfold lastN
  rw [List.length_drop]
  omega
/-- the beginning, and the last bits -/
theorem lastN_cut (n : Nat) (u : List Bool) : ∃ x, u = x ++ lastN n u ∧ (x = [] ∨ (lastN n u).length = n) := by
  refine ⟨u.take (u.length - n), (List.take_append_drop _ _).symm, ?_⟩
  by_cases h : u.length ≤ n
  · left
    rw [show u.length - n = 0 by omega]
    rfl
  · right
    unfold lastN
    rw [List.length_drop]
    omega
theorem lastN_cat (n : Nat) (x y : List Bool) (h : n ≤ y.length) : lastN n (x ++ y) = lastN n y := by
  unfold lastN
  rw [List.length_append, List.drop_append, List.drop_eq_nil_of_le (by omega : x.length ≤ x.length + y.length - n), List.nil_append]
  congr 1
  omega
/-- the first flag of a line that the flag follows is the one at the end -/
def Kept (flag line : List Bool) : Prop := ∀ i, i < line.length → ¬ flag <+: (line ++ flag).drop i
theorem kept_iff {flag line : List Bool} (hf : flag ≠ []) : findW flag (line ++ flag) = some line.length ↔ Kept flag line := by
  constructor
  · intro h
    exact (findW_some h).2
  · intro h
    refine findW_uniq ?_ h hf
    rw [List.drop_left]
    exact List.prefix_rfl
instance (flag line : List Bool) : Decidable (Kept flag line) := Nat.decidableBallLT _ _
def NN (flag : List Bool) (ps : List Stf) : Nat := max (longL ps) flag.length - 1
/-- what a receiver must know of a line -/
def gS (flag : List Bool) (ps : List Stf) : Stp := fun s b => if Kept flag (putsN ps 24 (s ++ [b])) then some (lastN (NN flag ps) (putsN ps 24 (s ++ [b]))) else none
section
variable {flag : List Bool} {ps : List Stf} {u s : List Bool} {b : Bool}
theorem long_all : ∀ p ∈ ps, p.1.length ≤ longL ps := fun p hp => le_longL hp
/-- the line behind one bit more, from its last bits -/
theorem line_cut (u : List Bool) (b : Bool) : ∃ x, u = x ++ lastN (NN flag ps) u ∧ putsN ps 24 (u ++ [b]) = x ++ putsN ps 24 (lastN (NN flag ps) u ++ [b]) ∧ (x = [] ∨ (lastN (NN flag ps) u).length = NN flag ps) := by
  obtain ⟨x, e, h⟩ := lastN_cut (NN flag ps) u
  refine ⟨x, e, ?_, h⟩
  rcases h with rfl | h
  · rw [List.nil_append] at e
    rw [List.nil_append, ← e]
  · conv => lhs; rw [e, List.append_assoc]
    refine puts_catL long_all x 24 _ ?_
    rw [List.length_append, h]
    show longL ps ≤ NN flag ps + 1
    unfold NN
    omega
theorem stand_next (u : List Bool) (b : Bool) : lastN (NN flag ps) (putsN ps 24 (lastN (NN flag ps) u ++ [b])) = lastN (NN flag ps) (putsN ps 24 (u ++ [b])) := by
  obtain ⟨x, e, e2, h⟩ := line_cut (flag := flag) (ps := ps) u b
  rw [e2]
  rcases h with rfl | h
  · rw [List.nil_append]
  · refine (lastN_cat _ _ _ ?_).symm
    have := puts_ge ps (lastN (NN flag ps) u ++ [b]) 24
    rw [List.length_append] at this
    omega
theorem put_next (u : List Bool) (b : Bool) (hend : putL ps (putsN ps 24 (u ++ [b])) = none) : putL ps (putsN ps 24 (lastN (NN flag ps) u ++ [b])) = none := by
  obtain ⟨x, e, e2, h⟩ := line_cut (flag := flag) (ps := ps) u b
  rcases h with rfl | h
  · rw [List.nil_append] at e2
    rw [← e2]
    exact hend
  · rw [← hend, e2]
    refine (putL_catL long_all x _ ?_).symm
    have := puts_ge ps (lastN (NN flag ps) u ++ [b]) 24
    rw [List.length_append, h] at this
    have h1 : [b].length = 1 := rfl
    have hN : longL ps ≤ NN flag ps + 1 := by
      unfold NN
      omega
    omega
theorem kept_next (hk : Kept flag u) (b : Bool) : Kept flag (putsN ps 24 (u ++ [b])) ↔ Kept flag (putsN ps 24 (lastN (NN flag ps) u ++ [b])) := by
  obtain ⟨x, e, e2, h⟩ := line_cut (flag := flag) (ps := ps) u b
  obtain ⟨r, hr⟩ := puts_pre ps (u ++ [b]) 24
  generalize putsN ps 24 (lastN (NN flag ps) u ++ [b]) = v' at e2
  constructor
  · intro hv i hi hp
    refine hv (x.length + i) (by rw [e2, List.length_append]; omega) ?_
    rw [e2, List.append_assoc, ← List.drop_drop, List.drop_left]
    exact hp
  · intro hv i hi hp
    by_cases hx : x.length ≤ i
    · refine hv (i - x.length) (by rw [e2, List.length_append] at hi; omega) ?_
      rw [e2, List.append_assoc, show i = x.length + (i - x.length) by omega, ← List.drop_drop, List.drop_left] at hp
      exact hp
    · rcases h with rfl | h
      · exact absurd (Nat.zero_le i) hx
      · have hul : u.length = x.length + NN flag ps := by
          have := congrArg List.length e
          rw [List.length_append, h] at this
          exact this
        have hfl : flag.length ≤ NN flag ps + 1 := by
          unfold NN
          omega
        refine hk i (by omega) ?_
        have hin : i + flag.length ≤ u.length := by omega
        have e3 : (u ++ ([b] ++ r ++ flag)).drop i = (putsN ps 24 (u ++ [b]) ++ flag).drop i := by
          rw [← hr]
          simp
        rw [← e3, List.drop_append_of_le_length (by omega)] at hp
        rw [List.drop_append_of_le_length (by omega)]
        have hd : flag.length ≤ (u.drop i).length := by
          rw [List.length_drop]
          omega
        have := List.prefix_of_prefix_length_le hp (List.prefix_append _ _) hd
        exact this.trans (List.prefix_append _ _)
end
theorem kept_nil (flag : List Bool) : Kept flag [] := fun i hi => absurd hi (Nat.not_lt_zero i)
/-- the walk, and the bodies -/
theorem run_some {flag : List Bool} {ps : List Stf} (m : List Bool) : ∀ s, runG (gS flag ps) m = some s → s = lastN (NN flag ps) (bodyL ps m) ∧ Kept flag (bodyL ps m) := by
  refine snoc_ind (P := fun m => ∀ s, runG (gS flag ps) m = some s → s = lastN (NN flag ps) (bodyL ps m) ∧ Kept flag (bodyL ps m)) (fun s h => ?_) (fun m b ih s h => ?_) m
  · cases h
    refine ⟨?_, kept_nil flag⟩
    show [] = lastN _ []
    unfold lastN
    rw [List.drop_nil]
  · rw [runG_snoc] at h
    obtain ⟨t, h1, h2⟩ := Option.bind_eq_some_iff.mp h
    obtain ⟨e, hk⟩ := ih t h1
    subst e
    unfold gS at h2
    split at h2
    · rename_i hk2
      cases h2
      rw [bodyL_snoc, stand_next]
      exact ⟨rfl, (kept_next hk b).mpr hk2⟩
    · cases h2
theorem run_none {flag : List Bool} {ps : List Stf} {m : List Bool} {b : Bool} (h : runG (gS flag ps) m ≠ none) : runG (gS flag ps) (m ++ [b]) = none ↔ ¬ Kept flag (bodyL ps (m ++ [b])) := by
  obtain ⟨s, hs⟩ : ∃ s, runG (gS flag ps) m = some s := Option.ne_none_iff_exists'.mp h
  obtain ⟨e, hk⟩ := run_some m s hs
  rw [runG_snoc, hs, bodyL_snoc, kept_next hk b]
  show gS flag ps s b = none ↔ _
  unfold gS
  rw [← e]
  split
  · rename_i h2
    exact ⟨fun z => (by cases z), fun z => absurd h2 z⟩
  · rename_i h2
    exact ⟨fun _ => h2, fun _ => rfl⟩
/-- what spoiled tells: None, or the first spoiled message -/
def Spo (flag : List Bool) (ps : List Stf) : Option (List Bool) → Prop
  | none => ∀ m, Kept flag (bodyL ps m)
  | some M => ¬ Kept flag (bodyL ps M) ∧ ∀ m, codeM m < codeM M → Kept flag (bodyL ps m)
theorem codeM_pos (m : List Bool) : 1 ≤ codeM m := by
  have h : ∀ (m : List Bool) (k : Nat), 1 ≤ k → 1 ≤ m.foldl (fun n b => 2 * n + (if b then 1 else 0)) k := by
    intro m
    induction m with
    | nil => intro k h; exact h
    | cons x m ih => intro k h; exact ih _ (Nat.le_trans h (Nat.le_trans (Nat.le_mul_of_pos_left k (by decide)) (Nat.le_add_right _ _)))
  exact h m 1 (Nat.le_refl _)
theorem spo_of {flag : List Bool} {ps : List Stf} {r : Option (List Bool)} (h : FR (gS flag ps) r) : Spo flag ps r := by
  have kp : ∀ m, runG (gS flag ps) m ≠ none → Kept flag (bodyL ps m) := fun m hm => by
    obtain ⟨s, hs⟩ := Option.ne_none_iff_exists'.mp hm
    exact (run_some m s hs).2
  cases r with
  | none => exact fun m => kp m (h m)
  | some M =>
    obtain ⟨h1, h2⟩ := h
    refine ⟨?_, fun m hm => kp m (h2 m hm)⟩
    by_cases e : M = []
    · subst e
      cases h1
    · obtain ⟨r, c, rfl⟩ : ∃ r c, M = r ++ [c] := ⟨M.dropLast, M.getLast e, (List.dropLast_concat_getLast e).symm⟩
      have hlt : codeM r < codeM (r ++ [c]) := by
        rw [codeM_snoc]
        have := codeM_pos r
        omega
      exact (run_none (h2 r hlt)).mp h1
/-! ### promises -/
def spKept (C : Addr) : Sp := fun vs H Q _ => ∃ (p : Addr) (flag : List Bool) (ps : List Stf) (line : List Bool), vs = [.ref p, .str (WS line)] ∧ RlAt C H p flag ps ∧ flag ≠ [] ∧ flag.length ≤ 900 ∧ line.length ≤ 90000 ∧ ∀ H', Same H H' → Q (.bl (decide (Kept flag line))) H'
def spLast : Sp := fun vs H Q _ => ∃ (u : List Bool) (n : Nat), vs = [.str (WS u), .int (n : Nat)] ∧ u.length ≤ 90000 ∧ ∀ H', Same H H' → Q (.str (WS (lastN n u))) H'
def spStand (C : Addr) : Sp := fun vs H Q _ => ∃ (p : Addr) (flag : List Bool) (ps : List Stf) (line : List Bool), vs = [.ref p, .str (WS line)] ∧ RlAt C H p flag ps ∧ 1 ≤ flag.length ∧ flag.length ≤ 900 ∧ ps.length ≤ 100 ∧ (∀ p ∈ ps, p.1.length ≤ 900) ∧ line.length ≤ 90000 ∧ ∀ H', Same H H' → Q (.str (WS (lastN (NN flag ps) line))) H'
def spStep (C : Addr) (ws : List (Option V)) : Sp := fun vs H Q _ => ∃ (p : Addr) (flag : List Bool) (ps : List Stf) (s : List Bool) (b : Bool), ws = [some (.ref p)] ∧ vs = [.str (WS s), .str (WS [b])] ∧ RlAt C H p flag ps ∧ 1 ≤ flag.length ∧ flag.length ≤ 900 ∧ ps.length ≤ 100 ∧ (∀ p ∈ ps, p.1.length ≤ 900) ∧ s.length ≤ 1000 ∧ putL ps (putsN ps 24 (s ++ [b])) = none ∧ ∀ H', Same H H' → Q (oW (gS flag ps s b)) H'
/-- a rule as the walks want it -/
structure RlW (flag : List Bool) (ps : List Stf) : Prop where
  f2 : 2 ≤ flag.length
  f9 : flag.length ≤ 9
  few : ps.length ≤ 8
  l4 : ∀ p ∈ ps, p.1.length ≤ 4
  ne : ∀ p ∈ ps, p.1 ≠ []
  fill : Fill ps
/-- all that is tracked is kept, the tables of code objects too (they may have grown) -/
structure Tk (T : List NdefX.NTab) (H H' : Hp) : Prop where
  ext : LamX.ExtN H H'
  tab : NdefX.TabsN T H'
  old : ∀ b, H' b = none → H b = none
theorem Tk.refl {T : List NdefX.NTab} {H : Hp} (t : NdefX.TabsN T H) : Tk T H H := ⟨LamX.ExtN.refl H, t, fun _ h => h⟩
theorem Tk.trans {T : List NdefX.NTab} {H H1 H2 : Hp} (a : Tk T H H1) (b : Tk T H1 H2) : Tk T H H2 := ⟨a.ext.trans b.ext, b.tab, fun x h => a.old x (b.old x h)⟩
theorem tk_same {T : List NdefX.NTab} {H H' : Hp} (t : NdefX.TabsN T H) (s : Same H H') : Tk T H H' := ⟨LamX.ExtN.of s, t.ext s, fun x h => s.free h⟩
def spSpoiled (T : List NdefX.NTab) (C : Addr) : Sp := fun vs H Q _ => ∃ (p : Addr) (flag : List Bool) (ps : List Stf), vs = [.ref p] ∧ RlAt C H p flag ps ∧ RlW flag ps ∧ NdefX.TabsN T H ∧ ∀ r H', Tk T H H' → Spo flag ps r → (∀ M, r = some M → M.length ≤ 1024) → Q (oW r) H'
def spClean (T : List NdefX.NTab) (C : Addr) : Sp := fun vs H Q _ => ∃ (p : Addr) (flag : List Bool) (ps : List Stf), vs = [.ref p] ∧ RlAt C H p flag ps ∧ RlW flag ps ∧ NdefX.TabsN T H ∧ ∀ (c : Bool) H', Tk T H H' → (c = true ↔ ∀ m, Kept flag (bodyL ps m)) → Q (.bl c) H'
end Own
namespace Own
open PySem PySem.Spec PyProof.Rows L2
theorem RlAt.ext {C p : Addr} {H H' : Hp} {flag : List Bool} {ps : List Stf} (e : LamX.ExtN H H') (h : RlAt C H p flag ps) : RlAt C H' p flag ps := by
  obtain ⟨dx, t, xs, h1, h2, h3⟩ := h
  refine ⟨dx, t, xs, e _ _ h1 (fun _ z => by cases z), e _ _ h2 (fun _ z => by cases z), ?_⟩
  clear h1 h2
  induction xs generalizing ps with
  | nil => cases ps with | nil => trivial | cons _ _ => exact h3.elim
  | cons v r ih =>
    cases ps with
    | nil => exact h3.elim
    | cons p0 r0 =>
      obtain ⟨⟨t2, e2, ht2⟩, h4⟩ := h3
      exact ⟨⟨t2, e2, e _ _ ht2 (fun _ z => by cases z)⟩, ih h4⟩
theorem BoxAt.ext {b : Addr} {H H' : Hp} (e : LamX.ExtN H H') (h : BoxAt H b) : BoxAt H' b := by
  obtain ⟨c, d, h1, r⟩ := h
  exact ⟨c, d, e _ _ h1 (fun _ z => by cases z), r⟩
theorem seq_ext {K : PySem.W.Frag} {H H' : Hp} {a : Addr} {xs : List V} (e : LamX.ExtN H H') (h : SqL K H a xs) : SqL K H' a xs := by
  rcases h with (h | ⟨o, h⟩) | h
  · exact .inl (.inl (e _ _ h (fun _ z => by cases z)))
  · exact .inl (.inr ⟨o, e _ _ h (fun _ z => by cases z)⟩)
  · exact .inr h
def nmS : Nat → Nat → Str := fun _ _ => ("spoiled" : Str) ++ ".<locals>." ++ "step"
theorem reach_next {flag : List Bool} {ps : List Stf} {s t : List Bool} {b : Bool} (h : ∃ m, s = lastN (NN flag ps) (bodyL ps m)) (e : gS flag ps s b = some t) : ∃ m, t = lastN (NN flag ps) (bodyL ps m) := by
  obtain ⟨m, rfl⟩ := h
  unfold gS at e
  split at e
  · cases e
    exact ⟨m ++ [b], by rw [bodyL_snoc, stand_next]⟩
  · cases e
theorem RlW.nn {flag : List Bool} {ps : List Stf} (h : RlW flag ps) : NN flag ps ≤ 9 := by
  have := longL_le h.l4
  have := h.f9
  unfold NN
  omega
end Own
namespace Own
open PySem PySem.Spec PyProof.Rows L2
/-! ### the law's own trying -/
def spLPutW : Sp := fun vs H Q _ => ∃ (t : Addr) (flag : List Bool) (ps : List Stf) (line : List Bool), vs = [.ref t, .str (WS line)] ∧ RuAt H t flag ps ∧ ps.length ≤ 100 ∧ (∀ p ∈ ps, p.1.length ≤ 900) ∧ line.length ≤ 90000 ∧ ∀ H', Same H H' → Q (oS (putL ps line)) H'
def cod (k : Nat) (m : List Bool) : Nat := m.foldl (fun n b => 2 * n + (if b then 1 else 0)) k
theorem cod_start : ∀ (m : List Bool) (k : Nat), cod k m = k * 2 ^ m.length + cod 0 m
  | [], k => by show k = k * 1 + 0; omega
  | b :: r, k => by
    show cod (2 * k + (if b then 1 else 0)) r = k * 2 ^ (r.length + 1) + cod (2 * 0 + (if b then 1 else 0)) r
    rw [cod_start r (2 * k + _), cod_start r (2 * 0 + _), Nat.pow_succ, Nat.add_mul, Nat.add_mul, Nat.mul_comm 2 k, Nat.mul_assoc, Nat.mul_comm 2 (2 ^ r.length)]
    omega
theorem cod_lt : ∀ m : List Bool, cod 0 m < 2 ^ m.length
  | [] => by decide
  | b :: r => by
    show cod (2 * 0 + (if b then 1 else 0)) r < 2 ^ (r.length + 1)
    rw [cod_start r, Nat.pow_succ]
    have := cod_lt r
    cases b
    · show (2 * 0 + 0) * 2 ^ r.length + cod 0 r < _
      omega
    · show (2 * 0 + 1) * 2 ^ r.length + cod 0 r < _
      omega
theorem codeM_eq (m : List Bool) : codeM m = 2 ^ m.length + cod 0 m := by
  have := cod_start m 1
  rw [Nat.one_mul] at this
  exact this
theorem code_len {a b : List Bool} (h : a.length < b.length) : codeM a < codeM b := by
  rw [codeM_eq, codeM_eq]
  have := cod_lt a
  have : 2 ^ (a.length + 1) ≤ 2 ^ b.length := Nat.pow_le_pow_right (by decide) h
  rw [Nat.pow_succ] at this
  omega
end Own
namespace Own
open PySem PySem.Spec PyProof.Rows L2
def spLawT (T : List NdefX.NTab) (K : PySem.W.Frag) : Sp := fun vs H Q _ => ∃ (a : Addr) (ns : List Int), vs = [.ref a] ∧ SqL K H a (ns.map V.int) ∧ ns.length ≤ 63 ∧ NdefX.TabsN T H ∧ ∀ H', Q (.bl true) H'
theorem tabs_off {T : List NdefX.NTab} {H H' : Hp} {b : Addr} (t : NdefX.TabsN T H) (hb : BoxAt H b) (o : Off b H H') : NdefX.TabsN T H' := by
  obtain ⟨c, d, eb, _⟩ := hb
  intro p hp
  obtain ⟨ps, h1, h2, h3⟩ := t p hp
  refine ⟨ps, o _ _ h1 (fun e => by rw [e, eb] at h1; cases h1), h2, fun pos cv hc => ?_⟩
  obtain ⟨c', e1, e2⟩ := h3 pos cv hc
  exact ⟨c', e1, o _ _ e2 (fun e => by rw [e, eb] at e2; cases e2)⟩
theorem tk_off {T : List NdefX.NTab} {H H3 H4 : Hp} {b : Addr} (t : Tk T H H3) (hb : BoxAt H3 b) (o : Off b H3 H4) (hb0 : H b = none) : Tk T H H4 := by
  refine ⟨fun a u h n => o _ _ (t.ext _ _ h n) (ne_of_none h hb0), tabs_off t.tab hb o, fun x hx => ?_⟩
  by_cases e : x = b
  · rw [e]
    exact hb0
  · refine t.old x ?_
    cases h : H3 x with
    | none => rfl
    | some u =>
      rw [o _ _ h e] at hx
      cases hx
theorem Tk.same {T : List NdefX.NTab} {H H1 H2 : Hp} (t : Tk T H H1) (s : Same H1 H2) : Tk T H H2 := t.trans (tk_same t.tab s)
theorem rlw_of {flag : List Bool} {ps : List Stf} (ok : RuleOk ps) (fill : Fill ps) (f2 : 2 ≤ flag.length) (f9 : flag.length ≤ 9) (few : ps.length ≤ 8) (l4 : ∀ p ∈ ps, p.1.length ≤ 4) : RlW flag (sortP ps) := by
  have hput : ∀ u, putL (sortP ps) u = putL ps u := fun u => putL_perm ok.parted (sortP_perm ps) u
  exact ⟨f2, f9, by rw [(sortP_perm ps).length_eq]; exact few, fun p hp => l4 p ((sortP_perm ps).mem_iff.mp hp), fun p hp => ok.ne p ((sortP_perm ps).mem_iff.mp hp), fill_perm hput fill⟩
end Own
namespace Own
open PySem PySem.Spec PyProof.Rows L2
open C8 (Cal)
/-- a weaker promise of the law's own put -/
theorem put_weak {P : Program} {w : World} {K : PySem.W.Frag} {mg : Str → Option Value} {base : Heap} (c : Cal P w K mg base 1 "_law_put" spLPutW []) : Cal P w K mg base 1 "_law_put" spLPut [] := by
  obtain ⟨f, fd, ps, ds, F, hm, kp, b, d⟩ := c.ex
  exact ⟨f, fd, ps, ds, F.imp (fun vs H Q E h => by
    obtain ⟨t, flag, ps, line, h1, h2, h3, h4, h5, h6⟩ := h
    exact ⟨t, flag, ps, line, h1, h2, h3, h4, by omega, h6⟩), hm, kp, b, d⟩
end Own

set_option Elab.async false
set_option linter.all false
set_option maxRecDepth 100000
set_option maxHeartbeats 2000000
/-! own exceptions: made by a class with an own __init__ of one field; defs that raise them; own objects whose __init__ raises -/
namespace Own
open PySem PySem.Spec PyProof.Rows L2
section
variable {P : Program} {w : World} {K : PySem.W.Frag} {mg : Str → Option Value} {base : Heap}
end
section
variable {X : Cx} {x f : Str} {C : Addr} {e : Expr} {ta : TA} {p pos pos2 : Pos} {W : WX} {j : Nat}
end
section
variable {X : Cx} {k j : Nat} {C : Addr} {x : Str} {sp : Sp} {dvs : List V} {p pos : Pos} {e : Expr} {es : List Expr} {t : TA} {E : L2.St → XK}
end
end Own

set_option Elab.async false
set_option linter.all false
set_option maxRecDepth 100000
set_option maxHeartbeats 2000000
/-! rules that are refused: with patterns of at most four bits bits are put in without end just if they don't end within forty -/
namespace Own
open PySem PySem.Spec PyProof.Rows L2
section
variable {P : Program} {w : World} {K : PySem.W.Frag} {mg : Str → Option Value} {base : Heap}
end
end Own

set_option Elab.async false
set_option linter.all false
set_option maxRecDepth 100000
set_option maxHeartbeats 2000000
/-! texts in their order: the one sorted list -/
namespace Own
open PySem PySem.Spec PyProof.Rows L2
end Own

set_option Elab.async false
set_option linter.all false
set_option maxRecDepth 100000
set_option maxHeartbeats 2000000
namespace Own
open PySem PySem.Spec PyProof.Rows L2
end Own
namespace Own
open PySem PySem.Spec PyProof.Rows L2
end Own

set_option Elab.async false
set_option linter.all false
set_option maxRecDepth 100000
set_option maxHeartbeats 2000000
/-! rules of one stuff; the rules that fit what was seen -/
namespace Own
open PySem PySem.Spec PyProof.Rows L2
section
variable {C : Addr} {H H' : Hp} {flag : List Bool}
end
section
variable {H H' : Hp}
end
end Own

set_option Elab.async false
set_option linter.all false
set_option maxRecDepth 100000
set_option maxHeartbeats 2000000
/-! calls with all arguments by their names -/
namespace Own
open PySem PySem.Spec PyProof.Rows L2
end Own

set_option Elab.async false
set_option linter.all false
set_option maxRecDepth 100000
set_option maxHeartbeats 2000000
/-! rules compared -/
namespace Own
open PySem PySem.Spec PyProof.Rows L2
section
variable {ps A B : List Stf} {N : Nat} {u s : List Bool} {b : Bool}
end
section
variable {A B : List Stf}
end
/-! ### promises: the common standing holds for both, or not at all -/
end Own

set_option Elab.async false
set_option linter.all false
set_option maxRecDepth 100000
set_option maxHeartbeats 4000000
/-! a list in any order; what was seen, written by hand -/
namespace Own
open PySem PySem.Spec PyProof.Rows L2
/-! the readings' heads, one by one -/
/-! written entries -/
end Own

set_option Elab.async false
set_option linter.all false
set_option maxRecDepth 100000
set_option maxHeartbeats 2000000
namespace Own
open PySem PySem.Spec PyProof.Rows L2
end Own

set_option Elab.async false
set_option linter.all false
set_option maxRecDepth 100000
set_option maxHeartbeats 2000000
/-! what clean rules need; what clean rules send is received -/
namespace Own
open PySem PySem.Spec PyProof.Rows L2
section
variable {G : List Bool → List Stf → Prop} {H H' : Hp} {v : V} {D : Addr} {ys : List V}
end
end Own

set_option Elab.async false
set_option linter.all false
set_option maxRecDepth 100000
set_option maxHeartbeats 2000000
/-! rules compared: three of them -/
namespace Own
open PySem PySem.Spec PyProof.Rows L2
/-! what is taken out has this body -/
theorem lst_tk {T : List NdefX.NTab} {H H' : Hp} {l : Addr} {xs : List V} (t : Tk T H H') (h : H l = some (.lst xs)) : H' l = some (.lst xs) := t.ext _ _ h (fun _ z => by cases z)
end Own

set_option Elab.async false
set_option linter.all false
set_option maxRecDepth 100000
set_option maxHeartbeats 4000000
/-! the clean rules of one stuff -/
namespace Own
open PySem PySem.Spec PyProof.Rows L2
open Classical in
/-! ### the law's own -/
/-! ### texts -/
/-! ### the flag 11 -/
/-! ### where the law stands -/
section
variable {T : List NdefX.NTab} {flag : List Bool} {n : Nat} {H H1 H2 : Hp} {b fo tl : Addr} {A : List Stf}
end
end Own

set_option Elab.async false
set_option linter.all false
set_option maxRecDepth 100000
set_option maxHeartbeats 4000000
/-! all rules of one stuff, as the law finds them -/
namespace Own
open PySem PySem.Spec PyProof.Rows L2
/-! ### a list of lists of one stuff -/
/-! ### what could be -/
section
variable {T : List NdefX.NTab} {C : Addr} {flag : List Bool} {q0 : Stf} {H H1 H2 : Hp} {b p pl : Addr} {ml : List Ml}
end
end Own

set_option Elab.async false
set_option linter.all false
set_option maxRecDepth 100000
set_option maxHeartbeats 2000000
/-! comprehensions with two fors, by what holds between the turns -/
namespace Own
open PySem PySem.Spec PyProof.Rows L2
section
variable {J J1 : It} {n : Nat} {G : Hp → Prop} {Y : Nat → Hp → V → Hp → Prop} {g g1 : TG} {tt tt1 : TT} {te : TE} {wi1 : TI} {vs vs1 : List Nat} {σ σ2 : L2.St} {H1 H4 : Hp} {D : Addr} {Qd Nx : Hp → Prop}
/-- the inner for's turns -/
def InnerOk (J1 : It) (g1 : TG) (tt1 : TT) (te : TE) (vs1 : List Nat) (σ2 : L2.St) (D : Addr) (Nx : Hp → Prop) (H4 : Hp) : Prop :=
  ∃ W1 : Nat → Nat → Hp → Prop, (∃ m, W1 0 m H4) ∧ ∀ j k H, W1 j k H → (J1.stop j H ∧ Nx H) ∨ (J1.go j H ∧ ∃ Nx1 : Hp → Prop, (∀ H', Nx1 H' → ∃ k', k' < k ∧ W1 (j + 1) k' H') ∧
    ∀ x H', J1.yld j H x H' → g1 x (wipe σ2 vs1) H' fun σ3 H5 => wipe σ3 vs1 = wipe σ2 vs1 ∧ tt1 σ3 H5 fun b H6 =>
      if b = true then te σ3 H6 fun y H7 => ∃ acc, H7 D = some (.lst acc) ∧ acc.length < sizeLine ∧ Nx1 (upd H7 D (.lst (acc ++ [y]))) else Nx1 H6)
theorem inner_it (w : Walk J1 n G Y) (P1 : Nat → Hp → Prop) (h0 : P1 0 H4) (hG : ∀ i H, i ≤ n → P1 i H → G H)
    (hs : ∀ j x H H', j < n → P1 j H → Y j H x H' → g1 x (wipe σ2 vs1) H' fun σ3 H5 => wipe σ3 vs1 = wipe σ2 vs1 ∧ tt1 σ3 H5 fun b H6 =>
      if b = true then te σ3 H6 fun y H7 => ∃ acc, H7 D = some (.lst acc) ∧ acc.length < sizeLine ∧ P1 (j + 1) (upd H7 D (.lst (acc ++ [y]))) else P1 (j + 1) H6)
    (hd : ∀ H, P1 n H → Nx H) : InnerOk J1 g1 tt1 te vs1 σ2 D Nx H4 := by
  refine ⟨fun j m H => m = n - j ∧ j ≤ n ∧ P1 j H, ⟨n, by simp, Nat.zero_le _, h0⟩, ?_⟩
  rintro j m H ⟨rfl, hj, p⟩
  have q := hG j H hj p
  by_cases hlt : j < n
  · exact .inr ⟨w.goes j H hlt q, P1 (j + 1), fun H' p' => ⟨n - (j + 1), by omega, rfl, hlt, p'⟩, fun x H' y => hs j x H H' hlt p (w.yields j H x H' hlt q y)⟩
  · obtain rfl : j = n := by omega
    exact .inl ⟨w.stops H q, hd H p⟩
theorem outer_it (w : Walk J n G Y) (Pv : Nat → Hp → Prop) (h0 : Pv 0 (upd H1 D (.lst []))) (hG : ∀ i H, i ≤ n → Pv i H → G H)
    (hs : ∀ i x H H', i < n → Pv i H → Y i H x H' → g x (wipe σ vs) H' fun σ2 H2 => wipe σ2 vs = wipe σ vs ∧ tt σ2 H2 fun b H3 =>
      if b = true then wi1 σ2 H3 (fun J1 H4 => InnerOk J1 g1 tt1 te vs1 σ2 D (Pv (i + 1)) H4) else Pv (i + 1) H3) (hd : ∀ H, Pv n H → Qd H) :
    ∃ W : Nat → Nat → Hp → Prop, (∃ m, W 0 m (upd H1 D (.lst []))) ∧ ∀ i m H, W i m H → (J.stop i H ∧ Qd H) ∨ (J.go i H ∧ ∃ Nx : Hp → Prop, (∀ H', Nx H' → ∃ m', m' < m ∧ W (i + 1) m' H') ∧
      ∀ x H', J.yld i H x H' → g x (wipe σ vs) H' fun σ2 H2 => wipe σ2 vs = wipe σ vs ∧ tt σ2 H2 fun b H3 => if b = true then wi1 σ2 H3 (fun J1 H4 => InnerOk J1 g1 tt1 te vs1 σ2 D Nx H4) else Nx H3) := by
  refine ⟨fun i m H => m = n - i ∧ i ≤ n ∧ Pv i H, ⟨n, by simp, Nat.zero_le _, h0⟩, ?_⟩
  rintro i m H ⟨rfl, hi, p⟩
  have q := hG i H hi p
  by_cases hlt : i < n
  · exact .inr ⟨w.goes i H hlt q, Pv (i + 1), fun H' p' => ⟨n - (i + 1), by omega, rfl, hlt, p'⟩, fun x H' y => hs i x H H' hlt p (w.yields i H x H' hlt q y)⟩
  · obtain rfl : i = n := by omega
    exact .inl ⟨w.stops H q, hd H p⟩
/-- the walk over a list within a block -/
theorem pi_listK {X : Cx} {tg e : Expr} {te : TE} (K : PySem.W.Frag) (hK : X.K = K) (he : PE X e te) : PI X tg e (iList K te) := by
  subst hK
  exact pi_list he
end
end Own

set_option Elab.async false
set_option linter.all false
set_option maxRecDepth 100000
set_option maxHeartbeats 2000000
/-! defs that run with no repr under way: repr of nested data -/
namespace Grd
open PySem PySem.Spec PyProof.Rows L2 LamX NdefX
section
variable {P : Program} {w : World} {K : PySem.W.Frag} {mg : Str → Option Value} {base : Heap} {k : Nat} {f : Addr} {fd : FuncData} {ps N : List Str} {sp : Sp}
end
/-! ### the call of such a def -/
section
variable {X : Cx} {j k : Nat} {x : Str} {sp : Sp} {t : TA} {e : Expr} {es : List Expr} {p pos : Pos}
end
/-! ### repr of nested data -/
end Grd
namespace Grd
open PySem PySem.Spec PyProof.Rows L2 LamX NdefX
/-! ### the end of a law whose def shows nested data -/
section
variable {P : Program} {w : World} {K : PySem.W.Frag} {mg mb : Str → Option Value} {k : Nat} {fa a : Addr} {cs : List (Addr × Addr)} {fd : FuncData} {x : Str} {sp : Sp} {t : Shared} {us : List Value} {ns : List Int}
end
end Grd

set_option Elab.async false
set_option linter.all false
set_option maxRecDepth 100000
set_option maxHeartbeats 4000000
/-! a rule's text, as the laws write it; pairs that are kept -/
namespace Own
open PySem PySem.Spec PyProof.Rows L2
end Own
namespace Own
open PySem PySem.Spec PyProof.Rows L2
end Own
namespace Own
open PySem PySem.Spec PyProof.Rows L2
end Own
namespace Own
open PySem PySem.Spec PyProof.Rows L2
section
variable {Hb H H1 : Hp} {b pl : Addr} {ml : List Ml}
end
end Own
namespace Own
open PySem PySem.Spec PyProof.Rows L2
end Own

set_option Elab.async false
set_option linter.all false
set_option maxRecDepth 100000
set_option maxHeartbeats 4000000
/-! lines that are cut and read, as the laws do it -/
namespace Own
open PySem PySem.Spec PyProof.Rows L2
/-! ### what is read has this body -/
/-! ### a line cut at its flags -/
end Own
namespace Own
open PySem PySem.Spec PyProof.Rows L2
end Own
namespace Own
open PySem PySem.Spec PyProof.Rows L2
end Own
namespace Own
open PySem PySem.Spec PyProof.Rows L2
end Own
namespace Own
open PySem PySem.Spec PyProof.Rows L2
/-! ### what is told, as data -/
end Own
namespace Own
open PySem PySem.Spec PyProof.Rows L2
section
variable {CR CC b u c p k : Addr} {flag : List Bool} {ps : List Stf} {poly st : List Bool} {H H1 : Hp}
end
end Own
namespace Own
open PySem PySem.Spec PyProof.Rows L2
end Own

set_option Elab.async false
set_option linter.all false
set_option maxRecDepth 100000
set_option maxHeartbeats 4000000
/-! two rules walked side by side, by the ends of their lines -/
namespace Own
open PySem PySem.Spec PyProof.Rows L2
section
variable {A B : List Stf} {N : Nat}
end
/-! ### a dict of standings and messages -/
/-! ### the walk by levels -/
section
variable {g : Stp} {D L R : List Pr2} {i j : Nat} {s m t : List Bool}
end
end Own
namespace Own
open PySem PySem.Spec PyProof.Rows L2
end Own
namespace Own
open PySem PySem.Spec PyProof.Rows L2
end Own
namespace Own
open PySem PySem.Spec PyProof.Rows L2
end Own
namespace Own
open PySem PySem.Spec PyProof.Rows L2
end Own
namespace Own
open PySem PySem.Spec PyProof.Rows L2
end Own

set_option Elab.async false
set_option linter.all false
set_option maxRecDepth 100000
set_option maxHeartbeats 4000000
/-! live receivers -/
namespace Own
open PySem PySem.Spec PyProof.Rows L2
/-! ### what was heard so far, as values -/
/-! ### objects -/
theorem SqT.same {K : PySem.W.Frag} {H H' : Hp} {t : Addr} {vs : List V} (h : SqT K H t vs) (s : Same H H') : SqT K H' t vs := Evl.ex_t s h
end Own
namespace Own
open PySem PySem.Spec PyProof.Rows L2
theorem putF_ne {f g : Str} {v x : V} {r : List (Str × V)} (h : g ≠ f) : putF f v ((g, x) :: r) = (g, x) :: putF f v r := if_neg h
end Own
namespace Own
open PySem PySem.Spec PyProof.Rows L2
end Own
namespace Own
open PySem PySem.Spec PyProof.Rows L2
end Own
namespace Own
open PySem PySem.Spec PyProof.Rows L2
/-- all but the object at a stays -/
def But (a : Addr) (H H' : Hp) : Prop := ∀ x o, H x = some o → x ≠ a → H' x = some o
theorem But.upd (a : Addr) (H : Hp) (u : HO) : But a H (upd H a u) := fun x o hx n => by rw [upd_ne n]; exact hx
theorem But.trans {a : Addr} {H H1 H2 : Hp} (h : But a H H1) (g : But a H1 H2) : But a H H2 := fun x o hx n => g x o (h x o hx n) n
theorem But.of {a : Addr} {H H1 : Hp} (h : Same H H1) : But a H H1 := fun x o hx _ => h x o hx
end Own
namespace Own
open PySem PySem.Spec PyProof.Rows L2
end Own

set_option Elab.async false
set_option linter.all false
set_option maxRecDepth 100000
namespace Own
open PySem PySem.Spec PyProof.Rows L2
end Own
namespace Own
open PySem PySem.Spec PyProof.Rows L2
section
variable {b u c : Addr} {flag : List Bool} {ps : List Stf} {poly st : List Bool} {H H1 : Hp}
end
end Own
namespace Own
open PySem PySem.Spec PyProof.Rows L2
theorem at_WS (w : List Bool) {i : Int} (h0 : 0 ≤ i) (h : i.toNat < w.length) : ∃ b, w[i.toNat]? = some b ∧ atI (WS w).cps.toList i = some (cd b) := by
  refine ⟨w[i.toNat], List.getElem?_eq_getElem h, ?_⟩
  have e : (WS w).cps.toList = w.map cd := rfl
  rw [e]
  unfold atI ixN
  rw [if_pos h0, if_pos (by rw [List.length_map]; omega)]
  show (w.map cd)[i.toNat]? = _
  rw [List.getElem?_map, List.getElem?_eq_getElem h]
  rfl
end Own
namespace Own
open PySem PySem.Spec PyProof.Rows L2
theorem Pairs.tups {H H' : Hp} (k : ∀ (a : Addr) (xs : List V), H a = some (.tup xs) → H' a = some (.tup xs)) : ∀ {vs : List V} {rs : List Stf}, Pairs H vs rs → Pairs H' vs rs
  | [], [], _ => trivial
  | _ :: _, _ :: _, h => by
    obtain ⟨⟨t, e, h1⟩, h2⟩ := h
    exact ⟨⟨t, e, k _ _ h1⟩, Pairs.tups k h2⟩
  | [], _ :: _, h => h.elim
  | _ :: _, [], h => h.elim
section
variable {CR CC b u c p k a C dx : Addr} {flag : List Bool} {ps : List Stf} {poly st : List Bool} {H H' : Hp} {x y z : V} {n1 n2 n3 : Str}
end
end Own
namespace Own
open PySem PySem.Spec PyProof.Rows L2
section
variable {K : PySem.W.Frag} {CR CC CH CL b u c p k a h q t : Addr} {flag : List Bool} {ps : List Stf} {poly st : List Bool} {s : Hs} {n : Nat} {es : List Addr} {vs : List V} {H H' : Hp}
end
section
variable {K : PySem.W.Frag} {CR CC CH CL b u c p k a h q t : Addr} {flag : List Bool} {ps : List Stf} {poly st : List Bool} {s : Hs} {n : Nat} {es : List Addr} {vs : List V} {H H' : Hp}
end
end Own
namespace Own
open PySem PySem.Spec PyProof.Rows L2
theorem te_cont {te : TE} {σ : L2.St} {H : Hp} {Q : V → Hp → Prop} (R : V → Hp → Prop) (h : ∀ Q' : V → Hp → Prop, (∀ v H', R v H' → Q' v H') → te σ H Q') (hR : ∀ v H', R v H' → Q v H') : te σ H Q := h Q hR
end Own
namespace Own
open PySem PySem.Spec PyProof.Rows L2
end Own

set_option Elab.async false
set_option linter.all false
set_option maxRecDepth 100000
namespace Own
open PySem PySem.Spec PyProof.Rows L2
section
variable {CC b c k a C dx : Addr} {T : List Rl3} {poly st : List Bool} {H H' : Hp} {x y z : V} {n1 n2 n3 : Str}
end
end Own
namespace Own
open PySem PySem.Spec PyProof.Rows L2
end Own
namespace Own
open PySem PySem.Spec PyProof.Rows L2
end Own
namespace Own
open PySem PySem.Spec PyProof.Rows L2
end Own
namespace Own
open PySem PySem.Spec PyProof.Rows L2
end Own
namespace Own
open PySem PySem.Spec PyProof.Rows L2
end Own
namespace Own
open PySem PySem.Spec PyProof.Rows L2
end Own

set_option Elab.async false
set_option linter.all false
set_option maxRecDepth 100000
namespace Own
open PySem PySem.Spec PyProof.Rows L2
end Own
namespace Own
open PySem PySem.Spec PyProof.Rows L2
end Own

set_option Elab.async false
set_option linter.all false
set_option maxRecDepth 100000
namespace Own
open PySem PySem.Spec PyProof.Rows L2
end Own
namespace Own
open PySem PySem.Spec PyProof.Rows L2
section
variable {K : PySem.W.Frag} {CR CH : Addr} {H H' : Hp}
end
end Own
namespace Own
open PySem PySem.Spec PyProof.Rows L2
section
variable {K : PySem.W.Frag} {CR CC CH CL b u l v k L h : Addr} {es : List Addr} {hist : List Hst} {x : Hst} {flag : List Bool} {ps : List Stf} {poly st : List Bool} {us : List (List Bool)} {t : Nat} {H H' H2 : Hp}
end
end Own
namespace Own
open PySem PySem.Spec PyProof.Rows L2
end Own
namespace Own
open PySem PySem.Spec PyProof.Rows L2
end Own
namespace Own
open PySem PySem.Spec PyProof.Rows L2
end Own
namespace Own
open PySem PySem.Spec PyProof.Rows L2
end Own

set_option Elab.async false
set_option linter.all false
set_option maxRecDepth 100000
set_option maxHeartbeats 2000000
/-! clean rules by computing, and what they send one behind another -/
namespace Own
open PySem PySem.Spec PyProof.Rows L2
end Own
namespace Own
open PySem PySem.Spec PyProof.Rows L2
section
variable {CR CC b p k : Addr} {flag : List Bool} {ps : List Stf} {poly st : List Bool} {H H' : Hp}
end
end Own
namespace Own
open PySem PySem.Spec PyProof.Rows L2
theorem same_upd {D : Addr} {H H1 : Hp} {o : HO} (h : Same H H1) (hD : H D = none) : Same H (upd H1 D o) := fun a u ha => by
  rw [upd_ne (ne_of_none ha hD)]
  exact h _ _ ha
theorem take_sn {α : Type} {l : List α} {i : Nat} {x : α} (h : l[i]? = some x) : l.take (i + 1) = l.take i ++ [x] := by
  rw [List.take_add_one, h]
  rfl
end Own
namespace Own
open PySem PySem.Spec PyProof.Rows L2
section
variable {CR CC b p k a C dx : Addr} {flag : List Bool} {ps : List Stf} {poly st : List Bool} {H H' : Hp} {n1 n2 n3 : Str} {x y z : V}
end
section
variable {K : PySem.W.Frag} {CR CC CH CL : Addr} {b p k a : Addr} {flag : List Bool} {ps : List Stf} {poly st : List Bool} {s : Hs} {n : Nat} {H H' : Hp}
end
end Own
namespace Own
open PySem PySem.Spec PyProof.Rows L2
end Own

set_option Elab.async false
set_option linter.all false
set_option maxRecDepth 100000
set_option maxHeartbeats 2000000
/-! clean rules: what is sent is received; behind walks that grow the heap -/
namespace Own
open PySem PySem.Spec PyProof.Rows L2
section
variable {flag poly st : List Bool} {ps : List Stf}
end
/-! ### the heap grows -/
section
variable {K : PySem.W.Frag} {T : List NdefX.NTab} {CR CC CH CL : Addr} {b u c p k a : Addr} {flag : List Bool} {ps : List Stf} {poly st : List Bool} {s : Hs} {n : Nat} {H H1 H' : Hp}
end
/-! ### texts of clean rules -/
end Own
namespace Own
open PySem PySem.Spec PyProof.Rows L2
end Own

set_option Elab.async false
set_option linter.all false
set_option maxRecDepth 100000
set_option maxHeartbeats 2000000
/-! unseen: the leaves of the net (tail, can_end, hear, moved, settled) -/
namespace Own
open PySem PySem.Spec PyProof.Rows L2
/-- the longest end of a line with which one of these words begins -/
def tailL (ws : List (List Bool)) : List Bool → List Bool
  | [] => []
  | b :: u => if ws.any (fun w => decide ((b :: u) <+: w)) = true then b :: u else tailL ws u
theorem tailL_le (ws : List (List Bool)) : ∀ u : List Bool, (tailL ws u).length ≤ u.length
  | [] => Nat.le_refl _
  | b :: u => by
    unfold tailL
    split
    · exact Nat.le_refl _
    · exact Nat.le_trans (tailL_le ws u) (Nat.le_succ _)
theorem tailL_drop (ws : List (List Bool)) {u : List Bool} {i : Nat} (hi : i < u.length) : tailL ws (u.drop i) = if ws.any (fun w => decide (u.drop i <+: w)) = true then u.drop i else tailL ws (u.drop (i + 1)) := by
  rw [List.drop_eq_getElem_cons hi]
  rfl
/-- a tail is short: it begins one of the words -/
theorem tailL_pre (ws : List (List Bool)) : ∀ u : List Bool, tailL ws u = [] ∨ ∃ w ∈ ws, tailL ws u <+: w
  | [] => .inl rfl
  | b :: u => by
    unfold tailL
    split
    · rename_i h
      obtain ⟨w, hw, h2⟩ := List.any_eq_true.mp h
      exact .inr ⟨w, hw, of_decide_eq_true h2⟩
    · exact tailL_pre ws u
def spTail : Sp := fun vs H Q _ => ∃ (u : List Bool) (l : Addr) (ws : List (List Bool)), vs = [.str (WS u), .ref l] ∧ H l = some (.lst (ws.map fun w => V.str (WS w))) ∧ u.length ≤ 90000 ∧ ws.length ≤ 900 ∧ ∀ H', Same H H' → Q (.str (WS (tailL ws u))) H'
/-- a line can be a whole body as far as its end tells, and the flag behind it is the first one -/
def canEnd (flag : List Bool) (ps : List Stf) (u : List Bool) : Bool := (putL ps u).isNone && decide (Kept flag u)
def spCanEnd (C : Addr) : Sp := fun vs H Q _ => ∃ (p : Addr) (flag : List Bool) (ps : List Stf) (line : List Bool), vs = [.ref p, .str (WS line)] ∧ RlAt C H p flag ps ∧ flag ≠ [] ∧ flag.length ≤ 900 ∧ line.length ≤ 90000 ∧ ∀ H', Same H H' → Q (.bl (canEnd flag ps line)) H'
def spPats (C : Addr) : Sp := fun vs H Q _ => ∃ (p : Addr) (flag : List Bool) (ps : List Stf), vs = [.ref p] ∧ RlAt C H p flag ps ∧ ps.length ≤ 900 ∧ ∀ H' l, Same H H' → H' l = some (.lst (ps.map fun q => V.str (WS q.1))) → Q (.ref l) H'
/-- how a receiver goes on with one bit: what was heard last, what was read -/
def hearB (flag : List Bool) (ps : List Stf) (hr : List Bool × List Bool) (b : Bool) : Option (List Bool × List Bool) :=
  if putL ps hr.1 = some (!b) then none else if flag <:+ hr.1 ++ [b] then none
  else some (tailL (flag :: ps.map (·.1)) (hr.1 ++ [b]), if putL ps hr.1 = none then hr.2 ++ [b] else hr.2)
def hearL (flag : List Bool) (ps : List Stf) : List Bool → List Bool × List Bool → Option (List Bool × List Bool)
  | [], hr => some hr
  | b :: u, hr => (hearB flag ps hr b).bind (hearL flag ps u)
def HrdAt (H : Hp) (v : V) : Option (List Bool × List Bool) → Prop
  | none => v = .non
  | some x => ∃ t, v = .ref t ∧ H t = some (.tup [.str (WS x.1), .str (WS x.2)])
def spHearU (C : Addr) : Sp := fun vs H Q _ => ∃ (p : Addr) (flag : List Bool) (ps : List Stf) (heard bits : List Bool), vs = [.ref p, .str (WS heard), .str (WS bits)] ∧ RlAt C H p flag ps ∧ flag ≠ [] ∧ flag.length ≤ 900 ∧ ps.length ≤ 800 ∧ (∀ q ∈ ps, q.1.length ≤ 900) ∧ heard.length ≤ 900 ∧ bits.length ≤ 900 ∧
  ∀ H' v, Same H H' → HrdAt H' v (hearL flag ps bits (heard, [])) → Q v H'
end Own

set_option Elab.async false
set_option linter.all false
set_option maxRecDepth 100000
set_option maxHeartbeats 2000000
/-! unseen: gaps -/
namespace Own
open PySem PySem.Spec PyProof.Rows L2
/-- a gap: how many bits more were read than sent, and those that wait -/
abbrev Gp := Int × Option (List Bool)
/-- as many bits wait as the gap is wide -/
def GpW (g : Gp) : Prop := ∀ w, g.2 = some w → w.length = g.1.natAbs
def movedG (g : Gp) (by_ : Int) (b : Bool) : Gp := (g.1 + by_, match g.2 with
  | none => none
  | some w => if 0 ≤ g.1 * by_ then some (w ++ [b]) else match w with
    | [] => none
    | c :: u => if c = b then some u else none)
theorem moved_w {g : Gp} {y : Int} {b : Bool} (hy : y = 1 ∨ y = -1) (h : GpW g) : GpW (movedG g y b) := by
  obtain ⟨s, w⟩ := g
  intro v hv
  unfold movedG at hv ⊢
  dsimp only at hv ⊢
  cases w with
  | none => cases hv
  | some w =>
    have hw := h w rfl
    dsimp only at hw hv
    split at hv
    · rename_i h0
      cases hv
      rw [List.length_append, hw]
      show s.natAbs + 1 = _
      rcases hy with rfl | rfl <;> omega
    · rename_i h0
      cases w with
      | nil => cases hv
      | cons c u =>
        dsimp only at hv
        split at hv
        · cases hv
          have : v.length + 1 = s.natAbs := hw
          rcases hy with rfl | rfl <;> omega
        · cases hv
def GapAt (H : Hp) (v : V) (g : Gp) : Prop := ∃ t, v = .ref t ∧ H t = some (.tup [.int g.1, oW g.2])
theorem GapAt.same {H H' : Hp} {v : V} {g : Gp} (s : Same H H') (h : GapAt H v g) : GapAt H' v g := by
  obtain ⟨t, e, h⟩ := h
  exact ⟨t, e, s _ _ h⟩
def spMoved : Sp := fun vs H Q _ => ∃ (v : V) (g : Gp) (y : Int) (b : Bool), vs = [v, .int y, .str (WS [b])] ∧ GapAt H v g ∧ (y = 1 ∨ y = -1) ∧ GpW g ∧ g.1.natAbs ≤ 90000 ∧ ∀ H' v', Same H H' → GapAt H' v' (movedG g y b) → Q v' H'
end Own

set_option Elab.async false
set_option linter.all false
set_option maxRecDepth 100000
set_option maxHeartbeats 2000000
/-! unseen: the net's methods that only read it -/
namespace Own
open PySem PySem.Spec PyProof.Rows L2
/-- what the module says of the class Net -/
structure NtT (K : PySem.W.Frag) (C : Addr) : Prop where
  cl : Cls K C
  nR : NoAttr K C "_rule"
  nK : NoAttr K C "_kinds"
  nM : NoAttr K C "_most"
  nH : NoAttr K C "_how"
  nP : NoAttr K C "_places"
  nN : NoAttr K C "_numbers"
  nS : NoAttr K C "_steps"
  nB : NoAttr K C "begin"
/-- the ways: same, shift (kept gaps), cut, any -/
inductive How where
  | same | shift | cut | any
deriving DecidableEq
def How.str : How → Str
  | .same => "same"
  | .shift => "shift"
  | .cut => "cut"
  | .any => "any"
def How.keep : How → Bool
  | .same => true
  | .shift => true
  | _ => false
/-- the gap, without what does not matter any more -/
def settledG (hw : How) (g : Gp) (cut : Nat) : Gp := if hw.keep = true then g else if g.2 = none ∨ (0 < cut ∧ g.1 < 0) then (0, none) else g
theorem settled_w {hw : How} {g : Gp} {cut : Nat} (h : GpW g) : GpW (settledG hw g cut) := by
  unfold settledG
  split
  · exact h
  · split
    · intro w hw; cases hw
    · exact h
def spSettled (C : Addr) : Sp := fun vs H Q _ => ∃ (p dx : Addr) (fs : List (Str × V)) (v : V) (g : Gp) (hw : How) (cut : Nat), vs = [.ref p, v, .int (cut : Nat)] ∧ H p = some (.ins C dx fs) ∧ fs.lookup ("_how" : Str) = some (V.str hw.str) ∧ GapAt H v g ∧
  ∀ H' v', Same H H' → GapAt H' v' (settledG hw g cut) → Q v' H'
def spGapB (C : Addr) : Sp := fun vs H Q _ => ∃ (p dx : Addr) (fs : List (Str × V)) (v : V) (g : Gp) (hw : How) (cut : Nat) (y : Int) (b : Bool), vs = [.ref p, v, .int y, .str (WS [b]), .int (cut : Nat)] ∧ H p = some (.ins C dx fs) ∧ fs.lookup ("_how" : Str) = some (V.str hw.str) ∧ fs.lookup ("_settled" : Str) = none ∧
  GapAt H v g ∧ (y = 1 ∨ y = -1) ∧ GpW g ∧ g.1.natAbs ≤ 90000 ∧ ∀ H' v', Same H H' → GapAt H' v' (settledG hw (movedG g y b) cut) → Q v' H'
/-- what the receiver stands for: heard, how much of a flag that comes too early, the gap, the bits read -/
abbrev Ear := List Bool × Nat × Gp × List Bool
def EarAt (H : Hp) (v : V) (e : Ear) : Prop := ∃ t gv, v = .ref t ∧ H t = some (.tup [.str (WS e.1), .int (e.2.1 : Nat), gv, .str (WS e.2.2.2)]) ∧ GapAt H gv e.2.2.1
theorem EarAt.same {H H' : Hp} {v : V} {e : Ear} (s : Same H H') (h : EarAt H v e) : EarAt H' v e := by
  obtain ⟨t, gv, h1, h2, h3⟩ := h
  exact ⟨t, gv, h1, s _ _ h2, h3.same s⟩
theorem EarAt.tups {H H' : Hp} {v : V} {e : Ear} (s : ∀ a xs, H a = some (.tup xs) → H' a = some (.tup xs)) (h : EarAt H v e) : EarAt H' v e := by
  obtain ⟨t, gv, h1, h2, g, h3, h4⟩ := h
  exact ⟨t, gv, h1, s _ _ h2, g, h3, s _ _ h4⟩
def How.cuts : How → Bool
  | .cut => true
  | .any => true
  | _ => false
def gapNew (hw : How) (g : Gp) : List Bool → Gp
  | [] => g
  | c :: _ => settledG hw (movedG g 1 c) 0
/-- the ear behind a bit that is heard as one of the message, or put in -/
def earsH (hw : How) (flag : List Bool) (ps : List Stf) (hd : List Bool) (g : Gp) (rd : List Bool) (b : Bool) : List Ear :=
  match hearB flag ps (hd, []) b with
  | none => []
  | some x => [(x.1, 0, gapNew hw g x.2, rd ++ x.2)]
/-- .. as the first one of a flag that comes too early -/
def earsC (hw : How) (flag : List Bool) (ps : List Stf) (hd : List Bool) (g : Gp) (rd : List Bool) (b : Bool) : List Ear :=
  if hw.cuts = true ∧ flag[0]? = some b ∧ canEnd flag ps hd = true then [([], 1, settledG hw g 1, rd)] else []
theorem earsH_le (hw : How) (flag : List Bool) (ps : List Stf) (hd : List Bool) (g : Gp) (rd : List Bool) (b : Bool) : (earsH hw flag ps hd g rd b).length ≤ 1 := by
  unfold earsH
  cases hearB flag ps (hd, []) b
  · exact Nat.zero_le _
  · exact Nat.le_refl _
def earsB (hw : How) (flag : List Bool) (ps : List Stf) (e : Ear) (b : Bool) : List Ear :=
  if e.2.1 = flag.length then [e] else if 0 < e.2.1 then (if flag[e.2.1]? = some b then [(e.1, e.2.1 + 1, e.2.2.1, e.2.2.2)] else []) else
  earsH hw flag ps e.1 e.2.2.1 e.2.2.2 b ++ earsC hw flag ps e.1 e.2.2.1 e.2.2.2 b
theorem hear_new {flag : List Bool} {ps : List Stf} {h : List Bool} {b : Bool} {x : List Bool × List Bool} (e : hearB flag ps (h, []) b = some x) : x.2 = [] ∨ x.2 = [b] := by
  unfold hearB at e
  split at e
  · cases e
  · split at e
    · cases e
    · cases e
      dsimp only
      split
      · exact .inr rfl
      · exact .inl rfl
theorem hear_one {flag : List Bool} {ps : List Stf} {hr : List Bool × List Bool} {b : Bool} : hearL flag ps [b] hr = hearB flag ps hr b := by
  show (hearB flag ps hr b).bind (fun x => some x) = _
  cases hearB flag ps hr b <;> rfl
theorem cuts_in (hw : How) : (if false = true then !inV (V.str hw.str) [V.str "cut", V.str "any"] else inV (V.str hw.str) [V.str "cut", V.str "any"]) = hw.cuts := by
  cases hw <;> decide +kernel
def spEarsB (C CRule : Addr) : Sp := fun vs H Q _ => ∃ (p dx rp : Addr) (fs : List (Str × V)) (v : V) (e : Ear) (hw : How) (b : Bool) (flag : List Bool) (ps : List Stf), vs = [.ref p, v, .str (WS [b])] ∧ H p = some (.ins C dx fs) ∧ fs.lookup ("_how" : Str) = some (V.str hw.str) ∧ fs.lookup ("_settled" : Str) = none ∧ fs.lookup ("_gap_behind" : Str) = none ∧
  fs.lookup ("_rule" : Str) = some (.ref rp) ∧ RlAt CRule H rp flag ps ∧ flag ≠ [] ∧ flag.length ≤ 900 ∧ ps.length ≤ 800 ∧ (∀ q ∈ ps, q.1.length ≤ 900) ∧ EarAt H v e ∧ e.1.length ≤ 900 ∧ e.2.1 ≤ flag.length ∧ GpW e.2.2.1 ∧ e.2.2.1.1.natAbs ≤ 90000 ∧ e.2.2.2.length ≤ 900 ∧
  ∀ H' l ws, Same H H' → H l = none → H' l = some (.lst ws) → Paired (EarAt H') ws (earsB hw flag ps e b) → Q (.ref l) H'
theorem how_in (hw : How) : (if false = true then !inV (V.str hw.str) [V.str "same", V.str "shift"] else inV (V.str hw.str) [V.str "same", V.str "shift"]) = hw.keep := by
  cases hw <;> decide +kernel
end Own

set_option Elab.async false
set_option linter.all false
set_option maxRecDepth 100000
set_option maxHeartbeats 2000000
/-! unseen: ears behind bits that arrive -/
namespace Own
open PySem PySem.Spec PyProof.Rows L2
/-- an ear within bounds: n counts the bits heard and sent by now -/
structure EarOk (flag : List Bool) (n : Nat) (e : Ear) : Prop where
  hd : e.1.length ≤ 900
  cut : e.2.1 ≤ flag.length
  gw : GpW e.2.2.1
  gap : e.2.2.1.1.natAbs ≤ n
  rd : e.2.2.2.length ≤ n
theorem EarOk.mono {flag : List Bool} {n m : Nat} {e : Ear} (h : EarOk flag n e) (hnm : n ≤ m) : EarOk flag m e := ⟨h.hd, h.cut, h.gw, Nat.le_trans h.gap hnm, Nat.le_trans h.rd hnm⟩
theorem settled_le (hw : How) (g : Gp) (cut : Nat) : (settledG hw g cut).1.natAbs ≤ g.1.natAbs := by
  unfold settledG
  split
  · exact Nat.le_refl _
  · split
    · exact Nat.zero_le _
    · exact Nat.le_refl _
theorem moved_le {g : Gp} {y : Int} {b : Bool} (hy : y = 1 ∨ y = -1) : (movedG g y b).1.natAbs ≤ g.1.natAbs + 1 := by
  show (g.1 + y).natAbs ≤ _
  rcases hy with rfl | rfl <;> omega
theorem gapNew_ok {hw : How} {g : Gp} {x : List Bool} (h : GpW g) : GpW (gapNew hw g x) ∧ (gapNew hw g x).1.natAbs ≤ g.1.natAbs + 1 := by
  cases x with
  | nil => exact ⟨h, Nat.le_succ _⟩
  | cons c u => exact ⟨settled_w (moved_w (.inl rfl) h), Nat.le_trans (settled_le _ _ _) (moved_le (.inl rfl))⟩
theorem hearB_le {flag : List Bool} {ps : List Stf} {h : List Bool} {b : Bool} {x : List Bool × List Bool} (hfl : flag.length ≤ 900) (hp9 : ∀ q ∈ ps, q.1.length ≤ 900) (e : hearB flag ps (h, []) b = some x) : x.1.length ≤ 900 := by
  unfold hearB at e
  split at e
  · cases e
  · split at e
    · cases e
    · cases e
      rcases tailL_pre (flag :: ps.map (·.1)) (h ++ [b]) with e | ⟨w, hw, hp⟩
      · show (tailL _ _).length ≤ 900
        rw [e]
        exact Nat.zero_le _
      · refine Nat.le_trans hp.length_le ?_
        rcases List.mem_cons.mp hw with e | hw
        · rw [e]
          exact hfl
        · obtain ⟨x, hx, rfl⟩ := List.mem_map.mp hw
          exact hp9 x hx
theorem earsB_ok {hw : How} {flag : List Bool} {ps : List Stf} {n : Nat} {e : Ear} {b : Bool} (hf : flag ≠ []) (hfl : flag.length ≤ 900) (hp9 : ∀ q ∈ ps, q.1.length ≤ 900) (h : EarOk flag n e) : ∀ e' ∈ earsB hw flag ps e b, EarOk flag (n + 1) e' := by
  intro e' he
  unfold earsB at he
  split at he
  · rw [List.mem_singleton.mp he]
    exact h.mono (Nat.le_succ n)
  · rename_i hc
    split at he
    · split at he
      · rw [List.mem_singleton.mp he]
        exact ⟨h.hd, by have := h.cut; show e.2.1 + 1 ≤ _; omega, h.gw, Nat.le_trans h.gap (Nat.le_succ n), Nat.le_trans h.rd (Nat.le_succ n)⟩
      · cases he
    · rcases List.mem_append.mp he with he | he
      · unfold earsH at he
        cases eh : hearB flag ps (e.1, []) b with
        | none =>
          rw [eh] at he
          cases he
        | some x =>
          rw [eh] at he
          rw [List.mem_singleton.mp he]
          obtain ⟨g1, g2⟩ := gapNew_ok (hw := hw) (x := x.2) h.gw
          refine ⟨hearB_le hfl hp9 eh, Nat.zero_le _, g1, Nat.le_trans g2 (Nat.succ_le_succ h.gap), ?_⟩
          show (e.2.2.2 ++ x.2).length ≤ _
          rw [List.length_append]
          have hx : x.2.length ≤ 1 := by
            rcases hear_new eh with z | z <;> rw [z]
            · exact Nat.zero_le _
            · exact Nat.le_refl _
          have := h.rd
          omega
      · unfold earsC at he
        split at he
        · rw [List.mem_singleton.mp he]
          exact ⟨Nat.zero_le _, List.length_pos_iff.mpr hf, settled_w h.gw, Nat.le_trans (settled_le _ _ _) (Nat.le_trans h.gap (Nat.le_succ n)), Nat.le_trans h.rd (Nat.le_succ n)⟩
        · cases he
theorem earsB_two (hw : How) (flag : List Bool) (ps : List Stf) (e : Ear) (b : Bool) : (earsB hw flag ps e b).length ≤ 2 := by
  unfold earsB
  split
  · exact Nat.le_succ 1
  · split
    · split <;> simp
    · rw [List.length_append]
      have h1 := earsH_le hw flag ps e.1 e.2.2.1 e.2.2.2 b
      have h2 : (earsC hw flag ps e.1 e.2.2.1 e.2.2.2 b).length ≤ 1 := by
        unfold earsC
        split <;> simp
      omega
/-- all ears behind bits that arrive -/
def arrE (hw : How) (flag : List Bool) (ps : List Stf) : List Bool → List Ear → List Ear
  | [], es => es
  | b :: u, es => arrE hw flag ps u (es.flatMap fun e => earsB hw flag ps e b)
theorem arrE_ok {hw : How} {flag : List Bool} {ps : List Stf} (hf : flag ≠ []) (hfl : flag.length ≤ 900) (hp9 : ∀ q ∈ ps, q.1.length ≤ 900) : ∀ (u : List Bool) {n : Nat} {es : List Ear}, (∀ e ∈ es, EarOk flag n e) → ∀ e ∈ arrE hw flag ps u es, EarOk flag (n + u.length) e
  | [], _, _, h => h
  | b :: u, n, es, h => by
    have h2 : ∀ e ∈ es.flatMap (fun e => earsB hw flag ps e b), EarOk flag (n + 1) e := fun e he => by
      obtain ⟨e0, h0, h1⟩ := List.mem_flatMap.mp he
      exact earsB_ok hf hfl hp9 (h e0 h0) e h1
    intro e he
    have h3 := arrE_ok hf hfl hp9 u h2 e he
    rw [List.length_cons, show n + (u.length + 1) = n + 1 + u.length by omega]
    exact h3
theorem arrE_snoc {hw : How} {flag : List Bool} {ps : List Stf} {b : Bool} : ∀ (u : List Bool) (es : List Ear), arrE hw flag ps (u ++ [b]) es = (arrE hw flag ps u es).flatMap fun e => earsB hw flag ps e b
  | [], _ => rfl
  | c :: u, es => arrE_snoc u _
theorem flat_two {hw : How} {flag : List Bool} {ps : List Stf} {b : Bool} : ∀ es : List Ear, (es.flatMap fun e => earsB hw flag ps e b).length ≤ 2 * es.length
  | [] => Nat.le_refl _
  | e :: es => by
    rw [List.flatMap_cons, List.length_append, List.length_cons]
    have h1 := earsB_two hw flag ps e b
    have h2 := flat_two (hw := hw) (flag := flag) (ps := ps) (b := b) es
    omega
theorem arrE_len {hw : How} {flag : List Bool} {ps : List Stf} : ∀ (u : List Bool) (es : List Ear), (arrE hw flag ps u es).length ≤ 2 ^ u.length * es.length
  | [], es => by rw [List.length_nil, Nat.pow_zero, Nat.one_mul]; exact Nat.le_refl _
  | b :: u, es => by
    have h1 := arrE_len (hw := hw) (flag := flag) (ps := ps) u (es.flatMap fun e => earsB hw flag ps e b)
    have h2 := flat_two (hw := hw) (flag := flag) (ps := ps) (b := b) es
    refine Nat.le_trans h1 (Nat.le_trans (Nat.mul_le_mul_left _ h2) ?_)
    rw [List.length_cons, Nat.pow_succ, Nat.mul_assoc]
    exact Nat.le_refl _
theorem paired_app {α β : Type} {F : α → β → Prop} : ∀ {l : List α} {m : List β} {l' : List α} {m' : List β}, Paired F l m → Paired F l' m' → Paired F (l ++ l') (m ++ m')
  | _, _, _, _, .nil, h => h
  | _, _, _, _, .cons r t, h => .cons r (paired_app t h)
theorem paired_getE {α β : Type} {F : α → β → Prop} : ∀ {l : List α} {m : List β} {i : Nat} {x : α}, Paired F l m → l[i]? = some x → ∃ y, m[i]? = some y ∧ F x y
  | _, _, _, _, .nil, h => by cases h
  | _, _, 0, _, .cons r t, h => by cases h; exact ⟨_, rfl, r⟩
  | _, _, i + 1, _, .cons r t, h => paired_getE (i := i) t h
def spArrE (C CRule : Addr) : Sp := fun vs H Q _ => ∃ (p dx rp : Addr) (fs : List (Str × V)) (v : V) (e : Ear) (hw : How) (bits flag : List Bool) (ps : List Stf) (n : Nat), vs = [.ref p, v, .str (WS bits)] ∧ H p = some (.ins C dx fs) ∧ fs.lookup ("_how" : Str) = some (V.str hw.str) ∧ fs.lookup ("_settled" : Str) = none ∧ fs.lookup ("_gap_behind" : Str) = none ∧ fs.lookup ("_ears_behind" : Str) = none ∧
  fs.lookup ("_rule" : Str) = some (.ref rp) ∧ RlAt CRule H rp flag ps ∧ flag ≠ [] ∧ flag.length ≤ 900 ∧ ps.length ≤ 800 ∧ (∀ q ∈ ps, q.1.length ≤ 900) ∧ EarAt H v e ∧ EarOk flag n e ∧ n ≤ 880 ∧ bits.length ≤ 3 ∧
  ∀ H' l ws, Same H H' → H l = none → H' l = some (.lst ws) → Paired (EarAt H') ws (arrE hw flag ps bits [e]) → Q (.ref l) H'
end Own

set_option Elab.async false
set_option linter.all false
set_option maxRecDepth 100000
set_option maxHeartbeats 2000000
/-! unseen: places and their numbers -/
namespace Own
open PySem PySem.Spec PyProof.Rows L2 ND
/-- a place: sent last, heard last, cut, gap, hits used -/
abbrev Plc := List Bool × List Bool × Nat × Gp × Nat
def waitKey : Option (List Bool) → NestedKey
  | none => .none
  | some w => .text (WS w)
def gapKey (g : Gp) : NestedKey := .tup [.num g.1, waitKey g.2]
def plKey (x : Plc) : NestedKey := .tup [.text (WS x.1), .text (WS x.2.1), .num (x.2.2.1 : Nat), gapKey x.2.2.2.1, .num (x.2.2.2.2 : Nat)]
theorem waitKey_inj : ∀ {a b : Option (List Bool)}, waitKey a = waitKey b → a = b
  | none, none, _ => rfl
  | none, some _, h => by cases h
  | some _, none, h => by cases h
  | some a, some b, h => by
    unfold waitKey at h
    rw [WS_inj (NestedKey.text.inj h)]
theorem plKey_inj {x y : Plc} (h : plKey x = plKey y) : x = y := by
  obtain ⟨a, b, c, ⟨s, w⟩, u⟩ := x
  obtain ⟨a2, b2, c2, ⟨s2, w2⟩, u2⟩ := y
  unfold plKey gapKey at h
  have h := NestedKey.tup.inj h
  simp only [List.cons.injEq, NestedKey.text.injEq, NestedKey.num.injEq, NestedKey.tup.injEq, and_true] at h
  obtain ⟨h1, h2, h3, ⟨h4, h5⟩, h6⟩ := h
  rw [WS_inj h1, WS_inj h2, Int.ofNat.inj h3, h4, waitKey_inj h5, Int.ofNat.inj h6]
theorem plKey_depth (x : Plc) : (plKey x).depth ≤ 8 := by
  obtain ⟨a, b, c, ⟨s, w⟩, u⟩ := x
  cases w <;> simp [plKey, gapKey, waitKey, NestedKey.depth, NestedKey.depthAll]
def PlAt (H : Hp) (v : V) (x : Plc) : Prop := ∃ t gv, v = .ref t ∧ H t = some (.tup [.str (WS x.1), .str (WS x.2.1), .int (x.2.2.1 : Nat), gv, .int (x.2.2.2.2 : Nat)]) ∧ GapAt H gv x.2.2.2.1
theorem PlAt.tups {H H' : Hp} {v : V} {x : Plc} (s : ∀ a xs, H a = some (.tup xs) → H' a = some (.tup xs)) (h : PlAt H v x) : PlAt H' v x := by
  obtain ⟨t, gv, h1, h2, g, h3, h4⟩ := h
  exact ⟨t, gv, h1, s _ _ h2, g, h3, s _ _ h4⟩
theorem PlAt.key {H : Hp} {v : V} {x : Plc} (h : PlAt H v x) : KAt H (plKey x) v := by
  obtain ⟨t, gv, rfl, h2, g, rfl, h4⟩ := h
  refine .tup h2 (.cons (.text _) (.cons (.text _) (.cons (.num _) (.cons (.tup h4 (.cons (.num _) (.cons ?_ .nil))) (.cons (.num _) .nil)))))
  cases x.2.2.2.1.2 with
  | none => exact .none
  | some w => exact .text _
def entsN : Nat → List Addr → List Plc → List NEnt
  | n, a :: as, x :: xs => (plKey x, a, .int (n : Nat)) :: entsN (n + 1) as xs
  | _, _, _ => []
/-- the number of a place -/
def numL : List Plc → Plc → Option Nat
  | [], _ => none
  | y :: L, x => if y = x then some 0 else (numL L x).map (· + 1)
theorem nd_num {x : Plc} : ∀ {as : List Addr} {L : List Plc} (n : Nat), as.length = L.length → ndVal (entsN n as L) (plKey x) = (numL L x).map fun i => V.int ((n + i : Nat) : Int)
  | [], [], _, _ => rfl
  | a :: as, y :: L, n, h => by
    have ih := nd_num (x := x) (as := as) (L := L) (n + 1) (Nat.succ.inj h)
    unfold ndVal at ih ⊢
    unfold entsN numL
    rw [List.find?_cons]
    by_cases e : y = x
    · rw [if_pos e, decide_eq_true (show plKey y = plKey x by rw [e])]
      rfl
    · rw [if_neg e, decide_eq_false (show ¬ plKey y = plKey x from fun z => e (plKey_inj z))]
      show ((entsN (n + 1) as L).find? _).map _ = _
      rw [ih, Option.map_map]
      congr 1
      funext i
      show V.int ((n + 1 + i : Nat) : Int) = V.int ((n + (i + 1) : Nat) : Int)
      rw [show n + 1 + i = n + (i + 1) by omega]
theorem entsN_snoc {a : Addr} {x : Plc} : ∀ {as : List Addr} {L : List Plc} (n : Nat), as.length = L.length → entsN n (as ++ [a]) (L ++ [x]) = entsN n as L ++ [(plKey x, a, V.int ((n + L.length : Nat) : Int))]
  | [], [], _, _ => rfl
  | b :: as, y :: L, n, h => by
    show (plKey y, b, V.int (n : Nat)) :: entsN (n + 1) (as ++ [a]) (L ++ [x]) = _
    rw [entsN_snoc (n + 1) (Nat.succ.inj h), List.length_cons, show n + 1 + L.length = n + (L.length + 1) by omega]
    rfl
theorem entsN_len : ∀ {as : List Addr} {L : List Plc} (n : Nat), as.length = L.length → (entsN n as L).length = L.length
  | [], [], _, _ => rfl
  | _ :: as, _ :: L, n, h => by
    show (entsN (n + 1) as L).length + 1 = L.length + 1
    rw [entsN_len (n + 1) (Nat.succ.inj h)]
theorem numL_new {x : Plc} : ∀ {L : List Plc}, numL L x = none → numL (L ++ [x]) x = some L.length
  | [], _ => by
    show (if x = x then some 0 else _) = _
    rw [if_pos rfl]
    rfl
  | y :: L, h => by
    unfold numL at h
    show (if y = x then some 0 else (numL (L ++ [x]) x).map (· + 1)) = _
    split at h
    · cases h
    · rename_i e
      rw [if_neg e, numL_new (Option.map_eq_none_iff.mp h)]
      rfl
/-- the net's places so far, and their numbers -/
structure NumAt (P : Program) (w : World) (H : Hp) (d lp : Addr) (as : List Addr) (L : List Plc) : Prop where
  len : as.length = L.length
  lst : H lp = some (.lst (as.map V.ref))
  pl : Paired (fun a x => PlAt H (.ref a) x) as L
  nd : NdAt P w H d (entsN 0 as L)
def addL (L : List Plc) (x : Plc) : List Plc := if numL L x = none then L ++ [x] else L
/-- all but two objects stays -/
def But2 (d lp : Addr) (H H' : Hp) : Prop := ∀ a o, a ≠ d → a ≠ lp → H a = some o → H' a = some o
def spNumber (P : Program) (w : World) (C : Addr) : Sp := fun vs H Q _ => ∃ (p dx d lp : Addr) (fs : List (Str × V)) (v : V) (x : Plc) (as : List Addr) (L : List Plc), vs = [.ref p, v] ∧ H p = some (.ins C dx fs) ∧ fs.lookup ("_numbers" : Str) = some (.ref d) ∧ fs.lookup ("_places" : Str) = some (.ref lp) ∧
  NumAt P w H d lp as L ∧ PlAt H v x ∧ L.length < sizeLine ∧ ∀ (H' : Hp) (as' : List Addr) (i : Nat), But2 d lp H H' → NumAt P w H' d lp as' (addL L x) → numL (addL L x) x = some i → Q (.int (i : Nat)) H'
end Own

set_option Elab.async false
set_option linter.all false
set_option maxRecDepth 100000
set_option maxHeartbeats 2000000
/-! unseen: what a place tells -/
namespace Own
open PySem PySem.Spec PyProof.Rows L2 ND
def spUsed (C : Addr) : Sp := fun vs H Q _ => ∃ (p dx lp : Addr) (fs : List (Str × V)) (as : List Addr) (L : List Plc) (i : Nat) (x : Plc), vs = [.ref p, .int (i : Nat)] ∧ H p = some (.ins C dx fs) ∧ fs.lookup ("_places" : Str) = some (.ref lp) ∧
  as.length = L.length ∧ H lp = some (.lst (as.map V.ref)) ∧ Paired (fun a x => PlAt H (.ref a) x) as L ∧ L[i]? = some x ∧ Q (.int (x.2.2.2.2 : Nat)) H
/-- the messages that are sent and read differ -/
def unlike (g : Gp) : Bool := decide (g.1 ≠ 0) || g.2.isNone
/-- hits are unseen if the message ends at this place, and both rests are good -/
def endB (hw : How) (flag : List Bool) (ps : List Stf) (x : Plc) : Bool :=
  if 0 < x.2.2.1 then unlike x.2.2.2.1 && decide (flag.drop x.2.2.1 <+: flag) else if canEnd flag ps x.2.1 = false then false else
  match hw with
  | .same => decide (x.2.2.2.1.1 = 0) && unlike x.2.2.2.1
  | .cut => false
  | .shift => decide (x.2.2.2.1.1 ≠ 0)
  | .any => unlike x.2.2.2.1
def spIsEndU (C CRule : Addr) : Sp := fun vs H Q _ => ∃ (p dx lp rp : Addr) (fs : List (Str × V)) (as : List Addr) (L : List Plc) (i : Nat) (x : Plc) (hw : How) (flag : List Bool) (ps : List Stf), vs = [.ref p, .int (i : Nat)] ∧ H p = some (.ins C dx fs) ∧ fs.lookup ("_places" : Str) = some (.ref lp) ∧
  fs.lookup ("_rule" : Str) = some (.ref rp) ∧ fs.lookup ("_how" : Str) = some (V.str hw.str) ∧ RlAt CRule H rp flag ps ∧ flag ≠ [] ∧ flag.length ≤ 900 ∧ x.2.1.length ≤ 900 ∧
  as.length = L.length ∧ H lp = some (.lst (as.map V.ref)) ∧ Paired (fun a x => PlAt H (.ref a) x) as L ∧ L[i]? = some x ∧ ∀ H', Same H H' → Q (.bl (endB hw flag ps x)) H'
theorem at_ref {as : List Addr} {i : Nat} {a : Addr} (h : as[i]? = some a) : atI (as.map V.ref) (i : Nat) = some (.ref a) := atI_nat (by rw [List.getElem?_map, h]; rfl)
theorem paired_getR {α β : Type} {F : α → β → Prop} : ∀ {l : List α} {m : List β} {i : Nat} {y : β}, Paired F l m → m[i]? = some y → ∃ x, l[i]? = some x ∧ F x y
  | _, _, _, _, .nil, h => by cases h
  | _, _, 0, _, .cons r t, h => by cases h; exact ⟨_, rfl, r⟩
  | _, _, i + 1, _, .cons r t, h => paired_getR (i := i) t h
/-- *e among the arguments, inside a comprehension -/
theorem pa_starK {X : Cx} {e : Expr} {es : List Expr} {te : TE} {t : TA} {p : Pos} (K : PySem.W.Frag) (hK : X.K = K) (he : PE X e te) (ha : PA X es t) : PA X (.Starred e p :: es) (StX.tStar K te t) := by
  subst hK
  exact StX.pa_star he ha
end Own

set_option Elab.async false
set_option linter.all false
set_option maxRecDepth 100000
set_option maxHeartbeats 2000000
/-! unseen: what is heard of the bits of a line, with hits -/
namespace Own
open PySem PySem.Spec PyProof.Rows L2 ND
/-- hits, as a tuple -/
def HtsAt (H : Hp) (v : V) (hs : List Ht) : Prop := ∃ t xs, v = .ref t ∧ H t = some (.tup xs) ∧ Hits H xs hs
theorem Hits.tups {H H' : Hp} (s : ∀ a xs, H a = some (.tup xs) → H' a = some (.tup xs)) : ∀ {xs : List V} {hs : List Ht}, Hits H xs hs → Hits H' xs hs
  | [], [], _ => trivial
  | _ :: _, _ :: _, h => by
    obtain ⟨⟨t, e, h1⟩, h2⟩ := h
    exact ⟨⟨t, e, s _ _ h1⟩, Hits.tups s h2⟩
  | [], _ :: _, h => h.elim
  | _ :: _, [], h => h.elim
theorem HtsAt.tups {H H' : Hp} {v : V} {hs : List Ht} (s : ∀ a xs, H a = some (.tup xs) → H' a = some (.tup xs)) (h : HtsAt H v hs) : HtsAt H' v hs := by
  obtain ⟨t, xs, e, h1, h2⟩ := h
  exact ⟨t, xs, e, s _ _ h1, h2.tups s⟩
/-- an ear, and the hits that led to it -/
abbrev Way := Ear × List Ht
def WayAt (H : Hp) (v : V) (x : Way) : Prop := ∃ t ev hv, v = .ref t ∧ H t = some (.tup [ev, hv]) ∧ EarAt H ev x.1 ∧ HtsAt H hv x.2
theorem WayAt.tups {H H' : Hp} {v : V} {x : Way} (s : ∀ a xs, H a = some (.tup xs) → H' a = some (.tup xs)) (h : WayAt H v x) : WayAt H' v x := by
  obtain ⟨t, ev, hv, e, h1, h2, h3⟩ := h
  exact ⟨t, ev, hv, e, s _ _ h1, h2.tups s, h3.tups s⟩
theorem WayAt.same {H H' : Hp} {v : V} {x : Way} (s : Same H H') (h : WayAt H v x) : WayAt H' v x := h.tups fun a xs e => s a _ e
def wayN (hw : How) (flag : List Bool) (ps : List Stf) (e : Ear) (u : List Bool) (hs : List Ht) : List Way := (arrE hw flag ps u [e]).map fun e' => (e', hs)
/-- the ways behind one bit of the line, with all hits on it -/
def wayB (hw : How) (flag : List Bool) (ps : List Stf) (ks : List Kd) (most used : Nat) (n : Nat) (b : Bool) (x : Way) : List Way :=
  wayN hw flag ps x.1 [b] x.2 ++ if used + x.2.length < most then ks.flatMap fun k => wayN hw flag ps x.1 (arrB b (some k)) (x.2 ++ [(n, k)]) else []
def waysL (hw : How) (flag : List Bool) (ps : List Stf) (ks : List Kd) (most used : Nat) : Nat → List Bool → List Way → List Way
  | _, [], ws => ws
  | n, b :: u, ws => waysL hw flag ps ks most used (n + 1) u (ws.flatMap (wayB hw flag ps ks most used n b))
theorem waysL_snoc {hw : How} {flag : List Bool} {ps : List Stf} {ks : List Kd} {most used : Nat} {b : Bool} : ∀ (u : List Bool) (n : Nat) (ws : List Way), waysL hw flag ps ks most used n (u ++ [b]) ws = (waysL hw flag ps ks most used n u ws).flatMap (wayB hw flag ps ks most used (n + u.length) b)
  | [], _, _ => rfl
  | c :: u, n, ws => by
    show waysL hw flag ps ks most used (n + 1) (u ++ [b]) _ = _
    rw [waysL_snoc u (n + 1), List.length_cons, show n + 1 + u.length = n + (u.length + 1) by omega]
    rfl
theorem arrB_le (b : Bool) (k : Option Kd) : (arrB b k).length ≤ 2 := by
  cases k with
  | none => exact Nat.le_succ 1
  | some k => cases k <;> simp [arrB]
/-- a way within bounds -/
theorem wayN_ok {hw : How} {flag : List Bool} {ps : List Stf} (hf : flag ≠ []) (hfl : flag.length ≤ 900) (hp9 : ∀ q ∈ ps, q.1.length ≤ 900) {e : Ear} {n : Nat} {u : List Bool} {hs : List Ht} (ok : EarOk flag n e) (hu : u.length ≤ 2) : ∀ x ∈ wayN hw flag ps e u hs, EarOk flag (n + 2) x.1 ∧ x.2 = hs := by
  intro x hx
  obtain ⟨e', he, rfl⟩ := List.mem_map.mp hx
  exact ⟨(arrE_ok hf hfl hp9 u (n := n) (es := [e]) (fun e' h => by rw [List.mem_singleton.mp h]; exact ok) e' he).mono (by omega), rfl⟩
theorem wayB_ok {hw : How} {flag : List Bool} {ps : List Stf} {ks : List Kd} {most used m : Nat} {b : Bool} (hf : flag ≠ []) (hfl : flag.length ≤ 900) (hp9 : ∀ q ∈ ps, q.1.length ≤ 900) {n : Nat} {x : Way} (ok : EarOk flag n x.1) {c : Nat} (hl : x.2.length ≤ c) :
    ∀ y ∈ wayB hw flag ps ks most used m b x, EarOk flag (n + 2) y.1 ∧ y.2.length ≤ c + 1 := by
  intro y hy
  rcases List.mem_append.mp hy with hy | hy
  · obtain ⟨h1, h2⟩ := wayN_ok hf hfl hp9 ok (by simp) y hy
    exact ⟨h1, by rw [h2]; omega⟩
  · split at hy
    · obtain ⟨k, _, hy⟩ := List.mem_flatMap.mp hy
      obtain ⟨h1, h2⟩ := wayN_ok hf hfl hp9 ok (arrB_le b (some k)) y hy
      exact ⟨h1, by rw [h2, List.length_append]; exact Nat.succ_le_succ hl⟩
    · cases hy
theorem waysL_ok {hw : How} {flag : List Bool} {ps : List Stf} {ks : List Kd} {most used : Nat} (hf : flag ≠ []) (hfl : flag.length ≤ 900) (hp9 : ∀ q ∈ ps, q.1.length ≤ 900) : ∀ (u : List Bool) (m n c : Nat) (ws : List Way), (∀ x ∈ ws, EarOk flag n x.1 ∧ x.2.length ≤ c) →
    ∀ x ∈ waysL hw flag ps ks most used m u ws, EarOk flag (n + 2 * u.length) x.1 ∧ x.2.length ≤ c + u.length
  | [], _, _, _, _, h => h
  | b :: u, m, n, c, ws, h => by
    have h2 : ∀ x ∈ ws.flatMap (wayB hw flag ps ks most used m b), EarOk flag (n + 2) x.1 ∧ x.2.length ≤ c + 1 := fun x hx => by
      obtain ⟨y, hy, h1⟩ := List.mem_flatMap.mp hx
      exact wayB_ok hf hfl hp9 (h y hy).1 (h y hy).2 x h1
    intro x hx
    have h3 := waysL_ok hf hfl hp9 u (m + 1) (n + 2) (c + 1) _ h2 x hx
    rw [List.length_cons]
    exact ⟨h3.1.mono (by omega), by have := h3.2; omega⟩
theorem wayN_len (hw : How) (flag : List Bool) (ps : List Stf) (e : Ear) {u : List Bool} (hs : List Ht) (hu : u.length ≤ 2) : (wayN hw flag ps e u hs).length ≤ 4 := by
  unfold wayN
  rw [List.length_map]
  have h1 := arrE_len (hw := hw) (flag := flag) (ps := ps) u [e]
  have h2 : 2 ^ u.length ≤ 2 ^ 2 := Nat.pow_le_pow_right (by decide) hu
  rw [show [e].length = 1 from rfl, Nat.mul_one] at h1
  exact Nat.le_trans h1 h2
theorem flat_len {α β : Type} {f : α → List β} {c : Nat} : ∀ {l : List α}, (∀ x ∈ l, (f x).length ≤ c) → (l.flatMap f).length ≤ l.length * c
  | [], _ => Nat.zero_le _
  | x :: l, h => by
    rw [List.flatMap_cons, List.length_append, List.length_cons, Nat.add_mul]
    have h1 := h x List.mem_cons_self
    have h2 := flat_len (f := f) (l := l) fun y hy => h y (List.mem_cons_of_mem _ hy)
    omega
theorem wayB_len {hw : How} {flag : List Bool} {ps : List Stf} {ks : List Kd} {most used m : Nat} {b : Bool} (hk : ks.length ≤ 3) (x : Way) : (wayB hw flag ps ks most used m b x).length ≤ 16 := by
  unfold wayB
  rw [List.length_append]
  have h1 := wayN_len hw flag ps x.1 x.2 (u := [b]) (by simp)
  have h2 : (if used + x.2.length < most then ks.flatMap fun k => wayN hw flag ps x.1 (arrB b (some k)) (x.2 ++ [(m, k)]) else []).length ≤ 12 := by
    split
    · have := flat_len (l := ks) (f := fun k => wayN hw flag ps x.1 (arrB b (some k)) (x.2 ++ [(m, k)])) (c := 4) fun k _ => wayN_len _ _ _ _ _ (arrB_le _ _)
      omega
    · exact Nat.zero_le _
  omega
theorem waysL_len {hw : How} {flag : List Bool} {ps : List Stf} {ks : List Kd} {most used : Nat} (hk : ks.length ≤ 3) : ∀ (u : List Bool) (m : Nat) (ws : List Way), (waysL hw flag ps ks most used m u ws).length ≤ ws.length * 16 ^ u.length
  | [], _, ws => by rw [List.length_nil, Nat.pow_zero, Nat.mul_one]; exact Nat.le_refl _
  | b :: u, m, ws => by
    have h1 := waysL_len hk u (m + 1) (ws.flatMap (wayB hw flag ps ks most used m b)) (hw := hw) (flag := flag) (ps := ps) (most := most) (used := used)
    have h2 := flat_len (l := ws) (f := wayB hw flag ps ks most used m b) (c := 16) fun x _ => wayB_len hk x
    refine Nat.le_trans h1 (Nat.le_trans (Nat.mul_le_mul_right _ h2) ?_)
    rw [List.length_cons, Nat.pow_succ, Nat.mul_assoc, Nat.mul_comm 16]
    exact Nat.le_refl _
/-- what the fields of a net tell -/
structure NtF (fs : List (Str × V)) (rp kt lp d st : Addr) (most : Nat) (hw : How) : Prop where
  rule : fs.lookup ("_rule" : Str) = some (.ref rp)
  kinds : fs.lookup ("_kinds" : Str) = some (.ref kt)
  most : fs.lookup ("_most" : Str) = some (.int (most : Nat))
  how : fs.lookup ("_how" : Str) = some (V.str hw.str)
  places : fs.lookup ("_places" : Str) = some (.ref lp)
  numbers : fs.lookup ("_numbers" : Str) = some (.ref d)
  steps : fs.lookup ("_steps" : Str) = some (.ref st)
  n1 : fs.lookup ("_settled" : Str) = none
  n2 : fs.lookup ("_gap_behind" : Str) = none
  n3 : fs.lookup ("_ears_behind" : Str) = none
  n4 : fs.lookup ("_arrived" : Str) = none
  n5 : fs.lookup ("_heard_of" : Str) = none
  n6 : fs.lookup ("_number" : Str) = none
  n7 : fs.lookup ("_steps_from" : Str) = none
  n8 : fs.lookup ("steps" : Str) = none
  n9 : fs.lookup ("used" : Str) = none
  n10 : fs.lookup ("is_end" : Str) = none
def kdV (ks : List Kd) : List V := ks.map fun k => V.str (kT k)
/-- a rule as the net wants it -/
structure RlU (flag : List Bool) (ps : List Stf) : Prop where
  ne : flag ≠ []
  fl : flag.length ≤ 900
  pl : ps.length ≤ 800
  p9 : ∀ q ∈ ps, q.1.length ≤ 900
def spHeardOf (K : PySem.W.Frag) (C CRule : Addr) : Sp := fun vs H Q _ => ∃ (p dx rp kt lp d st : Addr) (fs : List (Str × V)) (v : V) (e : Ear) (hw : How) (bits flag : List Bool) (ps : List Stf) (ks : List Kd) (most used n : Nat), vs = [.ref p, .str (WS bits), v, .int (used : Nat)] ∧ H p = some (.ins C dx fs) ∧ NtF fs rp kt lp d st most hw ∧
  RlAt CRule H rp flag ps ∧ RlU flag ps ∧ SqT K H kt (kdV ks) ∧ ks.length ≤ 3 ∧ EarAt H v e ∧ EarOk flag n e ∧ n + 2 * bits.length ≤ 880 ∧ bits.length ≤ 5 ∧
  ∀ H' l ws, Same H H' → H l = none → H' l = some (.lst ws) → Paired (WayAt H') ws (waysL hw flag ps ks most used 0 bits [(e, [])]) → Q (.ref l) H'
end Own

set_option Elab.async false
set_option linter.all false
set_option maxRecDepth 100000
set_option maxHeartbeats 2000000
/-! items() of a dict with tuple keys -/
namespace ItT
open PySem PySem.Spec PyProof.Rows L2
section
variable {X : Cx} {pins : List (Addr × Obj)} {σ : L2.St} {H : Hp} {s : Shared} {d : Addr} {o : Obj}
theorem frzTv {kvs : List (List L2.Key × V)} (I : Inv X pins σ H s) (h : H d = some (.frz o (.dT kvs))) :
    (d == sysModules) = false ∧ s.heap.get? d = some o ∧ o.ExactDict ∧ ∃ (es : Array DictEntry) (ep : Nat), o.data = .dict es ep ∧ es.size = kvs.length ∧
      ∀ (i : Nat) (k : List L2.Key) (v : V), kvs[i]? = some (k, v) → ∃ (en : DictEntry) (q : Addr), es[i]? = some en ∧ en.key = .ref q ∧ H q = some (.tup (k.map kV)) ∧ RelV v en.val := by
  obtain ⟨hd, z, hs, xs, pr, o', es, ep, ho, hx, hdt, he, _⟩ := I.hok d _ h
  rw [hd] at ho
  cases ho
  refine ⟨hs, hd, hx, es, ep, hdt, ?_, fun i k v e => ?_⟩
  · have l1 : es.size = xs.length := size_of_entries he
    have l2 : kvs.length = xs.length := Paired.length pr
    omega
  · obtain ⟨b, hb, e1, e2, e3⟩ := L2.paired_get pr e
    have q := entry_at he i
    rw [hb] at q
    exact ⟨_, b.2.1, q, rfl, e2, e3⟩
end
/-- the pairs, each a new tuple; the key's own tuple -/
def Itit (d : Addr) (o : Obj) (kvs : List (List L2.Key × V)) : It :=
  ⟨fun i H => H d = some (.frz o (.dT kvs)) ∧ i < kvs.length, fun i H x H' => ∃ (T q : Addr) (k : List L2.Key) (v : V), kvs[i]? = some (k, v) ∧ x = .ref T ∧ H T = none ∧ H q = some (.tup (k.map kV)) ∧ H' = upd H T (.tup [.ref q, v]), fun i H => H d = some (.frz o (.dT kvs)) ∧ kvs.length ≤ i⟩
theorem walk_itemsT {d : Addr} {o : Obj} {kvs : List (List L2.Key × V)} : Walk (Itit d o kvs) kvs.length (fun H => H d = some (.frz o (.dT kvs)))
    (fun i H x H' => ∃ (T q : Addr) (k : List L2.Key) (v : V), kvs[i]? = some (k, v) ∧ x = .ref T ∧ H T = none ∧ H q = some (.tup (k.map kV)) ∧ H' = upd H T (.tup [.ref q, v])) :=
  ⟨fun _ _ hi q => ⟨q, hi⟩, fun _ q => ⟨q, Nat.le_refl _⟩, fun _ _ _ _ _ _ y => y⟩
section
variable {P : Program} {w : World} {K : PySem.W.Frag} {d : Addr} {o : Obj} {es : Array DictEntry} {ep : Nat}
theorem turn_itemsT {kvs : List (List L2.Key × V)} {elts : List Expr} {kk : Nat} {tpos : Pos} (it : Addr) (hod : o.data = .dict es ep) (hsz0 : es.size = kvs.length) :
    Turn P w K (.Tuple elts kk tpos) (Itit d o kvs) [it] it (fun i h => ∃ ok ov, IsItemIter h it d i es.size ep ok ov) where
  mem := by simp
  obj := fun i h st b hb => by
    have e : b = it := by simpa using hb
    subst e
    obtain ⟨ok, ov, e⟩ := st
    exact ⟨_, e, fun v z => nomatch z⟩
  keep := fun i h h' st k => let ⟨ok, ov, e⟩ := st; ⟨ok, ov, k it (by simp) _ e⟩
  item := by
    intro X hP hw hK hc i pins s σ H E I hf st hg
    subst hP hw hK
    obtain ⟨hd, hi⟩ := hg
    obtain ⟨hs, hgd, hx, es', ep', hdt, hsz, ent⟩ := frzTv I hd
    obtain ⟨rfl, rfl⟩ := dict_ep hod hdt
    obtain ⟨⟨k, v⟩, hkv⟩ : ∃ p, kvs[i]? = some p := ⟨kvs[i], List.getElem?_eq_getElem hi⟩
    obtain ⟨en, q, hen, hkey, hq, rv⟩ := ent i k v hkv
    obtain ⟨ok, ov, he⟩ := st
    have hlt : it < s.heap.objs.size := Heap.lt_size he
    have hie : i < es'.size := by rw [hsz]; exact hi
    have hen2 : es'[i] = en := by
      rw [Array.getElem?_eq_getElem hie] at hen
      exact Option.some.inj hen
    refine DT.nextI he ⟨o, hgd, hx, hdt⟩ hie fun h' ho hT hz hk => ?_
    rw [hen2, hkey] at hT ho
    refine ⟨_, rfl, wpAny_letOwnedTupleGo_items (s := { s with heap := h' }) ho fun h'' he' sb => ?_⟩
    have hT2 : h''.get? s.heap.objs.size = some { cls := .type "tuple", data := .seq #[.ref q, en.val] } := (sb.2 _ (Nat.ne_of_gt hlt)).trans hT
    have new : ObjOk X.prog X.w (upd H s.heap.objs.size (.tup [.ref q, v])) h'' s.heap.objs.size (.tup [.ref q, v]) :=
      ⟨by show 2 ≤ sizeLine; decide, [.ref q, en.val], .cons rfl (.cons rv .nil), ⟨_, hT2, rfl, _, rfl⟩⟩
    have I1 : Inv X pins σ (upd H s.heap.objs.size (.tup [.ref q, v])) { s with heap := h'' } :=
      I.turnedNew (t' := s.toks) (ch := [it]) (fun b ob hb e => (sb.2 b (by simpa using hb)).trans (hk b ob (by simpa using hb) e)) hf (Nat.le_refl _) new
    refine ⟨.ref s.heap.objs.size, _, I1, rfl, ⟨_, q, k, v, hkv, rfl, I.hok.fresh (Nat.le_refl _), hq, rfl⟩, ⟨_, _, he'⟩, fun b hb => ?_⟩
    have e : b = it := by simpa using hb
    rw [e, upd_ne (Nat.ne_of_lt hlt)]
    exact (hf it (by simp)).1
  done := by
    intro X hP hw hK hc i pins s σ H E I hf st hg
    subst hP hw hK
    obtain ⟨hd, hi⟩ := hg
    obtain ⟨f0, f1, f2, f3, f4, f5⟩ := hf it (by simp)
    obtain ⟨hs, hgd, hx, es', ep', hdt, hsz, ent⟩ := frzTv I hd
    obtain ⟨rfl, rfl⟩ := dict_ep hod hdt
    obtain ⟨ok, ov, he⟩ := st
    exact DT.endI (I.ok.hd hc) he ⟨o, hgd, hx, hdt⟩ (by rw [hsz]; exact hi) fun h' eb => ⟨rfl, I.turned (t' := s.toks) (fun b ob hb e => eb b ob hb e) f0 f1 f3 f4 f5⟩
  self := fun A i s Q E st h => let ⟨_, _, e⟩ := st; PySem.W.kcp_self e h
end
def iItemsT (td : TE) : TI := fun σ H R => td σ H fun x H1 => ∃ d o kvs, x = .ref d ∧ H1 d = some (.frz o (.dT kvs)) ∧ R (Itit d o kvs) H1
section
variable {X : Cx} {e : Expr} {td : TE} {apos cpos : Pos}
theorem pi_itemsT {elts : List Expr} {kk : Nat} {tpos : Pos} (he : PE X e td) (hbase : attributeBase e "items" X.env (eval e X.env) = eval e X.env := by rfl) (hline : (apos.endLine == cpos.line) = true := by rfl) :
    PI X (.Tuple elts kk tpos) (.Call (.Attribute e "items" apos) [] [] cpos) (iItemsT td) := by
  refine ⟨fun pins s σ H R I h => ?_⟩
  refine wpAny_Call_method (T := "dict") (id := "dict.items") hbase rfl hline F.plainAttrs_dict F.slot_dict_items F.type_dict_items (thn (he.run pins s σ H _ I h) fun u s1 ⟨x, H1, I1, rx, d, o, kvs, ex, hd, q⟩ => ?_)
  subst ex
  obtain rfl : u = Value.ref d := rx
  obtain ⟨hs, hgd, hx, es, ep, hdt, hsz, ent⟩ := frzTv I1 hd
  have hm : DT.Raw s1.heap d es ep := ⟨o, hgd, hx, hdt⟩
  refine ⟨hm.typeIs, ?_, ?_⟩
  · rintro a e; cases e; exact ⟨o, hgd, hx.2.1⟩
  have I2 : Inv X pins σ H1 { s1 with heap := s1.heap.push { cls := .type "dict_items", data := .fields #[.ref d] } } := I1.kept (t' := s1.toks) fun b ob q => Heap.get?_push_of_some _ q
  have fin : wpAny (model X.prog X.w) X.A (pyIter (.ref s1.heap.objs.size)) (PIE X pins σ (.Tuple elts kk tpos) R) X.xe { s1 with heap := s1.heap.push { cls := .type "dict_items", data := .fields #[.ref d] } } := by
    refine DT.iterI (d := d) ⟨_, Heap.get?_push_size _ rfl, rfl, rfl⟩ (hm.push _) (pi_one (tk := s1.toks) I2 _ (turn_itemsT _ hdt hsz) ⟨.none, .none, ?_⟩ q)
    exact Heap.get?_push_size _ rfl
  show wpAny _ _ (callWith cpos (.builtin "dict.items") [.ref d] [] []) _ X.xe s1
  exact method_meetsIn F.slot_dict_items F.entry_dict_items rfl (PySem.evalArgs_none ⟨rfl, hm.typeIs, F.args_dict_items_1 _, _, DT.meetsItems hs, ⟨hm, fin⟩⟩)
end
end ItT

set_option Elab.async false
set_option linter.all false
set_option maxRecDepth 100000
set_option maxHeartbeats 2000000
/-! association lists, and the dicts that are like them -/
namespace AM
open PySem PySem.Spec PyProof.Rows L2
section
variable {α β κ : Type} [DecidableEq α] [DecidableEq κ]
def get (A : List (α × β)) (k : α) : Option β := (A.find? fun r => decide (r.1 = k)).map (·.2)
def put (A : List (α × β)) (k : α) (v : β) : List (α × β) := if (A.any fun r => decide (r.1 = k)) = true then A.map (fun r => if r.1 = k then (r.1, v) else r) else A ++ [(k, v)]
theorem get_pos {A : List (α × β)} {k : α} {r : α × β} (e : r.1 = k) : get (r :: A) k = some r.2 := by simp [get, List.find?_cons, e]
theorem get_neg {A : List (α × β)} {k : α} {r : α × β} (e : ¬ r.1 = k) : get (r :: A) k = get A k := by simp [get, List.find?_cons, e]
theorem put_len (A : List (α × β)) (k : α) (v : β) : (put A k v).length ≤ A.length + 1 := by
  unfold put
  split
  · rw [List.length_map]
    omega
  · rw [List.length_append]
    exact Nat.le_refl _
/-- a dict's entry is like the model's -/
def RK (f : α → κ) (S : V → β → Prop) (p : κ × V) (q : α × β) : Prop := p.1 = f q.1 ∧ S p.2 q.2
theorem rk_get {f : α → κ} {S : V → β → Prop} (inj : ∀ a b, f a = f b → a = b) {k : α} {kvs : List (κ × V)} {A : List (α × β)} (p : Paired (RK f S) kvs A) :
    (get A k = none ∧ valV kvs (f k) = none) ∨ ∃ b v, get A k = some b ∧ valV kvs (f k) = some v ∧ S v b := by
  induction p with
  | nil => exact .inl ⟨rfl, rfl⟩
  | @cons kv a kvs A h t ih =>
    obtain ⟨h1, h2⟩ := h
    unfold valV at ih ⊢
    rw [List.find?_cons]
    by_cases e : a.1 = k
    · rw [decide_eq_true (show kv.1 = f k by rw [h1, e]), get_pos e]
      exact .inr ⟨_, _, rfl, rfl, h2⟩
    · rw [decide_eq_false (show ¬ kv.1 = f k from fun z => e (inj _ _ (h1.symm.trans z))), get_neg e]
      exact ih
theorem rk_any {f : α → κ} {S : V → β → Prop} (inj : ∀ a b, f a = f b → a = b) {k : α} {kvs : List (κ × V)} {A : List (α × β)} (p : Paired (RK f S) kvs A) : (kvs.any fun kv => decide (kv.1 = f k)) = A.any fun r => decide (r.1 = k) := by
  induction p with
  | nil => rfl
  | @cons kv a kvs A h t ih =>
    rw [List.any_cons, List.any_cons, ih]
    congr 1
    exact decide_eq_decide.mpr ⟨fun z => inj _ _ (h.1.symm.trans z), fun z => by rw [h.1, z]⟩
theorem rk_put {f : α → κ} {S : V → β → Prop} (inj : ∀ a b, f a = f b → a = b) {k : α} {b : β} {v : V} {kvs : List (κ × V)} {A : List (α × β)} (p : Paired (RK f S) kvs A) (hv : S v b) : Paired (RK f S) (putK kvs (f k) v) (put A k b) := by
  unfold putK put
  rw [rk_any inj p]
  by_cases h : (A.any fun r => decide (r.1 = k)) = true
  · rw [if_pos h, if_pos h]
    clear h
    induction p with
    | nil => exact .nil
    | @cons kv a _ _ h _ ih =>
      refine .cons ?_ ih
      show RK f S (if kv.1 = f k then (kv.1, v) else kv) (if a.1 = k then (a.1, b) else a)
      by_cases e : a.1 = k
      · rw [if_pos e, if_pos (by rw [h.1, e])]
        exact ⟨h.1, hv⟩
      · rw [if_neg e, if_neg (fun z => e (inj _ _ (h.1.symm.trans z)))]
        exact h
  · rw [if_neg h, if_neg h]
    exact ND.paired_snoc ⟨rfl, hv⟩ p
end
end AM

set_option Elab.async false
set_option linter.all false
set_option maxRecDepth 100000
set_option maxHeartbeats 2000000
/-! unseen: the steps from a place -/
namespace Own
open PySem PySem.Spec PyProof.Rows L2 ND
abbrev SK := Nat × Bool × List Bool
abbrev SV := List Ht × Nat
def keyS (k : SK) : List L2.Key := [Sum.inl (k.1 : Int), Sum.inr (WS [k.2.1]), Sum.inr (WS k.2.2)]
theorem keyS_inj (a b : SK) (h : keyS a = keyS b) : a = b := by
  obtain ⟨a1, a2, a3⟩ := a
  obtain ⟨b1, b2, b3⟩ := b
  unfold keyS at h
  simp only [List.cons.injEq, Sum.inl.injEq, Sum.inr.injEq, and_true] at h
  obtain ⟨h1, h2, h3⟩ := h
  have h2 := WS_inj h2
  rw [Int.ofNat.inj h1, (List.cons.inj h2).1, WS_inj h3]
def plOf (ps : List Stf) (used : Nat) (line : List Bool) (x : Way) : Plc := (tailL (ps.map (·.1)) line, x.1.1, x.1.2.1, x.1.2.2.1, used + x.2.length)
/-- one way more among the steps -/
def stpW (ps : List Stf) (used : Nat) (line : List Bool) (b : Bool) (st : List Plc × List (SK × SV)) (x : Way) : List Plc × List (SK × SV) :=
  let L' := addL st.1 (plOf ps used line x)
  let k : SK := ((numL L' (plOf ps used line x)).getD 0, b, x.1.2.2.2)
  let old := (AM.get st.2 k).getD (x.2, 0)
  (L', AM.put st.2 k (old.1, old.2 + 1))
def lineB (ps : List Stf) (sent : List Bool) (b : Bool) : List Bool := putsN ps 24 (sent ++ [b])
def waysB (hw : How) (flag : List Bool) (ps : List Stf) (ks : List Kd) (most : Nat) (x : Plc) (b : Bool) : List Way :=
  waysL hw flag ps ks most x.2.2.2.2 0 ((lineB ps x.1 b).drop x.1.length) [((x.2.1, x.2.2.1, settledG hw (movedG x.2.2.2.1 (-1) b) x.2.2.1, []), [])]
def stepBit (hw : How) (flag : List Bool) (ps : List Stf) (ks : List Kd) (most : Nat) (x : Plc) (b : Bool) (st : List Plc × List (SK × SV)) : List Plc × List (SK × SV) :=
  (waysB hw flag ps ks most x b).foldl (stpW ps x.2.2.2.2 (lineB ps x.1 b) b) st
def stepsP (hw : How) (flag : List Bool) (ps : List Stf) (ks : List Kd) (most : Nat) (L : List Plc) (x : Plc) : List Plc × List (SK × SV) :=
  stepBit hw flag ps ks most x true (stepBit hw flag ps ks most x false (L, []))
/-- a step: the place behind it, the bit sent, the bits read, some hits, how many hits -/
abbrev Stp5 := SK × SV
def StpAt (H : Hp) (v : V) (x : Stp5) : Prop := ∃ t hv, v = .ref t ∧ H t = some (.tup [.int (x.1.1 : Nat), .str (WS [x.1.2.1]), .str (WS x.1.2.2), hv, .int (x.2.2 : Nat)]) ∧ HtsAt H hv x.2.1
theorem StpAt.tups {H H' : Hp} {v : V} {x : Stp5} (s : ∀ a xs, H a = some (.tup xs) → H' a = some (.tup xs)) (h : StpAt H v x) : StpAt H' v x := by
  obtain ⟨t, hv, e, h1, h2⟩ := h
  exact ⟨t, hv, e, s _ _ h1, h2.tups s⟩
/-- what the dict of found steps holds -/
def SvAt (H : Hp) (v : V) (x : SV) : Prop := ∃ t hv, v = .ref t ∧ H t = some (.tup [hv, .int (x.2 : Nat)]) ∧ HtsAt H hv x.1
theorem SvAt.tups {H H' : Hp} {v : V} {x : SV} (s : ∀ a xs, H a = some (.tup xs) → H' a = some (.tup xs)) (h : SvAt H v x) : SvAt H' v x := by
  obtain ⟨t, hv, e, h1, h2⟩ := h
  exact ⟨t, hv, e, s _ _ h1, h2.tups s⟩
theorem stpW_len (ps : List Stf) (used : Nat) (line : List Bool) (b : Bool) : ∀ (ws : List Way) (st : List Plc × List (SK × SV)), (ws.foldl (stpW ps used line b) st).2.length ≤ st.2.length + ws.length
  | [], st => Nat.le_refl _
  | x :: ws, st => by
    have h1 := stpW_len ps used line b ws (stpW ps used line b st x)
    have h2 : (stpW ps used line b st x).2.length ≤ st.2.length + 1 := AM.put_len _ _ _
    rw [List.foldl_cons, List.length_cons]
    omega
theorem addL_mono (L : List Plc) (x : Plc) : L.length ≤ (addL L x).length := by
  unfold addL
  split
  · rw [List.length_append]
    omega
  · exact Nat.le_refl _
theorem stpW_mono (ps : List Stf) (used : Nat) (line : List Bool) (b : Bool) : ∀ (ws : List Way) (st : List Plc × List (SK × SV)), st.1.length ≤ (ws.foldl (stpW ps used line b) st).1.length
  | [], st => Nat.le_refl _
  | x :: ws, st => Nat.le_trans (addL_mono _ _) (stpW_mono ps used line b ws (stpW ps used line b st x))
theorem fold_snoc {α β : Type} {f : α → β → α} {a : α} {xs : List β} {i : Nat} {x : β} (h : xs[i]? = some x) : (xs.take (i + 1)).foldl f a = f ((xs.take i).foldl f a) x := by
  rw [take_sn h, List.foldl_append]
  rfl
/-- a tail of what was sent, as the net wants it -/
structure SentOk (ps : List Stf) (u : List Bool) : Prop where
  len : u.length ≤ 900
  put : ∀ b, putL ps (lineB ps u b) = none
  few : ∀ b, (lineB ps u b).length ≤ u.length + 5
/-- a place within bounds -/
structure PlcOk (flag : List Bool) (ps : List Stf) (x : Plc) : Prop where
  st : SentOk ps x.1
  hd : x.2.1.length ≤ 900
  cut : x.2.2.1 ≤ flag.length
  gw : GpW x.2.2.2.1
  gap : x.2.2.2.1.1.natAbs ≤ 800
theorem waysB_len {hw : How} {flag : List Bool} {ps : List Stf} {ks : List Kd} {most : Nat} {x : Plc} {b : Bool} (hk : ks.length ≤ 3) (ok : PlcOk flag ps x) : (waysB hw flag ps ks most x b).length ≤ 16 ^ 5 := by
  refine Nat.le_trans (waysL_len hk _ _ _) ?_
  rw [show ([((x.2.1, x.2.2.1, settledG hw (movedG x.2.2.2.1 (-1) b) x.2.2.1, []), [])] : List Way).length = 1 from rfl, Nat.one_mul]
  refine Nat.pow_le_pow_right (by decide) ?_
  rw [List.length_drop]
  have := ok.st.few b
  omega
/-- objects that do not change -/
def Stab : HO → Prop
  | .tup _ => True
  | .ins _ _ _ => True
  | .frz _ (.dT _) => False
  | .frz _ _ => True
  | .own _ => True
  | _ => False
def KpS (H H' : Hp) : Prop := ∀ a o, H a = some o → Stab o → H' a = some o
theorem KpS.refl (H : Hp) : KpS H H := fun _ _ h _ => h
theorem KpS.trans {H H1 H2 : Hp} (h : KpS H H1) (g : KpS H1 H2) : KpS H H2 := fun a o e s => g a o (h a o e s) s
theorem KpS.of {H H' : Hp} (s : Same H H') : KpS H H' := fun a o e _ => s a o e
theorem KpS.tup {H H' : Hp} (k : KpS H H') : ∀ a xs, H a = some (.tup xs) → H' a = some (.tup xs) := fun a xs h => k a _ h trivial
theorem KpS.upd {H : Hp} {a : Addr} {o u : HO} (e : H a = some o) (n : ¬ Stab o) : KpS H (upd H a u) := fun b v hb s => by
  rw [upd_ne]
  · exact hb
  · rintro rfl
    rw [e] at hb
    cases hb
    exact n s
theorem SqT.kps {K : PySem.W.Frag} {H H' : Hp} {a : Addr} {xs : List V} (k : KpS H H') (h : SqT K H a xs) : SqT K H' a xs := by
  rcases h with (h | ⟨o, h⟩) | h
  · exact .inl (.inl (k _ _ h trivial))
  · exact .inl (.inr ⟨o, k _ _ h trivial⟩)
  · exact .inr h
theorem RlAt.kps {C : Addr} {H H' : Hp} {p : Addr} {flag : List Bool} {ps : List Stf} (k : KpS H H') (h : RlAt C H p flag ps) : RlAt C H' p flag ps := by
  obtain ⟨dr, tr, xr, g1, g2, g3⟩ := h
  exact ⟨dr, tr, xr, k _ _ g1 trivial, k.tup _ _ g2, g3.tups k.tup⟩
theorem But2.kps {P : Program} {w : World} {H H' : Hp} {d lp : Addr} {as : List Addr} {L : List Plc} (n : NumAt P w H d lp as L) (b : But2 d lp H H') : KpS H H' := fun a o h s => b a o (fun z => by
  rw [z, n.nd.1] at h
  cases h
  exact s) (fun z => by
  rw [z, n.lst] at h
  cases h
  exact s) h
theorem NumAt.same {P : Program} {w : World} {H H' : Hp} {d lp : Addr} {as : List Addr} {L : List Plc} (n : NumAt P w H d lp as L) (s : Same H H') : NumAt P w H' d lp as L :=
  ⟨n.len, s _ _ n.lst, Paired.mono (F' := fun (a : Addr) x => PlAt _ (.ref a) x) (fun _ _ q => PlAt.tups (fun a xs ha => s _ _ ha) q) n.pl, n.nd.same s⟩
/-- another object changes -/
theorem NumAt.upd {P : Program} {w : World} {H : Hp} {d lp a : Addr} {o u : HO} {as : List Addr} {L : List Plc} (n : NumAt P w H d lp as L) (e : H a = some o) (ns : ¬ Stab o) (nd : a ≠ d) (nl : a ≠ lp) : NumAt P w (upd H a u) d lp as L := by
  have k : KpS H (L2.upd H a u) := KpS.upd e ns
  refine ⟨n.len, by rw [upd_ne (Ne.symm nl)]; exact n.lst, Paired.mono (F' := fun (a : Addr) x => PlAt _ (.ref a) x) (fun _ _ q => PlAt.tups k.tup q) n.pl, by rw [upd_ne (Ne.symm nd)]; exact n.nd.1, fun p hp => ⟨(n.nd.2 p hp).1, (n.nd.2 p hp).2.tups k.tup⟩⟩
theorem But2.same {d lp : Addr} {H H1 H2 : Hp} (b : But2 d lp H H1) (s : Same H1 H2) : But2 d lp H H2 := fun a o h1 h2 h3 => s _ _ (b a o h1 h2 h3)
theorem But2.trans {d lp : Addr} {H H1 H2 : Hp} (b : But2 d lp H H1) (c : But2 d lp H1 H2) : But2 d lp H H2 := fun a o h1 h2 h3 => c a o h1 h2 (b a o h1 h2 h3)
/-- an object that was not there changes -/
theorem But2.upd {d lp a : Addr} {H H1 : Hp} {u : HO} (b : But2 d lp H H1) (h : H a = none) : But2 d lp H (upd H1 a u) := fun x o h1 h2 h3 => by
  rw [upd_ne (ne_of_none h3 h)]
  exact b x o h1 h2 h3
def spStepsFrom (P : Program) (w : World) (K : PySem.W.Frag) (C CRule : Addr) : Sp := fun vs H Q _ => ∃ (p dx rp kt lp d st : Addr) (fs : List (Str × V)) (v : V) (x : Plc) (hw : How) (flag : List Bool) (ps : List Stf) (ks : List Kd) (most : Nat) (as : List Addr) (L : List Plc), vs = [.ref p, v] ∧ H p = some (.ins C dx fs) ∧ NtF fs rp kt lp d st most hw ∧
  RlAt CRule H rp flag ps ∧ RlU flag ps ∧ SqT K H kt (kdV ks) ∧ ks.length ≤ 3 ∧ NumAt P w H d lp as L ∧ PlAt H v x ∧ PlcOk flag ps x ∧ (stepsP hw flag ps ks most L x).1.length < sizeLine ∧
  ∀ (H' : Hp) (l : Addr) (ws : List V) (as' : List Addr), But2 d lp H H' → H l = none → H' l = some (.lst ws) → NumAt P w H' d lp as' (stepsP hw flag ps ks most L x).1 → Paired (StpAt H') ws (stepsP hw flag ps ks most L x).2 → Q (.ref l) H'
end Own

set_option Elab.async false
set_option linter.all false
set_option maxRecDepth 100000
set_option maxHeartbeats 2000000
/-! unseen: the net as an object -/
namespace Own
open PySem PySem.Spec PyProof.Rows L2 ND
/-- a net: its places so far, the steps that were asked for -/
abbrev NetS := List Plc × List (Nat × List Stp5)
/-- what a net is made of -/
structure NPar where
  hw : How
  flag : List Bool
  ps : List Stf
  ks : List Kd
  most : Nat
def stpK (M : List (Nat × List Stp5)) (S : List Addr) : List (L2.Key × V) := (M.zip S).map fun r => (Sum.inl (r.1.1 : Int), V.ref r.2)
def netGo (A : NPar) (N : NetS) (n : Nat) : NetS := if (AM.get N.2 n).isSome = true then N else match N.1[n]? with
  | some x => ((stepsP A.hw A.flag A.ps A.ks A.most N.1 x).1, N.2 ++ [(n, (stepsP A.hw A.flag A.ps A.ks A.most N.1 x).2)])
  | none => N
def netSteps (A : NPar) (N : NetS) (n : Nat) : List Stp5 := (AM.get (netGo A N n).2 n).getD []
structure NnAt (P : Program) (w : World) (H : Hp) (lp d st : Addr) (S : List Addr) (N : NetS) : Prop where
  num : ∃ as, NumAt P w H d lp as N.1
  kv : H st = some (.dK (stpK N.2 S))
  len : S.length = N.2.length
  ls : Paired (fun (l : Addr) (m : Nat × List Stp5) => ∃ ws, H l = some (.lst ws) ∧ Paired (StpAt H) ws m.2) S N.2
  nlp : lp ∉ S
theorem NumAt.keep {P : Program} {w : World} {H H' : Hp} {d lp : Addr} {as : List Addr} {L : List Plc} (n : NumAt P w H d lp as L) (k : KpS H H') (h1 : ∀ o, H d = some o → H' d = some o) (h2 : ∀ o, H lp = some o → H' lp = some o) : NumAt P w H' d lp as L :=
  ⟨n.len, h2 _ n.lst, Paired.mono (F' := fun (a : Addr) x => PlAt _ (.ref a) x) (fun _ _ q => PlAt.tups k.tup q) n.pl, h1 _ n.nd.1, fun e he => ⟨(n.nd.2 e he).1, (n.nd.2 e he).2.tups k.tup⟩⟩
/-- the objects that a net is made of -/
def NFp (lp d st : Addr) (S : List Addr) (a : Addr) : Prop := a = d ∨ a = lp ∨ a = st ∨ a ∈ S
theorem paired_memL {α β : Type} {F G : α → β → Prop} : ∀ {l : List α} {m : List β}, (∀ x ∈ l, ∀ y, F x y → G x y) → Paired F l m → Paired G l m
  | _, _, _, .nil => .nil
  | _, _, h, .cons r t => .cons (h _ List.mem_cons_self _ r) (paired_memL (fun x hx => h x (List.mem_cons_of_mem _ hx)) t)
theorem NnAt.keep {P : Program} {w : World} {H H' : Hp} {lp d st : Addr} {S : List Addr} {N : NetS} (n : NnAt P w H lp d st S N) (k : KpS H H') (h : ∀ a o, NFp lp d st S a → H a = some o → H' a = some o) : NnAt P w H' lp d st S N := by
  obtain ⟨as, na⟩ := n.num
  refine ⟨⟨as, na.keep k (fun o => h _ o (.inl rfl)) (fun o => h _ o (.inr (.inl rfl)))⟩, h _ _ (.inr (.inr (.inl rfl))) n.kv, n.len, paired_memL (fun l hl m ⟨ws, h1, h2⟩ => ⟨ws, h _ _ (.inr (.inr (.inr hl))) h1, Paired.mono (fun _ _ q => StpAt.tups k.tup q) h2⟩) n.ls, n.nlp⟩
theorem NnAt.same {P : Program} {w : World} {H H' : Hp} {lp d st : Addr} {S : List Addr} {N : NetS} (n : NnAt P w H lp d st S N) (s : Same H H') : NnAt P w H' lp d st S N := n.keep (KpS.of s) fun a o _ h => s _ _ h
/-- all that a net is made of is there -/
theorem paired_left {α β : Type} {F : α → β → Prop} : ∀ {l : List α} {m : List β}, Paired F l m → ∀ x ∈ l, ∃ y ∈ m, F x y
  | _, _, .nil, x, hx => nomatch hx
  | _, _, .cons r t, x, hx => by
    rcases List.mem_cons.mp hx with rfl | hx
    · exact ⟨_, List.mem_cons_self, r⟩
    · obtain ⟨y, hy, h⟩ := paired_left t x hx
      exact ⟨y, List.mem_cons_of_mem _ hy, h⟩
theorem NnAt.there {P : Program} {w : World} {H : Hp} {lp d st : Addr} {S : List Addr} {N : NetS} (n : NnAt P w H lp d st S N) {a : Addr} (h : NFp lp d st S a) : ∃ o, H a = some o ∧ ¬ Stab o := by
  obtain ⟨as, na⟩ := n.num
  rcases h with rfl | rfl | rfl | h
  · exact ⟨_, na.nd.1, fun z => z⟩
  · exact ⟨_, na.lst, fun z => z⟩
  · exact ⟨_, n.kv, fun z => z⟩
  · obtain ⟨m, _, ws, e, _⟩ := paired_left n.ls a h
    exact ⟨_, e, fun z => z⟩
/-- all but three objects stays -/
def But3 (d lp st : Addr) (H H' : Hp) : Prop := ∀ a o, a ≠ d → a ≠ lp → a ≠ st → H a = some o → H' a = some o
theorem But3.kps {P : Program} {w : World} {H H' : Hp} {lp d st : Addr} {S : List Addr} {N : NetS} (n : NnAt P w H lp d st S N) (b : But3 d lp st H H') : KpS H H' := fun a o h s => by
  have ne : ∀ c, NFp lp d st S c → a ≠ c := fun c hc z => by
    obtain ⟨o2, e, ns⟩ := n.there hc
    rw [z, e] at h
    cases h
    exact ns s
  exact b a o (ne _ (.inl rfl)) (ne _ (.inr (.inl rfl))) (ne _ (.inr (.inr (.inl rfl)))) h
theorem stpK_val {n : Nat} : ∀ {M : List (Nat × List Stp5)} {S : List Addr}, S.length = M.length → (valV (stpK M S) (Sum.inl ((n : Nat) : Int))).isSome = (AM.get M n).isSome
  | [], [], _ => rfl
  | m :: M, l :: S, h => by
    have ih := stpK_val (n := n) (M := M) (S := S) (Nat.succ.inj h)
    unfold valV at ih ⊢
    show ((List.find? _ ((Sum.inl (m.1 : Int), V.ref l) :: stpK M S)).map _).isSome = _
    rw [List.find?_cons]
    by_cases e : m.1 = n
    · rw [decide_eq_true (show (Sum.inl (m.1 : Int) : L2.Key) = Sum.inl (n : Int) by rw [e]), AM.get_pos e]
      rfl
    · rw [decide_eq_false (show ¬ (Sum.inl (m.1 : Int) : L2.Key) = Sum.inl (n : Int) from fun z => e (Int.ofNat.inj (Sum.inl.inj z))), AM.get_neg e]
      exact ih
/-- the list of the steps that is known -/
theorem NnAt.at {P : Program} {w : World} {H : Hp} {lp d st : Addr} {S : List Addr} {N : NetS} {n : Nat} {s : List Stp5} (na : NnAt P w H lp d st S N) (h : AM.get N.2 n = some s) : ∃ l ws, valV (stpK N.2 S) (Sum.inl ((n : Nat) : Int)) = some (.ref l) ∧ l ∈ S ∧ H l = some (.lst ws) ∧ Paired (StpAt H) ws s := by
  have go : ∀ {M : List (Nat × List Stp5)} {S : List Addr}, Paired (fun (l : Addr) (m : Nat × List Stp5) => ∃ ws, H l = some (.lst ws) ∧ Paired (StpAt H) ws m.2) S M → AM.get M n = some s → ∃ l ws, valV (stpK M S) (Sum.inl ((n : Nat) : Int)) = some (.ref l) ∧ l ∈ S ∧ H l = some (.lst ws) ∧ Paired (StpAt H) ws s := by
    intro M S p
    induction p with
    | nil => intro h; cases h
    | @cons l m S M r t ih =>
      intro h
      unfold valV at ih ⊢
      show ∃ l' ws, (List.find? _ ((Sum.inl (m.1 : Int), V.ref l) :: stpK M S)).map _ = _ ∧ _
      rw [List.find?_cons]
      by_cases e : m.1 = n
      · rw [AM.get_pos e] at h
        cases h
        obtain ⟨ws, h1, h2⟩ := r
        rw [decide_eq_true (show (Sum.inl (m.1 : Int) : L2.Key) = Sum.inl (n : Int) by rw [e])]
        exact ⟨l, ws, rfl, List.mem_cons_self, h1, h2⟩
      · rw [AM.get_neg e] at h
        obtain ⟨l', ws, h1, h2, h3⟩ := ih h
        rw [decide_eq_false (show ¬ (Sum.inl (m.1 : Int) : L2.Key) = Sum.inl (n : Int) from fun z => e (Int.ofNat.inj (Sum.inl.inj z)))]
        exact ⟨l', ws, h1, List.mem_cons_of_mem _ h2, h3⟩
  exact go na.ls h
theorem stpK_put {n : Nat} {s : List Stp5} {l : Addr} {M : List (Nat × List Stp5)} {S : List Addr} (hl : S.length = M.length) (h : AM.get M n = none) : putK (stpK M S) (Sum.inl ((n : Nat) : Int)) (V.ref l) = stpK (M ++ [(n, s)]) (S ++ [l]) := by
  have h1 := stpK_val (n := n) hl
  rw [h] at h1
  have h2 : ((stpK M S).any fun kv => decide (kv.1 = Sum.inl ((n : Nat) : Int))) = false := by
    cases e : ((stpK M S).any fun kv => decide (kv.1 = Sum.inl ((n : Nat) : Int))) with
    | false => rfl
    | true =>
      exfalso
      obtain ⟨x, hx, hx2⟩ := List.any_eq_true.mp e
      unfold valV at h1
      rw [Option.isSome_map] at h1
      have := (List.find?_isSome (p := fun kv : L2.Key × V => decide (kv.1 = Sum.inl ((n : Nat) : Int)))).mpr ⟨x, hx, hx2⟩
      rw [h1] at this
      cases this
  unfold putK
  rw [h2, if_neg Bool.false_ne_true]
  unfold stpK
  rw [List.zip_append hl.symm, List.map_append]
  rfl
theorem get_snoc {n : Nat} {s : List Stp5} : ∀ {M : List (Nat × List Stp5)}, AM.get M n = none → AM.get (M ++ [(n, s)]) n = some s
  | [], _ => AM.get_pos rfl
  | m :: M, h => by
    by_cases e : m.1 = n
    · rw [AM.get_pos e] at h
      cases h
    · rw [AM.get_neg e] at h
      rw [List.cons_append, AM.get_neg e]
      exact get_snoc h
structure NetT (K : PySem.W.Frag) (CRule : Addr) (H : Hp) (A : NPar) (rp kt : Addr) : Prop where
  rl : RlAt CRule H rp A.flag A.ps
  ru : RlU A.flag A.ps
  kt : SqT K H kt (kdV A.ks)
  k3 : A.ks.length ≤ 3
theorem NetT.kps {K : PySem.W.Frag} {CRule : Addr} {H H' : Hp} {A : NPar} {rp kt : Addr} (k : KpS H H') (h : NetT K CRule H A rp kt) : NetT K CRule H' A rp kt := ⟨h.rl.kps k, h.ru, SqT.kps k h.kt, h.k3⟩
def spSteps (P : Program) (w : World) (K : PySem.W.Frag) (C CRule : Addr) : Sp := fun vs H Q _ => ∃ (p dx rp kt lp d st : Addr) (fs : List (Str × V)) (A : NPar) (S : List Addr) (N : NetS) (n : Nat) (x : Plc), vs = [.ref p, .int (n : Nat)] ∧ H p = some (.ins C dx fs) ∧ NtF fs rp kt lp d st A.most A.hw ∧ NetT K CRule H A rp kt ∧
  NnAt P w H lp d st S N ∧ N.1[n]? = some x ∧ PlcOk A.flag A.ps x ∧ (netGo A N n).1.length < sizeLine ∧ N.2.length < sizeLine ∧
  ∀ (H' : Hp) (S' : List Addr) (l : Addr) (ws : List V), But3 d lp st H H' → NnAt P w H' lp d st S' (netGo A N n) → (∀ a ∈ S', a ∈ S ∨ H a = none) → l ∈ S' → H' l = some (.lst ws) → Paired (StpAt H') ws (netSteps A N n) → Q (.ref l) H'
end Own

set_option Elab.async false
set_option linter.all false
set_option maxRecDepth 100000
set_option maxHeartbeats 2000000
/-! unseen: a net is made; what is left for a check -/
namespace Own
open PySem PySem.Spec PyProof.Rows L2 ND
def ntF (rp kt lp d st : Addr) (most : Nat) (hw : How) : List (Str × V) := [("_rule", .ref rp), ("_kinds", .ref kt), ("_most", .int (most : Nat)), ("_how", .str hw.str), ("_places", .ref lp), ("_numbers", .ref d), ("_steps", .ref st), ("begin", .int ((0 : Nat) : Int))]
theorem ntF_ok (rp kt lp d st : Addr) (most : Nat) (hw : How) : NtF (ntF rp kt lp d st most hw) rp kt lp d st most hw := by
  constructor <;> (unfold ntF; simp only [List.lookup_cons]; repeat (first | rfl | (rw [show ((_ : Str) == _) = false by decide +kernel]; dsimp only)))
theorem ntF_begin (rp kt lp d st : Addr) (most : Nat) (hw : How) : (ntF rp kt lp d st most hw).lookup ("begin" : Str) = some (.int ((0 : Nat) : Int)) := by
  unfold ntF
  simp only [List.lookup_cons]
  repeat (first | rfl | (rw [show ((_ : Str) == _) = false by decide +kernel]; dsimp only))
def ntF7 (rp kt lp d st : Addr) (most : Nat) (hw : How) : List (Str × V) := [("_rule", .ref rp), ("_kinds", .ref kt), ("_most", .int (most : Nat)), ("_how", .str hw.str), ("_places", .ref lp), ("_numbers", .ref d), ("_steps", .ref st)]
theorem nt_put1 (rp kt : Addr) : putF "_kinds" (.ref kt) (putF "_rule" (.ref rp) []) = [(("_rule" : Str), V.ref rp), ("_kinds", .ref kt)] := by
  show putF "_kinds" _ [(("_rule" : Str), V.ref rp)] = _
  rw [putF_ne (by decide +kernel)]
  rfl
theorem nt_put2 (rp kt : Addr) (most : Nat) : putF "_most" (.int (most : Nat)) [(("_rule" : Str), V.ref rp), ("_kinds", .ref kt)] = [(("_rule" : Str), V.ref rp), ("_kinds", .ref kt), ("_most", .int (most : Nat))] := by
  rw [putF_ne (by decide +kernel), putF_ne (by decide +kernel)]
  rfl
theorem nt_put3 (rp kt : Addr) (most : Nat) (h : Str) : putF "_how" (.str h) [(("_rule" : Str), V.ref rp), ("_kinds", .ref kt), ("_most", .int (most : Nat))] = [(("_rule" : Str), V.ref rp), ("_kinds", .ref kt), ("_most", .int (most : Nat)), ("_how", .str h)] := by
  rw [putF_ne (by decide +kernel), putF_ne (by decide +kernel), putF_ne (by decide +kernel)]
  rfl
theorem nt_put4 (rp kt lp : Addr) (most : Nat) (h : Str) : putF "_places" (.ref lp) [(("_rule" : Str), V.ref rp), ("_kinds", .ref kt), ("_most", .int (most : Nat)), ("_how", .str h)] = [(("_rule" : Str), V.ref rp), ("_kinds", .ref kt), ("_most", .int (most : Nat)), ("_how", .str h), ("_places", .ref lp)] := by
  rw [putF_ne (by decide +kernel), putF_ne (by decide +kernel), putF_ne (by decide +kernel), putF_ne (by decide +kernel)]
  rfl
theorem nt_put5 (rp kt lp d : Addr) (most : Nat) (h : Str) : putF "_numbers" (.ref d) [(("_rule" : Str), V.ref rp), ("_kinds", .ref kt), ("_most", .int (most : Nat)), ("_how", .str h), ("_places", .ref lp)] = [(("_rule" : Str), V.ref rp), ("_kinds", .ref kt), ("_most", .int (most : Nat)), ("_how", .str h), ("_places", .ref lp), ("_numbers", .ref d)] := by
  rw [putF_ne (by decide +kernel), putF_ne (by decide +kernel), putF_ne (by decide +kernel), putF_ne (by decide +kernel), putF_ne (by decide +kernel)]
  rfl
theorem nt_put6 (rp kt lp d st : Addr) (most : Nat) (hw : How) : putF "_steps" (.ref st) [(("_rule" : Str), V.ref rp), ("_kinds", .ref kt), ("_most", .int (most : Nat)), ("_how", .str hw.str), ("_places", .ref lp), ("_numbers", .ref d)] = ntF7 rp kt lp d st most hw := by
  rw [putF_ne (by decide +kernel), putF_ne (by decide +kernel), putF_ne (by decide +kernel), putF_ne (by decide +kernel), putF_ne (by decide +kernel), putF_ne (by decide +kernel)]
  rfl
theorem nt_put7 (rp kt lp d st : Addr) (most : Nat) (hw : How) : putF "begin" (.int ((0 : Nat) : Int)) (ntF7 rp kt lp d st most hw) = ntF rp kt lp d st most hw := by
  unfold ntF7
  rw [putF_ne (by decide +kernel), putF_ne (by decide +kernel), putF_ne (by decide +kernel), putF_ne (by decide +kernel), putF_ne (by decide +kernel), putF_ne (by decide +kernel), putF_ne (by decide +kernel)]
  rfl
theorem ntF7_look (rp kt lp d st : Addr) (most : Nat) (hw : How) : (ntF7 rp kt lp d st most hw).lookup ("_numbers" : Str) = some (.ref d) ∧ (ntF7 rp kt lp d st most hw).lookup ("_places" : Str) = some (.ref lp) ∧ (ntF7 rp kt lp d st most hw).lookup ("_number" : Str) = none := by
  refine ⟨?_, ?_, ?_⟩ <;> (unfold ntF7; simp only [List.lookup_cons]; repeat (first | rfl | (rw [show ((_ : Str) == _) = false by decide +kernel]; dsimp only)))
def gap0 (hw : How) : Gp := (0, if hw = .shift then none else some [])
def plc0 (hw : How) : Plc := ([], [], 0, gap0 hw, 0)
def spNtInit (P : Program) (w : World) (K : PySem.W.Frag) (C : Addr) : Sp := fun vs H Q _ => ∃ (p dx rp kl : Addr) (o : Bool) (ks : List Kd) (most : Nat) (hw : How), vs = [.ref p, .ref rp, .ref kl, .int (most : Nat), .str hw.str] ∧ H p = some (.ins C dx []) ∧ SqK K o H kl (kdV ks) ∧ ks.length ≤ 3 ∧
  ∀ (H' : Hp) (kt lp d st : Addr), (∀ a o, a ≠ p → H a = some o → H' a = some o) → H' p = some (.ins C dx (ntF rp kt lp d st most hw)) → H lp = none → H d = none → H st = none → SqT K H' kt (kdV ks) → NnAt P w H' lp d st [] ([plc0 hw], []) → Q .non H'
end Own

set_option Elab.async false
set_option linter.all false
set_option maxRecDepth 100000
set_option maxHeartbeats 2000000
/-! unseen: what is left for a check -/
namespace Own
open PySem PySem.Spec PyProof.Rows L2 ND
/-- what is left: bits that are missing, and the rest -/
abbrev Lft := Nat × List Bool
def lfT (x : Lft) : Str := SX.S (List.replicate x.1 45 ++ x.2.map cd)
theorem cd_ne (b : Bool) : cd b ≠ 45 := by cases b <;> decide
theorem lf_inj : ∀ {m n : Nat} {u v : List Bool}, List.replicate m 45 ++ u.map cd = List.replicate n 45 ++ v.map cd → m = n ∧ u = v
  | 0, 0, u, v, h => ⟨rfl, map_cd_inj h⟩
  | m + 1, n + 1, u, v, h => by
    obtain ⟨h1, h2⟩ := lf_inj (m := m) (n := n) (List.cons.inj h).2
    exact ⟨congrArg (· + 1) h1, h2⟩
  | 0, n + 1, [], v, h => by cases h
  | 0, n + 1, b :: u, v, h => absurd (List.cons.inj h).1 (cd_ne b)
  | m + 1, 0, u, [], h => by cases h
  | m + 1, 0, u, b :: v, h => absurd (List.cons.inj h).1.symm (cd_ne b)
theorem lfT_inj {x y : Lft} (h : lfT x = lfT y) : x = y := by
  obtain ⟨h1, h2⟩ := lf_inj (SX.S_inj h)
  exact Prod.ext h1 h2
theorem lfT_len (x : Lft) : (lfT x).length = x.1 + x.2.length := by
  unfold lfT
  rw [SX.S_len, List.length_append, List.length_replicate, List.length_map]
theorem mul_dash {n : Int} (h : 0 ≤ n) : Txt.mul "-" n = SX.S (List.replicate n.toNat 45) := by
  have e : ("-" : Str) = SX.S [45] := by decide +kernel
  rw [e]
  unfold Txt.mul
  by_cases h1 : n < 1
  · have e : n = 0 := by omega
    subst e
    rfl
  · rw [if_neg h1]
    by_cases h2 : (n == 1 || (SX.S [45]).length == 0) = true
    · rw [if_pos h2]
      rw [Bool.or_eq_true, beq_iff_eq, beq_iff_eq, SX.S_len] at h2
      rcases h2 with e | e
      · subst e
        rfl
      · cases e
    · rw [if_neg h2]
      have : ∀ a b : Str, a.cps.toList = b.cps.toList → a = b := fun a b h => by
        cases a; cases b; simp at h; rw [h]
      apply this
      rw [foldl_app]
      show [] ++ _ = List.replicate n.toNat 45
      rw [List.nil_append, List.map_replicate]
      generalize n.toNat = k
      induction k with
      | zero => rfl
      | succ k ih => rw [List.replicate_succ, List.replicate_succ, List.flatten_cons, ih]; rfl
theorem dash_ok {n : Int} (h : 0 ≤ n) (hn : n ≤ 1000) : MulOk "-" n := mul_ok [false] h hn (by decide)
theorem dash_cat (m : Nat) (w : List Bool) : Txt.mul "-" ((m : Nat) : Int) ++ WS w = lfT (m, w) := by
  rw [mul_dash (Int.natCast_nonneg _), Int.toNat_natCast]
  show _ ++ SX.S (w.map cd) = _
  rw [SX.S_cat]
  rfl
theorem dash_len (m : Nat) : (Txt.mul "-" ((m : Nat) : Int)).length = m := by
  rw [mul_dash (Int.natCast_nonneg _), Int.toNat_natCast, SX.S_len, List.length_replicate]
theorem lf_put1 (c kn : Addr) : putF "_known" (.ref kn) (putF "_check" (.ref c) []) = [(("_check" : Str), V.ref c), ("_known", .ref kn)] := by
  show putF "_known" _ [(("_check" : Str), V.ref c)] = _
  rw [putF_ne (by decide +kernel)]
  rfl
theorem lf_put2 (c kn : Addr) (z : Str) : putF "begin" (.str z) [(("_check" : Str), V.ref c), ("_known", .ref kn)] = [(("_check" : Str), V.ref c), ("_known", .ref kn), ("begin", .str z)] := by
  rw [putF_ne (by decide +kernel), putF_ne (by decide +kernel)]
  rfl
theorem lf_put3 (c kn : Addr) (z y : Str) : putF "good" (.str y) [(("_check" : Str), V.ref c), ("_known", .ref kn), ("begin", .str z)] = [(("_check" : Str), V.ref c), ("_known", .ref kn), ("begin", .str z), ("good", .str y)] := by
  rw [putF_ne (by decide +kernel), putF_ne (by decide +kernel), putF_ne (by decide +kernel)]
  rfl
theorem lf_cut (x : Lft) : cutS (lfT x) (some (x.1 : Nat)) none = WS x.2 := by
  rw [C8.cutS_slice]
  unfold lfT WS
  rw [SX.slice_from (Int.natCast_nonneg _), Int.toNat_natCast, List.drop_append_of_le_length (by rw [List.length_replicate]; exact Nat.le_refl _), List.drop_eq_nil_of_le (by rw [List.length_replicate]; exact Nat.le_refl _)]
  rfl
def lefB (poly : List Bool) (x : Lft) (u : List Bool) : Lft := (x.1 - u.length, restR poly x.2 u)
def entK (poly : List Bool) (r : Lft × List Bool) : List L2.Key × V := ([Sum.inr (lfT r.1), Sum.inr (WS r.2)], .str (lfT (lefB poly r.1 r.2)))
def KnAt (H : Hp) (kn : Addr) (poly : List Bool) (KN : List (Lft × List Bool)) : Prop := H kn = some (.dT (KN.map (entK poly)))
def knPut (KN : List (Lft × List Bool)) (r : Lft × List Bool) : List (Lft × List Bool) := if r ∈ KN then KN else KN ++ [r]
theorem keyL_inj {r q : Lft × List Bool} (h : ([Sum.inr (lfT r.1), Sum.inr (WS r.2)] : List L2.Key) = [Sum.inr (lfT q.1), Sum.inr (WS q.2)]) : r = q := by
  simp only [List.cons.injEq, Sum.inr.injEq, and_true] at h
  exact Prod.ext (lfT_inj h.1) (WS_inj h.2)
theorem kn_val (poly : List Bool) (r : Lft × List Bool) : ∀ KN : List (Lft × List Bool), valV (KN.map (entK poly)) [Sum.inr (lfT r.1), Sum.inr (WS r.2)] = if r ∈ KN then some (.str (lfT (lefB poly r.1 r.2))) else none
  | [] => rfl
  | q :: KN => by
    have ih := kn_val poly r KN
    unfold valV at ih ⊢
    rw [List.map_cons, List.find?_cons]
    by_cases e : q = r
    · subst e
      rw [decide_eq_true (show (entK poly q).1 = [Sum.inr (lfT q.1), Sum.inr (WS q.2)] from rfl), if_pos List.mem_cons_self]
      rfl
    · rw [decide_eq_false (show ¬ (entK poly q).1 = [Sum.inr (lfT r.1), Sum.inr (WS r.2)] from fun z => e (keyL_inj z))]
      show (List.find? _ (KN.map (entK poly))).map _ = _
      rw [ih]
      by_cases h : r ∈ KN
      · rw [if_pos h, if_pos (List.mem_cons_of_mem _ h)]
      · rw [if_neg h, if_neg (fun z => (List.mem_cons.mp z).elim (fun z => e z.symm) h)]
theorem kn_put {poly : List Bool} {r : Lft × List Bool} {KN : List (Lft × List Bool)} (h : r ∉ KN) : putK (KN.map (entK poly)) [Sum.inr (lfT r.1), Sum.inr (WS r.2)] (.str (lfT (lefB poly r.1 r.2))) = (KN ++ [r]).map (entK poly) := by
  unfold putK
  rw [if_neg, List.map_append]
  · rfl
  · intro z
    obtain ⟨x, hx, hx2⟩ := List.any_eq_true.mp z
    obtain ⟨q, hq, rfl⟩ := List.mem_map.mp hx
    exact h (keyL_inj (of_decide_eq_true hx2) ▸ hq)
structure LfT (K : PySem.W.Frag) (C : Addr) : Prop where
  cl : Cls K C
  nC : NoAttr K C "_check"
  nK : NoAttr K C "_known"
  nB : NoAttr K C "begin"
  nG : NoAttr K C "good"
def lfF (c kn : Addr) (st : List Bool) : List (Str × V) := [("_check", .ref c), ("_known", .ref kn), ("begin", .str (lfT (st.length, st))), ("good", .str (WS (List.replicate st.length false)))]
theorem lfF_look (c kn : Addr) (st : List Bool) : (lfF c kn st).lookup ("_check" : Str) = some (.ref c) ∧ (lfF c kn st).lookup ("_known" : Str) = some (.ref kn) ∧ (lfF c kn st).lookup ("begin" : Str) = some (.str (lfT (st.length, st))) ∧ (lfF c kn st).lookup ("good" : Str) = some (.str (WS (List.replicate st.length false))) ∧ (lfF c kn st).lookup ("behind" : Str) = none := by
  refine ⟨?_, ?_, ?_, ?_, ?_⟩ <;> (unfold lfF; simp only [List.lookup_cons]; repeat (first | rfl | (rw [show ((_ : Str) == _) = false by decide +kernel]; dsimp only)))
def spLfInit (C CCheck : Addr) : Sp := fun vs H Q _ => ∃ (p dx c : Addr) (poly st : List Bool), vs = [.ref p, .ref c] ∧ H p = some (.ins C dx []) ∧ c ≠ p ∧ CkAt CCheck H c poly st ∧ Chk poly st ∧ st.length ≤ 900 ∧
  ∀ (H' : Hp) (kn : Addr), (∀ a o, a ≠ p → H a = some o → H' a = some o) → H' p = some (.ins C dx (lfF c kn st)) → H kn = none → KnAt H' kn poly [] → Q .non H'
def spLfBehind (C CCheck : Addr) : Sp := fun vs H Q _ => ∃ (p dx c kn : Addr) (poly st : List Bool) (x : Lft) (u : List Bool) (KN : List (Lft × List Bool)), vs = [.ref p, .str (lfT x), .str (WS u)] ∧ H p = some (.ins C dx (lfF c kn st)) ∧ CkAt CCheck H c poly st ∧ Chk poly x.2 ∧ x.2.length = st.length ∧ st.length ≤ 900 ∧ u.length ≤ 900 ∧ x.1 ≤ 900 ∧
  KnAt H kn poly KN ∧ KN.length < sizeLine ∧ ∀ H', (∀ a o, a ≠ kn → H a = some o → H' a = some o) → KnAt H' kn poly (knPut KN (x, u)) → Q (.str (lfT (lefB poly x u))) H'
end Own

set_option Elab.async false
set_option linter.all false
set_option maxRecDepth 100000
set_option maxHeartbeats 2000000
/-! unseen: the steps between places, without numbers -/
namespace Own
open PySem PySem.Spec PyProof.Rows L2 ND
theorem numL_some : ∀ {L : List Plc} {x : Plc} {i : Nat}, numL L x = some i → L[i]? = some x
  | [], _, _, h => by cases h
  | y :: L, x, i, h => by
    unfold numL at h
    split at h
    · rename_i e
      cases h
      rw [e]
      rfl
    · obtain ⟨j, hj, rfl⟩ := Option.map_eq_some_iff.mp h
      show L[j]? = some x
      exact numL_some hj
theorem numL_none : ∀ {L : List Plc} {x : Plc}, numL L x = none → x ∉ L
  | [], _, _ => List.not_mem_nil
  | y :: L, x, h => by
    unfold numL at h
    split at h
    · cases h
    · rename_i e
      intro z
      rcases List.mem_cons.mp z with z | z
      · exact e z.symm
      · exact numL_none (Option.map_eq_none_iff.mp h) z
theorem numL_mem {L : List Plc} {x : Plc} (h : x ∈ L) : ∃ i, numL L x = some i := by
  cases e : numL L x with
  | none => exact absurd h (numL_none e)
  | some i => exact ⟨i, rfl⟩
theorem numL_app : ∀ {L M : List Plc} {x : Plc} {i : Nat}, numL L x = some i → numL (L ++ M) x = some i
  | [], _, _, _, h => by cases h
  | y :: L, M, x, i, h => by
    unfold numL at h
    show (if y = x then some 0 else (numL (L ++ M) x).map (· + 1)) = _
    split at h
    · rename_i e
      rw [if_pos e]
      exact h
    · rename_i e
      obtain ⟨j, hj, rfl⟩ := Option.map_eq_some_iff.mp h
      rw [if_neg e, numL_app hj]
      rfl
theorem addL_app (L : List Plc) (x : Plc) : ∃ M, addL L x = L ++ M ∧ ∀ y ∈ M, y = x := by
  unfold addL
  split
  · exact ⟨[x], rfl, fun y h => List.mem_singleton.mp h⟩
  · exact ⟨[], (List.append_nil L).symm, fun y h => nomatch h⟩
theorem addL_mem (L : List Plc) (x : Plc) : x ∈ addL L x := by
  unfold addL
  cases e : numL L x with
  | none =>
    rw [if_pos rfl]
    exact List.mem_append_right _ List.mem_cons_self
  | some i =>
    rw [if_neg (fun z => nomatch z)]
    exact List.mem_of_getElem? (numL_some e)
theorem addL_nodup {L : List Plc} (h : L.Nodup) (x : Plc) : (addL L x).Nodup := by
  unfold addL
  cases e : numL L x with
  | none =>
    rw [if_pos rfl, List.nodup_append]
    exact ⟨h, List.pairwise_singleton _ _, fun a ha b hb z => numL_none e (by rw [List.mem_singleton] at hb; rw [← hb, ← z]; exact ha)⟩
  | some i =>
    rw [if_neg (fun z => nomatch z)]
    exact h
/-- a step between places: the place behind it, the bit sent, the bits read -/
abbrev PK := Plc × Bool × List Bool
set_option synthInstance.maxSize 2000 in
instance decPK : DecidableEq PK := inferInstance
def stpX (ps : List Stf) (used : Nat) (line : List Bool) (b : Bool) (fd : List (PK × SV)) (x : Way) : List (PK × SV) :=
  let k : PK := (plOf ps used line x, b, x.1.2.2.2)
  let old := (AM.get fd k).getD (x.2, 0)
  AM.put fd k (old.1, old.2 + 1)
def stepsX (A : NPar) (x : Plc) : List (PK × SV) :=
  (waysB A.hw A.flag A.ps A.ks A.most x true).foldl (stpX A.ps x.2.2.2.2 (lineB A.ps x.1 true) true) ((waysB A.hw A.flag A.ps A.ks A.most x false).foldl (stpX A.ps x.2.2.2.2 (lineB A.ps x.1 false) false) [])
def numK (L : List Plc) (r : PK × SV) : SK × SV := (((numL L r.1.1).getD 0, r.1.2), r.2)
section
variable {α β γ : Type} [DecidableEq α] [DecidableEq γ]
theorem am_get_map {f : α → γ} {A : List (α × β)} {k : α} (inj : ∀ r ∈ A, f r.1 = f k → r.1 = k) : AM.get (A.map fun r => (f r.1, r.2)) (f k) = AM.get A k := by
  induction A with
  | nil => rfl
  | cons a A ih =>
    rw [List.map_cons]
    by_cases e : a.1 = k
    · rw [AM.get_pos e, AM.get_pos (r := (f a.1, a.2)) (by show f a.1 = f k; rw [e])]
    · rw [AM.get_neg e, AM.get_neg (r := (f a.1, a.2)) (fun z => e (inj a List.mem_cons_self z))]
      exact ih fun r hr => inj r (List.mem_cons_of_mem _ hr)
theorem am_put_map {f : α → γ} {A : List (α × β)} {k : α} {v : β} (inj : ∀ r ∈ A, f r.1 = f k → r.1 = k) : AM.put (A.map fun r => (f r.1, r.2)) (f k) v = (AM.put A k v).map fun r => (f r.1, r.2) := by
  have ha : ((A.map fun r => (f r.1, r.2)).any fun r => decide (r.1 = f k)) = A.any fun r => decide (r.1 = k) := by
    rw [List.any_map]
    have : ∀ B : List (α × β), (∀ r ∈ B, f r.1 = f k → r.1 = k) → (B.any ((fun r => decide (r.1 = f k)) ∘ fun r => (f r.1, r.2))) = B.any fun r => decide (r.1 = k) := by
      intro B
      induction B with
      | nil => intro _; rfl
      | cons b B ih =>
        intro hB
        rw [List.any_cons, List.any_cons, ih fun r hr => hB r (List.mem_cons_of_mem _ hr)]
        congr 1
        exact decide_eq_decide.mpr ⟨fun z => hB b List.mem_cons_self z, fun z => congrArg f z⟩
    exact this A inj
  unfold AM.put
  rw [ha]
  split
  · rw [List.map_map, List.map_map]
    apply List.map_congr_left
    intro r hr
    show (if f r.1 = f k then (f r.1, v) else (f r.1, r.2)) = (f (if r.1 = k then (r.1, v) else r).1, (if r.1 = k then (r.1, v) else r).2)
    by_cases e : r.1 = k
    · rw [if_pos e, if_pos (by rw [e])]
    · rw [if_neg e, if_neg (fun z => e (inj r hr z))]
  · rw [List.map_append]
    rfl
theorem put_keys (A : List (α × β)) (k : α) (v : β) : ∀ r ∈ AM.put A k v, r.1 = k ∨ ∃ q ∈ A, q.1 = r.1 := by
  intro r hr
  unfold AM.put at hr
  split at hr
  · obtain ⟨q, hq, rfl⟩ := List.mem_map.mp hr
    split
    · exact .inr ⟨q, hq, rfl⟩
    · exact .inr ⟨q, hq, rfl⟩
  · rcases List.mem_append.mp hr with h | h
    · exact .inr ⟨r, h, rfl⟩
    · rw [List.mem_singleton.mp h]
      exact .inl rfl
theorem am_put_has (A : List (α × β)) (k : α) (v : β) : ∃ r ∈ AM.put A k v, r.1 = k := by
  unfold AM.put
  split
  · rename_i h
    obtain ⟨q, hq, hk⟩ := List.any_eq_true.mp h
    refine ⟨(q.1, v), List.mem_map.mpr ⟨q, hq, ?_⟩, of_decide_eq_true hk⟩
    rw [if_pos (of_decide_eq_true hk)]
  · exact ⟨(k, v), List.mem_append_right _ List.mem_cons_self, rfl⟩
theorem put_old {A : List (α × β)} {k : α} {v : β} {q : α × β} (h : q ∈ A) : ∃ r ∈ AM.put A k v, r.1 = q.1 := by
  unfold AM.put
  split
  · refine ⟨if q.1 = k then (q.1, v) else q, List.mem_map.mpr ⟨q, h, rfl⟩, ?_⟩
    split <;> rfl
  · exact ⟨q, List.mem_append_left _ h, rfl⟩
end
/-- numbered steps, and the steps between places -/
structure NumS (L : List Plc) (fd : List (SK × SV)) (fx : List (PK × SV)) : Prop where
  eq : fd = fx.map (numK L)
  kn : ∀ r ∈ fx, r.1.1 ∈ L
theorem numK_app {L M : List Plc} {fx : List (PK × SV)} (h : ∀ r ∈ fx, r.1.1 ∈ L) : fx.map (numK (L ++ M)) = fx.map (numK L) := by
  apply List.map_congr_left
  intro r hr
  obtain ⟨i, hi⟩ := numL_mem (h r hr)
  unfold numK
  rw [numL_app hi, hi]
theorem NumS.step {L : List Plc} {fd : List (SK × SV)} {fx : List (PK × SV)} (n : NumS L fd fx) (ps : List Stf) (used : Nat) (line : List Bool) (b : Bool) (x : Way) : NumS (stpW ps used line b (L, fd) x).1 (stpW ps used line b (L, fd) x).2 (stpX ps used line b fx x) := by
  obtain ⟨M, hM, _⟩ := addL_app L (plOf ps used line x)
  have hmem := addL_mem L (plOf ps used line x)
  obtain ⟨i, hi⟩ := numL_mem hmem
  have heq : fd = fx.map fun r => (((numL (addL L (plOf ps used line x)) r.1.1).getD 0, r.1.2), r.2) := by
    rw [n.eq]
    show fx.map (numK L) = fx.map (numK (addL L (plOf ps used line x)))
    rw [hM]
    exact (numK_app n.kn).symm
  have kn' : ∀ r ∈ fx, r.1.1 ∈ addL L (plOf ps used line x) := fun r hr => by
    rw [hM]
    exact List.mem_append_left _ (n.kn r hr)
  have inj : ∀ r ∈ fx, (fun k : PK => (((numL (addL L (plOf ps used line x)) k.1).getD 0, k.2) : SK)) r.1 = (fun k : PK => (((numL (addL L (plOf ps used line x)) k.1).getD 0, k.2) : SK)) (plOf ps used line x, b, x.1.2.2.2) → r.1 = (plOf ps used line x, b, x.1.2.2.2) := fun r hr z => by
    obtain ⟨j, hj⟩ := numL_mem (kn' r hr)
    obtain ⟨z1, z2⟩ := Prod.mk.inj z
    dsimp only at z1
    rw [hj, hi] at z1
    have z1 : j = i := z1
    subst z1
    have h1 := numL_some hj
    have h2 := numL_some hi
    rw [h1] at h2
    exact Prod.ext (Option.some.inj h2) z2
  have hg := am_get_map (f := fun k : PK => (((numL (addL L (plOf ps used line x)) k.1).getD 0, k.2) : SK)) (A := fx) (k := (plOf ps used line x, b, x.1.2.2.2)) inj
  have hp := fun v => am_put_map (f := fun k : PK => (((numL (addL L (plOf ps used line x)) k.1).getD 0, k.2) : SK)) (A := fx) (k := (plOf ps used line x, b, x.1.2.2.2)) (v := v) inj
  refine ⟨?_, fun r hr => ?_⟩
  · show AM.put fd _ _ = (stpX ps used line b fx x).map (numK (addL L (plOf ps used line x)))
    unfold stpX
    dsimp only
    rw [heq]
    dsimp only at hg hp
    rw [hg, hp]
    rfl
  · show r.1.1 ∈ addL L (plOf ps used line x)
    rcases put_keys _ _ _ r hr with e | ⟨q, hq, e⟩
    · rw [e]
      exact hmem
    · rw [← e]
      exact kn' q hq
theorem stpX_keeps (ps : List Stf) (used : Nat) (line : List Bool) (b : Bool) : ∀ (ws : List Way) (fx : List (PK × SV)) (q : PK × SV), q ∈ fx → ∃ r ∈ ws.foldl (stpX ps used line b) fx, r.1 = q.1
  | [], _, q, h => ⟨q, h, rfl⟩
  | x :: ws, fx, q, h => by
    obtain ⟨r, hr, e⟩ := put_old (k := (plOf ps used line x, b, x.1.2.2.2)) (v := (((AM.get fx (plOf ps used line x, b, x.1.2.2.2)).getD (x.2, 0)).1, ((AM.get fx (plOf ps used line x, b, x.1.2.2.2)).getD (x.2, 0)).2 + 1)) h
    obtain ⟨r2, hr2, e2⟩ := stpX_keeps ps used line b ws (stpX ps used line b fx x) r hr
    exact ⟨r2, hr2, e2.trans e⟩
theorem NumS.fold (ps : List Stf) (used : Nat) (line : List Bool) (b : Bool) : ∀ (ws : List Way) (L : List Plc) (fd : List (SK × SV)) (fx : List (PK × SV)), NumS L fd fx → L.Nodup →
    NumS (ws.foldl (stpW ps used line b) (L, fd)).1 (ws.foldl (stpW ps used line b) (L, fd)).2 (ws.foldl (stpX ps used line b) fx) ∧ (ws.foldl (stpW ps used line b) (L, fd)).1.Nodup ∧
    ∃ M, (ws.foldl (stpW ps used line b) (L, fd)).1 = L ++ M ∧ ∀ y ∈ M, ∃ r ∈ ws.foldl (stpX ps used line b) fx, r.1.1 = y
  | [], L, fd, fx, n, nd => ⟨n, nd, [], (List.append_nil L).symm, fun y h => nomatch h⟩
  | x :: ws, L, fd, fx, n, nd => by
    have n1 := n.step ps used line b x
    have nd1 : (stpW ps used line b (L, fd) x).1.Nodup := addL_nodup nd _
    obtain ⟨h1, h2, M, h3, h4⟩ := NumS.fold ps used line b ws _ _ _ n1 nd1
    refine ⟨h1, h2, ?_⟩
    obtain ⟨M0, hM, hM2⟩ := addL_app L (plOf ps used line x)
    refine ⟨M0 ++ M, ?_, fun y hy => ?_⟩
    · show (ws.foldl (stpW ps used line b) (stpW ps used line b (L, fd) x)).1 = _
      rw [h3, ← List.append_assoc]
      exact congrArg (· ++ M) hM
    · rcases List.mem_append.mp hy with hy | hy
      · obtain ⟨r, hr, e⟩ := am_put_has fx (plOf ps used line x, b, x.1.2.2.2) (((AM.get fx (plOf ps used line x, b, x.1.2.2.2)).getD (x.2, 0)).1, ((AM.get fx (plOf ps used line x, b, x.1.2.2.2)).getD (x.2, 0)).2 + 1)
        obtain ⟨r2, hr2, e2⟩ := stpX_keeps ps used line b ws (stpX ps used line b fx x) r hr
        exact ⟨r2, hr2, by rw [e2, e]; exact (hM2 y hy).symm⟩
      · exact h4 y hy
/-- a numbered net tells the steps between places -/
theorem stepsP_X (A : NPar) {L : List Plc} (nd : L.Nodup) (x : Plc) : NumS (stepsP A.hw A.flag A.ps A.ks A.most L x).1 (stepsP A.hw A.flag A.ps A.ks A.most L x).2 (stepsX A x) ∧ (stepsP A.hw A.flag A.ps A.ks A.most L x).1.Nodup ∧
    ∃ M, (stepsP A.hw A.flag A.ps A.ks A.most L x).1 = L ++ M ∧ ∀ y ∈ M, ∃ r ∈ stepsX A x, r.1.1 = y := by
  obtain ⟨h1, h2, M1, h3, h4⟩ := NumS.fold A.ps x.2.2.2.2 (lineB A.ps x.1 false) false (waysB A.hw A.flag A.ps A.ks A.most x false) L [] [] ⟨rfl, fun r h => nomatch h⟩ nd
  obtain ⟨g1, g2, M2, g3, g4⟩ := NumS.fold A.ps x.2.2.2.2 (lineB A.ps x.1 true) true (waysB A.hw A.flag A.ps A.ks A.most x true) _ _ _ h1 h2
  refine ⟨g1, g2, M1 ++ M2, ?_, fun y hy => ?_⟩
  · rw [← List.append_assoc, ← h3]
    exact g3
  · rcases List.mem_append.mp hy with hy | hy
    · obtain ⟨r, hr, e⟩ := h4 y hy
      obtain ⟨r2, hr2, e2⟩ := stpX_keeps A.ps x.2.2.2.2 (lineB A.ps x.1 true) true (waysB A.hw A.flag A.ps A.ks A.most x true) _ r hr
      exact ⟨r2, hr2, by rw [e2]; exact e⟩
    · exact g4 y hy
/-- what is known of a net -/
structure NetOk (A : NPar) (N : NetS) : Prop where
  nd : N.1.Nodup
  ks : (N.2.map (·.1)).Nodup
  st : ∀ m ∈ N.2, ∃ x, N.1[m.1]? = some x ∧ m.2 = (stepsX A x).map (numK N.1) ∧ ∀ r ∈ stepsX A x, r.1.1 ∈ N.1
theorem am_get_mem {β : Type} {n : Nat} {s : β} : ∀ {M : List (Nat × β)}, AM.get M n = some s → (n, s) ∈ M
  | [], h => by cases h
  | m :: M, h => by
    by_cases e : m.1 = n
    · rw [AM.get_pos e] at h
      cases h
      rw [← e]
      exact List.mem_cons_self
    · rw [AM.get_neg e] at h
      exact List.mem_cons_of_mem _ (am_get_mem h)
theorem am_get_none {β : Type} {n : Nat} : ∀ {M : List (Nat × β)}, AM.get M n = none → n ∉ M.map (·.1)
  | [], _ => List.not_mem_nil
  | m :: M, h => by
    by_cases e : m.1 = n
    · rw [AM.get_pos e] at h
      cases h
    · rw [AM.get_neg e] at h
      rw [List.map_cons]
      intro z
      rcases List.mem_cons.mp z with z | z
      · exact e z.symm
      · exact am_get_none h z
theorem netGo_ok {A : NPar} {N : NetS} (ok : NetOk A N) {n : Nat} {x : Plc} (hx : N.1[n]? = some x) :
    NetOk A (netGo A N n) ∧ netSteps A N n = (stepsX A x).map (numK (netGo A N n).1) ∧ (∀ r ∈ stepsX A x, r.1.1 ∈ (netGo A N n).1) ∧ ∃ M, (netGo A N n).1 = N.1 ++ M ∧ ∀ y ∈ M, ∃ r ∈ stepsX A x, r.1.1 = y := by
  unfold netSteps
  cases hg : AM.get N.2 n with
  | some s0 =>
    have hgo : netGo A N n = N := by
      unfold netGo
      rw [hg]
      rfl
    rw [hgo, hg]
    obtain ⟨y, h1, h2, h3⟩ := ok.st _ (am_get_mem hg)
    have : y = x := Option.some.inj (h1.symm.trans hx)
    subst this
    exact ⟨ok, h2, h3, [], (List.append_nil _).symm, fun y h => nomatch h⟩
  | none =>
    have hgo : netGo A N n = ((stepsP A.hw A.flag A.ps A.ks A.most N.1 x).1, N.2 ++ [(n, (stepsP A.hw A.flag A.ps A.ks A.most N.1 x).2)]) := by
      unfold netGo
      rw [hg, hx]
      rfl
    rw [hgo, get_snoc hg]
    obtain ⟨h1, h2, M, h3, h4⟩ := stepsP_X A ok.nd x
    refine ⟨⟨h2, ?_, fun m hm => ?_⟩, h1.eq, h1.kn, M, h3, h4⟩
    · rw [List.map_append, List.nodup_append]
      exact ⟨ok.ks, List.pairwise_singleton _ _, fun a ha b hb z => am_get_none hg (by rw [List.map_cons, List.map_nil, List.mem_singleton] at hb; have hb : b = n := hb; rw [← hb, ← z]; exact ha)⟩
    · show ∃ y, (stepsP A.hw A.flag A.ps A.ks A.most N.1 x).1[m.1]? = some y ∧ _
      rcases List.mem_append.mp hm with hm | hm
      · obtain ⟨y, g1, g2, g3⟩ := ok.st m hm
        refine ⟨y, ?_, ?_, fun r hr => ?_⟩
        · rw [h3]
          exact List.getElem?_append_left (List.getElem?_eq_some_iff.mp g1).1 ▸ g1
        · rw [g2]
          show _ = List.map (numK (stepsP A.hw A.flag A.ps A.ks A.most N.1 x).1) _
          rw [h3, numK_app g3]
        · show r.1.1 ∈ (stepsP A.hw A.flag A.ps A.ks A.most N.1 x).1
          rw [h3]
          exact List.mem_append_left _ (g3 r hr)
      · rw [List.mem_singleton.mp hm]
        refine ⟨x, ?_, h1.eq, h1.kn⟩
        rw [h3]
        exact List.getElem?_append_left (List.getElem?_eq_some_iff.mp hx).1 ▸ hx
end Own

set_option Elab.async false
set_option linter.all false
set_option maxRecDepth 100000
set_option maxHeartbeats 2000000
/-! {k: v} where the key is a tuple -/
namespace DsT
open PySem PySem.Spec PyProof.Rows L2
def tDispT (tk tv : TE) : TE := fun σ H Q => ∀ p, H p = none → tk σ (upd H p (.dT [])) fun x H1 => tv σ H1 fun y H2 => H2 p = some (.dT []) ∧ ∃ (k : List L2.Key) (b : Addr), x = .ref b ∧ H2 b = some (.tup (k.map kV)) ∧ Q (.ref p) (upd H2 p (.dT [(k, y)]))
theorem pe_dispT {X : Cx} {pos : Pos} {k v : Expr} {tk tv : TE} (hu : X.A.units + 1 < cLine) (hk : PE X k tk) (hv : PE X v tv) : PE X (.Dict [some k] [v] pos) (tDispT tk tv) := by
  refine ⟨fun pins s σ H Q I q => ?_⟩
  have hn := I.hok.fresh (Nat.le_refl s.heap.objs.size)
  have I1 := I.laid (a := s.heap.objs.size) (o := .dT []) (h' := s.heap.push { cls := .type "dict", data := .dict #[] }) (t' := s.toks) (fun _ _ q => Heap.get?_push_of_some _ q) (Nat.le_refl _) (dt_empty s.heap I.big)
  have hshape := zip_pairTrees [some k] [v] X.env pos rfl rfl
  rw [arm_eval_Dict, hshape, dictDisplay_pairs (pairTrees [some k] [v] X.env pos) (by simp [pairTrees]) (by simp [pairTrees])]
  refine wpAny_bind (wpAny_standAt (wpAny_bind (wpAny_subDictH (knd := tupleKind (mixKind X.prog X.w)) (Q := fun d s' => wpAny (model X.prog X.w) X.A (pure (Value.ref d)) (EP X pins σ Q) X.xe s') ?_ (by simp [pairTrees]) ?_)))
  · exact Nat.lt_trans (Nat.lt_succ_self _) hu
  refine pairTrees_cons_walk (thn (hk.run pins _ σ _ _ I1 (q _ hn)) fun u s1 ⟨x, H1, I2, rx, q1⟩ => thn (hv.run pins s1 σ H1 _ I2 q1) fun w2 s2 ⟨y, H2, I3, ry, e, kk, b, ex, eb, q2⟩ => pairTrees_nil_walk ?_)
  subst ex
  obtain rfl : u = Value.ref b := rx
  obtain ⟨z, hd, xs, rel, dd⟩ := dt_of I3.hok e
  cases rel
  have hkey : (tupleKind (mixKind X.prog X.w)).is s2.heap kk b := key_of I3.hok eb
  refine ⟨[(kk, b, w2)], ⟨rfl, rfl, hkey, trivial⟩, dd, fun h' tk' dd' hs => wpAny_pure ⟨.ref s.heap.objs.size, _, ?_, rfl, q2⟩⟩
  have he : ∃ q, h'.get? s.heap.objs.size = some q := let ⟨q, _, _, hq, _⟩ := dd'; ⟨q, hq⟩
  have nb : b ≠ s.heap.objs.size := fun z => by rw [z, e] at eb; cases eb
  refine d_write I3 (by rw [e]; exact True.intro) hs he ?_
  obtain ⟨o, es, ep, h1, h2, h3, h4, h5, h6⟩ := dd'
  exact ⟨by show 1 ≤ sizeLine; decide, hd, [(kk, b, w2)], .cons ⟨rfl, by rw [upd_ne nb]; exact eb, ry⟩ .nil, o, es, ep, h1, h2, h3, h4, h6⟩
end DsT

set_option Elab.async false
set_option linter.all false
set_option maxRecDepth 100000
set_option maxHeartbeats 2000000
/-! a def that is handed two functions made in the calling def -/
namespace Clo2
open PySem PySem.Spec PyProof.Rows L2 LamX NdefX Clo
abbrev HSp2 := List Str → Addr → NF → List (Option V) → List Str → Addr → NF → List (Option V) → Sp
def hSp2 (sp : HSp2) : List Env → Heap → Sp := fun outer h vs H Q E => ∃ (fr1 : List Str) (f1 : Addr) (F1 : NF) (ws1 : List (Option V)) (fr2 : List Str) (f2 : Addr) (F2 : NF) (ws2 : List (Option V)),
  CellsAt F1.cl fr1 ws1 h H ∧ (∀ y c, F1.cl.lookup y = some c → c ∉ frs outer) ∧ H f1 = some (FnO f1 F1) ∧ H F1.c = some (CodeO F1.c F1.qual) ∧
  CellsAt F2.cl fr2 ws2 h H ∧ (∀ y c, F2.cl.lookup y = some c → c ∉ frs outer) ∧ H f2 = some (FnO f2 F2) ∧ H F2.c = some (CodeO F2.c F2.qual) ∧ sp fr1 f1 F1 ws1 fr2 f2 F2 ws2 vs H Q E
def tCallC2 (mk1 : Addr → NF) (js1 : List Nat) (fr1 : List Str) (mk2 : Addr → NF) (js2 : List Nat) (fr2 : List Str) (sp : HSp2) (t : TA) : TE := fun σ H Q => t σ H fun vs H1 => ∃ f1 c1 f2 c2, H1 f1 = some (FnO f1 (mk1 c1)) ∧ H1 (mk1 c1).c = some (CodeO (mk1 c1).c (mk1 c1).qual) ∧
  H1 f2 = some (FnO f2 (mk2 c2)) ∧ H1 (mk2 c2).c = some (CodeO (mk2 c2).c (mk2 c2).qual) ∧ sp fr1 f1 (mk1 c1) (js1.map (slotAt σ)) fr2 f2 (mk2 c2) (js2.map (slotAt σ)) vs H1 Q C8.E0
section
variable {X : Cx} {mk1 mk2 : Addr → NF} {cl1 cl2 : List (Str × Addr)} {fr1 fr2 ps : List Str} {js1 js2 : List Nat} {j k : Nat} {x : Str} {g : Addr} {fd : FuncData} {sp : HSp2} {t : TA} {e : Expr} {es : List Expr} {p pos : Pos}
theorem pe_callC2 (Fh : FnOkH X.prog X.w X.K X.mg X.base CX0 k g fd ps (hSp2 sp)) (hcl1 : ∀ c', (mk1 c').cl = cl1) (cp1 : X.Ok → Caps X cl1 fr1 js1) (hcl2 : ∀ c', (mk2 c').cl = cl2) (cp2 : X.Ok → Caps X cl2 fr2 js2) (hfn : ∀ y, X.fn y = true) (hr : Room j X.A) (hk : k ≤ j) (hg : Gl X x) (hm : X.mg x = some (.ref g)) (hkp : PySem.W.keepIn X.K (.ref g) = true) (hb : Binds X.K fd ps [])
    (ha : PA X (e :: es) t) (hdb : (x == ("__debug__" : Str)) = false := by decide) (he : starEach (e :: es) X.env = (false, eval e X.env) :: starEach es X.env := by rfl) (hpl : (backTo pos (starEach es X.env)).any (·.1) = false := by rfl) :
    PE X (.Call (.Name x p) (e :: es) [] pos) (tCallC2 mk1 js1 fr1 mk2 js2 fr2 sp t) := by
  refine ⟨fun pins s σ H Q I h => ?_⟩
  refine wpAny_Call_Name_kw (ld_glob I hg hm ?_ hdb)
  refine PySem.W.callWith_K (h₀ := X.base) I.ok.mod.kin hkp (thn (ha.run pos pins s σ H _ I h) fun us s1 ⟨vs, H1, I1, r, q⟩ => ⟨I1.kIn, ?_⟩) he hpl
  obtain ⟨f1, c1, f2, c2, h1, h2, h3, h4, q⟩ := q
  have C1 := cells_of I1 (cp1 I1.ok)
  have C2 := cells_of I1 (cp2 I1.ok)
  have hh : hSp2 sp X.stack s1.heap vs H1 Q C8.E0 := ⟨fr1, f1, mk1 c1, js1.map (slotAt σ), fr2, f2, mk2 c2, js2.map (slotAt σ), by rw [hcl1 c1]; exact C1, by rw [hcl1 c1]; exact cells_young I1 (cp1 I1.ok) hfn, h1, h2, by rw [hcl2 c2]; exact C2, by rw [hcl2 c2]; exact cells_young I1 (cp2 I1.ok) hfn, h3, h4, q⟩
  have hl : us.length = ps.length := by rw [← r.length]; exact Fh.len _ _ _ _ _ _ hh
  have hb1 : BindsTo s1 fd ⟨us, []⟩ (ps.zip us) := by
    have := hb s1 us I1.kIn (by rw [List.append_nil]; exact hl)
    rwa [List.append_nil] at this
  show wpAny _ _ (call (.ref g) us) _ _ _
  refine wpAny_call (codeAny_mono (Fh.run X.A X.stack s1 H1 ⟨us, []⟩ us vs Q C8.E0 (hr.mono hk) I1.env0 hb1 r hh) fun r s' hq => ?_)
  cases r with
  | error e => exact (C8.pass0 (E := C8.E0)) pins σ H1 s1 e s' I1 hq
  | ok fl =>
    cases fl with
    | ret u => exact I1.after hq
    | next => exact False.elim hq
    | brk => exact False.elim hq
    | cont => exact False.elim hq
end
end Clo2

set_option Elab.async false
set_option linter.all false
set_option maxRecDepth 100000
set_option maxHeartbeats 2000000
/-! a shortest way, as a function -/
namespace Bw
open AM
section
variable {α μ : Type} [DecidableEq α]
abbrev Cm (α μ : Type) := List (α × Option (μ × α))
inductive BR (α μ : Type) where
  | fnd (c : Cm α μ) (b : α)
  | go (c : Cm α μ) (f : List α)
def inB (e : α → Bool) (p : α) : List (μ × α) → Cm α μ → List α → BR α μ
  | [], c, f => .go c f
  | x :: r, c, f => if (get c x.2).isSome = true then inB e p r c f else if e x.2 = true then .fnd (c ++ [(x.2, some (x.1, p))]) x.2 else inB e p r (c ++ [(x.2, some (x.1, p))]) (f ++ [x.2])
def lvB (G : α → List (μ × α)) (e : α → Bool) : List α → Cm α μ → List α → BR α μ
  | [], c, f => .go c f
  | p :: r, c, f => match inB e p (G p) c f with
    | .fnd c b => .fnd c b
    | .go c f => lvB G e r c f
def bfs (G : α → List (μ × α)) (e : α → Bool) : Nat → Cm α μ → List α → Option (Cm α μ × α)
  | 0, _, _ => none
  | n + 1, c, lv => if lv = [] then none else match lvB G e lv c [] with
    | .fnd c b => some (c, b)
    | .go c f => bfs G e n c f
/-- the marks on the way to a place -/
def mkTo : Nat → Cm α μ → α → List μ
  | 0, _, _ => []
  | n + 1, c, b => match get c b with
    | some (some (m, p)) => mkTo n c p ++ [m]
    | _ => []
def shortW (G : α → List (μ × α)) (e : α → Bool) (N : Nat) (s : α) : Option (List μ) :=
  if e s = true then some [] else (bfs G e N [(s, none)] [s]).map fun r => mkTo r.1.length r.1 r.2
/-- what came is in order: each place behind one that came earlier -/
structure Wf (c : Cm α μ) : Prop where
  nd : (c.map (·.1)).Nodup
  up : ∀ (i : Nat) (b : α) (m : μ) (p : α), c[i]? = some (b, some (m, p)) → ∃ (j : Nat) (o : Option (μ × α)), j < i ∧ c[j]? = some (p, o)
theorem get_mem {c : List (α × μ)} {k : α} {v : μ} : get c k = some v → (k, v) ∈ c := by
  induction c with
  | nil => intro h; cases h
  | cons a c ih =>
    intro h
    by_cases e : a.1 = k
    · rw [get_pos e] at h
      cases h
      rw [← e]
      exact List.mem_cons_self
    · rw [get_neg e] at h
      exact List.mem_cons_of_mem _ (ih h)
theorem get_none {c : List (α × μ)} {k : α} : get c k = none → k ∉ c.map (·.1) := by
  induction c with
  | nil => intro _; exact List.not_mem_nil
  | cons a c ih =>
    intro h
    by_cases e : a.1 = k
    · rw [get_pos e] at h
      cases h
    · rw [get_neg e] at h
      rw [List.map_cons]
      intro z
      rcases List.mem_cons.mp z with z | z
      · exact e z.symm
      · exact ih h z
theorem get_isSome {c : List (α × μ)} {k : α} : (get c k).isSome = true ↔ k ∈ c.map (·.1) := by
  constructor
  · intro h
    obtain ⟨v, hv⟩ := Option.isSome_iff_exists.mp h
    exact List.mem_map.mpr ⟨_, get_mem hv, rfl⟩
  · intro h
    cases e : get c k with
    | none => exact absurd h (get_none e)
    | some v => rfl
theorem get_at {c : List (α × μ)} (nd : (c.map (·.1)).Nodup) {i : Nat} {k : α} {v : μ} (h : c[i]? = some (k, v)) : get c k = some v := by
  have hm : k ∈ c.map (·.1) := List.mem_map.mpr ⟨_, List.mem_of_getElem? h, rfl⟩
  obtain ⟨u, hu⟩ := Option.isSome_iff_exists.mp (get_isSome.mpr hm)
  obtain ⟨j, hj⟩ := List.getElem?_of_mem (get_mem hu)
  have e1 : (c.map (·.1))[i]? = some k := by rw [List.getElem?_map, h]; rfl
  have e2 : (c.map (·.1))[j]? = some k := by rw [List.getElem?_map, hj]; rfl
  have : i = j := (List.getElem?_inj (List.getElem?_eq_some_iff.mp e1).1 nd).mp (e1.trans e2.symm)
  subst this
  rw [h] at hj
  cases hj
  exact hu
theorem Wf.snoc {c : Cm α μ} (w : Wf c) {b p : α} {m : μ} (hb : get c b = none) (hp : p ∈ c.map (·.1)) : Wf (c ++ [(b, some (m, p))]) := by
  refine ⟨?_, fun i b2 m2 p2 h => ?_⟩
  · rw [List.map_append, List.nodup_append]
    exact ⟨w.nd, List.pairwise_singleton _ _, fun a ha x hx z => get_none hb (by rw [List.map_cons, List.map_nil, List.mem_singleton] at hx; have hx : x = b := hx; rw [← hx, ← z]; exact ha)⟩
  · rcases Nat.lt_or_ge i c.length with hi | hi
    · rw [List.getElem?_append_left hi] at h
      obtain ⟨j, o, h1, h2⟩ := w.up i b2 m2 p2 h
      exact ⟨j, o, h1, by rw [List.getElem?_append_left (by omega)]; exact h2⟩
    · have hl : i = c.length := by
        have := (List.getElem?_eq_some_iff.mp h).1
        rw [List.length_append] at this
        have h1 : [(b, some (m, p))].length = 1 := rfl
        omega
      subst hl
      rw [List.getElem?_append_right (Nat.le_refl _), Nat.sub_self] at h
      cases h
      obtain ⟨x, hx, rfl⟩ := List.mem_map.mp hp
      obtain ⟨j, hj⟩ := List.getElem?_of_mem hx
      have hjl := (List.getElem?_eq_some_iff.mp hj).1
      exact ⟨j, x.2, hjl, by rw [List.getElem?_append_left hjl]; exact hj⟩
theorem Wf.start (s : α) : Wf ([(s, none)] : Cm α μ) := ⟨List.pairwise_singleton _ _, fun i b m p h => by
  match i, h with
  | 0, h => cases h
  | i + 1, h => cases h⟩
/-- pigeons -/
theorem nodup_len {l u : List α} (h : l.Nodup) (s : ∀ x ∈ l, x ∈ u) : l.length ≤ u.length := by
  induction l generalizing u with
  | nil => exact Nat.zero_le _
  | cons a l ih =>
    have ha := s a List.mem_cons_self
    have hnd := List.nodup_cons.mp h
    have h2 : l.length ≤ (u.erase a).length := ih hnd.2 fun x hx => (List.mem_erase_of_ne (fun z => hnd.1 (by rw [← z]; exact hx))).mpr (s x (List.mem_cons_of_mem _ hx))
    rw [List.length_erase_of_mem ha] at h2
    have h3 := List.length_pos_of_mem ha
    rw [List.length_cons]
    omega
end
end Bw

set_option Elab.async false
set_option linter.all false
set_option maxRecDepth 100000
set_option maxHeartbeats 2000000
/-! a def within a def that has cells of its own beside the captured ones -/
namespace NC
open PySem PySem.Spec PyProof.Rows L2 NdefX LamX
/-! ### the names' addresses -/
theorem from_app : ∀ (l : List (Str × NameKind)) (n : Nat) (xs ys : List (Str × Addr)), cellsFrom n l (xs ++ ys) = cellsFrom n l xs ++ ys
  | [], _, _, _ => rfl
  | (a, k) :: r, n, xs, ys => by
    unfold cellsFrom
    split
    · exact from_app r (n + 1) ((a, n) :: xs) ys
    · exact from_app r n xs ys
theorem from_cl (l : List (Str × NameKind)) (n : Nat) (ys : List (Str × Addr)) : cellsFrom n l ys = cellsFrom n l [] ++ ys := from_app l n [] ys
theorem from_in {l : List (Str × NameKind)} {n : Nat} {ys : List (Str × Addr)} {y : Str} {c : Addr} (h : (cellsFrom n l []).lookup y = some c) : (cellsFrom n l ys).lookup y = some c := by
  rw [from_cl, List.lookup_append, h]
  rfl
theorem from_or {l : List (Str × NameKind)} {n : Nat} {ys : List (Str × Addr)} {y : Str} {c : Addr} (h : (cellsFrom n l ys).lookup y = some c) : (cellsFrom n l []).lookup y = some c ∨ ys.lookup y = some c := by
  rw [from_cl, List.lookup_append] at h
  cases e : (cellsFrom n l []).lookup y with
  | some d =>
    rw [e] at h
    exact .inl h
  | none =>
    rw [e] at h
    exact .inr h
/-- only names that are cells -/
theorem from_kind : ∀ (l : List (Str × NameKind)) (n : Nat) {y : Str} {c : Addr}, (y, c) ∈ cellsFrom n l [] → (y, NameKind.cell) ∈ l
  | [], _, _, _, h => by cases h
  | (a, k) :: r, n, y, c, h => by
    unfold cellsFrom at h
    split at h
    · rename_i hk
      rw [from_cl] at h
      rcases List.mem_append.mp h with h | h
      · exact List.mem_cons_of_mem _ (from_kind r _ h)
      · cases List.mem_singleton.mp h
        rw [beq_iff_eq.mp hk]
        exact List.mem_cons_self
    · exact List.mem_cons_of_mem _ (from_kind r _ h)
/-! ### the frame is made -/
section
variable {M : Model} {A : Around} {E : Value → Shared → Prop} {g0 : Shared} {env : Env} {cs : List (Str × Addr)}
/-- one parameter is stored -/
theorem put_one {z : Shared} {nm : Str} {u : Value} {lm cm : Str → Option Value} {R : Unit → Shared → Prop} (J : InCallC g0 env.locals lm cs cm z) (fk : env.scope.kind = .function) (up : ∀ y c, cs.lookup y = some c → env.cells.lookup y = some c)
    (hk : env.kindOf nm = some .local ∨ (env.kindOf nm = some .cell ∧ (cs.lookup nm).isSome = true)) (go : ∀ z', InCallC g0 env.locals (bindL env.kindOf [(nm, u)] lm) cs (bindC env.kindOf [(nm, u)] cm) z' → R () z') : wpAny M A (storeName env nm u) R E z := by
  unfold bindL bindC bindL bindC at go
  obtain ⟨⟨⟨g1, t1, e1⟩, nsz, kpz, frz⟩, cel, apt, abv⟩ := J
  subst e1
  rcases hk with k | ⟨k, cc⟩
  · rw [if_pos k, if_pos k] at go
    refine wpAny_storeName_local k nsz (fun g2 n2 sb => go _ ⟨⟨⟨g2, _, rfl⟩, n2, fun b o e => ?_, frz⟩, fun y c hc => ?_, apt, abv⟩) (by rw [fk]; rfl)
    · refine sb.extBut b o (fun q => ?_) (kpz b o e)
      have lt := Heap.lt_size e
      rw [q] at lt
      exact absurd (Nat.lt_of_lt_of_le lt frz) (Nat.lt_irrefl _)
    · refine (cel y c hc).sameBut sb fun q => ?_
      have lt := abv y c (PySem.mem_of_lookup hc)
      rw [q] at lt
      exact Nat.lt_irrefl _ lt
  · have nl : ¬ env.kindOf nm = some .local := fun q => by rw [k] at q; cases q
    rw [if_neg nl, if_neg nl] at go
    obtain ⟨d, hd⟩ := Option.isSome_iff_exists.mp cc
    have ld := abv nm d (PySem.mem_of_lookup hd)
    refine wpAny_storeName_cell fk k (up nm d hd) (cel nm d hd) fun g2 c2 sb => go _ ⟨⟨⟨g2, _, rfl⟩, nsz.sameBut sb (Nat.ne_of_lt ld), fun b o e => ?_, frz⟩, fun y c hc => ?_, apt, abv⟩
    · refine sb.extBut b o (fun q => ?_) (kpz b o e)
      have lt := Heap.lt_size e
      rw [q] at lt
      exact absurd (Nat.lt_trans (Nat.lt_of_lt_of_le lt frz) ld) (Nat.lt_irrefl _)
    · by_cases q : y = nm
      · subst q
        rw [hd] at hc
        cases hc
        show Heap.IsCell g2 d (if y = y then some u else cm y)
        rw [if_pos rfl]
        exact c2
      · show Heap.IsCell g2 c (if y = nm then some u else cm y)
        rw [if_neg q]
        refine (cel y c hc).sameBut sb fun w => q ?_
        subst w
        exact name_of_addr apt (PySem.mem_of_lookup hc) (PySem.mem_of_lookup hd)
/-- all parameters are stored -/
theorem put_all (f : Str × Value → PUnit → Sem (ForInStep PUnit)) (hf : ∀ n v u, f (n, v) u = (do storeName env n v; pure (.yield ⟨⟩))) (fk : env.scope.kind = .function) (up : ∀ y c, cs.lookup y = some c → env.cells.lookup y = some c) :
    ∀ (ks : List (Str × Value)) (lm cm : Str → Option Value) (z : Shared) (R : PUnit → Shared → Prop), InCallC g0 env.locals lm cs cm z → (∀ q ∈ ks, env.kindOf q.1 = some .local ∨ (env.kindOf q.1 = some .cell ∧ (cs.lookup q.1).isSome = true)) →
      (∀ z', InCallC g0 env.locals (bindL env.kindOf ks lm) cs (bindC env.kindOf ks cm) z' → R ⟨⟩ z') → wpAny M A (forIn ks ⟨⟩ f) R E z
  | [], lm, cm, z, R, J, _, go => by
    rw [List.forIn_nil]
    exact wpAny_pure (go z J)
  | (nm, u) :: ks, lm, cm, z, R, J, hk, go => by
    rw [List.forIn_cons, hf]
    exact wpAny_bind (wpAny_bind (put_one J fk up (hk _ List.mem_cons_self) fun z' J' => wpAny_pure (put_all f hf fk up ks _ _ z' R J' (fun q hq => hk q (List.mem_cons_of_mem _ hq)) fun z2 J2 => go z2 J2)))
end
abbrev envC (F : NF) (f L : Addr) : Env := PySem.W.envX F.qual F.scope L f (.ref F.c) (cellsFrom (L + 1) F.scope.names F.cl)
theorem frame_made {M : Model} {A : Around} {E : Value → Shared → Prop} {z : Shared} {scope : Scope} {gl : Addr} {cl : List (Str × Addr)} {ks : List (Str × Value)} {ql : Str} {fn : Option Addr} {cd : Value} {bt : Addr} {R : Env → Shared → Prop} (fk : scope.kind = .function)
    (hk : ∀ q ∈ ks, scope.names.lookup q.1 = some .local ∨ (scope.names.lookup q.1 = some .cell ∧ ((cellsFrom (z.heap.objs.size + 1) scope.names []).lookup q.1).isSome = true))
    (go : ∀ env, env = newEnv scope z.heap.objs.size gl (cellsFrom (z.heap.objs.size + 1) scope.names cl) ql fn cd none bt →
      ∀ z', InCallC z env.locals (bindL env.kindOf ks fun _ => none) (cellsFrom (z.heap.objs.size + 1) scope.names []) (bindC env.kindOf ks fun _ => none) z' → R env z') : wpAny M A (newFunctionEnv scope gl cl ks ql fn cd none bt) R E z := by
  unfold newFunctionEnv
  simp only [Option.isSome_none, Bool.false_eq_true, if_false]
  refine wpAny_bind (wpAny_alloc (wpAny_bind (wpAny_layCells _ (fun nm k cells => by cases hc : k == NameKind.cell <;> simp [hc]) _ _ _ _ ?_)))
  have ok := cellsFrom_ok scope.names (z.heap.push { cls := .type "frame", data := .dict #[] }) (z.heap.objs.size + 1) [] ⟨fun _ _ h => (nomatch h), .nil⟩ (by rw [Heap.size_push]; exact Nat.le_refl _)
  rw [Heap.size_push] at ok
  rw [show (Shared.heap { z with heap := z.heap.push { cls := .type "frame", data := .dict #[] } }).objs.size = z.heap.objs.size + 1 from Heap.size_push ..]
  refine wpAny_bind (put_all (g0 := z) (env := newEnv scope z.heap.objs.size gl (cellsFrom (z.heap.objs.size + 1) scope.names cl) ql fn cd none bt) (cs := cellsFrom (z.heap.objs.size + 1) scope.names []) _ (fun _ _ _ => rfl) fk (fun y c h => from_in h) ks (fun _ => none) (fun _ => none) _ _ ?_ hk fun z' J => wpAny_pure (go _ rfl z' J))
  refine ⟨⟨⟨_, _, rfl⟩, (Heap.Ns.new z.heap (.type "frame")).keeps (pushCells_keeps _ _), fun b o e => pushCells_keeps _ _ b o (Heap.get?_push_of_some _ e), Nat.le_refl _⟩, fun y c h => ?_, ok.apart, fun y c h => (ok.empty y c h).2⟩
  exact (ok.empty y c (PySem.mem_of_lookup h)).1
/-! ### the body -/
structure NScopeC (N ps fr : List Str) (sc : Scope) : Prop where
  kind : sc.kind = .function
  co : sc.isCoroutine = false
  gen : sc.isGenerator = false
  nd : N.Nodup
  pre : N.take (ps.length + fr.length) = ps ++ fr
  par : ∀ x ∈ ps, sc.names.lookup x = some .local ∨ sc.names.lookup x = some .cell
  free : ∀ y ∈ sc.names, y.2 = .free → y.1 ∈ fr
  frk : ∀ x ∈ fr, sc.names.lookup x = some .free
  dis : ∀ y ∈ sc.names, y.2 = .cell → y.1 ∉ fr
def nscC (N ps fr : List Str) (sc : Scope) : Bool :=
  decide (sc.kind = .function) && (!sc.isCoroutine && (!sc.isGenerator && (decide N.Nodup && (decide (N.take (ps.length + fr.length) = ps ++ fr) && (ps.all (fun x => decide (sc.names.lookup x = some .local) || decide (sc.names.lookup x = some .cell)) && (sc.names.all (fun y => !decide (y.2 = .free) || decide (y.1 ∈ fr)) && (fr.all (fun x => decide (sc.names.lookup x = some .free)) && sc.names.all (fun y => !decide (y.2 = .cell) || decide (y.1 ∉ fr)))))))))
theorem nscC_by {N ps fr : List Str} {sc : Scope} (h : nscC N ps fr sc = true) : NScopeC N ps fr sc := by
  unfold nscC at h
  simp only [Bool.and_eq_true, Bool.not_eq_true', decide_eq_true_eq, List.all_eq_true, Bool.or_eq_true, decide_eq_false_iff_not] at h
  obtain ⟨h1, h2, h3, h4, h5, h6, h7, h8, h9⟩ := h
  exact ⟨h1, h2, h3, h4, h5, h6, fun y hy e => (h7 y hy).elim (fun z => absurd e z) id, h8, fun y hy e => (h9 y hy).elim (fun z => absurd e z) id⟩
/-- the context of its body, at its entry -/
def ncxC (CX : CXT) (P : Program) (w : World) (K : PySem.W.Frag) (mg : Str → Option Value) (base : Heap) (N : List Str) (F : NF) (f : Addr) (A : Around) (outer : List Env) (s : Shared) (H : Hp) (E : XK) : Cx :=
  { ncx CX P w K mg base N F f A outer s H E with
    A := A.deeper (envC F f s.heap.objs.size), env := envC F f s.heap.objs.size, stack := envC F f s.heap.objs.size :: outer
    fn := fun y => decide (F.scope.names.lookup y = some .cell)
    xe := fun e s' => wpAny (model P w) (A.deeper (envC F f s.heap.objs.size)) (leaving (envC F f s.heap.objs.size) e) (fun _ s'' => CX outer H s E e s'') (fun e' s'' => CX outer H s E e' s'') s' }
section
variable {CX : CXT} {P : Program} {w : World} {K : PySem.W.Frag} {mg : Str → Option Value} {base : Heap} {N ps fr : List Str} {F : NF} {f : Addr} {A : Around} {outer : List Env} {s s1 : Shared} {H : Hp} {E : XK} {us : List Value} {vs : List V} {ws : List (Option V)}
theorem cell_low (C : CellsAt F.cl fr ws s.heap H) {y : Str} {c : Addr} (e : F.cl.lookup y = some c) : c < s.heap.objs.size := (C.all y c e).2.elim fun _ z => z.lt
theorem inv_enter (S : NScopeC N ps fr F.scope) (hd : A.handled = none) (e0 : Env0 P w K mg base A outer s H) (hl : vs.length = ps.length) (r : Vals vs us) (C : CellsAt F.cl fr ws s.heap H)
    (x : InCallC s s.heap.objs.size (bindL (envC F f s.heap.objs.size).kindOf (ps.zip us) fun _ => none) (cellsFrom (s.heap.objs.size + 1) F.scope.names []) (bindC (envC F f s.heap.objs.size).kindOf (ps.zip us) fun _ => none) s1) :
    Inv (ncxC CX P w K mg base N F f A outer s H E) [] (startF N vs ws) H s1 := by
  have hpl : ps.length + fr.length ≤ N.length := by
    have q := congrArg List.length S.pre
    rw [List.length_take, List.length_append] at q
    omega
  have clen := C.len
  obtain ⟨h1, tk, rfl, kp⟩ := x.done
  have noA : ∀ b : Addr, b ∉ (ncxC CX P w K mg base N F f A outer s H E).ex := fun b z => absurd (show b ∈ ([] : List Addr) from z) (by simp)
  have cellK : ∀ {c : Addr} {v : Option Value}, s.heap.IsCell c v → h1.IsCell c v := fun {c v} ⟨o, ho, hd⟩ => ⟨o, kp _ _ ho, hd⟩
  have cells : (ncxC CX P w K mg base N F f A outer s H E).env.cells = cellsFrom (s.heap.objs.size + 1) F.scope.names F.cl := rfl
  have up : ∀ {y c}, (cellsFrom (s.heap.objs.size + 1) F.scope.names []).lookup y = some c → s.heap.objs.size < c := fun h => x.above _ _ (PySem.mem_of_lookup h)
  refine ⟨⟨e0.mod, S.kind, rfl, rfl, Nat.le_refl _, ?inj, ?has, ?abv, fun _ => hd, Around.frames_deeper e0.frames, .inr ⟨rfl, rfl⟩, fun b z => absurd z (noA b), e0.bs, e0.bsz, fun b _ _ => noA b, fun b z => absurd z (noA b), e0.funs, e0.frf⟩,
    rfl, e0.bare, Un.kept kp, ⟨_, x.toInCall.ns, ?loc⟩, ?cell, e0.hok.fresh (Nat.le_refl _), ?frc, fun q hq => absurd (show q ∈ ([] : List (Addr × Obj)) ++ [] from hq) (by simp), e0.hok.kept kp, ?len⟩
  case inj =>
    intro y z c h1 h2
    rcases from_or (show (cellsFrom _ _ _).lookup y = some c from h1) with a | a <;> rcases from_or (show (cellsFrom _ _ _).lookup z = some c from h2) with b | b
    · exact name_of_addr x.apart (PySem.mem_of_lookup a) (PySem.mem_of_lookup b)
    · exact absurd (Nat.lt_trans (up a) (cell_low C b)) (Nat.lt_irrefl _)
    · exact absurd (Nat.lt_trans (up b) (cell_low C a)) (Nat.lt_irrefl _)
    · exact C.inj _ _ _ a b
  case has =>
    intro y hy
    have hy : F.scope.names.lookup y = some .cell ∨ F.scope.names.lookup y = some .free := hy
    rcases hy with hy | hy
    · obtain ⟨c, hc⟩ := cell_has (n := s.heap.objs.size + 1) hy
      exact ⟨c, from_in hc⟩
    · obtain ⟨i, hi⟩ := List.mem_iff_getElem?.mp (S.free _ (PySem.mem_of_lookup hy) rfl)
      obtain ⟨c, hc, _⟩ := C.has i y hi
      have : ((cellsFrom (s.heap.objs.size + 1) F.scope.names F.cl).lookup y).isSome = true := by
        rw [from_cl, List.lookup_append, hc]
        cases (cellsFrom (s.heap.objs.size + 1) F.scope.names []).lookup y <;> rfl
      exact Option.isSome_iff_exists.mp this
  case abv =>
    intro y c z h
    have z : F.scope.names.lookup y = some .cell := of_decide_eq_true z
    obtain ⟨d, hd⟩ := cell_has (n := s.heap.objs.size + 1) z
    have e : d = c := Option.some.inj ((from_in (ys := F.cl) hd).symm.trans h)
    rw [← e]
    exact Nat.le_of_lt (up hd)
  case loc =>
    intro i y v e1 e2 e3
    have e1 : N[i]? = some y := e1
    unfold startF at e2
    by_cases c1 : i < ps.length
    · have hq : (ps ++ fr)[i]? = some y := by
        rw [← S.pre, List.getElem?_take_of_lt (by omega)]
        exact e1
      rw [List.getElem?_append_left c1] at hq
      rw [List.getElem?_append_left (by rw [List.length_map]; omega), List.getElem?_map] at e2
      obtain ⟨a, ha, e2⟩ := Option.map_eq_some_iff.mp e2
      cases e2
      obtain ⟨u, hu, rv⟩ := r.get ha
      have ndP : ps.Nodup := by
        have q := S.nd.sublist (List.take_sublist (ps.length + fr.length) N)
        rw [S.pre] at q
        exact (List.nodup_append.mp q).1
      refine ⟨u, rv, ?_⟩
      rcases S.par y (List.mem_of_getElem? hq) with k | k
      · exact .inl ⟨k, bindL_get ndP hq hu k⟩
      · obtain ⟨c, hc⟩ := cell_has (n := s.heap.objs.size + 1) k
        refine .inr ⟨.inl k, c, from_in hc, ?_⟩
        have q := x.cell y c hc
        rwa [bindC_get ndP hq hu (fun z => by rw [show (envC F f s.heap.objs.size).kindOf y = some .cell from k] at z; cases z)] at q
    · rw [List.getElem?_append_right (by rw [List.length_map]; omega), List.length_map] at e2
      by_cases c2 : i < ps.length + fr.length
      · have hq : (ps ++ fr)[i]? = some y := by
          rw [← S.pre, List.getElem?_take_of_lt (by omega)]
          exact e1
        rw [List.getElem?_append_right (by omega)] at hq
        rw [List.getElem?_append_left (by omega), hl] at e2
        obtain ⟨c, hc, hv⟩ := C.has (i - ps.length) y hq
        obtain ⟨u, ru, hu⟩ := hv v e2
        have k := S.frk y (List.mem_of_getElem? hq)
        have nn : (cellsFrom (s.heap.objs.size + 1) F.scope.names []).lookup y = none := by
          cases e : (cellsFrom (s.heap.objs.size + 1) F.scope.names []).lookup y with
          | none => rfl
          | some d =>
            exact absurd (List.mem_of_getElem? hq) (S.dis _ (from_kind _ _ (PySem.mem_of_lookup e)) rfl)
        refine ⟨u, ru, .inr ⟨.inr k, c, ?_, cellK hu⟩⟩
        show (cellsFrom (s.heap.objs.size + 1) F.scope.names F.cl).lookup y = some c
        rw [from_cl, List.lookup_append, nn, hc]
        rfl
      · rw [List.getElem?_append_right (by omega), List.getElem?_replicate] at e2
        split at e2 <;> cases e2
  case cell =>
    intro y c h
    rcases from_or (show (cellsFrom _ _ _).lookup y = some c from h) with a | a
    · exact ⟨_, x.cell y c a⟩
    · obtain ⟨v, z⟩ := (C.all y c a).2
      exact ⟨v, cellK z⟩
  case frc =>
    intro y c h
    rcases from_or (show (cellsFrom _ _ _).lookup y = some c from h) with a | a
    · exact e0.hok.fresh (Nat.le_of_lt (up a))
    · exact (C.all y c a).1
  case len =>
    unfold startF
    show _ = N.length
    rw [List.length_append, List.length_append, List.length_map, List.length_replicate]
    omega
end
section
variable {CX : CXT} {P : Program} {w : World} {K : PySem.W.Frag} {mg : Str → Option Value} {base : Heap} {N ps fr : List Str} {F : NF} {f : Addr} {k : Nat} {sp : List (Option V) → Sp}
/-- a nested def with cells of its own, by its body -/
theorem nok_ofC (S : NScopeC N ps fr F.scope) (hb : ∀ (doc pm ctv : Value) (us : List Value), us.length = ps.length → bindArgs (F.fd doc pm ctv) ⟨us, []⟩ = pure (ps.zip us)) (len : ∀ ws vs H Q E, sp ws vs H Q E → vs.length = ps.length)
    (hbody : ∀ (A : Around) (outer : List Env) (s : Shared) (H : Hp) (vs : List V) (ws : List (Option V)) (Q : VK) (E : XK), Room k (A.deeper (envC F f s.heap.objs.size)) → H f = some (FnO f F) → H F.c = some (CodeO F.c F.qual) → ws.length = fr.length → sp ws vs H Q E →
      ∃ t, PSs (ncxC CX P w K mg base N F f A outer s H E) F.body t ∧ t { nx := fun _ H' => Q .non H', rt := Q } (startF N vs ws) H) :
    NOk P w K mg base CX (k + 1) f F ps fr sp := by
  refine ⟨len, fun A outer s H us vs ws Q E room e0 isF isC C rel want => ?_⟩
  have hl := len _ _ _ _ _ want
  have lim : s.heap.NoLimit := e0.mod.nolimit.keeps fun b o e => (e0.bs b o e).1
  obtain ⟨od, sl, doc, pm, ctv, ho⟩ := fnO_at e0.hok isF
  have kinds : ∀ q ∈ ps.zip us, F.scope.names.lookup q.1 = some .local ∨ (F.scope.names.lookup q.1 = some .cell ∧ ((cellsFrom (s.heap.objs.size + 1) F.scope.names []).lookup q.1).isSome = true) := fun ⟨n, v⟩ hq => by
    rcases S.par n (List.of_mem_zip hq).1 with z | z
    · exact .inl z
    · exact .inr ⟨z, PySem.W.cellsFrom_some _ _ _ (.inl z)⟩
  refine codeAny_call_function room.depth ho rfl S.co S.gen rfl (codeO_at e0.hok isC) ?_
  rw [hb doc pm ctv us (rel.length.symm.trans hl)]
  refine wpAny_pure (frame_made S.kind kinds fun env he s1 J => ?_)
  subst he
  refine ⟨lim.keeps J.toInCall.keep, codeAny_func ?_⟩
  obtain ⟨t, ht, hq⟩ := hbody A outer s H vs ws Q E (room.deeper _) isF isC C.len want
  have I0 : Inv (ncxC CX P w K mg base N F f A outer s H E) [] (startF N vs ws) H s1 := inv_enter S room.hd e0 hl rel C J
  refine wpAny_mono (ht.run [] s1 (startF N vs ws) H _ I0 hq) (fun fl s' hs => ?_) fun e s' hs => hs
  cases fl with
  | next =>
    obtain ⟨σ', H', Z, q⟩ := hs
    exact ⟨V.non, H', Z.os, Z.bare, Z.base, Z.hok, rfl, q⟩
  | ret u =>
    obtain ⟨v, σ', H', Z, rv, q⟩ := hs
    exact ⟨v, H', Z.os, Z.bare, Z.base, Z.hok, rv, q⟩
  | brk =>
    obtain ⟨_, _, _, q⟩ := hs
    exact q.elim
  | cont =>
    obtain ⟨_, _, _, q⟩ := hs
    exact q.elim
end
end NC

set_option Elab.async false
set_option linter.all false
set_option maxRecDepth 100000
set_option maxHeartbeats 2000000
/-! unseen: the walk's world -/
namespace Own
open PySem PySem.Spec PyProof.Rows L2 ND
/-- a state: a place, what is left for the message that is sent, and for the one that is read -/
abbrev PSt := Plc × Lft × Lft
abbrev Mk := Bool × List Ht
set_option synthInstance.maxSize 2000 in
instance decPlc : DecidableEq Plc := inferInstance
set_option synthInstance.maxSize 2000 in
instance decPSt : DecidableEq PSt := inferInstance
def gX (A : NPar) (poly : List Bool) (s : PSt) : List (Mk × PSt) := (stepsX A s.1).map fun r => ((r.1.2.1, r.2.1), (r.1.1, lefB poly s.2.1 [r.1.2.1], lefB poly s.2.2 r.1.2.2))
def zeroL (n : Nat) : Lft := (0, List.replicate n false)
def eX (A : NPar) (n : Nat) (s : PSt) : Bool := decide (s.2.1 = zeroL n) && (decide (s.2.2 = zeroL n) && endB A.hw A.flag A.ps s.1)
structure WPar where
  p : Addr
  dx : Addr
  rp : Addr
  kt : Addr
  lp : Addr
  d : Addr
  st : Addr
  lf : Addr
  dl : Addr
  c : Addr
  kn : Addr
  fs : List (Str × V)
  A : NPar
  poly : List Bool
  st0 : List Bool
  UP : List Plc
  LU : List Lft
/-- the finite universe of a walk -/
structure UOk (A : NPar) (poly st0 : List Bool) (UP : List Plc) (LU : List Lft) : Prop where
  p0 : plc0 A.hw ∈ UP
  pk : ∀ x ∈ UP, PlcOk A.flag A.ps x
  ps : ∀ x ∈ UP, ∀ r ∈ stepsX A x, r.1.1 ∈ UP ∧ r.1.2.2.length ≤ 10
  l0 : (st0.length, st0) ∈ LU
  lk : ∀ l ∈ LU, l.1 ≤ 900 ∧ Chk poly l.2 ∧ l.2.length = st0.length
  ls : ∀ l ∈ LU, ∀ u : List Bool, u.length ≤ 10 → lefB poly l u ∈ LU
  big : UP.length * (LU.length * LU.length) < sizeLine
  kb : LU.length * 2048 < sizeLine
  s9 : st0.length ≤ 900
theorem UOk.few {A : NPar} {poly st0 : List Bool} {UP : List Plc} {LU : List Lft} (u : UOk A poly st0 UP LU) : UP.length < sizeLine := by
  have h1 := List.length_pos_of_mem u.l0
  refine Nat.lt_of_le_of_lt ?_ u.big
  exact Nat.le_mul_of_pos_right _ (Nat.mul_pos h1 h1)
structure WAt (P : Program) (w : World) (K : PySem.W.Frag) (CN CL CRule CC : Addr) (W : WPar) (H : Hp) (L : List Plc) (S : List Addr) : Prop where
  ep : H W.p = some (.ins CN W.dx W.fs)
  nf : NtF W.fs W.rp W.kt W.lp W.d W.st W.A.most W.A.hw
  nt : NetT K CRule H W.A W.rp W.kt
  net : ∃ M, NnAt P w H W.lp W.d W.st S (L, M) ∧ NetOk W.A (L, M)
  el : H W.lf = some (.ins CL W.dl (lfF W.c W.kn W.st0))
  ck : CkAt CC H W.c W.poly W.st0
  kn : ∃ KN, KnAt H W.kn W.poly KN ∧ KN.Nodup ∧ ∀ r ∈ KN, r.1 ∈ W.LU ∧ r.2.length ≤ 10
  up : ∀ x ∈ L, x ∈ W.UP
theorem kn_apart {P : Program} {w : World} {H : Hp} {lp d st kn : Addr} {S : List Addr} {N : NetS} {kvs : List (List L2.Key × V)} (n : NnAt P w H lp d st S N) (e : H kn = some (.dT kvs)) : ¬ NFp lp d st S kn := fun f => by
  obtain ⟨as, na⟩ := n.num
  rcases f with z | z | z | z
  · rw [z, na.nd.1] at e
    cases e
  · rw [z, na.lst] at e
    cases e
  · rw [z, n.kv] at e
    cases e
  · obtain ⟨m, _, ws, e2, _⟩ := paired_left n.ls kn z
    rw [e] at e2
    cases e2
/-- what the world is made of -/
def FpW (W : WPar) (S : List Addr) (a : Addr) : Prop := NFp W.lp W.d W.st S a ∨ a = W.kn
section
variable {P : Program} {w : World} {K : PySem.W.Frag} {CN CL CRule CC : Addr} {W : WPar} {H H' : Hp} {L : List Plc} {S : List Addr}
theorem WAt.keep (h : WAt P w K CN CL CRule CC W H L S) (k : KpS H H') (f : ∀ a o, FpW W S a → H a = some o → H' a = some o) : WAt P w K CN CL CRule CC W H' L S := by
  obtain ⟨M, m1, m2⟩ := h.net
  obtain ⟨KN, k1, k2, k3⟩ := h.kn
  obtain ⟨dc, ec⟩ := h.ck
  exact ⟨k _ _ h.ep trivial, h.nf, h.nt.kps k, ⟨M, m1.keep k fun a o ha => f a o (.inl ha), m2⟩, k _ _ h.el trivial, ⟨dc, k _ _ ec trivial⟩, ⟨KN, f _ _ (.inr rfl) k1, k2, k3⟩, h.up⟩
theorem WAt.same (h : WAt P w K CN CL CRule CC W H L S) (s : Same H H') : WAt P w K CN CL CRule CC W H' L S := h.keep (KpS.of s) fun a o _ e => s _ _ e
theorem WAt.there (h : WAt P w K CN CL CRule CC W H L S) {a : Addr} (f : FpW W S a) : ∃ o, H a = some o ∧ ¬ Stab o := by
  rcases f with f | rfl
  · obtain ⟨M, m1, _⟩ := h.net
    exact m1.there f
  · obtain ⟨KN, k1, _⟩ := h.kn
    exact ⟨_, k1, fun z => z⟩
/-- all that the world is not made of stays -/
def ButW (W : WPar) (S : List Addr) (H H' : Hp) : Prop := ∀ a o, H a = some o → ¬ FpW W S a → H' a = some o
theorem WAt.kps (h : WAt P w K CN CL CRule CC W H L S) (b : ButW W S H H') : KpS H H' := fun a o e s => b a o e fun f => by
  obtain ⟨o2, e2, ns⟩ := h.there f
  rw [e] at e2
  cases e2
  exact ns s
end
/-- a state, as a tuple; places by their numbers -/
def StAt (H : Hp) (L : List Plc) (v : V) (s : PSt) : Prop := ∃ t i, v = .ref t ∧ numL L s.1 = some i ∧ H t = some (.tup [.int (i : Nat), .str (lfT s.2.1), .str (lfT s.2.2)])
def MkAt (H : Hp) (v : V) (m : Mk) : Prop := ∃ t hv, v = .ref t ∧ H t = some (.tup [.str (WS [m.1]), hv]) ∧ HtsAt H hv m.2
/-- a mark and the state behind it -/
def MsAt (H : Hp) (L : List Plc) (v : V) (x : Mk × PSt) : Prop := ∃ t mv sv, v = .ref t ∧ H t = some (.tup [mv, sv]) ∧ MkAt H mv x.1 ∧ StAt H L sv x.2
theorem StAt.mono {H H' : Hp} {L M : List Plc} {v : V} {s : PSt} (k : ∀ a xs, H a = some (.tup xs) → H' a = some (.tup xs)) (h : StAt H L v s) : StAt H' (L ++ M) v s := by
  obtain ⟨t, i, e, h1, h2⟩ := h
  exact ⟨t, i, e, numL_app h1, k _ _ h2⟩
theorem StAt.tups {H H' : Hp} {L : List Plc} {v : V} {s : PSt} (k : ∀ a xs, H a = some (.tup xs) → H' a = some (.tup xs)) (h : StAt H L v s) : StAt H' L v s := by
  obtain ⟨t, i, e, h1, h2⟩ := h
  exact ⟨t, i, e, h1, k _ _ h2⟩
theorem MkAt.tups {H H' : Hp} {v : V} {m : Mk} (k : ∀ a xs, H a = some (.tup xs) → H' a = some (.tup xs)) (h : MkAt H v m) : MkAt H' v m := by
  obtain ⟨t, hv, e, h1, h2⟩ := h
  exact ⟨t, hv, e, k _ _ h1, h2.tups k⟩
theorem MsAt.tups {H H' : Hp} {L : List Plc} {v : V} {x : Mk × PSt} (k : ∀ a xs, H a = some (.tup xs) → H' a = some (.tup xs)) (h : MsAt H L v x) : MsAt H' L v x := by
  obtain ⟨t, mv, sv, e, h1, h2, h3⟩ := h
  exact ⟨t, mv, sv, e, k _ _ h1, h2.tups k, h3.tups k⟩
theorem stpX_len (ps : List Stf) (used : Nat) (line : List Bool) (b : Bool) : ∀ (ws : List Way) (fx : List (PK × SV)), (ws.foldl (stpX ps used line b) fx).length ≤ fx.length + ws.length
  | [], fx => Nat.le_refl _
  | x :: ws, fx => by
    have h1 := stpX_len ps used line b ws (stpX ps used line b fx x)
    have h2 : (stpX ps used line b fx x).length ≤ fx.length + 1 := AM.put_len _ _ _
    rw [List.foldl_cons, List.length_cons]
    omega
theorem stepsX_len {A : NPar} {x : Plc} (hk : A.ks.length ≤ 3) (ok : PlcOk A.flag A.ps x) : (stepsX A x).length ≤ 2 * 16 ^ 5 := by
  have h1 := stpX_len A.ps x.2.2.2.2 (lineB A.ps x.1 false) false (waysB A.hw A.flag A.ps A.ks A.most x false) []
  have h2 := stpX_len A.ps x.2.2.2.2 (lineB A.ps x.1 true) true (waysB A.hw A.flag A.ps A.ks A.most x true) ((waysB A.hw A.flag A.ps A.ks A.most x false).foldl (stpX A.ps x.2.2.2.2 (lineB A.ps x.1 false) false) [])
  have h3 := waysB_len (hw := A.hw) (most := A.most) (b := false) hk ok
  have h4 := waysB_len (hw := A.hw) (most := A.most) (b := true) hk ok
  unfold stepsX
  rw [List.length_nil] at h1
  omega
/-- all words of at most n bits -/
def wordsTo : Nat → List (List Bool)
  | 0 => [[]]
  | n + 1 => [] :: (wordsTo n).flatMap fun u => [false :: u, true :: u]
theorem wordsTo_mem : ∀ (n : Nat) (u : List Bool), u.length ≤ n → u ∈ wordsTo n
  | 0, [], _ => List.mem_cons_self
  | 0, _ :: _, h => absurd h (by simp)
  | n + 1, [], _ => List.mem_cons_self
  | n + 1, b :: u, h => by
    refine List.mem_cons_of_mem _ (List.mem_flatMap.mpr ⟨u, wordsTo_mem n u (by simpa using h), ?_⟩)
    cases b
    · exact List.mem_cons_self
    · exact List.mem_cons_of_mem _ List.mem_cons_self
theorem flat_two_len : ∀ l : List (List Bool), (l.flatMap fun u => [false :: u, true :: u]).length = 2 * l.length
  | [] => rfl
  | u :: l => by
    rw [List.flatMap_cons, List.length_append, flat_two_len l]
    show 2 + 2 * l.length = 2 * (l.length + 1)
    omega
theorem wordsTo_len : ∀ n, (wordsTo n).length + 1 = 2 ^ (n + 1)
  | 0 => rfl
  | n + 1 => by
    have ih := wordsTo_len n
    show ((wordsTo n).flatMap _).length + 1 + 1 = _
    rw [flat_two_len, Nat.pow_succ]
    omega
theorem kn_few {LU : List Lft} {KN : List (Lft × List Bool)} (nd : KN.Nodup) (h : ∀ r ∈ KN, r.1 ∈ LU ∧ r.2.length ≤ 10) (kb : LU.length * 2048 < sizeLine) : KN.length < sizeLine := by
  have h1 : KN.length ≤ (LU.flatMap fun l => (wordsTo 10).map fun u => (l, u)).length := Bw.nodup_len nd fun r hr => List.mem_flatMap.mpr ⟨r.1, (h r hr).1, List.mem_map.mpr ⟨r.2, wordsTo_mem 10 r.2 (h r hr).2, rfl⟩⟩
  have h2 : (LU.flatMap fun l => (wordsTo 10).map fun u => (l, u)).length ≤ LU.length * 2048 := flat_len fun l _ => by
    rw [List.length_map]
    have := wordsTo_len 10
    omega
  omega
theorem knPut_ok {LU : List Lft} {KN : List (Lft × List Bool)} {r : Lft × List Bool} (nd : KN.Nodup) (h : ∀ r ∈ KN, r.1 ∈ LU ∧ r.2.length ≤ 10) (hr : r.1 ∈ LU ∧ r.2.length ≤ 10) : (knPut KN r).Nodup ∧ ∀ q ∈ knPut KN r, q.1 ∈ LU ∧ q.2.length ≤ 10 := by
  unfold knPut
  split
  · exact ⟨nd, h⟩
  · rename_i hn
    refine ⟨?_, fun q hq => ?_⟩
    · rw [List.nodup_append]
      exact ⟨nd, List.pairwise_singleton _ _, fun a ha b hb z => hn (by rw [List.mem_singleton] at hb; rw [← hb, ← z]; exact ha)⟩
    · rcases List.mem_append.mp hq with hq | hq
      · exact h q hq
      · rw [List.mem_singleton.mp hq]
        exact hr
def spOnwU (P : Program) (w : World) (K : PySem.W.Frag) (CN CL CRule CC : Addr) (ws : List (Option V)) : Sp := fun vs H Q _ => ∃ (W : WPar) (L : List Plc) (S : List Addr) (sv : V) (s : PSt), ws = [some (.ref W.p), some (.ref W.lf)] ∧ vs = [sv] ∧ UOk W.A W.poly W.st0 W.UP W.LU ∧ WAt P w K CN CL CRule CC W H L S ∧ StAt H L sv s ∧ s.2.1 ∈ W.LU ∧ s.2.2 ∈ W.LU ∧
  ∀ (H' : Hp) (M : List Plc) (S' : List Addr) (l : Addr) (vs' : List V), WAt P w K CN CL CRule CC W H' (L ++ M) S' → ButW W S H H' → (∀ a ∈ S', a ∈ S ∨ H a = none) → H l = none → l ∉ S' → H' l = some (.lst vs') → Paired (MsAt H' (L ++ M)) vs' (gX W.A W.poly s) → Q (.ref l) H'
def spIsUnseen (P : Program) (w : World) (K : PySem.W.Frag) (CN CL CRule CC : Addr) : Sp := fun vs H Q _ => ∃ (W : WPar) (L : List Plc) (S : List Addr) (sv : V) (s : PSt), vs = [.ref W.p, .ref W.lf, sv] ∧ UOk W.A W.poly W.st0 W.UP W.LU ∧ WAt P w K CN CL CRule CC W H L S ∧ StAt H L sv s ∧ s.2.1 ∈ W.LU ∧ s.2.2 ∈ W.LU ∧
  ∀ H', Same H H' → Q (.bl (eX W.A W.st0.length s)) H'
def spLastU (P : Program) (w : World) (K : PySem.W.Frag) (CN CL CRule CC : Addr) (ws : List (Option V)) : Sp := fun vs H Q _ => ∃ (W : WPar) (L : List Plc) (S : List Addr) (sv : V) (s : PSt), ws = [some (.ref W.p), some (.ref W.lf)] ∧ vs = [sv] ∧ UOk W.A W.poly W.st0 W.UP W.LU ∧ WAt P w K CN CL CRule CC W H L S ∧ StAt H L sv s ∧ s.2.1 ∈ W.LU ∧ s.2.2 ∈ W.LU ∧
  ∀ H', Same H H' → Q (.bl (eX W.A W.st0.length s)) H'
end Own

set_option Elab.async false
set_option linter.all false
set_option maxRecDepth 100000
set_option maxHeartbeats 2000000
/-! unseen: the walk to a shortest way -/
namespace Bw
open AM
section
variable {α μ : Type} [DecidableEq α]
def kL (G : α → List (μ × α)) (e : α → Bool) (n : Nat) (rest : List α) (c : Cm α μ) (f : List α) : Option (Cm α μ × α) := match lvB G e rest c f with
  | .fnd c b => some (c, b)
  | .go c f => bfs G e n c f
def kI (G : α → List (μ × α)) (e : α → Bool) (n : Nat) (p : α) (xs : List (μ × α)) (rest : List α) (c : Cm α μ) (f : List α) : Option (Cm α μ × α) := match inB e p xs c f with
  | .fnd c b => some (c, b)
  | .go c f => kL G e n rest c f
variable {G : α → List (μ × α)} {e : α → Bool} {n : Nat} {p : α} {rest : List α} {c : Cm α μ} {f : List α} {x : μ × α} {xs : List (μ × α)}
theorem kL_cons : kL G e n (p :: rest) c f = kI G e n p (G p) rest c f := by
  unfold kL kI
  show (match (match inB e p (G p) c f with | BR.fnd c b => BR.fnd c b | BR.go c f => lvB G e rest c f) with | BR.fnd c b => some (c, b) | BR.go c f => bfs G e n c f) = _
  cases inB e p (G p) c f <;> rfl
theorem kI_old (h : (get c x.2).isSome = true) : kI G e n p (x :: xs) rest c f = kI G e n p xs rest c f := by
  have : inB e p (x :: xs) c f = inB e p xs c f := by
    show (if (get c x.2).isSome = true then _ else _) = _
    rw [if_pos h]
  unfold kI
  rw [this]
theorem kI_end (h : get c x.2 = none) (he : e x.2 = true) : kI G e n p (x :: xs) rest c f = some (c ++ [(x.2, some (x.1, p))], x.2) := by
  have : inB e p (x :: xs) c f = .fnd (c ++ [(x.2, some (x.1, p))]) x.2 := by
    show (if (get c x.2).isSome = true then _ else _) = _
    rw [if_neg (by rw [h]; exact Bool.false_ne_true), if_pos he]
  unfold kI
  rw [this]
theorem kI_new (h : get c x.2 = none) (he : e x.2 = false) : kI G e n p (x :: xs) rest c f = kI G e n p xs rest (c ++ [(x.2, some (x.1, p))]) (f ++ [x.2]) := by
  have : inB e p (x :: xs) c f = inB e p xs (c ++ [(x.2, some (x.1, p))]) (f ++ [x.2]) := by
    show (if (get c x.2).isSome = true then _ else _) = _
    rw [if_neg (by rw [h]; exact Bool.false_ne_true), if_neg (by rw [he]; exact Bool.false_ne_true)]
  unfold kI
  rw [this]
theorem bfs_go {lv : List α} (h : lv ≠ []) : bfs G e (n + 1) c lv = kL G e n lv c [] := by
  unfold kL
  show (if lv = [] then none else _) = _
  refine (if_neg h).trans ?_
  cases lvB G e lv c [] <;> rfl
theorem bfs_nil : bfs G e (n + 1) c [] = none := rfl
theorem mkTo_some {b : α} {k : μ} (h : get c b = some (some (k, p))) : mkTo (n + 1) c b = mkTo n c p ++ [k] := by
  conv => lhs; unfold mkTo
  rw [h]
theorem mkTo_len : ∀ (n : Nat) (c : Cm α μ) (b : α), (mkTo n c b).length ≤ n
  | 0, _, _ => Nat.le_refl _
  | n + 1, c, b => by
    unfold mkTo
    split
    · rw [List.length_append]
      exact Nat.succ_le_succ (mkTo_len n c _)
    · exact Nat.zero_le _
/-- enough turns are enough -/
theorem mkTo_at (w : Wf c) : ∀ (i : Nat) (b : α) (o : Option (μ × α)) (n m : Nat), c[i]? = some (b, o) → i < n → i < m → mkTo n c b = mkTo m c b
  | i, b, o, n, m, h, hn, hm => by
    obtain ⟨n, rfl⟩ : ∃ k, n = k + 1 := ⟨n - 1, by omega⟩
    obtain ⟨m, rfl⟩ : ∃ k, m = k + 1 := ⟨m - 1, by omega⟩
    have hg := get_at w.nd h
    unfold mkTo
    rw [hg]
    match o, h with
    | none, _ => rfl
    | some (k, p), h =>
      obtain ⟨j, o2, hj, h2⟩ := w.up i b k p h
      show mkTo n c p ++ [k] = mkTo m c p ++ [k]
      rw [mkTo_at w j p o2 n m h2 (by omega) (by omega)]
termination_by i => i
end
end Bw
namespace Own
open PySem PySem.Spec PyProof.Rows L2 ND
def keySt (L : List Plc) (s : PSt) : List L2.Key := [Sum.inl (((numL L s.1).getD 0 : Nat) : Int), Sum.inr (lfT s.2.1), Sum.inr (lfT s.2.2)]
theorem keySt_inj {L : List Plc} {s r : PSt} (hs : s.1 ∈ L) (hr : r.1 ∈ L) (h : keySt L s = keySt L r) : s = r := by
  unfold keySt at h
  simp only [List.cons.injEq, Sum.inl.injEq, Sum.inr.injEq, and_true] at h
  obtain ⟨h1, h2, h3⟩ := h
  obtain ⟨i, hi⟩ := numL_mem hs
  obtain ⟨j, hj⟩ := numL_mem hr
  rw [hi, hj] at h1
  have h1 : i = j := Int.ofNat.inj h1
  subst h1
  have g1 := numL_some hi
  rw [numL_some hj] at g1
  exact Prod.ext (Option.some.inj g1).symm (Prod.ext (lfT_inj h2) (lfT_inj h3))
theorem keySt_app {L M : List Plc} {s : PSt} (h : s.1 ∈ L) : keySt (L ++ M) s = keySt L s := by
  obtain ⟨i, hi⟩ := numL_mem h
  unfold keySt
  rw [numL_app hi, hi]
theorem StAt.key {H : Hp} {L : List Plc} {v : V} {s : PSt} (h : StAt H L v s) : ∃ t, v = .ref t ∧ H t = some (.tup ((keySt L s).map kV)) ∧ s.1 ∈ L := by
  obtain ⟨t, i, e, h1, h2⟩ := h
  refine ⟨t, e, ?_, List.mem_of_getElem? (numL_some h1)⟩
  unfold keySt
  rw [h1]
  exact h2
def CvAt (H : Hp) (L : List Plc) (v : V) : Option (Mk × PSt) → Prop
  | none => v = .non
  | some x => ∃ t mv pv, v = .ref t ∧ H t = some (.tup [mv, pv]) ∧ MkAt H mv x.1 ∧ StAt H L pv x.2
theorem CvAt.mono {H H' : Hp} {L M : List Plc} {v : V} (k : ∀ a xs, H a = some (.tup xs) → H' a = some (.tup xs)) : ∀ {o : Option (Mk × PSt)}, CvAt H L v o → CvAt H' (L ++ M) v o
  | none, h => h
  | some _, h => by
    obtain ⟨t, mv, pv, e, h1, h2, h3⟩ := h
    exact ⟨t, mv, pv, e, k _ _ h1, h2.tups k, h3.mono k⟩
theorem CvAt.tups {H H' : Hp} {L : List Plc} {v : V} (k : ∀ a xs, H a = some (.tup xs) → H' a = some (.tup xs)) : ∀ {o : Option (Mk × PSt)}, CvAt H L v o → CvAt H' L v o
  | none, h => h
  | some _, h => by
    obtain ⟨t, mv, pv, e, h1, h2, h3⟩ := h
    exact ⟨t, mv, pv, e, k _ _ h1, h2.tups k, h3.tups k⟩
abbrev CmS := Bw.Cm PSt Mk
section
variable {β κ γ : Type} [DecidableEq γ] [DecidableEq κ]
theorem rk_getW {f : γ → κ} {T : V → β → Prop} {k : γ} {kvs : List (κ × V)} {A : List (γ × β)} (p : Paired (AM.RK f T) kvs A) (inj : ∀ a ∈ A, f a.1 = f k → a.1 = k) :
    (AM.get A k = none ∧ valV kvs (f k) = none) ∨ ∃ b v, AM.get A k = some b ∧ valV kvs (f k) = some v ∧ T v b := by
  induction p with
  | nil => exact .inl ⟨rfl, rfl⟩
  | @cons kv a kvs A h t ih =>
    have ih := ih fun a ha => inj a (List.mem_cons_of_mem _ ha)
    obtain ⟨h1, h2⟩ := h
    unfold valV at ih ⊢
    rw [List.find?_cons]
    by_cases e : a.1 = k
    · rw [decide_eq_true (show kv.1 = f k by rw [h1, e]), AM.get_pos e]
      exact .inr ⟨_, _, rfl, rfl, h2⟩
    · rw [decide_eq_false (show ¬ kv.1 = f k from fun z => e (inj _ List.mem_cons_self (h1.symm.trans z))), AM.get_neg e]
      exact ih
theorem rk_new {f : γ → κ} {T : V → β → Prop} {k : γ} {b : β} {v : V} {kvs : List (κ × V)} {A : List (γ × β)} (p : Paired (AM.RK f T) kvs A) (inj : ∀ a ∈ A, f a.1 = f k → a.1 = k) (hn : AM.get A k = none) (hv : T v b) : Paired (AM.RK f T) (putK kvs (f k) v) (A ++ [(k, b)]) := by
  have hno : (kvs.any fun kv => decide (kv.1 = f k)) = false := by
    have go : ∀ {kvs : List (κ × V)} {A : List (γ × β)}, Paired (AM.RK f T) kvs A → (∀ a ∈ A, f a.1 = f k → a.1 = k) → AM.get A k = none → (kvs.any fun kv => decide (kv.1 = f k)) = false := by
      intro kvs A p
      induction p with
      | nil => intro _ _; rfl
      | @cons kv a kvs A h t ih =>
        intro inj hn
        by_cases e : a.1 = k
        · rw [AM.get_pos e] at hn
          cases hn
        · rw [AM.get_neg e] at hn
          rw [List.any_cons, decide_eq_false (show ¬ kv.1 = f k from fun z => e (inj _ List.mem_cons_self (h.1.symm.trans z))), Bool.false_or]
          exact ih (fun a ha => inj a (List.mem_cons_of_mem _ ha)) hn
    exact go p inj hn
  unfold putK
  rw [hno, if_neg Bool.false_ne_true]
  exact ND.paired_snoc ⟨rfl, hv⟩ p
end
theorem paired_memR {α β : Type} {F G : α → β → Prop} : ∀ {l : List α} {m : List β}, (∀ x, ∀ y ∈ m, F x y → G x y) → Paired F l m → Paired G l m
  | _, _, _, .nil => .nil
  | _, _, h, .cons r t => .cons (h _ _ List.mem_cons_self r) (paired_memR (fun x y hy => h x y (List.mem_cons_of_mem _ hy)) t)
theorem paired_rev {α β : Type} {F : α → β → Prop} : ∀ {l : List α} {m : List β}, Paired F l m → Paired F l.reverse m.reverse
  | _, _, .nil => .nil
  | _, _, .cons r t => by
    rw [List.reverse_cons, List.reverse_cons]
    exact ND.paired_snoc r (paired_rev t)
/-- the state of the walk -/
structure SwSt (P : Program) (w : World) (K : PySem.W.Frag) (CN CL CRule CC : Addr) (W : WPar) (H0 : Hp) (L0 : List Plc) (S0 : List Addr) (H : Hp) (L : List Plc) (S : List Addr) (D : Addr) (c : CmS) : Prop where
  wa : WAt P w K CN CL CRule CC W H L S
  pre : ∃ M, L = L0 ++ M
  bw : ButW W S0 H0 H
  sn : ∀ a ∈ S, a ∈ S0 ∨ H0 a = none
  d0 : H0 D = none
  dn : ¬ FpW W S D
  cm : ∃ kvs, H D = some (.dT kvs) ∧ Paired (AM.RK (keySt L) (CvAt H L)) kvs c
  wf : Bw.Wf c
  kn : ∀ r ∈ c, r.1.1 ∈ L
  un : ∀ r ∈ c, r.1.2.1 ∈ W.LU ∧ r.1.2.2 ∈ W.LU
  s00 : S0 = []
section
variable {P : Program} {w : World} {K : PySem.W.Frag} {CN CL CRule CC : Addr} {W : WPar} {H0 H H' : Hp} {L0 L : List Plc} {S0 S : List Addr} {D : Addr} {c : CmS}
theorem SwSt.keep (h : SwSt P w K CN CL CRule CC W H0 L0 S0 H L S D c) (k : KpS H H') (f : ∀ a o, FpW W S a → H a = some o → H' a = some o) (hD : ∀ o, H D = some o → H' D = some o) (b : ButW W S0 H0 H') : SwSt P w K CN CL CRule CC W H0 L0 S0 H' L S D c := by
  obtain ⟨kvs, e1, e2⟩ := h.cm
  exact ⟨h.wa.keep k f, h.pre, b, h.sn, h.d0, h.dn, ⟨kvs, hD _ e1, Paired.mono (F' := AM.RK (keySt L) (CvAt H' L)) (fun _ _ q => ⟨q.1, q.2.tups k.tup⟩) e2⟩, h.wf, h.kn, h.un, h.s00⟩
theorem SwSt.same (h : SwSt P w K CN CL CRule CC W H0 L0 S0 H L S D c) (s : Same H H') : SwSt P w K CN CL CRule CC W H0 L0 S0 H' L S D c := h.keep (KpS.of s) (fun a o _ e => s _ _ e) (fun o e => s _ _ e) fun a o e n => s _ _ (h.bw a o e n)
/-- a list of the walk's own changes -/
theorem SwSt.upd (h : SwSt P w K CN CL CRule CC W H0 L0 S0 H L S D c) {a : Addr} {xs ys : List V} (e : H a = some (.lst xs)) (n0 : H0 a = none) (nf : ¬ FpW W S a) : SwSt P w K CN CL CRule CC W H0 L0 S0 (L2.upd H a (.lst ys)) L S D c := by
  obtain ⟨kvs, e1, e2⟩ := h.cm
  have nD : D ≠ a := fun z => by rw [z, e] at e1; cases e1
  refine h.keep (KpS.upd e (fun z => z)) (fun b o f eb => by rw [upd_ne (fun z => nf (by rw [← z]; exact f))]; exact eb) (fun o eo => by rw [upd_ne nD]; exact eo) fun b o eb n => ?_
  rw [upd_ne (ne_of_none eb n0)]
  exact h.bw b o eb n
/-- one step of the world further -/
theorem SwSt.step (h : SwSt P w K CN CL CRule CC W H0 L0 S0 H L S D c) {M : List Plc} {S' : List Addr} (wa : WAt P w K CN CL CRule CC W H' (L ++ M) S') (b : ButW W S H H') (s : ∀ a ∈ S', a ∈ S ∨ H a = none) : SwSt P w K CN CL CRule CC W H0 L0 S0 H' (L ++ M) S' D c := by
  obtain ⟨kvs, e1, e2⟩ := h.cm
  obtain ⟨M0, hM⟩ := h.pre
  have k := h.wa.kps b
  have fp : ∀ a, FpW W S' a → FpW W S a ∨ H a = none := fun a f => by
    rcases f with (f | f | f | f) | f
    · exact .inl (.inl (.inl f))
    · exact .inl (.inl (.inr (.inl f)))
    · exact .inl (.inl (.inr (.inr (.inl f))))
    · exact (s a f).imp (fun z => .inl (.inr (.inr (.inr z)))) id
    · exact .inl (.inr f)
  have fp0 : ∀ a o, H0 a = some o → FpW W S a → FpW W S0 a := fun a o e f => by
    rcases f with (f | f | f | f) | f
    · exact .inl (.inl f)
    · exact .inl (.inr (.inl f))
    · exact .inl (.inr (.inr (.inl f)))
    · rcases h.sn a f with z | z
      · exact .inl (.inr (.inr (.inr z)))
      · rw [z] at e
        cases e
    · exact .inr f
  refine ⟨wa, ⟨M0 ++ M, by rw [hM, List.append_assoc]⟩, fun a o e n => b _ _ (h.bw a o e n) fun f => n (fp0 a o e f), fun a ha => ?_, h.d0, fun f => ?_, ⟨kvs, b _ _ e1 h.dn, ?_⟩, h.wf, fun r hr => List.mem_append_left _ (h.kn r hr), h.un, h.s00⟩
  · rcases s a ha with z | z
    · exact h.sn a z
    · by_cases h0 : a ∈ S0
      · exact .inl h0
      · refine .inr ?_
        cases e : H0 a with
        | none => rfl
        | some o =>
          exfalso
          by_cases f : FpW W S0 a
          · have : FpW W S a := by
              rcases f with (f | f | f | f) | f
              · exact .inl (.inl f)
              · exact .inl (.inr (.inl f))
              · exact .inl (.inr (.inr (.inl f)))
              · exact absurd f h0
              · exact .inr f
            obtain ⟨o2, e2, _⟩ := h.wa.there this
            rw [z] at e2
            cases e2
          · rw [h.bw a o e f] at z
            cases z
  · rcases fp D f with f | f
    · exact h.dn f
    · rw [e1] at f
      cases f
  · refine paired_memR (fun kv r hr q => ⟨?_, q.2.mono k.tup⟩) e2
    rw [q.1]
    exact (keySt_app (h.kn r hr)).symm
theorem SwSt.keyInj (h : SwSt P w K CN CL CRule CC W H0 L0 S0 H L S D c) {s : PSt} (hs : s.1 ∈ L) : ∀ a ∈ c, keySt L a.1 = keySt L s → a.1 = s := fun a ha e => keySt_inj (h.kn a ha) hs e
theorem SwSt.few (h : SwSt P w K CN CL CRule CC W H0 L0 S0 H L S D c) : c.length ≤ W.UP.length * (W.LU.length * W.LU.length) := by
  have h1 := Bw.nodup_len (u := W.UP.flatMap fun x => W.LU.flatMap fun l => W.LU.map fun r => (x, l, r)) h.wf.nd fun s hs => by
    obtain ⟨r, hr, rfl⟩ := List.mem_map.mp hs
    exact List.mem_flatMap.mpr ⟨r.1.1, h.wa.up _ (h.kn r hr), List.mem_flatMap.mpr ⟨r.1.2.1, (h.un r hr).1, List.mem_map.mpr ⟨r.1.2.2, (h.un r hr).2, rfl⟩⟩⟩
  rw [List.length_map] at h1
  refine Nat.le_trans h1 (flat_len fun x _ => flat_len fun l _ => ?_)
  rw [List.length_map]
  exact Nat.le_refl _
/-- a new state is noted -/
theorem SwSt.put (h : SwSt P w K CN CL CRule CC W H0 L0 S0 H L S D c) {b p : PSt} {m : Mk} {tb tp : V} {mv v : V} (hb : StAt H L tb b) (hp : p ∈ c.map (·.1)) (hn : AM.get c b = none) (hv : CvAt H L v (some (m, p))) (hu : b.2.1 ∈ W.LU ∧ b.2.2 ∈ W.LU) {kvs : List (List L2.Key × V)} (e1 : H D = some (.dT kvs)) (e2 : Paired (AM.RK (keySt L) (CvAt H L)) kvs c) :
    SwSt P w K CN CL CRule CC W H0 L0 S0 (L2.upd H D (.dT (putK kvs (keySt L b) v))) L S D (c ++ [(b, some (m, p))]) := by
  obtain ⟨t, rfl, et, hbL⟩ := hb.key
  have ku : KpS H (L2.upd H D (.dT (putK kvs (keySt L b) v))) := KpS.upd e1 (fun z => z)
  refine ⟨h.wa.keep ku fun a o f e => by rw [upd_ne (fun z => h.dn (by rw [← z]; exact f))]; exact e, h.pre, fun a o e n => by rw [upd_ne (ne_of_none e h.d0)]; exact h.bw a o e n, h.sn, h.d0, h.dn, ⟨_, upd_same, ?_⟩, h.wf.snoc hn hp, fun r hr => ?_, fun r hr => ?_, h.s00⟩
  · exact rk_new (Paired.mono (F' := AM.RK (keySt L) (CvAt (L2.upd H D (.dT (putK kvs (keySt L b) v))) L)) (fun _ _ q => ⟨q.1, q.2.tups ku.tup⟩) e2) (h.keyInj hbL) hn (hv.tups ku.tup)
  · rcases List.mem_append.mp hr with hr | hr
    · exact h.kn r hr
    · rw [List.mem_singleton.mp hr]
      exact hbL
  · rcases List.mem_append.mp hr with hr | hr
    · exact h.un r hr
    · rw [List.mem_singleton.mp hr]
      exact hu
theorem SwSt.start {s : PSt} {tb : V} (hS : S = []) (wa : WAt P w K CN CL CRule CC W H L S) (hb : StAt H L tb s) (hu : s.2.1 ∈ W.LU ∧ s.2.2 ∈ W.LU) (hD : H D = none) : SwSt P w K CN CL CRule CC W H L S (L2.upd H D (.dT [(keySt L s, .non)])) L S D [(s, none)] := by
  obtain ⟨t, rfl, et, hbL⟩ := hb.key
  refine ⟨wa.same (same_new hD), ⟨[], (List.append_nil L).symm⟩, fun a o e _ => same_new hD _ _ e, fun a h => .inl h, hD, fun f => ?_, ⟨_, upd_same, .cons ⟨rfl, rfl⟩ .nil⟩, Bw.Wf.start s, fun r hr => ?_, fun r hr => ?_, hS⟩
  · obtain ⟨o, e, _⟩ := wa.there f
    rw [hD] at e
    cases e
  · rw [List.mem_singleton.mp hr]
    exact hbL
  · rw [List.mem_singleton.mp hr]
    exact hu
end
theorem SwSt.new {P : Program} {w : World} {K : PySem.W.Frag} {CN CL CRule CC : Addr} {W : WPar} {H0 H : Hp} {L0 L : List Plc} {S0 S : List Addr} {D a : Addr} {c : CmS} (h : SwSt P w K CN CL CRule CC W H0 L0 S0 H L S D c) (ha : H a = none) : H0 a = none ∧ ¬ FpW W S a ∧ a ≠ D := by
  have nf : ¬ FpW W S a := fun f => by
    obtain ⟨o, e, _⟩ := h.wa.there f
    rw [ha] at e
    cases e
  refine ⟨?_, nf, fun z => ?_⟩
  · cases e : H0 a with
    | none => rfl
    | some o =>
      exfalso
      have : ¬ FpW W S0 a := fun f => by
        rcases f with (f | f | f | f) | f
        · exact nf (.inl (.inl f))
        · exact nf (.inl (.inr (.inl f)))
        · exact nf (.inl (.inr (.inr (.inl f))))
        · rw [h.s00] at f
          cases f
        · exact nf (.inr f)
      rw [h.bw a o e this] at ha
      cases ha
  · obtain ⟨kvs, e, _⟩ := h.cm
    rw [z, e] at ha
    cases ha
theorem fpw_mono {W : WPar} {H : Hp} {S S' : List Addr} (s : ∀ a ∈ S', a ∈ S ∨ H a = none) {a : Addr} {o : HO} (e : H a = some o) (n : ¬ FpW W S a) : ¬ FpW W S' a := fun f => by
  rcases f with (f | f | f | f) | f
  · exact n (.inl (.inl f))
  · exact n (.inl (.inr (.inl f)))
  · exact n (.inl (.inr (.inr (.inl f))))
  · rcases s a f with z | z
    · exact n (.inl (.inr (.inr (.inr z))))
    · rw [e] at z
      cases z
  · exact n (.inr f)
def spMarksTo : Sp := fun vs H Q _ => ∃ (D : Addr) (L : List Plc) (kvs : List (List L2.Key × V)) (c : CmS) (pv : V) (b : PSt), vs = [.ref D, pv] ∧ H D = some (.dT kvs) ∧ Paired (AM.RK (keySt L) (CvAt H L)) kvs c ∧ Bw.Wf c ∧ (∀ r ∈ c, r.1.1 ∈ L) ∧ StAt H L pv b ∧ b ∈ c.map (·.1) ∧ c.length < sizeLine ∧
  ∀ (H' : Hp) (l : Addr) (xs : List V), Same H H' → H l = none → H' l = some (.lst xs) → Paired (MkAt H') xs (Bw.mkTo c.length c b) → Q (.ref l) H'
def wayM (A : NPar) (poly : List Bool) (n : Nat) (s : PSt) : Option (List Mk) := Bw.shortW (gX A poly) (eX A n) sizeLine s
def RwAt (H0 H : Hp) (r : V) : Option (List Mk) → Prop
  | none => r = .non
  | some ms => ∃ l xs, r = .ref l ∧ H0 l = none ∧ H l = some (.lst xs) ∧ Paired (MkAt H) xs ms ∧ ms.length < sizeLine
def hSW (P : Program) (w : World) (K : PySem.W.Frag) (mg : Str → Option Value) (base : Heap) (k : Nat) (CN CL CRule CC : Addr) : Clo2.HSp2 := fun fr1 f1 F1 ws1 fr2 f2 F2 ws2 vs H Q _ => ∃ (ps1 ps2 : List Str) (W : WPar) (L : List Plc) (S : List Addr) (sv : V) (s : PSt), vs = [sv, .ref f1, .ref f2] ∧ S = [] ∧
  NdefX.NOk P w K mg base CX0 k f1 F1 ps1 fr1 (spOnwU P w K CN CL CRule CC) ∧ NdefX.NOk P w K mg base CX0 k f2 F2 ps2 fr2 (spLastU P w K CN CL CRule CC) ∧ ws1 = [some (.ref W.p), some (.ref W.lf)] ∧ ws2 = [some (.ref W.p), some (.ref W.lf)] ∧
  UOk W.A W.poly W.st0 W.UP W.LU ∧ WAt P w K CN CL CRule CC W H L S ∧ StAt H L sv s ∧ s.2.1 ∈ W.LU ∧ s.2.2 ∈ W.LU ∧ ¬ FpW W S f1 ∧ ¬ FpW W S F1.c ∧ ¬ FpW W S f2 ∧ ¬ FpW W S F2.c ∧
  ∀ (H' : Hp) (M : List Plc) (S' : List Addr) (r : V), WAt P w K CN CL CRule CC W H' (L ++ M) S' → ButW W S H H' → (∀ a ∈ S', a ∈ S ∨ H a = none) → RwAt H H' r (wayM W.A W.poly W.st0.length s) → Q r H'
end Own

set_option Elab.async false
set_option linter.all false
set_option maxRecDepth 100000
set_option maxHeartbeats 2000000
/-! a shortest way is one -/
namespace Bw
open AM
section
variable {α μ : Type} [DecidableEq α]
/-- a walk from s, by its marks -/
inductive Wk (G : α → List (μ × α)) (s : α) : List μ → α → Prop
  | nil : Wk G s [] s
  | snoc {ms : List μ} {p : α} {x : μ × α} : Wk G s ms p → x ∈ G p → Wk G s (ms ++ [x.1]) x.2
abbrev kys (c : Cm α μ) : List α := c.map (·.1)
/-- all that came has a way, none of it is an end -/
structure BS (G : α → List (μ × α)) (e : α → Bool) (s : α) (c : Cm α μ) : Prop where
  wf : Wf c
  ne : ∀ t ∈ kys c, e t = false
  wk : ∀ (i : Nat) (t : α) (o : Option (μ × α)), c[i]? = some (t, o) → Wk G s (mkTo (i + 1) c t) t
/-- it came, d steps behind the first -/
def Dp (c : Cm α μ) (d : Nat) (t : α) : Prop := ∃ (i : Nat) (o : Option (μ × α)), c[i]? = some (t, o) ∧ (mkTo (i + 1) c t).length = d
theorem mk_ext {c : Cm α μ} {z : α × Option (μ × α)} (w : Wf c) (w2 : Wf (c ++ [z])) : ∀ (i : Nat) (t : α) (o : Option (μ × α)) (n : Nat), c[i]? = some (t, o) → i < n → mkTo n (c ++ [z]) t = mkTo n c t
  | i, t, o, n, h, hn => by
    obtain ⟨n, rfl⟩ : ∃ k, n = k + 1 := ⟨n - 1, by omega⟩
    have hi := (List.getElem?_eq_some_iff.mp h).1
    have h2 : (c ++ [z])[i]? = some (t, o) := by rw [List.getElem?_append_left hi]; exact h
    unfold mkTo
    rw [get_at w.nd h, get_at w2.nd h2]
    match o, h with
    | none, _ => rfl
    | some (k, p), h =>
      obtain ⟨j, o2, hj, h3⟩ := w.up i t k p h
      show mkTo n (c ++ [z]) p ++ [k] = mkTo n c p ++ [k]
      rw [mk_ext w w2 j p o2 n h3 (by omega)]
termination_by i => i
theorem Dp.mem {c : Cm α μ} {d : Nat} {t : α} (h : Dp c d t) : t ∈ kys c := by
  obtain ⟨i, o, h1, _⟩ := h
  exact List.mem_map.mpr ⟨_, List.mem_of_getElem? h1, rfl⟩
theorem Dp.ext {c : Cm α μ} {z : α × Option (μ × α)} {d : Nat} {t : α} (w : Wf c) (w2 : Wf (c ++ [z])) (h : Dp c d t) : Dp (c ++ [z]) d t := by
  obtain ⟨i, o, h1, h2⟩ := h
  have hi := (List.getElem?_eq_some_iff.mp h1).1
  exact ⟨i, o, by rw [List.getElem?_append_left hi]; exact h1, by rw [mk_ext w w2 i t o _ h1 (by omega)]; exact h2⟩
/-- one step further -/
theorem BS.put {G : α → List (μ × α)} {e : α → Bool} {s : α} {c : Cm α μ} (b : BS G e s c) {d : Nat} {p : α} {x : μ × α} (hp : Dp c d p) (hx : x ∈ G p) (hn : get c x.2 = none) :
    Wf (c ++ [(x.2, some (x.1, p))]) ∧ (∀ (i : Nat) (t : α) (o : Option (μ × α)), (c ++ [(x.2, some (x.1, p))])[i]? = some (t, o) → Wk G s (mkTo (i + 1) (c ++ [(x.2, some (x.1, p))]) t) t) ∧ Dp (c ++ [(x.2, some (x.1, p))]) (d + 1) x.2 := by
  have w2 := b.wf.snoc (m := x.1) hn hp.mem
  obtain ⟨j, o, hj, hl⟩ := hp
  have hjl := (List.getElem?_eq_some_iff.mp hj).1
  have hlast : (c ++ [(x.2, some (x.1, p))])[c.length]? = some (x.2, some (x.1, p)) := by
    rw [List.getElem?_append_right (Nat.le_refl _), Nat.sub_self]
    rfl
  have hmk : mkTo (c.length + 1) (c ++ [(x.2, some (x.1, p))]) x.2 = mkTo (j + 1) c p ++ [x.1] := by
    rw [mkTo_some (get_at w2.nd hlast), mk_ext b.wf w2 j p o _ hj (by omega), mkTo_at b.wf j p o c.length (j + 1) hj (by omega) (by omega)]
  refine ⟨w2, fun i t o2 h => ?_, c.length, _, hlast, by rw [hmk, List.length_append, hl]; rfl⟩
  rcases Nat.lt_or_ge i c.length with hi | hi
  · have h' := h
    rw [List.getElem?_append_left hi] at h'
    rw [mk_ext b.wf w2 i t o2 _ h' (by omega)]
    exact b.wk i t o2 h'
  · have hil : i = c.length := by
      have := (List.getElem?_eq_some_iff.mp h).1
      rw [List.length_append] at this
      have h1 : [((x.2, some (x.1, p)) : α × Option (μ × α))].length = 1 := rfl
      omega
    subst hil
    rw [hlast] at h
    cases h
    rw [hmk]
    exact .snoc (b.wk j p o hj) hx
theorem inB_ok {G : α → List (μ × α)} {e : α → Bool} {s : α} {p : α} {d : Nat} : ∀ (r : List (μ × α)) (c : Cm α μ) (f : List α), (∀ x ∈ r, x ∈ G p) → BS G e s c → Dp c d p → (∀ t ∈ f, Dp c (d + 1) t) →
    (∃ c' b, inB e p r c f = .fnd c' b ∧ e b = true ∧ Wk G s (mkTo c'.length c' b) b ∧ (mkTo c'.length c' b).length = d + 1) ∨
    ∃ c' f', inB e p r c f = .go c' f' ∧ BS G e s c' ∧ (∀ t ∈ f', Dp c' (d + 1) t) ∧ (∀ x ∈ r, x.2 ∈ kys c') ∧ (∀ t ∈ kys c, t ∈ kys c') ∧ (∀ t ∈ kys c', t ∈ kys c ∨ t ∈ f') ∧ (∀ t ∈ f, t ∈ f') ∧ (∀ k t, Dp c k t → Dp c' k t) ∧ c'.length + f.length = c.length + f'.length
  | [], c, f, _, b, _, hf => .inr ⟨c, f, rfl, b, hf, (fun _ h => nomatch h), fun _ h => h, fun _ h => .inl h, fun _ h => h, fun _ _ h => h, rfl⟩
  | x :: r, c, f, hr, b, hp, hf => by
    have hx := hr x List.mem_cons_self
    have hr2 := fun y hy => hr y (List.mem_cons_of_mem _ hy)
    unfold inB
    split
    · rename_i hs
      rcases inB_ok r c f hr2 b hp hf with h | ⟨c', f', h1, h2, h3, h4, h5, h6, h7, h8, h9⟩
      · exact .inl h
      · refine .inr ⟨c', f', h1, h2, h3, fun y hy => ?_, h5, h6, h7, h8, h9⟩
        rcases List.mem_cons.mp hy with rfl | hy
        · exact h5 _ (get_isSome.mp hs)
        · exact h4 y hy
    · rename_i hs
      have hn : get c x.2 = none := by
        cases eg : get c x.2 with
        | none => rfl
        | some v => rw [eg] at hs; exact absurd rfl hs
      obtain ⟨w2, wk2, dp2⟩ := b.put hp hx hn
      split
      · rename_i he
        refine .inl ⟨_, _, rfl, he, ?_⟩
        obtain ⟨i, o, hi, hl⟩ := dp2
        have hil := (List.getElem?_eq_some_iff.mp hi).1
        rw [mkTo_at w2 i x.2 o _ (i + 1) hi hil (by omega)]
        exact ⟨wk2 i _ o hi, hl⟩
      · rename_i he
        have b2 : BS G e s (c ++ [(x.2, some (x.1, p))]) := ⟨w2, fun t ht => by
          rw [show kys (c ++ [(x.2, some (x.1, p))]) = kys c ++ [x.2] from List.map_append] at ht
          rcases List.mem_append.mp ht with ht | ht
          · exact b.ne t ht
          · rw [List.mem_singleton.mp ht]
            exact Bool.eq_false_iff.mpr he, wk2⟩
        rcases inB_ok r (c ++ [(x.2, some (x.1, p))]) (f ++ [x.2]) hr2 b2 (hp.ext b.wf w2) (fun t ht => by
          rcases List.mem_append.mp ht with ht | ht
          · exact (hf t ht).ext b.wf w2
          · rw [List.mem_singleton.mp ht]
            exact dp2) with h | ⟨c', f', h1, h2, h3, h4, h5, h6, h7, h8, h9⟩
        · exact .inl h
        · have hk : kys (c ++ [(x.2, some (x.1, p))]) = kys c ++ [x.2] := List.map_append
          rw [hk] at h5 h6
          refine .inr ⟨c', f', h1, h2, h3, fun y hy => ?_, fun t ht => h5 t (List.mem_append_left _ ht), fun t ht => ?_, fun t ht => h7 t (List.mem_append_left _ ht), fun k t h => h8 k t (h.ext b.wf w2), ?_⟩
          · rcases List.mem_cons.mp hy with rfl | hy
            · exact h5 _ (List.mem_append_right _ List.mem_cons_self)
            · exact h4 y hy
          · rcases h6 t ht with h | h
            · rcases List.mem_append.mp h with h | h
              · exact .inl h
              · rw [List.mem_singleton.mp h]
                exact .inr (h7 _ (List.mem_append_right _ List.mem_cons_self))
            · exact .inr h
          · rw [List.length_append, List.length_append] at h9
            have e1 : [((x.2, some (x.1, p)) : α × Option (μ × α))].length = 1 := rfl
            have e2 : [x.2].length = 1 := rfl
            omega
theorem lvB_ok {G : α → List (μ × α)} {e : α → Bool} {s : α} {d : Nat} : ∀ (lv : List α) (c : Cm α μ) (f : List α), BS G e s c → (∀ t ∈ lv, Dp c d t) → (∀ t ∈ f, Dp c (d + 1) t) →
    (∃ c' b, lvB G e lv c f = .fnd c' b ∧ e b = true ∧ Wk G s (mkTo c'.length c' b) b ∧ (mkTo c'.length c' b).length = d + 1) ∨
    ∃ c' f', lvB G e lv c f = .go c' f' ∧ BS G e s c' ∧ (∀ t ∈ f', Dp c' (d + 1) t) ∧ (∀ t ∈ lv, ∀ x ∈ G t, x.2 ∈ kys c') ∧ (∀ t ∈ kys c, t ∈ kys c') ∧ (∀ t ∈ kys c', t ∈ kys c ∨ t ∈ f') ∧ (∀ t ∈ f, t ∈ f') ∧ c'.length + f.length = c.length + f'.length
  | [], c, f, b, _, hf => .inr ⟨c, f, rfl, b, hf, (fun _ h => nomatch h), fun _ h => h, fun _ h => .inl h, fun _ h => h, rfl⟩
  | p :: lv, c, f, b, hl, hf => by
    unfold lvB
    rcases inB_ok (G p) c f (fun _ h => h) b (hl p List.mem_cons_self) hf with ⟨c', q, h1, h2⟩ | ⟨c1, f1, h1, h2, h3, h4, h5, h6, h7, h8, h9⟩
    · rw [h1]
      exact .inl ⟨c', q, rfl, h2⟩
    · rw [h1]
      rcases lvB_ok lv c1 f1 h2 (fun t ht => h8 _ _ (hl t (List.mem_cons_of_mem _ ht))) h3 with h | ⟨c2, f2, k1, k2, k3, k4, k5, k6, k7, k9⟩
      · exact .inl h
      · refine .inr ⟨c2, f2, k1, k2, k3, fun t ht => ?_, fun t ht => k5 t (h5 t ht), fun t ht => ?_, fun t ht => k7 t (h7 t ht), by omega⟩
        · rcases List.mem_cons.mp ht with rfl | ht
          · exact fun x hx => k5 _ (h4 x hx)
          · exact k4 t ht
        · rcases k6 t ht with h | h
          · exact (h6 t h).imp id (k7 t)
          · exact .inr h
/-- all within d steps came; what is not in the level has been gone on from -/
structure BC (G : α → List (μ × α)) (s : α) (d : Nat) (c : Cm α μ) (lv : List α) : Prop where
  cm : ∀ ns u, Wk G s ns u → ns.length ≤ d → u ∈ kys c
  xp : ∀ t ∈ kys c, t ∉ lv → ∀ x ∈ G t, x.2 ∈ kys c
theorem wk_cases {G : α → List (μ × α)} {s : α} {ns : List μ} {u : α} (h : Wk G s ns u) : (ns = [] ∧ u = s) ∨ ∃ ms p x, Wk G s ms p ∧ x ∈ G p ∧ ns = ms ++ [x.1] ∧ u = x.2 := by
  cases h with
  | nil => exact .inl ⟨rfl, rfl⟩
  | snoc h hx => exact .inr ⟨_, _, _, h, hx, rfl, rfl⟩
theorem bc_done {G : α → List (μ × α)} {e : α → Bool} {s : α} {d : Nat} {c : Cm α μ} (b : BS G e s c) (bc : BC G s d c []) : ∀ ns u, Wk G s ns u → e u = false := by
  have key : ∀ (k : Nat) ns u, ns.length = k → Wk G s ns u → u ∈ kys c := by
    intro k
    induction k with
    | zero => exact fun ns u hk h => bc.cm ns u h (by omega)
    | succ k ih =>
      intro ns u hk h
      rcases wk_cases h with ⟨rfl, _⟩ | ⟨ms, p, x, h1, h2, rfl, rfl⟩
      · cases hk
      · rw [List.length_append] at hk
        have e1 : [x.1].length = 1 := rfl
        exact bc.xp p (ih ms p (by omega) h1) List.not_mem_nil x h2
  exact fun ns u h => b.ne u (key _ ns u rfl h)
theorem bfs_ok {G : α → List (μ × α)} {e : α → Bool} {s : α} {U : List α} (hU : ∀ t ∈ U, ∀ x ∈ G t, x.2 ∈ U) : ∀ (n d : Nat) (c : Cm α μ) (lv : List α), BS G e s c → (∀ t ∈ lv, Dp c d t) → BC G s d c lv → (∀ t ∈ kys c, t ∈ U) → U.length + 2 ≤ n + c.length →
    (∃ c' b, bfs G e n c lv = some (c', b) ∧ e b = true ∧ Wk G s (mkTo c'.length c' b) b ∧ ∀ ns u, Wk G s ns u → ns.length < (mkTo c'.length c' b).length → e u = false) ∨
    (bfs G e n c lv = none ∧ ∀ ns u, Wk G s ns u → e u = false)
  | 0, d, c, lv, b, _, _, hc, hn => by
    have := nodup_len b.wf.nd hc
    rw [List.length_map] at this
    omega
  | n + 1, d, c, lv, b, hl, bc, hc, hn => by
    unfold bfs
    split
    · rename_i h0
      subst h0
      exact .inr ⟨rfl, bc_done b bc⟩
    · rename_i h0
      rcases lvB_ok lv c [] b hl (fun _ h => nomatch h) with ⟨c', q, h1, h2, h3, h4⟩ | ⟨c', f', h1, h2, h3, h4, h5, h6, _, h9⟩
      · rw [h1]
        refine .inl ⟨c', q, rfl, h2, h3, fun ns u hw hlt => ?_⟩
        exact b.ne u (bc.cm ns u hw (by omega))
      · rw [h1]
        have e0 : ([] : List α).length = 0 := rfl
        by_cases hf : f' = []
        · subst hf
          have e1 : c'.length = c.length := by omega
          cases n with
          | zero =>
            have := nodup_len b.wf.nd hc
            rw [List.length_map] at this
            omega
          | succ n =>
            have bc' : BC G s (d + 1) c' [] := ⟨fun ns u hw hle => ?_, fun t ht _ x hx => ?_⟩
            · exact .inr ⟨rfl, bc_done h2 bc'⟩
            · rcases wk_cases hw with ⟨rfl, rfl⟩ | ⟨ms, p, y, k1, k2, rfl, rfl⟩
              · exact h5 _ (bc.cm [] _ .nil (Nat.zero_le _))
              · rw [List.length_append] at hle
                have e1 : [y.1].length = 1 := rfl
                have hp := bc.cm ms p k1 (by omega)
                by_cases hpl : p ∈ lv
                · exact h4 p hpl y k2
                · exact h5 _ (bc.xp p hp hpl y k2)
            · have ht' : t ∈ kys c := (h6 t ht).elim id fun z => nomatch z
              by_cases htl : t ∈ lv
              · exact h4 t htl x hx
              · exact h5 _ (bc.xp t ht' htl x hx)
        · have hfl := List.length_pos_iff.mpr hf
          have bc' : BC G s (d + 1) c' f' := ⟨fun ns u hw hle => ?_, fun t ht htf x hx => ?_⟩
          · refine bfs_ok hU n (d + 1) c' f' h2 h3 bc' (fun t ht => ?_) (by omega)
            rcases h6 t ht with h | h
            · exact hc t h
            · have hw := h2.wk
              obtain ⟨i, o, hi, _⟩ := h3 t h
              have : ∀ ns u, Wk G s ns u → u ∈ U := by
                intro ns u hw
                induction hw with
                | nil => exact hc s (bc.cm [] s .nil (Nat.zero_le _))
                | snoc _ hx ih => exact hU _ ih _ hx
              exact this _ _ (h2.wk i t o hi)
          · rcases wk_cases hw with ⟨rfl, rfl⟩ | ⟨ms, p, y, k1, k2, rfl, rfl⟩
            · exact h5 _ (bc.cm [] _ .nil (Nat.zero_le _))
            · rw [List.length_append] at hle
              have e1 : [y.1].length = 1 := rfl
              have hp := bc.cm ms p k1 (by omega)
              by_cases hpl : p ∈ lv
              · exact h4 p hpl y k2
              · exact h5 _ (bc.xp p hp hpl y k2)
          · rcases h6 t ht with h | h
            · by_cases htl : t ∈ lv
              · exact h4 t htl x hx
              · exact h5 _ (bc.xp t h htl x hx)
            · exact absurd h htf
/-- the way is a shortest one to an end; without one, no walk ends -/
theorem short_ok {G : α → List (μ × α)} {e : α → Bool} {s : α} {U : List α} (hs : s ∈ U) (hU : ∀ t ∈ U, ∀ x ∈ G t, x.2 ∈ U) {N : Nat} (hN : U.length + 1 ≤ N) :
    (∃ ms t, shortW G e N s = some ms ∧ Wk G s ms t ∧ e t = true ∧ ∀ ns u, Wk G s ns u → ns.length < ms.length → e u = false) ∨ (shortW G e N s = none ∧ ∀ ns u, Wk G s ns u → e u = false) := by
  unfold shortW
  split
  · rename_i he
    exact .inl ⟨[], s, rfl, .nil, he, fun ns u _ h => absurd h (Nat.not_lt_zero _)⟩
  · rename_i he
    have he := Bool.eq_false_iff.mpr he
    have b0 : BS G e s ([(s, none)] : Cm α μ) := ⟨Wf.start s, fun t ht => by rw [List.mem_singleton.mp ht]; exact he, fun i t o h => by
      match i, h with
      | 0, h =>
        cases h
        have : mkTo 1 ([(s, none)] : Cm α μ) s = [] := by
          unfold mkTo
          rw [get_pos (r := (s, none)) rfl]
        rw [this]
        exact .nil
      | i + 1, h => cases h⟩
    have d0 : ∀ t ∈ [s], Dp ([(s, none)] : Cm α μ) 0 t := fun t ht => by
      rw [List.mem_singleton.mp ht]
      refine ⟨0, none, rfl, ?_⟩
      unfold mkTo
      rw [get_pos (r := (s, none)) rfl]
      rfl
    have c0 : BC G s 0 ([(s, none)] : Cm α μ) [s] := ⟨fun ns u h hl => by
      rcases wk_cases h with ⟨_, rfl⟩ | ⟨ms, p, x, _, _, rfl, _⟩
      · exact List.mem_cons_self
      · rw [List.length_append] at hl
        have e1 : [x.1].length = 1 := rfl
        omega, fun t ht hn => absurd ht hn⟩
    rcases bfs_ok hU N 0 _ _ b0 d0 c0 (fun t ht => by rw [List.mem_singleton.mp ht]; exact hs) (by show U.length + 2 ≤ N + 1; omega) with ⟨c', q, h1, h2, h3, h4⟩ | ⟨h1, h2⟩
    · rw [h1]
      exact .inl ⟨_, q, rfl, h3, h2, h4⟩
    · rw [h1]
      exact .inr ⟨rfl, h2⟩
end
end Bw

set_option Elab.async false
set_option linter.all false
set_option maxRecDepth 100000
set_option maxHeartbeats 2000000
/-! unseen: the first way -/
namespace Own
open PySem PySem.Spec PyProof.Rows L2 ND
def spBeginOf (CN CL : Addr) : Sp := fun vs H Q _ => ∃ (p dx lf dl : Addr) (fs : List (Str × V)) (c kn : Addr) (st : List Bool), vs = [.ref p, .ref lf] ∧ H p = some (.ins CN dx fs) ∧ fs.lookup ("begin" : Str) = some (.int ((0 : Nat) : Int)) ∧ H lf = some (.ins CL dl (lfF c kn st)) ∧
  ∀ H' t, Same H H' → H t = none → H' t = some (.tup [.int ((0 : Nat) : Int), .str (lfT (st.length, st)), .str (lfT (st.length, st))]) → Q (.ref t) H'
def st0S (A : NPar) (st : List Bool) : PSt := (plc0 A.hw, (st.length, st), (st.length, st))
def spFirstWay (K : PySem.W.Frag) (T : List NdefX.NTab) (CRule CC : Addr) : Sp := fun vs H Q _ => ∃ (rp c kl : Addr) (o : Bool) (A : NPar) (poly st : List Bool) (UP : List Plc) (LU : List Lft), vs = [.ref rp, .ref c, .ref kl, .int (A.most : Nat), .str A.hw.str] ∧ RlAt CRule H rp A.flag A.ps ∧ RlU A.flag A.ps ∧ CkAt CC H c poly st ∧ Chk poly st ∧
  SqK K o H kl (kdV A.ks) ∧ A.ks.length ≤ 3 ∧ UOk A poly st UP LU ∧ NdefX.TabsN T H ∧ ∀ H' r, Tk T H H' → RwAt H H' r (wayM A poly st.length (st0S A st)) → Q r H'
/-- the least number of bits of data, as the program tells it -/
def firstU (A : NPar) (poly st : List Bool) : V := match wayM A poly st.length (st0S A st) with
  | none => .non
  | some ms => .int (((ms.length : Nat) : Int) - ((st.length : Nat) : Int))
def spFirstU (K : PySem.W.Frag) (T : List NdefX.NTab) (CRule CC : Addr) : Sp := fun vs H Q _ => ∃ (rp c kl : Addr) (o : Bool) (A : NPar) (poly st : List Bool) (UP : List Plc) (LU : List Lft), vs = [.ref rp, .ref c, .ref kl, .int (A.most : Nat), .str A.hw.str] ∧ RlAt CRule H rp A.flag A.ps ∧ RlU A.flag A.ps ∧ CkAt CC H c poly st ∧ Chk poly st ∧
  SqK K o H kl (kdV A.ks) ∧ A.ks.length ≤ 3 ∧ UOk A poly st UP LU ∧ NdefX.TabsN T H ∧ ∀ H', Tk T H H' → (∀ ms, wayM A poly st.length (st0S A st) = some ms → ms.length < sizeLine) → Q (firstU A poly st) H'
end Own

set_option Elab.async false
set_option linter.all false
set_option maxRecDepth 100000
set_option maxHeartbeats 2000000
/-! a code object is no dict -/
namespace Own
open PySem PySem.Spec PyProof.Rows L2 ND
def hpN : Nat → Heap
  | 0 => { objs := #[] }
  | n + 1 => (hpN n).push { cls := .none, data := .fields #[] }
theorem hpN_size : ∀ n, (hpN n).objs.size = n
  | 0 => rfl
  | n + 1 => by
    show ((hpN n).push _).objs.size = _
    rw [Heap.size_push, hpN_size n]
theorem code_ne_nd {P : Program} {w : World} {c : Addr} {q : Str} {kvs : List NEnt} : LamX.CodeO c q ≠ NdO P w c kvs := fun z => by
  unfold LamX.CodeO NdO at z
  injection z with z
  have h1 := congrFun z ((hpN c).push { cls := .none, data := .fields #[.none, .str q 0] })
  have hg : ((hpN c).push { cls := .none, data := .fields #[.none, .str q 0] }).get? c = some { cls := .none, data := .fields #[.none, .str q 0] } := by
    have := Heap.get?_push_size (hpN c) (o := { cls := .none, data := .fields #[.none, .str q 0] }) rfl
    rw [hpN_size] at this
    exact this
  have h2 := h1.mp ⟨_, _, 0, hg, rfl, rfl⟩
  obtain ⟨_, _, xs, _, o, es, ep, e1, e2, e3, _⟩ := h2
  rw [hg] at e1
  cases e1
  cases e3
end Own

set_option Elab.async false
set_option linter.all false
set_option maxRecDepth 100000
set_option maxHeartbeats 2000000
/-! unseen: universes -/
namespace Own
open PySem PySem.Spec PyProof.Rows L2 ND
/-- the places of a net -/
structure UPok (A : NPar) (UP : List Plc) : Prop where
  p0 : plc0 A.hw ∈ UP
  pk : ∀ x ∈ UP, PlcOk A.flag A.ps x
  ps : ∀ x ∈ UP, ∀ r ∈ stepsX A x, r.1.1 ∈ UP ∧ r.1.2.2.length ≤ 10
/-- all that can be left -/
def wordsOfL : Nat → List (List Bool)
  | 0 => [[]]
  | n + 1 => (wordsOfL n).flatMap fun u => [false :: u, true :: u]
theorem wordsOfL_mem : ∀ (u : List Bool), u ∈ wordsOfL u.length
  | [] => List.mem_cons_self
  | b :: u => by
    refine List.mem_flatMap.mpr ⟨u, wordsOfL_mem u, ?_⟩
    cases b
    · exact List.mem_cons_self
    · exact List.mem_cons_of_mem _ List.mem_cons_self
theorem wordsOfL_len : ∀ (n : Nat) (u : List Bool), u ∈ wordsOfL n → u.length = n
  | 0, u, h => by rw [List.mem_singleton.mp h]; rfl
  | n + 1, u, h => by
    obtain ⟨v, hv, h2⟩ := List.mem_flatMap.mp h
    have := wordsOfL_len n v hv
    rcases List.mem_cons.mp h2 with e | h2
    · rw [e, List.length_cons, this]
    · rw [List.mem_singleton.mp h2, List.length_cons, this]
def leftsL (n : Nat) : List Lft := (List.range (n + 1)).flatMap fun m => (wordsOfL n).map fun u => (m, u)
theorem leftsL_mem {n m : Nat} {u : List Bool} : (m, u) ∈ leftsL n ↔ m ≤ n ∧ u.length = n := by
  unfold leftsL
  constructor
  · intro h
    obtain ⟨a, ha, h2⟩ := List.mem_flatMap.mp h
    obtain ⟨v, hv, e⟩ := List.mem_map.mp h2
    obtain ⟨rfl, rfl⟩ := Prod.mk.inj e
    exact ⟨by have := List.mem_range.mp ha; omega, wordsOfL_len n _ hv⟩
  · rintro ⟨h1, h2⟩
    subst h2
    exact List.mem_flatMap.mpr ⟨m, List.mem_range.mpr (by omega), List.mem_map.mpr ⟨u, wordsOfL_mem u, rfl⟩⟩
/-! ### by computing -/
end Own

set_option Elab.async false
set_option linter.all false
set_option maxRecDepth 100000
set_option maxHeartbeats 4000000
/-! set(t), t a tuple of texts -/
namespace SetT
open PySem PySem.Spec PyProof.Rows L2
section
variable {P : Program} {w : World} {A : Around} {E : Value → Shared → Prop} {z : Shared}
set_option maxHeartbeats 8000000 in
end
section
variable {X : Cx}
end
end SetT

set_option Elab.async false
set_option linter.all false
set_option maxRecDepth 100000
set_option maxHeartbeats 4000000
/-! behind any line at all, bits are put in a few times only -/
namespace Own
open PySem PySem.Spec PyProof.Rows L2
/-- bits are put in n times at most -/
def fewP (ps : List Stf) : Nat → List Bool → Bool
  | 0, u => (putL ps u).isNone
  | n + 1, u => match putL ps u with
    | none => true
    | some b => fewP ps n (u ++ [b])
def extsL : Nat → List (List Bool)
  | 0 => [[]]
  | 1 => [[], [false], [true]]
  | 2 => [[], [false], [true], [false, false], [false, true], [true, false], [true, true]]
  | _ => [[], [false], [true], [false, false], [false, true], [true, false], [true, true], [false, false, false], [false, false, true], [false, true, false], [false, true, true], [true, false, false], [true, false, true], [true, true, false], [true, true, true]]
def tame5 (ps : List Stf) : Bool := (ps.all fun p => (extsL (4 - p.1.length)).all fun x => fewP ps 4 (x ++ p.1)) || !(partedB (ps.map (·.1))) || !endsAll ps
theorem mem_exts {x : List Bool} {n : Nat} (h : x.length ≤ n) (h3 : x.length ≤ 3) : x ∈ extsL n := by
  match x, h, h3 with
  | [], _, _ => match n with
    | 0 | 1 | 2 | n + 3 => simp [extsL]
  | [a], h, _ => match n, h with
    | 1, _ | 2, _ | n + 3, _ => cases a <;> simp [extsL]
  | [a, b], h, _ => match n, h with
    | 2, _ | n + 3, _ => cases a <;> cases b <;> simp [extsL]
  | [a, b, c], h, _ => match n, h with
    | n + 3, _ => cases a <;> cases b <;> cases c <;> simp [extsL]
  | _ :: _ :: _ :: _ :: _, _, h3 => simp at h3
theorem few_puts {ps : List Stf} : ∀ {n : Nat} {u : List Bool}, fewP ps n u = true → putL ps (putsN ps n u) = none
  | 0, u, h => Option.isNone_iff_eq_none.mp h
  | n + 1, u, h => by
    unfold fewP at h
    cases e : putL ps u with
    | none =>
      rw [puts_none e]
      exact e
    | some b =>
      rw [e] at h
      show putL ps (putsN ps n (match putL ps u with | some b => u ++ [b] | none => u)) = none
      rw [e]
      exact few_puts h
theorem tame_0 : tame5 [] = true := by decide +kernel
theorem tame_1 : (small.map fun x => [x]).all tame5 = true := by decide +kernel
theorem tr_0 : ((List.range 5).all fun j => (rowAt (0 + j)).all tame5) = true := by decide +kernel
theorem tr_1 : ((List.range 5).all fun j => (rowAt (5 + j)).all tame5) = true := by decide +kernel
theorem tr_2 : ((List.range 5).all fun j => (rowAt (10 + j)).all tame5) = true := by decide +kernel
theorem tr_3 : ((List.range 5).all fun j => (rowAt (15 + j)).all tame5) = true := by decide +kernel
theorem tr_4 : ((List.range 5).all fun j => (rowAt (20 + j)).all tame5) = true := by decide +kernel
theorem tr_5 : ((List.range 5).all fun j => (rowAt (25 + j)).all tame5) = true := by decide +kernel
theorem tr_6 : ((List.range 5).all fun j => (rowAt (30 + j)).all tame5) = true := by decide +kernel
theorem tr_7 : ((List.range 5).all fun j => (rowAt (35 + j)).all tame5) = true := by decide +kernel
theorem tr_8 : ((List.range 5).all fun j => (rowAt (40 + j)).all tame5) = true := by decide +kernel
theorem tr_9 : ((List.range 5).all fun j => (rowAt (45 + j)).all tame5) = true := by decide +kernel
theorem tr_10 : ((List.range 5).all fun j => (rowAt (50 + j)).all tame5) = true := by decide +kernel
theorem tr_11 : ((List.range 5).all fun j => (rowAt (55 + j)).all tame5) = true := by decide +kernel
theorem tr_all : ∀ i, i < 12 → ((List.range 5).all fun j => (rowAt (5 * i + j)).all tame5) = true
  | 0, _ => tr_0
  | 1, _ => tr_1
  | 2, _ => tr_2
  | 3, _ => tr_3
  | 4, _ => tr_4
  | 5, _ => tr_5
  | 6, _ => tr_6
  | 7, _ => tr_7
  | 8, _ => tr_8
  | 9, _ => tr_9
  | 10, _ => tr_10
  | 11, _ => tr_11
  | _ + 12, h => absurd h (by omega)
theorem all_tame {ps : List Stf} (hl : ps.length ≤ 2) (h : ∀ p ∈ ps, p.1 ≠ [] ∧ p.1.length ≤ 4) : tame5 ps = true := by
  match ps, hl, h with
  | [], _, _ => exact tame_0
  | [x], _, h =>
    have := mem_small (h x List.mem_cons_self).1 (h x List.mem_cons_self).2
    exact List.all_eq_true.mp tame_1 _ (List.mem_map.mpr ⟨x, this, rfl⟩)
  | [x, y], _, h =>
    have hx := mem_small (h x List.mem_cons_self).1 (h x List.mem_cons_self).2
    have hy := mem_small (h y (List.mem_cons_of_mem _ List.mem_cons_self)).1 (h y (List.mem_cons_of_mem _ List.mem_cons_self)).2
    obtain ⟨i, hi⟩ := List.getElem?_of_mem hx
    have hlt : i < 60 := by rw [← small_len]; exact (List.getElem?_eq_some_iff.mp hi).1
    have e : 5 * (i / 5) + i % 5 = i := Nat.div_add_mod i 5
    have r := List.all_eq_true.mp (tr_all (i / 5) (by omega)) (i % 5) (List.mem_range.mpr (by omega))
    rw [e] at r
    refine List.all_eq_true.mp r _ (List.mem_map.mpr ⟨y, hy, ?_⟩)
    rw [List.getD_eq_getElem?_getD, hi]
    rfl
  | _ :: _ :: _ :: _, hl, _ => exact absurd hl (by simp)
/-- behind any line bits are put in at most 24 times -/
def Tame (ps : List Stf) : Prop := ∀ u, putL ps (putsN ps 24 u) = none
section
variable {ps : List Stf}
theorem last4_app {x v : List Bool} (hv : 4 ≤ v.length) : last4 (x ++ v) = last4 v := by
  unfold last4
  rw [List.length_append, List.drop_append, List.drop_of_length_le (by omega), List.nil_append]
  congr 1
  omega
theorem stepP_app (h4 : ∀ p ∈ ps, p.1.length ≤ 4) {x v : List Bool} (hv : 4 ≤ v.length) : stepP ps (x ++ v) = x ++ stepP ps v := by
  unfold stepP
  rw [← putL_last4 h4 (x ++ v), last4_app hv, putL_last4 h4 v]
  cases putL ps v with
  | none => rfl
  | some b => exact List.append_assoc _ _ _
theorem putsN_ge (ps : List Stf) (n : Nat) (u : List Bool) : u.length ≤ (putsN ps n u).length := (puts_pre ps u n).length_le
theorem putsN_app (h4 : ∀ p ∈ ps, p.1.length ≤ 4) {x v : List Bool} (hv : 4 ≤ v.length) : ∀ n, putsN ps n (x ++ v) = x ++ putsN ps n v
  | 0 => rfl
  | n + 1 => by
    rw [putsN_succ, putsN_succ, putsN_app h4 hv n, stepP_app h4 (Nat.le_trans hv (putsN_ge ps n v))]
theorem putsN_more {n : Nat} {u : List Bool} (h : putL ps (putsN ps n u) = none) : ∀ m, putsN ps (n + m) u = putsN ps n u
  | 0 => rfl
  | m + 1 => by
    rw [show n + (m + 1) = (n + m) + 1 from rfl, putsN_succ, putsN_more h m]
    unfold stepP
    rw [h]
theorem tame_4 (hl : ps.length ≤ 2) (h : ∀ p ∈ ps, p.1 ≠ [] ∧ p.1.length ≤ 4) (hp : partedB (ps.map (·.1)) = true) (he : endsAll ps = true) (u : List Bool) : putL ps (putsN ps 4 u) = none := by
  have h4 : ∀ p ∈ ps, p.1.length ≤ 4 := fun p hp => (h p hp).2
  have t := all_tame hl h
  unfold tame5 at t
  rw [he, hp, Bool.not_true, Bool.or_false, Bool.or_false] at t
  have t5 : ∀ v : List Bool, v.length ≤ 4 → putL ps (putsN ps 4 v) = none := fun v hv => by
    cases e : putL ps v with
    | none =>
      rw [puts_none e]
      exact e
    | some b =>
      unfold putL at e
      obtain ⟨p, hp, _⟩ := Option.map_eq_some_iff.mp e
      have hm := List.mem_of_find?_eq_some hp
      have hs : decide (p.1 <:+ v) = true := List.find?_some (p := fun q : Stf => decide (q.1 <:+ v)) hp
      obtain ⟨x, hx⟩ : p.1 <:+ v := of_decide_eq_true hs
      have hl := congrArg List.length hx
      rw [List.length_append] at hl
      have h0 := List.length_pos_iff.mpr (h p hm).1
      have r := List.all_eq_true.mp (List.all_eq_true.mp t p hm) x (mem_exts (by omega) (by omega))
      rw [hx] at r
      exact few_puts r
  have key : putL ps (putsN ps 4 u) = none := by
    by_cases hu : u.length ≤ 4
    · exact t5 u hu
    · have e : u = u.take (u.length - 4) ++ last4 u := (List.take_append_drop _ _).symm
      have l4 : (last4 u).length = 4 := last4_full (by omega)
      rw [e, putsN_app h4 (by omega), ← putL_last4 h4, last4_app (Nat.le_trans (by omega) (putsN_ge ps 4 (last4 u))), putL_last4 h4]
      exact t5 _ (by omega)
  exact key
theorem tame_of (hl : ps.length ≤ 2) (h : ∀ p ∈ ps, p.1 ≠ [] ∧ p.1.length ≤ 4) (hp : partedB (ps.map (·.1)) = true) (he : endsAll ps = true) : Tame ps := fun u => by
  have key := tame_4 hl h hp he u
  rw [show (24 : Nat) = 4 + 20 from rfl, putsN_more key]
  exact key
end
end Own

set_option Elab.async false
set_option linter.all false
set_option maxRecDepth 100000
set_option maxHeartbeats 2000000
/-! pairs of words that may be no stuffs, and rules that are refused -/
namespace Own
open PySem PySem.Spec PyProof.Rows L2
section
variable {P : Program} {w : World} {K : PySem.W.Frag} {mg : Str → Option Value} {base : Heap}
end
/-! ### what is written -/
end Own
namespace Own
open PySem PySem.Spec PyProof.Rows L2
end Own
namespace Own
open PySem PySem.Spec PyProof.Rows L2
end Own


set_option Elab.async false
set_option linter.all false
set_option maxRecDepth 100000
set_option maxHeartbeats 4000000
/-! isinstance of a caught error that holds things: the class is asked first, whatever its own dict holds -/
namespace Own
open PySem PySem.Spec PySem.Calls PySem.W PyProof.Rows
section
variable {pr : Program} {wd : World} {Ar : Around} {Er : Value → Shared → Prop} {sh : Shared} {K : Frag} {e C : Addr} {oe : Obj} {dd : Option Obj}
end
end Own
namespace Own
open PySem PySem.Spec PyProof.Rows L2
end Own

set_option Elab.async false
set_option linter.all false
set_option maxRecDepth 100000
set_option maxHeartbeats 2000000
/-! any values -/
namespace Own
open PySem PySem.Spec PyProof.Rows L2
section
variable {K : PySem.W.Frag} {H : Hp}
end
end Own
namespace Own
open PySem PySem.Spec PyProof.Rows L2
end Own
namespace Own
open PySem PySem.Spec PyProof.Rows L2
end Own
namespace Own
open PySem PySem.Spec PyProof.Rows L2
end Own
namespace Own
open PySem PySem.Spec PyProof.Rows L2
end Own
namespace Own
open PySem PySem.Spec PyProof.Rows L2
section
variable {P : Program} {w : World} {K : PySem.W.Frag} {mg : Str → Option Value} {base : Heap} {f : Addr} {fd : FuncData} {ps : List Str}
end
end Own
namespace Own
open PySem PySem.Spec PyProof.Rows L2
end Own
namespace Own
open PySem PySem.Spec PyProof.Rows L2
section
variable {P : Program} {w : World} {K : PySem.W.Frag} {mg : Str → Option Value} {base : Heap}
end
end Own
namespace Own
open PySem PySem.Spec PyProof.Rows L2
end Own

set_option Elab.async false
set_option linter.all false
set_option maxRecDepth 100000
set_option maxHeartbeats 2000000
/-! walks: all that is reached -/
namespace Own
open PySem PySem.Spec PyProof.Rows L2
section
variable {g : Gs} {R : List Bool → Prop} {F St : List (List Bool)} {s t : List Bool} {j L : Nat}
end
end Own

set_option Elab.async false
set_option linter.all false
set_option maxRecDepth 100000
set_option maxHeartbeats 2000000
/-! clean papers -/
namespace Own
open PySem PySem.Spec PyProof.Rows L2
section
variable {flag : List Bool} {ps : List Stf} {F : List (List Bool)}
end
end Own

namespace Own
open PySem PySem.Spec PyProof.Rows L2
end Own

namespace Own
open PySem PySem.Spec PyProof.Rows L2
end Own

set_option Elab.async false
set_option linter.all false
set_option maxRecDepth 100000
set_option maxHeartbeats 2000000
/-! all is the same with 0 and 1 exchanged -/
namespace Own
open PySem PySem.Spec PyProof.Rows L2
section
variable {flag : List Bool} {ps : List Stf}
end
end Own

set_option Elab.async false
set_option linter.all false
set_option maxRecDepth 100000
set_option maxHeartbeats 2000000
/-! rules that are written down: what is computed of them -/
namespace Own
open PySem PySem.Spec PyProof.Rows L2
section
variable {flag : List Bool} {ps : List Stf}
/-! ### clean by a paper -/
end
/-! ### k30 -/
end Own
namespace Own
open PySem PySem.Spec PyProof.Rows L2
end Own

set_option Elab.async false
set_option linter.all false
set_option maxRecDepth 100000
set_option maxHeartbeats 2000000
/-! unseen: all nets of small rules are finite -/
namespace Own
open PySem PySem.Spec PyProof.Rows L2 ND
/-! ### tails -/
theorem tailL_sub (f : List Bool) (ws : List (List Bool)) : ∀ u : List Bool, tailL ws (tailL (f :: ws) u) = tailL ws u
  | [] => rfl
  | b :: u => by
    show tailL ws (if (f :: ws).any (fun w => decide ((b :: u) <+: w)) = true then b :: u else tailL (f :: ws) u) = _
    split
    · rfl
    · rename_i h
      rw [tailL_sub f ws u]
      show _ = if ws.any (fun w => decide ((b :: u) <+: w)) = true then b :: u else tailL ws u
      rw [if_neg]
      intro z
      apply h
      rw [List.any_cons, z, Bool.or_true]
theorem tailL_snocT (ws : List (List Bool)) (c : Bool) : ∀ u : List Bool, tailL ws (tailL ws u ++ [c]) = tailL ws (u ++ [c])
  | [] => rfl
  | b :: u => by
    show tailL ws ((if ws.any (fun w => decide ((b :: u) <+: w)) = true then b :: u else tailL ws u) ++ [c]) = if ws.any (fun w => decide ((b :: (u ++ [c])) <+: w)) = true then b :: (u ++ [c]) else tailL ws (u ++ [c])
    split
    · rfl
    · rename_i h
      rw [tailL_snocT ws c u]
      refine (if_neg ?_).symm
      intro z
      apply h
      obtain ⟨w, hw, h2⟩ := List.any_eq_true.mp z
      exact List.any_eq_true.mpr ⟨w, hw, decide_eq_true ((List.prefix_append (b :: u) [c]).trans (of_decide_eq_true h2))⟩
theorem suf_tail {ws : List (List Bool)} {p : List Bool} (hp : p ∈ ws) : ∀ u : List Bool, p <:+ u → p <:+ tailL ws u
  | [], h => h
  | b :: u, h => by
    show p <:+ if ws.any (fun w => decide ((b :: u) <+: w)) = true then b :: u else tailL ws u
    split
    · exact h
    · rename_i hn
      rcases List.suffix_cons_iff.mp h with e | h2
      · exact absurd (List.any_eq_true.mpr ⟨p, hp, decide_eq_true (e ▸ List.prefix_refl _)⟩) hn
      · exact suf_tail hp u h2
theorem tail_suf (ws : List (List Bool)) : ∀ u : List Bool, tailL ws u <:+ u
  | [] => List.suffix_refl _
  | b :: u => by
    show (if ws.any (fun w => decide ((b :: u) <+: w)) = true then b :: u else tailL ws u) <:+ _
    split
    · exact List.suffix_refl _
    · exact (tail_suf ws u).trans (List.suffix_cons _ _)
theorem find_same {α : Type} {p q : α → Bool} : ∀ {l : List α}, (∀ x ∈ l, p x = q x) → l.find? p = l.find? q
  | [], _ => rfl
  | x :: l, h => by
    rw [List.find?_cons, List.find?_cons, h x List.mem_cons_self, find_same fun y hy => h y (List.mem_cons_of_mem _ hy)]
theorem putL_tl (ps : List Stf) (u : List Bool) : putL ps (tailL (ps.map (·.1)) u) = putL ps u := by
  unfold putL
  congr 1
  refine find_same fun q hq => ?_
  apply decide_eq_decide.mpr
  exact ⟨fun h => h.trans (tail_suf _ _), fun h => suf_tail (List.mem_map.mpr ⟨q, hq, rfl⟩) u h⟩
/-! ### the receiver by the patterns alone -/
abbrev tlP (ps : List Stf) (u : List Bool) : List Bool := tailL (ps.map (·.1)) u
def hearP (ps : List Stf) (h : List Bool) (c : Bool) : Option (List Bool × Nat) :=
  if putL ps h = some (!c) then none else some (tlP ps (h ++ [c]), if putL ps h = none then 1 else 0)
def trkP (ps : List Stf) : List Bool → List Bool × Nat → Option (List Bool × Nat)
  | [], x => some x
  | c :: u, x => match hearP ps x.1 c with
    | none => none
    | some y => trkP ps u (y.1, x.2 + y.2)
def rawB (ps : List Stf) (s : List Bool) (b : Bool) : List Bool := (lineB ps s b).drop s.length
def dstP (ps : List Stf) (s h : List Bool) (b : Bool) : Option (Nat × List Bool × List Bool) := (trkP ps (rawB ps s b) (h, 0)).map fun x => (x.2, tlP ps (lineB ps s b), x.1)
/-- how far the messages can still part -/
def farP (ps : List Stf) : Nat → List Bool → List Bool → Nat
  | 0, s, h => if s = h then 0 else 1000
  | n + 1, s, h => if s = h then 0 else
    let f := fun b => match dstP ps s h b with
      | none => 0
      | some x => ((x.1 : Int) - 1).natAbs + farP ps n x.2.1 x.2.2
    max (f false) (f true)
def T2 : List (List Bool) := [[], [false], [true], [false, false], [false, true], [true, false], [true, true]]
def smlR (F c r : Nat) (ps : List Stf) : Bool := T2.all fun s => !(putL ps s).isNone ||
  (([false, true].all fun b => (rawB ps s b).length ≤ r && decide (s <+: lineB ps s b)) &&
   T2.all fun h => farP ps F s h ≤ c && [false, true].all fun b => match dstP ps s h b with
    | none => true
    | some x => ((x.1 : Int) - 1).natAbs + farP ps F x.2.1 x.2.2 ≤ farP ps F s h)
def stfs2 : List Stf := ([[false], [true], [false, false], [false, true], [true, false], [true, true]] : List (List Bool)).flatMap fun w => [(w, false), (w, true)]
def okP (ps : List Stf) : Bool := partedB (ps.map (·.1)) && endsAll ps
def all2 : List (List Stf) := [[]] ++ stfs2.map (fun x => [x]) ++ stfs2.flatMap fun x => stfs2.map fun y => [x, y]
theorem small2_ok : (all2.all fun ps => !(okP ps) || smlR 4 2 3 ps) = true := by decide +kernel
/-- a rule that is small enough for a universe -/
structure Sml (flag : List Bool) (ps : List Stf) : Prop where
  few : ps.length ≤ 2
  lens : ∀ p ∈ ps, p.1 ≠ [] ∧ p.1.length ≤ 2
  parted : partedB (ps.map (·.1)) = true
  ends : endsAll ps = true
  ne : flag ≠ []
  f5 : flag.length ≤ 5
theorem mem_T2 : ∀ {u : List Bool}, u.length ≤ 2 → u ∈ T2
  | [], _ => by decide
  | [a], _ => by cases a <;> decide
  | [a, b], _ => by cases a <;> cases b <;> decide
  | _ :: _ :: _ :: _, h => absurd h (by simp)
theorem mem_stfs2 {p : Stf} (h : p.1 ≠ [] ∧ p.1.length ≤ 2) : p ∈ stfs2 := by
  obtain ⟨w, b⟩ := p
  have hw : w ∈ T2 := mem_T2 h.2
  have h0 : w ≠ [] := h.1
  unfold T2 at hw
  simp only [List.mem_cons, List.not_mem_nil, or_false] at hw
  rcases hw with rfl | rfl | rfl | rfl | rfl | rfl | rfl
  · exact absurd rfl h0
  all_goals cases b <;> decide
theorem mem_all2 {ps : List Stf} (hl : ps.length ≤ 2) (h : ∀ p ∈ ps, p.1 ≠ [] ∧ p.1.length ≤ 2) : ps ∈ all2 := by
  unfold all2
  match ps, hl, h with
  | [], _, _ => exact List.mem_append_left _ (List.mem_append_left _ List.mem_cons_self)
  | [x], _, h => exact List.mem_append_left _ (List.mem_append_right _ (List.mem_map.mpr ⟨x, mem_stfs2 (h x List.mem_cons_self), rfl⟩))
  | [x, y], _, h => exact List.mem_append_right _ (List.mem_flatMap.mpr ⟨x, mem_stfs2 (h x List.mem_cons_self), List.mem_map.mpr ⟨y, mem_stfs2 (h y (List.mem_cons_of_mem _ List.mem_cons_self)), rfl⟩⟩)
  | _ :: _ :: _ :: _, hl, _ => exact absurd hl (by simp)
abbrev farD (ps : List Stf) (s h : List Bool) : Nat := farP ps 4 s h
section
variable {flag : List Bool} {ps : List Stf}
theorem Sml.tab (k : Sml flag ps) : smlR 4 2 3 ps = true := by
  have h := List.all_eq_true.mp small2_ok ps (mem_all2 k.few k.lens)
  unfold okP at h
  rw [k.parted, k.ends, Bool.and_self, Bool.not_true, Bool.false_or] at h
  exact h
theorem Sml.line (k : Sml flag ps) {s : List Bool} (hs : s.length ≤ 2) (hp : putL ps s = none) (b : Bool) : (rawB ps s b).length ≤ 3 := by
  have h := List.all_eq_true.mp k.tab s (mem_T2 hs)
  rw [hp, Option.isNone_none, Bool.not_true, Bool.false_or, Bool.and_eq_true] at h
  have h1 := List.all_eq_true.mp h.1 b (by cases b <;> decide)
  rw [Bool.and_eq_true] at h1
  exact of_decide_eq_true h1.1
theorem Sml.far (k : Sml flag ps) {s h : List Bool} (hs : s.length ≤ 2) (hp : putL ps s = none) (hh : h.length ≤ 2) : farD ps s h ≤ 2 := by
  have t := List.all_eq_true.mp k.tab s (mem_T2 hs)
  rw [hp, Option.isNone_none, Bool.not_true, Bool.false_or, Bool.and_eq_true] at t
  have h1 := List.all_eq_true.mp t.2 h (mem_T2 hh)
  rw [Bool.and_eq_true] at h1
  exact of_decide_eq_true h1.1
theorem Sml.step (k : Sml flag ps) {s h : List Bool} (hs : s.length ≤ 2) (hp : putL ps s = none) (hh : h.length ≤ 2) {b : Bool} {x : Nat × List Bool × List Bool} (e : dstP ps s h b = some x) : ((x.1 : Int) - 1).natAbs + farD ps x.2.1 x.2.2 ≤ farD ps s h := by
  have t := List.all_eq_true.mp k.tab s (mem_T2 hs)
  rw [hp, Option.isNone_none, Bool.not_true, Bool.false_or, Bool.and_eq_true] at t
  have h1 := List.all_eq_true.mp t.2 h (mem_T2 hh)
  rw [Bool.and_eq_true] at h1
  have h2 := List.all_eq_true.mp h1.2 b (by cases b <;> decide)
  rw [e] at h2
  exact of_decide_eq_true h2
theorem Sml.tlen (k : Sml flag ps) (u : List Bool) : (tlP ps u).length ≤ 2 := by
  rcases tailL_pre (ps.map (·.1)) u with e | ⟨w, hw, hp⟩
  · show (tailL _ _).length ≤ 2
    rw [e]
    exact Nat.zero_le _
  · obtain ⟨p, hp2, rfl⟩ := List.mem_map.mp hw
    exact Nat.le_trans hp.length_le (k.lens p hp2).2
theorem Sml.hlen (k : Sml flag ps) (u : List Bool) : (tailL (flag :: ps.map (·.1)) u).length ≤ 5 := by
  rcases tailL_pre (flag :: ps.map (·.1)) u with e | ⟨w, hw, hp⟩
  · rw [e]
    exact Nat.zero_le _
  · refine Nat.le_trans hp.length_le ?_
    rcases List.mem_cons.mp hw with rfl | hw
    · exact k.f5
    · obtain ⟨p, hp2, rfl⟩ := List.mem_map.mp hw
      exact Nat.le_trans (k.lens p hp2).2 (by decide)
theorem Sml.tame (k : Sml flag ps) : Tame ps := tame_of k.few (fun p hp => ⟨(k.lens p hp).1, Nat.le_trans (k.lens p hp).2 (by decide)⟩) k.parted k.ends
/-! ### ears -/
/-- the gap is given up -/
def Rst (hw : How) (g : Gp) : Prop := hw.keep = false ∧ g = (0, none)
theorem settled_or (hw : How) (g : Gp) (c : Nat) : settledG hw g c = g ∨ Rst hw (settledG hw g c) := by
  unfold settledG
  cases e : hw.keep with
  | true => exact .inl (if_pos rfl)
  | false =>
    rw [if_neg (by decide)]
    split
    · exact .inr ⟨e, rfl⟩
    · exact .inl rfl
theorem rst_move {hw : How} {g : Gp} {y : Int} {b : Bool} {c : Nat} (h : Rst hw g) : Rst hw (settledG hw (movedG g y b) c) := by
  obtain ⟨h1, rfl⟩ := h
  refine ⟨h1, ?_⟩
  unfold settledG
  rw [h1, if_neg (by decide)]
  exact if_pos (.inl rfl)
/-- nothing waits: nothing is told of the width, where it is not kept -/
def Zr (hw : How) (g : Gp) : Prop := hw.keep = false → g.2 = none → g.1 = 0
theorem zr_settle (hw : How) (g : Gp) (c : Nat) : Zr hw (settledG hw g c) := by
  intro h1 h2
  unfold settledG at h2 ⊢
  rw [h1, if_neg (by decide)] at h2 ⊢
  split
  · rfl
  · rename_i h3
    rw [if_neg h3] at h2
    exact absurd (.inl h2) h3
structure EI (hw : How) (flag : List Bool) (S n : Nat) (e : Ear) : Prop where
  hl : e.1.length ≤ 5
  cut : e.2.1 ≤ flag.length
  gw : GpW e.2.2.1
  zr : Zr hw e.2.2.1
  rd : e.2.2.2.length ≤ n
  bd : Rst hw e.2.2.1 ∨ (-(S + 1 : Int) ≤ e.2.2.1.1 ∧ e.2.2.1.1 ≤ (S : Int) - 1 + n)
  ct : 0 < e.2.1 → hw.keep = false ∧ e.1 = [] ∧ 0 ≤ e.2.2.1.1
theorem EI.mono {hw : How} {S n m : Nat} {e : Ear} (h : EI hw flag S n e) (hm : n ≤ m) : EI hw flag S m e :=
  ⟨h.hl, h.cut, h.gw, h.zr, Nat.le_trans h.rd hm, h.bd.imp id fun ⟨a, b⟩ => ⟨a, by omega⟩, h.ct⟩
theorem cuts_keep {hw : How} (h : hw.cuts = true) : hw.keep = false := by
  cases hw <;> first | rfl | cases h
theorem ei_new {hw : How} {S n : Nat} {g : Gp} {b : Bool} (gw : GpW g) (bd : Rst hw g ∨ (-(S + 1 : Int) ≤ g.1 ∧ g.1 ≤ (S : Int) - 1 + n)) :
    GpW (settledG hw (movedG g 1 b) 0) ∧ Zr hw (settledG hw (movedG g 1 b) 0) ∧ (Rst hw (settledG hw (movedG g 1 b) 0) ∨ (-(S + 1 : Int) ≤ (settledG hw (movedG g 1 b) 0).1 ∧ (settledG hw (movedG g 1 b) 0).1 ≤ (S : Int) - 1 + (n + 1 : Nat))) := by
  refine ⟨settled_w (moved_w (.inl rfl) gw), zr_settle _ _ _, ?_⟩
  rcases bd with h | ⟨h1, h2⟩
  · exact .inl (rst_move h)
  · rcases settled_or hw (movedG g 1 b) 0 with e | e
    · right
      rw [e]
      show -(S + 1 : Int) ≤ g.1 + 1 ∧ g.1 + 1 ≤ _
      constructor <;> omega
    · exact .inl e
theorem Sml.ei {hw : How} (k : Sml flag ps) {S n : Nat} {e e' : Ear} {b : Bool} (h : EI hw flag S n e) (he : e' ∈ earsB hw flag ps e b) : EI hw flag S (n + 1) e' := by
  unfold earsB at he
  split at he
  · rw [List.mem_singleton.mp he]
    exact h.mono (Nat.le_succ n)
  · rename_i hc
    split at he
    · rename_i hc0
      split at he
      · rw [List.mem_singleton.mp he]
        exact ⟨h.hl, by have := h.cut; show e.2.1 + 1 ≤ _; omega, h.gw, h.zr, Nat.le_succ_of_le h.rd, (h.mono (Nat.le_succ n)).bd, fun _ => h.ct hc0⟩
      · cases he
    · rcases List.mem_append.mp he with he | he
      · unfold earsH at he
        cases eh : hearB flag ps (e.1, []) b with
        | none =>
          rw [eh] at he
          cases he
        | some x =>
          rw [eh] at he
          rw [List.mem_singleton.mp he]
          have hx1 : x.1.length ≤ 5 := by
            unfold hearB at eh
            split at eh
            · cases eh
            · split at eh
              · cases eh
              · cases eh
                exact k.hlen _
          rcases hear_new eh with z | z
          · rw [z]
            refine ⟨hx1, Nat.zero_le _, h.gw, h.zr, ?_, (h.mono (Nat.le_succ n)).bd, fun c => absurd c (Nat.lt_irrefl 0)⟩
            show (e.2.2.2 ++ []).length ≤ _
            rw [List.append_nil]
            exact Nat.le_succ_of_le h.rd
          · rw [z]
            obtain ⟨g1, g2, g3⟩ := ei_new (b := b) h.gw h.bd
            refine ⟨hx1, Nat.zero_le _, g1, g2, ?_, g3, fun c => absurd c (Nat.lt_irrefl 0)⟩
            show (e.2.2.2 ++ [b]).length ≤ _
            rw [List.length_append]
            exact Nat.succ_le_succ h.rd
      · unfold earsC at he
        split at he
        · rename_i hk
          rw [List.mem_singleton.mp he]
          have hkp := cuts_keep hk.1
          refine ⟨Nat.zero_le _, List.length_pos_iff.mpr k.ne, settled_w h.gw, zr_settle _ _ _, Nat.le_succ_of_le h.rd, ?_, fun _ => ⟨hkp, rfl, ?_⟩⟩
          · rcases settled_or hw e.2.2.1 1 with z | z
            · show Rst hw (settledG hw e.2.2.1 1) ∨ _ ≤ (settledG hw e.2.2.1 1).1 ∧ (settledG hw e.2.2.1 1).1 ≤ _
              rw [z]
              exact (h.mono (Nat.le_succ n)).bd
            · exact .inl z
          · show 0 ≤ (settledG hw e.2.2.1 1).1
            unfold settledG
            rw [hkp, if_neg (by decide)]
            split
            · exact Int.le_refl 0
            · rename_i hn
              have := fun z => hn (.inr ⟨Nat.zero_lt_one, z⟩)
              omega
        · cases he
theorem Sml.eis {hw : How} (k : Sml flag ps) {S : Nat} : ∀ (u : List Bool) {n : Nat} {es : List Ear}, (∀ e ∈ es, EI hw flag S n e) → ∀ e ∈ arrE hw flag ps u es, EI hw flag S (n + u.length) e
  | [], _, _, h => h
  | b :: u, n, es, h => by
    have h2 : ∀ e ∈ es.flatMap (fun e => earsB hw flag ps e b), EI hw flag S (n + 1) e := fun e he => by
      obtain ⟨e0, h0, h1⟩ := List.mem_flatMap.mp he
      exact k.ei (h e0 h0) h1
    intro e he
    have h3 := k.eis u h2 e he
    rw [List.length_cons, show n + (u.length + 1) = n + 1 + u.length by omega]
    exact h3
/-! ### without hits the receiver goes its way -/
theorem trk_snoc {b : Bool} : ∀ (u : List Bool) (x : List Bool × Nat), trkP ps (u ++ [b]) x = (trkP ps u x).bind fun y => trkP ps [b] y
  | [], x => rfl
  | c :: u, x => by
    show (match hearP ps x.1 c with | none => none | some y => trkP ps (u ++ [b]) (y.1, x.2 + y.2)) = (match hearP ps x.1 c with | none => none | some y => trkP ps u (y.1, x.2 + y.2)).bind _
    cases hearP ps x.1 c with
    | none => rfl
    | some y => exact trk_snoc u _
def TI (hw : How) (ps : List Stf) (hd : List Bool) (sh : Int) (pre : List Bool) (e : Ear) : Prop := e.2.1 = 0 → ∃ r : Nat, trkP ps pre (tlP ps hd, 0) = some (tlP ps e.1, r) ∧ (Rst hw e.2.2.1 ∨ e.2.2.1.1 = sh - 1 + r)
theorem Sml.ti {hw : How} (k : Sml flag ps) {hd : List Bool} {sh : Int} {pre : List Bool} {e e' : Ear} {b : Bool} (h : TI hw ps hd sh pre e) (he : e' ∈ earsB hw flag ps e b) : TI hw ps hd sh (pre ++ [b]) e' := by
  intro c0
  unfold earsB at he
  split at he
  · rename_i hc
    rw [List.mem_singleton.mp he] at c0
    rw [c0] at hc
    exact absurd hc.symm (fun z => k.ne (List.length_eq_zero_iff.mp z))
  · split at he
    · split at he
      · rw [List.mem_singleton.mp he] at c0
        exact absurd c0 (Nat.succ_ne_zero _)
      · cases he
    · rename_i hc0
      obtain ⟨r, t1, t2⟩ := h (by omega)
      rcases List.mem_append.mp he with he | he
      · unfold earsH at he
        cases eh : hearB flag ps (e.1, []) b with
        | none =>
          rw [eh] at he
          cases he
        | some x =>
          rw [eh] at he
          rw [List.mem_singleton.mp he]
          unfold hearB at eh
          split at eh
          · cases eh
          · rename_i n1
            split at eh
            · cases eh
            · cases eh
              have n1 : ¬ putL ps e.1 = some (!b) := n1
              refine ⟨r + if putL ps e.1 = none then 1 else 0, ?_, ?_⟩
              · rw [trk_snoc, t1]
                show (match hearP ps (tlP ps e.1) b with | none => none | some y => trkP ps [] (y.1, r + y.2)) = _
                unfold hearP
                rw [show putL ps (tlP ps e.1) = putL ps e.1 from putL_tl ps e.1, if_neg n1]
                show some (tlP ps (tlP ps e.1 ++ [b]), r + _) = some (tlP ps (tailL (flag :: ps.map (·.1)) (e.1 ++ [b])), _)
                rw [show tlP ps (tlP ps e.1 ++ [b]) = tlP ps (e.1 ++ [b]) from tailL_snocT _ _ _, show tlP ps (tailL (flag :: ps.map (·.1)) (e.1 ++ [b])) = tlP ps (e.1 ++ [b]) from tailL_sub _ _ _]
              · show Rst hw (gapNew hw e.2.2.1 (if putL ps e.1 = none then [] ++ [b] else [])) ∨ (gapNew hw e.2.2.1 (if putL ps e.1 = none then [] ++ [b] else [])).1 = _
                by_cases hp : putL ps e.1 = none
                · rw [if_pos hp, if_pos hp]
                  show Rst hw (settledG hw (movedG e.2.2.1 1 b) 0) ∨ (settledG hw (movedG e.2.2.1 1 b) 0).1 = _
                  rcases t2 with t2 | t2
                  · exact .inl (rst_move t2)
                  · rcases settled_or hw (movedG e.2.2.1 1 b) 0 with z | z
                    · right
                      rw [z]
                      show e.2.2.1.1 + 1 = _
                      omega
                    · exact .inl z
                · rw [if_neg hp, if_neg hp]
                  exact t2
      · unfold earsC at he
        split at he
        · rw [List.mem_singleton.mp he] at c0
          exact absurd c0 (Nat.succ_ne_zero 0)
        · cases he
/-! ### ways -/
structure WI (hw : How) (flag : List Bool) (ps : List Stf) (most used : Nat) (hd : List Bool) (sh : Int) (pre : List Bool) (y : Way) : Prop where
  ei : EI hw flag sh.natAbs (pre.length + y.2.length) y.1
  us : used + y.2.length ≤ most
  ti : y.2 = [] → TI hw ps hd sh pre y.1
theorem Sml.wi {hw : How} (k : Sml flag ps) {ks : List Kd} {most used m : Nat} {hd : List Bool} {sh : Int} {pre : List Bool} {b : Bool} {x y : Way} (h : WI hw flag ps most used hd sh pre x) (hy : y ∈ wayB hw flag ps ks most used m b x) : WI hw flag ps most used hd sh (pre ++ [b]) y := by
  have hl : (pre ++ [b]).length = pre.length + 1 := List.length_append
  rcases List.mem_append.mp hy with hy | hy
  · obtain ⟨e', he, rfl⟩ := List.mem_map.mp hy
    have he : e' ∈ [x.1].flatMap fun e => earsB hw flag ps e b := he
    obtain ⟨e0, h0, h1⟩ := List.mem_flatMap.mp he
    rw [List.mem_singleton.mp h0] at h1
    refine ⟨?_, h.us, fun z => k.ti (h.ti z) h1⟩
    rw [hl, show pre.length + 1 + x.2.length = pre.length + x.2.length + 1 by omega]
    exact k.ei h.ei h1
  · split at hy
    · rename_i hu
      obtain ⟨kd, _, hy⟩ := List.mem_flatMap.mp hy
      obtain ⟨e', he, rfl⟩ := List.mem_map.mp hy
      have h1 := k.eis (arrB b (some kd)) (es := [x.1]) (fun e he => by rw [List.mem_singleton.mp he]; exact h.ei) e' he
      have h2 := arrB_le b (some kd)
      have h3 : (x.2 ++ [(m, kd)]).length = x.2.length + 1 := List.length_append
      refine ⟨h1.mono (by rw [hl]; show _ ≤ pre.length + 1 + (x.2 ++ [(m, kd)]).length; rw [h3]; omega), by show used + (x.2 ++ [(m, kd)]).length ≤ most; rw [h3]; omega, fun z => absurd z (by simp)⟩
    · cases hy
theorem Sml.wis {hw : How} (k : Sml flag ps) {ks : List Kd} {most used : Nat} {hd : List Bool} {sh : Int} : ∀ (u : List Bool) (m : Nat) (pre : List Bool) (ws : List Way), (∀ x ∈ ws, WI hw flag ps most used hd sh pre x) → ∀ y ∈ waysL hw flag ps ks most used m u ws, WI hw flag ps most used hd sh (pre ++ u) y
  | [], _, pre, _, h => by rw [List.append_nil]; exact h
  | b :: u, m, pre, ws, h => by
    have h2 : ∀ y ∈ ws.flatMap (wayB hw flag ps ks most used m b), WI hw flag ps most used hd sh (pre ++ [b]) y := fun y hy => by
      obtain ⟨x, hx, h1⟩ := List.mem_flatMap.mp hy
      exact k.wi (h x hx) h1
    have h3 := k.wis (ks := ks) u (m + 1) (pre ++ [b]) _ h2
    rw [show pre ++ b :: u = pre ++ [b] ++ u by simp]
    exact h3
/-! ### behind a cut -/
structure CI (flag : List Bool) (most used : Nat) (hd : List Bool) (g : Gp) (y : Way) : Prop where
  hd : y.1.1 = hd
  cut : 0 < y.1.2.1 ∧ y.1.2.1 ≤ flag.length
  gp : y.1.2.2.1 = g
  rd : y.1.2.2.2 = []
  us : used + y.2.length ≤ most
theorem ci_ear {hw : How} {hd : List Bool} {g : Gp} {e e' : Ear} {b : Bool} (h : e.1 = hd ∧ (0 < e.2.1 ∧ e.2.1 ≤ flag.length) ∧ e.2.2.1 = g ∧ e.2.2.2 = []) (he : e' ∈ earsB hw flag ps e b) : e'.1 = hd ∧ (0 < e'.2.1 ∧ e'.2.1 ≤ flag.length) ∧ e'.2.2.1 = g ∧ e'.2.2.2 = [] := by
  obtain ⟨h1, ⟨h2, h3⟩, h4, h5⟩ := h
  unfold earsB at he
  split at he
  · rw [List.mem_singleton.mp he]
    exact ⟨h1, ⟨h2, h3⟩, h4, h5⟩
  · rename_i hc
    split at he
    · rw [List.mem_singleton.mp he]
      exact ⟨h1, ⟨Nat.succ_pos _, by show e.2.1 + 1 ≤ _; omega⟩, h4, h5⟩
    · cases he
theorem ci_ears {hw : How} {hd : List Bool} {g : Gp} : ∀ (u : List Bool) {es : List Ear}, (∀ e ∈ es, e.1 = hd ∧ (0 < e.2.1 ∧ e.2.1 ≤ flag.length) ∧ e.2.2.1 = g ∧ e.2.2.2 = []) → ∀ e ∈ arrE hw flag ps u es, e.1 = hd ∧ (0 < e.2.1 ∧ e.2.1 ≤ flag.length) ∧ e.2.2.1 = g ∧ e.2.2.2 = []
  | [], _, h => h
  | b :: u, es, h => ci_ears u fun e he => by
    obtain ⟨e0, h0, h1⟩ := List.mem_flatMap.mp he
    exact ci_ear (h e0 h0) h1
theorem ci_way {hw : How} {ks : List Kd} {most used m : Nat} {hd : List Bool} {g : Gp} {b : Bool} {x y : Way} (h : CI flag most used hd g x) (hy : y ∈ wayB hw flag ps ks most used m b x) : CI flag most used hd g y := by
  have go : ∀ (u : List Bool) (hs : List Ht), used + hs.length ≤ most → y ∈ wayN hw flag ps x.1 u hs → CI flag most used hd g y := fun u hs hu hy => by
    obtain ⟨e', he, rfl⟩ := List.mem_map.mp hy
    obtain ⟨a1, a2, a3, a4⟩ := ci_ears u (es := [x.1]) (fun e he => by rw [List.mem_singleton.mp he]; exact ⟨h.hd, h.cut, h.gp, h.rd⟩) e' he
    exact ⟨a1, a2, a3, a4, hu⟩
  rcases List.mem_append.mp hy with hy | hy
  · exact go _ _ h.us hy
  · split at hy
    · rename_i hu
      obtain ⟨kd, _, hy⟩ := List.mem_flatMap.mp hy
      exact go _ _ (by rw [List.length_append]; show used + (x.2.length + 1) ≤ most; omega) hy
    · cases hy
theorem ci_ways {hw : How} {ks : List Kd} {most used : Nat} {hd : List Bool} {g : Gp} : ∀ (u : List Bool) (m : Nat) (ws : List Way), (∀ x ∈ ws, CI flag most used hd g x) → ∀ y ∈ waysL hw flag ps ks most used m u ws, CI flag most used hd g y
  | [], _, _, h => h
  | b :: u, m, ws, h => ci_ways u (m + 1) _ fun y hy => by
    obtain ⟨x, hx, h1⟩ := List.mem_flatMap.mp hy
    exact ci_way (h x hx) h1
end
theorem waysL_hits {hw : How} {flag : List Bool} {ps : List Stf} {ks : List Kd} {most used : Nat} : ∀ (u : List Bool) (m c : Nat) (ws : List Way), (∀ x ∈ ws, x.2.length ≤ c) → ∀ y ∈ waysL hw flag ps ks most used m u ws, y.2.length ≤ c + u.length
  | [], _, _, _, h => h
  | b :: u, m, c, ws, h => by
    intro y hy
    have h2 : ∀ y ∈ ws.flatMap (wayB hw flag ps ks most used m b), y.2.length ≤ c + 1 := fun y hy => by
      obtain ⟨x, hx, h1⟩ := List.mem_flatMap.mp hy
      have hc := h x hx
      rcases List.mem_append.mp h1 with h1 | h1
      · obtain ⟨e', _, rfl⟩ := List.mem_map.mp h1
        exact Nat.le_succ_of_le hc
      · split at h1
        · obtain ⟨kd, _, h1⟩ := List.mem_flatMap.mp h1
          obtain ⟨e', _, rfl⟩ := List.mem_map.mp h1
          rw [List.length_append]
          exact Nat.succ_le_succ hc
        · cases h1
    have h3 := waysL_hits u (m + 1) (c + 1) _ h2 y hy
    rw [List.length_cons]
    omega
/-! ### places -/
structure PI (A : NPar) (x : Plc) : Prop where
  sl : x.1.length ≤ 2
  sp : putL A.ps x.1 = none
  hl : x.2.1.length ≤ 5
  cut : x.2.2.1 ≤ A.flag.length
  gw : GpW x.2.2.2.1
  zr : Zr A.hw x.2.2.2.1
  us : x.2.2.2.2 ≤ A.most
  c0 : x.2.2.1 = 0 → x.2.2.2.1.1.natAbs + farD A.ps x.1 (tlP A.ps x.2.1) ≤ 5 * x.2.2.2.2
  c1 : 0 < x.2.2.1 → A.hw.keep = false ∧ x.2.1 = [] ∧ 0 ≤ x.2.2.2.1.1 ∧ x.2.2.2.1.1 ≤ 5 * x.2.2.2.2 + 2
theorem PI.gap {A : NPar} {x : Plc} (h : PI A x) (hm : A.most ≤ 100) : x.2.2.2.1.1.natAbs ≤ 800 := by
  have := h.us
  by_cases c : x.2.2.1 = 0
  · have := h.c0 c
    omega
  · obtain ⟨_, _, h3, h4⟩ := h.c1 (by omega)
    omega
theorem Sml.start {A : NPar} (k : Sml A.flag A.ps) : PI A (plc0 A.hw) := by
  have e0 : (plc0 A.hw).1 = [] ∧ (plc0 A.hw).2.1 = [] ∧ (plc0 A.hw).2.2.1 = 0 ∧ (plc0 A.hw).2.2.2.1.1 = 0 ∧ (plc0 A.hw).2.2.2.2 = 0 := ⟨rfl, rfl, rfl, rfl, rfl⟩
  obtain ⟨e1, e2, e3, e4, e5⟩ := e0
  refine ⟨by rw [e1]; decide, ?_, by rw [e2]; decide, by rw [e3]; exact Nat.zero_le _, ?_, fun _ _ => e4, by rw [e5]; exact Nat.zero_le _, fun _ => ?_, fun c => ?_⟩
  · rw [e1]
    exact putL_none fun p hp h => (k.lens p hp).1 (List.suffix_nil.mp h)
  · intro w hw
    rw [e4]
    have : (plc0 A.hw).2.2.2.1.2 = some w := hw
    unfold plc0 gap0 at this
    dsimp only at this
    split at this
    · cases this
    · cases this
      rfl
  · rw [e4, e5, e1, e2]
    show 0 + farP A.ps 4 [] [] ≤ 0
    unfold farP
    rw [if_pos rfl]
    exact Nat.le_refl _
  · rw [e3] at c
    exact absurd c (Nat.lt_irrefl 0)
theorem stpX_src (ps : List Stf) (used : Nat) (line : List Bool) (b : Bool) : ∀ (ws : List Way) (fx : List (PK × SV)) (q : PK × SV), q ∈ ws.foldl (stpX ps used line b) fx → (∃ y ∈ ws, q.1 = (plOf ps used line y, b, y.1.2.2.2)) ∨ ∃ r ∈ fx, r.1 = q.1
  | [], _, q, h => .inr ⟨q, h, rfl⟩
  | x :: ws, fx, q, h => by
    rcases stpX_src ps used line b ws (stpX ps used line b fx x) q h with ⟨y, hy, e⟩ | ⟨r, hr, e⟩
    · exact .inl ⟨y, List.mem_cons_of_mem _ hy, e⟩
    · rcases put_keys _ _ _ r hr with e2 | ⟨q2, hq2, e2⟩
      · exact .inl ⟨x, List.mem_cons_self, by rw [← e, e2]⟩
      · exact .inr ⟨q2, hq2, by rw [e2, e]⟩
theorem stepsX_src {A : NPar} {x : Plc} {q : PK × SV} (h : q ∈ stepsX A x) : ∃ b, ∃ y ∈ waysB A.hw A.flag A.ps A.ks A.most x b, q.1 = (plOf A.ps x.2.2.2.2 (lineB A.ps x.1 b) y, b, y.1.2.2.2) := by
  unfold stepsX at h
  rcases stpX_src _ _ _ _ _ _ q h with ⟨y, hy, e⟩ | ⟨r, hr, e⟩
  · exact ⟨true, y, hy, e⟩
  · rcases stpX_src _ _ _ _ _ _ r hr with ⟨y, hy, e2⟩ | ⟨_, hq, _⟩
    · exact ⟨false, y, hy, by rw [← e, e2]⟩
    · cases hq
theorem Sml.next {A : NPar} (k : Sml A.flag A.ps) {x : Plc} (h : PI A x) {b : Bool} {y : Way} (hy : y ∈ waysB A.hw A.flag A.ps A.ks A.most x b) : PI A (plOf A.ps x.2.2.2.2 (lineB A.ps x.1 b) y) ∧ y.1.2.2.2.length ≤ 10 := by
  have hput : putL A.ps (tlP A.ps (lineB A.ps x.1 b)) = none := by
    show putL A.ps (tailL _ _) = none
    rw [putL_tl]
    exact k.tame _
  have hraw := k.line h.sl h.sp b
  unfold waysB at hy
  by_cases c : x.2.2.1 = 0
  · rw [c] at hy
    have start : ∀ z ∈ [((x.2.1, 0, settledG A.hw (movedG x.2.2.2.1 (-1) b) 0, []), [])], WI A.hw A.flag A.ps A.most x.2.2.2.2 x.2.1 x.2.2.2.1.1 [] z := by
      intro z hz
      rw [List.mem_singleton.mp hz]
      refine ⟨⟨h.hl, Nat.zero_le _, settled_w (moved_w (.inr rfl) h.gw), zr_settle _ _ _, Nat.zero_le _, ?_, fun c => absurd c (Nat.lt_irrefl 0)⟩, h.us, fun _ _ => ⟨0, rfl, ?_⟩⟩
      · rcases settled_or A.hw (movedG x.2.2.2.1 (-1) b) 0 with e | e
        · right
          show _ ≤ (settledG A.hw (movedG x.2.2.2.1 (-1) b) 0).1 ∧ (settledG A.hw (movedG x.2.2.2.1 (-1) b) 0).1 ≤ _
          rw [e]
          show _ ≤ x.2.2.2.1.1 + -1 ∧ x.2.2.2.1.1 + -1 ≤ (x.2.2.2.1.1.natAbs : Int) - 1 + ((0 + 0 : Nat) : Int)
          omega
        · exact .inl e
      · rcases settled_or A.hw (movedG x.2.2.2.1 (-1) b) 0 with e | e
        · right
          show (settledG A.hw (movedG x.2.2.2.1 (-1) b) 0).1 = _
          rw [e]
          show x.2.2.2.1.1 + -1 = x.2.2.2.1.1 - 1 + ((0 : Nat) : Int)
          omega
        · exact .inl e
    have w := k.wis _ _ [] _ start y hy
    rw [List.nil_append] at w
    have hraw : ((lineB A.ps x.1 b).drop x.1.length).length ≤ 3 := hraw
    have hfar := k.far (k.tlen (lineB A.ps x.1 b)) hput (k.tlen y.1.1)
    have hus := h.us
    have hrd := w.ei.rd
    have hq := h.c0 c
    have hwu := w.us
    refine ⟨⟨k.tlen _, hput, w.ei.hl, w.ei.cut, w.ei.gw, w.ei.zr, w.us, fun c2 => ?_, fun c2 => ?_⟩, ?_⟩
    · show y.1.2.2.1.1.natAbs + farD A.ps (tlP A.ps (lineB A.ps x.1 b)) (tlP A.ps y.1.1) ≤ 5 * (x.2.2.2.2 + y.2.length)
      cases hs : y.2 with
      | nil =>
        obtain ⟨r, t1, t2⟩ := w.ti hs c2
        have hst := k.step h.sl h.sp (k.tlen x.2.1) (b := b) (x := (r, tlP A.ps (lineB A.ps x.1 b), tlP A.ps y.1.1)) (by
          unfold dstP
          rw [show rawB A.ps x.1 b = (lineB A.ps x.1 b).drop x.1.length from rfl, t1]
          rfl)
        have hst : ((r : Int) - 1).natAbs + farD A.ps (tlP A.ps (lineB A.ps x.1 b)) (tlP A.ps y.1.1) ≤ farD A.ps x.1 (tlP A.ps x.2.1) := hst
        rw [List.length_nil]
        rcases t2 with ⟨_, e⟩ | e
        · have e1 : y.1.2.2.1.1 = 0 := by rw [e]
          omega
        · omega
      | cons z zs =>
        have hl : y.2.length = zs.length + 1 := by rw [hs]; rfl
        rw [← hs]
        rcases w.ei.bd with ⟨_, e⟩ | ⟨e1, e2⟩
        · have e1 : y.1.2.2.1.1 = 0 := by rw [e]
          omega
        · omega
    · obtain ⟨a1, a2, a3⟩ := w.ei.ct c2
      refine ⟨a1, a2, a3, ?_⟩
      show y.1.2.2.1.1 ≤ 5 * ((x.2.2.2.2 + y.2.length : Nat) : Int) + 2
      rcases w.ei.bd with ⟨_, e⟩ | ⟨e1, e2⟩
      · have e1 : y.1.2.2.1.1 = 0 := by rw [e]
        omega
      · omega
    · have : y.2.length ≤ ((lineB A.ps x.1 b).drop x.1.length).length := by
        have h5 := (waysL_hits ((lineB A.ps x.1 b).drop x.1.length) 0 0 _ (fun z hz => by rw [List.mem_singleton.mp hz]; exact Nat.le_refl _) y hy)
        omega
      omega
  · obtain ⟨kp, hd0, g0, g2⟩ := h.c1 (by omega)
    have start : ∀ z ∈ [((x.2.1, x.2.2.1, settledG A.hw (movedG x.2.2.2.1 (-1) b) x.2.2.1, []), [])], CI A.flag A.most x.2.2.2.2 x.2.1 (settledG A.hw (movedG x.2.2.2.1 (-1) b) x.2.2.1) z := by
      intro z hz
      rw [List.mem_singleton.mp hz]
      exact ⟨rfl, ⟨by show 0 < x.2.2.1; omega, h.cut⟩, rfl, rfl, h.us⟩
    have w := ci_ways _ _ _ start y hy
    refine ⟨⟨k.tlen _, hput, ?_, w.cut.2, ?_, ?_, w.us, fun c2 => absurd c2 (Nat.ne_of_gt w.cut.1), fun _ => ⟨kp, w.hd.trans hd0, ?_⟩⟩, by rw [w.rd]; decide⟩
    · show y.1.1.length ≤ 5
      rw [w.hd, hd0]
      decide
    · show GpW y.1.2.2.1
      rw [w.gp]
      exact settled_w (moved_w (.inr rfl) h.gw)
    · show Zr A.hw y.1.2.2.1
      rw [w.gp]
      exact zr_settle _ _ _
    · show 0 ≤ y.1.2.2.1.1 ∧ y.1.2.2.1.1 ≤ 5 * ((x.2.2.2.2 + y.2.length : Nat) : Int) + 2
      rw [w.gp]
      unfold settledG
      rw [kp, if_neg (by decide)]
      split
      · constructor
        · exact Int.le_refl 0
        · show (0 : Int) ≤ _
          omega
      · rename_i hn
        have hn2 : ¬ (movedG x.2.2.2.1 (-1) b).1 < 0 := fun z => hn (.inr ⟨by omega, z⟩)
        have e : (movedG x.2.2.2.1 (-1) b).1 = x.2.2.2.1.1 + -1 := rfl
        rw [e] at hn2 ⊢
        omega
/-! ### the universe -/
def gaps1 (s : Int) : List Gp := (s, none) :: (wordsOfL s.natAbs).map fun w => (s, some w)
theorem mem_gaps1 {g : Gp} (h : GpW g) : g ∈ gaps1 g.1 := by
  obtain ⟨s, w⟩ := g
  unfold gaps1
  cases w with
  | none => exact List.mem_cons_self
  | some w => 
    refine List.mem_cons_of_mem _ (List.mem_map.mpr ⟨w, ?_, rfl⟩)
    have : w.length = s.natAbs := h w rfl
    show w ∈ wordsOfL s.natAbs
    rw [← this]
    exact wordsOfL_mem w
def gapsL (B : Nat) : List Gp := (List.range (2 * B + 1)).flatMap fun i : Nat => gaps1 ((i : Int) - B)
theorem mem_gapsL {B : Nat} {g : Gp} (h : GpW g) (hb : g.1.natAbs ≤ B) : g ∈ gapsL B := by
  refine List.mem_flatMap.mpr ⟨(g.1 + B).toNat, List.mem_range.mpr (by omega), ?_⟩
  rw [show (((g.1 + B).toNat : Nat) : Int) - B = g.1 by omega]
  exact mem_gaps1 h
def gapsP (B : Nat) : List Gp := (List.range (B + 1)).flatMap fun i : Nat => gaps1 (i : Int)
theorem mem_gapsP {B : Nat} {g : Gp} (h : GpW g) (h0 : 0 ≤ g.1) (hb : g.1 ≤ B) : g ∈ gapsP B := by
  refine List.mem_flatMap.mpr ⟨g.1.toNat, List.mem_range.mpr (by omega), ?_⟩
  rw [show ((g.1.toNat : Nat) : Int) = g.1 by omega]
  exact mem_gaps1 h
def lvlU (u : Nat) : List Plc := (T2.flatMap fun s => (wordsTo 5).flatMap fun h => (gapsL (5 * u)).map fun g => (s, h, 0, g, u)) ++ T2.flatMap fun s => (List.range 6).flatMap fun c => (gapsP (5 * u + 2)).map fun g => (s, [], c, g, u)
def lvlsU : Nat → List Plc
  | 0 => lvlU 0
  | n + 1 => lvlsU n ++ lvlU (n + 1)
theorem mem_lvlsU {x : Plc} {u : Nat} (h : x ∈ lvlU u) : ∀ {n : Nat}, u ≤ n → x ∈ lvlsU n
  | 0, hn => by
    rw [Nat.le_zero.mp hn] at h
    exact h
  | n + 1, hn => by
    by_cases e : u = n + 1
    · rw [e] at h
      exact List.mem_append_right _ h
    · exact List.mem_append_left _ (mem_lvlsU h (by omega))
theorem pi_mem {A : NPar} (f5 : A.flag.length ≤ 5) {x : Plc} (h : PI A x) : x ∈ lvlsU A.most := by
  refine mem_lvlsU (u := x.2.2.2.2) ?_ h.us
  obtain ⟨s, hd, c, g, u⟩ := x
  unfold lvlU
  have hc := h.cut
  by_cases c0 : c = 0
  · subst c0
    have := h.c0 rfl
    dsimp only at this
    refine List.mem_append_left _ (List.mem_flatMap.mpr ⟨s, mem_T2 h.sl, List.mem_flatMap.mpr ⟨hd, wordsTo_mem 5 hd h.hl, List.mem_map.mpr ⟨g, mem_gapsL h.gw (by show g.1.natAbs ≤ 5 * u; omega), rfl⟩⟩⟩)
  · obtain ⟨_, h2, h3, h4⟩ := h.c1 (by show 0 < c; omega)
    dsimp only at h2 h3 h4 hc
    subst h2
    refine List.mem_append_right _ (List.mem_flatMap.mpr ⟨s, mem_T2 h.sl, List.mem_flatMap.mpr ⟨c, List.mem_range.mpr (by omega), List.mem_map.mpr ⟨g, mem_gapsP h.gw h3 (by show g.1 ≤ ((5 * u + 2 : Nat) : Int); omega), rfl⟩⟩⟩)
theorem lvlU_len {u a b : Nat} (ha : (gapsL (5 * u)).length ≤ a) (hb : (gapsP (5 * u + 2)).length ≤ b) : (lvlU u).length ≤ 441 * a + 42 * b := by
  unfold lvlU
  rw [List.length_append]
  have h1 := flat_len (l := T2) (f := fun s => (wordsTo 5).flatMap fun h => (gapsL (5 * u)).map fun g => ((s, h, 0, g, u) : Plc)) (c := 63 * a) fun s _ => by
    have := flat_len (l := wordsTo 5) (f := fun h => (gapsL (5 * u)).map fun g => ((s, h, 0, g, u) : Plc)) (c := a) fun h _ => by rw [List.length_map]; exact ha
    rw [show (wordsTo 5).length = 63 by decide] at this
    exact this
  have h2 := flat_len (l := T2) (f := fun s => (List.range 6).flatMap fun c => (gapsP (5 * u + 2)).map fun g => ((s, [], c, g, u) : Plc)) (c := 6 * b) fun s _ => by
    have := flat_len (l := List.range 6) (f := fun c => (gapsP (5 * u + 2)).map fun g => ((s, [], c, g, u) : Plc)) (c := b) fun h _ => by rw [List.length_map]; exact hb
    rw [List.length_range] at this
    exact this
  rw [show T2.length = 7 from rfl] at h1 h2
  omega
theorem lvl_0 : (lvlU 0).length ≤ 1302 := lvlU_len (a := 2) (b := 10) (by decide +kernel) (by decide +kernel)
theorem lvl_1 : (lvlU 1).length ≤ 71022 := lvlU_len (a := 136) (b := 263) (by decide +kernel) (by decide +kernel)
theorem lvl_2 : (lvlU 2).length ≤ 2158842 := lvlU_len (a := 4114) (b := 8204) (by decide +kernel) (by decide +kernel)
theorem lvls_1 : ∀ {n : Nat}, n ≤ 1 → (lvlsU n).length ≤ 100000
  | 0, _ => Nat.le_trans lvl_0 (by decide)
  | 1, _ => by
    show (lvlU 0 ++ lvlU 1).length ≤ _
    rw [List.length_append]
    have := lvl_0
    have := lvl_1
    omega
theorem lvls_2 : ∀ {n : Nat}, n ≤ 2 → (lvlsU n).length ≤ 4000000
  | 0, _ => Nat.le_trans lvl_0 (by decide)
  | 1, _ => Nat.le_trans (lvls_1 (Nat.le_refl 1)) (by decide)
  | 2, _ => by
    show ((lvlU 0 ++ lvlU 1) ++ lvlU 2).length ≤ _
    rw [List.length_append, List.length_append]
    have := lvl_0
    have := lvl_1
    have := lvl_2
    omega
open Classical in
noncomputable def uniS (A : NPar) : List Plc := (lvlsU A.most).filter fun x => decide (PI A x)
open Classical in
theorem mem_uniS {A : NPar} (f5 : A.flag.length ≤ 5) {x : Plc} : x ∈ uniS A ↔ PI A x := by
  unfold uniS
  rw [List.mem_filter]
  exact ⟨fun h => of_decide_eq_true h.2, fun h => ⟨pi_mem f5 h, decide_eq_true h⟩⟩
open Classical in
theorem uniS_len (A : NPar) : (uniS A).length ≤ (lvlsU A.most).length := List.length_filter_le _ _
/-- each net of a small rule has a universe -/
theorem Sml.univ {A : NPar} (k : Sml A.flag A.ps) (hm : A.most ≤ 100) : UPok A (uniS A) := by
  refine ⟨(mem_uniS k.f5).mpr k.start, fun x hx => ?_, fun x hx r hr => ?_⟩
  · have h := (mem_uniS k.f5).mp hx
    refine ⟨⟨Nat.le_trans h.sl (by decide), fun b => k.tame _, fun b => ?_⟩, Nat.le_trans h.hl (by decide), h.cut, h.gw, h.gap hm⟩
    have := k.line h.sl h.sp b
    unfold rawB at this
    rw [List.length_drop] at this
    omega
  · have h := (mem_uniS k.f5).mp hx
    obtain ⟨b, y, hy, e⟩ := stepsX_src hr
    obtain ⟨h1, h2⟩ := k.next h hy
    rw [e]
    exact ⟨(mem_uniS k.f5).mpr h1, h2⟩
end Own

set_option Elab.async false
set_option linter.all false
set_option maxRecDepth 100000
set_option maxHeartbeats 2000000
/-! unseen: least sizes, and nets that go along with others -/
namespace Bw
open AM
section
variable {α μ β ν : Type}
/-- a walk goes along with another one -/
theorem wk_sim {G : α → List (μ × α)} {G' : β → List (ν × β)} {s : α} {s' : β} {R : α → β → Prop} (h0 : R s s') (h : ∀ p p', R p p' → ∀ x ∈ G p, ∃ x' ∈ G' p', R x.2 x'.2) {ms : List μ} {t : α} (w : Wk G s ms t) : ∃ ms' t', Wk G' s' ms' t' ∧ ms'.length = ms.length ∧ R t t' := by
  induction w with
  | nil => exact ⟨[], s', .nil, rfl, h0⟩
  | snoc _ hx ih =>
    obtain ⟨ms', p', w', e, r⟩ := ih
    obtain ⟨x', hx', r'⟩ := h _ _ r _ hx
    exact ⟨_, _, .snoc w' hx', by rw [List.length_append, List.length_append, e]; rfl, r'⟩
end
end Bw
namespace Own
open PySem PySem.Spec PyProof.Rows L2 ND
def lenU (A : NPar) (poly st : List Bool) : Option Nat := (wayM A poly st.length (st0S A st)).map List.length
/-- the least length is one, and none is less -/
def Lst (A : NPar) (poly st : List Bool) : Option Nat → Prop
  | none => ∀ ns u, Bw.Wk (gX A poly) (st0S A st) ns u → eX A st.length u = false
  | some n => (∃ ms t, Bw.Wk (gX A poly) (st0S A st) ms t ∧ ms.length = n ∧ eX A st.length t = true) ∧ ∀ ns u, Bw.Wk (gX A poly) (st0S A st) ns u → ns.length < n → eX A st.length u = false
theorem lst_is {A : NPar} {poly st : List Bool} {UP : List Plc} {LU : List Lft} (uo : UOk A poly st UP LU) : Lst A poly st (lenU A poly st) := by
  have hU : ∀ t ∈ (UP.flatMap fun x => LU.flatMap fun l => LU.map fun r => ((x, l, r) : PSt)), ∀ x ∈ gX A poly t, x.2 ∈ (UP.flatMap fun x => LU.flatMap fun l => LU.map fun r => ((x, l, r) : PSt)) := by
    intro t ht x hx
    obtain ⟨a, ha, ht⟩ := List.mem_flatMap.mp ht
    obtain ⟨l, hl, ht⟩ := List.mem_flatMap.mp ht
    obtain ⟨r, hr, rfl⟩ := List.mem_map.mp ht
    obtain ⟨q, hq, rfl⟩ := List.mem_map.mp hx
    obtain ⟨h1, h2⟩ := uo.ps a ha q hq
    exact List.mem_flatMap.mpr ⟨_, h1, List.mem_flatMap.mpr ⟨_, uo.ls l hl _ (by simp), List.mem_map.mpr ⟨_, uo.ls r hr _ h2, rfl⟩⟩⟩
  have hs : st0S A st ∈ (UP.flatMap fun x => LU.flatMap fun l => LU.map fun r => ((x, l, r) : PSt)) := List.mem_flatMap.mpr ⟨_, uo.p0, List.mem_flatMap.mpr ⟨_, uo.l0, List.mem_map.mpr ⟨_, uo.l0, rfl⟩⟩⟩
  have hN : (UP.flatMap fun x => LU.flatMap fun l => LU.map fun r => ((x, l, r) : PSt)).length + 1 ≤ sizeLine := by
    have h1 := flat_len (l := UP) (f := fun x => LU.flatMap fun l => LU.map fun r => ((x, l, r) : PSt)) (c := LU.length * LU.length) fun x _ => flat_len fun l _ => by
      rw [List.length_map]
      exact Nat.le_refl _
    have h2 := uo.big
    omega
  unfold lenU wayM
  rcases Bw.short_ok (e := eX A st.length) hs hU hN with ⟨ms, t, h1, h2, h3, h4⟩ | ⟨h1, h2⟩
  · rw [h1]
    exact ⟨⟨ms, t, h2, rfl, h3⟩, h4⟩
  · rw [h1]
    exact h2
/-- a net that goes along with another one has no longer least length -/
def LeO (a b : Option Nat) : Prop := ∀ n, b = some n → ∃ m, a = some m ∧ m ≤ n
theorem lst_le {A B : NPar} {poly st : List Bool} {a b : Option Nat} (ha : Lst A poly st a) (hb : Lst B poly st b) (h : ∀ ms t, Bw.Wk (gX B poly) (st0S B st) ms t → eX B st.length t = true → ∃ ms' t', Bw.Wk (gX A poly) (st0S A st) ms' t' ∧ ms'.length = ms.length ∧ eX A st.length t' = true) : LeO a b := by
  rintro n rfl
  obtain ⟨⟨ms, t, w, hl, he⟩, _⟩ := hb
  obtain ⟨ms', t', w', hl', he'⟩ := h ms t w he
  cases a with
  | none =>
    have := ha _ _ w'
    rw [he'] at this
    cases this
  | some m =>
    refine ⟨m, rfl, ?_⟩
    rcases Nat.lt_or_ge n m with h | h
    · have := ha.2 _ _ w' (by omega)
      rw [he'] at this
      cases this
    · exact h
/-! ### more kinds, more hits -/
theorem stpX_has (ps : List Stf) (used : Nat) (line : List Bool) (b : Bool) : ∀ (ws : List Way) (fx : List (PK × SV)) (y : Way), y ∈ ws → ∃ r ∈ ws.foldl (stpX ps used line b) fx, r.1 = (plOf ps used line y, b, y.1.2.2.2)
  | [], _, _, h => nomatch h
  | x :: ws, fx, y, h => by
    rw [List.foldl_cons]
    rcases List.mem_cons.mp h with rfl | h
    · obtain ⟨q, hq, e⟩ := am_put_has fx (plOf ps used line y, b, y.1.2.2.2) (((AM.get fx (plOf ps used line y, b, y.1.2.2.2)).getD (y.2, 0)).1, ((AM.get fx (plOf ps used line y, b, y.1.2.2.2)).getD (y.2, 0)).2 + 1)
      obtain ⟨r, hr, e2⟩ := stpX_keeps ps used line b ws (stpX ps used line b fx y) q hq
      exact ⟨r, hr, e2.trans e⟩
    · exact stpX_has ps used line b ws _ y h
theorem stepsX_has {A : NPar} {x : Plc} {b : Bool} {y : Way} (h : y ∈ waysB A.hw A.flag A.ps A.ks A.most x b) : ∃ r ∈ stepsX A x, r.1 = (plOf A.ps x.2.2.2.2 (lineB A.ps x.1 b) y, b, y.1.2.2.2) := by
  unfold stepsX
  cases b with
  | true => exact stpX_has _ _ _ _ _ _ y h
  | false =>
    obtain ⟨r, hr, e⟩ := stpX_has A.ps x.2.2.2.2 (lineB A.ps x.1 false) false _ [] y h
    obtain ⟨r2, hr2, e2⟩ := stpX_keeps A.ps x.2.2.2.2 (lineB A.ps x.1 true) true (waysB A.hw A.flag A.ps A.ks A.most x true) _ r hr
    exact ⟨r2, hr2, e2.trans e⟩
theorem waysL_more {hw : How} {flag : List Bool} {ps : List Stf} {ks ks' : List Kd} {most most' used : Nat} (hk : ∀ k ∈ ks, k ∈ ks') (hm : most ≤ most') : ∀ (u : List Bool) (n : Nat) (ws ws' : List Way), (∀ y ∈ ws, y ∈ ws') → ∀ y ∈ waysL hw flag ps ks most used n u ws, y ∈ waysL hw flag ps ks' most' used n u ws'
  | [], _, _, _, h => h
  | b :: u, n, ws, ws', h => waysL_more hk hm u (n + 1) _ _ fun y hy => by
    obtain ⟨x, hx, hy⟩ := List.mem_flatMap.mp hy
    refine List.mem_flatMap.mpr ⟨x, h x hx, ?_⟩
    unfold wayB at hy ⊢
    rcases List.mem_append.mp hy with hy | hy
    · exact List.mem_append_left _ hy
    · refine List.mem_append_right _ ?_
      split at hy
      · rename_i hu
        rw [if_pos (by omega)]
        obtain ⟨k, hk1, hy⟩ := List.mem_flatMap.mp hy
        exact List.mem_flatMap.mpr ⟨k, hk k hk1, hy⟩
      · cases hy
theorem stepsX_more {hw : How} {flag : List Bool} {ps : List Stf} {ks ks' : List Kd} {most most' : Nat} (hk : ∀ k ∈ ks, k ∈ ks') (hm : most ≤ most') {x : Plc} {r : PK × SV} (hr : r ∈ stepsX ⟨hw, flag, ps, ks, most⟩ x) : ∃ r' ∈ stepsX ⟨hw, flag, ps, ks', most'⟩ x, r'.1 = r.1 := by
  obtain ⟨b, y, hy, e⟩ := stepsX_src hr
  have hy' : y ∈ waysB hw flag ps ks' most' x b := waysL_more hk hm _ _ _ _ (fun _ h => h) y hy
  obtain ⟨r', hr', e'⟩ := stepsX_has (A := ⟨hw, flag, ps, ks', most'⟩) hy'
  exact ⟨r', hr', e'.trans e.symm⟩
/-- more kinds and more hits never lengthen -/
theorem more_le {hw : How} {flag : List Bool} {ps : List Stf} {ks ks' : List Kd} {most most' : Nat} {poly st : List Bool} (hk : ∀ k ∈ ks, k ∈ ks') (hm : most ≤ most') {a b : Option Nat} (ha : Lst ⟨hw, flag, ps, ks', most'⟩ poly st a) (hb : Lst ⟨hw, flag, ps, ks, most⟩ poly st b) : LeO a b := by
  refine lst_le ha hb fun ms t w he => ?_
  obtain ⟨ms', t', w', e, r⟩ := Bw.wk_sim (R := fun p p' => p = p') (s' := st0S ⟨hw, flag, ps, ks', most'⟩ st) rfl (fun p p' e x hx => by
    subst e
    obtain ⟨q, hq, rfl⟩ := List.mem_map.mp hx
    obtain ⟨q', hq', e⟩ := stepsX_more hk hm hq
    refine ⟨((q'.1.2.1, q'.2.1), (q'.1.1, lefB poly p.2.1 [q'.1.2.1], lefB poly p.2.2 q'.1.2.2)), List.mem_map.mpr ⟨q', hq', rfl⟩, ?_⟩
    show (q.1.1, lefB poly p.2.1 [q.1.2.1], lefB poly p.2.2 q.1.2.2) = (q'.1.1, lefB poly p.2.1 [q'.1.2.1], lefB poly p.2.2 q'.1.2.2)
    rw [e]) w
  subst r
  exact ⟨ms', t, w', e, he⟩
end Own

set_option Elab.async false
set_option linter.all false
set_option maxRecDepth 100000
set_option maxHeartbeats 2000000
/-! unseen: any way is the least of all ways -/
namespace Own
open PySem PySem.Spec PyProof.Rows L2 ND
/-- a gap as a way keeps it -/
def phi (hw : How) (g : Gp) : Gp := match hw with
  | .same => g
  | .shift => (g.1, none)
  | _ => if g.2 = none then (0, none) else g
theorem settle_0 {hw : How} (hk : hw.keep = false) (g : Gp) : settledG hw g 0 = if g.2 = none then (0, none) else g := by
  unfold settledG
  rw [hk, if_neg (by decide)]
  by_cases h : g.2 = none
  · rw [if_pos (Or.inl h), if_pos h]
  · rw [if_neg (fun z : g.2 = none ∨ (0 < 0 ∧ g.1 < 0) => z.elim h fun z => absurd z.1 (Nat.lt_irrefl 0)), if_neg h]
theorem moved_settle (g : Gp) (y : Int) (b : Bool) : (if (movedG (if g.2 = none then (0, none) else g) y b).2 = none then ((0, none) : Gp) else movedG (if g.2 = none then (0, none) else g) y b) = if (movedG g y b).2 = none then (0, none) else movedG g y b := by
  by_cases h : g.2 = none
  · rw [if_pos h]
    have h2 : (movedG g y b).2 = none := by unfold movedG; rw [h]
    rw [if_pos h2]
    exact if_pos rfl
  · rw [if_neg h]
theorem phi_step (hw : How) (g : Gp) (y : Int) (b : Bool) : settledG hw (movedG (phi hw g) y b) 0 = phi hw (settledG .same (movedG g y b) 0) := by
  cases hw with
  | same => rfl
  | shift => rfl
  | cut =>
    rw [settle_0 rfl]
    exact moved_settle g y b
  | any =>
    rw [settle_0 rfl]
    exact moved_settle g y b
theorem phi_new (hw : How) (g : Gp) (x : List Bool) : gapNew hw (phi hw g) x = phi hw (gapNew .same g x) := by
  cases x with
  | nil => rfl
  | cons c u => exact phi_step hw g 1 c
def imE (hw : How) (e : Ear) : Ear := (e.1, e.2.1, phi hw e.2.2.1, e.2.2.2)
section
variable {hw : How} {flag : List Bool} {ps : List Stf}
theorem earsH_im (hd : List Bool) (g : Gp) (rd : List Bool) (b : Bool) : earsH hw flag ps hd (phi hw g) rd b = (earsH .same flag ps hd g rd b).map (imE hw) := by
  unfold earsH
  cases hearB flag ps (hd, []) b with
  | none => rfl
  | some x =>
    show [_] = [_]
    rw [phi_new]
    rfl
theorem ears_same (hf : flag ≠ []) {e : Ear} (h0 : e.2.1 = 0) (b : Bool) : earsB .same flag ps e b = earsH .same flag ps e.1 e.2.2.1 e.2.2.2 b := by
  unfold earsB
  rw [h0, if_neg (fun z => hf (List.length_eq_zero_iff.mp z.symm)), if_neg (Nat.lt_irrefl 0)]
  unfold earsC
  rw [if_neg (fun z => absurd z.1 (by decide)), List.append_nil]
theorem earsH_0 {hd : List Bool} {g : Gp} {rd : List Bool} {b : Bool} {hw : How} : ∀ e ∈ earsH hw flag ps hd g rd b, e.2.1 = 0 := by
  intro e he
  unfold earsH at he
  cases eh : hearB flag ps (hd, []) b with
  | none => rw [eh] at he; cases he
  | some x => rw [eh] at he; rw [List.mem_singleton.mp he]
theorem ears_im (hf : flag ≠ []) {e : Ear} (h0 : e.2.1 = 0) (b : Bool) : earsB hw flag ps (imE hw e) b = (earsB .same flag ps e b).map (imE hw) ++ earsC hw flag ps e.1 (phi hw e.2.2.1) e.2.2.2 b := by
  rw [ears_same hf h0, ← earsH_im]
  unfold earsB imE
  dsimp only
  rw [h0, if_neg (fun z => hf (List.length_eq_zero_iff.mp z.symm)), if_neg (Nat.lt_irrefl 0)]
theorem ears_cut {e e' : Ear} {b : Bool} (h : 0 < e.2.1) (he : e' ∈ earsB hw flag ps e b) : 0 < e'.2.1 := by
  unfold earsB at he
  split at he
  · rw [List.mem_singleton.mp he]
    exact h
  · split at he
    · rw [List.mem_singleton.mp he]
      exact Nat.succ_pos _
    · cases he
/-- ears that are not behind a cut are those of the kept gaps -/
def RelE (hw : How) (es es' : List Ear) : Prop := (∀ e ∈ es, e.2.1 = 0 ∧ imE hw e ∈ es') ∧ ∀ e' ∈ es', e'.2.1 = 0 → ∃ e ∈ es, e' = imE hw e
theorem rel_bit (hf : flag ≠ []) {es es' : List Ear} (b : Bool) (h : RelE hw es es') : RelE hw (es.flatMap fun e => earsB .same flag ps e b) (es'.flatMap fun e => earsB hw flag ps e b) := by
  refine ⟨fun e he => ?_, fun e' he' h0 => ?_⟩
  · obtain ⟨e0, h1, h2⟩ := List.mem_flatMap.mp he
    obtain ⟨h3, h4⟩ := h.1 e0 h1
    have h5 : e.2.1 = 0 := by
      rw [ears_same hf h3] at h2
      exact earsH_0 e h2
    refine ⟨h5, List.mem_flatMap.mpr ⟨_, h4, ?_⟩⟩
    rw [ears_im hf h3]
    exact List.mem_append_left _ (List.mem_map.mpr ⟨e, h2, rfl⟩)
  · obtain ⟨e0, h1, h2⟩ := List.mem_flatMap.mp he'
    have h3 : e0.2.1 = 0 := by
      rcases Nat.eq_zero_or_pos e0.2.1 with z | z
      · exact z
      · have := ears_cut z h2
        omega
    obtain ⟨e, h4, rfl⟩ := h.2 e0 h1 h3
    rw [ears_im hf (h.1 e h4).1] at h2
    rcases List.mem_append.mp h2 with h2 | h2
    · obtain ⟨e1, h5, rfl⟩ := List.mem_map.mp h2
      exact ⟨e1, List.mem_flatMap.mpr ⟨e, h4, h5⟩, rfl⟩
    · exfalso
      unfold earsC at h2
      split at h2
      · rw [List.mem_singleton.mp h2] at h0
        exact absurd h0 (Nat.succ_ne_zero 0)
      · cases h2
theorem rel_arr (hf : flag ≠ []) : ∀ (u : List Bool) {es es' : List Ear}, RelE hw es es' → RelE hw (arrE .same flag ps u es) (arrE hw flag ps u es')
  | [], _, _, h => h
  | b :: u, _, _, h => rel_arr hf u (rel_bit hf b h)
theorem arr_cut : ∀ (u : List Bool) {es : List Ear}, (∀ e ∈ es, 0 < e.2.1) → ∀ e ∈ arrE hw flag ps u es, 0 < e.2.1
  | [], _, h => h
  | b :: u, _, h => arr_cut u fun e he => by
    obtain ⟨e0, h1, h2⟩ := List.mem_flatMap.mp he
    exact ears_cut (h e0 h1) h2
def RelW (hw : How) (ws ws' : List Way) : Prop := (∀ y ∈ ws, y.1.2.1 = 0 ∧ (imE hw y.1, y.2) ∈ ws') ∧ ∀ y' ∈ ws', y'.1.2.1 = 0 → ∃ y ∈ ws, y' = (imE hw y.1, y.2)
theorem rel_one {e : Ear} (h0 : e.2.1 = 0) : RelE hw [e] [imE hw e] := ⟨fun x hx => by rw [List.mem_singleton.mp hx]; exact ⟨h0, List.mem_cons_self⟩, fun x hx _ => ⟨e, List.mem_cons_self, List.mem_singleton.mp hx⟩⟩
theorem way_cut {ks : List Kd} {most used m : Nat} {b : Bool} {x y : Way} (h : 0 < x.1.2.1) (hy : y ∈ wayB hw flag ps ks most used m b x) : 0 < y.1.2.1 := by
  have go : ∀ (u : List Bool) (hs : List Ht), y ∈ wayN hw flag ps x.1 u hs → 0 < y.1.2.1 := fun u hs hy => by
    obtain ⟨e', he, rfl⟩ := List.mem_map.mp hy
    exact arr_cut u (es := [x.1]) (fun e he => by rw [List.mem_singleton.mp he]; exact h) e' he
  rcases List.mem_append.mp hy with hy | hy
  · exact go _ _ hy
  · split at hy
    · obtain ⟨k, _, hy⟩ := List.mem_flatMap.mp hy
      exact go _ _ hy
    · cases hy
theorem rel_way (hf : flag ≠ []) {ks : List Kd} {most used m : Nat} {b : Bool} {ws ws' : List Way} (h : RelW hw ws ws') : RelW hw (ws.flatMap (wayB .same flag ps ks most used m b)) (ws'.flatMap (wayB hw flag ps ks most used m b)) := by
  refine ⟨fun y hy => ?_, fun y' hy' h0 => ?_⟩
  · obtain ⟨x, h1, h2⟩ := List.mem_flatMap.mp hy
    obtain ⟨h3, h4⟩ := h.1 x h1
    have go : ∀ (u : List Bool) (hs : List Ht), y ∈ wayN .same flag ps x.1 u hs → y.1.2.1 = 0 ∧ (imE hw y.1, y.2) ∈ wayN hw flag ps (imE hw x.1) u hs := fun u hs hy => by
      obtain ⟨e', he, rfl⟩ := List.mem_map.mp hy
      obtain ⟨k1, k2⟩ := (rel_arr hf u (rel_one (hw := hw) h3)).1 e' he
      exact ⟨k1, List.mem_map.mpr ⟨_, k2, rfl⟩⟩
    unfold wayB at h2
    rcases List.mem_append.mp h2 with h2 | h2
    · obtain ⟨k1, k2⟩ := go _ _ h2
      exact ⟨k1, List.mem_flatMap.mpr ⟨_, h4, List.mem_append_left _ k2⟩⟩
    · split at h2
      · rename_i hu
        obtain ⟨k, hk, h2⟩ := List.mem_flatMap.mp h2
        obtain ⟨k1, k2⟩ := go _ _ h2
        refine ⟨k1, List.mem_flatMap.mpr ⟨_, h4, List.mem_append_right _ ?_⟩⟩
        rw [if_pos hu]
        exact List.mem_flatMap.mpr ⟨k, hk, k2⟩
      · cases h2
  · obtain ⟨x', h1, h2⟩ := List.mem_flatMap.mp hy'
    have h3 : x'.1.2.1 = 0 := by
      rcases Nat.eq_zero_or_pos x'.1.2.1 with z | z
      · exact z
      · have := way_cut z h2
        omega
    obtain ⟨x, h4, rfl⟩ := h.2 x' h1 h3
    have hx0 := (h.1 x h4).1
    have go : ∀ (u : List Bool) (hs : List Ht), y' ∈ wayN hw flag ps (imE hw x.1) u hs → ∃ y ∈ wayN .same flag ps x.1 u hs, y' = (imE hw y.1, y.2) := fun u hs hy => by
      obtain ⟨e', he, rfl⟩ := List.mem_map.mp hy
      obtain ⟨e, k1, rfl⟩ := (rel_arr hf u (rel_one (hw := hw) hx0)).2 e' he h0
      exact ⟨(e, hs), List.mem_map.mpr ⟨e, k1, rfl⟩, rfl⟩
    unfold wayB at h2
    rcases List.mem_append.mp h2 with h2 | h2
    · obtain ⟨y, k1, k2⟩ := go _ _ h2
      exact ⟨y, List.mem_flatMap.mpr ⟨x, h4, List.mem_append_left _ k1⟩, k2⟩
    · split at h2
      · rename_i hu
        obtain ⟨k, hk, h2⟩ := List.mem_flatMap.mp h2
        obtain ⟨y, k1, k2⟩ := go _ _ h2
        refine ⟨y, List.mem_flatMap.mpr ⟨x, h4, List.mem_append_right _ ?_⟩, k2⟩
        have hu : used + x.2.length < most := hu
        rw [if_pos hu]
        exact List.mem_flatMap.mpr ⟨k, hk, k1⟩
      · cases h2
theorem rel_ways (hf : flag ≠ []) {ks : List Kd} {most used : Nat} : ∀ (u : List Bool) (m : Nat) {ws ws' : List Way}, RelW hw ws ws' → RelW hw (waysL .same flag ps ks most used m u ws) (waysL hw flag ps ks most used m u ws')
  | [], _, _, _, h => h
  | b :: u, m, _, _, h => rel_ways hf u (m + 1) (rel_way hf h)
theorem ways_cut {ks : List Kd} {most used : Nat} : ∀ (u : List Bool) (m : Nat) {ws : List Way}, (∀ y ∈ ws, 0 < y.1.2.1) → ∀ y ∈ waysL hw flag ps ks most used m u ws, 0 < y.1.2.1
  | [], _, _, h => h
  | b :: u, m, _, h => ways_cut u (m + 1) fun y hy => by
    obtain ⟨x, h1, h2⟩ := List.mem_flatMap.mp hy
    exact way_cut (h x h1) h2
end
/-- a place as a way keeps it -/
def imP (hw : How) (x : Plc) : Plc := (x.1, x.2.1, x.2.2.1, phi hw x.2.2.2.1, x.2.2.2.2)
section
variable {hw : How} {flag : List Bool} {ps : List Stf} {ks : List Kd} {most : Nat}
theorem rel_ways0 (hf : flag ≠ []) {x : Plc} (h0 : x.2.2.1 = 0) (b : Bool) : RelW hw (waysB .same flag ps ks most x b) (waysB hw flag ps ks most (imP hw x) b) := by
  unfold waysB imP
  dsimp only
  refine rel_ways hf _ 0 ⟨fun y hy => ?_, fun y hy _ => ?_⟩
  · rw [List.mem_singleton.mp hy]
    refine ⟨h0, ?_⟩
    rw [h0, phi_step]
    exact List.mem_cons_self
  · rw [List.mem_singleton.mp hy, h0, phi_step]
    exact ⟨_, List.mem_cons_self, rfl⟩
theorem steps_fwd (hf : flag ≠ []) {x : Plc} (h0 : x.2.2.1 = 0) {r : PK × SV} (hr : r ∈ stepsX ⟨.same, flag, ps, ks, most⟩ x) : r.1.1.2.2.1 = 0 ∧ ∃ r' ∈ stepsX ⟨hw, flag, ps, ks, most⟩ (imP hw x), r'.1 = (imP hw r.1.1, r.1.2.1, r.1.2.2) := by
  obtain ⟨b, y, hy, e⟩ := stepsX_src hr
  obtain ⟨h1, h2⟩ := (rel_ways0 (hw := hw) hf h0 b).1 y hy
  obtain ⟨r', hr', e'⟩ := stepsX_has (A := ⟨hw, flag, ps, ks, most⟩) h2
  rw [e]
  exact ⟨h1, r', hr', e'⟩
theorem steps_bwd (hf : flag ≠ []) {x : Plc} (h0 : x.2.2.1 = 0) {r' : PK × SV} (hr : r' ∈ stepsX ⟨hw, flag, ps, ks, most⟩ (imP hw x)) (hc : r'.1.1.2.2.1 = 0) : ∃ r ∈ stepsX ⟨.same, flag, ps, ks, most⟩ x, r'.1 = (imP hw r.1.1, r.1.2.1, r.1.2.2) ∧ r.1.1.2.2.1 = 0 := by
  obtain ⟨b, y', hy, e⟩ := stepsX_src hr
  rw [e] at hc
  obtain ⟨y, h1, rfl⟩ := (rel_ways0 (hw := hw) hf h0 b).2 y' hy hc
  obtain ⟨r, hr2, e2⟩ := stepsX_has (A := ⟨.same, flag, ps, ks, most⟩) h1
  refine ⟨r, hr2, ?_, ?_⟩
  · rw [e, e2]
    rfl
  · rw [e2]
    exact ((rel_ways0 (hw := hw) hf h0 b).1 y h1).1
theorem steps_cut {x : Plc} (h0 : 0 < x.2.2.1) {r : PK × SV} (hr : r ∈ stepsX ⟨hw, flag, ps, ks, most⟩ x) : 0 < r.1.1.2.2.1 := by
  obtain ⟨b, y, hy, e⟩ := stepsX_src hr
  rw [e]
  exact ways_cut _ 0 (fun z hz => by rw [List.mem_singleton.mp hz]; exact h0) y hy
def RelS (hw : How) (p p' : PSt) : Prop := p'.1 = imP hw p.1 ∧ p'.2 = p.2 ∧ p.1.2.2.1 = 0
theorem rel_start (st : List Bool) : RelS hw (st0S ⟨.same, flag, ps, ks, most⟩ st) (st0S ⟨hw, flag, ps, ks, most⟩ st) := by
  refine ⟨?_, rfl, rfl⟩
  cases hw <;> rfl
theorem walk_fwd (hf : flag ≠ []) {poly st : List Bool} {ms : List Mk} {t : PSt} (w : Bw.Wk (gX ⟨.same, flag, ps, ks, most⟩ poly) (st0S ⟨.same, flag, ps, ks, most⟩ st) ms t) : ∃ ms' t', Bw.Wk (gX ⟨hw, flag, ps, ks, most⟩ poly) (st0S ⟨hw, flag, ps, ks, most⟩ st) ms' t' ∧ ms'.length = ms.length ∧ RelS hw t t' := by
  refine Bw.wk_sim (R := RelS hw) (rel_start st) (fun p p' h x hx => ?_) w
  obtain ⟨h1, h2, h3⟩ := h
  obtain ⟨q, hq, rfl⟩ := List.mem_map.mp hx
  obtain ⟨k1, q', hq', e⟩ := steps_fwd (hw := hw) hf h3 hq
  refine ⟨((q'.1.2.1, q'.2.1), (q'.1.1, lefB poly p'.2.1 [q'.1.2.1], lefB poly p'.2.2 q'.1.2.2)), List.mem_map.mpr ⟨q', by rw [h1]; exact hq', rfl⟩, ?_, ?_, k1⟩
  · rw [e]
  · rw [e, h2]
theorem walk_bwd (hf : flag ≠ []) {poly st : List Bool} {ms' : List Mk} {t' : PSt} (w : Bw.Wk (gX ⟨hw, flag, ps, ks, most⟩ poly) (st0S ⟨hw, flag, ps, ks, most⟩ st) ms' t') (hc : t'.1.2.2.1 = 0) : ∃ ms t, Bw.Wk (gX ⟨.same, flag, ps, ks, most⟩ poly) (st0S ⟨.same, flag, ps, ks, most⟩ st) ms t ∧ ms.length = ms'.length ∧ RelS hw t t' := by
  induction w with
  | nil => exact ⟨[], _, .nil, rfl, rel_start st⟩
  | @snoc ms p x w hx ih =>
    obtain ⟨q, hq, rfl⟩ := List.mem_map.mp hx
    have hp : p.1.2.2.1 = 0 := by
      rcases Nat.eq_zero_or_pos p.1.2.2.1 with z | z
      · exact z
      · have := steps_cut z hq
        have hc : q.1.1.2.2.1 = 0 := hc
        omega
    obtain ⟨ms0, t0, w0, hl, h1, h2, h3⟩ := ih hp
    rw [h1] at hq
    obtain ⟨r, hr, e, hr0⟩ := steps_bwd (hw := hw) hf h3 hq hc
    refine ⟨_, _, .snoc w0 (List.mem_map.mpr ⟨r, hr, rfl⟩), by rw [List.length_append, List.length_append, hl]; rfl, ?_, ?_, hr0⟩
    · show q.1.1 = _
      rw [e]
    · show (lefB poly p.2.1 [q.1.2.1], lefB poly p.2.2 q.1.2.2) = (lefB poly t0.2.1 [r.1.2.1], lefB poly t0.2.2 r.1.2.2)
      rw [e, h2]
end
end Own

set_option Elab.async false
set_option linter.all false
set_option maxRecDepth 100000
set_option maxHeartbeats 2000000
/-! unseen: any way is the least of all ways (ends) -/
namespace Own
open PySem PySem.Spec PyProof.Rows L2 ND
theorem unlike_phi (g : Gp) : unlike (phi .any g) = unlike g := by
  obtain ⟨s, w⟩ := g
  cases w with
  | none =>
    show unlike (0, none) = unlike (s, none)
    unfold unlike
    rw [show ((s, none) : Gp).2.isNone = true from rfl, Bool.or_true, Bool.or_true]
  | some w => rfl
section
variable {flag : List Bool} {ps : List Stf} {ks : List Kd} {most : Nat} {poly st : List Bool}
/-- where nothing is cut, nothing becomes so -/
theorem ears_no {hw : How} (hk : hw.cuts = false) (hf : flag ≠ []) {e e' : Ear} {b : Bool} (h0 : e.2.1 = 0) (he : e' ∈ earsB hw flag ps e b) : e'.2.1 = 0 := by
  unfold earsB at he
  rw [h0, if_neg (fun z => hf (List.length_eq_zero_iff.mp z.symm)), if_neg (Nat.lt_irrefl 0)] at he
  unfold earsC at he
  rw [if_neg (fun z => by rw [hk] at z; exact absurd z.1 Bool.false_ne_true), List.append_nil] at he
  exact earsH_0 e' he
theorem arr_no {hw : How} (hk : hw.cuts = false) (hf : flag ≠ []) : ∀ (u : List Bool) {es : List Ear}, (∀ e ∈ es, e.2.1 = 0) → ∀ e ∈ arrE hw flag ps u es, e.2.1 = 0
  | [], _, h => h
  | b :: u, _, h => arr_no hk hf u fun e he => by
    obtain ⟨e0, h1, h2⟩ := List.mem_flatMap.mp he
    exact ears_no hk hf (h e0 h1) h2
theorem way_no {hw : How} (hk : hw.cuts = false) (hf : flag ≠ []) {used m : Nat} {b : Bool} {x y : Way} (h : x.1.2.1 = 0) (hy : y ∈ wayB hw flag ps ks most used m b x) : y.1.2.1 = 0 := by
  have go : ∀ (u : List Bool) (hs : List Ht), y ∈ wayN hw flag ps x.1 u hs → y.1.2.1 = 0 := fun u hs hy => by
    obtain ⟨e', he, rfl⟩ := List.mem_map.mp hy
    exact arr_no hk hf u (es := [x.1]) (fun e he => by rw [List.mem_singleton.mp he]; exact h) e' he
  rcases List.mem_append.mp hy with hy | hy
  · exact go _ _ hy
  · split at hy
    · obtain ⟨k, _, hy⟩ := List.mem_flatMap.mp hy
      exact go _ _ hy
    · cases hy
theorem ways_no {hw : How} (hk : hw.cuts = false) (hf : flag ≠ []) {used : Nat} : ∀ (u : List Bool) (m : Nat) {ws : List Way}, (∀ y ∈ ws, y.1.2.1 = 0) → ∀ y ∈ waysL hw flag ps ks most used m u ws, y.1.2.1 = 0
  | [], _, _, h => h
  | b :: u, m, _, h => ways_no hk hf u (m + 1) fun y hy => by
    obtain ⟨x, h1, h2⟩ := List.mem_flatMap.mp hy
    exact way_no hk hf (h x h1) h2
theorem walk_no {hw : How} (hk : hw.cuts = false) (hf : flag ≠ []) {ms : List Mk} {t : PSt} (w : Bw.Wk (gX ⟨hw, flag, ps, ks, most⟩ poly) (st0S ⟨hw, flag, ps, ks, most⟩ st) ms t) : t.1.2.2.1 = 0 := by
  induction w with
  | nil => rfl
  | @snoc ms p x w hx ih =>
    obtain ⟨q, hq, rfl⟩ := List.mem_map.mp hx
    obtain ⟨b, y, hy, e⟩ := stepsX_src hq
    show q.1.1.2.2.1 = 0
    rw [e]
    exact ways_no hk hf _ 0 (fun z hz => by rw [List.mem_singleton.mp hz]; exact ih) y hy
theorem arr_ac : ∀ (u : List Bool) (es : List Ear), arrE .any flag ps u es = arrE .cut flag ps u es
  | [], _ => rfl
  | b :: u, es => arr_ac u _
theorem way_ac (used m : Nat) (b : Bool) (x : Way) : wayB .any flag ps ks most used m b x = wayB .cut flag ps ks most used m b x := by
  have h : ∀ (e : Ear) (u : List Bool) (hs : List Ht), wayN .any flag ps e u hs = wayN .cut flag ps e u hs := fun e u hs => by
    unfold wayN
    rw [arr_ac]
  unfold wayB
  rw [h]
  congr 1
  split
  · congr 1
    funext k
    exact h _ _ _
  · rfl
theorem ways_ac (used : Nat) : ∀ (u : List Bool) (m : Nat) (ws : List Way), waysL .any flag ps ks most used m u ws = waysL .cut flag ps ks most used m u ws
  | [], _, _ => rfl
  | b :: u, m, ws => by
    show waysL .any flag ps ks most used (m + 1) u (ws.flatMap (wayB .any flag ps ks most used m b)) = waysL .cut flag ps ks most used (m + 1) u (ws.flatMap (wayB .cut flag ps ks most used m b))
    rw [show wayB .any flag ps ks most used m b = wayB .cut flag ps ks most used m b from funext fun x => way_ac used m b x]
    exact ways_ac used u (m + 1) _
theorem steps_ac (x : Plc) : stepsX ⟨.any, flag, ps, ks, most⟩ x = stepsX ⟨.cut, flag, ps, ks, most⟩ x := by
  have h : ∀ b, waysB .any flag ps ks most x b = waysB .cut flag ps ks most x b := fun b => ways_ac _ _ _ _
  unfold stepsX
  dsimp only
  rw [h, h]
theorem gX_ac (s : PSt) : gX ⟨.any, flag, ps, ks, most⟩ poly s = gX ⟨.cut, flag, ps, ks, most⟩ poly s := by
  unfold gX
  rw [steps_ac]
theorem walk_ac {ms : List Mk} {t : PSt} (w : Bw.Wk (gX ⟨.any, flag, ps, ks, most⟩ poly) (st0S ⟨.any, flag, ps, ks, most⟩ st) ms t) : Bw.Wk (gX ⟨.cut, flag, ps, ks, most⟩ poly) (st0S ⟨.cut, flag, ps, ks, most⟩ st) ms t := by
  have e : gX ⟨.any, flag, ps, ks, most⟩ poly = gX ⟨.cut, flag, ps, ks, most⟩ poly := funext gX_ac
  rw [e] at w
  exact w
theorem walk_ca {ms : List Mk} {t : PSt} (w : Bw.Wk (gX ⟨.cut, flag, ps, ks, most⟩ poly) (st0S ⟨.cut, flag, ps, ks, most⟩ st) ms t) : Bw.Wk (gX ⟨.any, flag, ps, ks, most⟩ poly) (st0S ⟨.any, flag, ps, ks, most⟩ st) ms t := by
  have e : gX ⟨.any, flag, ps, ks, most⟩ poly = gX ⟨.cut, flag, ps, ks, most⟩ poly := funext gX_ac
  rw [← e] at w
  exact w
theorem eX_and {A : NPar} {n : Nat} {s : PSt} : eX A n s = true ↔ s.2.1 = zeroL n ∧ s.2.2 = zeroL n ∧ endB A.hw A.flag A.ps s.1 = true := by
  unfold eX
  rw [Bool.and_eq_true, Bool.and_eq_true, decide_eq_true_eq, decide_eq_true_eq]
/-- an end in any way is one in some way -/
theorem any_some (hf : flag ≠ []) {ms : List Mk} {t : PSt} (w : Bw.Wk (gX ⟨.any, flag, ps, ks, most⟩ poly) (st0S ⟨.any, flag, ps, ks, most⟩ st) ms t) (he : eX ⟨.any, flag, ps, ks, most⟩ st.length t = true) :
    ∃ hw ∈ [How.same, .shift, .cut], ∃ ms2 t2, Bw.Wk (gX ⟨hw, flag, ps, ks, most⟩ poly) (st0S ⟨hw, flag, ps, ks, most⟩ st) ms2 t2 ∧ ms2.length = ms.length ∧ eX ⟨hw, flag, ps, ks, most⟩ st.length t2 = true := by
  obtain ⟨e1, e2, e3⟩ := eX_and.mp he
  rcases Nat.eq_zero_or_pos t.1.2.2.1 with hc | hc
  · obtain ⟨ms2, t2, w2, hl, r1, r2, r3⟩ := walk_bwd (hw := .any) hf w hc
    have e3 : endB .any flag ps t.1 = true := e3
    rw [r1] at e3
    unfold endB imP at e3
    dsimp only at e3
    rw [r3, if_neg (Nat.lt_irrefl 0), unlike_phi] at e3
    split at e3
    · cases e3
    · rename_i hce
      by_cases h0 : t2.1.2.2.2.1.1 = 0
      · refine ⟨.same, by decide, ms2, t2, w2, hl, eX_and.mpr ⟨by rw [← r2]; exact e1, by rw [← r2]; exact e2, ?_⟩⟩
        show endB .same flag ps t2.1 = true
        unfold endB
        rw [r3, if_neg (Nat.lt_irrefl 0), if_neg hce]
        show (decide (t2.1.2.2.2.1.1 = 0) && unlike t2.1.2.2.2.1) = true
        rw [decide_eq_true h0, Bool.true_and]
        exact e3
      · obtain ⟨ms3, t3, w3, hl3, q1, q2, q3⟩ := walk_fwd (hw := .shift) hf w2
        refine ⟨.shift, by decide, ms3, t3, w3, hl3.trans hl, eX_and.mpr ⟨by rw [q2, ← r2]; exact e1, by rw [q2, ← r2]; exact e2, ?_⟩⟩
        show endB .shift flag ps t3.1 = true
        rw [q1]
        unfold endB imP
        dsimp only
        rw [r3, if_neg (Nat.lt_irrefl 0), if_neg hce]
        exact decide_eq_true h0
  · refine ⟨.cut, by decide, ms, t, walk_ac w, rfl, eX_and.mpr ⟨e1, e2, ?_⟩⟩
    have e3 : endB .any flag ps t.1 = true := e3
    show endB .cut flag ps t.1 = true
    unfold endB at e3 ⊢
    rw [if_pos hc] at e3 ⊢
    exact e3
/-- .. and an end in some way is one in any way -/
theorem some_any (hf : flag ≠ []) {hw : How} {ms : List Mk} {t : PSt} (w : Bw.Wk (gX ⟨hw, flag, ps, ks, most⟩ poly) (st0S ⟨hw, flag, ps, ks, most⟩ st) ms t) (he : eX ⟨hw, flag, ps, ks, most⟩ st.length t = true) :
    ∃ ms2 t2, Bw.Wk (gX ⟨.any, flag, ps, ks, most⟩ poly) (st0S ⟨.any, flag, ps, ks, most⟩ st) ms2 t2 ∧ ms2.length = ms.length ∧ eX ⟨.any, flag, ps, ks, most⟩ st.length t2 = true := by
  obtain ⟨e1, e2, e3⟩ := eX_and.mp he
  have key : ∀ (t0 : PSt) (ms0 : List Mk), Bw.Wk (gX ⟨.same, flag, ps, ks, most⟩ poly) (st0S ⟨.same, flag, ps, ks, most⟩ st) ms0 t0 → ms0.length = ms.length → t0.2 = t.2 → canEnd flag ps t0.1.2.1 ≠ false → unlike t0.1.2.2.2.1 = true → ∃ ms2 t2, Bw.Wk (gX ⟨.any, flag, ps, ks, most⟩ poly) (st0S ⟨.any, flag, ps, ks, most⟩ st) ms2 t2 ∧ ms2.length = ms.length ∧ eX ⟨.any, flag, ps, ks, most⟩ st.length t2 = true := by
    intro t0 ms0 w0 hl h2 hce hu
    obtain ⟨ms3, t3, w3, hl3, q1, q2, q3⟩ := walk_fwd (hw := .any) hf w0
    refine ⟨ms3, t3, w3, hl3.trans hl, eX_and.mpr ⟨by rw [q2, h2]; exact e1, by rw [q2, h2]; exact e2, ?_⟩⟩
    show endB .any flag ps t3.1 = true
    rw [q1]
    unfold endB imP
    dsimp only
    rw [q3, if_neg (Nat.lt_irrefl 0), if_neg hce, unlike_phi]
    exact hu
  cases hw with
  | any => exact ⟨ms, t, w, rfl, he⟩
  | cut =>
    refine ⟨ms, t, walk_ca w, rfl, eX_and.mpr ⟨e1, e2, ?_⟩⟩
    have e3 : endB .cut flag ps t.1 = true := e3
    show endB .any flag ps t.1 = true
    unfold endB at e3 ⊢
    rcases Nat.eq_zero_or_pos t.1.2.2.1 with hc | hc
    · rw [hc, if_neg (Nat.lt_irrefl 0)] at e3
      split at e3
      · cases e3
      · cases e3
    · rw [if_pos hc] at e3 ⊢
      exact e3
  | same =>
    have hc := walk_no (hw := .same) rfl hf w
    have e3 : endB .same flag ps t.1 = true := e3
    unfold endB at e3
    rw [hc, if_neg (Nat.lt_irrefl 0)] at e3
    split at e3
    · cases e3
    · rename_i hce
      have e3 : (decide (t.1.2.2.2.1.1 = 0) && unlike t.1.2.2.2.1) = true := e3
      rw [Bool.and_eq_true] at e3
      exact key t ms w rfl rfl hce e3.2
  | shift =>
    have hc := walk_no (hw := .shift) rfl hf w
    obtain ⟨ms0, t0, w0, hl, r1, r2, r3⟩ := walk_bwd (hw := .shift) hf w hc
    have e3 : endB .shift flag ps t.1 = true := e3
    rw [r1] at e3
    unfold endB imP at e3
    dsimp only at e3
    rw [r3, if_neg (Nat.lt_irrefl 0)] at e3
    split at e3
    · cases e3
    · rename_i hce
      have h0 : t0.1.2.2.2.1.1 ≠ 0 := of_decide_eq_true e3
      refine key t0 ms0 w0 hl r2.symm hce ?_
      unfold unlike
      rw [decide_eq_true h0, Bool.true_or]
/-- the least length in any way is the least of those in all ways -/
theorem any_min (hf : flag ≠ []) {f : How → Option Nat} (h : ∀ hw, Lst ⟨hw, flag, ps, ks, most⟩ poly st (f hw)) :
    (f .any = none ∧ ∀ hw ∈ [How.same, .shift, .cut], f hw = none) ∨ ∃ n, f .any = some n ∧ (∃ hw ∈ [How.same, .shift, .cut], f hw = some n) ∧ ∀ hw ∈ [How.same, .shift, .cut], ∀ m, f hw = some m → n ≤ m := by
  have le : ∀ hw, LeO (f .any) (f hw) := fun hw => lst_le (h .any) (h hw) fun ms t w he => some_any hf w he
  cases ea : f .any with
  | none =>
    refine .inl ⟨rfl, fun hw _ => ?_⟩
    cases e : f hw with
    | none => rfl
    | some n =>
      obtain ⟨m, h1, _⟩ := le hw n e
      rw [ea] at h1
      cases h1
  | some n =>
    refine .inr ⟨n, rfl, ?_, fun hw _ m e => ?_⟩
    · have ha := h .any
      rw [ea] at ha
      obtain ⟨⟨ms, t, w, hl, he⟩, _⟩ := ha
      obtain ⟨hw, hm, ms2, t2, w2, hl2, he2⟩ := any_some hf w he
      refine ⟨hw, hm, ?_⟩
      have hb := h hw
      cases eb : f hw with
      | none =>
        rw [eb] at hb
        have := hb _ _ w2
        rw [he2] at this
        cases this
      | some k =>
        rw [eb] at hb
        obtain ⟨m, h1, h2⟩ := le hw k eb
        rw [ea] at h1
        cases h1
        rcases Nat.lt_or_ge n k with h3 | h3
        · have := hb.2 _ _ w2 (by omega)
          rw [he2] at this
          cases this
        · rw [Nat.le_antisymm h3 h2]
    · obtain ⟨k, h1, h2⟩ := le hw m e
      rw [ea] at h1
      cases h1
      exact h2
end
end Own

set_option Elab.async false
set_option linter.all false
set_option maxRecDepth 100000
set_option maxHeartbeats 2000000
/-! unseen: without a hit only a flag that comes too early is unseen -/
namespace Own
open PySem PySem.Spec PyProof.Rows L2 ND
/-- the bits that are put in behind a line -/
def addN (ps : List Stf) : Nat → List Bool → List Bool
  | 0, _ => []
  | n + 1, u => match putL ps u with
    | some b => b :: addN ps n (u ++ [b])
    | none => addN ps n u
theorem puts_addN (ps : List Stf) : ∀ (n : Nat) (u : List Bool), putsN ps n u = u ++ addN ps n u
  | 0, u => (List.append_nil u).symm
  | n + 1, u => by
    show putsN ps n (match putL ps u with | some b => u ++ [b] | none => u) = u ++ (match putL ps u with | some b => b :: addN ps n (u ++ [b]) | none => addN ps n u)
    cases putL ps u with
    | none => exact puts_addN ps n u
    | some b =>
      refine (puts_addN ps n (u ++ [b])).trans ?_
      rw [List.append_assoc]
      rfl
theorem tl_app {ps : List Stf} {u v : List Bool} (h : tlP ps u = tlP ps v) : ∀ z : List Bool, tlP ps (u ++ z) = tlP ps (v ++ z) := by
  intro z
  induction z generalizing u v with
  | nil => rw [List.append_nil, List.append_nil]; exact h
  | cons b z ih =>
    have h2 : tlP ps (u ++ [b]) = tlP ps (v ++ [b]) := by
      have a1 := tailL_snocT (ps.map (·.1)) b u
      have a2 := tailL_snocT (ps.map (·.1)) b v
      have h3 : tailL (ps.map (·.1)) u = tailL (ps.map (·.1)) v := h
      rw [h3] at a1
      exact a1.symm.trans a2
    have := ih h2
    rw [List.append_assoc, List.append_assoc] at this
    exact this
theorem put_tl2 {ps : List Stf} {u v : List Bool} (h : tlP ps u = tlP ps v) : putL ps u = putL ps v := by
  rw [← putL_tl ps u, ← putL_tl ps v]
  exact congrArg (putL ps) h
theorem add_tl {ps : List Stf} : ∀ (n : Nat) {u v : List Bool}, tlP ps u = tlP ps v → addN ps n u = addN ps n v
  | 0, _, _, _ => rfl
  | n + 1, u, v, h => by
    show (match putL ps u with | some b => b :: addN ps n (u ++ [b]) | none => addN ps n u) = (match putL ps v with | some b => b :: addN ps n (v ++ [b]) | none => addN ps n v)
    rw [put_tl2 h]
    cases putL ps v with
    | none => exact add_tl n h
    | some b => exact congrArg (b :: ·) (add_tl n (tl_app h [b]))
theorem tl_snoc (ps : List Stf) (L : List Bool) (b : Bool) : tlP ps (tlP ps L ++ [b]) = tlP ps (L ++ [b]) := tailL_snocT _ b L
theorem raw_body (ps : List Stf) (L : List Bool) (b : Bool) : (lineB ps (tlP ps L) b).drop (tlP ps L).length = b :: addN ps 24 (L ++ [b]) := by
  unfold lineB
  rw [puts_addN, List.append_assoc, List.drop_left, add_tl 24 (tl_snoc ps L b)]
  rfl
theorem sent_body (ps : List Stf) (L : List Bool) (b : Bool) : tlP ps (lineB ps (tlP ps L) b) = tlP ps (putsN ps 24 (L ++ [b])) := by
  unfold lineB
  rw [puts_addN, puts_addN, add_tl 24 (tl_snoc ps L b)]
  exact tl_app (tl_snoc ps L b) _
theorem put_heard (flag : List Bool) (ps : List Stf) (L : List Bool) : putL ps (tailL (flag :: ps.map (·.1)) L) = putL ps L := by
  have h := tailL_sub flag (ps.map (·.1)) L
  rw [← putL_tl ps (tailL (flag :: ps.map (·.1)) L), h, putL_tl]
/-- so much of a flag stands at the line's end, or all of it -/
def Cut (flag L : List Bool) (c : Nat) : Prop := 0 < c ∧ ∃ i, i < L.length ∧ ((c < flag.length ∧ L.drop i = flag.take c) ∨ (c = flag.length ∧ flag <+: L.drop i))
def EarI (flag : List Bool) (ps : List Stf) (L : List Bool) (e : Ear) : Prop := (e.2.1 = 0 ∧ e.1 = tailL (flag :: ps.map (·.1)) L ∧ e.2.2.1 = (0, some [])) ∨ Cut flag L e.2.1
section
variable {flag : List Bool} {ps : List Stf} {hw : How}
theorem drop_in {L : List Bool} {i : Nat} (h : i < L.length) (z : List Bool) : (L ++ z).drop i = L.drop i ++ z := List.drop_append_of_le_length (Nat.le_of_lt h)
theorem cut_step {L : List Bool} {e e' : Ear} {b : Bool} (h : Cut flag L e.2.1) (he : e' ∈ earsB hw flag ps e b) : Cut flag (L ++ [b]) e'.2.1 := by
  obtain ⟨h0, i, hi, h⟩ := h
  have hi2 : i < (L ++ [b]).length := by rw [List.length_append]; omega
  unfold earsB at he
  split at he
  · rename_i ec
    rw [List.mem_singleton.mp he]
    refine ⟨h0, i, hi2, .inr ⟨ec, ?_⟩⟩
    rw [drop_in hi]
    rcases h with ⟨h1, _⟩ | ⟨_, h2⟩
    · omega
    · exact h2.trans (List.prefix_append _ _)
  · rename_i ec
    split at he
    · rename_i eb
      rw [List.mem_singleton.mp he]
      rcases h with ⟨h1, h2⟩ | ⟨h1, _⟩
      · have e3 : (L ++ [b]).drop i = flag.take (e.2.1 + 1) := by
          rw [drop_in hi, h2, List.take_succ, eb]
          rfl
        refine ⟨Nat.succ_pos _, i, hi2, ?_⟩
        rcases Nat.lt_or_ge (e.2.1 + 1) flag.length with h4 | h4
        · exact .inl ⟨h4, e3⟩
        · refine .inr ⟨by show e.2.1 + 1 = flag.length; omega, ?_⟩
          rw [e3, List.take_of_length_le h4]
          exact List.prefix_refl _
      · exact absurd h1 ec
    · cases he
theorem cut_new {L : List Bool} {e' : Ear} {b : Bool} {hd : List Bool} {g : Gp} {rd : List Bool} (he : e' ∈ earsC hw flag ps hd g rd b) : Cut flag (L ++ [b]) e'.2.1 := by
  unfold earsC at he
  split at he
  · rename_i h
    rw [List.mem_singleton.mp he]
    refine ⟨Nat.one_pos, L.length, by rw [List.length_append]; exact Nat.lt_succ_self _, ?_⟩
    rw [List.drop_left]
    obtain ⟨_, h2, _⟩ := h
    cases flag with
    | nil => cases h2
    | cons c u =>
      cases h2
      cases u with
      | nil => exact .inr ⟨rfl, List.prefix_refl _⟩
      | cons d u => exact .inl ⟨by show 1 < u.length + 1 + 1; omega, rfl⟩
  · cases he
theorem heard_snoc (L : List Bool) (b : Bool) : tailL (flag :: ps.map (·.1)) (tailL (flag :: ps.map (·.1)) L ++ [b]) = tailL (flag :: ps.map (·.1)) (L ++ [b]) := tailL_snocT _ b L
theorem ear_put {L : List Bool} {e e' : Ear} {b : Bool} (hf : flag ≠ []) (h : EarI flag ps L e) (hp : putL ps L = some b) (he : e' ∈ earsB hw flag ps e b) : EarI flag ps (L ++ [b]) e' := by
  rcases h with ⟨h0, h1, h2⟩ | h
  · unfold earsB at he
    rw [h0, if_neg (fun z => hf (List.length_eq_zero_iff.mp z.symm)), if_neg (Nat.lt_irrefl 0)] at he
    rcases List.mem_append.mp he with he | he
    · unfold earsH hearB at he
      dsimp only at he
      rw [h1, put_heard, hp, if_neg (by cases b <;> decide)] at he
      split at he
      · cases he
      · rename_i x hx
        split at hx
        · cases hx
        · cases hx
          rw [List.mem_singleton.mp he]
          refine .inl ⟨rfl, heard_snoc L b, ?_⟩
          show gapNew hw e.2.2.1 (if some b = none then [] ++ [b] else []) = _
          rw [if_neg (fun z => nomatch z)]
          exact h2
    · exact .inr (cut_new he)
  · exact .inr (cut_step h he)
theorem ear_new {L : List Bool} {e e' : Ear} {b : Bool} (hf : flag ≠ []) (h0 : e.2.1 = 0) (h1 : e.1 = tailL (flag :: ps.map (·.1)) L) (h2 : e.2.2.1 = (-1, some [b])) (hp : putL ps L = none) (he : e' ∈ earsB hw flag ps e b) : EarI flag ps (L ++ [b]) e' := by
  unfold earsB at he
  rw [h0, if_neg (fun z => hf (List.length_eq_zero_iff.mp z.symm)), if_neg (Nat.lt_irrefl 0)] at he
  rcases List.mem_append.mp he with he | he
  · unfold earsH hearB at he
    dsimp only at he
    rw [h1, put_heard, hp, if_neg (fun z => nomatch z)] at he
    split at he
    · cases he
    · rename_i x hx
      split at hx
      · cases hx
      · cases hx
        rw [List.mem_singleton.mp he]
        refine .inl ⟨rfl, heard_snoc L b, ?_⟩
        show gapNew hw e.2.2.1 (if (none : Option Bool) = none then [] ++ [b] else []) = _
        rw [if_pos rfl, h2]
        show settledG hw (movedG (-1, some [b]) 1 b) 0 = (0, some [])
        have : movedG (-1, some [b]) 1 b = (0, some []) := by cases b <;> decide +kernel
        rw [this]
        cases hw <;> decide +kernel
  · exact .inr (cut_new he)
theorem ears_puts (hf : flag ≠ []) : ∀ (n : Nat) {L : List Bool} {es : List Ear}, (∀ e ∈ es, EarI flag ps L e) → ∀ e ∈ arrE hw flag ps (addN ps n L) es, EarI flag ps (L ++ addN ps n L) e
  | 0, L, es, h, e, he => by
    rw [show addN ps 0 L = [] from rfl, List.append_nil]
    exact h e he
  | n + 1, L, es, h, e, he => by
    cases hp : putL ps L with
    | none =>
      have ea : addN ps (n + 1) L = addN ps n L := by
        show (match putL ps L with | some b => b :: addN ps n (L ++ [b]) | none => addN ps n L) = _
        rw [hp]
      rw [ea] at he ⊢
      exact ears_puts hf n h e he
    | some b =>
      have ea : addN ps (n + 1) L = b :: addN ps n (L ++ [b]) := by
        show (match putL ps L with | some b => b :: addN ps n (L ++ [b]) | none => addN ps n L) = _
        rw [hp]
      rw [ea] at he ⊢
      have h2 : ∀ e ∈ es.flatMap (fun e => earsB hw flag ps e b), EarI flag ps (L ++ [b]) e := fun e he => by
        obtain ⟨e0, h3, h4⟩ := List.mem_flatMap.mp he
        exact ear_put hf (h e0 h3) hp h4
      have := ears_puts hf n h2 e he
      rw [List.append_assoc] at this
      exact this
theorem arr_memN : ∀ (u : List Bool) {es es' : List Ear}, (∀ e ∈ es, e ∈ es') → ∀ e ∈ arrE hw flag ps u es, e ∈ arrE hw flag ps u es'
  | [], _, _, h => h
  | b :: u, _, _, h => arr_memN u fun e he => by
    obtain ⟨e0, h1, h2⟩ := List.mem_flatMap.mp he
    exact List.mem_flatMap.mpr ⟨e0, h e0 h1, h2⟩
/-- without kinds there are no hits -/
theorem ways_noK {most used : Nat} : ∀ (u : List Bool) (n : Nat) {ws : List Way}, ∀ y ∈ waysL hw flag ps [] most used n u ws, y.1 ∈ arrE hw flag ps u (ws.map (·.1))
  | [], _, ws, y, h => List.mem_map.mpr ⟨y, h, rfl⟩
  | b :: u, n, ws, y, h => by
    refine arr_memN u ?_ _ (ways_noK u (n + 1) y h)
    intro e he
    obtain ⟨z, hz, rfl⟩ := List.mem_map.mp he
    obtain ⟨x, hx, hz⟩ := List.mem_flatMap.mp hz
    refine List.mem_flatMap.mpr ⟨x.1, List.mem_map.mpr ⟨x, hx, rfl⟩, ?_⟩
    unfold wayB at hz
    rcases List.mem_append.mp hz with hz | hz
    · obtain ⟨e', he', rfl⟩ := List.mem_map.mp hz
      have : e' ∈ [x.1].flatMap fun e => earsB hw flag ps e b := he'
      rw [List.flatMap_cons, List.flatMap_nil, List.append_nil] at this
      exact this
    · split at hz
      · cases hz
      · cases hz
def PlcI (flag : List Bool) (ps : List Stf) (L : List Bool) (x : Plc) : Prop := x.1 = tlP ps L ∧ ((x.2.2.1 = 0 ∧ x.2.1 = tailL (flag :: ps.map (·.1)) L ∧ x.2.2.2.1 = (0, some [])) ∨ Cut flag L x.2.2.1)
theorem walk_I {most : Nat} {poly st : List Bool} (tm : Tame ps) (hn : putL ps [] = none) (hf : flag ≠ []) {ms : List Mk} {t : PSt} (w : Bw.Wk (gX ⟨.any, flag, ps, [], most⟩ poly) (st0S ⟨.any, flag, ps, [], most⟩ st) ms t) : PlcI flag ps (bodyL ps (ms.map (·.1))) t.1 ∧ putL ps (bodyL ps (ms.map (·.1))) = none := by
  induction w with
  | nil => exact ⟨⟨rfl, .inl ⟨rfl, rfl, rfl⟩⟩, hn⟩
  | @snoc ms p x w hx ih =>
    obtain ⟨⟨i1, i2⟩, i3⟩ := ih
    obtain ⟨q, hq, rfl⟩ := List.mem_map.mp hx
    obtain ⟨b, y, hy, e⟩ := stepsX_src hq
    have eb : (ms ++ [((q.1.2.1, q.2.1) : Mk)]).map (·.1) = ms.map (·.1) ++ [b] := by
      rw [List.map_append, e]
      rfl
    show PlcI flag ps (bodyL ps ((ms ++ [((q.1.2.1, q.2.1) : Mk)]).map (·.1))) q.1.1 ∧ putL ps (bodyL ps ((ms ++ [((q.1.2.1, q.2.1) : Mk)]).map (·.1))) = none
    rw [eb, bodyL_snoc]
    generalize bodyL ps (ms.map (·.1)) = L at i1 i2 i3
    refine ⟨?_, tm _⟩
    have hy2 := ways_noK _ 0 y hy
    rw [i1, raw_body] at hy2
    have hE : EarI flag ps (L ++ [b] ++ addN ps 24 (L ++ [b])) y.1 := by
      refine ears_puts hf 24 ?_ y.1 hy2
      intro e he
      obtain ⟨e0, h1, h2⟩ := List.mem_flatMap.mp he
      rw [List.map_cons, List.map_nil, List.mem_singleton] at h1
      subst h1
      rcases i2 with ⟨j1, j2, j3⟩ | j
      · refine ear_new hf (by exact j1) (by exact j2) ?_ i3 h2
        show settledG .any (movedG p.1.2.2.2.1 (-1) b) p.1.2.2.1 = _
        rw [j3, j1]
        cases b <;> decide +kernel
      · exact .inr (cut_step (by exact j) h2)
    rw [← puts_addN] at hE
    rw [e]
    refine ⟨?_, ?_⟩
    · show tlP ps (lineB ps p.1.1 b) = _
      rw [i1]
      exact sent_body ps L b
    · exact hE
/-- what is unseen without a hit is a message that is spoiled -/
theorem walk_spoilt {most : Nat} {poly st : List Bool} (tm : Tame ps) (hn : putL ps [] = none) (hf : flag ≠ []) {ms : List Mk} {t : PSt} (w : Bw.Wk (gX ⟨.any, flag, ps, [], most⟩ poly) (st0S ⟨.any, flag, ps, [], most⟩ st) ms t) (he : eX ⟨.any, flag, ps, [], most⟩ st.length t = true) : ¬ Kept flag (bodyL ps (ms.map (·.1))) := by
  obtain ⟨⟨_, h⟩, _⟩ := walk_I tm hn hf w
  unfold eX at he
  rw [Bool.and_eq_true, Bool.and_eq_true] at he
  have he := he.2.2
  unfold endB at he
  dsimp only at he
  rcases h with ⟨h1, _, h3⟩ | ⟨h0, i, hi, h⟩
  · rw [h1, h3, if_neg (Nat.lt_irrefl 0)] at he
    split at he
    · cases he
    · exact absurd he (by decide)
  · rw [if_pos h0, Bool.and_eq_true] at he
    have hp := of_decide_eq_true he.2
    intro k
    refine k i hi ?_
    rw [drop_in hi]
    rcases h with ⟨_, h⟩ | ⟨_, h⟩
    · rw [h]
      conv => lhs; rw [← List.take_append_drop t.1.2.2.1 flag]
      exact (List.prefix_append_right_inj _).mpr hp
    · exact h.trans (List.prefix_append _ _)
theorem alone_ok {most n : Nat} {poly st : List Bool} (tm : Tame ps) (hn : putL ps [] = none) (hf : flag ≠ []) (h : Lst ⟨.any, flag, ps, [], most⟩ poly st (some n)) {r : Option (List Bool)} (s : Spo flag ps r) : ∃ M, r = some M ∧ M.length ≤ n := by
  obtain ⟨⟨ms, t, w, hl, he⟩, _⟩ := h
  have hk := walk_spoilt tm hn hf w he
  cases r with
  | none => exact absurd (s _) hk
  | some M =>
    refine ⟨M, rfl, ?_⟩
    rcases Nat.lt_or_ge n M.length with h | h
    · exact absurd (s.2 _ (code_len (by rw [List.length_map, hl]; exact h))) hk
    · exact h
end
end Own

set_option Elab.async false
set_option linter.all false
set_option maxRecDepth 100000
set_option maxHeartbeats 2000000
/-! random rules with the limits that were asked for -/
namespace Own
open PySem PySem.Spec PyProof.Rows L2 ND
structure LRuleS (wi lo : Int) (flag : List Bool) (ps : List Stf) : Prop where
  lr : LRule wi flag ps
  f : (flag.length : Int) ≤ wi
  p : ∀ q ∈ ps, (q.1.length : Int) ≤ lo
def RuVS (wi lo : Int) (H : Hp) (v : V) : Prop := ∃ t flag ps, v = V.ref t ∧ RuAt H t flag ps ∧ LRuleS wi lo flag ps
def spRuleS : Sp := fun vs H Q _ => ∃ (b : Addr) (wi lo : Int), vs = [.ref b, .int wi, .int lo] ∧ BoxAt H b ∧ 3 ≤ wi ∧ wi ≤ 100 ∧ 1 ≤ lo ∧ lo ≤ 4 ∧ ∀ t flag ps H', LRuleS wi lo flag ps → RuAt H' t flag ps → BoxAt H' b → Off b H H' → Q (.ref t) H'
theorem RuVS.same {wi lo : Int} {H H' : Hp} {v : V} (s : Same H H') (h : RuVS wi lo H v) : RuVS wi lo H' v := by
  obtain ⟨t, flag, ps, e, h1, h2⟩ := h
  exact ⟨t, flag, ps, e, h1.same s, h2⟩
theorem RuVS.off {wi lo : Int} {H H' : Hp} {b : Addr} {v : V} (h : RuVS wi lo H v) (hb : BoxAt H b) (o : Off b H H') : RuVS wi lo H' v := by
  obtain ⟨t, flag, ps, e, h1, h2⟩ := h
  exact ⟨t, flag, ps, e, h1.off hb o, h2⟩
/-- rules of at most four bits with patterns of at most two have universes -/
theorem LRuleS.sml {flag : List Bool} {ps : List Stf} (h : LRuleS 4 2 flag ps) : Sml flag ps := by
  have h1 := h.lr.f2
  have h2 := h.f
  refine ⟨h.lr.few, fun p hp => ⟨(h.lr.lens p hp).1, ?_⟩, h.lr.ok.parted, h.lr.ok.ends, fun e => ?_, by omega⟩
  · have := h.p p hp
    omega
  · rw [e] at h1
    exact absurd h1 (by decide)
theorem Sml.sort {flag : List Bool} {ps : List Stf} (k : Sml flag ps) (ok : RuleOk ps) : Sml flag (sortP ps) :=
  ⟨by rw [(sortP_perm ps).length_eq]; exact k.few, fun p hp => k.lens p ((sortP_perm ps).mem_iff.mp hp), ok.sort.parted, ok.sort.ends, k.ne, k.f5⟩
end Own

set_option Elab.async false
set_option linter.all false
set_option maxRecDepth 100000
set_option maxHeartbeats 2000000
/-! what is put in, standing by standing -/
namespace Own
open PySem PySem.Spec PyProof.Rows L2
section
variable {ps : List Stf}
end
end Own

set_option Elab.async false
set_option linter.all false
set_option maxRecDepth 100000
set_option maxHeartbeats 2000000
/-! zip of a text and a list -/
namespace Own
open PySem PySem.Spec PyProof.Rows L2
end Own

set_option Elab.async false
set_option linter.all false
set_option maxRecDepth 100000
set_option maxHeartbeats 2000000
/-! < of data, and the least of a list of data -/
namespace Own
open PySem PySem.Spec PyProof.Rows L2
section
variable {X : Cx}
end
end Own

set_option Elab.async false
set_option linter.all false
set_option maxRecDepth 100000
set_option maxHeartbeats 2000000
/-! list(d.values()) -/
namespace LiV
open PySem PySem.Spec PyProof.Rows L2
section
variable {X : Cx} {e : Expr} {te : TE} {p apos cpos pos : Pos}
end
end LiV

set_option Elab.async false
set_option linter.all false
set_option maxRecDepth 100000
set_option maxHeartbeats 2000000
/-! the levels of messages: for each standing the least of what leads there -/
namespace Own
open PySem PySem.Spec PyProof.Rows L2
section
variable {β : Type} {k : List Bool} {A : List (List Bool × β)} {v : β}
variable {S : V → β → Prop} {kvs : List (Key × V)}
end
section
variable {ps : List Stf}
end
end Own

set_option Elab.async false
set_option linter.all false
set_option maxRecDepth 100000
set_option maxHeartbeats 2000000
/-! levels on the heap -/
namespace Own
open PySem PySem.Spec PyProof.Rows L2
end Own

set_option Elab.async false
set_option linter.all false
set_option maxRecDepth 100000
set_option maxHeartbeats 2000000
/-! the least of a level -/
namespace Own
open PySem PySem.Spec PyProof.Rows L2
end Own

set_option Elab.async false
set_option linter.all false
set_option maxRecDepth 100000
set_option maxHeartbeats 2000000
/-! all that is put in, for all messages of a size -/
namespace Own
open PySem PySem.Spec PyProof.Rows L2
section
variable {ps : List Stf}
end
end Own

set_option Elab.async false
set_option linter.all false
set_option maxRecDepth 100000
set_option maxHeartbeats 2000000
/-! sorted words, any number of them -/
namespace Own
open PySem PySem.Spec PyProof.Rows L2
end Own

set_option Elab.async false
set_option linter.all false
set_option maxRecDepth 100000
set_option maxHeartbeats 2000000
/-! best checks -/
namespace Own
open PySem PySem.Spec PyProof.Rows L2 ND
def polysL (n : Nat) : List (List Bool) := if n = 0 then [[true]] else (wordsL (n - 1)).map fun m => true :: (m ++ [true])
theorem wordsL_each : ∀ (n : Nat) (u : List Bool), u ∈ wordsL n → u.length = n
  | 0, u, h => by rw [List.mem_singleton.mp h]; rfl
  | n + 1, u, h => by
    obtain ⟨v, hv, h2⟩ := List.mem_flatMap.mp h
    have := wordsL_each n v hv
    unfold two at h2
    rcases List.mem_cons.mp h2 with e | h2
    · rw [e]; simp [this]
    · rw [List.mem_singleton.mp h2]; simp [this]
theorem polysL_chk {n : Nat} {p : List Bool} (h : p ∈ polysL n) : p.length = n + 1 ∧ Chk p (List.replicate n false) := by
  unfold polysL at h
  split at h
  · rename_i e
    subst e
    rw [List.mem_singleton.mp h]
    exact ⟨rfl, chk_one⟩
  · rename_i e
    obtain ⟨m, hm, rfl⟩ := List.mem_map.mp h
    have hl := wordsL_each (n - 1) m hm
    refine ⟨by rw [List.length_cons, List.length_append, hl]; show n - 1 + 1 + 1 = _; omega, chk_in (by rw [List.length_replicate, hl]; omega)⟩
theorem tkLst {T : List NdefX.NTab} {H H1 : Hp} {D : Addr} {xs ys : List V} (t : Tk T H H1) (e : H1 D = some (.lst xs)) (hD : H D = none) : Tk T H (upd H1 D (.lst ys)) := by
  refine ⟨fun x o h n => ?_, fun p hp => ?_, fun x hx => ?_⟩
  · rw [upd_ne (ne_of_none h hD)]
    exact t.ext _ _ h n
  · obtain ⟨ps, h1, h2, h3⟩ := t.tab p hp
    refine ⟨ps, by rw [upd_ne (fun z => by rw [z, e] at h1; cases h1)]; exact h1, h2, fun pos cv hc => ?_⟩
    obtain ⟨c', e1, e2⟩ := h3 pos cv hc
    exact ⟨c', e1, by rw [upd_ne (fun z => by rw [z, e] at e2; cases e2)]; exact e2⟩
  · by_cases z : x = D
    · rw [z]
      exact hD
    · rw [upd_ne z] at hx
      exact t.old x hx
end Own

set_option Elab.async false
set_option linter.all false
set_option maxRecDepth 100000
set_option maxHeartbeats 2000000
/-! unseen: random rules, checks of no bits -/
namespace Own
open PySem PySem.Spec PyProof.Rows L2 ND
theorem uok_0 {A : NPar} {UP : List Plc} (h : UPok A UP) (hl : UP.length ≤ 4000000) {poly : List Bool} (ck : Chk poly []) : UOk A poly [] UP (leftsL 0) := by
  have hL : (leftsL 0).length = 1 := by decide
  refine ⟨h.p0, h.pk, h.ps, leftsL_mem.mpr ⟨Nat.le_refl _, rfl⟩, fun l hl => ?_, fun l hl u _ => ?_, ?_, ?_, Nat.zero_le _⟩
  · obtain ⟨m, w⟩ := l
    obtain ⟨h1, h2⟩ := leftsL_mem.mp hl
    refine ⟨by show m ≤ 900; omega, ⟨?_, ck.hd, ck.lt⟩, h2⟩
    show poly.length = w.length + 1
    rw [h2]
    exact ck.len
  · obtain ⟨m, w⟩ := l
    obtain ⟨h1, h2⟩ := leftsL_mem.mp hl
    refine leftsL_mem.mpr ⟨by show m - u.length ≤ _; omega, ?_⟩
    show (restR poly w u).length = _
    rw [restR_len (by rw [h2]; exact ck.len) u, h2]
  · show _ < 2 ^ 24
    rw [hL]
    omega
  · show _ < 2 ^ 24
    rw [hL]
    decide
theorem chk_nil {poly : List Bool} (h : Chk poly []) : poly = [true] := by
  have hl : poly.length = 1 := h.len
  match poly, hl with
  | [b], _ =>
    have := h.hd
    cases b with
    | true => rfl
    | false => first | exact absurd this (by decide) | (cases this)
def oU : Option Nat → V
  | none => .non
  | some n => .int (n : Nat)
abbrev N58 (flag : List Bool) (ps : List Stf) (hw : How) (ks : List Kd) (m : Nat) : NPar := ⟨hw, flag, ps, ks, m⟩
def fL (flag : List Bool) (ps : List Stf) (hw : How) (ks : List Kd) (m : Nat) : Option Nat := lenU (N58 flag ps hw ks m) [true] []
theorem first_oU {A : NPar} {poly : List Bool} : firstU A poly [] = oU (lenU A poly []) := by
  unfold firstU lenU
  cases wayM A poly ([] : List Bool).length (st0S A []) with
  | none => rfl
  | some ms =>
    show V.int (((ms.length : Nat) : Int) - ((0 : Nat) : Int)) = V.int ((ms.length : Nat) : Int)
    congr 1
theorem chk1 : Chk [true] [] := (polysL_chk (n := 0) (p := [true]) (by decide)).2
theorem lst58 {flag : List Bool} {ps : List Stf} (k : Sml flag ps) (hw : How) (ks : List Kd) {m : Nat} (hm : m ≤ 2) : Lst (N58 flag ps hw ks m) [true] [] (fL flag ps hw ks m) :=
  lst_is (uok_0 (k.univ (A := N58 flag ps hw ks m) (by show m ≤ 100; omega)) (Nat.le_trans (uniS_len _) (lvls_2 hm)) chk1)
theorem kinds58 {H : Hp} {b l1 l2 l3 : Addr} (hb : BoxAt H b) (n1 : H l1 = none) (n2 : (upd H l1 (.lst [.str "turn"])) l2 = none) (n3 : (upd (upd H l1 (.lst [.str "turn"])) l2 (.lst [.str "lose", .str "double"])) l3 = none) :
    Same H (upd (upd (upd H l1 (.lst [.str "turn"])) l2 (.lst [.str "lose", .str "double"])) l3 (.lst [.ref l1, .ref l2])) ∧
    (upd (upd (upd H l1 (.lst [.str "turn"])) l2 (.lst [.str "lose", .str "double"])) l3 (.lst [.ref l1, .ref l2])) l3 = some (.lst [.ref l1, .ref l2]) ∧ l3 ≠ b ∧
    ∀ x ∈ [V.ref l1, .ref l2], ∃ k ks, x = .ref k ∧ k ≠ b ∧ (ks = [Kd.turn] ∨ ks = [Kd.lose, .double]) ∧ (upd (upd (upd H l1 (.lst [.str "turn"])) l2 (.lst [.str "lose", .str "double"])) l3 (.lst [.ref l1, .ref l2])) k = some (.lst (kdV ks)) := by
  have s1 := same_new (o := .lst [.str "turn"]) n1
  have e1 : upd H l1 (.lst [.str "turn"]) l1 = some (.lst [.str "turn"]) := upd_same
  have b1 := hb.ne_new n1
  replace hb := hb.same s1
  revert s1 e1 n2 n3
  generalize upd H l1 _ = H1 at *
  intro n2 n3 s1 e1
  have s2 := same_new (o := .lst [.str "lose", .str "double"]) n2
  have e2 : upd H1 l2 (.lst [.str "lose", .str "double"]) l2 = some (.lst [.str "lose", .str "double"]) := upd_same
  have b2 := hb.ne_new n2
  replace hb := hb.same s2
  revert s2 e2 n3
  generalize upd H1 l2 _ = H2 at *
  intro n3 s2 e2
  have s3 := same_new (o := .lst [.ref l1, .ref l2]) n3
  have b3 := hb.ne_new n3
  refine ⟨(s1.trans s2).trans s3, upd_same, b3, fun x hx => ?_⟩
  simp only [List.mem_cons, List.not_mem_nil, or_false] at hx
  rcases hx with rfl | rfl
  · exact ⟨l1, [.turn], rfl, b1, .inl rfl, s3 _ _ (s2 _ _ e1)⟩
  · exact ⟨l2, [.lose, .double], rfl, b2, .inr rfl, s3 _ _ e2⟩
theorem one_at {α : Type} {x y : α} {i : Nat} (h : [x][i]? = some y) : i = 0 ∧ y = x := by
  cases i with
  | zero => exact ⟨rfl, (Option.some.inj h).symm⟩
  | succ i => cases h
theorem ck58 {CC c : Addr} {TT : List NdefX.NTab} {H H' : Hp} {poly st : List Bool} (h : CkAt CC H c poly st) (t : Tk TT H H') : CkAt CC H' c poly st := by
  obtain ⟨dx, h⟩ := h
  exact ⟨dx, t.ext _ _ h fun _ z => by cases z⟩
theorem uo58 {flag : List Bool} {ps : List Stf} (k : Sml flag ps) (hw : How) (ks : List Kd) {m : Nat} (hm : m ≤ 2) : UOk (N58 flag ps hw ks m) [true] [] (uniS (N58 flag ps hw ks m)) (leftsL 0) :=
  uok_0 (k.univ (A := N58 flag ps hw ks m) (by show m ≤ 100; omega)) (Nat.le_trans (uniS_len _) (lvls_2 hm)) chk1
theorem dp58 {K : PySem.W.Frag} {H : Hp} : ∀ ns : List Nat, DpAll K H (ns.map fun n : Nat => V.int (n : Nat)) (ns.map fun n : Nat => PyData.int (n : Nat))
  | [] => .nil
  | n :: ns => .cons (.int _) (dp58 ns)
theorem sh58 (ns : List Nat) (h : ns.length ≤ 3) : SeqAt.shaped (.list (ns.map fun n : Nat => PyData.int (n : Nat))) = true := by
  match ns, h with
  | [], _ => rfl
  | [_], _ => rfl
  | [_, _], _ => rfl
  | [_, _, _], _ => rfl
  | _ :: _ :: _ :: _ :: r, h => exact absurd h (by simp)
theorem ne58 {n : Nat} {ns : List Nat} (h : n ∈ ns) : (!PyData.eqv (.list (ns.map fun n : Nat => PyData.int (n : Nat))) (.list [])) = true := by
  cases ns with
  | nil => cases h
  | cons x r => rfl
theorem min58 {f : How → Option Nat} {es : List (Option Nat)} (hes : es = [f .same, f .shift, f .cut]) {n : Nat} (h : ∃ hw ∈ [How.same, .shift, .cut], f hw = some n) (le : ∀ hw ∈ [How.same, .shift, .cut], ∀ m, f hw = some m → n ≤ m) : n ∈ es.filterMap id ∧ ∀ m ∈ es.filterMap id, n ≤ m := by
  have e : es = [How.same, .shift, .cut].map f := hes
  rw [e]
  refine ⟨?_, fun m hm => ?_⟩
  · obtain ⟨hw, h1, h2⟩ := h
    exact List.mem_filterMap.mpr ⟨some n, List.mem_map.mpr ⟨hw, h1, h2⟩, rfl⟩
  · obtain ⟨o, h1, h2⟩ := List.mem_filterMap.mp hm
    obtain ⟨hw, h3, h4⟩ := List.mem_map.mp h1
    subst h4
    exact le hw h3 m h2
theorem sc58 (o : Option Nat) : scal (oU o) (oU o) = true := by cases o <;> rfl
theorem first_fL {flag : List Bool} {ps : List Stf} {hw : How} {ks : List Kd} {m : Nat} : firstU (N58 flag ps hw ks m) [true] [] = oU (fL flag ps hw ks m) := first_oU
theorem putL_nil58 {flag : List Bool} {ps : List Stf} (k : Sml flag ps) : putL ps [] = none := by
  have h := k.start (A := ⟨.any, flag, ps, [], 0⟩)
  exact h.sp
def spNoLonger : Sp := fun vs H Q _ => ∃ a b : Option Nat, vs = [oU a, oU b] ∧ (LeO a b → Q (.bl true) H) ∧ (¬ LeO a b → Q (.bl false) H)
end Own

set_option Elab.async false
set_option linter.all false
set_option maxRecDepth 100000
set_option maxHeartbeats 2000000
/-! a dict comprehension that is given a name -/
namespace Own
open PySem PySem.Spec PyProof.Rows L2
section
variable {X : Cx}
end
end Own

set_option Elab.async false
set_option linter.all false
set_option maxRecDepth 100000
set_option maxHeartbeats 4000000
namespace La
open PySem PySem.Spec PyProof.Rows L2 Own
open C8 (Cal Mak Met pe_c pe_mk pe_mt pe_mt0 Def fnArgs fnBody fnScope fn0 fnScope_by)
def topS (i : Nat) : Stmt := PySem.Challenge.pw_unseenflips_k58_whole_lengths_and_ways.main.body.getD i (.Pass ⟨0, 0, 0, 0⟩)
section
variable {P : Program} {w : World} {K : PySem.W.Frag} {mg : Str → Option Value} {base : Heap}

abbrev s_seed : Stmt := (topS 51)
theorem sc_seed : FnScope ["_law_script", "_law_k", "_law_cell"] ["_law_script", "_law_k"] (fnScope s_seed) := fnScope_by (by decide +kernel)
theorem ok_seed {f : Addr} {fd : FuncData} (F : C8.Fun K "_law_seed" "_law_seed" s_seed f fd) (M : Mg mg) : FnOk P w K mg base CX0 1 f fd ["_law_script", "_law_k"] (spSeed K) := by
  refine fn0 F sc_seed (fun vs H Q E h => ?_) (fun cdv A outer s H vs Q E hr h => ?_)
  · obtain ⟨a, ns, k, rfl, _⟩ := h
    rfl
  · obtain ⟨a, ns, k, rfl, hS, hl, hk0, hk1, q⟩ := h
    refine ⟨_, (pss_cons (ps_set (i := 2) sc_seed.nd rfl (Or.inl rfl) (pe_op op_add (pe_op op_mul pe_int (pv 1)) pe_int))
        (C8.pss_cut (ps_if (pt_cmpR op_lt (pv 1) (pe_callB call_len_seq (by rfl) M.len PySem.boot_len (pa_cons (pv 0) pa_nil)) (nomark _))
          (pss_one (ps_set (i := 2) sc_seed.nd rfl (Or.inl rfl) (pe_callB call_abs (by rfl) M.abs (by decide +kernel) (pa_cons (pe_ix (r := rIxL K) ix_list (pv 0) (pv 1) (fun _ _ => rfl)) pa_nil))))
          (pss_one (ps_if (pt_cmpR op_gt (pe_callB call_len_seq (by rfl) M.len PySem.boot_len (pa_cons (pv 0) pa_nil)) pe_int (nomark _))
              (pss_one (ps_set (i := 2) sc_seed.nd rfl (Or.inl rfl) (pe_op op_add (pv 2) (pe_op op_mul (pe_op op_mod (pe_callTy call_int1 (by rfl) M.int (by decide +kernel) (pa_cons (pe_callB call_abs (by rfl) M.abs (by decide +kernel) (pa_cons (pe_ix (r := rIxL K) ix_list (pv 0) (pe_op op_mod (pe_callTy call_int1 (by rfl) M.int (by decide +kernel) (pa_cons (pv 1) pa_nil)) (pe_callB call_len_seq (by rfl) M.len PySem.boot_len (pa_cons (pv 0) pa_nil))) (fun _ _ => rfl)) pa_nil)) pa_nil)) pe_int) pe_int))))
              pss_nil)))
        (pss_one (ps_ret (pe_lst (pa_cons (pe_ifExp (pt_cmpR op_ge (pv 2) (pe_op op_pow pe_int pe_int) (nomark _)) (pv 2) pe_int) (pa_cons (pe_op op_add (pe_op op_mod (pe_callTy call_int1 (by rfl) M.int (by decide +kernel) (pa_cons (pe_op op_add (pe_op op_mul (pe_op op_mod (pe_callTy call_int1 (by rfl) M.int (by decide +kernel) (pa_cons (pv 2) pa_nil)) pe_int) pe_int) (pe_op op_mul pe_int (pv 1))) pa_nil)) pe_int) pe_int) pa_nil))))))), ?_⟩
    refine ⟨.int k, rfl, _, k, rfl, rfl, .inl ⟨by decide, by decide⟩, _, _, rfl, rfl, ?_⟩
    refine ⟨fun σ' H' => H' = H ∧ ∃ y : Int, 0 ≤ y ∧ σ' = [some (.ref a), some (.int k), some (.int y)], ?_, ?_⟩
    · refine ⟨.int k, rfl, .ref a, rfl, a, ns.map V.int, rfl, .inl hS, _, _, rfl, rfl, _, rfl, ite2 (fun e => ?_) (fun e => ?_)⟩
      · have e1 : k.toNat < ns.length := by
          have := of_decide_eq_true e
          rw [List.length_map] at this
          omega
        have g : atI (ns.map V.int) k = some (.int ns[k.toNat]) := by
          have := atI_nat (xs := ns.map V.int) (j := k.toNat) (v := .int ns[k.toNat]) (by simp [e1])
          rw [Int.toNat_of_nonneg hk0] at this
          exact this
        exact ⟨.ref a, rfl, .int k, rfl, a, _, _, _, rfl, rfl, hS, g, _, rfl, rfl, _, by split <;> omega, rfl⟩
      · refine ⟨.ref a, rfl, a, ns.map V.int, rfl, .inl hS, _, _, rfl, rfl, _, rfl, ite2 (fun e => ?_) (fun e => ?_)⟩
        · have e1 : 0 < ns.length := by
            have := of_decide_eq_true e
            rw [List.length_map] at this
            omega
          have hm0 : 0 ≤ k % ((ns.length : Nat) : Int) := Int.emod_nonneg _ (by omega)
          have hm1 : k % ((ns.length : Nat) : Int) < (ns.length : Nat) := Int.emod_lt_of_pos _ (by omega)
          have e2 : (k % ((ns.length : Nat) : Int)).toNat < ns.length := by omega
          have g : atI (ns.map V.int) (k % ((ns.length : Nat) : Int)) = some (.int ns[(k % ((ns.length : Nat) : Int)).toNat]) := by
            have := atI_nat (xs := ns.map V.int) (j := (k % ((ns.length : Nat) : Int)).toNat) (v := .int ns[(k % ((ns.length : Nat) : Int)).toNat]) (by simp [e2])
            rw [Int.toNat_of_nonneg hm0] at this
            exact this
          refine ⟨_, rfl, .ref a, rfl, .int k, rfl, .inl ⟨_, rfl, .ref a, rfl, a, ns.map V.int, rfl, .inl hS, _, _, rfl, rfl, (by rw [List.length_map]; omega), a, _, _, _, rfl, rfl, hS, (by rw [List.length_map]; exact g), _, rfl, .inl ⟨_, rfl, _, _, rfl, rfl, (show (0 : Int) < 2147483629 by decide), _, _, rfl, rfl, .inl ⟨?_, ?_⟩, _, _, rfl, rfl, rfl, _, ?_, rfl⟩⟩⟩
          all_goals (have := Int.emod_nonneg (if ns[(k % ((ns.length : Nat) : Int)).toNat] < 0 then -ns[(k % ((ns.length : Nat) : Int)).toNat] else ns[(k % ((ns.length : Nat) : Int)).toNat]) (show (2147483629 : Int) ≠ 0 by decide); have := Int.emod_lt_of_pos (if ns[(k % ((ns.length : Nat) : Int)).toNat] < 0 then -ns[(k % ((ns.length : Nat) : Int)).toNat] else ns[(k % ((ns.length : Nat) : Int)).toNat]) (show (0 : Int) < 2147483629 by decide); omega)
        · exact ⟨rfl, _, by omega, rfl⟩
    · rintro σ' H' ⟨rfl, y, hy, rfl⟩
      have m0 := Int.emod_nonneg y (show (2147483629 : Int) ≠ 0 by decide)
      have m1 := Int.emod_lt_of_pos y (show (0 : Int) < 2147483629 by decide)
      refine ⟨.int y, rfl, _, _, rfl, rfl, ⟨by decide, by decide, by decide⟩, _, _, rfl, rfl, _, rfl, ?_⟩
      refine ite2 (fun e => ?_) (fun e => ?_)
      · refine ⟨.int y, rfl, .int y, rfl, .inl ⟨_, rfl, _, _, rfl, rfl, (show (0 : Int) < 2147483629 by decide), _, _, rfl, rfl, .inl ⟨by omega, by omega⟩, .int k, rfl, _, _, rfl, rfl, .inl ⟨by decide, by decide⟩, _, _, rfl, rfl, .inl ⟨_, rfl, _, _, rfl, rfl, (show (0 : Int) < 2147483629 by decide), _, _, rfl, rfl, (by show 2 ≤ sizeLine; decide), fun p hp => q p _ hp ⟨_, _, upd_same, hy, (mod_box _).1, (mod_box _).2⟩ (same_new hp)⟩⟩⟩
      · refine ⟨.int y, rfl, .inl ⟨_, rfl, _, _, rfl, rfl, (show (0 : Int) < 2147483629 by decide), _, _, rfl, rfl, .inl ⟨by omega, by omega⟩, .int k, rfl, _, _, rfl, rfl, .inl ⟨by decide, by decide⟩, _, _, rfl, rfl, .inl ⟨_, rfl, _, _, rfl, rfl, (show (0 : Int) < 2147483629 by decide), _, _, rfl, rfl, (by show 2 ≤ sizeLine; decide), fun p hp => q p _ hp ⟨_, _, upd_same, Int.le_refl 0, (mod_box _).1, (mod_box _).2⟩ (same_new hp)⟩⟩⟩

abbrev s_choose : Stmt := (topS 52)
theorem sc_choose : FnScope ["_law_box", "_law_many", "_law_digit", "_law_raw"] ["_law_box", "_law_many"] (fnScope s_choose) := fnScope_by (by decide +kernel)
theorem ok_choose {f : Addr} {fd : FuncData} (F : C8.Fun K "_law_choose" "_law_choose" s_choose f fd) (M : Mg mg) : FnOk P w K mg base CX0 1 f fd ["_law_box", "_law_many"] spChoose := by
  refine fn0 F sc_choose (fun vs H Q E h => ?_) (fun cdv A outer s H vs Q E hr h => ?_)
  · obtain ⟨b, m, rfl, _⟩ := h
    rfl
  · obtain ⟨b, m, rfl, ⟨c, d, hb, hc, hd0, hd1⟩, hm0, hm1, q⟩ := h
    refine ⟨_, (pss_cons (ps_if (pt_cmpR op_gt (pe_ix (r := rIxL K) ix_list (pv 0) pe_int (fun _ _ => rfl)) pe_int (nomark _))
          (pss_cons (ps_set (i := 2) sc_choose.nd rfl (Or.inl rfl) (pe_op op_mod (pe_callTy call_int1 (by rfl) M.int (by decide +kernel) (pa_cons (pe_ix (r := rIxL K) ix_list (pv 0) pe_int (fun _ _ => rfl)) pa_nil)) (pv 1)))
            (pss_cons (ps_asg (pe_op op_fdiv (pe_ix (r := rIxL K) ix_list (pv 0) pe_int (fun _ _ => rfl)) (pv 1)) (pg_sub (pv 0) pe_int set_list))
            (pss_one (ps_ret (pv 2)))))
          pss_nil)
        (pss_cons (ps_set (i := 3) sc_choose.nd rfl (Or.inl rfl) (pe_op op_mod (pe_callTy call_int1 (by rfl) M.int (by decide +kernel) (pa_cons (pe_op op_add (pe_op op_mul (pe_ix (r := rIxL K) ix_list (pv 0) pe_int (fun _ _ => rfl)) pe_int) pe_int) pa_nil)) pe_int))
        (pss_cons (ps_asg (pe_op op_add (pe_op op_mod (pe_callTy call_int1 (by rfl) M.int (by decide +kernel) (pa_cons (pe_op op_add (pe_op op_mul (pv 3) pe_int) pe_int) pa_nil)) pe_int) pe_int) (pg_sub (pv 0) pe_int set_list))
        (pss_one (ps_ret (pe_op op_mod (pe_callTy call_int1 (by rfl) M.int (by decide +kernel) (pa_cons (pe_op op_fdiv (pe_op op_add (pe_op op_mul (pv 3) pe_int) (pe_ix (r := rIxL K) ix_list (pv 0) pe_int (fun _ _ => rfl))) pe_int) pa_nil)) (pv 1))))))), ?_⟩
    have S0 : SqL K H b [.int c, .int d] := .inl (.inl hb)
    refine ⟨.ref b, rfl, b, _, 0, _, rfl, rfl, S0, atI0, _, _, rfl, rfl, _, rfl, ite2 (fun e => ?_) (fun e => ?_)⟩
    · have e1 : (0 : Int) < c := of_decide_eq_true e
      refine ⟨.ref b, rfl, b, _, 0, _, rfl, rfl, S0, atI0, .inl ⟨_, rfl, .int m, rfl, _, _, rfl, rfl, (show (0 : Int) < m by omega), ?_⟩⟩
      refine ⟨.ref b, rfl, b, _, 0, _, rfl, rfl, S0, atI0, .int m, rfl, _, _, rfl, rfl, ⟨by omega, by omega⟩, ?_⟩
      refine ⟨.ref b, rfl, b, _, 0, 0, rfl, rfl, hb, rfl, ?_⟩
      refine ⟨_, rfl, q _ _ (mod_in c (show (0 : Int) < m by omega)).1 (mod_in c (show (0 : Int) < m by omega)).2 ⟨_, _, upd_same, Int.ediv_nonneg hc (by omega), hd0, hd1⟩ Off.set⟩
    · refine ⟨.ref b, rfl, b, _, 1, _, rfl, rfl, S0, atI1, _, _, rfl, rfl, .inl ⟨by omega, by omega⟩, _, _, rfl, rfl, .inl ⟨_, rfl, _, _, rfl, rfl, (show (0 : Int) < 2147483563 by decide), ?_⟩⟩
      have r0 := mod_in (d * 40014 + 73) (show (0 : Int) < 2147483563 by decide)
      refine ⟨_, rfl, _, _, rfl, rfl, .inl ⟨by omega, by omega⟩, _, _, rfl, rfl, .inl ⟨_, rfl, _, _, rfl, rfl, (show (0 : Int) < 2147483629 by decide), _, _, rfl, rfl, ?_⟩⟩
      refine ⟨.ref b, rfl, b, _, 1, 1, rfl, rfl, hb, rfl, ?_⟩
      have S1 : SqL K (upd H b (.lst [.int c, .int ((((d * 40014 + 73) % 2147483563) * 40692 + 4703) % 2147483629 + 1)])) b [.int c, .int ((((d * 40014 + 73) % 2147483563) * 40692 + 4703) % 2147483629 + 1)] := .inl (.inl upd_same)
      refine ⟨_, rfl, _, _, rfl, rfl, .inl ⟨by omega, by omega⟩, .ref b, rfl, b, _, 1, _, rfl, rfl, S1, atI1, _, _, rfl, rfl, _, _, rfl, rfl, ⟨by decide, by decide⟩, .inl ⟨_, rfl, .int m, rfl, _, _, rfl, rfl, (show (0 : Int) < m by omega), ?_⟩⟩
      exact q _ _ (mod_in _ (show (0 : Int) < m by omega)).1 (mod_in _ (show (0 : Int) < m by omega)).2 ⟨_, _, upd_same, hc, (mod_box _).1, (mod_box _).2⟩ Off.set

abbrev s_is_word : Stmt := (topS 7)
theorem sc_is_word : FnScope ["value", "least", "letter"] ["value", "least"] (fnScope s_is_word) := fnScope_by (by decide +kernel)
theorem ok_is_word {f : Addr} {fd : FuncData} (F : C8.Fun K "is_word" "is_word" s_is_word f fd) (M : Mg mg) : FnOk P w K mg base CX0 1 f fd ["value", "least"] spIsWord := by
  refine fn0 F sc_is_word (fun vs H Q E h => ?_) (fun cdv A outer s H vs Q E hr h => ?_)
  · obtain ⟨z, n, rfl, _⟩ := h
    rfl
  · obtain ⟨z, n, rfl, hz, q⟩ := h
    refine ⟨_, (pss_one (ps_ret (pe_and (pe_callB call_isi (by rfl) M.isinstance (by decide +kernel) (pa_cons (pv 0) (pa_cons (pe_bltn (v := .ty "str") (u := .type "str") (by rfl) M.str (by decide +kernel) rfl) pa_nil))) (pe_and (pe_cmpR op_ge (pe_callB call_len_str (by rfl) M.len PySem.boot_len (pa_cons (pv 0) pa_nil)) (pv 1) (nomark _)) (pe_one (pe_callB (cr_all rfl) (by rfl) M.all (by decide +kernel) (pa_cons (pe_lc (own := [("letter", 2)]) (g := (gName 2)) rfl sc_is_word.nd (pi_str (pv 0)) (blkOk_by (N := ["value", "least", "letter"]) (sc := fnScope s_is_word) (by decide +kernel)) (fun _ _ _ _ _ => (pg_name (i := 2) sc_is_word.nd rfl (Or.inl rfl))) (fun _ _ _ _ _ => pts_nil) (fun _ _ _ _ _ => (pe_cmpR op_in_sign (pv 2) pe_str (by rfl)))) pa_nil))))))), ?_⟩
    refine ⟨.str (WS z), rfl, _, _, _, _, true, rfl, .ty "str", .base (.str _), kit_ty (by decide +kernel), true, rfl, iteT ?_⟩
    refine ⟨.str (WS z), rfl, _, rfl, ls_len z hz, .int n, rfl, _, _, rfl, rfl, _, rfl, ?_⟩
    rw [WS_len]
    refine ite2 (fun e => ?_) (fun e => ?_)
    · have e1 := of_decide_eq_true e
      refine ⟨.str (WS z), rfl, _, rfl, fun D hD => ?_⟩
      refine lc_it walk_str (fun i H1 => H1 D = some (.lst ((List.replicate i true).map V.bl)) ∧ Same H H1) ⟨upd_same, same_new hD⟩ (fun _ _ _ _ => trivial) (fun i x H1 H2 hi hp hy => ?_) (fun H1 hp => ?_)
      · obtain ⟨rfl, c, hc, rfl⟩ := hy
        obtain ⟨eD, sm⟩ := hp
        rw [WS_get] at hc
        obtain ⟨b, hb, rfl⟩ := Option.map_eq_some_iff.mp hc
        have hm : decide (cd b ∈ ("01" : Str).cps.toList) = true := by cases b <;> decide +kernel
        refine ⟨rfl, _, rfl, cd b, _, rfl, rfl, (List.replicate i true).map V.bl, eD, ?_, ?_, ?_⟩
        · rw [List.length_map, List.length_replicate]
          rw [WS_size] at hi
          exact small1000 (by omega)
        · rw [upd_same, hm, List.replicate_succ', List.map_append]
          rfl
        · intro a o ha
          rw [upd_ne (ne_of_none ha hD)]
          exact sm a o ha
      · obtain ⟨eD, sm⟩ := hp
        refine ⟨D, List.replicate (WS z).cps.size true, rfl, .inl (.inl eD), ?_⟩
        have h1 : (List.replicate (WS z).cps.size true).all id = true := by simp
        rw [h1]
        rw [decide_eq_true e1] at q
        exact q H1 sm
    · have e1 : decide (n ≤ (z.length : Int)) = false := by
        cases h : decide (n ≤ (z.length : Int)) with
        | false => rfl
        | true => exact absurd h e
      rw [e1] at q
      exact q H (Same.refl H)
abbrev s_exchanged : Stmt := (topS 13)
theorem sc_exchanged : FnScope ["word", "marks", "bit", "mark"] ["word", "marks"] (fnScope s_exchanged) := fnScope_by (by decide +kernel)
theorem ok_exchanged {f : Addr} {fd : FuncData} (F : C8.Fun K "exchanged" "exchanged" s_exchanged f fd) (M : Mg mg) : FnOk P w K mg base CX0 1 f fd ["word", "marks"] spExch := by
  refine fn0 F sc_exchanged (fun vs H Q E h => ?_) (fun cdv A outer s H vs Q E hr h => ?_)
  · obtain ⟨a, b, rfl, _⟩ := h
    rfl
  · obtain ⟨a, b, rfl, ha, hb, q⟩ := h
    refine ⟨_, (pss_one (ps_ret (pe_join pe_str (pe_lc (own := [("bit", 2), ("mark", 3)]) (g := (gTup _ 2 (gCons (gName 2) (gCons (gName 3) gNil)))) rfl sc_exchanged.nd (pi_zipS (by rfl) M.zip (pa_cons (pv 0) (pa_cons (pv 1) pa_nil))) (blkOk_by (N := ["word", "marks", "bit", "mark"]) (sc := fnScope s_exchanged) (by decide +kernel)) (fun _ _ _ _ _ => (pg_tup rfl (pgs_cons (pg_name (i := 2) sc_exchanged.nd rfl (Or.inl rfl)) (pgs_cons (pg_name (i := 3) sc_exchanged.nd rfl (Or.inl rfl)) pgs_nil)))) (fun _ _ _ _ _ => pts_nil) (fun _ _ _ _ _ => (pe_ifExp (pt_cmpR op_eq (pv 2) (pv 3) (nomark _)) pe_str pe_str)))))), ?_⟩
    refine ⟨⟨_, rfl⟩, .str (WS a), rfl, .str (WS b), rfl, _, _, rfl, fun D hD => ?_⟩
    refine lc_it walk_itp (fun i H1 => H1 D = some (.lst (bitV ((xorL a b).take i))) ∧ Same H H1) ⟨upd_same, same_new hD⟩ (fun _ _ _ _ => trivial) (fun i x H1 H2 hi hp hy => ?_) (fun H1 hp => ?_)
    · obtain ⟨T, x1, y1, rfl, hT, rfl, g1, g2⟩ := hy
      obtain ⟨eD, sm⟩ := hp
      rw [sgn_WS] at g1 g2
      obtain ⟨u, hu, rfl⟩ := Option.map_eq_some_iff.mp g1
      obtain ⟨v, hv, rfl⟩ := Option.map_eq_some_iff.mp g2
      have nDT : D ≠ T := ne_of_none eD hT
      refine ⟨T, _, rfl, .inl (.inl upd_same), rfl, _, _, rfl, _, _, rfl, rfl, rfl, _, rfl, _, rfl, rfl, _, rfl, ?_⟩
      have hx : (xorL a b)[i]? = some (u ^^ v) := by
        unfold xorL
        rw [List.getElem?_zipWith, hu, hv]
      have ht : (xorL a b).take (i + 1) = (xorL a b).take i ++ [u ^^ v] := by
        rw [List.take_add_one, hx]
        rfl
      have fin : ∃ acc, (upd H1 T (.tup [V.str (WS [u]), V.str (WS [v])])) D = some (.lst acc) ∧ acc.length < sizeLine ∧ (fun i H1 => H1 D = some (.lst (bitV ((xorL a b).take i))) ∧ Same H H1) (i + 1) (upd (upd H1 T (.tup [V.str (WS [u]), V.str (WS [v])])) D (.lst (acc ++ [V.str (WS [u ^^ v])]))) := by
        refine ⟨bitV ((xorL a b).take i), by rw [upd_ne nDT]; exact eD, ?_, ?_, ?_⟩
        · unfold bitV
          rw [List.length_map, List.length_take]
          rw [WS_size, WS_size] at hi
          exact small1000 (by omega)
        · rw [upd_same, ht]
          unfold bitV
          rw [List.map_append]
          rfl
        · intro c o hc
          rw [upd_ne (ne_of_none hc hD), upd_ne (ne_of_none (sm c o hc) hT)]
          exact sm c o hc
      rw [show decide (V.str (WS [u]) = V.str (WS [v])) = decide ([u] = [v]) from eqS [u] [v]]
      refine ite2 (fun e => ?_) (fun e => ?_)
      · have e1 : u = v := by
          have := of_decide_eq_true e
          injection this
        have e2 : (u ^^ v) = false := by rw [e1]; cases v <;> rfl
        rw [e2, WS_0] at fin
        exact fin
      · have e1 : ¬ u = v := fun h => e (decide_eq_true (by rw [h]))
        have e2 : (u ^^ v) = true := by cases u <;> cases v <;> first | rfl | exact absurd rfl e1
        rw [e2, WS_1] at fin
        exact fin
    · obtain ⟨eD, sm⟩ := hp
      have hl : (xorL a b).take (min (WS a).cps.size (WS b).cps.size) = xorL a b := List.take_of_length_le (by
        unfold xorL
        rw [List.length_zipWith, WS_size, WS_size]
        exact Nat.le_refl _)
      rw [hl] at eD
      refine ⟨_, D, (xorL a b).map fun b => WS [b], rfl, rfl, .inl (.inl (.inl ?_)), join_bits_sz _ (by unfold xorL; rw [List.length_zipWith]; omega), ?_⟩
      · rw [eD, List.map_map]
        rfl
      · rw [join_bits]
        exact q H1 sm

abbrev s_is_bit : Stmt := (topS 8)
theorem sc_is_bit : FnScope ["value"] ["value"] (fnScope s_is_bit) := fnScope_by (by decide +kernel)
theorem ok_is_bit {f : Addr} {fd : FuncData} (F : C8.Fun K "is_bit" "is_bit" s_is_bit f fd) (M : Mg mg) (c_is_word_2 : Cal P w K mg base 1 "is_word" spIsWord []) : FnOk P w K mg base CX0 2 f fd ["value"] spIsBit := by
  refine fn0 F sc_is_bit (fun vs H Q E h => ?_) (fun cdv A outer s H vs Q E hr h => ?_)
  · obtain ⟨z, rfl, _⟩ := h
    rfl
  · obtain ⟨z, rfl, hz, q⟩ := h
    refine ⟨_, (pss_one (ps_ret (pe_and (pe_c c_is_word_2 hr (by decide) (by rfl) (pa_cons (pv 0) (pa_cons pe_int pa_nil))) (pe_one (pe_cmpR op_eq (pe_callB call_len_str (by rfl) M.len PySem.boot_len (pa_cons (pv 0) pa_nil)) pe_int (nomark _)))))), ?_⟩
    refine ⟨.str (WS z), rfl, z, 1, rfl, hz, fun H1 s1 => ⟨_, rfl, ite2 (fun e => ?_) (fun e => ?_)⟩⟩
    · refine ⟨.str (WS z), rfl, _, rfl, ls_len z hz, rfl, ?_⟩
      have e1 : decide (V.int ((WS z).length : Int) = V.int 1) = decide (z.length = 1) := by
        rw [WS_len]
        apply decide_eq_decide.mpr
        constructor
        · intro h
          injection h with h
          omega
        · intro h
          rw [h]
          rfl
      rw [e1]
      exact q H1 s1
    · have e1 : decide (z.length = 1) = false := decide_eq_false fun h => e (decide_eq_true (by omega))
      rw [e1] at q
      exact q H1 s1
abbrev s_is_stuff : Stmt := (topS 41)
theorem sc_is_stuff : FnScope ["value"] ["value"] (fnScope s_is_stuff) := fnScope_by (by decide +kernel)
theorem ok_is_stuff {f : Addr} {fd : FuncData} (F : C8.Fun K "is_stuff" "is_stuff" s_is_stuff f fd) (M : Mg mg) (c_is_word_2 : Cal P w K mg base 1 "is_word" spIsWord []) (c_is_bit : Cal P w K mg base 2 "is_bit" spIsBit []) : FnOk P w K mg base CX0 3 f fd ["value"] spIsStuff := by
  refine fn0 F sc_is_stuff (fun vs H Q E h => ?_) (fun cdv A outer s H vs Q E hr h => ?_)
  · obtain ⟨v, p, rfl, _⟩ := h
    rfl
  · obtain ⟨v, ⟨p, b⟩, rfl, ⟨t, rfl, ht⟩, hne, hl, q⟩ := h
    refine ⟨_, (pss_one (ps_ret (pe_and (pe_callB call_isi (by rfl) M.isinstance (by decide +kernel) (pa_cons (pv 0) (pa_cons (pe_bltn (v := .ty "tuple") (u := .type "tuple") (by rfl) M.tuple (by decide +kernel) rfl) pa_nil))) (pe_and (pe_cmpR op_eq (pe_callB call_len_seq (by rfl) M.len PySem.boot_len (pa_cons (pv 0) pa_nil)) pe_int (nomark _)) (pe_and (pe_c c_is_word_2 hr (by decide) (by rfl) (pa_cons (pe_ix (r := rIxT K) ix_tup (pv 0) pe_int (fun _ _ => rfl)) (pa_cons pe_int pa_nil))) (pe_one (pe_c c_is_bit hr (by decide) (by rfl) (pa_cons (pe_ix (r := rIxT K) ix_tup (pv 0) pe_int (fun _ _ => rfl)) pa_nil)))))))), ?_⟩
    have hp : 0 < p.length := List.length_pos_iff.mpr hne
    refine ⟨.ref t, rfl, _, _, _, _, true, rfl, .ty "tuple", .base (.tup ht), kit_ty (by decide +kernel), true, rfl, iteT ?_⟩
    refine ⟨.ref t, rfl, t, _, rfl, .inr (.inl (.inl ht)), rfl, _, rfl, ?_⟩
    refine iteT ⟨.ref t, rfl, t, _, 0, _, rfl, rfl, .inl (.inl ht), atI0, p, 1, rfl, by simp at hl; omega, fun H1 s1 => ⟨_, rfl, ?_⟩⟩
    rw [decide_eq_true (show (1 : Int) ≤ (p.length : Int) by omega)]
    refine iteT ⟨.ref t, rfl, t, _, 1, _, rfl, rfl, .inl (.inl (s1 _ _ ht)), atI1, [b], rfl, (by show 1 ≤ 1000; decide), fun H2 s2 => ?_⟩
    exact q H2 (s1.trans s2)
abbrev s_one_ends_with_another : Stmt := (topS 42)
theorem sc_one_ends_with_another : FnScope ["patterns", "at", "pattern", "other"] ["patterns"] (fnScope s_one_ends_with_another) := fnScope_by (by decide +kernel)
theorem ok_one_ends {f : Addr} {fd : FuncData} (F : C8.Fun K "one_ends_with_another" "one_ends_with_another" s_one_ends_with_another f fd) (M : Mg mg) : FnOk P w K mg base CX0 1 f fd ["patterns"] spOneEnds := by
  refine fn0 F sc_one_ends_with_another (fun vs H Q E h => ?_) (fun cdv A outer s H vs Q E hr h => ?_)
  · obtain ⟨l, ws, rfl, _⟩ := h
    rfl
  · obtain ⟨l, ws, rfl, hl, hz, q⟩ := h
    refine ⟨_, (pss_cons (ps_for PassesOwn.never rfl (pi_enum (by rfl) M.enumerate (pa_cons (pv 0) pa_nil)) (pg_tup rfl (pgs_cons (pg_name (i := 1) sc_one_ends_with_another.nd rfl (Or.inl rfl)) (pgs_cons (pg_name (i := 2) sc_one_ends_with_another.nd rfl (Or.inl rfl)) pgs_nil)))
          (pss_one (ps_for PassesOwn.never rfl (pi_list (pe_op op_cat (pe_slice sl_list (pv 0) po_none (po_some (pv 1))) (pe_slice sl_list (pv 0) (po_some (pe_op op_add (pv 1) pe_int)) po_none))) (pg_name (i := 3) sc_one_ends_with_another.nd rfl (Or.inl rfl))
              (pss_one (ps_if (pt_val (pe_m1 PySem.F.slot_str_endswith PySem.F.type_str_endswith mt_endswith (pv 2) (pv 3)))
                  (pss_one (ps_ret pe_bl))
                  pss_nil)))))
        (pss_one (ps_ret pe_bl))), ?_⟩
    refine ⟨.ref l, rfl, l, _, rfl, .inl (.inl hl), ?_⟩
    refine for_it (walk_enum (K := K) (a := l) (xs := strV ws)) (fun i σ H1 => ∃ x1 x2 x3, σ = [some (.ref l), x1, x2, x3] ∧ Same H H1 ∧ ((List.range ws.length).take i).all (partedAt ws) = true)
      ⟨none, none, none, rfl, Same.refl H, rfl⟩ (fun i σ H1 _ hp => ?_) (fun i x σ H1o H1 hi hp hy => ?_) (fun σ H1 hp => ?_)
    · obtain ⟨_, _, _, _, s1, _⟩ := hp
      exact .inl (.inl (s1 _ _ hl))
    · obtain ⟨T, x1, y1, rfl, hT, rfl, g1, g2⟩ := hy
      obtain ⟨x1, x2, x3, rfl, s1, hall⟩ := hp
      cases g1
      obtain ⟨pat, hpat, rfl⟩ := strV_get g2
      rw [strV_len] at hi
      have sT : Same H1o (upd H1o T (.tup [V.int (i : Nat), V.str (WS pat)])) := same_new hT
      have s2 := s1.trans sT
      refine ⟨T, _, rfl, .inl (.inl upd_same), rfl, _, _, rfl, _, _, rfl, rfl, ?_⟩
      refine ⟨.ref l, rfl, .int (i : Nat), rfl, _, rfl, l, _, rfl, .inl (.inl (s2 _ _ hl)), fun p1 hp1 => ?_⟩
      have s3 := s2.trans (same_new (o := .lst (cutV (strV ws) none (some (i : Int)))) hp1)
      refine ⟨.ref l, rfl, .int (i : Nat), rfl, _, _, rfl, rfl, _, rfl, l, _, rfl, .inl (.inl (s3 _ _ hl)), fun p2 hp2 => ?_⟩
      have s4 := s3.trans (same_new (o := .lst (cutV (strV ws) (some ((i : Int) + 1)) none)) hp2)
      have e1 : cutV (strV ws) none (some (i : Int)) = strV (ws.take i) := by rw [cutV_to, strV_take]
      have e2 : cutV (strV ws) (some ((i : Int) + 1)) none = strV (ws.drop (i + 1)) := by
        rw [show ((i : Int) + 1) = ((i + 1 : Nat) : Int) from rfl, cutV_from _ (by rw [strV_len]; omega), strV_drop]
      have n12 : p1 ≠ p2 := ne_of_none upd_same hp2
      refine ⟨p1, p2, strV (ws.take i), strV (ws.drop (i + 1)), rfl, rfl, by rw [upd_ne n12, upd_same, e1], by rw [upd_same, e2], ?_, fun p hp => ?_⟩
      · rw [strV_len, strV_len, List.length_take, List.length_drop]
        exact Nat.le_of_lt (small1000 (by omega))
      have s5 := s4.trans (same_new (o := .lst (strV (ws.take i) ++ strV (ws.drop (i + 1)))) hp)
      rw [← strV_app] at s5 ⊢
      refine ⟨p, rfl, ⟨_, .inl (.inl upd_same)⟩, ?_⟩
      have hgd : ws.getD i [] = pat := by rw [List.getD_eq_getElem?_getD, hpat]; rfl
      refine for_it (walk_list (K := K) (a := p) (xs := strV (ws.take i ++ ws.drop (i + 1)))) (fun j σ H2 => ∃ x3, σ = [some (.ref l), some (.int (i : Nat)), some (.str (WS pat)), x3] ∧ Same H H2 ∧ H2 p = some (.lst (strV (ws.take i ++ ws.drop (i + 1)))) ∧ ((ws.take i ++ ws.drop (i + 1)).take j).all (fun o => !(decide (o <:+ pat))) = true)
        ⟨x3, rfl, s5, upd_same, rfl⟩ (fun j σ H2 _ hp => ?_) (fun j x σ H2o H2 hj hp hy => ?_) (fun σ H2 hp => ?_)
      · obtain ⟨_, _, _, e, _⟩ := hp
        exact .inl (.inl e)
      · obtain ⟨rfl, hx⟩ := hy
        obtain ⟨x3, rfl, s6, ep, hal⟩ := hp
        obtain ⟨o, ho, rfl⟩ := strV_get hx
        refine ⟨.str (WS pat), rfl, ⟨_, rfl⟩, .str (WS o), rfl, _, _, rfl, rfl, _, rfl, ?_⟩
        rw [ends_WS]
        refine ite2 (fun e => ?_) (fun e => ?_)
        · have hb : partedAt ws i = false := by
            unfold partedAt
            rw [hgd]
            exact all_not ho (by rw [e]; rfl)
          have hB : partedB ws = false := all_not (i := i) (x := i) (by rw [List.getElem?_range hi]) hb
          rw [hB] at q
          exact q H2 s6
        · refine ⟨_, rfl, s6, ep, all_take_succ ho hal ?_⟩
          cases h : decide (o <:+ pat) with
          | true => exact absurd h e
          | false => rfl
      · obtain ⟨x3, rfl, s6, ep, hal⟩ := hp
        rw [strV_len, List.take_length] at hal
        refine ⟨_, _, _, rfl, s6, all_take_succ (x := i) (by rw [List.getElem?_range hi]) hall ?_⟩
        unfold partedAt
        rw [hgd]
        exact hal
    · obtain ⟨x1, x2, x3, rfl, s1, hall⟩ := hp
      rw [strV_len, List.take_of_length_le (by rw [List.length_range]; exact Nat.le_refl _)] at hall
      have hB : partedB ws = true := hall
      rw [hB] at q
      exact q H1 s1

abbrev s_are_stuffs : Stmt := (topS 43)
theorem sc_are_stuffs : FnScope ["value", "part", "pattern", "bit"] ["value"] (fnScope s_are_stuffs) := fnScope_by (by decide +kernel)
theorem ok_are_stuffs {f : Addr} {fd : FuncData} (F : C8.Fun K "are_stuffs" "are_stuffs" s_are_stuffs f fd) (M : Mg mg) (c_is_stuff : Cal P w K mg base 3 "is_stuff" spIsStuff []) (c_one_ends_with_another : Cal P w K mg base 1 "one_ends_with_another" spOneEnds []) : FnOk P w K mg base CX0 4 f fd ["value"] (spStuffs K) := by
  refine fn0 F sc_are_stuffs (fun vs H Q E h => ?_) (fun cdv A outer s H vs Q E hr h => ?_)
  · obtain ⟨l, o, xs, ps, rfl, _⟩ := h
    rfl
  · obtain ⟨l, o, xs, ps, rfl, hl, hp, ok, q⟩ := h
    refine ⟨_, (pss_cons (ps_if (PW.pt (pw_or (pt_not (pt_val (pe_callB call_isiT (by rfl) M.isinstance (by decide +kernel) (pa_cons (pv 0) (pa_cons (pe_tup (pa_cons (pe_bltn (v := .ty "list") (u := .type "list") (by rfl) M.list (by decide +kernel) rfl) (pa_cons (pe_bltn (v := .ty "tuple") (u := .type "tuple") (by rfl) M.tuple (by decide +kernel) rfl) pa_nil))) pa_nil))))) (pw_or1 (pt_not (pt_val (pe_callB (cr_all rfl) (by rfl) M.all (by decide +kernel) (pa_cons (pe_lc (own := [("part", 1)]) (g := (gName 1)) rfl sc_are_stuffs.nd (pi_seq (pi_list (pv 0)) (pi_tup (pv 0))) (blkOk_by (N := ["value", "part", "pattern", "bit"]) (sc := fnScope s_are_stuffs) (by decide +kernel)) (fun _ _ _ _ _ => (pg_name (i := 1) sc_are_stuffs.nd rfl (Or.inl rfl))) (fun _ _ _ _ _ => pts_nil) (fun _ _ _ _ _ => (pe_c c_is_stuff hr (by decide) (by rfl) (pa_cons (pv 1) pa_nil)))) pa_nil)))))))
          (pss_one (ps_ret pe_bl))
          pss_nil)
        (pss_one (ps_ret (pe_not (pe_c c_one_ends_with_another hr (by decide) (by rfl) (pa_cons (pe_lc (own := [("pattern", 2), ("bit", 3)]) (g := (gTup _ 2 (gCons (gName 2) (gCons (gName 3) gNil)))) rfl sc_are_stuffs.nd (pi_seq (pi_list (pv 0)) (pi_tup (pv 0))) (blkOk_by (N := ["value", "part", "pattern", "bit"]) (sc := fnScope s_are_stuffs) (by decide +kernel)) (fun _ _ _ _ _ => (pg_tup rfl (pgs_cons (pg_name (i := 2) sc_are_stuffs.nd rfl (Or.inl rfl)) (pgs_cons (pg_name (i := 3) sc_are_stuffs.nd rfl (Or.inl rfl)) pgs_nil)))) (fun _ _ _ _ _ => pts_nil) (fun _ _ _ _ _ => (pv 2))) pa_nil)))))), ?_⟩
    have hxl : xs.length = ps.length := hp.len
    have few := ok.few
    refine ⟨.ref l, rfl, by show 2 ≤ sizeLine; decide, fun tp htp => ?_⟩
    have s1 : Same H (upd H tp (.tup [.ty "list", .ty "tuple"])) := same_new htp
    obtain ⟨t, tx, kx⟩ := (hl.same s1).ty
    refine ⟨_, tp, [.ty "list", .ty "tuple"], t, [.type "list", .type "tuple"], true, rfl, upd_same, .cons (.ty _) (.cons (.ty _) .nil), tx, kx, true, rfl, iteF ?_⟩
    -- all([is_stuff(part) for part in value])
    refine ⟨l, o, xs, rfl, hl.same s1, fun J W D hD => ?_⟩
    have s2 := s1.trans (same_new (o := .lst []) hD)
    refine lc_it W (fun i H1 => H1 D = some (.lst ((List.replicate i true).map V.bl)) ∧ Same H H1) ⟨upd_same, s2⟩ (fun i H1 _ h => hl.same h.2) (fun i x H1o H1 hi hp1 hy => ?_) (fun H1 hp1 => ?_)
    · obtain ⟨rfl, hx⟩ := hy
      obtain ⟨eD, sm⟩ := hp1
      obtain ⟨p, hpi, pa⟩ := hp.get hx
      have hpm := List.mem_of_getElem? hpi
      refine ⟨rfl, x, rfl, x, p, rfl, pa.kp (kp_same sm), ok.ne p hpm, Nat.le_trans (ok.len p hpm) (by decide), fun H2 s12 => ⟨_, s12 _ _ eD, ?_, ?_, fun a u ha => ?_⟩⟩
      · rw [List.length_map, List.length_replicate]
        exact small1000 (by omega)
      · rw [upd_same, List.replicate_succ', List.map_append]
        rfl
      · rw [upd_ne (fun e => by rw [e] at ha; rw [s1 _ _ ha] at hD; cases hD)]
        exact s12 _ _ (sm _ _ ha)
    · obtain ⟨eD, sm⟩ := hp1
      refine ⟨D, List.replicate xs.length true, rfl, .inl (.inl eD), true, ?_, iteF ?_⟩
      · congr 1
        simp
      -- the patterns
      refine ⟨l, o, xs, rfl, hl.same sm, fun J W D2 hD2 => ?_⟩
      have s3 := sm.trans (same_new (o := .lst []) hD2)
      have fin : ∀ H3 l2, H3 l2 = some (.lst (strV (ps.map (·.1)))) → Same H H3 → spOneEnds [.ref l2] H3 (fun x H4 => ∃ c, x = .bl c ∧ Q (.bl (!c)) H4) E0 := fun H3 l2 e3 s3 =>
        ⟨l2, ps.map (·.1), rfl, e3, by rw [List.length_map]; omega, fun H4 s4 => ⟨_, rfl, by rw [ok.parted]; exact q H4 (s3.trans s4)⟩⟩
      refine lc_it W (fun i H1 => H1 D2 = some (.lst (strV ((ps.map (·.1)).take i))) ∧ Same H H1) ⟨upd_same, s3⟩ (fun i H1 _ h => hl.same h.2) (fun i x H1o H1 hi hp1 hy => ?_) (fun H1 hp1 => ?_)
      · obtain ⟨rfl, hx⟩ := hy
        obtain ⟨eD2, sm2⟩ := hp1
        obtain ⟨p, hpi, t, rfl, ht⟩ := hp.get hx
        refine ⟨t, _, rfl, .inl (.inl (sm2 _ _ ht)), rfl, _, _, rfl, _, _, rfl, rfl, rfl, _, rfl, strV ((ps.map (·.1)).take i), eD2, ?_, ?_, fun a u ha => ?_⟩
        · rw [strV_len, List.length_take, List.length_map]
          exact small1000 (by omega)
        · rw [upd_same, List.take_add_one, List.getElem?_map, hpi, strV_app]
          rfl
        · rw [upd_ne (fun e => by rw [e] at ha; rw [sm _ _ ha] at hD2; cases hD2)]
          exact sm2 _ _ ha
      · obtain ⟨eD2, sm2⟩ := hp1
        rw [List.take_of_length_le (by rw [List.length_map, hxl]; exact Nat.le_refl _)] at eD2
        exact fin H1 D2 eD2 sm2
abbrev s_longest_pattern : Stmt := (topS 44)
theorem sc_longest_pattern : FnScope ["stuffs", "pattern", "bit"] ["stuffs"] (fnScope s_longest_pattern) := fnScope_by (by decide +kernel)
theorem ok_longest {f : Addr} {fd : FuncData} (F : C8.Fun K "longest_pattern" "longest_pattern" s_longest_pattern f fd) (M : Mg mg) : FnOk P w K mg base CX0 1 f fd ["stuffs"] (spLongest K) := by
  refine fn0 F sc_longest_pattern (fun vs H Q E h => ?_) (fun cdv A outer s H vs Q E hr h => ?_)
  · obtain ⟨l, o, xs, ps, rfl, _⟩ := h
    rfl
  · obtain ⟨l, o, xs, ps, rfl, hl, hp, few, hlen, q⟩ := h
    refine ⟨_, (pss_one (ps_ret (pe_callBK (cr_maxD rfl hr.units) (by rfl) M.max (by decide +kernel) (pa_cons (pe_lc (own := [("pattern", 1), ("bit", 2)]) (g := (gTup _ 2 (gCons (gName 1) (gCons (gName 2) gNil)))) rfl sc_longest_pattern.nd (pi_seq (pi_list (pv 0)) (pi_tup (pv 0))) (blkOk_by (N := ["stuffs", "pattern", "bit"]) (sc := fnScope s_longest_pattern) (by decide +kernel)) (fun _ _ _ _ _ => (pg_tup rfl (pgs_cons (pg_name (i := 1) sc_longest_pattern.nd rfl (Or.inl rfl)) (pgs_cons (pg_name (i := 2) sc_longest_pattern.nd rfl (Or.inl rfl)) pgs_nil)))) (fun _ _ _ _ _ => pts_nil) (fun _ _ _ _ _ => (pe_callB call_len_str (by rfl) M.len PySem.boot_len (pa_cons (pv 1) pa_nil)))) pa_nil) (pk_cons pe_int pk_nil)))), ?_⟩
    have hxl : xs.length = ps.length := hp.len
    refine ⟨l, o, xs, rfl, hl, fun J W D hD => ?_⟩
    refine lc_it W (fun i H1 => H1 D = some (.lst (((ps.map fun p => (p.1.length : Int)).take i).map V.int)) ∧ Same H H1) ⟨upd_same, same_new hD⟩ (fun i H1 _ h => hl.same h.2) (fun i x H1o H1 hi hp1 hy => ?_) (fun H1 hp1 => ?_)
    · obtain ⟨rfl, hx⟩ := hy
      obtain ⟨eD, sm⟩ := hp1
      obtain ⟨p, hpi, t, rfl, ht⟩ := hp.get hx
      have hpm := List.mem_of_getElem? hpi
      refine ⟨t, _, rfl, .inl (.inl (sm _ _ ht)), rfl, _, _, rfl, _, _, rfl, rfl, rfl, _, rfl, _, rfl, ls_len _ (Nat.le_trans (hlen p hpm) (by decide)), ((ps.map fun p => (p.1.length : Int)).take i).map V.int, eD, ?_, ?_, fun a u ha => ?_⟩
      · rw [List.length_map, List.length_take, List.length_map]
        exact small1000 (by omega)
      · rw [upd_same, WS_len, List.take_add_one, List.getElem?_map, hpi, List.map_append]
        rfl
      · rw [upd_ne (ne_of_none ha hD)]
        exact sm _ _ ha
    · obtain ⟨eD, sm⟩ := hp1
      rw [List.take_of_length_le (by rw [List.length_map, hxl]; exact Nat.le_refl _)] at eD
      have hf : ∀ (ls : List Nat) (a : Nat), ((ls.foldl max a : Nat) : Int) = (ls.map (fun n : Nat => (n : Int))).foldl max (a : Int) := by
        intro ls
        induction ls with
        | nil => intro a; rfl
        | cons x r ih =>
          intro a
          rw [List.foldl_cons, ih, List.map_cons, List.foldl_cons]
          congr 1
          omega
      have hq : (longL ps : Int) = ((ps.map fun p => p.1.length).map (fun n : Nat => (n : Int))).foldl max 0 := hf _ 0
      refine ⟨D, ps.map fun p => (p.1.length : Int), rfl, rfl, .inl (.inl eD), fun e => ?_, fun n r e => ?_⟩
      · have : ps = [] := by simpa using e
        subst this
        exact q H1 sm
      · have h1 : ((ps.map fun p => p.1.length).map (fun n : Nat => (n : Int))) = n :: r := by rw [List.map_map]; exact e
        rw [h1, List.foldl_cons] at hq
        have hn : (0 : Int) ≤ n := by
          have : n ∈ ps.map fun p => (p.1.length : Int) := by rw [e]; exact List.mem_cons_self
          obtain ⟨p, _, rfl⟩ := List.mem_map.mp this
          omega
        rw [show max (0 : Int) n = n by omega] at hq
        rw [← hq]
        exact q H1 sm
abbrev s_bit_behind : Stmt := (topS 45)
theorem sc_bit_behind : FnScope ["stuffs", "line", "pattern", "bit"] ["stuffs", "line"] (fnScope s_bit_behind) := fnScope_by (by decide +kernel)
theorem ok_behind {f : Addr} {fd : FuncData} (F : C8.Fun K "bit_behind" "bit_behind" s_bit_behind f fd) (M : Mg mg) : FnOk P w K mg base CX0 1 f fd ["stuffs", "line"] (spBehind K) := by
  refine fn0 F sc_bit_behind (fun vs H Q E h => ?_) (fun cdv A outer s H vs Q E hr h => ?_)
  · obtain ⟨l, o, xs, ps, line, rfl, _⟩ := h
    rfl
  · obtain ⟨l, o, xs, ps, line, rfl, hl, hp, q⟩ := h
    refine ⟨_, (pss_cons (ps_for PassesOwn.never rfl (pi_seq (pi_list (pv 0)) (pi_tup (pv 0))) (pg_tup rfl (pgs_cons (pg_name (i := 2) sc_bit_behind.nd rfl (Or.inl rfl)) (pgs_cons (pg_name (i := 3) sc_bit_behind.nd rfl (Or.inl rfl)) pgs_nil)))
          (pss_one (ps_if (pt_val (pe_m1 PySem.F.slot_str_endswith PySem.F.type_str_endswith mt_endswith (pv 1) (pv 2)))
              (pss_one (ps_ret (pv 3)))
              pss_nil)))
        (pss_one (ps_ret pe_non))), ?_⟩
    refine ⟨l, o, xs, rfl, hl, fun J W => ?_⟩
    refine for_it W (fun i σ H1 => ∃ x2 x3, σ = [some (.ref l), some (.str (WS line)), x2, x3] ∧ Same H H1 ∧ ∀ j p, j < i → ps[j]? = some p → ¬ p.1 <:+ line) ⟨none, none, rfl, Same.refl H, fun j p h => absurd h (Nat.not_lt_zero j)⟩
      (fun i σ H1 _ h => by obtain ⟨_, _, _, s1, _⟩ := h; exact hl.same s1) (fun i x σ H1o H1 hi hp1 hy => ?_) (fun σ H1 hp1 => ?_)
    · obtain ⟨rfl, hx⟩ := hy
      obtain ⟨x2, x3, rfl, sm, no⟩ := hp1
      obtain ⟨p, hpi, t, rfl, ht⟩ := hp.get hx
      refine ⟨t, _, rfl, .inl (.inl (sm _ _ ht)), rfl, _, _, rfl, _, _, rfl, rfl, ?_⟩
      refine ⟨.str (WS line), rfl, ⟨_, rfl⟩, .str (WS p.1), rfl, _, _, rfl, rfl, _, rfl, ?_⟩
      rw [ends_WS]
      refine ite2 (fun e => ?_) (fun e => ?_)
      · have := putL_at hpi (of_decide_eq_true e) no
        rw [this] at q
        exact ⟨_, rfl, q H1 sm⟩
      · refine ⟨_, _, rfl, sm, fun j p' hj hpj => ?_⟩
        by_cases h : j < i
        · exact no j p' h hpj
        · have : j = i := by omega
          subst this
          rw [hpi] at hpj
          cases hpj
          exact fun h => e (decide_eq_true h)
    · obtain ⟨x2, x3, rfl, sm, no⟩ := hp1
      have := putL_none (line := line) (ps := ps) fun p hpm => by
        obtain ⟨j, hj⟩ := List.getElem?_of_mem hpm
        exact no j p (by rw [hp.len]; exact (List.getElem?_eq_some_iff.mp hj).1) hj
      rw [this] at q
      exact q H1 sm

abbrev s_never_ends : Stmt := (topS 46)
theorem sc_never_ends : FnScope ["stuffs", "line", "longest", "seen", "bit"] ["stuffs", "line"] (fnScope s_never_ends) := fnScope_by (by decide +kernel)
theorem ok_never {f : Addr} {fd : FuncData} (F : C8.Fun K "never_ends" "never_ends" s_never_ends f fd) (M : Mg mg) (c_longest_pattern : Cal P w K mg base 1 "longest_pattern" (spLongest K) []) (c_bit_behind : Cal P w K mg base 1 "bit_behind" (spBehind K) []) : FnOk P w K mg base CX0 2 f fd ["stuffs", "line"] (spNever K) := by
  refine fn0 F sc_never_ends (fun vs H Q E h => ?_) (fun cdv A outer s H vs Q E hr h => ?_)
  · obtain ⟨l, o, xs, ps, line, rfl, _⟩ := h
    rfl
  · obtain ⟨l, o, xs, ps, line, rfl, hl, hp, ok, hn, he, q⟩ := h
    refine ⟨_, (pss_cons (ps_set (i := 2) sc_never_ends.nd rfl (Or.inl rfl) (pe_c c_longest_pattern hr (by decide) (by rfl) (pa_cons (pv 0) pa_nil)))
        (pss_cons (ps_set (i := 3) sc_never_ends.nd rfl (Or.inl rfl) (pe_callTy0 cr_set0K (by rfl) M.set (by decide +kernel)))
        (pss_cons (ps_set (i := 4) sc_never_ends.nd rfl (Or.inl rfl) (pe_c c_bit_behind hr (by decide) (by rfl) (pa_cons (pv 0) (pa_cons (pv 1) pa_nil))))
        (pss_cons (ps_while PassesOwn.never (pt_cmpR op_notN (pv 4) pe_non (nomark _))
          (pss_cons (ps_set (i := 1) sc_never_ends.nd rfl (Or.inl rfl) (pe_slice sl_str (pe_op op_add_str (pv 1) (pv 4)) (po_some (pe_un un_neg (pv 2))) po_none))
            (pss_cons (ps_if (pt_cmpR or_sinK (pv 1) (pv 3) (by rfl))
              (pss_one (ps_ret pe_bl))
              pss_nil)
            (pss_cons (ps_expr (pe_saddK (pv 3) (pa_cons (pv 1) pa_nil)))
            (pss_one (ps_set (i := 4) sc_never_ends.nd rfl (Or.inl rfl) (pe_c c_bit_behind hr (by decide) (by rfl) (pa_cons (pv 0) (pa_cons (pv 1) pa_nil)))))))))
        (pss_one (ps_ret pe_bl)))))), ?_⟩
    have few := ok.few
    have lens : ∀ p ∈ ps, p.1.length ≤ 900 := fun p hp => Nat.le_trans (ok.len p hp) (by decide)
    have hL : longL ps ≤ 20 := longL_le ok.len
    refine ⟨.ref l, rfl, l, o, xs, ps, rfl, hl, hp, by omega, lens, fun H1 s1 => ?_⟩
    refine ⟨rfl, fun sn hsn => ?_⟩
    have s2 := s1.trans (same_new (o := SetK P w sn (fun _ => false) 0) hsn)
    refine ⟨.ref l, rfl, .str (WS line), rfl, l, o, xs, ps, line, rfl, hl.same s2, hp.kp (kp_same s2), fun H3 s23 => ?_⟩
    have s3 := s2.trans s23
    have eS := s23 _ _ (upd_same (H := H1) (a := sn) (o := SetK P w sn (fun _ => false) 0))
    have nsn : ∀ a u, H a = some u → a ≠ sn := fun a u ha e => by
      rw [e] at ha
      rw [s1 _ _ ha] at hsn
      cases hsn
    obtain ⟨m0, hm0, hat0⟩ := endsAt_of he
    refine ⟨fun m σ H9 => ∃ (u : List Bool) (S : Key → Bool) (n : Nat), σ = [some (.ref l), some (.str (WS u)), some (.int (longL ps)), some (.ref sn), some (oB (putL ps u))] ∧ endsAt ps m u ∧ m ≤ 40 ∧ n ≤ 40 - m ∧ u.length ≤ 900 ∧ Same H H9 ∧ H9 sn = some (SetK P w sn S n) ∧ (∀ k, S k = true → ∃ v m', k = Sum.inr (WS v) ∧ endsAt ps m' v ∧ m ≤ m'),
      ⟨m0, line, _, 0, rfl, hat0, hm0, Nat.zero_le _, hn, s3, eS, fun k hk => by cases hk⟩, ?_⟩
    rintro m σ H4 ⟨u, S, n, rfl, hat, hm, hn4, hu, s4, eS4, hS⟩
    refine ⟨_, rfl, rfl, _, rfl, ?_⟩
    cases e : putL ps u with
    | none =>
      refine iteF ?_
      exact q H4 s4
    | some b =>
      refine iteT ?_
      cases m with
      | zero => rw [show putL ps u = none from hat] at e; cases e
      | succ m =>
        obtain ⟨b', e', hat'⟩ := hat
        rw [e] at e'
        cases e'
        have hpos := longL_pos ok.ne e
        have hnl : (nextL ps u b).length ≤ 20 := Nat.le_trans (nextL_len ps u b) hL
        refine ⟨_, fun σ' H' hW => ⟨m, Nat.lt_succ_self m, hW⟩, ?_⟩
        refine ⟨_, rfl, _, rfl, _, _, rfl, rfl, ?_, .int (longL ps), rfl, _, rfl, _, rfl, _, rfl, ?_, ?_⟩
        · rw [WS_len, WS_len]
          exact Nat.le_of_lt (small1000 (by show u.length + 1 ≤ 1000; omega))
        · rw [WS_cat]
          exact ls_len _ (by rw [List.length_append]; show u.length + 1 ≤ 1000; omega)
        rw [WS_cat, cut_neg _ hpos]
        show gName 1 (V.str (WS (nextL ps u b))) _ _ _
        refine ⟨_, rfl, .ref sn, rfl, Sum.inr (WS (nextL ps u b)), sn, S, n, rfl, rfl, eS4, _, rfl, ?_⟩
        cases hs1 : S (Sum.inr (WS (nextL ps u b))) with
        | true =>
          obtain ⟨v, m', ev, h1, h2⟩ := hS _ hs1
          injection ev with ev
          rw [← WS_inj ev] at h1
          have := endsAt_one h1 hat'
          omega
        | false =>
          refine iteF ?_
          refine ⟨.ref sn, rfl, ⟨sn, S, n, rfl, eS4⟩, _, rfl, sn, Sum.inr (WS (nextL ps u b)), S, n, rfl, rfl, eS4, ?_, ?_⟩
          · show n + 1 < 4096
            omega
          rw [hs1]
          have s5 : Same H (upd H4 sn (SetK P w sn (fun j => S j || decide (j = Sum.inr (WS (nextL ps u b)))) (n + 1))) := fun a o ha => by
            rw [upd_ne (nsn a o ha)]
            exact s4 a o ha
          refine ⟨.ref l, rfl, .str (WS (nextL ps u b)), rfl, l, o, xs, ps, nextL ps u b, rfl, hl.same s5, hp.kp (kp_same s5), fun H6 s56 => ?_⟩
          refine ⟨nextL ps u b, _, n + 1, rfl, hat', by omega, by omega, by omega, s5.trans s56, s56 _ _ upd_same, fun k hk => ?_⟩
          · rw [Bool.or_eq_true] at hk
            rcases hk with hk | hk
            · obtain ⟨v, m', ev, h1, h2⟩ := hS _ hk
              exact ⟨v, m', ev, h1, by omega⟩
            · exact ⟨nextL ps u b, m, of_decide_eq_true hk, hat', Nat.le_refl _⟩
abbrev s_are_endless : Stmt := (topS 47)
theorem sc_are_endless : FnScope ["stuffs", "pattern", "bit"] ["stuffs"] (fnScope s_are_endless) := fnScope_by (by decide +kernel)
theorem ok_endless {f : Addr} {fd : FuncData} (F : C8.Fun K "are_endless" "are_endless" s_are_endless f fd) (M : Mg mg) (c_never_ends : Cal P w K mg base 2 "never_ends" (spNever K) []) : FnOk P w K mg base CX0 3 f fd ["stuffs"] (spEndless K) := by
  refine fn0 F sc_are_endless (fun vs H Q E h => ?_) (fun cdv A outer s H vs Q E hr h => ?_)
  · obtain ⟨l, o, xs, ps, rfl, _⟩ := h
    rfl
  · obtain ⟨l, o, xs, ps, rfl, hl, hp, ok, q⟩ := h
    refine ⟨_, (pss_one (ps_ret (pe_callB (cr_any rfl) (by rfl) M.any (by decide +kernel) (pa_cons (pe_lc (own := [("pattern", 1), ("bit", 2)]) (g := (gTup _ 2 (gCons (gName 1) (gCons (gName 2) gNil)))) rfl sc_are_endless.nd (pi_seq (pi_list (pv 0)) (pi_tup (pv 0))) (blkOk_by (N := ["stuffs", "pattern", "bit"]) (sc := fnScope s_are_endless) (by decide +kernel)) (fun _ _ _ _ _ => (pg_tup rfl (pgs_cons (pg_name (i := 1) sc_are_endless.nd rfl (Or.inl rfl)) (pgs_cons (pg_name (i := 2) sc_are_endless.nd rfl (Or.inl rfl)) pgs_nil)))) (fun _ _ _ _ _ => pts_nil) (fun _ _ _ _ _ => (pe_c c_never_ends hr (by decide) (by rfl) (pa_cons (pv 0) (pa_cons (pv 1) pa_nil))))) pa_nil)))), ?_⟩
    have hxl : xs.length = ps.length := hp.len
    have few := ok.few
    refine ⟨l, o, xs, rfl, hl, fun J W D hD => ?_⟩
    refine lc_it W (fun i H1 => H1 D = some (.lst ((List.replicate i false).map V.bl)) ∧ Same H H1) ⟨upd_same, same_new hD⟩ (fun i H1 _ h => hl.same h.2) (fun i x H1o H1 hi hp1 hy => ?_) (fun H1 hp1 => ?_)
    · obtain ⟨rfl, hx⟩ := hy
      obtain ⟨eD, sm⟩ := hp1
      obtain ⟨p, hpi, t, rfl, ht⟩ := hp.get hx
      have hpm := List.mem_of_getElem? hpi
      have hend := List.all_eq_true.mp ok.ends p hpm
      refine ⟨t, _, rfl, .inl (.inl (sm _ _ ht)), rfl, _, _, rfl, _, _, rfl, rfl, rfl, .ref l, rfl, _, rfl, l, o, xs, ps, p.1, rfl, hl.same sm, hp.kp (kp_same sm), ok, Nat.le_trans (ok.len p hpm) (by decide), hend, fun H2 s2 => ⟨(List.replicate i false).map V.bl, s2 _ _ eD, ?_, ?_, fun a u ha => ?_⟩⟩
      · rw [List.length_map, List.length_replicate]
        exact small1000 (by omega)
      · rw [upd_same, List.replicate_succ', List.map_append]
        rfl
      · rw [upd_ne (ne_of_none ha hD)]
        exact s2 _ _ (sm _ _ ha)
    · obtain ⟨eD, sm⟩ := hp1
      refine ⟨D, List.replicate xs.length false, rfl, .inl (.inl eD), ?_⟩
      have : (List.replicate xs.length false).any id = false := by simp
      rw [this]
      exact q H1 sm
abbrev s_Rule_init : Stmt := (inClass (topS 49) 0)
theorem sc_Rule_init : FnScope ["self", "flag", "stuffs"] ["self", "flag", "stuffs"] (fnScope s_Rule_init) := fnScope_by (by decide +kernel)
theorem ok_rinit {C f : Addr} {fd : FuncData} (F : C8.Fun K "__init__" "Rule.__init__" s_Rule_init f fd) (M : Mg mg) (T : RlT K C) (c_is_word_2 : Cal P w K mg base 1 "is_word" spIsWord []) (c_are_stuffs : Cal P w K mg base 4 "are_stuffs" (spStuffs K) []) (c_are_endless : Cal P w K mg base 3 "are_endless" (spEndless K) []) : FnOk P w K mg base CX0 5 f fd ["self", "flag", "stuffs"] (spRInit K C) := by
  refine fn0 F sc_Rule_init (fun vs H Q E h => ?_) (fun cdv A outer s H vs Q E hr h => ?_)
  · obtain ⟨p, dx, l, o, flag, xs, ps, rfl, _⟩ := h
    rfl
  · obtain ⟨p, dx, l, o, flag, xs, ps, rfl, hf2, hfl, hl, hp, ok, hpp, q⟩ := h
    refine ⟨_, (pss_cons (ps_if (pt_not (pt_val (pe_c c_is_word_2 hr (by decide) (by rfl) (pa_cons (pv 1) (pa_cons pe_int pa_nil)))))
          (pss_one ps_never)
          pss_nil)
        (pss_cons (ps_if (pt_not (pt_val (pe_c c_are_stuffs hr (by decide) (by rfl) (pa_cons (pv 2) pa_nil))))
          (pss_one ps_never)
          pss_nil)
        (pss_cons (ps_if (pt_val (pe_c c_are_endless hr (by decide) (by rfl) (pa_cons (pv 2) pa_nil)))
          (pss_one ps_never)
          pss_nil)
        (pss_cons (ps_fld (pv 0) (pv 1) rfl)
        (pss_one (ps_fld (pv 0) (pe_callTy call_tuple_of (by rfl) M.tuple (by decide +kernel) (pa_cons (pe_callB (cr_sortedQ hr.units) (by rfl) M.sorted (by decide +kernel) (pa_cons (pv 2) pa_nil)) pa_nil)) rfl)))))), ?_⟩
    refine ⟨.str (WS flag), rfl, flag, 2, rfl, by omega, fun H1 s1 => ⟨_, rfl, ?_⟩⟩
    rw [decide_eq_true (show (2 : Int) ≤ (flag.length : Int) by omega)]
    refine iteF ⟨.ref l, rfl, l, _, xs, ps, rfl, hl.same s1, hp.kp (kp_same s1), ok, fun H2 s12 => ⟨_, rfl, iteF ?_⟩⟩
    have s2 := s1.trans s12
    refine ⟨.ref l, rfl, l, _, xs, ps, rfl, hl.same s2, hp.kp (kp_same s2), ok, fun H3 s23 => ⟨_, rfl, iteF ?_⟩⟩
    have s3 := s2.trans s23
    refine ⟨.str (WS flag), rfl, .ref p, rfl, p, C, dx, [], rfl, s3 _ _ hpp, T.cl, T.nF, (by show 0 < 1000; decide), ?_⟩
    have k4 : Kp H3 (upd H3 p (.ins C dx (putF "flag" (.str (WS flag)) []))) → True := fun _ => trivial
    have hp4 : Pairs (upd H3 p (.ins C dx (putF "flag" (.str (WS flag)) []))) xs ps := by
      have h3 := hp.kp (kp_same s3)
      have : ∀ {vs : List V} {qs : List Stf}, Pairs H3 vs qs → Pairs (upd H3 p (.ins C dx (putF "flag" (.str (WS flag)) []))) vs qs := by
        intro vs
        induction vs with
        | nil => intro qs h; cases qs with | nil => trivial | cons _ _ => exact h.elim
        | cons v vs ih =>
          intro qs h
          cases qs with
          | nil => exact h.elim
          | cons q qs =>
            obtain ⟨⟨t, e, ht⟩, h2⟩ := h
            exact ⟨⟨t, e, by rw [upd_ne (ne_of ht (s3 _ _ hpp) (by intro z; cases z))]; exact ht⟩, ih h2⟩
      exact this h3
    refine ⟨.ref l, rfl, l, _, xs, ps, rfl, (hl.same s3).ins (s3 _ _ hpp), hp4, fun r vs' hr5 hp5 => ?_⟩
    have s5 : Same (upd H3 p (.ins C dx (putF "flag" (.str (WS flag)) []))) (upd (upd H3 p (.ins C dx (putF "flag" (.str (WS flag)) []))) r (.lst vs')) := same_new hr5
    refine ⟨r, vs', rfl, .inl ⟨.inl (.inl upd_same), fun t ht => ?_⟩⟩
    have s6 := s5.trans (same_new (o := .tup vs') ht)
    refine ⟨.ref p, rfl, p, C, dx, _, rfl, s6 _ _ upd_same, T.cl, T.nS, (by show 1 < 1000; decide), ?_⟩
    have ntp : t ≠ p := fun e => by
      have := s5 _ _ (upd_same (H := H3) (a := p) (o := .ins C dx (putF "flag" (.str (WS flag)) [])))
      rw [e] at ht
      rw [this] at ht
      cases ht
    refine q _ ⟨dx, t, vs', ?_, ?_, ?_⟩ (fun a o ha na => ?_)
    · rw [upd_same]
      unfold rlf
      show some (HO.ins C dx (if ("flag" : Str) = "stuffs" then _ else _)) = _
      rw [if_neg (by decide +kernel)]
      rfl
    · rw [upd_ne ntp, upd_same]
    · have h6 := hp5.kp (kp_same s6)
      have : ∀ {vs : List V} {qs : List Stf} {G : Hp} {u : HO}, G p = some (.ins C dx (putF "flag" (.str (WS flag)) [])) → Pairs G vs qs → Pairs (upd G p u) vs qs := by
        intro vs
        induction vs with
        | nil => intro qs G u _ h; cases qs with | nil => trivial | cons _ _ => exact h.elim
        | cons v vs ih =>
          intro qs G u hg h
          cases qs with
          | nil => exact h.elim
          | cons q qs =>
            obtain ⟨⟨t, e, ht⟩, h2⟩ := h
            exact ⟨⟨t, e, by rw [upd_ne (ne_of ht hg (by intro z; cases z))]; exact ht⟩, ih hg h2⟩
      exact this (s6 _ _ upd_same) h6
    · rw [upd_ne na]
      exact s6 _ _ (by rw [upd_ne na]; exact s3 _ _ ha)
abbrev s_Rule_put : Stmt := (inClass (topS 49) 4)
theorem sc_Rule_put : FnScope ["self", "line"] ["self", "line"] (fnScope s_Rule_put) := fnScope_by (by decide +kernel)
theorem ok_put {C f : Addr} {fd : FuncData} (F : C8.Fun K "put" "Rule.put" s_Rule_put f fd) (M : Mg mg) (T : RlT K C) (c_bit_behind : Cal P w K mg base 1 "bit_behind" (spBehind K) []) : FnOk P w K mg base CX0 2 f fd ["self", "line"] (spPut C) := by
  refine fn0 F sc_Rule_put (fun vs H Q E h => ?_) (fun cdv A outer s H vs Q E hr h => ?_)
  · obtain ⟨p, flag, ps, line, rfl, _⟩ := h
    rfl
  · obtain ⟨p, flag, ps, line, rfl, ⟨dx, t, xs, h1, h2, h3⟩, q⟩ := h
    refine ⟨_, (pss_one (ps_ret (pe_c c_bit_behind hr (by decide) (by rfl) (pa_cons (pe_fld (pv 0) rfl) (pa_cons (pv 1) pa_nil))))), ?_⟩
    exact ⟨.ref p, rfl, p, C, dx, _, _, rfl, h1, T.cl, T.nS, rlf_stuffs flag t, .str (WS line), rfl, t, _, xs, ps, line, rfl, .t h2, h3, q⟩

abbrev s_Check_init : Stmt := (inClass (topS 14) 0)
theorem sc_Check_init : FnScope ["self", "poly", "start", "degree"] ["self", "poly", "start"] (fnScope s_Check_init) := fnScope_by (by decide +kernel)
theorem ok_init {C f : Addr} {fd : FuncData} (F : C8.Fun K "__init__" "Check.__init__" s_Check_init f fd) (M : Mg mg) (T : CkT K C) (c_is_word_2 : Cal P w K mg base 1 "is_word" spIsWord []) (c_is_word_1 : Cal P w K mg base 1 "is_word" spIsWord [.int 0]) : FnOk P w K mg base CX0 2 f fd ["self", "poly", "start"] (spInit C) := by
  refine fn0 F sc_Check_init (fun vs H Q E h => ?_) (fun cdv A outer s H vs Q E hr h => ?_)
  · obtain ⟨p, dx, poly, st, sv, rfl, _⟩ := h
    rfl
  · obtain ⟨p, dx, poly, st, sv, rfl, hv, ck, hl, hp, q⟩ := h
    have hpl : poly.length ≤ 1000 := by rw [ck.len]; omega
    refine ⟨_, (pss_cons (ps_if (PW.pt (pw_or (pt_not (pt_val (pe_c c_is_word_2 hr (by decide) (by rfl) (pa_cons (pv 1) (pa_cons pe_int pa_nil))))) (pw_or (pt_not (pt_val (pe_m1 PySem.F.slot_str_startswith PySem.F.type_str_startswith mt_startswith (pv 1) pe_str))) (pw_or1 (pt_not (pt_val (pe_m1 PySem.F.slot_str_endswith PySem.F.type_str_endswith mt_endswith (pv 1) pe_str)))))))
          (pss_one ps_never)
          pss_nil)
        (pss_cons (ps_set (i := 3) sc_Check_init.nd rfl (Or.inl rfl) (pe_op op_sub (pe_callB call_len_str (by rfl) M.len PySem.boot_len (pa_cons (pv 1) pa_nil)) pe_int))
        (C8.pss_cut (ps_if (pt_cmpR op_isN (pv 2) pe_non (nomark _))
          (pss_one (ps_set (i := 2) sc_Check_init.nd rfl (Or.inl rfl) (pe_op op_mul_str pe_str (pv 3))))
          pss_nil)
        (pss_cons (ps_if (PW.pt (pw_or (pt_not (pt_val (pe_c c_is_word_1 hr (by decide) (by rfl) (pa_cons (pv 2) pa_nil)))) (pw_or1 (pt_cmpR op_ne (pe_callB call_len_str (by rfl) M.len PySem.boot_len (pa_cons (pv 2) pa_nil)) (pv 3) (nomark _)))))
          (pss_one ps_never)
          pss_nil)
        (pss_cons (ps_fld (pv 0) (pv 1) rfl)
        (pss_one (ps_fld (pv 0) (pv 2) rfl))))))), ?_⟩
    -- the polynomial is one
    refine ⟨.str (WS poly), rfl, poly, 1, rfl, hpl, fun H1 s1 => ⟨_, rfl, ?_⟩⟩
    rw [decide_eq_true (show (1 : Int) ≤ (poly.length : Int) by rw [ck.len]; omega)]
    refine iteF ⟨.str (WS poly), rfl, ⟨_, rfl⟩, _, _, rfl, rfl, _, rfl, ?_⟩
    rw [← WS_1, starts_WS, decide_eq_true ck.hd]
    refine iteF ⟨.str (WS poly), rfl, ⟨_, rfl⟩, _, _, rfl, rfl, _, rfl, ?_⟩
    rw [ends_WS, decide_eq_true ck.lt]
    refine iteF ?_
    -- degree
    refine ⟨.str (WS poly), rfl, _, rfl, ls_len poly hpl, _, _, rfl, rfl, ?_⟩
    have hd : ((WS poly).length : Int) - 1 = (st.length : Int) := by rw [WS_len, ck.len]; omega
    dsimp only
    rw [hd]
    -- start
    refine ⟨fun σ' H' => H' = H1 ∧ σ' = [some (.ref p), some (.str (WS poly)), some (.str (WS st)), some (.int (st.length : Int))], ?_, ?_⟩
    · rcases hv with ⟨rfl, e⟩ | rfl
      · refine ⟨.non, rfl, rfl, _, rfl, iteT ?_⟩
        refine ⟨.int (st.length : Int), rfl, "0", _, rfl, rfl, ?_, rfl, ?_⟩
        · rw [← WS_0]
          exact mul_ok [false] (by omega) (by omega) (by decide)
        · rw [← WS_0, mul_WS [false] (by omega), flat_rep]
          have : List.replicate ((st.length : Int)).toNat false = st := by
            rw [e, List.length_replicate]
            rfl
          rw [this]
          rfl
      · exact ⟨.str (WS st), rfl, rfl, _, rfl, iteF ⟨rfl, rfl⟩⟩
    · rintro σ' H' ⟨rfl, rfl⟩
      refine ⟨.str (WS st), rfl, st, 0, rfl, by omega, fun H2 s2 => ⟨_, rfl, ?_⟩⟩
      rw [decide_eq_true (show (0 : Int) ≤ (st.length : Int) by omega)]
      refine iteF ⟨.str (WS st), rfl, _, rfl, ls_len st (by omega), .int (st.length : Int), rfl, rfl, _, rfl, ?_⟩
      rw [WS_len]
      refine iteNS rfl ?_
      have hp2 := s2 _ _ (s1 _ _ hp)
      refine ⟨.str (WS poly), rfl, .ref p, rfl, p, C, dx, [], rfl, hp2, T.cl, T.nP, (by show 0 < 1000; decide), ?_⟩
      refine ⟨.str (WS st), rfl, .ref p, rfl, p, C, dx, _, rfl, upd_same, T.cl, T.nS, (by show 1 < 1000; decide), ?_⟩
      refine q _ ⟨dx, ?_⟩ (fun a o ha na => by rw [upd_ne na, upd_ne na]; exact s2 _ _ (s1 _ _ ha))
      rw [upd_same]
      unfold ckf
      show some (HO.ins C dx (if ("poly" : Str) = "start" then _ else _)) = _
      rw [if_neg (by decide +kernel)]
      rfl
abbrev s_Check_degree : Stmt := (inClass (topS 14) 2)
theorem sc_Check_degree : FnScope ["self"] ["self"] (fnScope s_Check_degree) := fnScope_by (by decide +kernel)
theorem ok_degree {C f : Addr} {fd : FuncData} (F : C8.Fun K "degree" "Check.degree" s_Check_degree f fd) (M : Mg mg) (T : CkT K C) : FnOk P w K mg base CX0 1 f fd ["self"] (spDegree C) := by
  refine fn0 F sc_Check_degree (fun vs H Q E h => ?_) (fun cdv A outer s H vs Q E hr h => ?_)
  · obtain ⟨p, poly, st, rfl, _⟩ := h
    rfl
  · obtain ⟨p, poly, st, rfl, ⟨dx, hp⟩, hl, q⟩ := h
    refine ⟨_, (pss_one (ps_ret (pe_op op_sub (pe_callB call_len_str (by rfl) M.len PySem.boot_len (pa_cons (pe_fld (pv 0) rfl) pa_nil)) pe_int))), ?_⟩
    refine ⟨.ref p, rfl, p, C, dx, _, _, rfl, hp, T.cl, T.nP, ckf_poly poly st, _, rfl, ls_len poly hl, _, _, rfl, rfl, ?_⟩
    rw [WS_len]
    exact q
abbrev s_Check_rest : Stmt := (inClass (topS 14) 3)
theorem sc_Check_rest : FnScope ["self", "bits", "marks", "left", "bit", "whole"] ["self", "bits"] (fnScope s_Check_rest) := fnScope_by (by decide +kernel)
theorem ok_rest {C f : Addr} {fd : FuncData} (F : C8.Fun K "rest" "Check.rest" s_Check_rest f fd) (M : Mg mg) (T : CkT K C) (c_exchanged : Cal P w K mg base 1 "exchanged" spExch []) : FnOk P w K mg base CX0 2 f fd ["self", "bits"] (spRest C) := by
  refine fn0 F sc_Check_rest (fun vs H Q E h => ?_) (fun cdv A outer s H vs Q E hr h => ?_)
  · obtain ⟨p, poly, st, bits, rfl, _⟩ := h
    rfl
  · obtain ⟨p, poly, st, bits, rfl, ⟨dx, hp⟩, ck, hl, hb, q⟩ := h
    have hpl : poly.length ≤ 1000 := by rw [ck.len]; omega
    refine ⟨_, (pss_cons (ps_set (i := 2) sc_Check_rest.nd rfl (Or.inl rfl) (pe_slice sl_str (pe_fld (pv 0) rfl) (po_some pe_int) po_none))
        (pss_cons (ps_set (i := 3) sc_Check_rest.nd rfl (Or.inl rfl) (pe_fld (pv 0) rfl))
        (pss_cons (ps_for PassesOwn.never rfl (pi_str (pv 1)) (pg_name (i := 4) sc_Check_rest.nd rfl (Or.inl rfl))
          (pss_cons (ps_set (i := 5) sc_Check_rest.nd rfl (Or.inl rfl) (pe_op op_add_str (pv 3) (pv 4)))
            (pss_cons (ps_set (i := 3) sc_Check_rest.nd rfl (Or.inl rfl) (pe_slice sl_str (pv 5) (po_some pe_int) po_none))
            (pss_one (ps_if (pt_cmpR op_eq (pe_ix (r := rIxS) ix_str (pv 5) pe_int (fun _ _ => rfl)) pe_str (nomark _))
              (pss_one (ps_set (i := 3) sc_Check_rest.nd rfl (Or.inl rfl) (pe_c c_exchanged hr (by decide) (by rfl) (pa_cons (pv 3) (pa_cons (pv 2) pa_nil)))))
              pss_nil)))))
        (pss_one (ps_ret (pv 3)))))), ?_⟩
    refine ⟨.ref p, rfl, p, C, dx, _, _, rfl, hp, T.cl, T.nP, ckf_poly poly st, 1, rfl, _, rfl, ls_len poly hpl, ?_⟩
    rw [cut_from poly (by decide)]
    refine ⟨.ref p, rfl, p, C, dx, _, _, rfl, hp, T.cl, T.nS, ckf_start poly st, ?_⟩
    refine ⟨.str (WS bits), rfl, _, rfl, ?_⟩
    have hlen : ∀ i, (restR poly st (bits.take i)).length = st.length := fun i => restR_len ck.len _
    refine for_it walk_str (fun i σ H1 => ∃ x4 x5, σ = [some (.ref p), some (.str (WS bits)), some (.str (WS (poly.drop 1))), some (.str (WS (restR poly st (bits.take i)))), x4, x5] ∧ Same H H1)
      ⟨none, none, rfl, Same.refl H⟩ (fun _ _ _ _ _ => trivial) (fun i x σ H1 H2 hi hp hy => ?_) (fun σ H1 hp => ?_)
    · obtain ⟨rfl, c, hc, rfl⟩ := hy
      obtain ⟨x4, x5, rfl, sm⟩ := hp
      rw [WS_get] at hc
      obtain ⟨b, hbit, rfl⟩ := Option.map_eq_some_iff.mp hc
      have hst : restR poly st (bits.take (i + 1)) = stepR (poly.drop 1) (restR poly st (bits.take i)) b := by
        unfold restR
        rw [List.take_add_one, hbit, List.foldl_append]
        rfl
      have hL := hlen i
      revert hst
      generalize restR poly st (bits.take i) = left at hL ⊢
      intro hst
      refine ⟨.str (WS left), rfl, .str (WS [b]), rfl, _, _, rfl, rfl, ?_, ?_⟩
      · rw [WS_len, WS_len]
        exact Nat.le_of_lt (small1000 (by simp; omega))
      rw [WS_cat]
      have hw : (left ++ [b]).length ≤ 1000 := by simp; omega
      refine ⟨.str (WS (left ++ [b])), rfl, 1, rfl, _, rfl, ls_len _ hw, ?_⟩
      rw [cut_from _ (by decide)]
      obtain ⟨h0, r0, hr0⟩ : ∃ h0 r0, left ++ [b] = h0 :: r0 := by
        cases e : left ++ [b] with
        | nil => simp at e
        | cons x r => exact ⟨x, r, rfl⟩
      rw [hr0] at hw ⊢
      refine ⟨.str (WS (h0 :: r0)), rfl, WS (h0 :: r0), 0, cd h0, rfl, rfl, ls_len _ hw, ?_, rfl, _, rfl, ?_⟩
      · exact atI_nat (j := 0) rfl
      have e0 : decide (V.str (⟨#[cd h0]⟩ : Str) = V.str "1") = h0 := by
        rw [← WS_1, show (⟨#[cd h0]⟩ : Str) = WS [h0] from rfl, eqS]
        cases h0 <;> rfl
      rw [e0]
      unfold stepR at hst
      rw [hr0] at hst
      cases h0 with
      | true =>
        refine iteT ?_
        refine ⟨.str (WS r0), rfl, .str (WS (poly.drop 1)), rfl, r0, poly.drop 1, rfl, by rw [List.length_cons] at hw; omega, by rw [List.length_drop]; omega, fun H3 s3 => ?_⟩
        refine ⟨some (.str ⟨#[cd b]⟩), some (.str (WS (true :: r0))), ?_, fun a o ha => s3 _ _ (sm _ _ ha)⟩
        rw [hst]
        rfl
      | false =>
        refine iteF ?_
        refine ⟨some (.str ⟨#[cd b]⟩), some (.str (WS (false :: r0))), ?_, sm⟩
        rw [hst]
        rfl
    · obtain ⟨x4, x5, rfl, sm⟩ := hp
      rw [WS_size, List.take_length]
      exact ⟨_, rfl, q H1 sm⟩

abbrev s_other_bits : Stmt := (topS 9)
theorem sc_other_bits : FnScope ["word", "bit"] ["word"] (fnScope s_other_bits) := fnScope_by (by decide +kernel)
theorem ok_other_bits {f : Addr} {fd : FuncData} (F : C8.Fun K "other_bits" "other_bits" s_other_bits f fd) (M : Mg mg) : FnOk P w K mg base CX0 1 f fd ["word"] spOther := by
  refine fn0 F sc_other_bits (fun vs H Q E h => ?_) (fun cdv A outer s H vs Q E hr h => ?_)
  · obtain ⟨u, rfl, _⟩ := h
    rfl
  · obtain ⟨u, rfl, hu, q⟩ := h
    refine ⟨_, (pss_one (ps_ret (pe_join pe_str (pe_lc (own := [("bit", 1)]) (g := (gName 1)) rfl sc_other_bits.nd (pi_str (pv 0)) (blkOk_by (N := ["word", "bit"]) (sc := fnScope s_other_bits) (by decide +kernel)) (fun _ _ _ _ _ => (pg_name (i := 1) sc_other_bits.nd rfl (Or.inl rfl))) (fun _ _ _ _ _ => pts_nil) (fun _ _ _ _ _ => (pe_ifExp (pt_cmpR op_eq (pv 1) pe_str (nomark _)) pe_str pe_str)))))), ?_⟩
    refine ⟨⟨_, rfl⟩, .str (WS u), rfl, _, rfl, fun D hD => ?_⟩
    refine lc_it walk_str (fun i H1 => H1 D = some (.lst (bitV ((nt u).take i))) ∧ Same H H1) ⟨upd_same, same_new hD⟩ (fun _ _ _ _ => trivial) (fun i x H1 H2 hi hp hy => ?_) (fun H1 hp => ?_)
    · obtain ⟨rfl, c, hc, rfl⟩ := hy
      obtain ⟨eD, sm⟩ := hp
      obtain ⟨b, hb, hcb⟩ := bit_at hc
      rw [hcb]
      refine ⟨rfl, .str (WS [b]), rfl, rfl, _, rfl, ?_⟩
      have hx : (nt u)[i]? = some (!b) := by
        unfold nt
        rw [List.getElem?_map, hb]
        rfl
      have fin : ∃ acc, H2 D = some (.lst acc) ∧ acc.length < sizeLine ∧ (fun i H1 => H1 D = some (.lst (bitV ((nt u).take i))) ∧ Same H H1) (i + 1) (upd H2 D (.lst (acc ++ [V.str (WS [!b])]))) := by
        refine ⟨bitV ((nt u).take i), eD, ?_, ?_, fun a o ha => ?_⟩
        · unfold bitV
          rw [List.length_map, List.length_take]
          rw [WS_size] at hi
          exact small5 (by omega)
        · rw [upd_same, take_snoc hx]
          unfold bitV
          rw [List.map_append]
          rfl
        · rw [upd_ne (ne_of_none ha hD)]
          exact sm _ _ ha
      have hd : decide (V.str (WS [b]) = V.str "0") = !b := by cases b <;> decide +kernel
      rw [hd]
      cases b with
      | false =>
        refine iteT ?_
        rw [show WS [!false] = "1" by decide +kernel] at fin
        exact fin
      | true =>
        refine iteF ?_
        rw [show WS [!true] = "0" by decide +kernel] at fin
        exact fin
    · obtain ⟨eD, sm⟩ := hp
      have hl : (nt u).take (WS u).cps.size = nt u := List.take_of_length_le (by rw [WS_size, nt_len]; exact Nat.le_refl _)
      rw [hl] at eD
      refine ⟨_, D, (nt u).map fun b => WS [b], rfl, rfl, .inl (.inl (.inl ?_)), join_bits_sz _ (by rw [nt_len]; omega), ?_⟩
      · rw [eD, List.map_map]
        rfl
      · rw [join_bits]
        exact q H1 sm

abbrev s_arriving : Stmt := (topS 26)
theorem sc_arriving : FnScope ["bit", "kind"] ["bit", "kind"] (fnScope s_arriving) := fnScope_by (by decide +kernel)
theorem ok_arriving {f : Addr} {fd : FuncData} (F : C8.Fun K "arriving" "arriving" s_arriving f fd) (M : Mg mg) (c_other_bits : Cal P w K mg base 1 "other_bits" spOther []) : FnOk P w K mg base CX0 2 f fd ["bit", "kind"] spArriving := by
  refine fn0 F sc_arriving (fun vs H Q E h => ?_) (fun cdv A outer s H vs Q E hr h => ?_)
  · obtain ⟨b, k, rfl, _⟩ := h
    rfl
  · obtain ⟨b, k, rfl, q⟩ := h
    refine ⟨_, (pss_cons (ps_if (pt_cmpR op_eq (pv 1) pe_str (nomark _))
          (pss_one (ps_ret (pe_op op_add_str (pv 0) (pv 0))))
          pss_nil)
        (pss_cons (ps_if (pt_cmpR op_eq (pv 1) pe_str (nomark _))
          (pss_one (ps_ret pe_str))
          pss_nil)
        (pss_cons (ps_if (pt_cmpR op_eq (pv 1) pe_str (nomark _))
          (pss_one (ps_ret (pe_c c_other_bits hr (by decide) (by rfl) (pa_cons (pv 0) pa_nil))))
          pss_nil)
        (pss_one (ps_ret (pv 0)))))), ?_⟩
    cases k with
    | none =>
      refine ⟨.non, rfl, rfl, _, rfl, ?_⟩
      rw [decide_eq_false (by intro z; cases z)]
      refine iteF ⟨.non, rfl, rfl, _, rfl, ?_⟩
      rw [decide_eq_false (by intro z; cases z)]
      refine iteF ⟨.non, rfl, rfl, _, rfl, ?_⟩
      rw [decide_eq_false (by intro z; cases z)]
      exact iteF ⟨_, rfl, q H (Same.refl H)⟩
    | some k =>
      cases k with
      | double =>
        refine ⟨.str (kT .double), rfl, rfl, _, rfl, ?_⟩
        rw [decide_eq_true (show V.str (kT .double) = V.str "double" from rfl)]
        refine iteT ⟨.str (WS [b]), rfl, .str (WS [b]), rfl, _, _, rfl, rfl, cat_len5 _ _ (by show 2 ≤ 100000; decide), ?_⟩
        rw [WS_cat]
        exact q H (Same.refl H)
      | lose =>
        refine ⟨.str (kT .lose), rfl, rfl, _, rfl, ?_⟩
        rw [decide_eq_false (str_ne (by decide +kernel))]
        refine iteF ⟨.str (kT .lose), rfl, rfl, _, rfl, ?_⟩
        rw [decide_eq_true (show V.str (kT .lose) = V.str "lose" from rfl)]
        exact iteT (q H (Same.refl H))
      | turn =>
        refine ⟨.str (kT .turn), rfl, rfl, _, rfl, ?_⟩
        rw [decide_eq_false (str_ne (by decide +kernel))]
        refine iteF ⟨.str (kT .turn), rfl, rfl, _, rfl, ?_⟩
        rw [decide_eq_false (str_ne (by decide +kernel))]
        refine iteF ⟨.str (kT .turn), rfl, rfl, _, rfl, ?_⟩
        rw [decide_eq_true (show V.str (kT .turn) = V.str "turn" from rfl)]
        exact iteT ⟨.str (WS [b]), rfl, [b], rfl, by show 1 ≤ 1000; decide, fun H' s' => q H' s'⟩

abbrev s_filled : Stmt := (topS 18)
theorem sc_filled : FnScope ["rule", "line", "due"] ["rule", "line"] (fnScope s_filled) := fnScope_by (by decide +kernel)
theorem ok_filled {C f : Addr} {fd : FuncData} (F : C8.Fun K "filled" "filled" s_filled f fd) (M : Mg mg) (m_put : Met P w K mg base 2 C "put" (spPut C) []) : FnOk P w K mg base CX0 3 f fd ["rule", "line"] (spFilled C) := by
  refine fn0 F sc_filled (fun vs H Q E h => ?_) (fun cdv A outer s H vs Q E hr h => ?_)
  · obtain ⟨p, flag, ps, line, rfl, _⟩ := h
    rfl
  · obtain ⟨p, flag, ps, line, rfl, rl, hend, hl, q⟩ := h
    refine ⟨_, (pss_cons (ps_set (i := 2) sc_filled.nd rfl (Or.inl rfl) (pe_mt m_put hr (by decide) (pv 0) (pa_cons (pv 1) pa_nil)))
        (pss_cons (ps_while PassesOwn.never (pt_cmpR op_notN (pv 2) pe_non (nomark _))
          (pss_cons (ps_aug (i := 1) sc_filled.nd rfl (Or.inl rfl) (pv 2) iop_add_str)
            (pss_one (ps_set (i := 2) sc_filled.nd rfl (Or.inl rfl) (pe_mt m_put hr (by decide) (pv 0) (pa_cons (pv 1) pa_nil))))))
        (pss_one (ps_ret (pv 1))))), ?_⟩
    have nfP : ∀ (flag : List Bool) (t : Addr), (rlf flag t).lookup ("put" : Str) = none := fun flag t => by
      unfold rlf
      rw [List.lookup_cons, show (("put" : Str) == "flag") = false by decide +kernel, List.lookup_cons, show (("put" : Str) == "stuffs") = false by decide +kernel]
      rfl
    obtain ⟨dx, t, xs, e1, f1, g1⟩ := id rl
    refine ⟨.ref p, rfl, p, dx, _, rfl, e1, nfP _ _, .str (WS line), rfl, p, flag, ps, line, rfl, rl, fun H1 s1 => ?_⟩
    refine ⟨fun m σ H9 => ∃ g : Nat, g ≤ 24 ∧ m = 24 - g ∧ σ = [some (.ref p), some (.str (WS (putsN ps g line))), some (oB (putL ps (putsN ps g line)))] ∧ Same H H9, ⟨24, 0, by decide, rfl, rfl, s1⟩, ?_⟩
    rintro m σ H9 ⟨g, hg, rfl, rfl, s9⟩
    have hlen := putsN_len ps g line
    have estop := fun h : putL ps (putsN ps g line) = none => puts_stop h hg
    have esucc := putsN_succ ps g line
    have hlt : putL ps (putsN ps g line) ≠ none → g < 24 := fun h => by
      rcases Nat.lt_or_ge g 24 with h1 | h1
      · exact h1
      · have : g = 24 := by omega
        subst this
        exact absurd hend h
    unfold stepP at esucc
    obtain ⟨dx9, t9, xs9, e9, f9, g9⟩ := rl.kp (kp_same s9)
    revert estop esucc hlt
    cases putL ps (putsN ps g line) with
    | none =>
      intro estop _ _
      refine ⟨.non, rfl, rfl, _, rfl, iteNS rfl ⟨_, rfl, ?_⟩⟩
      rw [← estop rfl]
      exact q H9 s9
    | some b =>
      intro _ esucc hlt
      have hg24 := hlt (by intro z; cases z)
      refine ⟨.str (WS [b]), rfl, rfl, _, rfl, iteNE (by intro z; cases z) ⟨_, fun σ' H' hW => hW, ?_⟩⟩
      refine ⟨_, rfl, _, rfl, _, _, rfl, rfl, cat_len5 _ _ (by show _ + 1 ≤ 100000; omega), ?_⟩
      rw [WS_cat]
      have e2 : putsN ps (g + 1) line = putsN ps g line ++ [b] := esucc
      rw [← e2]
      refine ⟨.ref p, rfl, p, dx9, _, rfl, e9, nfP _ _, _, rfl, p, flag, ps, _, rfl, rl.kp (kp_same s9), fun H2 s2 => ?_⟩
      exact ⟨24 - (g + 1), by omega, g + 1, hg24, rfl, rfl, s9.trans s2⟩

abbrev s_Rule_longest : Stmt := (inClass (topS 49) 2)
theorem sc_Rule_longest : FnScope ["self"] ["self"] (fnScope s_Rule_longest) := fnScope_by (by decide +kernel)
theorem ok_rlong {C f : Addr} {fd : FuncData} (F : C8.Fun K "longest" "Rule.longest" s_Rule_longest f fd) (M : Mg mg) (T : RlT K C) (c_longest_pattern : Cal P w K mg base 1 "longest_pattern" (spLongest K) []) : FnOk P w K mg base CX0 2 f fd ["self"] (spRLong C) := by
  refine fn0 F sc_Rule_longest (fun vs H Q E h => ?_) (fun cdv A outer s H vs Q E hr h => ?_)
  · obtain ⟨p, flag, ps, rfl, _⟩ := h
    rfl
  · obtain ⟨p, flag, ps, rfl, ⟨dx, t, xs, h1, h2, h3⟩, few, lens, q⟩ := h
    refine ⟨_, (pss_one (ps_ret (pe_c c_longest_pattern hr (by decide) (by rfl) (pa_cons (pe_fld (pv 0) rfl) pa_nil)))), ?_⟩
    exact ⟨.ref p, rfl, p, C, dx, _, _, rfl, h1, T.cl, T.nS, rlf_stuffs flag t, t, _, xs, ps, rfl, .t h2, h3, few, lens, q⟩

abbrev s_first_refused : Stmt := (topS 22)
theorem sc_first_refused : FnScope ["step", "seen", "level", "following", "standing", "message", "bit", "behind"] ["step"] (fnScope s_first_refused) := fnScope_by (by decide +kernel)
theorem ok_first {f : Addr} {fd : FuncData} (F : C8.Fun K "first_refused" "first_refused" s_first_refused f fd) (M : Mg mg) : Clo.FnOkH P w K mg base CX0 6 f fd ["step"] (Clo.hSp (hFR P w K mg base 5)) := by
  refine Clo.fnH F sc_first_refused (fun o h vs H Q E hh => ?_) (fun cdv A outer s H vs Q E hr hh => ?_)
  · obtain ⟨fr, f, F', ws, _, _, _, _, ps, g, L, sp, R, rfl, _⟩ := hh
    rfl
  · obtain ⟨fr, f', F', ws, C, nf, hf, hc, ps, g, L, sp, R, rfl, Fn, hL, R0, Rs, Rl, hstep, q⟩ := hh
    have nex : ∀ (y : Str) (c : Addr), F'.cl.lookup y = some c → c ∉ ([] : List Addr) := fun _ _ _ => List.not_mem_nil
    refine ⟨_, (pss_cons (ps_set (i := 1) sc_first_refused.nd rfl (Or.inl rfl) (pe_callTy0 cr_set0K (by rfl) M.set (by decide +kernel)))
        (pss_cons (ps_set (i := 2) sc_first_refused.nd rfl (Or.inl rfl) (pe_lst (pa_cons (pe_tup (pa_cons pe_str (pa_cons pe_str pa_nil))) pa_nil)))
        (pss_cons (ps_while PassesOwn.never (pt_truth (pv 2) (by intro _; rfl))
          (pss_cons (ps_set (i := 3) sc_first_refused.nd rfl (Or.inl rfl) (pe_lst pa_nil))
            (pss_cons (ps_for PassesOwn.never rfl (pi_list (pv 2)) (pg_tup rfl (pgs_cons (pg_name (i := 4) sc_first_refused.nd rfl (Or.inl rfl)) (pgs_cons (pg_name (i := 5) sc_first_refused.nd rfl (Or.inl rfl)) pgs_nil)))
              (pss_one (ps_for PassesOwn.never rfl (pi_str pe_str) (pg_name (i := 6) sc_first_refused.nd rfl (Or.inl rfl))
                  (pss_cons (ps_set (i := 7) sc_first_refused.nd rfl (Or.inl rfl) (Clo.pe_callp (i := 0) Fn C nf nex hr (by decide) (C8.pass0 (E := C8.E0)) rfl (Or.inl rfl) (pa_cons (pv 4) (pa_cons (pv 6) pa_nil))))
                    (pss_cons (ps_if (pt_cmpR op_isN (pv 7) pe_non (nomark _))
                      (pss_one (ps_ret (pe_op op_add_str (pv 5) (pv 6))))
                      pss_nil)
                    (pss_one (ps_if (pt_cmpR or_snotinK (pv 7) (pv 1) (by rfl))
                      (pss_cons (ps_expr (pe_saddK (pv 1) (pa_cons (pv 7) pa_nil)))
                        (pss_one (ps_expr (pe_bm PySem.F.plainAttrs_list PySem.F.slot_list_append PySem.F.type_list_append mt_append (pv 3) (pa_cons (pe_tup (pa_cons (pv 7) (pa_cons (pe_op op_add_str (pv 5) (pv 6)) pa_nil))) pa_nil)))))
                      pss_nil)))))))
            (pss_one (ps_set (i := 2) sc_first_refused.nd rfl (Or.inl rfl) (pv 3))))))
        (pss_one (ps_ret pe_non))))), ?_⟩
    refine ⟨rfl, fun sn hsn => ?_⟩
    generalize hH1 : upd H sn _ = H1
    have s1 : Same H H1 := hH1 ▸ same_new hsn
    have eS1 : H1 sn = some (SetK P w sn (fun _ => false) 0) := by
      rw [← hH1]
      exact upd_same
    clear hH1
    refine ⟨by show 2 ≤ sizeLine; decide, fun t0 ht0 => ⟨by show 1 ≤ sizeLine; decide, fun l0 hl0 => ?_⟩⟩
    have s2 : Same H1 (upd H1 t0 (.tup [.str "", .str ""])) := same_new ht0
    have s3 : Same (upd H1 t0 (.tup [.str "", .str ""])) (upd (upd H1 t0 (.tup [.str "", .str ""])) l0 (.lst [.ref t0])) := same_new hl0
    have e0 := s3 _ _ (upd_same (H := H1) (a := t0) (o := .tup [.str "", .str ""]))
    have el0 : (upd (upd H1 t0 (.tup [.str "", .str ""])) l0 (.lst [.ref t0])) l0 = some (.lst [.ref t0]) := upd_same
    have s23 := s2.trans s3
    have eS2 := s23 _ _ eS1
    have s02 := s1.trans s23
    revert e0 el0 eS2 s02
    clear s2 s3 s23
    generalize upd (upd H1 t0 (.tup [.str "", .str ""])) l0 (.lst [.ref t0]) = H2
    intro e0 el0 eS2 s02
    refine ⟨fun m σ H3 => ∃ (x3 x4 x5 x6 x7 : Option V) (A : List Pr2) (lo n : Nat) (S : Key → Bool) (lv : Addr) (xs : List V), σ = [some (.ref f'), some (.ref sn), some (.ref lv), x3, x4, x5, x6, x7] ∧ Same H H3 ∧ H3 sn = some (SetK P w sn S n) ∧ H3 lv = some (.lst xs) ∧ Lvs H3 xs (A.drop lo) ∧ Bfs g L A lo 0 ∧ SeenOk S n A ∧ m = 2 ^ (L + 1) + 1 - lo,
      ⟨_, none, none, none, none, none, [([], [])], 0, 0, _, l0, [.ref t0], rfl, s02, eS2, el0, ⟨⟨t0, rfl, e0⟩, trivial⟩, Bfs.start g L, SeenOk.start, rfl⟩, ?_⟩
    rintro m σ H3 ⟨x3, x4, x5, x6, x7, A, lo, n, S, lv, xs, rfl, s3, eS3, el3, lvs, bf, so, rfl⟩
    have h1024 : 2 ^ (L + 1) ≤ 1024 := Nat.le_trans (Nat.pow_le_pow_right (by decide) (by omega : L + 1 ≤ 10)) (by decide)
    refine ⟨.ref lv, rfl, !xs.isEmpty, .inl ⟨xs, .inl (.inl el3), rfl⟩, ?_⟩
    by_cases hxe : xs = []
    · subst hxe
      refine iteF ?_
      have hlo : lo = A.length := by
        have := lvs.len
        rw [List.length_drop] at this
        have h0 : ([] : List V).length = 0 := rfl
        have := bf.le
        omega
      subst hlo
      exact q none H3 s3 bf.never fun M e => by cases e
    · have e1 : (!xs.isEmpty) = true := by
        cases xs with
        | nil => exact absurd rfl hxe
        | cons _ _ => rfl
      rw [e1]
      have hxl : xs.length = A.length - lo := by rw [lvs.len, List.length_drop]
      have hxp : 0 < xs.length := List.length_pos_iff.mpr hxe
      have hsm := bf.small
      refine iteT ⟨_, fun σ' H' hW => hW, ?_⟩
      refine ⟨by show 0 ≤ sizeLine; decide, fun fl hfl => ?_⟩
      have s4 : Same H3 (upd H3 fl (.lst [])) := same_new hfl
      have hfl0 : H fl = none := s3.free hfl
      have nlf : lv ≠ fl := ne_of_none el3 hfl
      have nsf : sn ≠ fl := ne_of_none eS3 hfl
      have hsn0 : ∀ a u, H a = some u → a ≠ sn := fun a u ha => ne_of_none ha hsn
      refine ⟨.ref lv, rfl, lv, rfl, ⟨xs, .inl (.inl (s4 _ _ el3))⟩, ?_⟩
      refine for_it (walk_list (K := K) (a := lv) (xs := xs)) (fun i σ H4 => ∃ (x4 x5 x6 x7 : Option V) (A' : List Pr2) (n : Nat) (S : Key → Bool) (ys : List V), σ = [some (.ref f'), some (.ref sn), some (.ref lv), some (.ref fl), x4, x5, x6, x7] ∧ Same H H4 ∧ H4 sn = some (SetK P w sn S n) ∧ H4 lv = some (.lst xs) ∧ Lvs H4 xs (A.drop lo) ∧ H4 fl = some (.lst ys) ∧ Lvs H4 ys (A'.drop A.length) ∧ A <+: A' ∧ Bfs g L A' (lo + i) 0 ∧ SeenOk S n A')
        ⟨x4, x5, x6, x7, A, n, S, [], rfl, s3.trans s4, s4 _ _ eS3, s4 _ _ el3, lvs.kp (kp_same s4), upd_same, by rw [List.drop_length]; trivial, List.prefix_rfl, bf, so⟩ (fun i σ H4 _ h => by obtain ⟨_, _, _, _, _, _, _, _, _, _, _, h, _⟩ := h; exact .inl (.inl h)) (fun i x σ H4o H4 hi hp4 hy => ?_) (fun σ H4 hp4 => ?_)
      · obtain ⟨rfl, hx⟩ := hy
        obtain ⟨x4, x5, x6, x7, A', n, S, ys, rfl, s4, eS4, el4, lvs4, ef4, lf4, pre, bf4, so4⟩ := hp4
        obtain ⟨⟨st, mm⟩, hAi, tt, rfl, ett⟩ := lvs4.get hx
        rw [List.getElem?_drop] at hAi
        have hAi' : A'[lo + i]? = some (st, mm) := by
          obtain ⟨r, hr⟩ := pre
          rw [← hr, List.getElem?_append_left (List.getElem?_eq_some_iff.mp hAi).1]
          exact hAi
        have hRst : R st := run_R R0 Rs mm st (bf4.run _ _ _ hAi')
        have hml := bf4.mlen _ _ _ hAi'
        refine ⟨tt, _, rfl, .inl (.inl ett), rfl, _, _, rfl, _, _, rfl, rfl, ?_⟩
        refine ⟨_, rfl, ?_⟩
        refine for_it walk_str (fun j σ H5 => ∃ (x6 x7 : Option V) (A2 : List Pr2) (n : Nat) (S : Key → Bool) (ys : List V), σ = [some (.ref f'), some (.ref sn), some (.ref lv), some (.ref fl), some (.str (WS st)), some (.str (WS mm)), x6, x7] ∧ Same H H5 ∧ H5 sn = some (SetK P w sn S n) ∧ H5 lv = some (.lst xs) ∧ Lvs H5 xs (A.drop lo) ∧ H5 fl = some (.lst ys) ∧ Lvs H5 ys (A2.drop A.length) ∧ A <+: A2 ∧ A2[lo + i]? = some (st, mm) ∧ Bfs g L A2 (lo + i) j ∧ SeenOk S n A2)
          ⟨x6, x7, A', n, S, ys, rfl, s4, eS4, el4, lvs4, ef4, lf4, pre, hAi', bf4, so4⟩ (fun _ _ _ _ _ => trivial) (fun j x σ H5o H5 hj hp5 hy => ?_) (fun σ H5 hp5 => ?_)
        · obtain ⟨rfl, c, hc', rfl⟩ := hy
          obtain ⟨x6, x7, A2, n, S, ys, rfl, s5, eS5, el5, lvs5, ef5, lf5, pre5, hA5, bf5, so5⟩ := hp5
          have hj2 : j < 2 := hj
          have hbit : (⟨#[c]⟩ : Str) = WS [decide (j = 1)] := by
            match j, hj2, hc' with
            | 0, _, hc' => cases hc'; rfl
            | 1, _, hc' => cases hc'; rfl
          rw [hbit]
          have hsm5 := bf5.small
          have hlo5 := (List.getElem?_eq_some_iff.mp hA5).1
          have hml5 := bf5.mlen _ _ _ hA5
          refine ⟨rfl, s5 _ _ hf, .str (WS st), rfl, .str (WS [decide (j = 1)]), rfl, s5 _ _ hf, s5 _ _ hc, hstep st (decide (j = 1)) H5 _ hRst s5 fun H6 s56 => ?_⟩
          have s6 := s5.trans s56
          have hcat : (WS mm).length + (WS [decide (j = 1)]).length ≤ sizeLine := cat_len5 _ _ (by show _ + 1 ≤ 100000; omega)
          cases eg : g st (decide (j = 1)) with
          | none =>
            refine ⟨.non, rfl, rfl, _, rfl, ite2 (fun _ => ⟨_, rfl, .str (WS [decide (j = 1)]), rfl, _, _, rfl, rfl, hcat, ?_⟩) (fun e => absurd (decide_eq_true rfl) e)⟩
            rw [WS_cat]
            exact q (some (mm ++ [decide (j = 1)])) H6 s6 (bf5.least hA5 hj2 eg) fun M e => by cases e; rw [List.length_append]; show _ + 1 ≤ 1024; omega
          | some t =>
            have htl : t.length ≤ L := Rl t (Rs st _ t hRst eg)
            have eS6 := s56 _ _ eS5
            refine ⟨.str (WS t), rfl, rfl, _, rfl, ite2 (fun e => absurd (of_decide_eq_true e) (by intro z; cases z)) (fun _ => ?_)⟩
            refine ⟨.str (WS t), rfl, .ref sn, rfl, Sum.inr (WS t), sn, S, n, rfl, rfl, eS6, _, rfl, ?_⟩
            show if (!S (Sum.inr (WS t))) = true then _ else _
            cases hs : S (Sum.inr (WS t)) with
            | true =>
              exact iteF ⟨_, _, A2, n, S, ys, rfl, s6, eS6, s56 _ _ el5, lvs5.kp (kp_same s56), s56 _ _ ef5, lf5.kp (kp_same s56), pre5, hA5, bf5.old hA5 hj2 eg ((so5.iff t).mp hs), so5⟩
            | false =>
              have hnt : t ∉ A2.tail.map (·.1) := fun z => by
                rw [(so5.iff t).mpr z] at hs
                cases hs
              have hn := so5.le
              refine iteT ⟨.ref sn, rfl, ⟨sn, S, n, rfl, eS6⟩, .str (WS t), rfl, sn, Sum.inr (WS t), S, n, rfl, rfl, eS6, ?_, ?_⟩
              · show n + 1 < 4096
                omega
              rw [hs]
              generalize hH7 : upd H6 sn _ = H7
              have s7 : Same H H7 := fun a o ha => by
                rw [← hH7, upd_ne (hsn0 a o ha)]
                exact s6 a o ha
              have ne7 : ∀ {a : Addr} {xs : List V}, H6 a = some (.lst xs) → H7 a = some (.lst xs) := fun {a xs} ha => by
                rw [← hH7, upd_ne (fun e => by rw [e, eS6] at ha; cases ha)]
                exact ha
              have nt7 : ∀ {a : Addr} {xs : List V}, H6 a = some (.tup xs) → H7 a = some (.tup xs) := fun {a xs} ha => by
                rw [← hH7, upd_ne (fun e => by rw [e, eS6] at ha; cases ha)]
                exact ha
              have eS7 : H7 sn = some (SetK P w sn (fun j => S j || decide (j = Sum.inr (WS t))) (n + 1)) := by
                rw [← hH7]
                exact upd_same
              have el7 := ne7 (s56 _ _ el5)
              have ef7 := ne7 (s56 _ _ ef5)
              have lvs7 := (lvs5.kp (kp_same s56)).tups nt7
              have lf7 := (lf5.kp (kp_same s56)).tups nt7
              clear ne7 nt7 hH7
              refine ⟨.ref fl, rfl, .inl ⟨rfl, _, .inl (.inl ef7)⟩, .str (WS t), rfl, _, rfl, .str (WS [decide (j = 1)]), rfl, _, _, rfl, rfl, hcat, by show 2 ≤ sizeLine; decide, fun tn htn => ?_⟩
              rw [WS_cat]
              have s8 : Same H7 (upd H7 tn (.tup [.str (WS t), .str (WS (mm ++ [decide (j = 1)]))])) := same_new htn
              have etn : (upd H7 tn (.tup [.str (WS t), .str (WS (mm ++ [decide (j = 1)]))])) tn = some (.tup [.str (WS t), .str (WS (mm ++ [decide (j = 1)]))]) := upd_same
              have s08 := s7.trans s8
              revert s8 etn s08
              generalize upd H7 tn (.tup [.str (WS t), .str (WS (mm ++ [decide (j = 1)]))]) = H8
              intro s8 etn s08
              have ef8 := s8 _ _ ef7
              have lf8 := lf7.kp (kp_same s8)
              have hyl : ys.length ≤ 1024 := by
                rw [lf8.len, List.length_drop]
                omega
              refine ⟨fl, ys, _, rfl, rfl, ef8, small1000' (by omega), ?_⟩
              have k9 := kp_lst (ys := ys ++ [.ref tn]) ef8
              have hAl : A.length ≤ A2.length := pre5.length_le
              refine ⟨_, _, A2 ++ [(t, mm ++ [decide (j = 1)])], n + 1, _, ys ++ [.ref tn], rfl, app_same s08 hfl0, by rw [upd_ne nsf]; exact s8 _ _ eS7, by rw [upd_ne nlf]; exact s8 _ _ el7, (lvs7.kp (kp_same s8)).kp k9, upd_same, ?_, pre5.trans (List.prefix_append _ _), by rw [List.getElem?_append_left hlo5]; exact hA5, bf5.new hA5 hj2 eg htl hnt, so5.add⟩
              rw [List.drop_append_of_le_length hAl]
              exact (lf8.kp k9).snoc ⟨tn, rfl, k9 _ _ etn trivial⟩
        · obtain ⟨x6, x7, A2, n, S, ys, rfl, s5, eS5, el5, lvs5, ef5, lf5, pre5, hA5, bf5, so5⟩ := hp5
          exact ⟨_, _, _, _, A2, n, S, ys, rfl, s5, eS5, el5, lvs5, ef5, lf5, pre5, Bfs.next (q := lo + i) bf5 (List.getElem?_eq_some_iff.mp hA5).1, so5⟩
      · obtain ⟨x4, x5, x6, x7, A', n, S, ys, rfl, s4, eS4, el4, lvs4, ef4, lf4, pre, bf4, so4⟩ := hp4
        have ehi : lo + xs.length = A.length := by
          have := bf.le
          omega
        rw [ehi] at bf4
        have := bf4.small
        have := pre.length_le
        refine ⟨.ref fl, rfl, 2 ^ (L + 1) + 1 - A.length, by omega, _, _, _, _, _, A', A.length, n, S, fl, ys, rfl, s4, eS4, ef4, lf4, bf4, so4, rfl⟩

abbrev s_is_kept : Stmt := (topS 19)
theorem sc_is_kept : FnScope ["rule", "line"] ["rule", "line"] (fnScope s_is_kept) := fnScope_by (by decide +kernel)
theorem ok_is_kept {C f : Addr} {fd : FuncData} (F : C8.Fun K "is_kept" "is_kept" s_is_kept f fd) (M : Mg mg) (T : RlT K C) : FnOk P w K mg base CX0 1 f fd ["rule", "line"] (spKept C) := by
  refine fn0 F sc_is_kept (fun vs H Q E h => ?_) (fun cdv A outer s H vs Q E hr h => ?_)
  · obtain ⟨p, flag, ps, line, rfl, _⟩ := h
    rfl
  · obtain ⟨p, flag, ps, line, rfl, rl, hf, hfl, hl, q⟩ := h
    refine ⟨_, (pss_one (ps_ret (pe_cmpR op_eq (pe_m1 PySem.F.slot_str_find PySem.F.type_str_find mt_find (pe_op op_add_str (pv 1) (pe_fld (pv 0) rfl)) (pe_fld (pv 0) rfl)) (pe_callB call_len_str (by rfl) M.len PySem.boot_len (pa_cons (pv 1) pa_nil)) (nomark _)))), ?_⟩
    obtain ⟨dx, t, xs, e1, f1, g1⟩ := id rl
    refine ⟨.str (WS line), rfl, .ref p, rfl, p, C, dx, _, _, rfl, e1, T.cl, T.nF, rlf_flag flag t, _, _, rfl, rfl, cat_len5 _ _ (by omega), ?_⟩
    rw [WS_cat]
    refine ⟨⟨_, rfl⟩, .ref p, rfl, p, C, dx, _, _, rfl, e1, T.cl, T.nF, rlf_flag flag t, _, _, rfl, rfl, .str (WS line), rfl, _, rfl, ls_len5 line (by omega), rfl, ?_⟩
    have ed : decide (V.int (Txt.find (WS (line ++ flag)) (WS flag)) = V.int ((WS line).length : Int)) = decide (Kept flag line) := by
      apply decide_eq_decide.mpr
      rw [← kept_iff hf, find_WS flag (line ++ flag) hf, WS_len]
      cases e : findW flag (line ++ flag) with
      | none =>
        constructor
        · intro h
          injection h with h
          have h : (-1 : Int) = (line.length : Int) := h
          omega
        · intro h
          cases h
      | some i =>
        constructor
        · intro h
          injection h with h
          congr 1
          exact Int.ofNat.inj h
        · intro h
          cases h
          rfl
    rw [ed]
    exact q H (Same.refl H)
abbrev s_last_bits : Stmt := (topS 10)
theorem sc_last_bits : FnScope ["word", "many"] ["word", "many"] (fnScope s_last_bits) := fnScope_by (by decide +kernel)
theorem ok_last_bits {f : Addr} {fd : FuncData} (F : C8.Fun K "last_bits" "last_bits" s_last_bits f fd) (M : Mg mg) : FnOk P w K mg base CX0 1 f fd ["word", "many"] spLast := by
  refine fn0 F sc_last_bits (fun vs H Q E h => ?_) (fun cdv A outer s H vs Q E hr h => ?_)
  · obtain ⟨u, n, rfl, _⟩ := h
    rfl
  · obtain ⟨u, n, rfl, hl, q⟩ := h
    refine ⟨_, (pss_one (ps_ret (pe_slice sl_str (pv 0) (po_some (pe_callB (call_max2 rfl) (by rfl) M.max (by decide +kernel) (pa_cons pe_int (pa_cons (pe_op op_sub (pe_callB call_len_str (by rfl) M.len PySem.boot_len (pa_cons (pv 0) pa_nil)) (pv 1)) pa_nil)))) po_none))), ?_⟩
    refine ⟨.str (WS u), rfl, .str (WS u), rfl, _, rfl, ls_len5 u (by omega), .int (n : Nat), rfl, _, _, rfl, rfl, 0, _, rfl, _, rfl, _, rfl, ls_len5 u (by omega), ?_⟩
    have ei : (if ((WS u).length : Int) - (n : Int) > 0 then ((WS u).length : Int) - (n : Int) else 0) = ((u.length - n : Nat) : Int) := by
      rw [WS_len]
      split <;> omega
    rw [ei, cut_from _ (by omega), Int.toNat_natCast]
    exact q H (Same.refl H)
abbrev s_standing_behind : Stmt := (topS 37)
theorem sc_standing_behind : FnScope ["rule", "line"] ["rule", "line"] (fnScope s_standing_behind) := fnScope_by (by decide +kernel)
theorem ok_standing {C f : Addr} {fd : FuncData} (F : C8.Fun K "standing_behind" "standing_behind" s_standing_behind f fd) (M : Mg mg) (T : RlT K C) (c_last_bits : Cal P w K mg base 1 "last_bits" spLast []) (p_longest : Prp P w K mg base 2 C "longest" (spRLong C)) : FnOk P w K mg base CX0 4 f fd ["rule", "line"] (spStand C) := by
  refine fn0 F sc_standing_behind (fun vs H Q E h => ?_) (fun cdv A outer s H vs Q E hr h => ?_)
  · obtain ⟨p, flag, ps, line, rfl, _⟩ := h
    rfl
  · obtain ⟨p, flag, ps, line, rfl, rl, f1, f9, few, lens, hl, q⟩ := h
    refine ⟨_, (pss_one (ps_ret (pe_c c_last_bits hr (by decide) (by rfl) (pa_cons (pv 1) (pa_cons (pe_op op_sub (pe_callB (call_max2 rfl) (by rfl) M.max (by decide +kernel) (pa_cons (pe_p p_longest hr (by decide) (pv 0) rfl) (pa_cons (pe_callB call_len_str (by rfl) M.len PySem.boot_len (pa_cons (pe_fld (pv 0) rfl) pa_nil)) pa_nil))) pe_int) pa_nil))))), ?_⟩
    obtain ⟨dx, t, xs, e1, f1', g1⟩ := id rl
    refine ⟨.str (WS line), rfl, .ref p, rfl, p, dx, _, rfl, e1, p, flag, ps, rfl, rl, few, lens, fun H1 s1 => ?_⟩
    obtain ⟨dx2, t2, xs2, e2, f2, g2⟩ := rl.kp (kp_same s1)
    refine ⟨.ref p, rfl, p, C, dx2, _, _, rfl, e2, T.cl, T.nF, rlf_flag flag t2, _, rfl, ls_len5 flag (by omega), _, _, rfl, _, _, rfl, rfl, ?_⟩
    refine ⟨line, NN flag ps, ?_, hl, fun H2 s2 => q H2 (s1.trans s2)⟩
    have en : (if ((WS flag).length : Int) > (longL ps : Int) then ((WS flag).length : Int) else (longL ps : Int)) - 1 = ((NN flag ps : Nat) : Int) := by
      rw [WS_len]
      unfold NN
      split <;> omega
    show [V.str (WS line), V.int ((if ((WS flag).length : Int) > (longL ps : Int) then ((WS flag).length : Int) else (longL ps : Int)) - 1)] = _
    rw [en]
abbrev s_spoiled_step : Stmt := ((C8.fnBody (topS 38)).getD 0 (.Pass ⟨0, 0, 0, 0⟩))
theorem sc_spoiled_step : NdefX.NScope ["standing", "bit", "rule", "line"] ["standing", "bit"] ["rule"] (C8.fnScope s_spoiled_step) := NdefX.nscope_by (by decide +kernel)
theorem ok_spoiled_step {C f c' : Addr} {qual : Str} {cl : List (Str × Addr)} (M : Mg mg) (c_filled : Cal P w K mg base 3 "filled" (spFilled C) []) (c_is_kept : Cal P w K mg base 1 "is_kept" (spKept C) []) (c_standing_behind : Cal P w K mg base 4 "standing_behind" (spStand C) []) :
    NdefX.NOk P w K mg base CX0 5 f (NdefX.NF.of s_spoiled_step "step" qual cl c') ["standing", "bit"] ["rule"] (spStep C) := by
  refine NdefX.nok_of (N := ["standing", "bit", "rule", "line"]) sc_spoiled_step (fun doc pm ctv us hl => ?_) (fun ws vs H Q E h => ?_) (fun A outer s H vs ws Q E hr hf hc hwl h => ?_)
  · match us, hl with
    | [a, b], _ => rfl
  · obtain ⟨p, flag, ps, st, b, _, rfl, _⟩ := h
    rfl
  · obtain ⟨p, flag, ps, st, b, rfl, rfl, rl, f1, f9, few, lens, hs, hend, q⟩ := h
    refine ⟨_, (pss_cons (ps_set (i := 3) sc_spoiled_step.nd rfl (Or.inl rfl) (pe_c c_filled hr (by decide) (by rfl) (pa_cons (pv 2) (pa_cons (pe_op op_add_str (pv 0) (pv 1)) pa_nil))))
        (pss_one (ps_ret (pe_ifExp (pt_val (pe_c c_is_kept hr (by decide) (by rfl) (pa_cons (pv 2) (pa_cons (pv 3) pa_nil)))) (pe_c c_standing_behind hr (by decide) (by rfl) (pa_cons (pv 2) (pa_cons (pv 3) pa_nil))) pe_non)))), ?_⟩
    refine ⟨.ref p, rfl, .str (WS st), rfl, .str (WS [b]), rfl, _, _, rfl, rfl, cat_len5 _ _ (by show _ + 1 ≤ 100000; omega), ?_⟩
    rw [WS_cat]
    have hul : (st ++ [b]).length ≤ 1001 := by rw [List.length_append]; show _ + 1 ≤ 1001; omega
    have hq : oW (gS flag ps st b) = if Kept flag (putsN ps 24 (st ++ [b])) then .str (WS (lastN (NN flag ps) (putsN ps 24 (st ++ [b])))) else .non := by
      unfold gS
      split <;> rfl
    have hlen := putsN_len ps 24 (st ++ [b])
    rw [hq] at q
    refine ⟨p, flag, ps, st ++ [b], rfl, rl, hend, by omega, fun H1 s1 => ?_⟩
    revert q hlen
    generalize putsN ps 24 (st ++ [b]) = line
    intro q hlen
    refine ⟨.ref p, rfl, .str (WS line), rfl, p, flag, ps, line, rfl, rl.kp (kp_same s1), fun e => (by rw [e] at f1; exact absurd f1 (by decide)), f9, by omega, fun H2 s2 => ⟨_, rfl, ?_⟩⟩
    have s12 := s1.trans s2
    by_cases hk : Kept flag line
    · rw [if_pos hk] at q
      rw [decide_eq_true hk]
      exact iteT ⟨.ref p, rfl, .str (WS line), rfl, p, flag, ps, line, rfl, rl.kp (kp_same s12), f1, f9, few, lens, by omega, fun H3 s3 => q H3 (s12.trans s3)⟩
    · rw [if_neg hk] at q
      rw [decide_eq_false hk]
      exact iteF (q H2 s12)
abbrev s_spoiled : Stmt := (topS 38)
theorem sc_spoiled : FnScope ["rule", "step"] ["rule"] (fnScope s_spoiled) := fnScope_by (by decide +kernel)
def mkS (n : Nat) (c' : Addr) : NdefX.NF := NdefX.NF.of s_spoiled_step "step" (("spoiled" : Str) ++ ".<locals>." ++ "step") (cloFrom (cellsFrom (n + 1) (C8.fnScope s_spoiled).names []) (C8.fnScope s_spoiled_step).names []) c'
theorem nd_spoiled : NdefX.ndefB (C8.fnScope s_spoiled) (C8.fnScope s_spoiled_step) ["rule"] = true := by decide +kernel
theorem ok_spoiled {C f cc P1 g : Addr} {fd fdg : FuncData} {T : List NdefX.NTab} (F : C8.Fun K "spoiled" "spoiled" s_spoiled f fd) (M : Mg mg) (hcd : fd.code = .ref cc) (TB : LamX.TabB base mg cc P1) (hm : (P1, nmS) ∈ T) (hu : ∀ p ∈ T, p.1 = P1 → p.2 = nmS)
    (c_filled : Cal P w K mg base 3 "filled" (spFilled C) []) (c_is_kept : Cal P w K mg base 1 "is_kept" (spKept C) []) (c_standing_behind : Cal P w K mg base 4 "standing_behind" (spStand C) [])
    (H_first_refused : Clo.FnOkH P w K mg base CX0 6 g fdg ["step"] (Clo.hSp (hFR P w K mg base 5))) (g_first_refused : mg "first_refused" = some (.ref g)) (k_first_refused : PySem.W.keepIn K (.ref g) = true) (b_first_refused : Binds K fdg ["step"] []) : FnOk P w K mg base CX0 7 f fd ["rule"] (spSpoiled T C) := by
  refine Clo.fn0c F sc_spoiled (fun vs H Q E h => ?_) (fun cdv A outer s H vs Q E hcv hr h => ?_)
  · obtain ⟨p, flag, ps, rfl, _⟩ := h
    rfl
  · obtain ⟨p, flag, ps, rfl, rl, ok, tb, q⟩ := h
    rw [hcd] at hcv
    subst hcv
    have NDEF_step := NdefX.ps_ndefMS (X := (cxOf CX0 P w K mg base ["rule", "step"] "spoiled" (C8.fnScope s_spoiled) f (.ref cc) A outer s H E).nox) (st := s_spoiled_step) (i := 1) (name := "step") (T := T) rfl TB rfl hm rfl hu (NdefX.ndef_free nd_spoiled) rfl rfl rfl sc_spoiled.nd rfl (Or.inl rfl) (Or.inl rfl)
    have cp_first := fun (k : (cxOf CX0 P w K mg base ["rule", "step"] "spoiled" (C8.fnScope s_spoiled) f (.ref cc) A outer s H E).nox.Ok) => NdefX.Caps.made (fr := ["rule"]) (js := [0]) k (NdefX.ndef_free nd_spoiled) (NdefX.ndef_fr nd_spoiled) rfl
    refine ⟨_, (pss_cons (NDEF_step)
        (pss_one (ps_ret (Clo.pe_callC (mk := mkS s.heap.objs.size) (fr := ["rule"]) (js := [0]) H_first_refused (fun _ => rfl) cp_first (fun _ => rfl) hr (by decide) (by rfl) g_first_refused k_first_refused b_first_refused (pa_cons (pv 1) pa_nil))))), ?_⟩
    refine ⟨tb, fun fs cs H1 e1 o1 t1 n1 f1 c1 => ?_⟩
    have rl1 := rl.ext e1
    refine ⟨.ref fs, rfl, fs, cs, f1, c1, ["standing", "bit"], gS flag ps, NN flag ps, spStep C, fun s => ∃ m, s = lastN (NN flag ps) (bodyL ps m), rfl, ok_spoiled_step M c_filled c_is_kept c_standing_behind, ok.nn, ⟨[], by show [] = lastN _ []; unfold lastN; rw [List.drop_nil]⟩, fun s b t h e => reach_next h e, fun s h => ?_, fun s b H2 Q' h s2 k => ?_, fun r H2 s2 hr hrl => ?_⟩
    · obtain ⟨m, rfl⟩ := h
      exact lastN_len _ _
    · obtain ⟨m, rfl⟩ := h
      have := ok.few
      have := ok.f2
      have := ok.f9
      have := lastN_len (NN flag ps) (bodyL ps m)
      have := ok.nn
      exact ⟨p, flag, ps, _, b, rfl, rfl, rl1.kp (kp_same s2), by omega, by omega, by omega, fun p hp => Nat.le_trans (ok.l4 p hp) (by decide), by omega, put_next _ b (body_ok ok.fill ok.l4 m b).1, fun H3 s3 => k H3 s3⟩
    · exact q r H2 (Tk.trans ⟨e1, t1, o1⟩ (tk_same t1 s2)) (spo_of hr) hrl
abbrev s_is_clean : Stmt := (topS 39)
theorem sc_is_clean : FnScope ["rule"] ["rule"] (fnScope s_is_clean) := fnScope_by (by decide +kernel)
theorem ok_is_clean {C f : Addr} {fd : FuncData} {T : List NdefX.NTab} (F : C8.Fun K "is_clean" "is_clean" s_is_clean f fd) (M : Mg mg) (c_spoiled : Cal P w K mg base 7 "spoiled" (spSpoiled T C) []) : FnOk P w K mg base CX0 8 f fd ["rule"] (spClean T C) := by
  refine fn0 F sc_is_clean (fun vs H Q E h => ?_) (fun cdv A outer s H vs Q E hr h => ?_)
  · obtain ⟨p, flag, ps, rfl, _⟩ := h
    rfl
  · obtain ⟨p, flag, ps, rfl, rl, ok, tb, q⟩ := h
    refine ⟨_, (pss_one (ps_ret (pe_cmpR op_isN (pe_c c_spoiled hr (by decide) (by rfl) (pa_cons (pv 0) pa_nil)) pe_non (nomark _)))), ?_⟩
    refine ⟨.ref p, rfl, p, flag, ps, rfl, rl, ok, tb, fun r H1 t1 hs _ => ⟨rfl, ?_⟩⟩
    refine q _ H1 t1 ?_
    cases r with
    | none => exact ⟨fun _ => hs, fun _ => decide_eq_true rfl⟩
    | some M =>
      refine ⟨fun e => ?_, fun h => absurd (h M) hs.1⟩
      exact absurd (of_decide_eq_true e) (by intro z; cases z)

abbrev s_one_of : Stmt := (topS 53)
theorem sc_one_of : FnScope ["_law_box", "_law_some"] ["_law_box", "_law_some"] (fnScope s_one_of) := fnScope_by (by decide +kernel)
theorem ok_one_of {f : Addr} {fd : FuncData} (F : C8.Fun K "_law_one_of" "_law_one_of" s_one_of f fd) (M : Mg mg) (c_choose : Cal P w K mg base 1 "_law_choose" spChoose []) : FnOk P w K mg base CX0 2 f fd ["_law_box", "_law_some"] spOneOf := by
  refine fn0 F sc_one_of (fun vs H Q E h => ?_) (fun cdv A outer s H vs Q E hr h => ?_)
  · obtain ⟨b, l, xs, rfl, _⟩ := h
    rfl
  · obtain ⟨b, l, xs, rfl, hb, hl, hn, hx, hz, q⟩ := h
    refine ⟨_, (pss_one (ps_ret (pe_ix (r := rIxL K) ix_list (pv 1) (pe_c c_choose hr (by decide) (by rfl) (pa_cons (pv 0) (pa_cons (pe_callB call_len_seq (by rfl) M.len PySem.boot_len (pa_cons (pv 1) pa_nil)) pa_nil))) (fun _ _ => rfl)))), ?_⟩
    have h1 : 0 < xs.length := List.length_pos_iff.mpr hx
    refine ⟨.ref l, rfl, .ref b, rfl, .ref l, rfl, l, xs, rfl, .inl (.inl (.inl hl)), b, _, rfl, hb, by omega, by omega, fun r H' r0 r1 hb' off => ?_⟩
    have e : r.toNat < xs.length := by omega
    refine ⟨l, xs, r, xs[r.toNat], rfl, rfl, .inl (.inl (off _ _ hl hn)), ?_, q _ _ (List.getElem_mem _) hb' off⟩
    have := atI_nat (xs := xs) (j := r.toNat) (v := xs[r.toNat]) (by simp [e])
    rw [Int.toNat_of_nonneg r0] at this
    exact this
abbrev s_word : Stmt := (topS 54)
theorem sc_word : FnScope ["_law_box", "_law_few", "_law_many", "_law_turn"] ["_law_box", "_law_few", "_law_many"] (fnScope s_word) := fnScope_by (by decide +kernel)
theorem ok_word2 {f : Addr} {fd : FuncData} (F : C8.Fun K "_law_word" "_law_word" s_word f fd) (M : Mg mg) (c_choose : Cal P w K mg base 1 "_law_choose" spChoose []) (c_one_of : Cal P w K mg base 2 "_law_one_of" spOneOf []) : FnOk P w K mg base CX0 3 f fd ["_law_box", "_law_few", "_law_many"] spWord2 := by
  refine fn0 F sc_word (fun vs H Q E h => ?_) (fun cdv A outer s H vs Q E hr h => ?_)
  · obtain ⟨b, few, many, rfl, _⟩ := h
    rfl
  · obtain ⟨b, few, many, rfl, hb, hf0, hfm, hm, q⟩ := h
    refine ⟨_, (pss_one (ps_ret (pe_join pe_str (pe_lc (own := [("_law_turn", 3)]) (g := (gName 3)) rfl sc_word.nd (pi_range1 (by rfl) M.range (pa_cons (pe_op op_add (pv 1) (pe_c c_choose hr (by decide) (by rfl) (pa_cons (pv 0) (pa_cons (pe_op op_add (pe_op op_sub (pv 2) (pv 1)) pe_int) pa_nil)))) pa_nil)) (blkOk_by (N := ["_law_box", "_law_few", "_law_many", "_law_turn"]) (sc := fnScope s_word) (by decide +kernel)) (fun _ _ _ _ _ => (pg_name (i := 3) sc_word.nd rfl (Or.inl rfl))) (fun _ _ _ _ _ => pts_nil) (fun _ _ _ _ _ => (pe_c c_one_of hr (by decide) (by rfl) (pa_cons (pv 0) (pa_cons (pe_lst (pa_cons pe_str (pa_cons pe_str pa_nil))) pa_nil)))))))), ?_⟩
    refine ⟨⟨_, rfl⟩, .int few, rfl, .ref b, rfl, .int many, rfl, .int few, rfl, _, _, rfl, rfl, _, _, rfl, rfl, b, _, rfl, hb, by omega, by omega, fun r H0 r0 r1 hb0 off0 => ?_⟩
    refine ⟨_, _, rfl, rfl, few + r, rfl, by omega, by omega, fun D hD => ?_⟩
    have nD : D ≠ b := hb0.ne_new hD
    have hDn : ∀ a o, H a = some o → a ≠ b → a ≠ D := fun a o ha na => ne_of_none (off0 _ _ ha na) hD
    refine lc_it walk_range (fun i H1 => ∃ z : List Bool, z.length = i ∧ H1 D = some (.lst (bitV z)) ∧ BoxAt H1 b ∧ Off b H H1)
      ⟨[], rfl, upd_same, hb0.same (same_new hD), off0.trans (off_of (same_new hD))⟩ (fun _ _ _ _ => trivial) (fun i x H1o H1 hi hp hy => ?_) (fun H1 hp => ?_)
    · obtain ⟨rfl, rfl⟩ := hy
      obtain ⟨z, hz, eD, hb1, off⟩ := hp
      refine ⟨rfl, .ref b, rfl, by show 2 ≤ sizeLine; decide, fun l hl => ⟨b, l, _, rfl, hb1.same (same_new hl), upd_same, hb1.ne_new hl, by simp, by decide, fun x H3 hx hb3 off3 => ?_⟩⟩
      obtain ⟨bit, rfl⟩ := bit_of hx
      have nDl : D ≠ l := ne_of_none eD hl
      refine ⟨bitV z, off3 _ _ (by rw [upd_ne nDl]; exact eD) nD, ?_, z ++ [bit], by simp [hz], ?_, ?_, ?_⟩
      · unfold bitV
        rw [List.length_map]
        exact small1000 (by omega)
      · rw [upd_same]
        unfold bitV
        rw [List.map_append]
        rfl
      · obtain ⟨c, d, e, r⟩ := hb3
        exact ⟨c, d, by rw [upd_ne nD.symm]; exact e, r⟩
      · intro a o ha na
        rw [upd_ne (hDn a o ha na)]
        exact off3 _ _ (by rw [upd_ne (ne_of_none (off _ _ ha na) hl)]; exact off _ _ ha na) na
    · obtain ⟨z, hz, eD, hb1, off⟩ := hp
      refine ⟨_, D, z.map fun b => WS [b], rfl, rfl, .inl (.inl (.inl ?_)), join_bits_sz z (by omega), ?_⟩
      · rw [eD, List.map_map]
        rfl
      · rw [join_bits]
        exact q z _ (by omega) (by omega) hb1 off

abbrev s_put : Stmt := (topS 55)
theorem sc_put : FnScope ["_law_rule_here", "_law_line", "_law_pattern", "_law_bit", "_law_some"] ["_law_rule_here", "_law_line"] (fnScope s_put) := fnScope_by (by decide +kernel)
theorem ok_lputW {f : Addr} {fd : FuncData} (F : C8.Fun K "_law_put" "_law_put" s_put f fd) (M : Mg mg) : FnOk P w K mg base CX0 1 f fd ["_law_rule_here", "_law_line"] spLPutW := by
  refine fn0 F sc_put (fun vs H Q E h => ?_) (fun cdv A outer s H vs Q E hr h => ?_)
  · obtain ⟨t, flag, ps, line, rfl, _⟩ := h
    rfl
  · obtain ⟨t, flag, ps, line, rfl, ⟨l, xs, ht, hl, hp⟩, few, lens, hln, q⟩ := h
    refine ⟨_, (pss_cons (ps_setLc (i := 4) (own := [("_law_pattern", 2), ("_law_bit", 3)]) (g := (gTup _ 2 (gCons (gName 2) (gCons (gName 3) gNil)))) rfl sc_put.nd rfl rfl (sw_true rfl rfl rfl (by decide +kernel)) (pi_list (pe_ix (r := rIxT K) ix_tup (pv 0) pe_int (fun _ _ => rfl))) (blkOk_by (N := ["_law_rule_here", "_law_line", "_law_pattern", "_law_bit", "_law_some"]) (sc := fnScope s_put) (by decide +kernel)) (fun _ _ _ _ _ => (pg_tup rfl (pgs_cons (pg_name (i := 2) sc_put.nd rfl (Or.inl rfl)) (pgs_cons (pg_name (i := 3) sc_put.nd rfl (Or.inl rfl)) pgs_nil)))) (fun _ _ _ _ _ => (pts_one (pt_cmpR op_eq (pe_slice sl_str (pv 1) (po_some (pe_callB (call_max2 rfl) (by rfl) M.max (by decide +kernel) (pa_cons pe_int (pa_cons (pe_op op_sub (pe_callB call_len_str (by rfl) M.len PySem.boot_len (pa_cons (pv 1) pa_nil)) (pe_callB call_len_str (by rfl) M.len PySem.boot_len (pa_cons (pv 2) pa_nil))) pa_nil)))) po_none) (pv 2) (nomark _)))) (fun _ _ _ _ _ => (pv 3)))
        (pss_one (ps_ret (pe_ifExp (pt_cmpR (op_neD hr.units) (pv 4) (pe_lst pa_nil) (nomark _)) (pe_ix (r := rIxL K) ix_list (pv 4) pe_int (fun _ _ => rfl)) pe_str)))), ?_⟩
    have hxl : xs.length = ps.length := hp.len
    refine ⟨.ref t, rfl, t, _, 1, _, rfl, rfl, .inl (.inl ht), atI1, l, rfl, ⟨xs, .inl (.inl hl)⟩, fun D hD => ?_⟩
    have hDn : ∀ a o, H a = some o → a ≠ D := fun a o ha => ne_of_none ha hD
    refine lc_it (walk_list (K := K) (a := l) (xs := xs)) (fun i H1 => H1 D = some (.lst (strV (((ps.take i).filter fun p => decide (p.1 <:+ line)).map fun p => [p.2]))) ∧ Same H H1) ⟨upd_same, same_new hD⟩ (fun i H1 _ h => .inl (.inl (h.2 _ _ hl))) (fun i x H1o H1 hi hp1 hy => ?_) (fun H1 hp1 => ?_)
    · obtain ⟨rfl, hx⟩ := hy
      obtain ⟨eD, sm⟩ := hp1
      obtain ⟨p, hpi, t2, rfl, ht2⟩ := hp.get hx
      have hpm := List.mem_of_getElem? hpi
      have hpl := lens p hpm
      refine ⟨t2, _, rfl, .inl (.inl (sm _ _ ht2)), rfl, _, _, rfl, _, _, rfl, rfl, rfl, ?_⟩
      refine ⟨.str (WS line), rfl, .str (WS line), rfl, _, rfl, ls_len5 line (by omega), .str (WS p.1), rfl, _, rfl, ls_len p.1 (by omega), _, _, rfl, rfl, 0, _, rfl, _, rfl, _, rfl, ls_len5 line (by omega), .str (WS p.1), rfl, rfl, _, rfl, ?_⟩
      have ei : (if ((WS line).length : Int) - ((WS p.1).length : Int) > 0 then ((WS line).length : Int) - ((WS p.1).length : Int) else 0) = ((line.length - p.1.length : Nat) : Int) := by
        rw [WS_len, WS_len]
        split <;> omega
      rw [ei, cut_from _ (by omega), eqS]
      have ed : decide (line.drop ((line.length - p.1.length : Nat) : Int).toNat = p.1) = decide (p.1 <:+ line) := by
        apply decide_eq_decide.mpr
        rw [Int.toNat_natCast, List.suffix_iff_eq_drop]
        exact ⟨fun h => h.symm, fun h => h.symm⟩
      rw [ed]
      have eT : ((ps.take (i + 1)).filter fun p => decide (p.1 <:+ line)) = ((ps.take i).filter fun p => decide (p.1 <:+ line)) ++ (if decide (p.1 <:+ line) = true then [p] else []) := by
        rw [List.take_add_one, hpi, List.filter_append]
        congr 1
        show List.filter _ [p] = _
        rw [List.filter_cons, List.filter_nil]
      refine ite2 (fun e => ?_) (fun e => ?_)
      · rw [if_pos e] at eT
        refine ⟨_, rfl, strV (((ps.take i).filter fun p => decide (p.1 <:+ line)).map fun p => [p.2]), eD, ?_, ?_, fun a o ha => ?_⟩
        · rw [strV_len, List.length_map]
          refine small1000 (Nat.le_trans (List.length_filter_le _ _) ?_)
          rw [List.length_take]
          omega
        · rw [upd_same, eT, List.map_append, strV_app]
          rfl
        · rw [upd_ne (hDn a o ha)]
          exact sm _ _ ha
      · rw [if_neg e, List.append_nil] at eT
        rw [← eT] at eD
        exact ⟨eD, sm⟩
    · obtain ⟨eD, sm⟩ := hp1
      rw [hxl, List.take_length] at eD
      generalize hF : ((ps.filter fun p => decide (p.1 <:+ line)).map fun p => [p.2]) = ws at eD
      have hq : oS (putL ps line) = hdS ws := by
        rw [← hF]
        unfold putL
        rw [← List.head?_filter]
        cases ps.filter fun p => decide (p.1 <:+ line) with
        | nil => rfl
        | cons x r => rfl
      refine ⟨.ref D, rfl, by show 0 ≤ sizeLine; decide, fun e0 he0 => ?_⟩
      have s2 : Same H1 (upd H1 e0 (.lst [])) := same_new he0
      refine ⟨.list (ws.map fun w => PyData.str (WS w)), .list [], .lst (.inl (.inl (s2 _ _ eD))) (dpAll_strs ws), .lst (.inl (.inl upd_same)) .nil, shaped_strs ws, rfl, _, rfl, ?_⟩
      rw [eqv_nil]
      cases ws with
      | nil =>
        refine iteF ?_
        rw [hq] at q
        exact q _ (sm.trans s2)
      | cons u r =>
        refine iteT ⟨.ref D, rfl, D, _, 0, _, rfl, rfl, .inl (.inl (s2 _ _ eD)), atI0, ?_⟩
        rw [hq] at q
        exact q _ (sm.trans s2)

abbrev s_is_rule : Stmt := (topS 56)
theorem sc_is_rule : FnScope ["_law_rule_here", "_law_pattern", "_law_bit", "_law_names", "_law_at", "_law_one", "_law_spot", "_law_other_one", "_law_known", "_law_waiting", "_law_behind", "_law_line", "_law_turn", "_law_due", "_law_there"] ["_law_rule_here"] (fnScope s_is_rule) := fnScope_by (by decide +kernel)
theorem ok_is_ruleB {f : Addr} {fd : FuncData} (F : C8.Fun K "_law_is_rule" "_law_is_rule" s_is_rule f fd) (M : Mg mg) (c_put : Cal P w K mg base 1 "_law_put" spLPut []) : FnOk P w K mg base CX0 2 f fd ["_law_rule_here"] spIsRule := by
  refine fn0 F sc_is_rule (fun vs H Q E h => ?_) (fun cdv A outer s H vs Q E hr h => ?_)
  · obtain ⟨t, flag, ps, rfl, _⟩ := h
    rfl
  · obtain ⟨t, flag, ps, rfl, ru, few, hps, q⟩ := h
    obtain ⟨l, xs, ht, hl, hp⟩ := id ru
    have hxl : xs.length = ps.length := hp.len
    refine ⟨_, (pss_cons (ps_setLc (i := 3) (own := [("_law_pattern", 1), ("_law_bit", 2)]) (g := (gTup _ 2 (gCons (gName 1) (gCons (gName 2) gNil)))) rfl sc_is_rule.nd rfl rfl (sw_true rfl rfl rfl (by decide +kernel)) (pi_list (pe_ix (r := rIxT K) ix_tup (pv 0) pe_int (fun _ _ => rfl))) (blkOk_by (N := ["_law_rule_here", "_law_pattern", "_law_bit", "_law_names", "_law_at", "_law_one", "_law_spot", "_law_other_one", "_law_known", "_law_waiting", "_law_behind", "_law_line", "_law_turn", "_law_due", "_law_there"]) (sc := fnScope s_is_rule) (by decide +kernel)) (fun _ _ _ _ _ => (pg_tup rfl (pgs_cons (pg_name (i := 1) sc_is_rule.nd rfl (Or.inl rfl)) (pgs_cons (pg_name (i := 2) sc_is_rule.nd rfl (Or.inl rfl)) pgs_nil)))) (fun _ _ _ _ _ => pts_nil) (fun _ _ _ _ _ => (pv 1)))
        (pss_cons (ps_for PassesOwn.never rfl (pi_enum (by rfl) M.enumerate (pa_cons (pv 3) pa_nil)) (pg_tup rfl (pgs_cons (pg_name (i := 4) sc_is_rule.nd rfl (Or.inl rfl)) (pgs_cons (pg_name (i := 5) sc_is_rule.nd rfl (Or.inl rfl)) pgs_nil)))
          (pss_one (ps_for PassesOwn.never rfl (pi_enum (by rfl) M.enumerate (pa_cons (pv 3) pa_nil)) (pg_tup rfl (pgs_cons (pg_name (i := 6) sc_is_rule.nd rfl (Or.inl rfl)) (pgs_cons (pg_name (i := 7) sc_is_rule.nd rfl (Or.inl rfl)) pgs_nil)))
              (pss_one (ps_if (PW.pt (pw_and (pt_cmpR op_ne (pv 4) (pv 6) (nomark _)) (pw_and1 (pt_val (pe_m1 PySem.F.slot_str_endswith PySem.F.type_str_endswith mt_endswith (pv 5) (pv 7))))))
                  (pss_one (ps_ret pe_bl))
                  pss_nil)))))
        (pss_cons (ps_par (i := 8) (j := 9) rfl sc_is_rule.nd rfl rfl (by decide) rfl rfl (pa_cons (pe_disp (pps_cons pe_str pe_bl pps_nil) (by rfl) (by rfl) (fun z => by cases z) (by decide)) (pa_cons (pe_lst (pa_cons pe_str pa_nil)) pa_nil)) (by rfl))
        (pss_cons (ps_while PassesOwn.never (pt_cmpR (op_neD hr.units) (pv 9) (pe_lst pa_nil) (nomark _))
          (pss_cons (ps_set (i := 10) sc_is_rule.nd rfl (Or.inl rfl) (pe_bm0 PySem.F.plainAttrs_list PySem.F.slot_list_pop PySem.F.type_list_pop mt_pop (pv 9)))
            (pss_one (ps_for PassesOwn.never rfl (pi_str pe_str) (pg_name (i := 2) sc_is_rule.nd rfl (Or.inl rfl))
              (pss_cons (ps_set (i := 11) sc_is_rule.nd rfl (Or.inl rfl) (pe_op op_add_str (pv 10) (pv 2)))
                (pss_cons (ps_for PassesOwn.never rfl (pi_range1 (by rfl) M.range (pa_cons pe_int pa_nil)) (pg_name (i := 12) sc_is_rule.nd rfl (Or.inl rfl))
                  (pss_cons (ps_set (i := 13) sc_is_rule.nd rfl (Or.inl rfl) (pe_c c_put hr (by decide) (by rfl) (pa_cons (pv 0) (pa_cons (pv 11) pa_nil))))
                    (pss_cons (ps_if (pt_cmpR op_eq (pv 13) pe_str (nomark _))
                      (pss_one ps_break)
                      pss_nil)
                    (pss_one (ps_set (i := 11) sc_is_rule.nd rfl (Or.inl rfl) (pe_op op_add_str (pv 11) (pv 13)))))))
                (pss_cons (ps_if (pt_cmpR op_gt (pe_callB call_len_str (by rfl) M.len PySem.boot_len (pa_cons (pv 11) pa_nil)) (pe_op op_add (pe_callB call_len_str (by rfl) M.len PySem.boot_len (pa_cons (pv 10) pa_nil)) pe_int) (nomark _))
                  (pss_one (ps_ret pe_bl))
                  pss_nil)
                (pss_cons (ps_set (i := 14) sc_is_rule.nd rfl (Or.inl rfl) (pe_slice sl_str (pv 11) (po_some (pe_callB (call_max2 rfl) (by rfl) M.max (by decide +kernel) (pa_cons pe_int (pa_cons (pe_op op_sub (pe_callB call_len_str (by rfl) M.len PySem.boot_len (pa_cons (pv 11) pa_nil)) pe_int) pa_nil)))) po_none))
                (pss_one (ps_if (pt_cmp (pc_dnotin (hu_of hr) (pv 14) (pv 8)))
                  (pss_cons (ps_dput (hu_of hr) (pv 8) (pv 14) pe_bl rfl)
                    (pss_one (ps_expr (pe_bm PySem.F.plainAttrs_list PySem.F.slot_list_append PySem.F.type_list_append mt_append (pv 9) (pa_cons (pv 14) pa_nil)))))
                  pss_nil))))))))))
        (pss_one (ps_ret pe_bl)))))), ?_⟩
    -- the patterns
    refine ⟨.ref t, rfl, t, _, 1, _, rfl, rfl, .inl (.inl ht), atI1, l, rfl, ⟨xs, .inl (.inl hl)⟩, fun D hD => ?_⟩
    refine lc_it (walk_list (K := K) (a := l) (xs := xs)) (fun i H1 => H1 D = some (.lst (strV ((ps.map (·.1)).take i))) ∧ Same H H1) ⟨upd_same, same_new hD⟩ (fun i H1 _ h => .inl (.inl (h.2 _ _ hl))) (fun i x H1o H1 hi hp1 hy => ?_) (fun H1 hp1 => ?_)
    · obtain ⟨rfl, hx⟩ := hy
      obtain ⟨eD, sm⟩ := hp1
      obtain ⟨p, hpi, t2, rfl, ht2⟩ := hp.get hx
      refine ⟨t2, _, rfl, .inl (.inl (sm _ _ ht2)), rfl, _, _, rfl, _, _, rfl, rfl, rfl, _, rfl, strV ((ps.map (·.1)).take i), eD, ?_, ?_, fun a u ha => ?_⟩
      · rw [strV_len, List.length_take, List.length_map]
        exact small1000 (by omega)
      · rw [upd_same, List.take_add_one, List.getElem?_map, hpi, strV_app]
        rfl
      · rw [upd_ne (ne_of_none ha hD)]
        exact sm _ _ ha
    obtain ⟨eD, s1⟩ := hp1
    rw [hxl, ← List.length_map (f := (·.1)) (as := ps), List.take_length] at eD
    generalize hws : ps.map (·.1) = ws at eD
    have hwl : ws.length ≤ 2 := by rw [← hws, List.length_map]; exact few
    -- no pattern ends with another one
    refine ⟨.ref D, rfl, D, _, rfl, .inl (.inl eD), ?_⟩
    refine for_it (walk_enum (K := K) (a := D) (xs := strV ws)) (fun i σ H2 => ∃ x1 x2 x4 x5 x6 x7, σ = [some (.ref t), x1, x2, some (.ref D), x4, x5, x6, x7, none, none, none, none, none, none, none] ∧ Same H1 H2 ∧ ∀ (a b : Nat) (u v : List Bool), a < i → ws[a]? = some u → ws[b]? = some v → a ≠ b → ¬ v <:+ u)
      ⟨none, none, none, none, none, none, rfl, Same.refl H1, fun a _ _ _ h => absurd h (Nat.not_lt_zero a)⟩ (fun i σ H2 _ h => by obtain ⟨_, _, _, _, _, _, _, s2, _⟩ := h; exact .inl (.inl (s2 _ _ eD))) (fun i x σ H2o H2 hi hp2 hy => ?_) (fun σ H2 hp2 => ?_)
    · obtain ⟨T, x', y', rfl, hT, rfl, g1, g2⟩ := hy
      obtain ⟨x1, x2, x4, x5, x6, x7, rfl, s2, no⟩ := hp2
      cases g1
      obtain ⟨u, hu, rfl⟩ := strV_get g2
      rw [strV_len] at hi
      have sT := s2.trans (same_new (o := .tup [V.int (i : Nat), V.str (WS u)]) hT)
      refine ⟨T, _, rfl, .inl (.inl upd_same), rfl, _, _, rfl, _, _, rfl, rfl, ?_⟩
      refine ⟨.ref D, rfl, D, _, rfl, .inl (.inl (sT _ _ eD)), ?_⟩
      refine for_it (walk_enum (K := K) (a := D) (xs := strV ws)) (fun j σ H3 => ∃ x6 x7, σ = [some (.ref t), x1, x2, some (.ref D), some (.int (i : Nat)), some (.str (WS u)), x6, x7, none, none, none, none, none, none, none] ∧ Same H1 H3 ∧ ∀ (b : Nat) (v : List Bool), b < j → ws[b]? = some v → i ≠ b → ¬ v <:+ u)
        ⟨x6, x7, rfl, sT, fun b _ h => absurd h (Nat.not_lt_zero b)⟩ (fun j σ H3 _ h => by obtain ⟨_, _, _, s3, _⟩ := h; exact .inl (.inl (s3 _ _ eD))) (fun j x σ H3o H3 hj hp3 hy => ?_) (fun σ H3 hp3 => ?_)
      · obtain ⟨T3, x', y', rfl, hT3, rfl, g1, g2⟩ := hy
        obtain ⟨x6, x7, rfl, s3, no3⟩ := hp3
        cases g1
        obtain ⟨v, hv, rfl⟩ := strV_get g2
        have sT3 := s3.trans (same_new (o := .tup [V.int (j : Nat), V.str (WS v)]) hT3)
        refine ⟨T3, _, rfl, .inl (.inl upd_same), rfl, _, _, rfl, _, _, rfl, rfl, ?_⟩
        refine ⟨_, rfl, _, rfl, rfl, _, rfl, ?_⟩
        have goOn : (i ≠ j → ¬ v <:+ u) → ∃ x6 x7, ([some (.ref t), x1, x2, some (.ref D), some (.int (i : Nat)), some (.str (WS u)), some (.int (j : Nat)), some (.str (WS v)), none, none, none, none, none, none, none] : L2.St) = [some (.ref t), x1, x2, some (.ref D), some (.int (i : Nat)), some (.str (WS u)), x6, x7, none, none, none, none, none, none, none] ∧ Same H1 (upd H3o T3 (.tup [V.int (j : Nat), V.str (WS v)])) ∧ ∀ (b : Nat) (v : List Bool), b < j + 1 → ws[b]? = some v → i ≠ b → ¬ v <:+ u := fun hno => by
          refine ⟨_, _, rfl, sT3, fun b v' hb hv' hne => ?_⟩
          by_cases h : b < j
          · exact no3 b v' h hv' hne
          · have : b = j := by omega
            subst this
            rw [hv] at hv'
            cases hv'
            exact hno hne
        refine ite2 (fun e => ?_) (fun e => ?_)
        · refine ⟨_, rfl, ⟨_, rfl⟩, _, rfl, _, _, rfl, rfl, _, rfl, ?_⟩
          rw [ends_WS]
          refine ite2 (fun e2 => ?_) (fun e2 => ?_)
          · exact q false _ (s1.trans sT3) fun z => by cases z
          · exact goOn fun _ z => e2 (decide_eq_true z)
        · refine iteF ?_
          exact goOn fun hne => absurd (show (!decide (V.int (i : Nat) = V.int (j : Nat))) = true by rw [decide_eq_false fun z => hne (by injection z with z; omega)]; rfl) e
      · obtain ⟨x6, x7, rfl, s3, no3⟩ := hp3
        rw [strV_len] at no3
        refine ⟨_, _, _, _, _, _, rfl, s3, fun a b u' v' ha hu' hv' hne => ?_⟩
        by_cases h : a < i
        · exact no a b u' v' h hu' hv' hne
        · have : a = i := by omega
          subst this
          rw [hu] at hu'
          cases hu'
          exact no3 b v' (List.getElem?_eq_some_iff.mp hv').1 hv' hne
    obtain ⟨x1, x2, x4, x5, x6, x7, rfl, s2, no⟩ := hp2
    rw [strV_len] at no
    have hpart : partedB (ps.map (·.1)) = true := by
      rw [hws]
      exact partedB_of fun i j a b hi hj hne => no i j a b (List.getElem?_eq_some_iff.mp hi).1 hi hj hne
    -- known, waiting
    intro kd hkd
    refine ⟨upd_same, [(Sum.inr (WS []), V.bl true)], rfl, by decide, by show 1 ≤ sizeLine; decide, fun wl hwl0 => ⟨_, _, rfl, ?_⟩⟩
    have em : mergeK [] [(Sum.inr (WS []), V.bl true)] = ([(Sum.inr (WS []), V.bl true)] : Kv) := rfl
    rw [em] at hwl0 ⊢
    have nkw : kd ≠ wl := ne_of_none upd_same hwl0
    have skd : Same H2 (upd (upd H2 kd (.dK [])) kd (.dK [(Sum.inr (WS []), V.bl true)])) := fun a o ha => by
      rw [upd_ne (ne_of_none ha hkd), upd_ne (ne_of_none ha hkd)]
      exact ha
    have s5 := ((s1.trans s2).trans skd).trans (same_new (o := .lst [.str ""]) hwl0)
    have hkd0 : H kd = none := (s1.trans s2).free hkd
    have hwl1 : H wl = none := ((s1.trans s2).trans skd).free hwl0
    refine ⟨fun m σ H9 => ∃ (x1 x2 x4 x5 x6 x7 x10 x11 x12 x13 x14 : Option V) (kvs : Kv) (ws : List (List Bool)), σ = [some (.ref t), x1, x2, some (.ref D), x4, x5, x6, x7, some (.ref kd), some (.ref wl), x10, x11, x12, x13, x14] ∧ Same H H9 ∧ H9 kd = some (.dK kvs) ∧ H9 wl = some (.lst (strV ws)) ∧ Srch ps kvs ws none 0 ∧ m = 2 * left kvs + ws.length,
      ⟨_, x1, x2, x4, x5, x6, x7, none, none, none, none, none, _, [[]], rfl, s5, by rw [upd_ne nkw, upd_same], by rw [upd_same]; rfl, Srch.start ps, rfl⟩, ?_⟩
    rintro m σ H9 ⟨x1, x2, x4, x5, x6, x7, x10, x11, x12, x13, x14, kvs, ws, rfl, s9, ek9, ew9, sr, rfl⟩
    refine ⟨.ref wl, rfl, by show 0 ≤ sizeLine; decide, fun e0 he0 => ?_⟩
    have s10 : Same H9 (upd H9 e0 (.lst [])) := same_new he0
    have ek10 := s10 _ _ ek9
    have ew10 := s10 _ _ ew9
    refine ⟨.list (ws.map fun w => PyData.str (WS w)), .list [], .lst (.inl (.inl ew10)) (dpAll_strs ws), .lst (.inl (.inl upd_same)) .nil, shaped_strs ws, rfl, _, rfl, ?_⟩
    rw [eqv_nil]
    have s11 := s9.trans s10
    revert ek10 ew10 s11
    generalize upd H9 e0 (.lst []) = H10
    intro ek10 ew10 s11
    by_cases hne : ws = []
    · subst hne
      refine iteF ?_
      exact q true H10 s11 fun _ => ⟨rule_ok few hps hpart sr.closed, _, sr.closed⟩
    · have e1 : (ws.map fun w => PyData.str (WS w)).isEmpty = false := by
        cases ws with
        | nil => exact absurd rfl hne
        | cons _ _ => rfl
      rw [e1]
      refine iteT ?_
      obtain ⟨ws', u, rfl⟩ : ∃ ws' u, ws = ws' ++ [u] := ⟨ws.dropLast, ws.getLast hne, (List.dropLast_concat_getLast hne).symm⟩
      have hsz := sr.size
      have hwz := sr.wsz
      have ku := sr.wait u (List.mem_append_right _ (List.mem_singleton.mpr rfl))
      have hul := sr.short u ku
      refine ⟨_, fun σ' H' hW => hW, ?_⟩
      refine ⟨.ref wl, rfl, .inl ⟨rfl, _, .inl (.inl ew10)⟩, wl, strV (ws' ++ [u]), .str (WS u), rfl, rfl, ew10, ?_, ?_⟩
      · rw [strV_len, strV_app, List.length_append, List.getElem?_append_right (by rw [strV_len]; show ws'.length ≤ ws'.length + 1 - 1; omega), strV_len]
        show [V.str (WS u)][ws'.length + 1 - 1 - ws'.length]? = _
        rw [show ws'.length + 1 - 1 - ws'.length = 0 by omega]
        rfl
      have e2 : (strV (ws' ++ [u])).dropLast = strV ws' := by rw [strV_app]; show (strV ws' ++ [V.str (WS u)]).dropLast = _; rw [List.dropLast_concat]
      rw [e2]
      have nkw' : kd ≠ wl := nkw
      have s12 : Same H (upd H10 wl (.lst (strV ws'))) := fun a o ha => by rw [upd_ne (ne_of_none ha hwl1)]; exact s11 _ _ ha
      have hwlen : (ws' ++ [u]).length = ws'.length + 1 := by rw [List.length_append]; rfl
      -- both bits
      refine ⟨_, rfl, ?_⟩
      refine for_it walk_str (fun j σ H3 => ∃ (x2 x11 x12 x13 x14 : Option V) (kvs2 : Kv) (ws2 : List (List Bool)), σ = [some (.ref t), x1, x2, some (.ref D), x4, x5, x6, x7, some (.ref kd), some (.ref wl), some (.str (WS u)), x11, x12, x13, x14] ∧ Same H H3 ∧ H3 kd = some (.dK kvs2) ∧ H3 wl = some (.lst (strV ws2)) ∧ Srch ps kvs2 ws2 (some u) j ∧ 2 * left kvs2 + ws2.length ≤ 2 * left kvs + ws'.length)
        ⟨x2, x11, x12, x13, x14, kvs, ws', rfl, s12, by rw [upd_ne nkw]; exact ek10, upd_same, sr.pop, Nat.le_refl _⟩ (fun _ _ _ _ _ => trivial) (fun j x σ H3o H3 hj hp3 hy => ?_) (fun σ H3 hp3 => ?_)
      · obtain ⟨rfl, c, hc, rfl⟩ := hy
        obtain ⟨x2, x11, x12, x13, x14, kvs2, ws2, rfl, s3, ek3, ew3, sr3, hmu⟩ := hp3
        have hj2 : j < 2 := hj
        have hbit : (⟨#[c]⟩ : Str) = WS [decide (j = 1)] := by
          match j, hj2, hc with
          | 0, _, hc => cases hc; rfl
          | 1, _, hc => cases hc; rfl
        rw [hbit]
        have hsz3 := sr3.size
        have hwz3 := sr3.wsz
        refine ⟨.str (WS u), rfl, .str (WS [decide (j = 1)]), rfl, _, _, rfl, rfl, ?_, ?_⟩
        · rw [WS_len, WS_len]
          exact Nat.le_of_lt (small1000 (by show u.length + 1 ≤ 1000; omega))
        rw [WS_cat]
        -- all that is put in
        refine ⟨24, rfl, by decide, by decide, ?_⟩
        refine for_itB walk_range (fun g σ H4 => ∃ (x12 x13 : Option V), σ = [some (.ref t), x1, some (.str (WS [decide (j = 1)])), some (.ref D), x4, x5, x6, x7, some (.ref kd), some (.ref wl), some (.str (WS u)), some (.str (WS (putsN ps g (u ++ [decide (j = 1)])))), x12, x13, x14] ∧ Same H3 H4)
          (fun σ H4 => ∃ (x12 x13 : Option V), σ = [some (.ref t), x1, some (.str (WS [decide (j = 1)])), some (.ref D), x4, x5, x6, x7, some (.ref kd), some (.ref wl), some (.str (WS u)), some (.str (WS (putsN ps 24 (u ++ [decide (j = 1)])))), x12, x13, x14] ∧ Same H3 H4)
          ⟨x12, x13, rfl, Same.refl _⟩ (fun _ _ _ _ _ => trivial) (fun σ H4 h => h) (fun aft g x σ H4o H4 hg hp4 hy => ?_) (fun σ H4 hp4 => ?_)
        · obtain ⟨rfl, rfl⟩ := hy
          obtain ⟨x12, x13, rfl, s4⟩ := hp4
          have hg24 : g < 24 := hg
          have hll := putsN_len ps g (u ++ [decide (j = 1)])
          rw [List.length_append] at hll
          have hll2 : (putsN ps g (u ++ [decide (j = 1)])).length ≤ 40 := by
            have : [decide (j = 1)].length = 1 := rfl
            omega
          refine ⟨.ref t, rfl, _, rfl, t, flag, ps, _, rfl, ru.same (s3.trans s4), by omega, fun p hp => Nat.le_trans (hps p hp).2 (by decide), by omega, fun H5 s45 => ?_⟩
          have estop := fun h : putL ps (putsN ps g (u ++ [decide (j = 1)])) = none => puts_stop h (Nat.le_of_lt hg24)
          have esucc := putsN_succ ps g (u ++ [decide (j = 1)])
          unfold stepP at esucc
          revert estop esucc
          cases putL ps (putsN ps g (u ++ [decide (j = 1)])) with
          | none =>
            intro estop _
            refine ⟨.str "", rfl, rfl, _, rfl, ite2 (fun _ => aft _ _ ?_) (fun e => absurd (decide_eq_true rfl) e)⟩
            rw [estop rfl]
            exact ⟨_, _, rfl, s4.trans s45⟩
          | some b =>
            intro _ esucc
            refine ⟨.str (WS [b]), rfl, rfl, _, rfl, ite2 (fun e => absurd (of_decide_eq_true e) (str_ne (by cases b <;> decide +kernel))) (fun _ => ?_)⟩
            refine ⟨_, rfl, _, rfl, _, WS [b], rfl, rfl, ?_, ?_⟩
            · rw [WS_len, WS_len]
              exact Nat.le_of_lt (small1000 (by show _ + 1 ≤ 1000; omega))
            · rw [WS_cat]
              have e2 : putsN ps (g + 1) (u ++ [decide (j = 1)]) = putsN ps g (u ++ [decide (j = 1)]) ++ [b] := esucc
              rw [← e2]
              exact ⟨_, _, rfl, s4.trans s45⟩
        · obtain ⟨x12, x13, rfl, s4⟩ := hp4
          have e24 : (24 : Int).toNat = 24 := rfl
          have hll := putsN_len ps 24 (u ++ [decide (j = 1)])
          rw [List.length_append] at hll
          have hl1 : [decide (j = 1)].length = 1 := rfl
          have hDone : ∀ kvs' : Kv, (putsN ps 24 (u ++ [decide (j = 1)])).length ≤ u.length + 20 → kno kvs' (last5 (putsN ps 24 (u ++ [decide (j = 1)]))) → Done ps kvs' u (decide (j = 1)) := fun _ a b => ⟨a, b⟩
          have hnew := fun v (hv : valV kvs2 (Sum.inr (WS v)) = none) (hl : v.length ≤ 5) (hn : (putsN ps 24 (u ++ [decide (j = 1)])).length ≤ u.length + 20) (ev : v = last5 (putsN ps 24 (u ++ [decide (j = 1)]))) => sr3.new hj2 hv hl hn ev
          have hold := fun (hn : Done ps kvs2 u (decide (j = 1))) => sr3.old hj2 hn
          revert hll hDone hnew
          generalize putsN ps 24 (u ++ [decide (j = 1)]) = line
          intro hll hDone hnew
          have ek4 := s4 _ _ ek3
          have ew4 := s4 _ _ ew3
          refine ⟨_, rfl, _, rfl, ls_len _ (by omega), _, rfl, _, rfl, ls_len _ (by omega), _, _, rfl, rfl, _, _, rfl, rfl, _, rfl, ite2 (fun e => ?_) (fun e => ?_)⟩
          · exact q false H4 (s3.trans s4) fun z => by cases z
          · have hn : line.length ≤ u.length + 20 := by
              have : ¬ (((WS u).length : Int) + 20 < ((WS line).length : Int)) := fun z => e (decide_eq_true z)
              rw [WS_len, WS_len] at this
              omega
            refine ⟨_, rfl, _, rfl, _, rfl, ls_len _ (by omega), _, _, rfl, rfl, 0, _, rfl, _, rfl, _, rfl, ls_len _ (by omega), ?_⟩
            have ei : (if ((WS line).length : Int) - 5 > 0 then ((WS line).length : Int) - 5 else 0) = ((line.length - 5 : Nat) : Int) := by
              rw [WS_len]
              split <;> omega
            rw [ei, cut_from _ (by omega), Int.toNat_natCast]
            show gName 14 (V.str (WS (last5 line))) _ _ _
            have hv5 := last5_len line
            refine ⟨_, rfl, .ref kd, rfl, kd, _, rfl, DGet.k (k := Sum.inr (WS (last5 line))) ek4, _, rfl, ?_⟩
            cases hk : valV kvs2 (Sum.inr (WS (last5 line))) with
            | some v =>
              refine iteF ?_
              exact ⟨_, _, _, _, _, kvs2, ws2, rfl, s3.trans s4, ek4, ew4, hold (hDone _ hn (by unfold kno; rw [hk]; intro z; cases z)), hmu⟩
            | none =>
              refine iteT ?_
              refine ⟨.ref kd, rfl, _, rfl, kd, _, rfl, DPut.k (k := Sum.inr (WS (last5 line))) ek4 (small1000 (by omega)), ?_⟩
              have ew6 : (upd H4 kd (.dK (putK kvs2 (Sum.inr (WS (last5 line))) (.bl true)))) wl = some (.lst (strV ws2)) := by rw [upd_ne nkw.symm]; exact ew4
              refine ⟨.ref wl, rfl, .inl ⟨rfl, _, .inl (.inl ew6)⟩, _, rfl, wl, strV ws2, _, rfl, rfl, ew6, ?_, ?_⟩
              · rw [strV_len]
                exact small1000 (by omega)
              have hlt := left_put (kvs := kvs2) hv5 fun z => z hk
              refine ⟨_, _, _, _, _, putK kvs2 (Sum.inr (WS (last5 line))) (.bl true), ws2 ++ [last5 line], rfl, fun a o ha => ?_, ?_, ?_, hnew _ hk hv5 hn rfl, ?_⟩
              · rw [upd_ne (ne_of_none ha hwl1), upd_ne (ne_of_none ha hkd0)]
                exact s4 _ _ (s3 _ _ ha)
              · rw [upd_ne nkw, upd_same]
              · rw [upd_same, strV_app]
                rfl
              · rw [List.length_append]
                show _ + (_ + 1) ≤ _
                omega
      · obtain ⟨x2, x11, x12, x13, x14, kvs2, ws2, rfl, s3, ek3, ew3, sr3, hmu⟩ := hp3
        exact ⟨2 * left kvs2 + ws2.length, by rw [hwlen]; omega, _, _, _, _, _, _, _, _, _, _, _, kvs2, ws2, rfl, s3, ek3, ew3, Srch.back sr3, rfl⟩

abbrev s_rule : Stmt := (topS 57)
theorem sc_rule : FnScope ["_law_box", "_law_widest", "_law_longest_one", "_law_some", "_law_one", "_law_turn", "_law_stuffs", "_law_more", "_law_told"] ["_law_box", "_law_widest", "_law_longest_one"] (fnScope s_rule) := fnScope_by (by decide +kernel)
theorem ok_lruleS {f : Addr} {fd : FuncData} (F : C8.Fun K "_law_rule" "_law_rule" s_rule f fd) (M : Mg mg) (c_choose : Cal P w K mg base 1 "_law_choose" spChoose []) (c_one_of : Cal P w K mg base 2 "_law_one_of" spOneOf []) (c_word : Cal P w K mg base 3 "_law_word" spWord2 []) (c_is_rule : Cal P w K mg base 2 "_law_is_rule" spIsRule []) : FnOk P w K mg base CX0 4 f fd ["_law_box", "_law_widest", "_law_longest_one"] spRuleS := by
  refine fn0 F sc_rule (fun vs H Q E h => ?_) (fun cdv A outer s H vs Q E hr h => ?_)
  · obtain ⟨b, wi, lo, rfl, _⟩ := h
    rfl
  · obtain ⟨b, wi, lo, rfl, hb, w3, w100, l1, l4, q⟩ := h
    have w2 : 2 ≤ wi := by omega
    refine ⟨_, (pss_cons (ps_set (i := 3) sc_rule.nd rfl (Or.inl rfl) (pe_lst (pa_cons (pe_tup (pa_cons pe_str (pa_cons (pe_lst (pa_cons (pe_tup (pa_cons pe_str (pa_cons pe_str pa_nil))) pa_nil)) pa_nil))) (pa_cons (pe_tup (pa_cons pe_str (pa_cons (pe_lst (pa_cons (pe_tup (pa_cons pe_str (pa_cons pe_str pa_nil))) pa_nil)) pa_nil))) (pa_cons (pe_tup (pa_cons pe_str (pa_cons (pe_lst (pa_cons (pe_tup (pa_cons pe_str (pa_cons pe_str pa_nil))) pa_nil)) pa_nil))) (pa_cons (pe_tup (pa_cons pe_str (pa_cons (pe_lst (pa_cons (pe_tup (pa_cons pe_str (pa_cons pe_str pa_nil))) pa_nil)) pa_nil))) pa_nil))))))
        (pss_cons (ps_setLc (i := 3) (own := [("_law_one", 4)]) (g := (gName 4)) rfl sc_rule.nd rfl rfl (sw_true rfl rfl rfl (by decide +kernel)) (pi_list (pv 3)) (blkOk_by (N := ["_law_box", "_law_widest", "_law_longest_one", "_law_some", "_law_one", "_law_turn", "_law_stuffs", "_law_more", "_law_told"]) (sc := fnScope s_rule) (by decide +kernel)) (fun _ _ _ _ _ => (pg_name (i := 4) sc_rule.nd rfl (Or.inl rfl))) (fun _ _ _ _ _ => (pts_one (PW.pt (pw_and (pt_cmpR op_le (pe_callB call_len_str (by rfl) M.len PySem.boot_len (pa_cons (pe_ix (r := rIxT K) ix_tup (pv 4) pe_int (fun _ _ => rfl)) pa_nil)) (pv 1) (nomark _)) (pw_and1 (pt_cmpR op_le (pe_callB call_len_str (by rfl) M.len PySem.boot_len (pa_cons (pe_ix (r := rIxT K) ix_tup (pe_ix (r := rIxL K) ix_list (pe_ix (r := rIxT K) ix_tup (pv 4) pe_int (fun _ _ => rfl)) pe_int (fun _ _ => rfl)) pe_int (fun _ _ => rfl)) pa_nil)) (pv 2) (nomark _))))))) (fun _ _ _ _ _ => (pv 4)))
        (pss_cons (ps_if (PW.pt (pw_and (pt_cmpR (op_neD hr.units) (pv 3) (pe_lst pa_nil) (nomark _)) (pw_and1 (pt_cmpR op_eq (pe_c c_choose hr (by decide) (by rfl) (pa_cons (pv 0) (pa_cons pe_int pa_nil))) pe_int (nomark _)))))
          (pss_one (ps_ret (pe_c c_one_of hr (by decide) (by rfl) (pa_cons (pv 0) (pa_cons (pv 3) pa_nil)))))
          pss_nil)
        (pss_cons (ps_for PassesOwn.never rfl (pi_range1 (by rfl) M.range (pa_cons pe_int pa_nil)) (pg_name (i := 5) sc_rule.nd rfl (Or.inl rfl))
          (pss_cons (ps_set (i := 6) sc_rule.nd rfl (Or.inl rfl) (pe_lst pa_nil))
            (pss_cons (ps_for PassesOwn.never rfl (pi_range1 (by rfl) M.range (pa_cons (pe_c c_one_of hr (by decide) (by rfl) (pa_cons (pv 0) (pa_cons (pe_lst (pa_cons pe_int (pa_cons pe_int (pa_cons pe_int (pa_cons pe_int (pa_cons pe_int pa_nil)))))) pa_nil))) pa_nil)) (pg_name (i := 7) sc_rule.nd rfl (Or.inl rfl))
              (pss_one (ps_expr (pe_bm PySem.F.plainAttrs_list PySem.F.slot_list_append PySem.F.type_list_append mt_append (pv 6) (pa_cons (pe_tup (pa_cons (pe_c c_word hr (by decide) (by rfl) (pa_cons (pv 0) (pa_cons pe_int (pa_cons (pv 2) pa_nil)))) (pa_cons (pe_c c_one_of hr (by decide) (by rfl) (pa_cons (pv 0) (pa_cons (pe_lst (pa_cons pe_str (pa_cons pe_str pa_nil))) pa_nil))) pa_nil))) pa_nil)))))
            (pss_cons (ps_set (i := 8) sc_rule.nd rfl (Or.inl rfl) (pe_tup (pa_cons (pe_c c_word hr (by decide) (by rfl) (pa_cons (pv 0) (pa_cons pe_int (pa_cons (pv 1) pa_nil)))) (pa_cons (pv 6) pa_nil))))
            (pss_one (ps_if (pt_val (pe_c c_is_rule hr (by decide) (by rfl) (pa_cons (pv 8) pa_nil)))
              (pss_one (ps_ret (pv 8)))
              pss_nil))))))
        (pss_one (ps_ret (pe_tup (pa_cons pe_str (pa_cons (pe_lst pa_nil) pa_nil))))))))), ?_⟩
    refine ⟨by show 2 ≤ sizeLine; decide, fun u1 n1 => ⟨by show 1 ≤ sizeLine; decide, fun m1 o1 => ⟨by show 2 ≤ sizeLine; decide, fun t1 p1 => ?_⟩⟩⟩
    obtain ⟨s1, r1⟩ := mk_ru (sf := "01110") (by decide +kernel) (by decide +kernel) (by decide +kernel) n1 o1 p1 (lr1 wi)
    revert s1 r1
    generalize upd (upd (upd H u1 _) m1 _) t1 _ = H1
    intro s1 r1
    refine ⟨by show 2 ≤ sizeLine; decide, fun u2 n2 => ⟨by show 1 ≤ sizeLine; decide, fun m2 o2 => ⟨by show 2 ≤ sizeLine; decide, fun t2 p2 => ?_⟩⟩⟩
    obtain ⟨s2, r2⟩ := mk_ru (sf := "0010") (by decide +kernel) (by decide +kernel) (by decide +kernel) n2 o2 p2 (lr2 wi)
    revert s2 r2
    generalize upd (upd (upd H1 u2 _) m2 _) t2 _ = H2
    intro s2 r2
    refine ⟨by show 2 ≤ sizeLine; decide, fun u3 n3 => ⟨by show 1 ≤ sizeLine; decide, fun m3 o3 => ⟨by show 2 ≤ sizeLine; decide, fun t3 p3 => ?_⟩⟩⟩
    obtain ⟨s3, r3⟩ := mk_ru (sf := "11") (by decide +kernel) (by decide +kernel) (by decide +kernel) n3 o3 p3 (lr3 wi)
    revert s3 r3
    generalize upd (upd (upd H2 u3 _) m3 _) t3 _ = H3
    intro s3 r3
    refine ⟨by show 2 ≤ sizeLine; decide, fun u4 n4 => ⟨by show 1 ≤ sizeLine; decide, fun m4 o4 => ⟨by show 2 ≤ sizeLine; decide, fun t4 p4 => ?_⟩⟩⟩
    obtain ⟨s4, r4⟩ := mk_ru (sf := "10001") (by decide +kernel) (by decide +kernel) (by decide +kernel) n4 o4 p4 (lr4 wi)
    revert s4 r4
    generalize upd (upd (upd H3 u4 _) m4 _) t4 _ = H4
    intro s4 r4
    refine ⟨by show 4 ≤ sizeLine; decide, fun l0 q0 => ?_⟩
    have h4 : ∀ v ∈ [V.ref t1, V.ref t2, V.ref t3, V.ref t4], Ru1 wi H4 v := by
      intro v hv
      simp only [List.mem_cons, List.not_mem_nil, or_false] at hv
      rcases hv with e | e | e | e
      · rw [e]; exact ((r1.same s2).same s3).same s4
      · rw [e]; exact (r2.same s3).same s4
      · rw [e]; exact r3.same s4
      · rw [e]; exact r4
    have s5 : Same H4 (upd H4 l0 (.lst [V.ref t1, V.ref t2, V.ref t3, V.ref t4])) := same_new q0
    have e5 : (upd H4 l0 (.lst [V.ref t1, V.ref t2, V.ref t3, V.ref t4])) l0 = some (.lst [V.ref t1, V.ref t2, V.ref t3, V.ref t4]) := upd_same
    have s05 := (((s1.trans s2).trans s3).trans s4).trans s5
    have hx4 : [V.ref t1, V.ref t2, V.ref t3, V.ref t4].length = 4 := rfl
    replace h4 := fun v hv => (h4 v hv).same s5
    revert h4 s05 e5 hx4
    clear s5
    generalize upd H4 l0 _ = H5
    generalize [V.ref t1, V.ref t2, V.ref t3, V.ref t4] = xs0
    intro e5 s05 hx4 h4
    refine ⟨.ref l0, rfl, l0, rfl, ⟨xs0, .inl (.inl e5)⟩, fun D hD => ?_⟩
    refine lc_it (walk_list (K := K) (a := l0) (xs := xs0)) (fun i H1 => ∃ ys : List V, H1 D = some (.lst ys) ∧ (∀ y ∈ ys, y ∈ xs0 ∧ RuVS wi lo H5 y) ∧ ys.length ≤ i ∧ Same H5 H1) ⟨[], upd_same, (fun y hy => by cases hy), Nat.le_refl _, same_new hD⟩ (fun i H1 _ h => by obtain ⟨_, _, _, _, s⟩ := h; exact .inl (.inl (s _ _ e5))) (fun i x H1o H1 hi hp1 hy => ?_) (fun H6 hp1 => ?_)
    · obtain ⟨rfl, hx⟩ := hy
      obtain ⟨ys, eD, sub, yl, sm⟩ := hp1
      obtain ⟨t, flag, p, rfl, gg, lr⟩ := h4 x (List.mem_of_getElem? hx)
      obtain ⟨l, xs, g1, g2, g3⟩ := gg.same sm
      obtain ⟨p1, xs', rfl⟩ : ∃ v r, xs = v :: r := by cases xs with | nil => exact g3.elim | cons v r => exact ⟨v, r, rfl⟩
      obtain ⟨⟨u, rfl, g4⟩, g5⟩ := g3
      have f100 : flag.length ≤ 1000 := by have := lr.f5; omega
      have p4 : p.1.length ≤ 1000 := Nat.le_trans (lr.lens p List.mem_cons_self).2 (by decide)
      have keep : ∃ ys, H1 D = some (HO.lst ys) ∧ (∀ y ∈ ys, y ∈ xs0 ∧ RuVS wi lo H5 y) ∧ ys.length ≤ i + 1 ∧ Same H5 H1 := ⟨ys, eD, sub, Nat.le_succ_of_le yl, sm⟩
      refine ⟨rfl, .ref t, rfl, t, _, 0, _, rfl, rfl, .inl (.inl g1), atI0, _, rfl, ls_len flag f100, .int wi, rfl, _, _, rfl, rfl, _, rfl, ite2 (fun e1 => ?_) (fun _ => keep)⟩
      refine ⟨.ref t, rfl, t, _, 1, _, rfl, rfl, .inl (.inl g1), atI1, l, _, 0, _, rfl, rfl, .inl (.inl g2), atI0, u, _, 0, _, rfl, rfl, .inl (.inl g4), atI0, _, rfl, ls_len p.1 p4, .int lo, rfl, _, _, rfl, rfl, _, rfl, ite2 (fun e2 => ?_) (fun _ => keep)⟩
      refine ⟨.ref t, rfl, ys, eD, small1000 (by omega), ys ++ [.ref t], upd_same, fun y hy => ?_, (by rw [List.length_append]; show ys.length + 1 ≤ _; omega), fun a o ha => ?_⟩
      · rcases List.mem_append.mp hy with h | h
        · exact sub y h
        · rw [List.mem_singleton.mp h]
          have e1 := of_decide_eq_true e1
          have e2 := of_decide_eq_true e2
          rw [WS_len] at e1 e2
          exact ⟨List.mem_of_getElem? hx, t, flag, [p], rfl, gg, lr, e1, fun q hq => by rw [List.mem_singleton.mp hq]; exact e2⟩
      · rw [upd_ne (ne_of_none ha hD)]
        exact sm _ _ ha
    · obtain ⟨ys, eD, sub, yl, sm⟩ := hp1
      have hY : ∀ y ∈ ys, RuVS wi lo H6 y := fun y hy => (sub y hy).2.same sm
      have s06 := s05.trans sm
      have hb6 := hb.same s06
      have nDb : D ≠ b := (hb.same s05).ne_new hD
      rw [hx4] at yl
      refine ⟨.ref D, rfl, by show 0 ≤ sizeLine; decide, fun e0 he0 => ?_⟩
      have s7 : Same H6 (upd H6 e0 (.lst [])) := same_new he0
      have e7 : (upd H6 e0 (.lst [])) e0 = some (.lst []) := upd_same
      have s07 := s06.trans s7
      have hb7 := hb6.same s7
      have eD7 := s7 _ _ eD
      replace hY := fun y hy => (hY y hy).same s7
      revert s07 hb7 eD7 hY e7
      clear s7
      generalize upd H6 e0 (.lst []) = H7
      intro e7 s07 hb7 eD7 hY
      obtain ⟨ds, d1, d2, d3, d4⟩ := nice_all (K := K) (H := H7) (vs := ys) fun y hy => by
        obtain ⟨t, flag, ps, rfl, h1, _⟩ := hY y hy
        exact nice_rule h1
      refine ⟨.list ds, .list [], .lst (.inl (.inl eD7)) d1, .lst (.inl (.inl e7)) .nil, shaped_all d2 d3, rfl, _, rfl, ?_⟩
      rw [eqv_nil, d4]
      have off7 : Own.Off b H H7 := off_of s07
      refine and_join (fun H8 => BoxAt H8 b ∧ Own.Off b H H8) (fun _ => ⟨hb7, off7⟩) (fun e k kx ky => ?_) (fun H8 g8 => ?_)
      · have hne : ys ≠ [] := fun z => by rw [z] at e; cases e
        refine ⟨.ref b, rfl, b, 2, rfl, hb7, by decide, by decide, fun r H8 r0 r2 hb8 off8 => ⟨rfl, _, rfl, ?_⟩⟩
        have off08 := off7.trans off8
        cases hd : decide (V.int r = V.int 0) with
        | false => exact ky _ ⟨hb8, off08⟩
        | true =>
          refine kx _ ?_
          refine ⟨.ref b, rfl, .ref D, rfl, b, D, ys, rfl, hb8, off8 _ _ eD7 nDb, nDb, hne, by omega, fun x H9 hx hb9 off9 => ?_⟩
          obtain ⟨t, flag, ps, rfl, h1, h2⟩ := ((hY x hx).off hb7 off8).off hb8 off9
          exact q t flag ps H9 h2 h1 hb9 (off08.trans off9)
      · obtain ⟨hb8, off8⟩ := g8
        refine ⟨8, rfl, by decide, by decide, ?_⟩
        refine for_it walk_range (fun i σ H9 => ∃ x5 x6 x7 x8, σ = [some (.ref b), some (.int wi), some (.int lo), some (.ref D), none, x5, x6, x7, x8] ∧ BoxAt H9 b ∧ Own.Off b H H9)
          ⟨none, none, none, none, rfl, hb8, off8⟩ (fun _ _ _ _ _ => trivial) (fun i x σ H9o H9 hi hp hy => ?_) (fun σ H9 hp => ?_)
        · obtain ⟨rfl, rfl⟩ := hy
          obtain ⟨x5, x6, x7, x8, rfl, hb9, off9⟩ := hp
          refine ⟨by show 0 ≤ sizeLine; decide, fun l hl => ?_⟩
          have nlb : l ≠ b := hb9.ne_new hl
          have hl0 : H l = none := by
            cases e : H l with
            | none => rfl
            | some u =>
              rw [off9 l u e nlb] at hl
              cases hl
          have sA : Same H9 (upd H9 l (.lst [])) := same_new hl
          have hbA := hb9.same sA
          have offA := off9.trans (off_of sA)
          have eA : (upd H9 l (.lst [])) l = some (.lst []) := upd_same
          revert hbA offA eA
          clear sA
          generalize upd H9 l (.lst []) = H10
          intro hbA offA eA
          refine ⟨.ref b, rfl, by show 5 ≤ sizeLine; decide, fun m hm => ⟨b, m, _, rfl, hbA.same (same_new hm), upd_same, hbA.ne_new hm, by simp, by decide, fun v H11 hv hb11 off11 => ?_⟩⟩
          obtain ⟨n, rfl, n0, n2⟩ : ∃ n : Int, v = .int n ∧ 0 ≤ n ∧ n ≤ 2 := by
            simp only [List.mem_cons, List.not_mem_nil, or_false] at hv
            rcases hv with e | e | e | e | e <;> exact ⟨_, e, by decide, by decide⟩
          have el11 : H11 l = some (.lst []) := off11 _ _ (same_new hm _ _ eA) nlb
          have offB : Own.Off b H H11 := (offA.trans (off_of (same_new hm))).trans off11
          refine ⟨n, rfl, by omega, by omega, ?_⟩
          refine for_it walk_range (fun j σ H12 => ∃ (x7 : Option V) (xs : List V) (ps : List Stf), σ = [some (.ref b), some (.int wi), some (.int lo), some (.ref D), none, some (.int (0 + (i : Nat))), some (.ref l), x7, x8] ∧ BoxAt H12 b ∧ Own.Off b H H12 ∧ H12 l = some (.lst xs) ∧ Pairs H12 xs ps ∧ ps.length = j ∧ (∀ p ∈ ps, (p.1 ≠ [] ∧ p.1.length ≤ 4) ∧ (p.1.length : Int) ≤ lo))
            ⟨x7, [], [], rfl, hb11, offB, el11, trivial, rfl, fun p hp => by cases hp⟩ (fun _ _ _ _ _ => trivial) (fun j x σ H12o H12 hj hp hy => ?_) (fun σ H12 hp => ?_)
          · obtain ⟨rfl, rfl⟩ := hy
            obtain ⟨x7, xs, ps, rfl, hb12, off12, el12, hps, hlen, hok⟩ := hp
            refine ⟨.ref l, rfl, .inl ⟨rfl, _, .inl (.inl el12)⟩, .ref b, rfl, .int lo, rfl, b, 1, lo, rfl, hb12, by decide, l1, by omega, fun z H13 z1 z2 hb13 off13 => ?_⟩
            refine ⟨.ref b, rfl, by show 2 ≤ sizeLine; decide, fun m2 hm2 => ⟨b, m2, _, rfl, hb13.same (same_new hm2), upd_same, hb13.ne_new hm2, by simp, by decide, fun x H14 hx hb14 off14 => ?_⟩⟩
            obtain ⟨bit, rfl⟩ := bit_of hx
            refine ⟨by show 2 ≤ sizeLine; decide, fun u hu => ?_⟩
            have el14 : H14 l = some (.lst xs) := off14 _ _ (same_new hm2 _ _ (off13 _ _ el12 nlb)) nlb
            have s15 : Same H14 (upd H14 u (.tup [.str (WS z), .str (WS [bit])])) := same_new hu
            have off0 : Own.Off b H H14 := ((off12.trans off13).trans (off_of (same_new hm2))).trans off14
            have k14 : Kp H12 H14 := ((kp_off hb12 off13).trans (kp_same (same_new hm2))).trans (kp_off (hb13.same (same_new hm2)) off14)
            have el15 := s15 _ _ el14
            have hj2 : j < 2 := by
              have : j < (n - 0).toNat := by simpa using hj
              omega
            have hxl : xs.length = ps.length := hps.len
            refine ⟨l, xs, _, rfl, rfl, el15, small1000 (by omega), ?_⟩
            have k16 := kp_lst (ys := xs ++ [.ref u]) el15
            refine ⟨_, xs ++ [.ref u], ps ++ [(z, bit)], rfl, ?_, fun a o ha na => ?_, upd_same, Pairs.snoc (((hps.kp k14).kp (kp_same s15)).kp k16) ⟨u, rfl, k16 _ _ upd_same trivial⟩, by rw [List.length_append, hlen]; rfl, fun p hp => ?_⟩
            · obtain ⟨c0, d0, e0, r0⟩ := hb14.same s15
              exact ⟨c0, d0, by rw [upd_ne nlb.symm]; exact e0, r0⟩
            · rw [upd_ne (ne_of_none ha hl0)]
              exact s15 _ _ (off0 _ _ ha na)
            · rcases List.mem_append.mp hp with h | h
              · exact hok p h
              · rw [List.mem_singleton.mp h]
                refine ⟨⟨fun e => ?_, by show z.length ≤ 4; omega⟩, by show (z.length : Int) ≤ lo; omega⟩
                rw [show z = [] from e] at z1
                exact absurd z1 (by decide)
          · obtain ⟨x7, xs, ps, rfl, hb12, off12, el12, hps, hlen, hok⟩ := hp
            have few : ps.length ≤ 2 := by
              rw [hlen]
              omega
            refine ⟨.ref b, rfl, .int wi, rfl, b, 2, wi, rfl, hb12, by decide, w2, by omega, fun z H13 z1 z2 hb13 off13 => ⟨.ref l, rfl, by show 2 ≤ sizeLine; decide, fun t ht => ?_⟩⟩
            have st : Same H13 (upd H13 t (.tup [.str (WS z), .ref l])) := same_new ht
            have ru : RuAt (upd H13 t (.tup [.str (WS z), .ref l])) t z ps := ⟨l, xs, upd_same, st _ _ (off13 _ _ el12 nlb), (hps.kp (kp_off hb12 off13)).kp (kp_same st)⟩
            have offC : Own.Off b H (upd H13 t (.tup [.str (WS z), .ref l])) := (off12.trans off13).trans (off_of st)
            have hbC := hb13.same st
            refine ⟨.ref t, rfl, t, z, ps, rfl, ru, few, fun p hp => (hok p hp).1, fun r H14 s14 hr => ⟨_, rfl, ite2 (fun e => ?_) (fun e => ?_)⟩⟩
            · exact ⟨.ref t, rfl, q t z ps H14 ⟨⟨(hr e).1, few, fun p hp => (hok p hp).1, by omega, by omega, (hr e).2⟩, by omega, fun p hp => (hok p hp).2⟩ (ru.same s14) (hbC.same s14) (offC.trans (off_of s14))⟩
            · exact ⟨_, _, _, _, rfl, hbC.same s14, offC.trans (off_of s14)⟩
        · obtain ⟨x5, x6, x7, x8, rfl, hb9, off9⟩ := hp
          refine ⟨by show 0 ≤ sizeLine; decide, fun l hl => ⟨by show 2 ≤ sizeLine; decide, fun t ht => ?_⟩⟩
          have s1 : Same H9 (upd H9 l (.lst [])) := same_new hl
          have s2 := s1.trans (same_new (o := .tup [.str "110", .ref l]) ht)
          have e110 : ("110" : Str) = WS [true, true, false] := by decide +kernel
          refine q t [true, true, false] [] _ ⟨lr5 wi, w3, fun _ h => nomatch h⟩ ⟨l, [], ?_, (same_new ht) _ _ upd_same, trivial⟩ (hb9.same s2) (off9.trans (off_of s2))
          rw [← e110]
          exact upd_same

abbrev s_made : Stmt := (topS 58)
theorem sc_made : FnScope ["_law_rule_here"] ["_law_rule_here"] (fnScope s_made) := fnScope_by (by decide +kernel)
theorem ok_made {C f : Addr} {fd : FuncData} (F : C8.Fun K "_law_made" "_law_made" s_made f fd) (M : Mg mg) (k_Rule_2 : Mak P w K mg base 5 "Rule" C (spRInit K C) []) : FnOk P w K mg base CX0 7 f fd ["_law_rule_here"] (spMade C) := by
  refine fn0 F sc_made (fun vs H Q E h => ?_) (fun cdv A outer s H vs Q E hr h => ?_)
  · obtain ⟨t, flag, ps, rfl, _⟩ := h
    rfl
  · obtain ⟨t, flag, ps, rfl, ⟨l, xs, h1, h2, h3⟩, ok, f2, f9, q⟩ := h
    refine ⟨_, (pss_one (ps_ret (pe_mk k_Rule_2 hr (by decide) (by rfl) (pa_cons (pe_ix (r := rIxT K) ix_tup (pv 0) pe_int (fun _ _ => rfl)) (pa_cons (pe_ix (r := rIxT K) ix_tup (pv 0) pe_int (fun _ _ => rfl)) pa_nil))))), ?_⟩
    refine ⟨.ref t, rfl, t, _, 0, _, rfl, rfl, .inl (.inl h1), atI0, .ref t, rfl, t, _, 1, _, rfl, rfl, .inl (.inl h1), atI1, fun p dx hp hdx ne => ?_⟩
    have sm : Same H (upd (upd H dx (HO.own p)) p (HO.ins C dx [])) := fun a o ha => by
      rw [upd_ne (ne_of_none ha hp), upd_ne (ne_of_none ha hdx)]
      exact ha
    refine ⟨p, dx, l, true, flag, xs, ps, rfl, f2, f9, .l (sm _ _ h2), h3.kp (kp_same sm), ok, upd_same, fun H' rl kp => ⟨rfl, q p H' rl (same_make hp hdx kp)⟩⟩

abbrev s_check : Stmt := (topS 59)
theorem sc_check : FnScope ["_law_box", "_law_most", "_law_size", "_law_poly"] ["_law_box", "_law_most"] (fnScope s_check) := fnScope_by (by decide +kernel)
theorem ok_checkB {f : Addr} {fd : FuncData} (F : C8.Fun K "_law_check" "_law_check" s_check f fd) (M : Mg mg) (c_choose : Cal P w K mg base 1 "_law_choose" spChoose []) (c_word : Cal P w K mg base 3 "_law_word" spWord2 []) : FnOk P w K mg base CX0 4 f fd ["_law_box", "_law_most"] spCheck := by
  refine fn0 F sc_check (fun vs H Q E h => ?_) (fun cdv A outer s H vs Q E hr h => ?_)
  · obtain ⟨b, n, rfl, _⟩ := h
    rfl
  · obtain ⟨b, m, rfl, hb, hm0, hm1, q⟩ := h
    refine ⟨_, (pss_cons (ps_set (i := 2) sc_check.nd rfl (Or.inl rfl) (pe_c c_choose hr (by decide) (by rfl) (pa_cons (pv 0) (pa_cons (pe_op op_add (pv 1) pe_int) pa_nil))))
        (pss_cons (ps_set (i := 3) sc_check.nd rfl (Or.inl rfl) (pe_ifExp (pt_cmpR op_eq (pv 2) pe_int (nomark _)) pe_str (pe_op op_add_str (pe_op op_add_str pe_str (pe_c c_word hr (by decide) (by rfl) (pa_cons (pv 0) (pa_cons (pe_op op_sub (pv 2) pe_int) (pa_cons (pe_op op_sub (pv 2) pe_int) pa_nil))))) pe_str)))
        (pss_one (ps_ret (pe_tup (pa_cons (pv 3) (pa_cons (pe_ifExp (pt_cmpR op_eq (pe_c c_choose hr (by decide) (by rfl) (pa_cons (pv 0) (pa_cons pe_int pa_nil))) pe_int (nomark _)) (pe_c c_word hr (by decide) (by rfl) (pa_cons (pv 0) (pa_cons (pv 2) (pa_cons (pv 2) pa_nil)))) (pe_op op_mul_str pe_str (pv 2))) pa_nil))))))), ?_⟩
    refine ⟨.ref b, rfl, .int m, rfl, _, _, rfl, rfl, b, _, rfl, hb, by omega, by omega, fun r H1 r0 r1 hb1 off1 => ?_⟩
    -- the second part of the pair and the end, for any first part
    have fin : ∀ (poly : List Bool) (H2 : Hp), poly.length = r.toNat + 1 → [true] <+: poly → [true] <:+ poly → BoxAt H2 b → Off b H H2 →
        ∀ (st : List Bool) (H3 : Hp), st.length = r.toNat → BoxAt H3 b → Off b H2 H3 → [V.str (WS poly), V.str (WS st)].length ≤ sizeLine ∧ ∀ p, H3 p = none → Q (.ref p) (upd H3 p (.tup [.str (WS poly), .str (WS st)])) := fun poly H2 hl hp hs hb2 off2 st H3 hst hb3 off3 => by
      refine ⟨by show 2 ≤ sizeLine; decide, fun p hp3 => ?_⟩
      have n3 : p ≠ b := hb3.ne_new hp3
      have hp0 : H p = none := by
        cases e : H p with
        | none => rfl
        | some u =>
          rw [off3 p u (off2 p u e n3) n3] at hp3
          cases hp3
      exact q poly st p _ ⟨by omega, hp, hs⟩ (by omega) hp0 upd_same (hb3.same (same_new hp3)) (fun a o ha na => by
        rw [upd_ne (fun e => by rw [e, hp0] at ha; cases ha)]
        exact off3 _ _ (off2 _ _ ha na) na)
    have mz : MulOk "0" r := by
      rw [← WS_0]
      exact mul_ok [false] r0 (by omega) (by decide)
    have mv : Txt.mul "0" r = WS (List.replicate r.toNat false) := by rw [← WS_0, mul_WS [false] r0, flat_rep]
    refine ⟨.int r, rfl, rfl, _, rfl, ?_⟩
    refine ife_join (fun v H' => ∃ poly : List Bool, v = .str (WS poly) ∧ poly.length = r.toNat + 1 ∧ [true] <+: poly ∧ [true] <:+ poly ∧ BoxAt H' b ∧ Own.Off b H H') (fun e k hk => ?_) (fun e k hk => ?_) (fun v H2 g => ?_)
    · have e2 : r = 0 := by
        have := of_decide_eq_true e
        injection this
      exact hk _ _ ⟨[true], by rw [WS_1], by rw [e2]; rfl, List.prefix_rfl, List.suffix_rfl, hb1, off1⟩
    · have e2 : r ≠ 0 := fun z => by
        have := of_decide_eq_false e
        exact this (by rw [z])
      refine ⟨.ref b, rfl, .int r, rfl, _, _, rfl, rfl, .int r, rfl, _, _, rfl, rfl, b, _, _, rfl, hb1, by omega, by omega, by omega, fun z H2 z1 z2 hb2 off2 => ?_⟩
      refine ⟨"1", _, rfl, rfl, ?_, _, _, rfl, rfl, ?_, ?_⟩
      · rw [WS_len]
        exact Nat.le_of_lt (small1000 (by show 1 + z.length ≤ 1000; omega))
      · rw [← WS_1, WS_cat, WS_len, WS_len]
        exact Nat.le_of_lt (small1000 (by simp; omega))
      · rw [w101]
        exact hk _ _ ⟨_, rfl, by simp; omega, ⟨_, rfl⟩, ⟨true :: z, rfl⟩, hb2, off1.trans off2⟩
    · obtain ⟨poly, rfl, hpl, hpre, hsuf, hb2, off2⟩ := g
      exact ⟨_, rfl, .ref b, rfl, b, 2, rfl, hb2, by decide, by decide, fun x H3 _ _ hb3 off3 => ⟨rfl, _, rfl, ite2 (fun _ => ⟨.ref b, rfl, .int r, rfl, .int r, rfl, b, r, r, rfl, hb3, r0, by omega, by omega, fun z' H4 hz1 hz2 hb4 off4 => fin _ H3 hpl hpre hsuf hb3 (off2.trans off3) z' H4 (by omega) hb4 off4⟩) (fun _ => ⟨.int r, rfl, "0", r, rfl, rfl, mz, by rw [mv]; exact fin _ H3 hpl hpre hsuf hb3 (off2.trans off3) (List.replicate r.toNat false) H3 (by rw [List.length_replicate]) hb3 (Off.refl _ _)⟩)⟩⟩

abbrev s_tail : Stmt := (topS 11)
theorem sc_tail : FnScope ["line", "words", "at", "end", "word"] ["line", "words"] (fnScope s_tail) := fnScope_by (by decide +kernel)
theorem ok_tail {f : Addr} {fd : FuncData} (F : C8.Fun K "tail" "tail" s_tail f fd) (M : Mg mg) : FnOk P w K mg base CX0 1 f fd ["line", "words"] spTail := by
  refine fn0 F sc_tail (fun vs H Q E h => ?_) (fun cdv A outer s H vs Q E hr h => ?_)
  · obtain ⟨u, l, ws, rfl, _⟩ := h
    rfl
  · obtain ⟨u, l, ws, rfl, el, hu, hw, q⟩ := h
    refine ⟨_, (pss_cons (ps_for PassesOwn.never rfl (pi_range1 (by rfl) M.range (pa_cons (pe_callB call_len_str (by rfl) M.len PySem.boot_len (pa_cons (pv 0) pa_nil)) pa_nil)) (pg_name (i := 2) sc_tail.nd rfl (Or.inl rfl))
          (pss_cons (ps_set (i := 3) sc_tail.nd rfl (Or.inr rfl) (pe_slice sl_str (pv 0) (po_some (pv 2)) po_none))
            (pss_one (ps_if (pt_val (pe_callB (cr_any rfl) (by rfl) M.any (by decide +kernel) (pa_cons (pe_lc (own := [("word", 4)]) (g := (gName 4)) rfl sc_tail.nd (pi_list (pv 1)) (blkOk_by (N := ["line", "words", "at", "end", "word"]) (sc := fnScope s_tail) (by decide +kernel)) (fun _ _ _ _ _ => (pg_name (i := 4) sc_tail.nd rfl (Or.inl rfl))) (fun _ _ _ _ _ => pts_nil) (fun _ _ _ _ _ => (pe_m1 PySem.F.slot_str_startswith PySem.F.type_str_startswith mt_startswith (pv 4) (pv 3)))) pa_nil)))
              (pss_one (ps_ret (pv 3)))
              pss_nil))))
        (pss_one (ps_ret pe_str))), ?_⟩
    have wl : (WS u).length = u.length := WS_len u
    refine ⟨.str (WS u), rfl, _, rfl, ls_len5 u (by omega), _, rfl, by omega, by omega, ?_⟩
    refine for_it walk_range (fun i σ H1 => ∃ x2 x3, σ = [some (.str (WS u)), some (.ref l), x2, x3, none] ∧ Same H H1 ∧ tailL ws (u.drop i) = tailL ws u)
      ⟨_, _, rfl, Same.refl H, rfl⟩ (fun _ _ _ _ _ => trivial) (fun i x σ H1 H1' hi hp hy => ?_) (fun σ H1 hp => ?_)
    · obtain ⟨rfl, rfl⟩ := hy
      obtain ⟨x2, x3, rfl, s1, ht⟩ := hp
      have hi2 : i < u.length := by
        have h : i < (((WS u).length : Int)).toNat := by simpa using hi
        omega
      refine ⟨.str (WS u), rfl, .int (0 + (i : Nat)), rfl, _, rfl, _, rfl, ls_len5 u (by omega), ?_⟩
      rw [cut_from _ (by omega), show (0 + (i : Int)).toNat = i by omega]
      dsimp only [gName, List.set]
      refine ⟨.ref l, rfl, l, rfl, ⟨_, .inl (.inl (s1 _ _ el))⟩, fun D hD => ?_⟩
      refine lc_it (walk_list (K := K) (a := l) (xs := ws.map fun w => V.str (WS w))) (fun j H2 => Same H1' H2 ∧ H2 D = some (.lst (((ws.take j).map fun w => decide (u.drop i <+: w)).map V.bl))) ⟨same_new hD, upd_same⟩ (fun j H2 _ h => .inl (.inl (h.1 _ _ (s1 _ _ el)))) (fun j y H2o H2 hj hp hy => ?_) (fun H2 hp => ?_)
      · obtain ⟨rfl, hy⟩ := hy
        obtain ⟨s2, eD⟩ := hp
        rw [List.getElem?_map] at hy
        obtain ⟨w, hwj, rfl⟩ := Option.map_eq_some_iff.mp hy
        refine ⟨rfl, .str (WS w), rfl, ⟨_, rfl⟩, .str (WS (u.drop i)), rfl, _, _, rfl, rfl, _, eD, ?_, ?_, ?_⟩
        · rw [List.length_map, List.length_map, List.length_take]
          exact small1000 (by omega)
        · exact same_upd s2 hD
        · rw [upd_same, starts_WS, take_sn hwj, List.map_append, List.map_append]
          rfl
      · obtain ⟨s2, eD⟩ := hp
        rw [List.length_map, List.take_length] at eD
        refine ⟨D, _, rfl, .inl (.inl eD), ?_⟩
        have hany : (ws.map fun w => decide (u.drop i <+: w)).any id = ws.any (fun w => decide (u.drop i <+: w)) := by rw [List.any_map]; rfl
        rw [hany]
        have hd := tailL_drop ws hi2
        cases hb : ws.any (fun w => decide (u.drop i <+: w)) with
        | true =>
          rw [hb, if_pos rfl] at hd
          refine ⟨_, rfl, iteT ⟨.str (WS (u.drop i)), rfl, ?_⟩⟩
          rw [← hd, ht]
          exact q _ (s1.trans s2)
        | false =>
          rw [hb, if_neg (by simp)] at hd
          exact ⟨_, rfl, iteF ⟨_, _, rfl, s1.trans s2, hd.symm.trans ht⟩⟩
    · obtain ⟨x2, x3, rfl, s1, ht⟩ := hp
      have h0 : tailL ws (u.drop u.length) = tailL ws u := by simpa [wl] using ht
      have e1 : tailL ws u = [] := by
        rw [← h0, List.drop_length]
        rfl
      have e2 := q _ s1
      rw [e1] at e2
      exact e2
abbrev s_can_end : Stmt := (topS 20)
theorem sc_can_end : FnScope ["rule", "line"] ["rule", "line"] (fnScope s_can_end) := fnScope_by (by decide +kernel)
theorem ok_can_end {C f : Addr} {fd : FuncData} (F : C8.Fun K "can_end" "can_end" s_can_end f fd) (M : Mg mg) (m_put : Met P w K mg base 2 C "put" (spPut C) []) (c_is_kept : Cal P w K mg base 1 "is_kept" (spKept C) []) : FnOk P w K mg base CX0 3 f fd ["rule", "line"] (spCanEnd C) := by
  refine fn0 F sc_can_end (fun vs H Q E h => ?_) (fun cdv A outer s H vs Q E hr h => ?_)
  · obtain ⟨p, flag, ps, line, rfl, _⟩ := h
    rfl
  · obtain ⟨p, flag, ps, line, rfl, rl, hf, hfl, hl, q⟩ := h
    refine ⟨_, (pss_one (ps_ret (pe_and (pe_cmpR op_isN (pe_mt m_put hr (by decide) (pv 0) (pa_cons (pv 1) pa_nil)) pe_non (nomark _)) (pe_one (pe_c c_is_kept hr (by decide) (by rfl) (pa_cons (pv 0) (pa_cons (pv 1) pa_nil))))))), ?_⟩
    have nfP : ∀ (flag : List Bool) (t : Addr), (rlf flag t).lookup ("put" : Str) = none := fun flag t => by
      unfold rlf
      rw [List.lookup_cons, show (("put" : Str) == "flag") = false by decide +kernel, List.lookup_cons, show (("put" : Str) == "stuffs") = false by decide +kernel]
      rfl
    obtain ⟨dx, t, xs, e1, f1, g1⟩ := id rl
    refine ⟨.ref p, rfl, p, dx, _, rfl, e1, nfP _ _, .str (WS line), rfl, p, flag, ps, line, rfl, rl, fun H1 s1 => ?_⟩
    unfold canEnd at q
    cases e : putL ps line with
    | none =>
      rw [e] at q
      exact ⟨rfl, _, rfl, iteT ⟨.ref p, rfl, .str (WS line), rfl, p, flag, ps, line, rfl, rl.same s1, hf, hfl, hl, fun H2 s2 => q H2 (s1.trans s2)⟩⟩
    | some b =>
      rw [e] at q
      exact ⟨rfl, _, rfl, iteF (q H1 s1)⟩
abbrev s_Rule_patterns : Stmt := (inClass (topS 49) 3)
theorem sc_Rule_patterns : FnScope ["self", "pattern", "bit"] ["self"] (fnScope s_Rule_patterns) := fnScope_by (by decide +kernel)
theorem ok_patterns {C f : Addr} {fd : FuncData} (F : C8.Fun K "patterns" "Rule.patterns" s_Rule_patterns f fd) (M : Mg mg) (T : RlT K C) : FnOk P w K mg base CX0 1 f fd ["self"] (spPats C) := by
  refine fn0 F sc_Rule_patterns (fun vs H Q E h => ?_) (fun cdv A outer s H vs Q E hr h => ?_)
  · obtain ⟨p, flag, ps, rfl, _⟩ := h
    rfl
  · obtain ⟨p, flag, ps, rfl, rl, hl, q⟩ := h
    refine ⟨_, (pss_one (ps_ret (pe_lc (own := [("pattern", 1), ("bit", 2)]) (g := (gTup _ 2 (gCons (gName 1) (gCons (gName 2) gNil)))) rfl sc_Rule_patterns.nd (pi_tup (pe_fld (pv 0) rfl)) (blkOk_by (N := ["self", "pattern", "bit"]) (sc := fnScope s_Rule_patterns) (by decide +kernel)) (fun _ _ _ _ _ => (pg_tup rfl (pgs_cons (pg_name (i := 1) sc_Rule_patterns.nd rfl (Or.inl rfl)) (pgs_cons (pg_name (i := 2) sc_Rule_patterns.nd rfl (Or.inl rfl)) pgs_nil)))) (fun _ _ _ _ _ => pts_nil) (fun _ _ _ _ _ => (pv 1))))), ?_⟩
    obtain ⟨dx, t, xs, e1, f1, g1⟩ := id rl
    have hlen := g1.len
    refine ⟨.ref p, rfl, p, C, dx, _, _, rfl, e1, T.cl, T.nS, rlf_stuffs flag t, t, rfl, ⟨xs, .inl (.inl f1)⟩, fun D hD => ?_⟩
    refine lc_it (walk_tup (K := K) (a := t) (xs := xs)) (fun i H1 => H1 D = some (.lst ((ps.take i).map fun q => V.str (WS q.1))) ∧ Same H H1) ⟨upd_same, same_new hD⟩ (fun i H1 _ h => .inl (.inl (h.2 _ _ f1))) (fun i x H1o H1 hi hp1 hy => ?_) (fun H1 hp1 => ?_)
    · obtain ⟨rfl, hy⟩ := hy
      obtain ⟨eD, sm⟩ := hp1
      obtain ⟨⟨pt, bt⟩, hr, u, rfl, hu⟩ := g1.get hy
      refine ⟨u, _, rfl, .inl (.inl (sm _ _ hu)), rfl, _, _, rfl, _, _, rfl, rfl, rfl, _, rfl, _, eD, ?_, ?_, same_upd sm hD⟩
      · rw [List.length_map, List.length_take]
        exact small1000 (by omega)
      · rw [upd_same, take_sn hr, List.map_append]
        rfl
    · obtain ⟨eD, sm⟩ := hp1
      rw [hlen, List.take_length] at eD
      exact q H1 D sm eD
abbrev s_hear : Stmt := (topS 27)
theorem sc_hear : FnScope ["rule", "heard", "bits", "read_bits", "bit", "due"] ["rule", "heard", "bits"] (fnScope s_hear) := fnScope_by (by decide +kernel)
theorem ok_hear {C f : Addr} {fd : FuncData} (F : C8.Fun K "hear" "hear" s_hear f fd) (M : Mg mg) (T : RlT K C) (m_put : Met P w K mg base 2 C "put" (spPut C) []) (m_patterns : Met P w K mg base 1 C "patterns" (spPats C) []) (c_tail : Cal P w K mg base 1 "tail" spTail []) : FnOk P w K mg base CX0 3 f fd ["rule", "heard", "bits"] (spHearU C) := by
  refine fn0 F sc_hear (fun vs H Q E h => ?_) (fun cdv A outer s H vs Q E hr h => ?_)
  · obtain ⟨p, flag, ps, heard, bits, rfl, _⟩ := h
    rfl
  · obtain ⟨p, flag, ps, heard, bits, rfl, rl, hf, hfl, hpl, hp9, hh, hb, q⟩ := h
    refine ⟨_, (pss_cons (ps_set (i := 3) sc_hear.nd rfl (Or.inl rfl) pe_str)
        (pss_cons (ps_for PassesOwn.never rfl (pi_str (pv 2)) (pg_name (i := 4) sc_hear.nd rfl (Or.inl rfl))
          (pss_cons (ps_set (i := 5) sc_hear.nd rfl (Or.inl rfl) (pe_mt m_put hr (by decide) (pv 0) (pa_cons (pv 1) pa_nil)))
            (C8.pss_cut (ps_if (pt_cmpR op_isN (pv 5) pe_non (nomark _))
              (pss_one (ps_aug (i := 3) sc_hear.nd rfl (Or.inl rfl) (pv 4) iop_add_str))
              (pss_one (ps_if (pt_cmpR op_ne (pv 5) (pv 4) (nomark _))
                  (pss_one (ps_ret pe_non))
                  pss_nil)))
            (pss_cons (ps_aug (i := 1) sc_hear.nd rfl (Or.inl rfl) (pv 4) iop_add_str)
            (pss_cons (ps_if (pt_val (pe_m1 PySem.F.slot_str_endswith PySem.F.type_str_endswith mt_endswith (pv 1) (pe_fld (pv 0) rfl)))
              (pss_one (ps_ret pe_non))
              pss_nil)
            (pss_one (ps_set (i := 1) sc_hear.nd rfl (Or.inl rfl) (pe_c c_tail hr (by decide) (by rfl) (pa_cons (pv 1) (pa_cons (pe_lst (pa_cons (pe_fld (pv 0) rfl) (StX.pa_star (pe_mt0 m_patterns hr (by decide) (pv 0)) pa_nil))) pa_nil))))))))))
        (pss_one (ps_ret (pe_tup (pa_cons (pv 1) (pa_cons (pv 3) pa_nil))))))), ?_⟩
    have nfP : ∀ (flag : List Bool) (t : Addr), (rlf flag t).lookup ("put" : Str) = none := fun flag t => by
      unfold rlf
      rw [List.lookup_cons, show (("put" : Str) == "flag") = false by decide +kernel, List.lookup_cons, show (("put" : Str) == "stuffs") = false by decide +kernel]
      rfl
    have nfQ : ∀ (flag : List Bool) (t : Addr), (rlf flag t).lookup ("patterns" : Str) = none := fun flag t => by
      unfold rlf
      rw [List.lookup_cons, show (("patterns" : Str) == "flag") = false by decide +kernel, List.lookup_cons, show (("patterns" : Str) == "stuffs") = false by decide +kernel]
      rfl
    refine ⟨.str (WS bits), rfl, _, rfl, ?_⟩
    refine for_it walk_str (fun i σ H1 => ∃ (h r : List Bool) (x4 x5 : Option V), σ = [some (.ref p), some (.str (WS h)), some (.str (WS bits)), some (.str (WS r)), x4, x5] ∧ Same H H1 ∧ h.length ≤ 900 ∧ r.length ≤ i ∧ hearL flag ps (bits.drop i) (h, r) = hearL flag ps bits (heard, []))
      ⟨heard, [], _, _, rfl, Same.refl H, hh, Nat.le_refl _, rfl⟩ (fun _ _ _ _ _ => trivial) (fun i x σ H1o H1 hi hp hy => ?_) (fun σ H1 hp => ?_)
    · obtain ⟨rfl, c, hc, rfl⟩ := hy
      obtain ⟨h, r, x4, x5, rfl, s1, hhl, hrl, he⟩ := hp
      obtain ⟨b, hb2, hcb⟩ : ∃ b, bits[i]? = some b ∧ (⟨#[c]⟩ : Str) = WS [b] := bit_at hc
      rw [hcb]
      have hi2 : i < bits.length := (List.getElem?_eq_some_iff.mp hb2).1
      have hdr : bits.drop i = b :: bits.drop (i + 1) := by
        rw [List.drop_eq_getElem_cons hi2]
        have := (List.getElem?_eq_some_iff.mp hb2).2
        rw [this]
      rw [hdr, show hearL flag ps (b :: bits.drop (i + 1)) (h, r) = (hearB flag ps (h, r) b).bind (hearL flag ps (bits.drop (i + 1))) from rfl] at he
      have rl1 := rl.same s1
      obtain ⟨dx, t, xs, e1, f1, g1⟩ := id rl1
      refine ⟨.ref p, rfl, p, dx, _, rfl, e1, nfP _ _, .str (WS h), rfl, p, flag, ps, h, rfl, rl1, fun H2 s2 => ?_⟩
      have rl2 := rl1.same s2
      have e2 := s2 _ _ e1
      have no : hearB flag ps (h, r) b = none → ∀ H3, Same H2 H3 → Q .non H3 := fun e H3 s3 => q H3 .non ((s1.trans s2).trans s3) (by rw [← he, e]; rfl)
      dsimp only [gName, List.set]
      refine ⟨fun σ' H' => ∃ r', σ' = [some (.ref p), some (.str (WS h)), some (.str (WS bits)), some (.str (WS r')), some (.str (WS [b])), some (oB (putL ps h))] ∧ H' = H2 ∧ putL ps h ≠ some (!b) ∧ r' = (if putL ps h = none then r ++ [b] else r), ?_, ?_⟩
      · cases e : putL ps h with
        | none =>
          refine ⟨_, rfl, rfl, _, rfl, iteT ⟨.str (WS r), rfl, .str (WS [b]), rfl, _, _, rfl, rfl, cat_len5 _ _ (by show _ + 1 ≤ 100000; omega), ?_⟩⟩
          rw [WS_cat]
          exact ⟨r ++ [b], rfl, rfl, by simp, by simp⟩
        | some d =>
          refine ⟨_, rfl, rfl, _, rfl, iteF ⟨_, rfl, .str (WS [b]), rfl, rfl, _, rfl, ?_⟩⟩
          by_cases ed : d = b
          · subst ed
            exact iteNS rfl ⟨r, rfl, rfl, by simp, by simp⟩
          · have ed2 : d = !b := by cases d <;> cases b <;> simp_all
            have nb : hearB flag ps (h, r) b = none := by
              unfold hearB
              rw [if_pos (by rw [e, ed2])]
            have ne : (!decide (V.str (WS [d]) = V.str (WS [b]))) = true := by
              rw [eqS, decide_eq_false (fun z => ed (by cases z; rfl))]
              rfl
            exact (if_pos ne).mpr (no nb _ (Same.refl _))
      · rintro σ' H' ⟨r', rfl, rfl, hn, hr'⟩
        refine ⟨.str (WS h), rfl, .str (WS [b]), rfl, _, _, rfl, rfl, cat_len5 _ _ (by show _ + 1 ≤ 100000; omega), ?_⟩
        rw [WS_cat]
        dsimp only [List.set]
        refine ⟨.str (WS (h ++ [b])), rfl, ⟨_, rfl⟩, .ref p, rfl, p, C, dx, _, _, rfl, e2, T.cl, T.nF, rlf_flag flag t, _, _, rfl, rfl, _, rfl, ?_⟩
        rw [ends_WS]
        by_cases ef : flag <:+ h ++ [b]
        · rw [decide_eq_true ef]
          refine iteT (no ?_ _ (Same.refl _))
          unfold hearB
          rw [if_neg hn, if_pos ef]
        · rw [decide_eq_false ef]
          refine iteF ?_
          have hb3 : hearB flag ps (h, r) b = some (tailL (flag :: ps.map (·.1)) (h ++ [b]), r') := by
            unfold hearB
            rw [if_neg hn, if_neg ef, hr']
          refine ⟨.str (WS (h ++ [b])), rfl, .ref p, rfl, p, C, dx, _, _, rfl, e2, T.cl, T.nF, rlf_flag flag t, .ref p, rfl, p, dx, _, rfl, e2, nfQ _ _, p, flag, ps, rfl, rl2, by omega, fun H3 l s3 el => ⟨l, _, rfl, .inr (.inl (.inl el)), ?_, fun l2 hl2 => ?_⟩⟩
          · rw [List.length_cons, List.append_nil, List.length_map]
            exact Nat.le_of_lt (small1000 (by omega))
          · have hpre := tailL_pre (flag :: ps.map (·.1)) (h ++ [b])
            have htl : (tailL (flag :: ps.map (·.1)) (h ++ [b])).length ≤ 900 := by
              rcases hpre with e | ⟨w, hw, hp⟩
              · rw [e]
                exact Nat.zero_le _
              · refine Nat.le_trans hp.length_le ?_
                rcases List.mem_cons.mp hw with e | hw
                · rw [e]
                  exact hfl
                · obtain ⟨x, hx, rfl⟩ := List.mem_map.mp hw
                  exact hp9 x hx
            refine ⟨h ++ [b], l2, flag :: ps.map (·.1), rfl, by rw [upd_same, List.append_nil, List.map_cons, List.map_map]; rfl, (by rw [List.length_append]; show _ + 1 ≤ 90000; omega), (by rw [List.length_cons, List.length_map]; omega), fun H4 s4 => ?_⟩
            refine ⟨_, r', _, _, rfl, ((s1.trans s2).trans s3).trans ((same_new hl2).trans s4), htl, ?_, ?_⟩
            · rw [hr']
              split
              · rw [List.length_append]
                show _ + 1 ≤ _
                omega
              · omega
            · rw [← he, hb3]
              rfl
    · obtain ⟨h, r, x4, x5, rfl, s1, hhl, hrl, he⟩ := hp
      have e0 : hearL flag ps bits (heard, []) = some (h, r) := by
        rw [← he, WS_size, List.drop_length]
        rfl
      refine ⟨.str (WS h), rfl, .str (WS r), rfl, by show 2 ≤ sizeLine; decide, fun t2 ht2 => ?_⟩
      exact q _ (.ref t2) (s1.trans (same_new ht2)) (by rw [e0]; exact ⟨t2, rfl, upd_same⟩)

abbrev s_moved : Stmt := (topS 29)
theorem sc_moved : FnScope ["gap", "by", "bit", "shift", "waiting"] ["gap", "by", "bit"] (fnScope s_moved) := fnScope_by (by decide +kernel)
theorem ok_moved {f : Addr} {fd : FuncData} (F : C8.Fun K "moved" "moved" s_moved f fd) (M : Mg mg) : FnOk P w K mg base CX0 1 f fd ["gap", "by", "bit"] spMoved := by
  refine fn0 F sc_moved (fun vs H Q E h => ?_) (fun cdv A outer s H vs Q E hr h => ?_)
  · obtain ⟨v, g, y, b, rfl, _⟩ := h
    rfl
  · obtain ⟨v, ⟨sh, wt⟩, y, b, rfl, ⟨t, rfl, ht⟩, hy, hg, hl, q⟩ := h
    refine ⟨_, (pss_cons (ps_asg (pv 0) (pg_tup rfl (pgs_cons (pg_name (i := 3) sc_moved.nd rfl (Or.inl rfl)) (pgs_cons (pg_name (i := 4) sc_moved.nd rfl (Or.inl rfl)) pgs_nil))))
        (pss_cons (ps_if (pt_cmpR op_isN (pv 4) pe_non (nomark _))
          (pss_one (ps_ret (pe_tup (pa_cons (pe_op op_add (pv 3) (pv 1)) (pa_cons pe_non pa_nil)))))
          pss_nil)
        (pss_cons (ps_if (pt_cmpR op_ge (pe_op op_mul (pv 3) (pv 1)) pe_int (nomark _))
          (pss_one (ps_ret (pe_tup (pa_cons (pe_op op_add (pv 3) (pv 1)) (pa_cons (pe_op op_add_str (pv 4) (pv 2)) pa_nil)))))
          pss_nil)
        (pss_one (ps_ret (pe_tup (pa_cons (pe_op op_add (pv 3) (pv 1)) (pa_cons (pe_ifExp (pt_cmpR op_eq (pe_ix (r := rIxS) ix_str (pv 4) pe_int (fun _ _ => rfl)) (pv 2) (nomark _)) (pe_slice sl_str (pv 4) (po_some pe_int) po_none) pe_non) pa_nil)))))))), ?_⟩
    have hy1 : -1 ≤ y ∧ y ≤ 1 := by rcases hy with rfl | rfl <;> omega
    refine ⟨.ref t, rfl, t, _, rfl, .inl (.inl ht), rfl, _, _, rfl, _, _, rfl, rfl, ?_⟩
    cases wt with
    | none => exact ⟨_, rfl, rfl, _, rfl, iteT ⟨.int sh, rfl, .int y, rfl, sh, y, rfl, rfl, by show 2 ≤ sizeLine; decide, fun t2 ht2 => q _ (.ref t2) (same_new ht2) ⟨t2, rfl, upd_same⟩⟩⟩
    | some w =>
      have hw : w.length = sh.natAbs := hg w rfl
      have hl2 : sh.natAbs ≤ 90000 := hl
      refine ⟨_, rfl, rfl, _, rfl, iteF ⟨.int sh, rfl, .int y, rfl, sh, y, rfl, rfl, .inr ⟨by omega, by omega⟩, _, _, rfl, rfl, _, rfl, ite2 (fun e => ?_) (fun e => ?_)⟩⟩
      · have e : 0 ≤ sh * y := of_decide_eq_true e
        refine ⟨.int sh, rfl, .int y, rfl, sh, y, rfl, rfl, .str (WS w), rfl, .str (WS [b]), rfl, _, _, rfl, rfl, cat_len5 _ _ (by show _ + 1 ≤ 100000; omega), by show 2 ≤ sizeLine; decide, fun t2 ht2 => ?_⟩
        rw [WS_cat]
        refine q _ (.ref t2) (same_new ht2) ⟨t2, rfl, ?_⟩
        rw [upd_same]
        unfold movedG
        dsimp only
        rw [if_pos e]
        rfl
      · have e : ¬ 0 ≤ sh * y := fun z => e (decide_eq_true z)
        cases w with
        | nil =>
          have : sh = 0 := by
            have h0 : (0 : Nat) = sh.natAbs := hw
            omega
          subst this
          exact absurd (by simp) e
        | cons c u =>
          obtain ⟨d, hd, hat⟩ := at_WS (c :: u) (i := 0) (by decide) (by show 0 < u.length + 1; omega)
          have hdc : d = c := by cases hd; rfl
          subst hdc
          have hws : (⟨#[cd d]⟩ : Str) = WS [d] := rfl
          refine ⟨.int sh, rfl, .int y, rfl, sh, y, rfl, rfl, .str (WS (d :: u)), rfl, WS (d :: u), 0, cd d, rfl, rfl, ls_len5 (d :: u) (by omega), hat, .str (WS [b]), rfl, rfl, _, rfl, ?_⟩
          rw [hws, eqS]
          by_cases ed : d = b
          · subst ed
            rw [decide_eq_true rfl]
            refine (if_pos rfl).mpr ⟨.str (WS (d :: u)), rfl, _, rfl, _, rfl, ls_len5 (d :: u) (by omega), by show 2 ≤ sizeLine; decide, fun t2 ht2 => ?_⟩
            rw [cut_from _ (by decide)]
            refine q _ (.ref t2) (same_new ht2) ⟨t2, rfl, ?_⟩
            rw [upd_same]
            unfold movedG
            dsimp only
            rw [if_neg e, if_pos rfl]
            rfl
          · rw [decide_eq_false (show ¬ [d] = [b] from fun z => ed (by cases z; rfl))]
            refine (if_neg (by simp)).mpr ⟨by show 2 ≤ sizeLine; decide, fun t2 ht2 => ?_⟩
            refine q _ (.ref t2) (same_new ht2) ⟨t2, rfl, ?_⟩
            rw [upd_same]
            unfold movedG
            dsimp only
            rw [if_neg e, if_neg ed]
            rfl

abbrev s_Netsettled : Stmt := (inClass (topS 30) 10)
theorem sc_Netsettled : FnScope ["self", "gap", "cut", "shift", "waiting"] ["self", "gap", "cut"] (fnScope s_Netsettled) := fnScope_by (by decide +kernel)
theorem ok_settled {C f : Addr} {fd : FuncData} (F : C8.Fun K "_settled" "Net._settled" s_Netsettled f fd) (M : Mg mg) (T : NtT K C) : FnOk P w K mg base CX0 1 f fd ["self", "gap", "cut"] (spSettled C) := by
  refine fn0 F sc_Netsettled (fun vs H Q E h => ?_) (fun cdv A outer s H vs Q E hr h => ?_)
  · obtain ⟨p, dx, fs, v, g, hw, cut, rfl, _⟩ := h
    rfl
  · obtain ⟨p, dx, fs, v, ⟨sh, wt⟩, hw, cut, rfl, e1, hh, ⟨t, rfl, ht⟩, q⟩ := h
    refine ⟨_, (pss_cons (ps_asg (pv 1) (pg_tup rfl (pgs_cons (pg_name (i := 3) sc_Netsettled.nd rfl (Or.inl rfl)) (pgs_cons (pg_name (i := 4) sc_Netsettled.nd rfl (Or.inl rfl)) pgs_nil))))
        (pss_cons (ps_if (pt_cmpR (show OpR _ _ (rIn K false) from op_in_seq) (pe_fld (pv 0) rfl) (pe_tup (pa_cons pe_str (pa_cons pe_str pa_nil))) (by rfl))
          (pss_one (ps_ret (pv 1)))
          pss_nil)
        (pss_cons (ps_if (PW.pt (pw_or (pt_cmpR op_isN (pv 4) pe_non (nomark _)) (pw_or1 (PW.pt (pw_and (pt_cmpR op_gt (pv 2) pe_int (nomark _)) (pw_and1 (pt_cmpR op_lt (pv 3) pe_int (nomark _))))))))
          (pss_one (ps_ret (pe_tup (pa_cons pe_int (pa_cons pe_non pa_nil)))))
          pss_nil)
        (pss_one (ps_ret (pv 1)))))), ?_⟩
    refine ⟨.ref t, rfl, t, _, rfl, .inl (.inl ht), rfl, _, _, rfl, _, _, rfl, rfl, ?_⟩
    refine ⟨.ref p, rfl, p, C, dx, _, _, rfl, e1, T.cl, T.nH, hh, by show 2 ≤ sizeLine; decide, fun t2 ht2 => ?_⟩
    have s2 : Same H (upd H t2 (.tup [.str "same", .str "shift"])) := same_new ht2
    refine ⟨t2, _, rfl, .inr (.inl (.inl upd_same)), rfl, by decide, _, rfl, ?_⟩
    rw [how_in]
    revert s2
    generalize upd H t2 _ = H2
    intro s2
    unfold settledG at q
    have ht' := s2 _ _ ht
    cases hk : hw.keep with
    | true =>
      rw [hk] at q
      exact iteT ⟨.ref t, rfl, q _ (.ref t) s2 ⟨t, rfl, ht'⟩⟩
    | false =>
      rw [hk] at q
      refine iteF ?_
      have q1 : ∀ H' v', Same H H' → GapAt H' v' (if wt = none ∨ (0 < cut ∧ sh < 0) then (0, none) else (sh, wt)) → Q v' H' := q
      have gone : (wt = none ∨ (0 < cut ∧ sh < 0)) → ∀ t3, H2 t3 = none → Q (.ref t3) (upd H2 t3 (.tup [.int 0, .non])) := fun h t3 ht3 => q1 _ _ (s2.trans (same_new ht3)) (by rw [if_pos h]; exact ⟨t3, rfl, upd_same⟩)
      have stay : ¬ (wt = none ∨ (0 < cut ∧ sh < 0)) → Q (.ref t) H2 := fun h => q1 _ _ s2 (by rw [if_neg h]; exact ⟨t, rfl, ht'⟩)
      cases wt with
      | none => exact ⟨_, rfl, rfl, _, rfl, iteT (iteT ⟨by show 2 ≤ sizeLine; decide, fun t3 ht3 => gone (.inl rfl) t3 ht3⟩)⟩
      | some w =>
        refine ⟨_, rfl, rfl, _, rfl, iteF ⟨.int cut, rfl, _, _, rfl, rfl, _, rfl, ite2 (fun e => ?_) (fun e => ?_)⟩⟩
        · have e : 0 < cut := by have := of_decide_eq_true e; omega
          refine ⟨.int sh, rfl, _, _, rfl, rfl, _, rfl, ite2 (fun e2 => ?_) (fun e2 => ?_)⟩
          · exact ⟨by show 2 ≤ sizeLine; decide, fun t3 ht3 => gone (.inr ⟨e, of_decide_eq_true e2⟩) t3 ht3⟩
          · exact ⟨.ref t, rfl, stay fun z => by
              rcases z with z | ⟨_, z⟩
              · cases z
              · exact e2 (decide_eq_true z)⟩
        · refine iteF ⟨.ref t, rfl, stay fun z => ?_⟩
          rcases z with z | ⟨z, _⟩
          · cases z
          · exact e (decide_eq_true (by omega))
abbrev s_Netgap_behind : Stmt := (inClass (topS 30) 9)
theorem sc_Netgap_behind : FnScope ["self", "gap", "by", "bit", "cut"] ["self", "gap", "by", "bit", "cut"] (fnScope s_Netgap_behind) := fnScope_by (by decide +kernel)
theorem ok_gap_behind {C f : Addr} {fd : FuncData} (F : C8.Fun K "_gap_behind" "Net._gap_behind" s_Netgap_behind f fd) (M : Mg mg) (c_moved : Cal P w K mg base 1 "moved" spMoved []) (m__settled : Met P w K mg base 1 C "_settled" (spSettled C) []) : FnOk P w K mg base CX0 2 f fd ["self", "gap", "by", "bit", "cut"] (spGapB C) := by
  refine fn0 F sc_Netgap_behind (fun vs H Q E h => ?_) (fun cdv A outer s H vs Q E hr h => ?_)
  · obtain ⟨p, dx, fs, v, g, hw, cut, y, b, rfl, _⟩ := h
    rfl
  · obtain ⟨p, dx, fs, v, g, hw, cut, y, b, rfl, e1, hh, hs, hg, hy, gw, hl, q⟩ := h
    refine ⟨_, (pss_one (ps_ret (pe_mt m__settled hr (by decide) (pv 0) (pa_cons (pe_c c_moved hr (by decide) (by rfl) (pa_cons (pv 1) (pa_cons (pv 2) (pa_cons (pv 3) pa_nil)))) (pa_cons (pv 4) pa_nil))))), ?_⟩
    refine ⟨.ref p, rfl, p, dx, fs, rfl, e1, hs, v, rfl, .int y, rfl, .str (WS [b]), rfl, v, g, y, b, rfl, hg, hy, gw, hl, fun H1 v1 s1 h1 => ?_⟩
    exact ⟨.int cut, rfl, p, dx, fs, v1, movedG g y b, hw, cut, rfl, s1 _ _ e1, hh, h1, fun H2 v2 s2 h2 => q H2 v2 (s1.trans s2) h2⟩
abbrev s_Netears_behind : Stmt := (inClass (topS 30) 8)
theorem sc_Netears_behind : FnScope ["self", "ear", "bit", "heard", "cut", "gap", "read", "flag", "found", "told", "now", "new"] ["self", "ear", "bit"] (fnScope s_Netears_behind) := fnScope_by (by decide +kernel)
theorem ok_ears_behind {C CRule f : Addr} {fd : FuncData} (F : C8.Fun K "_ears_behind" "Net._ears_behind" s_Netears_behind f fd) (M : Mg mg) (T : NtT K C) (TR : RlT K CRule) (c_hear : Cal P w K mg base 3 "hear" (spHearU CRule) []) (c_can_end : Cal P w K mg base 3 "can_end" (spCanEnd CRule) []) (m__gap_behind : Met P w K mg base 2 C "_gap_behind" (spGapB C) []) (m__settled : Met P w K mg base 1 C "_settled" (spSettled C) []) : FnOk P w K mg base CX0 4 f fd ["self", "ear", "bit"] (spEarsB C CRule) := by
  refine fn0 F sc_Netears_behind (fun vs H Q E h => ?_) (fun cdv A outer s H vs Q E hr h => ?_)
  · obtain ⟨p, dx, rp, fs, v, e, hw, b, flag, ps, rfl, _⟩ := h
    rfl
  · obtain ⟨p, dx, rp, fs, v, ⟨hd, cut, g, rd⟩, hw, b, flag, ps, rfl, e1, hh, hs, hgb, hrp, rl, hf, hfl, hpl, hp9, ⟨t, gv, rfl, ht, hgv⟩, hhl, hcl, gw, hgl, hrl, q⟩ := h
    refine ⟨_, (pss_cons (ps_asg (pv 1) (pg_tup rfl (pgs_cons (pg_name (i := 3) sc_Netears_behind.nd rfl (Or.inl rfl)) (pgs_cons (pg_name (i := 4) sc_Netears_behind.nd rfl (Or.inl rfl)) (pgs_cons (pg_name (i := 5) sc_Netears_behind.nd rfl (Or.inl rfl)) (pgs_cons (pg_name (i := 6) sc_Netears_behind.nd rfl (Or.inl rfl)) pgs_nil))))))
        (pss_cons (ps_set (i := 7) sc_Netears_behind.nd rfl (Or.inl rfl) (pe_fld (pe_fld (pv 0) rfl) rfl))
        (pss_cons (ps_if (pt_cmpR op_eq (pv 4) (pe_callB call_len_str (by rfl) M.len PySem.boot_len (pa_cons (pv 7) pa_nil)) (nomark _))
          (pss_one (ps_ret (pe_lst (pa_cons (pv 1) pa_nil))))
          pss_nil)
        (pss_cons (ps_if (pt_cmpR op_gt (pv 4) pe_int (nomark _))
          (pss_one (ps_ret (pe_ifExp (pt_cmpR op_eq (pv 2) (pe_ix (r := rIxS) ix_str (pv 7) (pv 4) (fun _ _ => rfl)) (nomark _)) (pe_lst (pa_cons (pe_tup (pa_cons (pv 3) (pa_cons (pe_op op_add (pv 4) pe_int) (pa_cons (pv 5) (pa_cons (pv 6) pa_nil))))) pa_nil)) (pe_lst pa_nil))))
          pss_nil)
        (pss_cons (ps_set (i := 8) sc_Netears_behind.nd rfl (Or.inl rfl) (pe_lst pa_nil))
        (pss_cons (ps_set (i := 9) sc_Netears_behind.nd rfl (Or.inl rfl) (pe_c c_hear hr (by decide) (by rfl) (pa_cons (pe_fld (pv 0) rfl) (pa_cons (pv 3) (pa_cons (pv 2) pa_nil)))))
        (C8.pss_cut (ps_if (pt_cmpR op_notN (pv 9) pe_non (nomark _))
          (pss_cons (ps_asg (pv 9) (pg_tup rfl (pgs_cons (pg_name (i := 10) sc_Netears_behind.nd rfl (Or.inl rfl)) (pgs_cons (pg_name (i := 11) sc_Netears_behind.nd rfl (Or.inl rfl)) pgs_nil))))
            (pss_one (ps_expr (pe_bm PySem.F.plainAttrs_list PySem.F.slot_list_append PySem.F.type_list_append mt_append (pv 8) (pa_cons (pe_tup (pa_cons (pv 10) (pa_cons pe_int (pa_cons (pe_ifExp (pt_cmpR op_ne (pv 11) pe_str (nomark _)) (pe_mt m__gap_behind hr (by decide) (pv 0) (pa_cons (pv 5) (pa_cons pe_int (pa_cons (pv 11) (pa_cons pe_int pa_nil))))) (pv 5)) (pa_cons (pe_op op_add_str (pv 6) (pv 11)) pa_nil))))) pa_nil)))))
          pss_nil)
        (C8.pss_cut (ps_if (PW.pt (pw_and (pt_cmpR (show OpR _ _ (rIn K false) from op_in_seq) (pe_fld (pv 0) rfl) (pe_tup (pa_cons pe_str (pa_cons pe_str pa_nil))) (by rfl)) (pw_and (pt_cmpR op_eq (pv 2) (pe_ix (r := rIxS) ix_str (pv 7) pe_int (fun _ _ => rfl)) (nomark _)) (pw_and1 (pt_val (pe_c c_can_end hr (by decide) (by rfl) (pa_cons (pe_fld (pv 0) rfl) (pa_cons (pv 3) pa_nil))))))))
          (pss_one (ps_expr (pe_bm PySem.F.plainAttrs_list PySem.F.slot_list_append PySem.F.type_list_append mt_append (pv 8) (pa_cons (pe_tup (pa_cons pe_str (pa_cons pe_int (pa_cons (pe_mt m__settled hr (by decide) (pv 0) (pa_cons (pv 5) (pa_cons pe_int pa_nil))) (pa_cons (pv 6) pa_nil))))) pa_nil))))
          pss_nil)
        (pss_one (ps_ret (pv 8))))))))))), ?_⟩
    obtain ⟨dr, tr, xr, er, fr, gr⟩ := id rl
    have wfl : (WS flag).length = flag.length := WS_len flag
    have s0 : Same H H := Same.refl H
    refine ⟨.ref t, rfl, t, _, rfl, .inl (.inl ht), rfl, _, _, rfl, _, _, rfl, _, _, rfl, _, _, rfl, rfl, .ref p, rfl, p, C, dx, _, _, rfl, e1, T.cl, T.nR, hrp, rp, CRule, dr, _, _, rfl, er, TR.cl, TR.nF, rlf_flag flag tr, ?_⟩
    dsimp only at hhl hcl gw hgl hrl hgv
    refine ⟨.int cut, rfl, .str (WS flag), rfl, _, rfl, ls_len5 flag (by omega), rfl, _, rfl, ?_⟩
    rw [wfl]
    unfold earsB at q
    dsimp only at q
    by_cases ec : cut = flag.length
    · rw [if_pos ec] at q
      refine (if_pos (decide_eq_true (by rw [ec]))).mpr ⟨.ref t, rfl, by show 1 ≤ sizeLine; decide, fun l hl => ?_⟩
      exact q _ l _ (same_new hl) hl upd_same (.cons ⟨t, gv, rfl, (same_new hl) _ _ ht, hgv.same (same_new hl)⟩ .nil)
    rw [if_neg ec] at q
    refine (if_neg (by rw [decide_eq_false (show ¬ V.int (cut : Nat) = V.int ((flag.length : Nat) : Int) from fun z => ec (by cases z; rfl))]; simp)).mpr ?_
    refine ⟨.int cut, rfl, _, _, rfl, rfl, _, rfl, ?_⟩
    by_cases ec0 : 0 < cut
    · rw [if_pos ec0] at q
      refine (if_pos (decide_eq_true (by omega))).mpr ?_
      obtain ⟨d, hd2, hat⟩ := at_WS flag (i := (cut : Int)) (by omega) (by omega)
      rw [Int.toNat_natCast] at hd2
      refine ⟨.str (WS [b]), rfl, .str (WS flag), rfl, .int cut, rfl, WS flag, cut, cd d, rfl, rfl, ls_len5 flag (by omega), hat, rfl, _, rfl, ?_⟩
      rw [show (⟨#[cd d]⟩ : Str) = WS [d] from rfl, eqS]
      by_cases ebd : b = d
      · rw [if_pos (by rw [hd2, ebd])] at q
        refine (if_pos (decide_eq_true (by rw [ebd]))).mpr ⟨.str (WS hd), rfl, .int cut, rfl, _, _, rfl, rfl, gv, rfl, .str (WS rd), rfl, by show 4 ≤ sizeLine; decide, fun t2 ht2 => ⟨by show 1 ≤ sizeLine; decide, fun l hl => ?_⟩⟩
        have sa := (same_new ht2).trans (same_new (o := .lst [.ref t2]) hl)
        exact q _ l _ sa ((same_new ht2).free hl) upd_same (.cons ⟨t2, gv, rfl, (same_new hl) _ _ upd_same, hgv.same sa⟩ .nil)
      · rw [if_neg (by rw [hd2]; exact fun z => ebd (by cases z; rfl))] at q
        refine (if_neg (by rw [decide_eq_false (show ¬ [b] = [d] from fun z => ebd (by cases z; rfl))]; simp)).mpr ⟨by show 0 ≤ sizeLine; decide, fun l hl => ?_⟩
        exact q _ l [] (same_new hl) hl upd_same .nil
    rw [if_neg ec0] at q
    refine (if_neg (by simp; omega)).mpr ?_
    refine ⟨by show 0 ≤ sizeLine; decide, fun lf hlf => ?_⟩
    have s1 : Same H (upd H lf (.lst [])) := same_new hlf
    have el1 : (upd H lf (.lst [])) lf = some (.lst []) := upd_same
    revert s1 el1
    generalize upd H lf (.lst []) = H1
    intro s1 el1
    refine ⟨.ref p, rfl, p, C, dx, _, _, rfl, s1 _ _ e1, T.cl, T.nR, hrp, .str (WS hd), rfl, .str (WS [b]), rfl, rp, flag, ps, hd, [b], rfl, rl.same s1, hf, hfl, hpl, hp9, hhl, by show 1 ≤ 900; decide, fun H2 tv s2 htd => ?_⟩
    rw [hear_one] at htd
    have s12 := s1.trans s2
    have el2 := s2 _ _ el1
    dsimp only [gName, List.set, L2.start]
    refine ⟨fun σ' H' => ∃ ws x9 x10 x11, σ' = [some (.ref p), some (.ref t), some (.str (WS [b])), some (.str (WS hd)), some (.int cut), some gv, some (.str (WS rd)), some (.str (WS flag)), some (.ref lf), x9, x10, x11] ∧ Same H H' ∧ H' lf = some (.lst ws) ∧
      Paired (EarAt H') ws (earsH hw flag ps hd g rd b), ?_, ?_⟩
    · unfold earsH
      cases eh : hearB flag ps (hd, []) b with
      | none =>
        rw [eh] at htd
        obtain rfl : tv = .non := htd
        exact ⟨_, rfl, rfl, _, rfl, iteF ⟨[], _, _, _, rfl, s12, el2, .nil⟩⟩
      | some x =>
        rw [eh] at htd
        obtain ⟨tt, rfl, htt⟩ := htd
        refine ⟨_, rfl, rfl, _, rfl, iteT ⟨.ref tt, rfl, tt, _, rfl, .inl (.inl htt), rfl, _, _, rfl, _, _, rfl, rfl, ?_⟩⟩
        obtain ⟨x1, x2⟩ := x
        have e12 := s12 _ _ e1
        have hgv2 := hgv.same s12
        have hx2 : x2 = [] ∨ x2 = [b] := hear_new eh
        have put : ∀ (H3 : Hp) (gv3 : V) (g3 : Gp) (t3 : Addr), Same H2 H3 → GapAt H3 gv3 g3 → H3 t3 = none → gapNew hw g x2 = g3 →
            Same H (upd (upd H3 t3 (.tup [.str (WS x1), .int 0, gv3, .str (WS (rd ++ x2))])) lf (.lst ([] ++ [V.ref t3]))) ∧ (upd (upd H3 t3 (.tup [.str (WS x1), .int 0, gv3, .str (WS (rd ++ x2))])) lf (.lst ([] ++ [V.ref t3]))) lf = some (.lst [V.ref t3]) ∧
            Paired (EarAt (upd (upd H3 t3 (.tup [.str (WS x1), .int 0, gv3, .str (WS (rd ++ x2))])) lf (.lst ([] ++ [V.ref t3])))) [V.ref t3] [(x1, 0, gapNew hw g x2, rd ++ x2)] := by
          intro H3 gv3 g3 t3 s3 hg3 ht3 eg
          have n1 : t3 ≠ lf := fun z => by
            rw [z, s3 _ _ el2] at ht3
            cases ht3
          refine ⟨same_upd ((s12.trans s3).trans (same_new ht3)) hlf, upd_same, .cons ⟨t3, gv3, rfl, by rw [upd_ne n1, upd_same]; rfl, ?_⟩ .nil⟩
          rw [eg]
          obtain ⟨tg, rfl, htg⟩ := hg3
          have n2 : tg ≠ lf := fun z => by
            rw [z, s3 _ _ el2] at htg
            cases htg
          exact ⟨tg, rfl, by rw [upd_ne n2]; exact (same_new ht3) _ _ htg⟩
        refine ⟨.ref lf, rfl, .inl ⟨rfl, _, .inl (.inl el2)⟩, .str (WS x1), rfl, .str (WS x2), rfl, rfl, _, rfl, ?_⟩
        rcases hx2 with rfl | rfl
        · refine (if_neg (by rw [decide_eq_true (show V.str (WS []) = V.str "" by rw [WS_nil])]; simp)).mpr ⟨gv, rfl, .str (WS rd), rfl, .str (WS []), rfl, _, _, rfl, rfl, cat_len5 _ _ (by show _ + 0 ≤ 100000; omega), by show 4 ≤ sizeLine; decide, fun t3 ht3 => ?_⟩
          rw [WS_cat]
          obtain ⟨p1, p2, p3⟩ := put H2 gv g t3 (Same.refl _) hgv2 ht3 rfl
          exact ⟨lf, [], _, rfl, rfl, (same_new ht3) _ _ el2, by decide, _, _, _, _, rfl, p1, p2, p3⟩
        · have hne : decide (V.str (WS [b]) = V.str "") = false := by
            rw [← WS_nil, eqS]
            exact decide_eq_false (fun z => by cases z)
          refine (if_pos (by rw [hne]; rfl)).mpr ⟨.ref p, rfl, p, dx, fs, rfl, e12, hgb, gv, rfl, .str (WS [b]), rfl, p, dx, fs, gv, g, hw, 0, 1, b, rfl, e12, hh, hs, hgv2, .inl rfl, gw, hgl, fun H3 gv3 s3 hg3 => ⟨.str (WS rd), rfl, .str (WS [b]), rfl, _, _, rfl, rfl, cat_len5 _ _ (by show _ + 1 ≤ 100000; omega), by show 4 ≤ sizeLine; decide, fun t3 ht3 => ?_⟩⟩
          rw [WS_cat]
          obtain ⟨p1, p2, p3⟩ := put H3 gv3 _ t3 s3 hg3 ht3 rfl
          exact ⟨lf, [], _, rfl, rfl, (same_new ht3) _ _ (s3 _ _ el2), by decide, _, _, _, _, rfl, p1, p2, p3⟩
    · rintro σ' H' ⟨ws, x9, x10, x11, rfl, s13, el3, pa⟩
      have fin : ∀ H4 ws4, Same H H4 → H4 lf = some (.lst ws4) → Paired (EarAt H4) ws4 (earsH hw flag ps hd g rd b ++ earsC hw flag ps hd g rd b) → Q (.ref lf) H4 := fun H4 ws4 s4 e4 p4 => q H4 lf ws4 s4 hlf e4 p4
      have e13 := s13 _ _ e1
      refine ⟨fun σ2 H4 => ∃ ws4 x9 x10 x11, σ2 = [some (.ref p), some (.ref t), some (.str (WS [b])), some (.str (WS hd)), some (.int cut), some gv, some (.str (WS rd)), some (.str (WS flag)), some (.ref lf), x9, x10, x11] ∧ Same H H4 ∧ H4 lf = some (.lst ws4) ∧
        Paired (EarAt H4) ws4 (earsH hw flag ps hd g rd b ++ earsC hw flag ps hd g rd b), ?_, ?_⟩
      · unfold earsC
        refine ⟨.ref p, rfl, p, C, dx, _, _, rfl, e13, T.cl, T.nH, hh, by show 2 ≤ sizeLine; decide, fun u hu => ⟨u, _, rfl, .inr (.inl (.inl upd_same)), rfl, by decide, _, rfl, ?_⟩⟩
        rw [cuts_in]
        have s3u : Same H' (upd H' u (.tup [.str "cut", .str "any"])) := same_new hu
        revert s3u
        generalize upd H' u _ = H5
        intro s35
        have el5 := s35 _ _ el3
        have s15 := s13.trans s35
        have pa5 := Paired.mono (fun _ _ h => EarAt.same s35 h) pa
        cases hcu : hw.cuts with
        | false => exact iteF (iteF ⟨ws, _, _, _, rfl, s15, el5, by simpa using pa5⟩)
        | true =>
          refine iteT ?_
          have flp : 0 < flag.length := List.length_pos_iff.mpr hf
          obtain ⟨d, hd2, hat⟩ := at_WS flag (i := 0) (by decide) (by exact flp)
          have hd2 : flag[0]? = some d := hd2
          have same0 : ∀ H6, Same H5 H6 → Paired (EarAt H6) ws (earsH hw flag ps hd g rd b ++ []) := fun H6 s6 => by
            rw [List.append_nil]
            exact Paired.mono (fun _ _ h => EarAt.same s6 h) pa5
          refine ⟨.str (WS [b]), rfl, .str (WS flag), rfl, WS flag, 0, cd d, rfl, rfl, ls_len5 flag (by omega), hat, rfl, _, rfl, ?_⟩
          rw [show (⟨#[cd d]⟩ : Str) = WS [d] from rfl, eqS]
          by_cases ebd : b = d
          · refine (if_pos (decide_eq_true (by rw [ebd]))).mpr ⟨.ref p, rfl, p, C, dx, _, _, rfl, s15 _ _ e1, T.cl, T.nR, hrp, .str (WS hd), rfl, rp, flag, ps, hd, rfl, rl.same s15, hf, hfl, by omega, fun H6 s56 => ⟨_, rfl, ?_⟩⟩
            have s16 := s15.trans s56
            have el6 := s56 _ _ el5
            cases hce : canEnd flag ps hd with
            | false =>
              refine iteF ⟨ws, _, _, _, rfl, s16, el6, ?_⟩
              rw [if_neg (fun z => by cases z.2.2)]
              exact same0 H6 s56
            | true =>
              refine iteT ⟨.ref lf, rfl, .inl ⟨rfl, _, .inl (.inl el6)⟩, .ref p, rfl, p, dx, fs, rfl, s16 _ _ e1, hs, gv, rfl, p, dx, fs, gv, g, hw, 1, rfl, s16 _ _ e1, hh, hgv.same s16, fun H7 gv7 s67 hg7 => ⟨.str (WS rd), rfl, by show 4 ≤ sizeLine; decide, fun t8 ht8 => ?_⟩⟩
              have el7 := s67 _ _ el6
              have n1 : t8 ≠ lf := fun z => by
                rw [z, el7] at ht8
                cases ht8
              obtain ⟨tg, rfl, htg⟩ := hg7
              have n2 : tg ≠ lf := fun z => by
                rw [z, el7] at htg
                cases htg
              have hwl : ws.length ≤ 1 := by
                rw [pa.length]
                exact earsH_le _ _ _ _ _ _ _
              refine ⟨lf, ws, _, rfl, rfl, (same_new ht8) _ _ el7, small1000 (by omega), ws ++ [.ref t8], _, _, _, rfl, same_upd ((s16.trans s67).trans (same_new ht8)) hlf, upd_same, ?_⟩
              rw [if_pos ⟨rfl, by rw [hd2, ebd], rfl⟩]
              refine ND.paired_snoc ⟨t8, .ref tg, rfl, by rw [upd_ne n1, upd_same]; rfl, tg, rfl, by rw [upd_ne n2]; exact (same_new ht8) _ _ htg⟩ (Paired.mono (fun _ _ h => EarAt.tups (fun a xs ea => ?_) h) pa5)
              have n3 : a ≠ lf := fun z => by
                rw [z, el5] at ea
                cases ea
              rw [upd_ne n3]
              exact (same_new ht8) _ _ (s67 _ _ (s56 _ _ ea))
          · refine (if_neg (by rw [decide_eq_false (show ¬ [b] = [d] from fun z => ebd (by cases z; rfl))]; simp)).mpr (iteF ⟨ws, _, _, _, rfl, s15, el5, ?_⟩)
            rw [if_neg (fun z => ebd (by have := z.2.1; rw [hd2] at this; cases this; rfl))]
            exact same0 H5 (Same.refl _)
      · rintro σ2 H4 ⟨ws4, y9, y10, y11, rfl, s4, e4, p4⟩
        exact ⟨.ref lf, rfl, fin H4 ws4 s4 e4 p4⟩

abbrev s_Netarrived : Stmt := (inClass (topS 30) 7)
theorem sc_Netarrived : FnScope ["self", "ear", "bits", "ears", "bit", "before", "behind"] ["self", "ear", "bits"] (fnScope s_Netarrived) := fnScope_by (by decide +kernel)
theorem ok_arrived {C CRule f : Addr} {fd : FuncData} (F : C8.Fun K "_arrived" "Net._arrived" s_Netarrived f fd) (M : Mg mg) (T : NtT K C) (m__ears_behind : Met P w K mg base 4 C "_ears_behind" (spEarsB C CRule) []) : FnOk P w K mg base CX0 5 f fd ["self", "ear", "bits"] (spArrE C CRule) := by
  refine fn0 F sc_Netarrived (fun vs H Q E h => ?_) (fun cdv A outer s H vs Q E hr h => ?_)
  · obtain ⟨p, dx, rp, fs, v, e, hw, bits, flag, ps, n, rfl, _⟩ := h
    rfl
  · obtain ⟨p, dx, rp, fs, v, e, hw, bits, flag, ps, n, rfl, e1, hh, hs, hgb, heb, hrp, rl, hf, hfl, hpl, hp9, hear, eok, hn, hb, q⟩ := h
    refine ⟨_, (pss_cons (ps_set (i := 3) sc_Netarrived.nd rfl (Or.inl rfl) (pe_lst (pa_cons (pv 1) pa_nil)))
        (pss_cons (ps_for PassesOwn.never rfl (pi_str (pv 2)) (pg_name (i := 4) sc_Netarrived.nd rfl (Or.inr rfl))
          (pss_one (ps_setLc2 (i := 3) (own := [("before", 5), ("behind", 6)]) (vs1 := [6]) (g := (gName 5)) (g1 := (gName 6)) rfl sc_Netarrived.nd rfl rfl (sw_true rfl rfl rfl (by decide +kernel)) (pi_list (pv 3)) (blkOk_by (N := ["self", "ear", "bits", "ears", "bit", "before", "behind"]) (sc := fnScope s_Netarrived) (by decide +kernel)) (by decide) (fun _ _ _ _ _ => (pg_name (i := 5) sc_Netarrived.nd rfl (Or.inl rfl))) (fun _ _ _ _ _ => pts_nil) (fun _ _ _ _ _ => (pi_listK K rfl (pe_mt m__ears_behind hr (by decide) (pv 0) (pa_cons (pv 5) (pa_cons (pv 4) pa_nil))))) (fun _ _ _ _ _ => (pg_name (i := 6) sc_Netarrived.nd rfl (Or.inl rfl))) (fun _ _ _ _ _ => pts_nil) (fun _ _ _ _ _ => (pv 6)))))
        (pss_one (ps_ret (pv 3))))), ?_⟩
    refine ⟨v, rfl, by show 1 ≤ sizeLine; decide, fun l0 hl0 => ⟨.str (WS bits), rfl, _, rfl, ?_⟩⟩
    refine for_it walk_str (fun i σ H1 => ∃ (l : Addr) (ws : List V) (x4 x5 x6 : Option V), σ = [some (.ref p), some v, some (.str (WS bits)), some (.ref l), x4, x5, x6] ∧ Same H H1 ∧ H l = none ∧ H1 l = some (.lst ws) ∧ Paired (EarAt H1) ws (arrE hw flag ps (bits.take i) [e]))
      ⟨l0, [v], _, _, _, rfl, same_new hl0, hl0, upd_same, .cons (hear.same (same_new hl0)) .nil⟩ (fun _ _ _ _ _ => trivial) (fun i x σ H1o H1 hi hp hy => ?_) (fun σ H1 hp => ?_)
    · obtain ⟨rfl, c, hc, rfl⟩ := hy
      obtain ⟨l, ws, x4, x5, x6, rfl, s1, nl, el, pa⟩ := hp
      obtain ⟨b, hb2, hcb⟩ : ∃ b, bits[i]? = some b ∧ (⟨#[c]⟩ : Str) = WS [b] := bit_at hc
      rw [hcb]
      have hi2 : i < bits.length := (List.getElem?_eq_some_iff.mp hb2).1
      have hti : (bits.take i).length = i := by rw [List.length_take]; omega
      have oks := arrE_ok (hw := hw) hf hfl hp9 (bits.take i) (n := n) (es := [e]) (fun e' he' => by rw [List.mem_singleton.mp he']; exact eok)
      rw [hti] at oks
      have hlen := arrE_len (hw := hw) (flag := flag) (ps := ps) (bits.take i) [e]
      rw [hti] at hlen
      have h8 : 2 ^ i ≤ 2 ^ 3 := Nat.pow_le_pow_right (by decide) (by omega)
      have hlen8 : (arrE hw flag ps (bits.take i) [e]).length ≤ 8 := by
        rw [show [e].length = 1 from rfl, Nat.mul_one] at hlen
        exact Nat.le_trans hlen h8
      have hsn : arrE hw flag ps (bits.take (i + 1)) [e] = (arrE hw flag ps (bits.take i) [e]).flatMap fun e => earsB hw flag ps e b := by rw [take_sn hb2, arrE_snoc]
      rw [hsn]
      revert pa oks hlen8
      generalize arrE hw flag ps (bits.take i) [e] = es
      intro pa oks hlen8
      refine ⟨.ref l, rfl, l, rfl, ⟨_, .inl (.inl el)⟩, fun D hD => ?_⟩
      refine outer_it (walk_list (K := K) (a := l) (xs := ws)) (fun j H2 => Same H1 H2 ∧ ∃ zs, H2 D = some (.lst zs) ∧ Paired (EarAt H2) zs ((es.take j).flatMap fun e => earsB hw flag ps e b)) ⟨same_new hD, [], upd_same, .nil⟩ (fun j H2 _ h => .inl (.inl (h.1 _ _ el))) (fun j y H2o H2 hj hp hy => ?_) (fun H2 hp => ?_)
      · obtain ⟨rfl, hy⟩ := hy
        obtain ⟨s2, zs, eD, pz⟩ := hp
        obtain ⟨r, hr, hyr⟩ := paired_getE pa hy
        have ok := oks r (List.mem_of_getElem? hr)
        have s12 := s1.trans s2
        refine ⟨rfl, .ref p, rfl, p, dx, fs, rfl, s12 _ _ e1, heb, y, rfl, .str (WS [b]), rfl, p, dx, rp, fs, y, r, hw, b, flag, ps, rfl, s12 _ _ e1, hh, hs, hgb, hrp, rl.same s12, hf, hfl, hpl, hp9, hyr.same s2, ok.hd, ok.cut, ok.gw, (by have := ok.gap; omega), (by have := ok.rd; omega), fun H3 l3 ws3 s3 nl3 el3 pa3 => ?_⟩
        have n3 : l3 ≠ D := fun z => by
          rw [z, eD] at nl3
          cases nl3
        have hjl : j < 8 := by
          have h1 := pa.length
          have h2 := (List.getElem?_eq_some_iff.mp hr).1
          omega
        have hzl : zs.length ≤ 2 * 8 := by
          rw [pz.length]
          refine Nat.le_trans (flat_two _) ?_
          rw [List.length_take]
          omega
        have hwl : ws3.length ≤ 2 := by
          rw [pa3.length]
          exact earsB_two _ _ _ _ _
        refine ⟨l3, rfl, ⟨ws3, .inl (.inl el3)⟩, inner_it (walk_list (K := K) (a := l3) (xs := ws3)) (fun k H4 => Same H1 H4 ∧ H4 D = some (.lst (zs ++ ws3.take k)) ∧ H4 l3 = some (.lst ws3) ∧ ∀ a xs, H3 a = some (.tup xs) → H4 a = some (.tup xs))
          ⟨s2.trans s3, by rw [List.take_zero, List.append_nil]; exact s3 _ _ eD, el3, fun _ _ h => h⟩ (fun k H4 _ h => .inl (.inl h.2.2.1)) (fun k y2 H4o H4 hk hp hy2 => ?_) (fun H4 hp => ?_)⟩
        · obtain ⟨rfl, hy2⟩ := hy2
          obtain ⟨s4, eD4, el4, tu⟩ := hp
          have hk2 : k < 2 := by
            have h1 : k < ws3.length := hk
            omega
          refine ⟨rfl, y2, rfl, _, eD4, ?_, ?_, ?_, ?_, ?_⟩
          · rw [List.length_append, List.length_take]
            exact small1000 (by omega)
          · exact fun a o ha => by
              rw [upd_ne (ne_of_none ha hD)]
              exact s4 _ _ ha
          · rw [upd_same, take_sn hy2, List.append_assoc]
          · rw [upd_ne n3]
            exact el4
          · intro a xs ha
            have na : a ≠ D := fun z => by
              rw [z, s3 _ _ eD] at ha
              cases ha
            rw [upd_ne na]
            exact tu a xs ha
        · obtain ⟨s4, eD4, el4, tu⟩ := hp
          rw [List.take_length] at eD4
          refine ⟨s4, _, eD4, ?_⟩
          rw [take_sn hr, List.flatMap_append, List.flatMap_cons, List.flatMap_nil, List.append_nil]
          exact paired_app (Paired.mono (fun _ _ h => EarAt.tups tu (EarAt.same s3 h)) pz) (Paired.mono (fun _ _ h => EarAt.tups tu h) pa3)
      · obtain ⟨s2, zs, eD, pz⟩ := hp
        rw [pa.length, List.take_length] at pz
        exact ⟨D, zs, _, _, _, rfl, s1.trans s2, s1.free hD, eD, pz⟩
    · obtain ⟨l, ws, x4, x5, x6, rfl, s1, nl, el, pa⟩ := hp
      rw [WS_size, List.take_length] at pa
      exact ⟨.ref l, rfl, q H1 l ws s1 nl el pa⟩

abbrev s_Netnumber : Stmt := (inClass (topS 30) 4)
theorem sc_Netnumber : FnScope ["self", "place"] ["self", "place"] (fnScope s_Netnumber) := fnScope_by (by decide +kernel)
theorem ok_number {C f : Addr} {fd : FuncData} (F : C8.Fun K "_number" "Net._number" s_Netnumber f fd) (M : Mg mg) (T : NtT K C) : FnOk P w K mg base CX0 1 f fd ["self", "place"] (spNumber P w C) := by
  refine fn0 F sc_Netnumber (fun vs H Q E h => ?_) (fun cdv A outer s H vs Q E hr h => ?_)
  · obtain ⟨p, dx, d, lp, fs, v, x, as, L, rfl, _⟩ := h
    rfl
  · obtain ⟨p, dx, d, lp, fs, v, x, as, L, rfl, e1, hN, hP, na, hpl, hz, q⟩ := h
    refine ⟨_, (C8.pss_cut (ps_if (pt_cmp (ND.pc_nnotin (ND.hu9 hr) (pv 1) (pe_fld (pv 0) rfl)))
          (pss_cons (ND.ps_nput (ND.hu9 hr) (pe_fld (pv 0) rfl) (pv 1) (pe_callB call_len_seq (by rfl) M.len PySem.boot_len (pa_cons (pe_fld (pv 0) rfl) pa_nil)) rfl)
            (pss_one (ps_expr (pe_bm PySem.F.plainAttrs_list PySem.F.slot_list_append PySem.F.type_list_append mt_append (pe_fld (pv 0) rfl) (pa_cons (pv 1) pa_nil)))))
          pss_nil)
        (pss_one (ps_ret (ND.pe_nget (ND.hu9 hr) (pe_fld (pv 0) rfl) (pv 1) (fun _ _ => rfl))))), ?_⟩
    obtain ⟨t, gv, rfl, ht, g, hgv, hg⟩ := id hpl
    have hel := entsN_len 0 na.len
    have ndl : lp ≠ d := fun z => by
      have h1 := na.lst
      rw [z, na.nd.1] at h1
      cases h1
    have npd : p ≠ d := fun z => by
      have h1 := e1
      rw [z, na.nd.1] at h1
      cases h1
    have npl : p ≠ lp := fun z => by
      have h1 := e1
      rw [z, na.lst] at h1
      cases h1
    refine ⟨fun σ' H' => σ' = [some (.ref p), some (.ref t)] ∧ But2 d lp H H' ∧ H' p = some (.ins C dx fs) ∧ PlAt H' (.ref t) x ∧ ∃ as', NumAt P w H' d lp as' (addL L x), ?_, ?_⟩
    · refine ⟨.ref t, rfl, .ref p, rfl, p, C, dx, _, _, rfl, e1, T.cl, T.nN, hN, d, t, _, plKey x, rfl, rfl, na.nd, plKey_depth x, hpl.key, ?_⟩
      rw [nd_num 0 na.len]
      cases hn : numL L x with
      | some i => exact ⟨_, rfl, iteF ⟨rfl, fun _ _ _ _ h => h, e1, hpl, as, by unfold addL; rw [if_neg (by rw [hn]; intro z; cases z)]; exact na⟩⟩
      | none =>
        refine ⟨_, rfl, iteT ?_⟩
        have hev : ND.ndPut (entsN 0 as L) (plKey x) t (V.int (((as.map V.ref).length : Nat) : Int)) = entsN 0 (as ++ [t]) (L ++ [x]) := by
          rw [ND.ndPut_new (by rw [nd_num 0 na.len, hn]; rfl), entsN_snoc 0 na.len, List.length_map, na.len, Nat.zero_add]
        have np := na.nd.put (b := t) (v := V.int (((as.map V.ref).length : Nat) : Int)) (plKey_depth x) hpl.key
        rw [hev] at np
        refine ⟨.ref p, rfl, p, C, dx, _, _, rfl, e1, T.cl, T.nP, hP, lp, _, rfl, .inl (.inl (.inl na.lst)), .ref p, rfl, p, C, dx, _, _, rfl, e1, T.cl, T.nN, hN, .ref t, rfl, d, t, _, plKey x, rfl, rfl, na.nd, plKey_depth x, hpl.key, by rw [hel]; exact hz, ?_⟩
        rw [hev]
        have t2 : ∀ a xs, H a = some (.tup xs) → (upd H d (ND.NdO P w d (entsN 0 (as ++ [t]) (L ++ [x])))) a = some (.tup xs) := fun a xs ha => by
          rw [upd_ne (ne_of ha na.nd.1 ND.nd_ne_tup)]
          exact ha
        have elp : (upd H d (ND.NdO P w d (entsN 0 (as ++ [t]) (L ++ [x])))) lp = some (.lst (as.map V.ref)) := by rw [upd_ne ndl]; exact na.lst
        have ep2 : (upd H d (ND.NdO P w d (entsN 0 (as ++ [t]) (L ++ [x])))) p = some (.ins C dx fs) := by rw [upd_ne npd]; exact e1
        have b1 : But2 d lp H (upd H d (ND.NdO P w d (entsN 0 (as ++ [t]) (L ++ [x])))) := fun a o h1 h2 h3 => by rw [upd_ne h1]; exact h3
        have t3 : ∀ a xs, (upd H d (ND.NdO P w d (entsN 0 (as ++ [t]) (L ++ [x])))) a = some (.tup xs) → (upd (upd H d (ND.NdO P w d (entsN 0 (as ++ [t]) (L ++ [x])))) lp (.lst (as.map V.ref ++ [V.ref t]))) a = some (.tup xs) := fun a xs ha => by
          have n : a ≠ lp := fun z => by
            rw [z, elp] at ha
            cases ha
          rw [upd_ne n]
          exact ha
        refine ⟨.ref p, rfl, p, C, dx, _, _, rfl, ep2, T.cl, T.nP, hP, .inl ⟨rfl, _, .inl (.inl elp)⟩, .ref t, rfl, lp, _, _, rfl, rfl, elp, by rw [List.length_map, na.len]; exact hz, rfl, fun a o h1 h2 h3 => by rw [upd_ne h2]; exact b1 a o h1 h2 h3, by rw [upd_ne npl]; exact ep2, (hpl.tups t2).tups t3, as ++ [t], ?_⟩
        unfold addL
        rw [if_pos hn]
        refine ⟨by rw [List.length_append, List.length_append, na.len]; rfl, by rw [upd_same, List.map_append]; rfl, ?_, ?_⟩
        · exact ND.paired_snoc (F := fun (a : Addr) x => PlAt _ (.ref a) x) ((hpl.tups t2).tups t3) (Paired.mono (F' := fun (a : Addr) x => PlAt _ (.ref a) x) (fun _ _ h => (PlAt.tups t2 h).tups t3) na.pl)
        · exact ⟨by rw [upd_ne (Ne.symm ndl)]; exact np.1, fun e he => ⟨(np.2 e he).1, (np.2 e he).2.tups t3⟩⟩
    · rintro σ' H' ⟨rfl, b2, e1', hp', as', na'⟩
      obtain ⟨i, hi⟩ : ∃ i, numL (addL L x) x = some i := by
        unfold addL
        cases hn : numL L x with
        | none => rw [if_pos rfl]; exact ⟨_, numL_new hn⟩
        | some i => rw [if_neg (by intro z; cases z)]; exact ⟨i, hn⟩
      refine ⟨.ref p, rfl, p, C, dx, _, _, rfl, e1', T.cl, T.nN, hN, .ref t, rfl, d, t, _, plKey x, .int (i : Nat), rfl, rfl, na'.nd, plKey_depth x, hp'.key, ?_, q H' as' i b2 na' hi⟩
      rw [nd_num 0 na'.len, hi]
      show some (V.int ((0 + i : Nat) : Int)) = _
      rw [Nat.zero_add]

abbrev s_Net_used : Stmt := (inClass (topS 30) 1)
theorem sc_Net_used : FnScope ["self", "number"] ["self", "number"] (fnScope s_Net_used) := fnScope_by (by decide +kernel)
theorem ok_used {C f : Addr} {fd : FuncData} (F : C8.Fun K "used" "Net.used" s_Net_used f fd) (M : Mg mg) (T : NtT K C) : FnOk P w K mg base CX0 1 f fd ["self", "number"] (spUsed C) := by
  refine fn0 F sc_Net_used (fun vs H Q E h => ?_) (fun cdv A outer s H vs Q E hr h => ?_)
  · obtain ⟨p, dx, lp, fs, as, L, i, x, rfl, _⟩ := h
    rfl
  · obtain ⟨p, dx, lp, fs, as, L, i, x, rfl, e1, hP, hl, el, pl, hx, q⟩ := h
    refine ⟨_, (pss_one (ps_ret (pe_ix (r := rIxT K) ix_tup (pe_ix (r := rIxL K) ix_list (pe_fld (pv 0) rfl) (pv 1) (fun _ _ => rfl)) pe_int (fun _ _ => rfl)))), ?_⟩
    obtain ⟨a, ha, t, gv, ea, ht, hg⟩ := paired_getR pl hx
    cases ea
    exact ⟨.ref p, rfl, p, C, dx, _, _, rfl, e1, T.cl, T.nP, hP, .int (i : Nat), rfl, lp, _, i, _, rfl, rfl, .inl (.inl el), at_ref ha, a, _, 4, _, rfl, rfl, .inl (.inl ht), rfl, q⟩
abbrev s_Net_is_end : Stmt := (inClass (topS 30) 2)
theorem sc_Net_is_end : FnScope ["self", "number", "sent", "heard", "cut", "shift", "waiting", "used", "flag", "is_unlike"] ["self", "number"] (fnScope s_Net_is_end) := fnScope_by (by decide +kernel)
theorem ok_is_end {C CRule f : Addr} {fd : FuncData} (F : C8.Fun K "is_end" "Net.is_end" s_Net_is_end f fd) (M : Mg mg) (T : NtT K C) (TR : RlT K CRule) (c_can_end : Cal P w K mg base 3 "can_end" (spCanEnd CRule) []) : FnOk P w K mg base CX0 4 f fd ["self", "number"] (spIsEndU C CRule) := by
  refine fn0 F sc_Net_is_end (fun vs H Q E h => ?_) (fun cdv A outer s H vs Q E hr h => ?_)
  · obtain ⟨p, dx, lp, rp, fs, as, L, i, x, hw, flag, ps, rfl, _⟩ := h
    rfl
  · obtain ⟨p, dx, lp, rp, fs, as, L, i, ⟨sn, hd, cut, ⟨sh, wt⟩, us⟩, hw, flag, ps, rfl, e1, hP, hR, hh, rl, hf, hfl, hhl, hl, el, pl, hx, q⟩ := h
    refine ⟨_, (pss_cons (ps_asg (pe_ix (r := rIxL K) ix_list (pe_fld (pv 0) rfl) (pv 1) (fun _ _ => rfl)) (pg_tup rfl (pgs_cons (pg_name (i := 2) sc_Net_is_end.nd rfl (Or.inl rfl)) (pgs_cons (pg_name (i := 3) sc_Net_is_end.nd rfl (Or.inl rfl)) (pgs_cons (pg_name (i := 4) sc_Net_is_end.nd rfl (Or.inl rfl)) (pgs_cons (pg_tup rfl (pgs_cons (pg_name (i := 5) sc_Net_is_end.nd rfl (Or.inl rfl)) (pgs_cons (pg_name (i := 6) sc_Net_is_end.nd rfl (Or.inl rfl)) pgs_nil))) (pgs_cons (pg_name (i := 7) sc_Net_is_end.nd rfl (Or.inl rfl)) pgs_nil)))))))
        (pss_cons (ps_set (i := 8) sc_Net_is_end.nd rfl (Or.inl rfl) (pe_fld (pe_fld (pv 0) rfl) rfl))
        (pss_cons (ps_set (i := 9) sc_Net_is_end.nd rfl (Or.inl rfl) (pe_or (pe_cmpR op_ne (pv 5) pe_int (nomark _)) (pe_one (pe_cmpR op_isN (pv 6) pe_non (nomark _)))))
        (pss_cons (ps_if (pt_cmpR op_gt (pv 4) pe_int (nomark _))
          (pss_one (ps_ret (pe_and (pv 9) (pe_one (pe_m1 PySem.F.slot_str_startswith PySem.F.type_str_startswith mt_startswith (pv 8) (pe_slice sl_str (pv 8) (po_some (pv 4)) po_none))))))
          pss_nil)
        (pss_cons (ps_if (pt_not (pt_val (pe_c c_can_end hr (by decide) (by rfl) (pa_cons (pe_fld (pv 0) rfl) (pa_cons (pv 3) pa_nil)))))
          (pss_one (ps_ret pe_bl))
          pss_nil)
        (pss_cons (ps_if (pt_cmpR op_eq (pe_fld (pv 0) rfl) pe_str (nomark _))
          (pss_one (ps_ret (pe_and (pe_cmpR op_eq (pv 5) pe_int (nomark _)) (pe_one (pv 9)))))
          pss_nil)
        (pss_one (ps_ret (pe_and (pe_cmpR op_ne (pe_fld (pv 0) rfl) pe_str (nomark _)) (pe_one (pe_ifExp (pt_cmpR op_eq (pe_fld (pv 0) rfl) pe_str (nomark _)) (pe_cmpR op_ne (pv 5) pe_int (nomark _)) (pv 9)))))))))))), ?_⟩
    obtain ⟨a, ha, t, gv, ea, ht, tg, rfl, htg⟩ := paired_getR pl hx
    cases ea
    obtain ⟨dr, tr, xr, er, fr, gr⟩ := id rl
    refine ⟨.ref p, rfl, p, C, dx, _, _, rfl, e1, T.cl, T.nP, hP, .int (i : Nat), rfl, lp, _, i, _, rfl, rfl, .inl (.inl el), at_ref ha, a, _, rfl, .inl (.inl ht), rfl, _, _, rfl, _, _, rfl, _, _, rfl, _, _, rfl, tg, _, rfl, .inl (.inl htg), rfl, _, _, rfl, _, _, rfl, rfl, _, _, rfl, rfl, ?_⟩
    refine ⟨.ref p, rfl, p, C, dx, _, _, rfl, e1, T.cl, T.nR, hR, rp, CRule, dr, _, _, rfl, er, TR.cl, TR.nF, rlf_flag flag tr, ?_⟩
    dsimp only [gName, List.set, L2.start] at hhl ⊢
    refine te_cont (te := tOrV _ _) (fun v H' => v = .bl (unlike (sh, wt)) ∧ H' = H) (fun Q' hQ => ?_) (fun v H' hv => ?_)
    · refine ⟨.int sh, rfl, rfl, _, rfl, ?_⟩
      unfold unlike at hQ
      dsimp only at hQ
      by_cases e0 : sh = 0
      · subst e0
        refine (if_neg (by simp)).mpr ⟨_, rfl, rfl, hQ _ _ ⟨?_, rfl⟩⟩
        cases wt <;> rfl
      · refine (if_pos (by simp; omega)).mpr (hQ _ _ ⟨?_, rfl⟩)
        rw [decide_eq_true e0]
        rfl
    obtain ⟨rfl, rfl⟩ := hv
    unfold endB at q
    dsimp only at q
    refine ⟨.int cut, rfl, _, _, rfl, rfl, _, rfl, ?_⟩
    by_cases c0 : 0 < cut
    · rw [if_pos c0] at q
      refine (if_pos (decide_eq_true (by omega))).mpr ⟨.bl (unlike (sh, wt)), rfl, unlike (sh, wt), rfl, ?_⟩
      cases hu : unlike (sh, wt) with
      | false =>
        rw [hu] at q
        exact (if_neg (by simp)).mpr (q _ (Same.refl _))
      | true =>
        rw [hu] at q
        refine (if_pos rfl).mpr ⟨.str (WS flag), rfl, ⟨_, rfl⟩, .str (WS flag), rfl, .int cut, rfl, _, rfl, _, rfl, ls_len5 flag (by omega), _, _, rfl, rfl, ?_⟩
        rw [cut_from _ (by omega), starts_WS, Int.toNat_natCast]
        exact q _ (Same.refl _)
    rw [if_neg c0] at q
    refine (if_neg (by simp; omega)).mpr ?_
    refine ⟨.ref p, rfl, p, C, dx, _, _, rfl, e1, T.cl, T.nR, hR, .str (WS hd), rfl, rp, flag, ps, hd, rfl, rl, hf, hfl, by omega, fun H2 s2 => ⟨_, rfl, ?_⟩⟩
    cases hce : canEnd flag ps hd with
    | false =>
      rw [hce, if_pos rfl] at q
      exact iteT (q _ s2)
    | true =>
      rw [hce, if_neg (by simp)] at q
      refine iteF ⟨.ref p, rfl, p, C, dx, _, _, rfl, s2 _ _ e1, T.cl, T.nH, hh, rfl, _, rfl, ?_⟩
      cases hw with
      | same =>
        refine (if_pos (by decide +kernel)).mpr ⟨.int sh, rfl, rfl, _, rfl, ?_⟩
        by_cases e0 : sh = 0
        · subst e0
          exact (if_pos (by simp)).mpr ⟨.bl _, rfl, by simpa using q _ s2⟩
        · refine (if_neg (by simp; omega)).mpr ?_
          have := q _ s2
          rw [decide_eq_false e0] at this
          exact this
      | shift =>
        refine (if_neg (by decide +kernel)).mpr ⟨.ref p, rfl, p, C, dx, _, _, rfl, s2 _ _ e1, T.cl, T.nH, hh, rfl, _, rfl, ?_⟩
        refine (if_pos (by decide +kernel)).mpr ⟨.ref p, rfl, p, C, dx, _, _, rfl, s2 _ _ e1, T.cl, T.nH, hh, rfl, _, rfl, ?_⟩
        refine (if_pos (by decide +kernel)).mpr ⟨.int sh, rfl, rfl, ?_⟩
        have h2 : (!decide (V.int sh = V.int 0)) = decide (sh ≠ 0) := by
          by_cases e0 : sh = 0
          · subst e0
            rfl
          · rw [decide_eq_true e0, decide_eq_false (fun z => e0 (by cases z; rfl))]
            rfl
        show Q (V.bl (!decide (V.int sh = V.int 0))) H2
        rw [h2]
        exact q _ s2
      | cut =>
        refine (if_neg (by decide +kernel)).mpr ⟨.ref p, rfl, p, C, dx, _, _, rfl, s2 _ _ e1, T.cl, T.nH, hh, rfl, _, rfl, ?_⟩
        exact (if_neg (by decide +kernel)).mpr (q _ s2)
      | any =>
        refine (if_neg (by decide +kernel)).mpr ⟨.ref p, rfl, p, C, dx, _, _, rfl, s2 _ _ e1, T.cl, T.nH, hh, rfl, _, rfl, ?_⟩
        refine (if_pos (by decide +kernel)).mpr ⟨.ref p, rfl, p, C, dx, _, _, rfl, s2 _ _ e1, T.cl, T.nH, hh, rfl, _, rfl, ?_⟩
        exact (if_neg (by decide +kernel)).mpr ⟨.bl _, rfl, q _ s2⟩

abbrev s_Netheard_of : Stmt := (inClass (topS 30) 6)
theorem sc_Netheard_of : FnScope ["self", "bits", "ear", "used", "ways", "at", "bit", "behind", "before", "hits", "now", "kind", "more"] ["self", "bits", "ear", "used"] (fnScope s_Netheard_of) := fnScope_by (by decide +kernel)
theorem ok_heard_of {C CRule f : Addr} {fd : FuncData} (F : C8.Fun K "_heard_of" "Net._heard_of" s_Netheard_of f fd) (M : Mg mg) (T : NtT K C) (m__arrived : Met P w K mg base 5 C "_arrived" (spArrE C CRule) []) (c_arriving : Cal P w K mg base 2 "arriving" spArriving []) : FnOk P w K mg base CX0 6 f fd ["self", "bits", "ear", "used"] (spHeardOf K C CRule) := by
  refine fn0 F sc_Netheard_of (fun vs H Q E h => ?_) (fun cdv A outer s H vs Q E hr h => ?_)
  · obtain ⟨p, dx, rp, kt, lp, d, st, fs, v, e, hw, bits, flag, ps, ks, most, used, n, rfl, _⟩ := h
    rfl
  · obtain ⟨p, dx, rp, kt, lp, d, st, fs, v, e, hw, bits, flag, ps, ks, most, used, n, rfl, e1, nf, rl, ru, hkt, hk3, hear, eok, hn, hb, q⟩ := h
    refine ⟨_, (pss_cons (ps_set (i := 4) sc_Netheard_of.nd rfl (Or.inl rfl) (pe_lst (pa_cons (pe_tup (pa_cons (pv 2) (pa_cons (pe_tup pa_nil) pa_nil))) pa_nil)))
        (pss_cons (ps_for PassesOwn.never rfl (pi_enumS (by rfl) M.enumerate (pa_cons (pv 1) pa_nil)) (pg_tup rfl (pgs_cons (pg_name (i := 5) sc_Netheard_of.nd rfl (Or.inl rfl)) (pgs_cons (pg_name (i := 6) sc_Netheard_of.nd rfl (Or.inl rfl)) pgs_nil)))
          (pss_cons (ps_set (i := 7) sc_Netheard_of.nd rfl (Or.inl rfl) (pe_lst pa_nil))
            (pss_cons (ps_for PassesOwn.never rfl (pi_list (pv 4)) (pg_tup rfl (pgs_cons (pg_name (i := 8) sc_Netheard_of.nd rfl (Or.inl rfl)) (pgs_cons (pg_name (i := 9) sc_Netheard_of.nd rfl (Or.inr rfl)) pgs_nil)))
              (pss_cons (ps_aug (i := 7) sc_Netheard_of.nd rfl (Or.inl rfl) (pe_lc (own := [("now", 10)]) (g := (gName 10)) rfl sc_Netheard_of.nd (pi_list (pe_mt m__arrived hr (by decide) (pv 0) (pa_cons (pv 8) (pa_cons (pv 6) pa_nil)))) (blkOk_by (N := ["self", "bits", "ear", "used", "ways", "at", "bit", "behind", "before", "hits", "now", "kind", "more"]) (sc := fnScope s_Netheard_of) (by decide +kernel)) (fun _ _ _ _ _ => (pg_name (i := 10) sc_Netheard_of.nd rfl (Or.inl rfl))) (fun _ _ _ _ _ => pts_nil) (fun _ _ _ _ _ => (pe_tup (pa_cons (pv 10) (pa_cons (pv 9) pa_nil))))) iop_ext)
                (pss_one (ps_if (pt_cmpR op_lt (pe_op op_add (pv 3) (pe_callB call_len_seq (by rfl) M.len PySem.boot_len (pa_cons (pv 9) pa_nil))) (pe_fld (pv 0) rfl) (nomark _))
                  (pss_one (ps_for PassesOwn.never rfl (pi_tup (pe_fld (pv 0) rfl)) (pg_name (i := 11) sc_Netheard_of.nd rfl (Or.inl rfl))
                      (pss_cons (ps_set (i := 12) sc_Netheard_of.nd rfl (Or.inr rfl) (pe_tup (StX.pa_star (pv 9) (pa_cons (pe_tup (pa_cons (pv 5) (pa_cons (pv 11) pa_nil))) pa_nil))))
                        (pss_one (ps_aug (i := 7) sc_Netheard_of.nd rfl (Or.inl rfl) (pe_lc (own := [("now", 10)]) (g := (gName 10)) rfl sc_Netheard_of.nd (pi_list (pe_mt m__arrived hr (by decide) (pv 0) (pa_cons (pv 8) (pa_cons (pe_c c_arriving hr (by decide) (by rfl) (pa_cons (pv 6) (pa_cons (pv 11) pa_nil))) pa_nil)))) (blkOk_by (N := ["self", "bits", "ear", "used", "ways", "at", "bit", "behind", "before", "hits", "now", "kind", "more"]) (sc := fnScope s_Netheard_of) (by decide +kernel)) (fun _ _ _ _ _ => (pg_name (i := 10) sc_Netheard_of.nd rfl (Or.inl rfl))) (fun _ _ _ _ _ => pts_nil) (fun _ _ _ _ _ => (pe_tup (pa_cons (pv 10) (pa_cons (pv 12) pa_nil))))) iop_ext)))))
                  pss_nil))))
            (pss_one (ps_set (i := 4) sc_Netheard_of.nd rfl (Or.inl rfl) (pv 7))))))
        (pss_one (ps_ret (pv 4))))), ?_⟩
    refine ⟨v, rfl, by show 0 ≤ sizeLine; decide, fun t0 ht0 => ⟨by show 2 ≤ sizeLine; decide, fun t1 ht1 => ⟨by show 1 ≤ sizeLine; decide, fun l0 hl0 => ?_⟩⟩⟩
    have sa := same_new (o := .tup []) ht0
    have sb := same_new (o := .tup [v, .ref t0]) ht1
    have sc := same_new (o := .lst [.ref t1]) hl0
    have s3 := (sa.trans sb).trans sc
    have w0 : WayAt (upd (upd (upd H t0 (.tup [])) t1 (.tup [v, .ref t0])) l0 (.lst [.ref t1])) (.ref t1) (e, []) := ⟨t1, v, .ref t0, rfl, sc _ _ upd_same, hear.same s3, t0, [], rfl, sc _ _ (sb _ _ upd_same), trivial⟩
    have l0n : H l0 = none := (sa.trans sb).free hl0
    refine ⟨.str (WS bits), rfl, WS bits, rfl, ?_⟩
    refine for_it walk_itp (fun i σ H1 => ∃ (l : Addr) (ws : List V) (x5 x6 x7 x8 x9 x10 x11 x12 : Option V), σ = [some (.ref p), some (.str (WS bits)), some v, some (.int (used : Nat)), some (.ref l), x5, x6, x7, x8, x9, x10, x11, x12] ∧ Same H H1 ∧ H l = none ∧ H1 l = some (.lst ws) ∧ Paired (WayAt H1) ws (waysL hw flag ps ks most used 0 (bits.take i) [(e, [])]))
      ⟨l0, [.ref t1], _, _, _, _, _, _, _, _, rfl, s3, l0n, upd_same, .cons w0 .nil⟩ (fun _ _ _ _ _ => trivial) (fun i x σ H1o H1 hi hp hy => ?_) (fun σ H1 hp => ?_)
    · obtain ⟨T1, x', y', rfl, hT1, rfl, gg1, gg2⟩ := hy
      obtain ⟨l, ws, x5, x6, x7, x8, x9, x10, x11, x12, rfl, s1o, nl, elo, pao⟩ := hp
      cases gg1
      unfold sgn at gg2
      obtain ⟨c, hc, rfl⟩ := Option.map_eq_some_iff.mp gg2
      obtain ⟨b, hb2, hcb⟩ : ∃ b, bits[i]? = some b ∧ (⟨#[c]⟩ : Str) = WS [b] := bit_at hc
      rw [hcb]
      have sT := same_new (o := .tup [V.int (i : Nat), V.str (WS [b])]) hT1
      refine ⟨T1, _, rfl, .inl (.inl upd_same), rfl, _, _, rfl, _, _, rfl, rfl, ?_⟩
      have s1 := s1o.trans sT
      have el := sT _ _ elo
      have pa := Paired.mono (fun _ _ h => WayAt.same sT h) pao
      revert s1 el pa
      generalize upd H1o T1 (.tup [V.int (i : Nat), V.str (WS [b])]) = H1
      intro s1 el pa
      clear sT hT1 s1o elo pao gg2
      have hi2 : i < bits.length := (List.getElem?_eq_some_iff.mp hb2).1
      have hti : (bits.take i).length = i := by rw [List.length_take]; omega
      have oks := waysL_ok (hw := hw) (ks := ks) (most := most) (used := used) ru.ne ru.fl ru.p9 (bits.take i) 0 n 0 [(e, [])] (fun x hx => by rw [List.mem_singleton.mp hx]; exact ⟨eok, Nat.le_refl _⟩)
      rw [hti] at oks
      have hlen := waysL_len (hw := hw) (flag := flag) (ps := ps) (most := most) (used := used) hk3 (bits.take i) 0 [(e, [])]
      rw [hti, show [((e, []) : Way)].length = 1 from rfl, Nat.one_mul] at hlen
      have hlen4 : (waysL hw flag ps ks most used 0 (bits.take i) [(e, [])]).length ≤ 16 ^ 4 := Nat.le_trans hlen (Nat.pow_le_pow_right (by decide) (by omega))
      have hsn : waysL hw flag ps ks most used 0 (bits.take (i + 1)) [(e, [])] = (waysL hw flag ps ks most used 0 (bits.take i) [(e, [])]).flatMap (wayB hw flag ps ks most used i b) := by rw [take_sn hb2, waysL_snoc, hti, Nat.zero_add]
      rw [hsn]
      revert pa oks hlen4
      generalize waysL hw flag ps ks most used 0 (bits.take i) [(e, [])] = es
      intro pa oks hlen4
      clear hlen hsn
      refine ⟨by show 0 ≤ sizeLine; decide, fun D hD => ?_⟩
      refine ⟨.ref l, rfl, l, rfl, ⟨_, .inl (.inl (same_new hD _ _ el))⟩, ?_⟩
      refine for_it (walk_list (K := K) (a := l) (xs := ws)) (fun j σ H2 => ∃ (zs : List V) (x8 x9 x10 x11 x12 : Option V), σ = [some (.ref p), some (.str (WS bits)), some v, some (.int (used : Nat)), some (.ref l), some (.int (i : Nat)), some (.str (WS [b])), some (.ref D), x8, x9, x10, x11, x12] ∧ Same H1 H2 ∧ H2 D = some (.lst zs) ∧ Paired (WayAt H2) zs ((es.take j).flatMap (wayB hw flag ps ks most used i b)))
        ⟨[], _, _, _, _, _, rfl, same_new hD, upd_same, .nil⟩ (fun j σ H2 _ h => ?_) (fun j y σ H2o H2 hj hp hy => ?_) (fun σ H2 hp => ?_)
      · obtain ⟨_, _, _, _, _, _, _, h, _⟩ := h
        exact .inl (.inl (h _ _ el))
      · obtain ⟨rfl, hy⟩ := hy
        obtain ⟨zs, x8, x9, x10, x11, x12, rfl, s2, eD, pz⟩ := hp
        obtain ⟨r, hr1, hyr⟩ := paired_getE pa hy
        obtain ⟨tw, ev, hv, rfl, etw, hev, hht⟩ := hyr.same s2
        obtain ⟨ok, okl⟩ := oks r (List.mem_of_getElem? hr1)
        refine ⟨tw, _, rfl, .inl (.inl etw), rfl, _, _, rfl, _, _, rfl, rfl, ?_⟩
        have s12 := s1.trans s2
        have hjl : j < 16 ^ 4 := by
          have h1 := pa.length
          have h2 := (List.getElem?_eq_some_iff.mp hr1).1
          omega
        have hzl : zs.length ≤ 16 ^ 4 * 16 := by
          rw [pz.length]
          refine Nat.le_trans (flat_len (c := 16) fun x _ => wayB_len hk3 x) (Nat.mul_le_mul_right _ ?_)
          rw [List.length_take]
          omega
        -- the bit as it is
        refine ⟨.ref D, rfl, .ref p, rfl, p, dx, fs, rfl, s12 _ _ e1, nf.n4, ev, rfl, .str (WS [b]), rfl, p, dx, rp, fs, ev, r.1, hw, [b], flag, ps, n + 2 * i, rfl, s12 _ _ e1, nf.how, nf.n1, nf.n2, nf.n3, nf.rule, rl.same s12, ru.ne, ru.fl, ru.pl, ru.p9, hev, ok, by omega, by simp, fun H3 la wsa s3 nla ela pal => ?_⟩
        have walen : wsa.length ≤ 4 := by
          rw [pal.length]
          have := wayN_len hw flag ps r.1 (u := [b]) [] (by simp)
          unfold wayN at this
          rw [List.length_map] at this
          exact this
        refine ⟨la, rfl, ⟨wsa, .inl (.inl ela)⟩, fun G hG => ?_⟩
        have eD3 := s3 _ _ eD
        refine lc_it (walk_list (K := K) (a := la) (xs := wsa)) (fun k H4 => Same H3 H4 ∧ ∃ gs, H4 G = some (.lst gs) ∧ Paired (WayAt H4) gs (((arrE hw flag ps [b] [r.1]).take k).map fun e' => (e', r.2))) ⟨same_new hG, [], upd_same, .nil⟩ (fun k H4 _ h => .inl (.inl (h.1 _ _ ela))) (fun k y H4o H4 hk hp hy => ?_) (fun H4 hp => ?_)
        · obtain ⟨rfl, hy⟩ := hy
          obtain ⟨s4, gs, eG, pg⟩ := hp
          obtain ⟨e', he', hye⟩ := paired_getE pal hy
          refine ⟨rfl, y, rfl, hv, rfl, by show 2 ≤ sizeLine; decide, fun tn htn => ?_⟩
          have s5 := same_new (o := .tup [y, hv]) htn
          have gl : gs.length ≤ 4 := by
            rw [pg.length, List.length_map, List.length_take]
            have := pal.length
            omega
          have nG : tn ≠ G := fun z => by
            rw [z, eG] at htn
            cases htn
          have tu : ∀ a xs, upd H4 tn (.tup [y, hv]) a = some (.tup xs) → upd (upd H4 tn (.tup [y, hv])) G (.lst (gs ++ [.ref tn])) a = some (.tup xs) := fun a xs ha => by
            rw [upd_ne]
            · exact ha
            · rintro rfl
              rw [s5 _ _ eG] at ha
              cases ha
          refine ⟨gs, s5 _ _ eG, small1000 (by omega), fun a o ha => ?_, _, upd_same, ?_⟩
          · rw [upd_ne (ne_of_none ha hG)]
            exact s5 _ _ (s4 _ _ ha)
          · rw [take_sn he', List.map_append]
            refine ND.paired_snoc ?_ (Paired.mono (fun _ _ h => (WayAt.same s5 h).tups tu) pg)
            exact ⟨tn, y, hv, rfl, tu _ _ upd_same, ((hye.same s4).same s5).tups tu, ((hht.tups fun a xs ha => s5 _ _ (s4 _ _ (s3 _ _ ha)))).tups tu⟩
        · obtain ⟨s4, gs, eG, pg⟩ := hp
          rw [pal.length, List.take_length] at pg
          have gl : gs.length ≤ 4 := by
            rw [pg.length, List.length_map, ← pal.length]
            exact walen
          refine ⟨D, G, zs, gs, rfl, rfl, s4 _ _ eD3, eG, by show _ ≤ 2 ^ 24; omega, ?_⟩
          have s24 := s3.trans s4
          have s5 : Same H1 (upd H4 D (.lst (zs ++ gs))) := fun a o ha => by
            rw [upd_ne (ne_of_none ha hD)]
            exact s24 _ _ (s2 _ _ ha)
          have tu : ∀ a xs, H4 a = some (.tup xs) → upd H4 D (.lst (zs ++ gs)) a = some (.tup xs) := fun a xs ha => by
            rw [upd_ne]
            · exact ha
            · rintro rfl
              rw [s4 _ _ eD3] at ha
              cases ha
          have tu2 : ∀ a xs, H2 a = some (.tup xs) → upd H4 D (.lst (zs ++ gs)) a = some (.tup xs) := fun a xs ha => tu _ _ (s24 _ _ ha)
          have pz5 : Paired (WayAt (upd H4 D (.lst (zs ++ gs)))) (zs ++ gs) ((es.take j).flatMap (wayB hw flag ps ks most used i b) ++ wayN hw flag ps r.1 [b] r.2) :=
            paired_app (Paired.mono (fun _ _ h => h.tups tu2) pz) (Paired.mono (fun _ _ h => h.tups tu) pg)
          have ev5 := hev.tups tu2
          have hv5 := hht.tups tu2
          have eD5 : upd H4 D (.lst (zs ++ gs)) D = some (.lst (zs ++ gs)) := upd_same
          have zl5 : (zs ++ gs).length ≤ 16 ^ 4 * 16 + 4 := by
            rw [List.length_append]
            omega
          revert s5 pz5 ev5 hv5 eD5 zl5
          generalize zs ++ gs = zs5
          generalize upd H4 D (.lst zs5) = H5
          intro s5 pz5 ev5 hv5 eD5 zl5
          have hmore : (es.take (j + 1)).flatMap (wayB hw flag ps ks most used i b) = (es.take j).flatMap (wayB hw flag ps ks most used i b) ++ wayB hw flag ps ks most used i b r := by rw [take_sn hr1, List.flatMap_append, List.flatMap_cons, List.flatMap_nil, List.append_nil]
          rw [hmore]
          obtain ⟨th, xh, rfl, eth, hts⟩ := hv5
          dsimp only [List.set]
          refine ⟨.int (used : Nat), rfl, .ref th, rfl, th, xh, rfl, .inr (.inl (.inl eth)), _, _, rfl, rfl, .ref p, rfl, p, C, dx, fs, _, rfl, s5 _ _ (s1 _ _ e1), T.cl, T.nM, nf.most, _, _, rfl, rfl, _, rfl, ?_⟩
          have hdec : decide (((used : Nat) : Int) + (xh.length : Nat) < ((most : Nat) : Int)) = decide (used + r.2.length < most) := by
            rw [hts.len]
            exact decide_eq_decide.mpr (by omega)
          rw [hdec]
          by_cases hlt : used + r.2.length < most
          · rw [decide_eq_true hlt]
            refine iteT ?_
            have hwb : wayB hw flag ps ks most used i b r = wayN hw flag ps r.1 [b] r.2 ++ ks.flatMap fun k => wayN hw flag ps r.1 (arrB b (some k)) (r.2 ++ [(i, k)]) := by
              unfold wayB
              rw [if_pos hlt]
            rw [hwb]
            have hk5 : SqT K H5 kt (kdV ks) := SqT.same hkt (fun a o ha => s5 _ _ (s1 _ _ ha))
            refine ⟨.ref p, rfl, p, C, dx, fs, _, rfl, s5 _ _ (s1 _ _ e1), T.cl, T.nK, nf.kinds, kt, rfl, ⟨_, hk5⟩, ?_⟩
            refine for_it (walk_tup (K := K) (a := kt) (xs := kdV ks)) (fun m σ H6 => ∃ (zs : List V) (x10 x11 x12 : Option V), σ = [some (.ref p), some (.str (WS bits)), some v, some (.int (used : Nat)), some (.ref l), some (.int (i : Nat)), some (.str (WS [b])), some (.ref D), some ev, some (.ref th), x10, x11, x12] ∧ Same H1 H6 ∧ H6 D = some (.lst zs) ∧ zs.length ≤ 16 ^ 4 * 16 + 4 + 4 * m ∧
                Paired (WayAt H6) zs (((es.take j).flatMap (wayB hw flag ps ks most used i b) ++ wayN hw flag ps r.1 [b] r.2) ++ (ks.take m).flatMap fun k => wayN hw flag ps r.1 (arrB b (some k)) (r.2 ++ [(i, k)])) ∧ EarAt H6 ev r.1 ∧ H6 th = some (.tup xh) ∧ Hits H6 xh r.2)
              ⟨zs5, _, _, _, rfl, s5, eD5, zl5, by simpa using pz5, ev5, eth, hts⟩ (fun m σ H6 _ h => ?_) (fun m y σ H6o H6 hm hp hy => ?_) (fun σ H6 hp => ?_)
            · obtain ⟨_, _, _, _, _, h, _⟩ := h
              exact SqT.same hkt (fun a o ha => h _ _ (s1 _ _ ha))
            · obtain ⟨rfl, hy⟩ := hy
              obtain ⟨zs6, x10, x11, x12, rfl, s6, eD6, zl6, pz6, ev6, eth6, hts6⟩ := hp
              have hy2 : (ks.map fun k => V.str (kT k))[m]? = some y := hy
              rw [List.getElem?_map] at hy2
              obtain ⟨k, hk, rfl⟩ := Option.map_eq_some_iff.mp hy2
              have hm3 : m < 3 := by
                have := (List.getElem?_eq_some_iff.mp hk).1
                omega
              have rl5 : r.2.length ≤ i := by
                have := okl
                omega
              refine ⟨.ref th, rfl, th, xh, rfl, .inl (.inl (.inl eth6)), .int (i : Nat), rfl, .str (kT k), rfl, by show 2 ≤ sizeLine; decide, fun tk htk => ⟨?_, fun tm htm => ?_⟩⟩
              · show (xh ++ [V.ref tk]).length ≤ sizeLine
                rw [List.length_append, hts6.len]
                exact Nat.le_of_lt (small1000 (by show r.2.length + 1 ≤ 1000; omega))
              have sk := same_new (o := .tup [.int (i : Nat), .str (kT k)]) htk
              have sm := same_new (o := .tup (xh ++ [.ref tk])) htm
              have hmore6 : HtsAt (upd (upd H6 tk (.tup [.int (i : Nat), .str (kT k)])) tm (.tup (xh ++ [.ref tk]))) (.ref tm) (r.2 ++ [(i, k)]) :=
                ⟨tm, _, rfl, upd_same, Hits.snoc (hts6.tups fun a xs ha => sm _ _ (sk _ _ ha)) ⟨tk, rfl, sm _ _ upd_same⟩⟩
              have skm := sk.trans sm
              have s7 := s6.trans skm
              have eD7 := skm _ _ eD6
              have pz7 := Paired.mono (fun _ _ h => WayAt.same skm h) pz6
              have ev7 := ev6.same skm
              have eth7 := skm _ _ eth6
              have hts7 : Hits (upd (upd H6 tk (.tup [.int (i : Nat), .str (kT k)])) tm (.tup (xh ++ [.ref tk]))) xh r.2 := hts6.tups fun a xs ha => skm _ _ ha
              dsimp only [gName, List.set]
              revert hmore6 s7 eD7 pz7 ev7 eth7 hts7
              generalize upd (upd H6 tk (.tup [.int (i : Nat), .str (kT k)])) tm (.tup (xh ++ [.ref tk])) = H7
              intro hmore6 s7 eD7 pz7 ev7 eth7 hts7
              clear sk sm skm htk htm s6 eD6 pz6 ev6 eth6 hts6
              have s17 : Same H H7 := s1.trans s7
              refine ⟨.ref D, rfl, .ref p, rfl, p, dx, fs, rfl, s17 _ _ e1, nf.n4, ev, rfl, .str (WS [b]), rfl, .str (kT k), rfl, b, some k, rfl, fun H8 s78 => ?_⟩
              have s18 := s17.trans s78
              refine ⟨p, dx, rp, fs, ev, r.1, hw, arrB b (some k), flag, ps, n + 2 * i, rfl, s18 _ _ e1, nf.how, nf.n1, nf.n2, nf.n3, nf.rule, rl.same s18, ru.ne, ru.fl, ru.pl, ru.p9, ev7.same s78, ok, by omega, Nat.le_trans (arrB_le b (some k)) (by decide), fun H3 la wsa s83 nla ela pal => ?_⟩
              have walen : wsa.length ≤ 4 := by
                rw [pal.length]
                have := wayN_len hw flag ps r.1 (u := arrB b (some k)) [] (arrB_le b (some k))
                unfold wayN at this
                rw [List.length_map] at this
                exact this
              refine ⟨la, rfl, ⟨wsa, .inl (.inl ela)⟩, fun G hG => ?_⟩
              have s73 := s78.trans s83
              have eD3 := s73 _ _ eD7
              refine lc_it (walk_list (K := K) (a := la) (xs := wsa)) (fun k2 H4 => Same H3 H4 ∧ ∃ gs, H4 G = some (.lst gs) ∧ Paired (WayAt H4) gs (((arrE hw flag ps (arrB b (some k)) [r.1]).take k2).map fun e' => (e', r.2 ++ [(i, k)]))) ⟨same_new hG, [], upd_same, .nil⟩ (fun k2 H4 _ h => .inl (.inl (h.1 _ _ ela))) (fun k2 y H4o H4 hk2 hp hy => ?_) (fun H4 hp => ?_)
              · obtain ⟨rfl, hy⟩ := hy
                obtain ⟨s4, gs, eG, pg⟩ := hp
                obtain ⟨e', he', hye⟩ := paired_getE pal hy
                refine ⟨rfl, y, rfl, .ref tm, rfl, by show 2 ≤ sizeLine; decide, fun tn htn => ?_⟩
                have s5 := same_new (o := .tup [y, .ref tm]) htn
                have gl : gs.length ≤ 4 := by
                  rw [pg.length, List.length_map, List.length_take]
                  have := pal.length
                  omega
                have nG : tn ≠ G := fun z => by
                  rw [z, eG] at htn
                  cases htn
                have tu : ∀ a xs, upd H4 tn (.tup [y, .ref tm]) a = some (.tup xs) → upd (upd H4 tn (.tup [y, .ref tm])) G (.lst (gs ++ [.ref tn])) a = some (.tup xs) := fun a xs ha => by
                  rw [upd_ne]
                  · exact ha
                  · rintro rfl
                    rw [s5 _ _ eG] at ha
                    cases ha
                refine ⟨gs, s5 _ _ eG, small1000 (by omega), fun a o ha => ?_, _, upd_same, ?_⟩
                · rw [upd_ne (ne_of_none ha hG)]
                  exact s5 _ _ (s4 _ _ ha)
                · rw [take_sn he', List.map_append]
                  refine ND.paired_snoc ?_ (Paired.mono (fun _ _ h => (WayAt.same s5 h).tups tu) pg)
                  exact ⟨tn, y, .ref tm, rfl, tu _ _ upd_same, ((hye.same s4).same s5).tups tu, ((hmore6.tups fun a xs ha => s5 _ _ (s4 _ _ (s73 _ _ ha)))).tups tu⟩
              · obtain ⟨s4, gs, eG, pg⟩ := hp
                rw [pal.length, List.take_length] at pg
                have gl : gs.length ≤ 4 := by
                  rw [pg.length, List.length_map, ← pal.length]
                  exact walen
                refine ⟨D, G, zs6, gs, rfl, rfl, s4 _ _ eD3, eG, by show _ ≤ 2 ^ 24; omega, ?_⟩
                have s74 := s73.trans s4
                have tu : ∀ a xs, H4 a = some (.tup xs) → upd H4 D (.lst (zs6 ++ gs)) a = some (.tup xs) := fun a xs ha => by
                  rw [upd_ne]
                  · exact ha
                  · rintro rfl
                    rw [s4 _ _ eD3] at ha
                    cases ha
                have tu2 : ∀ a xs, H7 a = some (.tup xs) → upd H4 D (.lst (zs6 ++ gs)) a = some (.tup xs) := fun a xs ha => tu _ _ (s74 _ _ ha)
                refine ⟨zs6 ++ gs, _, _, _, rfl, fun a o ha => ?_, upd_same, by rw [List.length_append]; omega, ?_, ev7.tups tu2, tu2 _ _ eth7, hts7.tups tu2⟩
                · rw [upd_ne (ne_of_none ha hD)]
                  exact s74 _ _ (s7 _ _ ha)
                · rw [take_sn hk, List.flatMap_append, List.flatMap_cons, List.flatMap_nil, List.append_nil, ← List.append_assoc]
                  exact paired_app (Paired.mono (fun _ _ h => h.tups tu2) pz7) (Paired.mono (fun _ _ h => h.tups tu) pg)
            · obtain ⟨zs6, x10, x11, x12, rfl, s6, eD6, zl6, pz6, ev6, eth6, hts6⟩ := hp
              rw [show (kdV ks).length = ks.length from List.length_map .., List.take_length, List.append_assoc] at pz6
              exact ⟨zs6, _, _, _, _, _, rfl, s6, eD6, pz6⟩
          · rw [decide_eq_false hlt]
            refine iteF ?_
            have hwb : wayB hw flag ps ks most used i b r = wayN hw flag ps r.1 [b] r.2 := by
              unfold wayB
              rw [if_neg hlt, List.append_nil]
            rw [hwb]
            exact ⟨zs5, _, _, _, _, _, rfl, s5, eD5, pz5⟩
      · obtain ⟨zs, x8, x9, x10, x11, x12, rfl, s2, eD, pz⟩ := hp
        rw [pa.length, List.take_length] at pz
        exact ⟨.ref D, rfl, D, zs, _, _, _, _, _, _, _, _, rfl, s1.trans s2, s1.free hD, eD, pz⟩
    · obtain ⟨l, ws, x5, x6, x7, x8, x9, x10, x11, x12, rfl, s1, nl, el, pa⟩ := hp
      rw [WS_size, List.take_length] at pa
      exact ⟨.ref l, rfl, q H1 l ws s1 nl el pa⟩

abbrev s_Netsteps_from : Stmt := (inClass (topS 30) 5)
theorem sc_Netsteps_from : FnScope ["self", "place", "sent", "heard", "cut", "gap", "used", "found", "bit", "line", "ear", "heard_now", "cut_now", "gap_now", "read", "hits", "behind", "key", "first", "many", "told"] ["self", "place"] (fnScope s_Netsteps_from) := fnScope_by (by decide +kernel)
theorem ok_steps_from {C CRule f : Addr} {fd : FuncData} (F : C8.Fun K "_steps_from" "Net._steps_from" s_Netsteps_from f fd) (M : Mg mg) (T : NtT K C) (c_filled : Cal P w K mg base 3 "filled" (spFilled CRule) []) (c_tail : Cal P w K mg base 1 "tail" spTail []) (m__gap_behind : Met P w K mg base 2 C "_gap_behind" (spGapB C) []) (m__heard_of : Met P w K mg base 6 C "_heard_of" (spHeardOf K C CRule) []) (m__number : Met P w K mg base 1 C "_number" (spNumber P w C) []) (m_patterns : Met P w K mg base 1 CRule "patterns" (spPats CRule) []) : FnOk P w K mg base CX0 7 f fd ["self", "place"] (spStepsFrom P w K C CRule) := by
  refine fn0 F sc_Netsteps_from (fun vs H Q E h => ?_) (fun cdv A outer s H vs Q E hr h => ?_)
  · obtain ⟨p, dx, rp, kt, lp, d, st, fs, v, x, hw, flag, ps, ks, most, as, L, rfl, _⟩ := h
    rfl
  · obtain ⟨p, dx, rp, kt, lp, d, st, fs, v, x, hw, flag, ps, ks, most, as, L, rfl, e1, nf, rl, ru, hkt, hk3, na, hpl, ok, hz, q⟩ := h
    refine ⟨_, (pss_cons (ps_asg (pv 1) (pg_tup rfl (pgs_cons (pg_name (i := 2) sc_Netsteps_from.nd rfl (Or.inl rfl)) (pgs_cons (pg_name (i := 3) sc_Netsteps_from.nd rfl (Or.inl rfl)) (pgs_cons (pg_name (i := 4) sc_Netsteps_from.nd rfl (Or.inl rfl)) (pgs_cons (pg_name (i := 5) sc_Netsteps_from.nd rfl (Or.inl rfl)) (pgs_cons (pg_name (i := 6) sc_Netsteps_from.nd rfl (Or.inl rfl)) pgs_nil)))))))
        (pss_cons (ps_set (i := 7) sc_Netsteps_from.nd rfl (Or.inl rfl) pe_dnewT)
        (pss_cons (ps_for PassesOwn.never rfl (pi_str pe_str) (pg_name (i := 8) sc_Netsteps_from.nd rfl (Or.inl rfl))
          (pss_cons (ps_set (i := 9) sc_Netsteps_from.nd rfl (Or.inl rfl) (pe_c c_filled hr (by decide) (by rfl) (pa_cons (pe_fld (pv 0) rfl) (pa_cons (pe_op op_add_str (pv 2) (pv 8)) pa_nil))))
            (pss_cons (ps_set (i := 10) sc_Netsteps_from.nd rfl (Or.inl rfl) (pe_tup (pa_cons (pv 3) (pa_cons (pv 4) (pa_cons (pe_mt m__gap_behind hr (by decide) (pv 0) (pa_cons (pv 5) (pa_cons (pe_un un_neg pe_int) (pa_cons (pv 8) (pa_cons (pv 4) pa_nil))))) (pa_cons pe_str pa_nil))))))
            (pss_one (ps_for PassesOwn.never rfl (pi_list (pe_mt m__heard_of hr (by decide) (pv 0) (pa_cons (pe_slice sl_str (pv 9) (po_some (pe_callB call_len_str (by rfl) M.len PySem.boot_len (pa_cons (pv 2) pa_nil))) po_none) (pa_cons (pv 10) (pa_cons (pv 6) pa_nil))))) (pg_tup rfl (pgs_cons (pg_tup rfl (pgs_cons (pg_name (i := 11) sc_Netsteps_from.nd rfl (Or.inl rfl)) (pgs_cons (pg_name (i := 12) sc_Netsteps_from.nd rfl (Or.inl rfl)) (pgs_cons (pg_name (i := 13) sc_Netsteps_from.nd rfl (Or.inl rfl)) (pgs_cons (pg_name (i := 14) sc_Netsteps_from.nd rfl (Or.inl rfl)) pgs_nil))))) (pgs_cons (pg_name (i := 15) sc_Netsteps_from.nd rfl (Or.inl rfl)) pgs_nil)))
              (pss_cons (ps_set (i := 16) sc_Netsteps_from.nd rfl (Or.inl rfl) (pe_tup (pa_cons (pe_c c_tail hr (by decide) (by rfl) (pa_cons (pv 9) (pa_cons (pe_mt0 m_patterns hr (by decide) (pe_fld (pv 0) rfl)) pa_nil))) (pa_cons (pv 11) (pa_cons (pv 12) (pa_cons (pv 13) (pa_cons (pe_op op_add (pv 6) (pe_callB call_len_seq (by rfl) M.len PySem.boot_len (pa_cons (pv 15) pa_nil))) pa_nil)))))))
                (pss_cons (ps_set (i := 17) sc_Netsteps_from.nd rfl (Or.inl rfl) (pe_tup (pa_cons (pe_mt m__number hr (by decide) (pv 0) (pa_cons (pv 16) pa_nil)) (pa_cons (pv 8) (pa_cons (pv 14) pa_nil)))))
                (pss_cons (ps_asg (pe_dget2 (hu_of hr) (pv 7) (pv 17) (pe_tup (pa_cons (pv 15) (pa_cons pe_int pa_nil))) ⟨by rfl, by rfl, by rfl, by rfl⟩) (pg_tup rfl (pgs_cons (pg_name (i := 18) sc_Netsteps_from.nd rfl (Or.inl rfl)) (pgs_cons (pg_name (i := 19) sc_Netsteps_from.nd rfl (Or.inl rfl)) pgs_nil))))
                (pss_one (ps_dput (hu_of hr) (pv 7) (pv 17) (pe_tup (pa_cons (pv 18) (pa_cons (pe_op op_add (pv 19) pe_int) pa_nil))) rfl))))))))))
        (pss_one (ps_ret (pe_lock (pe_lc (own := [("key", 17), ("told", 20)]) (g := (gTup _ 2 (gCons (gName 17) (gCons (gName 20) gNil)))) rfl sc_Netsteps_from.nd (ItT.pi_itemsT (pv 7)) (blkOk_by (N := ["self", "place", "sent", "heard", "cut", "gap", "used", "found", "bit", "line", "ear", "heard_now", "cut_now", "gap_now", "read", "hits", "behind", "key", "first", "many", "told"]) (sc := fnScope s_Netsteps_from) (by decide +kernel)) (fun _ _ _ _ _ => (pg_tup rfl (pgs_cons (pg_name (i := 17) sc_Netsteps_from.nd rfl (Or.inl rfl)) (pgs_cons (pg_name (i := 20) sc_Netsteps_from.nd rfl (Or.inl rfl)) pgs_nil)))) (fun _ _ _ _ _ => pts_nil) (fun _ _ _ _ _ => (pe_tup (pa_starK K rfl (pv 17) (pa_starK K rfl (pv 20) pa_nil))))))))))), ?_⟩
    obtain ⟨t, gv, rfl, ht, hgv⟩ := id hpl
    refine ⟨.ref t, rfl, t, _, rfl, .inl (.inl ht), rfl, _, _, rfl, _, _, rfl, _, _, rfl, _, _, rfl, _, _, rfl, rfl, ?_⟩
    refine fun F hF => ?_
    have sF := same_new (o := .dT []) hF
    have npd : p ≠ d := fun z => by
      have h1 := e1
      rw [z, na.nd.1] at h1
      cases h1
    have npl : p ≠ lp := fun z => by
      have h1 := e1
      rw [z, na.lst] at h1
      cases h1
    have nFd : F ≠ d := fun z => by
      rw [z, na.nd.1] at hF
      cases hF
    have nFl : F ≠ lp := fun z => by
      rw [z, na.lst] at hF
      cases hF
    have bits : ∀ i : Nat, i < 2 → ∃ b : Bool, ("01" : Str).cps[i]? = some (cd b) ∧ b = decide (i = 1) := fun i hi => by
      match i, hi with
      | 0, _ => exact ⟨false, by decide +kernel, by decide⟩
      | 1, _ => exact ⟨true, by decide +kernel, by decide⟩
    have stAt : ∀ i : Nat, i < 2 → (([false, true].take (i + 1)).foldl (fun st b => stepBit hw flag ps ks most x b st) (L, [])) = stepBit hw flag ps ks most x (decide (i = 1)) (([false, true].take i).foldl (fun st b => stepBit hw flag ps ks most x b st) (L, [])) := fun i hi => by
      match i, hi with
      | 0, _ => rfl
      | 1, _ => rfl
    refine ⟨_, rfl, ?_⟩
    refine for_it walk_str (fun i σ H1 => ∃ (as1 : List Addr) (kvs : List (List L2.Key × V)) (x8 x9 x10 x11 x12 x13 x14 x15 x16 x17 x18 x19 x20 : Option V), σ = [some (.ref p), some (.ref t), some (.str (WS x.1)), some (.str (WS x.2.1)), some (.int (x.2.2.1 : Nat)), some gv, some (.int (x.2.2.2.2 : Nat)), some (.ref F), x8, x9, x10, x11, x12, x13, x14, x15, x16, x17, x18, x19, x20] ∧ But2 d lp H H1 ∧ H1 F = some (.dT kvs) ∧
        NumAt P w H1 d lp as1 (([false, true].take i).foldl (fun st b => stepBit hw flag ps ks most x b st) (L, [])).1 ∧ Paired (AM.RK keyS (SvAt H1)) kvs (([false, true].take i).foldl (fun st b => stepBit hw flag ps ks most x b st) (L, [])).2)
      ⟨as, [], _, _, _, _, _, _, _, _, _, _, _, _, _, rfl, fun a o _ _ ha => sF _ _ ha, upd_same, ⟨na.len, sF _ _ na.lst, Paired.mono (F' := fun (a : Addr) x => PlAt _ (.ref a) x) (fun _ _ h => PlAt.tups (fun a xs ha => sF _ _ ha) h) na.pl, na.nd.same sF⟩, .nil⟩ (fun _ _ _ _ _ => trivial) (fun i y σ H1o H1 hi hp hy => ?_) (fun σ H1 hp => ?_)
    · obtain ⟨rfl, c, hc, rfl⟩ := hy
      obtain ⟨as1, kvs, x8, x9, x10, x11, x12, x13, x14, x15, x16, x17, x18, x19, x20, rfl, b1, eF1, na1, pk1⟩ := hp
      have hi2 : i < 2 := hi
      obtain ⟨b, hb, hbi⟩ := bits i hi2
      have hcb : (⟨#[c]⟩ : Str) = WS [b] := by
        have : c = cd b := Option.some.inj (hc.symm.trans hb)
        rw [this]
        rfl
      rw [hcb, stAt i hi2, ← hbi]
      have k1 : KpS H H1 := b1.kps na
      have e11 : H1 p = some (.ins C dx fs) := k1 _ _ e1 trivial
      have rl1 := rl.kps k1
      have hs3 : x.1.length ≤ 900 := ok.st.len
      have hl5 := ok.st.few b
      refine ⟨.ref p, rfl, p, C, dx, fs, _, rfl, e11, T.cl, T.nR, nf.rule, .str (WS x.1), rfl, .str (WS [b]), rfl, _, _, rfl, rfl, cat_len5 x.1 [b] (by simp; omega), ?_⟩
      refine ⟨rp, flag, ps, x.1 ++ [b], by rw [WS_cat] <;> rfl, rl1, ok.st.put b, by simp; omega, fun H2 s12 => ?_⟩
      have hln : putsN ps 24 (x.1 ++ [b]) = lineB ps x.1 b := rfl
      rw [hln]
      dsimp only [gName, List.set]
      -- the ear
      have k2 := k1.trans (KpS.of s12)
      refine ⟨.str (WS x.2.1), rfl, .int (x.2.2.1 : Nat), rfl, .ref p, rfl, p, dx, fs, rfl, k2 _ _ e1 trivial, nf.n2, gv, rfl, 1, rfl, .str (WS [b]), rfl, .int (x.2.2.1 : Nat), rfl, ?_⟩
      refine ⟨p, dx, fs, gv, x.2.2.2.1, hw, x.2.2.1, -1, b, rfl, k2 _ _ e1 trivial, nf.how, nf.n1, ?_, .inr rfl, ok.gw, by have := ok.gap; omega, fun H3 gv3 s23 hg3 => ?_⟩
      · obtain ⟨tg, rfl, htg⟩ := hgv
        exact ⟨tg, rfl, k2.tup _ _ htg⟩
      refine ⟨by show 4 ≤ sizeLine; decide, fun te hte => ?_⟩
      have s34 := same_new (o := .tup [.str (WS x.2.1), .int (x.2.2.1 : Nat), gv3, .str ""]) hte
      have hear : EarAt (upd H3 te (.tup [.str (WS x.2.1), .int (x.2.2.1 : Nat), gv3, .str ""])) (.ref te) (x.2.1, x.2.2.1, settledG hw (movedG x.2.2.2.1 (-1) b) x.2.2.1, []) := ⟨te, gv3, rfl, upd_same, by
        obtain ⟨tg, rfl, htg⟩ := hg3
        exact ⟨tg, rfl, s34 _ _ htg⟩⟩
      have s14 := (s12.trans s23).trans s34
      have k4 := k1.trans (KpS.of s14)
      have b4 := b1.same s14
      have eF4 := s14 _ _ eF1
      have na4 := na1.same s14
      have pk4 := Paired.mono (F' := AM.RK keyS (SvAt (upd H3 te (.tup [.str (WS x.2.1), .int (x.2.2.1 : Nat), gv3, .str ""])))) (fun _ _ h => ⟨h.1, SvAt.tups (fun a xs ha => s14 _ _ ha) h.2⟩) pk1
      dsimp only [gName, List.set]
      revert hear k4 b4 eF4 na4 pk4
      generalize upd H3 te (.tup [.str (WS x.2.1), .int (x.2.2.1 : Nat), gv3, .str ""]) = H4
      intro hear k4 b4 eF4 na4 pk4
      clear s34 hte s14 hg3 s23 s12 k2 eF1 na1 pk1 rl1 e11 b1 k1
      have e14 : H4 p = some (.ins C dx fs) := k4 _ _ e1 trivial
      refine ⟨.ref p, rfl, p, dx, fs, rfl, e14, nf.n5, .str (WS (lineB ps x.1 b)), rfl, .str (WS x.1), rfl, _, rfl, ls_len5 x.1 (by omega), _, rfl, _, rfl, ls_len5 (lineB ps x.1 b) (by omega), ?_⟩
      rw [WS_len, cut_from (lineB ps x.1 b) (Int.natCast_nonneg _), Int.toNat_natCast]
      have ear_ok : EarOk flag 801 (x.2.1, x.2.2.1, settledG hw (movedG x.2.2.2.1 (-1) b) x.2.2.1, []) := ⟨ok.hd, ok.cut, settled_w (moved_w (.inr rfl) ok.gw), Nat.le_trans (settled_le _ _ _) (Nat.le_trans (moved_le (.inr rfl)) (by have := ok.gap; omega)), Nat.zero_le _⟩
      have hdl : ((lineB ps x.1 b).drop x.1.length).length ≤ 5 := by rw [List.length_drop]; omega
      refine ⟨.ref te, rfl, .int (x.2.2.2.2 : Nat), rfl, p, dx, rp, kt, lp, d, st, fs, .ref te, _, hw, (lineB ps x.1 b).drop x.1.length, flag, ps, ks, most, x.2.2.2.2, 801, rfl, e14, nf, rl.kps k4, ru, SqT.kps k4 hkt, hk3, hear, ear_ok, by omega, hdl, fun H5 l wsv s45 nl5 el5 pw5 => ?_⟩
      have hwb : waysL hw flag ps ks most x.2.2.2.2 0 ((lineB ps x.1 b).drop x.1.length) [((x.2.1, x.2.2.1, settledG hw (movedG x.2.2.2.1 (-1) b) x.2.2.1, []), [])] = waysB hw flag ps ks most x b := rfl
      rw [hwb] at pw5
      have wlen := waysB_len (hw := hw) (most := most) (b := b) hk3 ok
      have hzi : (stepBit hw flag ps ks most x b (([false, true].take i).foldl (fun st b => stepBit hw flag ps ks most x b st) (L, []))).1.length < sizeLine := by
        rw [hbi]
        match i, hi2 with
        | 0, _ => exact Nat.lt_of_le_of_lt (stpW_mono _ _ _ _ _ _) hz
        | 1, _ => exact hz
      have hfi : (([false, true].take i).foldl (fun st b => stepBit hw flag ps ks most x b st) (L, [])).2.length ≤ 16 ^ 5 := by
        match i, hi2 with
        | 0, _ => exact Nat.zero_le _
        | 1, _ =>
          refine Nat.le_trans (stpW_len _ _ _ _ _ _) ?_
          have := waysB_len (hw := hw) (most := most) (b := false) hk3 ok
          show 0 + _ ≤ _
          omega
      have k5 := k4.trans (KpS.of s45)
      have b5 := b4.same s45
      have eF5 := s45 _ _ eF4
      have na5 := na4.same s45
      have pk5 := Paired.mono (F' := AM.RK keyS (SvAt H5)) (fun _ _ h => ⟨h.1, SvAt.tups (fun a xs ha => s45 _ _ ha) h.2⟩) pk4
      have nlF : l ≠ F := fun z => by
        rw [z, eF4] at nl5
        cases nl5
      have nld : l ≠ d := fun z => by
        rw [z, na4.nd.1] at nl5
        cases nl5
      have nll : l ≠ lp := fun z => by
        rw [z, na4.lst] at nl5
        cases nl5
      have hst : stepBit hw flag ps ks most x b (([false, true].take i).foldl (fun st b => stepBit hw flag ps ks most x b st) (L, [])) = (waysB hw flag ps ks most x b).foldl (stpW ps x.2.2.2.2 (lineB ps x.1 b) b) (([false, true].take i).foldl (fun st b => stepBit hw flag ps ks most x b st) (L, [])) := rfl
      rw [hst] at hzi ⊢
      clear hst
      revert hzi hfi na5 pk5
      generalize (([false, true].take i).foldl (fun st b => stepBit hw flag ps ks most x b st) (L, [])) = S0
      intro hzi hfi na5 pk5
      revert hzi wlen pw5
      generalize waysB hw flag ps ks most x b = wys
      intro pw5 wlen hzi
      clear hwb ear_ok hear na4 pk4 eF4 b4
      refine ⟨l, rfl, ⟨wsv, .inl (.inl el5)⟩, ?_⟩
      refine for_it (walk_list (K := K) (a := l) (xs := wsv)) (fun j σ H6 => ∃ (as1 : List Addr) (kvs : List (List L2.Key × V)) (x11 x12 x13 x14 x15 x16 x17 x18 x19 x20 : Option V), σ = [some (.ref p), some (.ref t), some (.str (WS x.1)), some (.str (WS x.2.1)), some (.int (x.2.2.1 : Nat)), some gv, some (.int (x.2.2.2.2 : Nat)), some (.ref F), some (.str (WS [b])), some (.str (WS (lineB ps x.1 b))), some (.ref te), x11, x12, x13, x14, x15, x16, x17, x18, x19, x20] ∧ But2 d lp H H6 ∧ KpS H5 H6 ∧ H6 l = some (.lst wsv) ∧ H6 F = some (.dT kvs) ∧
          NumAt P w H6 d lp as1 ((wys.take j).foldl (stpW ps x.2.2.2.2 (lineB ps x.1 b) b) S0).1 ∧ Paired (AM.RK keyS (SvAt H6)) kvs ((wys.take j).foldl (stpW ps x.2.2.2.2 (lineB ps x.1 b) b) S0).2)
        ⟨as1, kvs, _, _, _, _, _, _, _, _, _, _, rfl, b5, KpS.refl _, el5, eF5, na5, pk5⟩ (fun j σ H6 _ h => ?_) (fun j y σ H6o H6 hj hp hy => ?_) (fun σ H6 hp => ?_)
      · obtain ⟨_, _, _, _, _, _, _, _, _, _, _, _, _, _, _, h, _⟩ := h
        exact .inl (.inl h)
      · obtain ⟨rfl, hy⟩ := hy
        obtain ⟨as6, kv6, x11, x12, x13, x14, x15, x16, x17, x18, x19, x20, rfl, b6, k6, el6, eF6, na6, pk6⟩ := hp
        obtain ⟨r, hr1, hyr⟩ := paired_getE pw5 hy
        have hmo : ((wys.take (j + 1)).foldl (stpW ps x.2.2.2.2 (lineB ps x.1 b) b) S0).1.length < sizeLine := by
          refine Nat.lt_of_le_of_lt ?_ hzi
          conv => rhs; rw [← List.take_append_drop (j + 1) wys, List.foldl_append]
          exact stpW_mono _ _ _ _ _ _
        have hfl : ((wys.take j).foldl (stpW ps x.2.2.2.2 (lineB ps x.1 b) b) S0).2.length ≤ 2 * 16 ^ 5 := by
          refine Nat.le_trans (stpW_len _ _ _ _ _ _) ?_
          rw [List.length_take]
          omega
        rw [fold_snoc hr1] at hmo ⊢
        revert hmo hfl na6 pk6
        generalize (wys.take j).foldl (stpW ps x.2.2.2.2 (lineB ps x.1 b) b) S0 = S1
        intro na6 pk6 hmo hfl
        obtain ⟨tw, ev, hv, rfl, etw, hev, hht⟩ := hyr.tups k6.tup
        obtain ⟨te1, gv1, rfl, ete1, hg1⟩ := id hev
        refine ⟨tw, _, rfl, .inl (.inl etw), rfl, .ref te1, _, rfl, te1, _, rfl, .inl (.inl ete1), rfl, _, _, rfl, _, _, rfl, _, _, rfl, _, _, rfl, rfl, hv, _, rfl, rfl, ?_⟩
        dsimp only [gName, List.set]
        have k06 := (k4.trans (KpS.of s45)).trans k6
        have e16 : H6 p = some (.ins C dx fs) := k06 _ _ e1 trivial
        obtain ⟨dr, tr, xr, er, etr, hpr⟩ := id (rl.kps k06)
        have nfQ : (rlf flag tr).lookup ("patterns" : Str) = none := by
          unfold rlf
          rw [List.lookup_cons, show (("patterns" : Str) == "flag") = false by decide +kernel, List.lookup_cons, show (("patterns" : Str) == "stuffs") = false by decide +kernel]
          rfl
        refine ⟨.str (WS (lineB ps x.1 b)), rfl, .ref p, rfl, p, C, dx, fs, _, rfl, e16, T.cl, T.nR, nf.rule, rp, dr, _, rfl, er, nfQ, rp, flag, ps, rfl, rl.kps k06, by have := ru.pl; omega, fun H7 lpat s67 elpat => ?_⟩
        refine ⟨lineB ps x.1 b, lpat, ps.map (·.1), rfl, by rw [List.map_map]; exact elpat, by omega, by rw [List.length_map]; have := ru.pl; omega, fun H8 s78 => ?_⟩
        have s68 := s67.trans s78
        obtain ⟨th, xh, rfl, eth, hts⟩ := hht
        refine ⟨.str (WS r.1.1), rfl, .int (r.1.2.1 : Nat), rfl, gv1, rfl, .int (x.2.2.2.2 : Nat), rfl, .ref th, rfl, th, xh, rfl, .inr (.inl (.inl (s68 _ _ eth))), _, _, rfl, rfl, by show 5 ≤ sizeLine; decide, fun tb htb => ?_⟩
        have s89 := same_new (o := .tup [.str (WS (tailL (ps.map (·.1)) (lineB ps x.1 b))), .str (WS r.1.1), .int (r.1.2.1 : Nat), gv1, .int (((x.2.2.2.2 : Nat) : Int) + (xh.length : Nat))]) htb
        have hpb : PlAt (upd H8 tb (.tup [.str (WS (tailL (ps.map (·.1)) (lineB ps x.1 b))), .str (WS r.1.1), .int (r.1.2.1 : Nat), gv1, .int (((x.2.2.2.2 : Nat) : Int) + (xh.length : Nat))])) (.ref tb) (plOf ps x.2.2.2.2 (lineB ps x.1 b) r) := by
          refine ⟨tb, gv1, rfl, ?_, ?_⟩
          · rw [upd_same, hts.len]
            rfl
          · obtain ⟨tg, rfl, htg⟩ := hg1
            exact ⟨tg, rfl, s89 _ _ (s68 _ _ htg)⟩
        have s69 := s68.trans s89
        have k9 := k6.trans (KpS.of s69)
        have b9 := b6.same s69
        have el9 := s69 _ _ el6
        have eF9 := s69 _ _ eF6
        have na9 := na6.same s69
        have pk9 := Paired.mono (F' := AM.RK keyS (SvAt (upd H8 tb (.tup [.str (WS (tailL (ps.map (·.1)) (lineB ps x.1 b))), .str (WS r.1.1), .int (r.1.2.1 : Nat), gv1, .int (((x.2.2.2.2 : Nat) : Int) + (xh.length : Nat))])))) (fun _ _ h => ⟨h.1, SvAt.tups (fun a xs ha => s69 _ _ ha) h.2⟩) pk6
        have hh9 : HtsAt (upd H8 tb (.tup [.str (WS (tailL (ps.map (·.1)) (lineB ps x.1 b))), .str (WS r.1.1), .int (r.1.2.1 : Nat), gv1, .int (((x.2.2.2.2 : Nat) : Int) + (xh.length : Nat))])) (.ref th) r.2 := ⟨th, xh, rfl, s69 _ _ eth, hts.tups fun a xs ha => s69 _ _ ha⟩
        have e19 := s69 _ _ e16
        dsimp only [gName, List.set]
        revert hpb k9 b9 el9 eF9 na9 pk9 hh9 e19
        generalize upd H8 tb (.tup [.str (WS (tailL (ps.map (·.1)) (lineB ps x.1 b))), .str (WS r.1.1), .int (r.1.2.1 : Nat), gv1, .int (((x.2.2.2.2 : Nat) : Int) + (xh.length : Nat))]) = H9
        intro hpb k9 b9 el9 eF9 na9 pk9 hh9 e19
        clear s89 s69 s68 s78 s67 htb elpat
        -- its number
        refine ⟨.ref p, rfl, p, dx, fs, rfl, e19, nf.n6, .ref tb, rfl, ?_⟩
        have hL1 : S1.1.length < sizeLine := Nat.lt_of_le_of_lt (addL_mono _ _) hmo
        refine ⟨p, dx, d, lp, fs, .ref tb, plOf ps x.2.2.2.2 (lineB ps x.1 b) r, as6, S1.1, rfl, e19, nf.numbers, nf.places, na9, hpb, hL1, fun H10 as10 n10 b910 na10 hn10 => ?_⟩
        have k910 : KpS H9 H10 := b910.kps na9
        have eF10 := b910 _ _ nFd nFl eF9
        have el10 := b910 _ _ nld nll el9
        refine ⟨.str (WS [b]), rfl, .str (WS r.1.2.2.2), rfl, by show 3 ≤ sizeLine; decide, fun tk htk => ?_⟩
        have s1011 := same_new (o := .tup [.int (n10 : Nat), .str (WS [b]), .str (WS r.1.2.2.2)]) htk
        have b11 := (b9.trans b910).same s1011
        have k911 := k910.trans (KpS.of s1011)
        have k11 := k9.trans k911
        have el11 := s1011 _ _ el10
        have eF11 := s1011 _ _ eF10
        have na11 := na10.same s1011
        have pk11 := Paired.mono (F' := AM.RK keyS (SvAt (upd H10 tk (.tup [.int (n10 : Nat), .str (WS [b]), .str (WS r.1.2.2.2)])))) (fun _ _ h => ⟨h.1, SvAt.tups k911.tup h.2⟩) pk9
        have hh11 := hh9.tups k911.tup
        have e111 := k911 _ _ e19 trivial
        have etk : (upd H10 tk (.tup [.int (n10 : Nat), .str (WS [b]), .str (WS r.1.2.2.2)])) tk = some (.tup ((keyS (n10, b, r.1.2.2.2)).map kV)) := upd_same
        dsimp only [gName, List.set]
        revert b11 k11 el11 eF11 na11 pk11 hh11 e111 etk
        generalize upd H10 tk (.tup [.int (n10 : Nat), .str (WS [b]), .str (WS r.1.2.2.2)]) = H11
        intro b11 k11 el11 eF11 na11 pk11 hh11 e111 etk
        clear s1011 htk k910 eF10 el10 k911 hh9 pk9 na9 eF9 el9
        have hstep : stpW ps x.2.2.2.2 (lineB ps x.1 b) b S1 r = (addL S1.1 (plOf ps x.2.2.2.2 (lineB ps x.1 b) r), AM.put S1.2 (n10, b, r.1.2.2.2) (((AM.get S1.2 (n10, b, r.1.2.2.2)).getD (r.2, 0)).1, ((AM.get S1.2 (n10, b, r.1.2.2.2)).getD (r.2, 0)).2 + 1)) := by
          unfold stpW
          dsimp only
          rw [hn10]
          rfl
        rw [hstep]
        clear hstep
        refine ⟨.ref F, rfl, F, rfl, .inr ⟨_, .inl eF11⟩, .ref tk, rfl, .ref th, rfl, by show 2 ≤ sizeLine; decide, fun td htd => ⟨_, DGet.t (same_new htd _ _ eF11) (same_new htd _ _ etk), ?_⟩⟩
        have s112 := same_new (o := .tup [.ref th, .int 0]) htd
        have hold : SvAt (upd H11 td (.tup [.ref th, .int 0])) ((valV kv6 (keyS (n10, b, r.1.2.2.2))).getD (.ref td)) ((AM.get S1.2 (n10, b, r.1.2.2.2)).getD (r.2, 0)) := by
          rcases AM.rk_get keyS_inj (k := (n10, b, r.1.2.2.2)) pk11 with ⟨h1, h2⟩ | ⟨bb, vv, h1, h2, h3⟩
          · rw [h1, h2]
            exact ⟨td, .ref th, rfl, upd_same, hh11.tups fun a xs ha => s112 _ _ ha⟩
          · rw [h1, h2]
            exact h3.tups fun a xs ha => s112 _ _ ha
        have b12 := b11.same s112
        have k12 := k11.trans (KpS.of s112)
        have el12 := s112 _ _ el11
        have eF12 := s112 _ _ eF11
        have na12 := na11.same s112
        have etk12 := s112 _ _ etk
        have pk12 := Paired.mono (F' := AM.RK keyS (SvAt (upd H11 td (.tup [.ref th, .int 0])))) (fun _ _ h => ⟨h.1, SvAt.tups (fun a xs ha => s112 _ _ ha) h.2⟩) pk11
        revert hold b12 k12 el12 eF12 na12 etk12 pk12
        generalize (valV kv6 (keyS (n10, b, r.1.2.2.2))).getD (.ref td) = vo
        generalize upd H11 td (.tup [.ref th, .int 0]) = H12
        generalize (AM.get S1.2 (n10, b, r.1.2.2.2)).getD (r.2, 0) = od
        intro hold b12 k12 el12 eF12 na12 etk12 pk12
        clear s112 htd pk11 etk na11 eF11 el11 k11 b11 hh11
        obtain ⟨to, ho, rfl, eto, hho⟩ := hold
        refine ⟨to, _, rfl, .inl (.inl eto), rfl, _, _, rfl, _, _, rfl, rfl, ?_⟩
        dsimp only [gName, List.set]
        have kl6 : kv6.length < sizeLine := by
          rw [pk12.length]
          exact Nat.lt_of_le_of_lt hfl (by decide)
        refine ⟨ho, rfl, .int (od.2 : Nat), rfl, _, _, rfl, rfl, by show 2 ≤ sizeLine; decide, fun tn htn => ⟨.ref F, rfl, .ref tk, rfl, F, _, rfl, DPut.t (same_new htn _ _ eF12) (same_new htn _ _ etk12) kl6, ?_⟩⟩
        have s123 := same_new (o := .tup [ho, .int ((od.2 : Nat) + 1)]) htn
        have nF3 := s123 _ _ eF12
        have nst : ¬ Stab (.dT kv6) := fun z => z
        have ku := KpS.upd (u := .dT (putK kv6 (keyS (n10, b, r.1.2.2.2)) (.ref tn))) nF3 nst
        refine ⟨as10, _, _, _, _, _, _, _, _, _, _, _, rfl, (b12.same s123).upd hF, (k12.trans (KpS.of s123)).trans ku, ?_, upd_same, (na12.same s123).upd nF3 nst nFd nFl, ?_⟩
        · rw [upd_ne nlF]
          exact s123 _ _ el12
        · refine AM.rk_put keyS_inj (Paired.mono (F' := AM.RK keyS (SvAt _)) (fun _ _ h => ⟨h.1, (h.2.tups fun a xs ha => s123 _ _ ha).tups ku.tup⟩) pk12) ?_
          exact ⟨tn, ho, rfl, ku.tup _ _ upd_same, (hho.tups fun a xs ha => s123 _ _ ha).tups ku.tup⟩
      · obtain ⟨as6, kv6, x11, x12, x13, x14, x15, x16, x17, x18, x19, x20, rfl, b6, k6, el6, eF6, na6, pk6⟩ := hp
        rw [pw5.length, List.take_length] at na6 pk6
        exact ⟨as6, kv6, _, _, _, _, _, _, _, _, _, _, _, _, _, rfl, b6, eF6, na6, pk6⟩
    · obtain ⟨as1, kvs, x8, x9, x10, x11, x12, x13, x14, x15, x16, x17, x18, x19, x20, rfl, b1, eF1, na1, pk1⟩ := hp
      have hall : ([false, true].take ("01" : Str).cps.size).foldl (fun st b => stepBit hw flag ps ks most x b st) (L, []) = stepsP hw flag ps ks most L x := rfl
      rw [hall] at na1 pk1
      have k1 := b1.kps na
      revert na1 pk1 q hz
      have hfl : (stepsP hw flag ps ks most L x).2.length ≤ 2 * 16 ^ 5 := by
        have h1 := stpW_len ps x.2.2.2.2 (lineB ps x.1 false) false (waysB hw flag ps ks most x false) (L, [])
        have h2 := stpW_len ps x.2.2.2.2 (lineB ps x.1 true) true (waysB hw flag ps ks most x true) (stepBit hw flag ps ks most x false (L, []))
        have h3 := waysB_len (hw := hw) (most := most) (b := false) hk3 ok
        have h4 := waysB_len (hw := hw) (most := most) (b := true) hk3 ok
        have h5 : (stepsP hw flag ps ks most L x).2.length ≤ (stepBit hw flag ps ks most x false (L, [])).2.length + (waysB hw flag ps ks most x true).length := h2
        have h6 : (stepBit hw flag ps ks most x false (L, [])).2.length ≤ ([] : List (SK × SV)).length + (waysB hw flag ps ks most x false).length := h1
        rw [List.length_nil] at h6
        omega
      revert hfl
      generalize stepsP hw flag ps ks most L x = S1
      intro hfl hz q na1 pk1
      refine ⟨F, .dT kvs, eF1, trivial, fun od => ?_⟩
      refine ⟨.ref F, rfl, F, od, kvs, rfl, upd_same, fun G hG => ?_⟩
      have hG1 : H1 G = none := by
        by_cases z : G = F
        · rw [z, upd_same] at hG
          cases hG
        · rw [upd_ne z] at hG
          exact hG
      have nGF : G ≠ F := fun z => by
        rw [z, upd_same] at hG
        cases hG
      have nGd : G ≠ d := fun z => by
        rw [z, na1.nd.1] at hG1
        cases hG1
      have nGl : G ≠ lp := fun z => by
        rw [z, na1.lst] at hG1
        cases hG1
      have kF : KpS H1 (upd H1 F (.frz od (.dT kvs))) := KpS.upd eF1 (fun z => z)
      have pkF := Paired.mono (F' := AM.RK keyS (SvAt (upd H1 F (.frz od (.dT kvs))))) (fun _ _ h => ⟨h.1, SvAt.tups kF.tup h.2⟩) pk1
      have hGH : H G = none := by
        cases e : H G with
        | none => rfl
        | some o =>
          exfalso
          rw [b1 _ _ nGd nGl e] at hG1
          cases hG1
      refine lc_it ItT.walk_itemsT (fun i H4 => Same (upd H1 F (.frz od (.dT kvs))) H4 ∧ ∃ gs, H4 G = some (.lst gs) ∧ Paired (StpAt H4) gs (S1.2.take i)) ⟨same_new hG, [], upd_same, .nil⟩ (fun i H4 _ h => h.1 _ _ upd_same) (fun i y H4o H4 hi hp hy => ?_) (fun H4 hp => ?_)
      · obtain ⟨T1, qa, kk, vv, hkv, rfl, hT1, hqa, rfl⟩ := hy
        obtain ⟨s4, gs, eG, pg⟩ := hp
        obtain ⟨en, hen, hk1, hsv⟩ := paired_getE pkF hkv
        have hk1 : kk = keyS en.1 := hk1
        subst hk1
        obtain ⟨tv, ho, hvv, etv, hho⟩ : SvAt (upd H1 F (.frz od (.dT kvs))) vv en.2 := hsv
        subst hvv
        have s5 := same_new (o := .tup [.ref qa, .ref tv]) hT1
        refine ⟨T1, _, rfl, .inl (.inl upd_same), rfl, _, _, rfl, _, _, rfl, rfl, rfl, ?_⟩
        refine ⟨.ref qa, rfl, qa, _, rfl, .inl (.inl (.inl (s5 _ _ hqa))), .ref tv, rfl, tv, _, rfl, .inl (.inl (.inl (s5 _ _ (s4 _ _ etv)))), by show 5 ≤ sizeLine; decide, fun tn htn => ?_⟩
        have s6 := same_new (o := .tup ((keyS en.1).map kV ++ ([ho, .int (en.2.2 : Nat)] ++ []))) htn
        have s56 := s5.trans s6
        have gl : gs.length < sizeLine := by
          rw [pg.length, List.length_take]
          exact Nat.lt_of_le_of_lt (Nat.le_trans (Nat.min_le_right _ _) hfl) (by decide)
        have eG6 := s56 _ _ eG
        have ku := KpS.upd (u := .lst (gs ++ [.ref tn])) eG6 (fun z => z)
        refine ⟨gs, eG6, gl, fun a o ha => ?_, _, upd_same, ?_⟩
        · rw [upd_ne (ne_of_none ha hG)]
          exact s56 _ _ (s4 _ _ ha)
        · rw [take_sn hen]
          refine ND.paired_snoc ?_ (Paired.mono (fun _ _ h => (StpAt.tups (fun a xs ha => s56 _ _ ha) h).tups ku.tup) pg)
          exact ⟨tn, ho, rfl, ku.tup _ _ (upd_same.trans rfl), ((hho.tups fun a xs ha => s56 _ _ (s4 _ _ ha)).tups ku.tup)⟩
      · obtain ⟨s4, gs, eG, pg⟩ := hp
        have hln : kvs.length = S1.2.length := pk1.length
        rw [hln, List.take_length] at pg
        have eFz := s4 _ _ upd_same
        refine ⟨eFz, ?_⟩
        have ku : ∀ a o, a ≠ F → H1 a = some o → upd H4 F (.dT kvs) a = some o := fun a o n ha => by
          rw [upd_ne n]
          exact s4 _ _ (by rw [upd_ne n]; exact ha)
        have kt : ∀ a xs, H1 a = some (.tup xs) → upd H4 F (.dT kvs) a = some (.tup xs) := fun a xs ha => ku _ _ (fun z => by
          rw [z, eF1] at ha
          cases ha) ha
        refine q _ G gs as1 (fun a o h1 h2 h3 => ku _ _ (fun z => by rw [z, hF] at h3; cases h3) (b1 _ _ h1 h2 h3)) hGH (by rw [upd_ne nGF]; exact eG) ?_ (Paired.mono (fun _ _ h => StpAt.tups (fun a xs ha => ?_) h) pg)
        · refine ⟨na1.len, ku _ _ (Ne.symm nFl) na1.lst, Paired.mono (F' := fun (a : Addr) x => PlAt _ (.ref a) x) (fun _ _ q => PlAt.tups kt q) na1.pl, ku _ _ (Ne.symm nFd) na1.nd.1, fun e he => ⟨(na1.nd.2 e he).1, (na1.nd.2 e he).2.tups kt⟩⟩
        · rw [upd_ne]
          · exact ha
          · rintro rfl
            rw [eFz] at ha
            cases ha

abbrev s_Lefts_init : Stmt := (inClass (topS 16) 0)
theorem sc_Lefts_init : FnScope ["self", "check"] ["self", "check"] (fnScope s_Lefts_init) := fnScope_by (by decide +kernel)
theorem ok_lfinit {C CCheck f : Addr} {fd : FuncData} (F : C8.Fun K "__init__" "Lefts.__init__" s_Lefts_init f fd) (M : Mg mg) (T : LfT K C) (TC : CkT K CCheck) (p_degree : Prp P w K mg base 1 CCheck "degree" (spDegree CCheck)) : FnOk P w K mg base CX0 3 f fd ["self", "check"] (spLfInit C CCheck) := by
  refine fn0 F sc_Lefts_init (fun vs H Q E h => ?_) (fun cdv A outer s H vs Q E hr h => ?_)
  · obtain ⟨p, dx, c, poly, st, rfl, _⟩ := h
    rfl
  · obtain ⟨p, dx, c, poly, st, rfl, e1, ncp, ck, chk, hl, q⟩ := h
    refine ⟨_, (pss_cons (ps_fld (pv 0) (pv 1) rfl)
        (pss_cons (ps_fld (pv 0) pe_dnewT rfl)
        (pss_cons (ps_fld (pv 0) (pe_op op_add_str (pe_op op_mul_str pe_str (pe_p p_degree hr (by decide) (pv 1) rfl)) (pe_fld (pv 1) rfl)) rfl)
        (pss_one (ps_fld (pv 0) (pe_op op_mul_str pe_str (pe_p p_degree hr (by decide) (pv 1) rfl)) rfl))))), ?_⟩
    refine ⟨.ref c, rfl, .ref p, rfl, p, C, dx, _, rfl, e1, T.cl, T.nC, by show 0 < 1000; decide, ?_⟩
    have npc : p ≠ c := Ne.symm ncp
    have ck1 : ∀ {H' : Hp}, But p H H' → CkAt CCheck H' c poly st := fun {H'} b => by
      obtain ⟨dc, ec⟩ := ck
      exact ⟨dc, b _ _ ec ncp⟩
    have b1 : But p H (upd H p (.ins C dx (putF "_check" (.ref c) []))) := But.upd p H _
    have e11 : (upd H p (.ins C dx (putF "_check" (.ref c) []))) p = some (.ins C dx (putF "_check" (.ref c) [])) := upd_same
    revert b1 e11
    generalize upd H p (.ins C dx (putF "_check" (.ref c) [])) = H1
    intro b1 e11
    refine fun kn hkn => ?_
    have nkp : kn ≠ p := fun z => by rw [z, e11] at hkn; cases hkn
    have fkn : H kn = none := by
      cases e : H kn with
      | none => rfl
      | some o => rw [b1 _ _ e nkp] at hkn; cases hkn
    refine ⟨.ref p, rfl, p, C, dx, _, rfl, same_new hkn _ _ e11, T.cl, T.nK, by show 1 < 1000; decide, ?_⟩
    rw [lf_put1]
    have b2 : But p H (upd (upd H1 kn (.dT [])) p (.ins C dx [("_check", .ref c), ("_known", .ref kn)])) := (b1.trans (But.of (same_new hkn))).trans (But.upd p _ _)
    have ek2 : (upd (upd H1 kn (.dT [])) p (.ins C dx [("_check", .ref c), ("_known", .ref kn)])) kn = some (.dT []) := by rw [upd_ne nkp, upd_same]
    have e12 : (upd (upd H1 kn (.dT [])) p (.ins C dx [("_check", .ref c), ("_known", .ref kn)])) p = some (.ins C dx [("_check", .ref c), ("_known", .ref kn)]) := upd_same
    revert b2 ek2 e12
    generalize upd (upd H1 kn (.dT [])) p (.ins C dx [("_check", .ref c), ("_known", .ref kn)]) = H2
    intro b2 ek2 e12
    clear hkn e11 b1 H1
    obtain ⟨dc, ec⟩ := id ck
    have ck2 := ck1 b2
    have ec2 := b2 _ _ ec ncp
    have hpl : poly.length = st.length + 1 := chk.len
    have hdeg : ((poly.length : Int) - 1) = ((st.length : Nat) : Int) := by omega
    refine ⟨.ref c, rfl, c, dc, _, rfl, ec2, c, poly, st, rfl, ck2, by omega, ?_⟩
    rw [hdeg]
    refine ⟨"-", ((st.length : Nat) : Int), rfl, rfl, dash_ok (by omega) (by omega), .ref c, rfl, c, CCheck, dc, _, _, rfl, ec2, TC.cl, TC.nS, ckf_start poly st, _, _, rfl, rfl, ?_, ?_⟩
    · rw [dash_len, WS_len]
      exact Nat.le_of_lt (small5 (by omega))
    rw [dash_cat]
    refine ⟨.ref p, rfl, p, C, dx, _, rfl, e12, T.cl, T.nB, by show 2 < 1000; decide, ?_⟩
    rw [lf_put2]
    have b3 := b2.trans (But.upd p H2 (.ins C dx [("_check", .ref c), ("_known", .ref kn), ("begin", .str (lfT (st.length, st)))]))
    refine ⟨.ref c, rfl, c, dc, _, rfl, b3 _ _ ec ncp, c, poly, st, rfl, ck1 b3, by omega, ?_⟩
    rw [hdeg]
    refine ⟨"0", ((st.length : Nat) : Int), rfl, rfl, mul_ok [false] (by omega) (by omega) (by decide), ?_⟩
    have hz : Txt.mul "0" ((st.length : Nat) : Int) = WS (List.replicate st.length false) := by rw [← WS_0, mul_WS [false] (by omega), Int.toNat_natCast, flat_rep]
    rw [hz]
    refine ⟨.ref p, rfl, p, C, dx, _, rfl, upd_same, T.cl, T.nG, by show 3 < 1000; decide, ?_⟩
    rw [lf_put3]
    refine q _ kn (fun a o n h => (b3.trans (But.upd p _ _)) _ _ h n) upd_same fkn ?_
    show _ = some (HO.dT [])
    rw [upd_ne nkp, upd_ne nkp]
    exact ek2
abbrev s_Lefts_behind : Stmt := (inClass (topS 16) 1)
theorem sc_Lefts_behind : FnScope ["self", "left", "bits", "key", "degree", "missing", "rest"] ["self", "left", "bits"] (fnScope s_Lefts_behind) := fnScope_by (by decide +kernel)
theorem ok_lfbehind {C CCheck f : Addr} {fd : FuncData} (F : C8.Fun K "behind" "Lefts.behind" s_Lefts_behind f fd) (M : Mg mg) (T : LfT K C) (TC : CkT K CCheck) (p_degree : Prp P w K mg base 1 CCheck "degree" (spDegree CCheck)) (k_Check_2 : Mak P w K mg base 2 "Check" CCheck (spInit CCheck) []) (m_rest : Met P w K mg base 2 CCheck "rest" (spRest CCheck) []) : FnOk P w K mg base CX0 4 f fd ["self", "left", "bits"] (spLfBehind C CCheck) := by
  refine fn0 F sc_Lefts_behind (fun vs H Q E h => ?_) (fun cdv A outer s H vs Q E hr h => ?_)
  · obtain ⟨p, dx, c, kn, poly, st, x, u, KN, rfl, _⟩ := h
    rfl
  · obtain ⟨p, dx, c, kn, poly, st, x, u, KN, rfl, e1, ck, chk, hx2, hl, hu, hx1, hkn, hz, q⟩ := h
    refine ⟨_, (pss_cons (ps_set (i := 3) sc_Lefts_behind.nd rfl (Or.inl rfl) (pe_tup (pa_cons (pv 1) (pa_cons (pv 2) pa_nil))))
        (C8.pss_cut (ps_if (pt_cmp (pc_dnotin (hu_of hr) (pv 3) (pe_fld (pv 0) rfl)))
          (pss_cons (ps_set (i := 4) sc_Lefts_behind.nd rfl (Or.inl rfl) (pe_p p_degree hr (by decide) (pe_fld (pv 0) rfl) rfl))
            (pss_cons (ps_set (i := 5) sc_Lefts_behind.nd rfl (Or.inl rfl) (pe_callB (call_max2 rfl) (by rfl) M.max (by decide +kernel) (pa_cons pe_int (pa_cons (pe_op op_sub (pe_op op_sub (pe_callB call_len_str (by rfl) M.len PySem.boot_len (pa_cons (pv 1) pa_nil)) (pv 4)) (pe_callB call_len_str (by rfl) M.len PySem.boot_len (pa_cons (pv 2) pa_nil))) pa_nil))))
            (pss_cons (ps_set (i := 6) sc_Lefts_behind.nd rfl (Or.inl rfl) (pe_mt m_rest hr (by decide) (pe_mk k_Check_2 hr (by decide) (by rfl) (pa_cons (pe_fld (pe_fld (pv 0) rfl) rfl) (pa_cons (pe_slice sl_str (pv 1) (po_some (pe_op op_sub (pe_callB call_len_str (by rfl) M.len PySem.boot_len (pa_cons (pv 1) pa_nil)) (pv 4))) po_none) pa_nil))) (pa_cons (pv 2) pa_nil)))
            (pss_one (ps_dput (hu_of hr) (pe_fld (pv 0) rfl) (pv 3) (pe_op op_add_str (pe_op op_mul_str pe_str (pv 5)) (pv 6)) rfl)))))
          pss_nil)
        (pss_one (ps_ret (pe_dget (hu_of hr) (pe_fld (pv 0) rfl) (pv 3) (fun _ _ => rfl)))))), ?_⟩
    obtain ⟨l1, l2, l3, l4, l5⟩ := lfF_look c kn st
    refine ⟨.str (lfT x), rfl, .str (WS u), rfl, by show 2 ≤ sizeLine; decide, fun tk htk => ?_⟩
    have s1 := same_new (o := .tup [.str (lfT x), .str (WS u)]) htk
    have e11 := s1 _ _ e1
    have ek1 : (upd H tk (.tup [.str (lfT x), .str (WS u)])) kn = some (.dT (KN.map (entK poly))) := s1 _ _ hkn
    have etk : (upd H tk (.tup [.str (lfT x), .str (WS u)])) tk = some (.tup ([Sum.inr (lfT x), Sum.inr (WS u)].map kV)) := upd_same
    dsimp only [gName, List.set, L2.start]
    revert s1 e11 ek1 etk
    generalize upd H tk (.tup [.str (lfT x), .str (WS u)]) = H1
    intro s1 e11 ek1 etk
    clear htk
    have nkp : kn ≠ p := fun z => by rw [z, e11] at ek1; cases ek1
    have nkt : kn ≠ tk := fun z => by rw [z, etk] at ek1; cases ek1
    obtain ⟨dc, ec⟩ := id ck
    have nkc : kn ≠ c := fun z => by rw [z, s1 _ _ ec] at ek1; cases ek1
    have ck1 : CkAt CCheck H1 c poly st := ⟨dc, s1 _ _ ec⟩
    refine ⟨fun σ' H' => ∃ x4 x5 x6, σ' = [some (.ref p), some (.str (lfT x)), some (.str (WS u)), some (.ref tk), x4, x5, x6] ∧ (∀ a o, a ≠ kn → H1 a = some o → H' a = some o) ∧ KnAt H' kn poly (knPut KN (x, u)), ?_, ?_⟩
    · refine ⟨.ref tk, rfl, .ref p, rfl, p, C, dx, _, _, rfl, e11, T.cl, T.nK, l2, kn, _, rfl, DGet.t ek1 etk, _, rfl, ?_⟩
      rw [kn_val poly (x, u)]
      by_cases hin : (x, u) ∈ KN
      · rw [if_pos hin]
        refine iteF ⟨_, _, _, rfl, fun _ _ _ h => h, ?_⟩
        unfold knPut
        rw [if_pos hin]
        exact ek1
      · rw [if_neg hin]
        refine iteT ?_
        have hpl : poly.length = st.length + 1 := by rw [chk.len, hx2]
        have hdeg : ((poly.length : Int) - 1) = ((st.length : Nat) : Int) := by omega
        have hlx := lfT_len x
        rw [hx2] at hlx
        have hls : (lfT x).length ≤ sizeLine := by rw [hlx]; exact Nat.le_of_lt (small5 (by omega))
        refine ⟨.ref p, rfl, p, C, dx, _, _, rfl, e11, T.cl, T.nC, l1, c, dc, _, rfl, s1 _ _ ec, c, poly, st, rfl, ck1, by omega, ?_⟩
        rw [hdeg]
        refine ⟨.str (lfT x), rfl, _, rfl, hls, .int ((st.length : Nat) : Int), rfl, _, _, rfl, rfl, .str (WS u), rfl, _, rfl, ls_len u (by omega), _, _, rfl, rfl, _, _, rfl, ?_⟩
        have hmax : (if ((((lfT x).length : Nat) : Int) - ((st.length : Nat) : Int) - (((WS u).length : Nat) : Int)) > 0 then ((((lfT x).length : Nat) : Int) - ((st.length : Nat) : Int) - (((WS u).length : Nat) : Int)) else 0) = (((x.1 - u.length : Nat)) : Int) := by
          rw [hlx, WS_len]
          split <;> omega
        rw [hmax]
        dsimp only [gName, List.set]
        refine ⟨.ref p, rfl, p, C, dx, _, _, rfl, e11, T.cl, T.nC, l1, c, CCheck, dc, _, _, rfl, s1 _ _ ec, TC.cl, TC.nP, ckf_poly poly st, .str (lfT x), rfl, .str (lfT x), rfl, _, rfl, hls, .int ((st.length : Nat) : Int), rfl, _, _, rfl, rfl, _, rfl, _, rfl, hls, ?_⟩
        have hcut : cutS (lfT x) (some ((((lfT x).length : Nat) : Int) - ((st.length : Nat) : Int))) none = WS x.2 := by
          rw [hlx, show (((x.1 + st.length : Nat)) : Int) - ((st.length : Nat) : Int) = ((x.1 : Nat) : Int) by omega]
          exact lf_cut x
        rw [hcut]
        refine fun c2 dx2 hc2 hdx2 ne2 => ?_
        refine ⟨c2, dx2, poly, x.2, .str (WS x.2), rfl, .inr rfl, chk, by omega, upd_same, fun H3 ck3 k3 => ⟨rfl, ?_⟩⟩
        have s13 : Same H1 H3 := fun a o ha => by
          have n1 : a ≠ c2 := ne_of_none ha hc2
          exact k3 _ _ (by rw [upd_ne n1, upd_ne (ne_of_none ha hdx2)]; exact ha) n1
        obtain ⟨dc3, ec3⟩ := id ck3
        have nrest : (ckf poly x.2).lookup ("rest" : Str) = none := by
          unfold ckf
          rw [List.lookup_cons, show (("rest" : Str) == "poly") = false by decide +kernel, List.lookup_cons, show (("rest" : Str) == "start") = false by decide +kernel]
          rfl
        refine ⟨c2, dc3, _, rfl, ec3, nrest, .str (WS u), rfl, c2, poly, x.2, u, rfl, ck3, chk, by omega, by omega, fun H4 s34 => ?_⟩
        have s14 := s13.trans s34
        have hrl : (restR poly x.2 u).length = st.length := by rw [restR_len (by rw [chk.len]) u, hx2]
        refine ⟨.int ((x.1 - u.length : Nat) : Int), rfl, "-", _, rfl, rfl, dash_ok (by omega) (by omega), .str (WS (restR poly x.2 u)), rfl, _, _, rfl, rfl, ?_, ?_⟩
        · rw [dash_len, WS_len]
          exact Nat.le_of_lt (small5 (by omega))
        rw [dash_cat]
        have ek4 := s14 _ _ ek1
        refine ⟨.ref p, rfl, p, C, dx, _, _, rfl, s14 _ _ e11, T.cl, T.nK, l2, .ref tk, rfl, kn, _, rfl, DPut.t ek4 (s14 _ _ etk) (by rw [List.length_map]; exact hz), _, _, _, rfl, fun a o n ha => ?_, ?_⟩
        · rw [upd_ne n]
          exact s14 _ _ ha
        · show upd H4 kn _ kn = _
          rw [upd_same]
          unfold knPut
          rw [if_neg hin]
          exact congrArg (fun z => some (HO.dT z)) (kn_put hin)
    · rintro σ' H' ⟨x4, x5, x6, rfl, b, kn'⟩
      refine ⟨.ref p, rfl, p, C, dx, _, _, rfl, b _ _ (Ne.symm nkp) e11, T.cl, T.nK, l2, .ref tk, rfl, kn, _, rfl, ?_, q H' (fun a o n h => b _ _ n (s1 _ _ h)) kn'⟩
      have := DGet.t (show H' kn = some (.dT _) from kn') (b _ _ (Ne.symm nkt) etk)
      rw [kn_val poly (x, u), if_pos] at this
      · exact this
      · unfold knPut
        split
        · assumption
        · exact List.mem_append_right _ List.mem_cons_self

abbrev s_Net_steps : Stmt := (inClass (topS 30) 3)
theorem sc_Net_steps : FnScope ["self", "number"] ["self", "number"] (fnScope s_Net_steps) := fnScope_by (by decide +kernel)
theorem ok_steps {C CRule f : Addr} {fd : FuncData} (F : C8.Fun K "steps" "Net.steps" s_Net_steps f fd) (M : Mg mg) (T : NtT K C) (m__steps_from : Met P w K mg base 7 C "_steps_from" (spStepsFrom P w K C CRule) []) : FnOk P w K mg base CX0 8 f fd ["self", "number"] (spSteps P w K C CRule) := by
  refine fn0 F sc_Net_steps (fun vs H Q E h => ?_) (fun cdv A outer s H vs Q E hr h => ?_)
  · obtain ⟨p, dx, rp, kt, lp, d, st, fs, A, S, N, n, x, rfl, _⟩ := h
    rfl
  · obtain ⟨p, dx, rp, kt, lp, d, st, fs, A', S, N, n, x, rfl, e1, nf, nt, na, hx, ok, hz, hz2, q⟩ := h
    refine ⟨_, (C8.pss_cut (ps_if (pt_cmp (pc_dnotin (hu_of hr) (pv 1) (pe_fld (pv 0) rfl)))
          (pss_one (ps_dput (hu_of hr) (pe_fld (pv 0) rfl) (pv 1) (pe_mt m__steps_from hr (by decide) (pv 0) (pa_cons (pe_ix (r := rIxL K) ix_list (pe_fld (pv 0) rfl) (pv 1) (fun _ _ => rfl)) pa_nil)) rfl))
          pss_nil)
        (pss_one (ps_ret (pe_dget (hu_of hr) (pe_fld (pv 0) rfl) (pv 1) (fun _ _ => rfl))))), ?_⟩
    refine ⟨fun σ' H' => σ' = [some (.ref p), some (.int (n : Nat))] ∧ But3 d lp st H H' ∧ ∃ S', NnAt P w H' lp d st S' (netGo A' N n) ∧ (∀ a ∈ S', a ∈ S ∨ H a = none) ∧ (AM.get (netGo A' N n).2 n).isSome = true, ?_, ?_⟩
    · refine ⟨.int (n : Nat), rfl, .ref p, rfl, p, C, dx, _, _, rfl, e1, T.cl, T.nS, nf.steps, st, _, rfl, DGet.k (k := Sum.inl (n : Int)) na.kv, _, rfl, ?_⟩
      rw [stpK_val na.len]
      cases hg : AM.get N.2 n with
      | some s0 =>
        have hgo : netGo A' N n = N := by
          unfold netGo
          rw [hg]
          rfl
        exact iteF ⟨rfl, fun _ _ _ _ _ h => h, S, by rw [hgo]; exact na, fun a ha => .inl ha, by rw [hgo, hg]; rfl⟩
      | none =>
        refine iteT ?_
        obtain ⟨as, nu⟩ := na.num
        obtain ⟨a, ha, hpl⟩ := paired_getR nu.pl hx
        have hgo : netGo A' N n = ((stepsP A'.hw A'.flag A'.ps A'.ks A'.most N.1 x).1, N.2 ++ [(n, (stepsP A'.hw A'.flag A'.ps A'.ks A'.most N.1 x).2)]) := by
          unfold netGo
          rw [hg, hx]
          rfl
        refine ⟨.ref p, rfl, p, dx, fs, rfl, e1, nf.n7, .ref p, rfl, p, C, dx, _, _, rfl, e1, T.cl, T.nP, nf.places, .int (n : Nat), rfl, lp, _, n, _, rfl, rfl, .inl (.inl nu.lst), at_ref ha, ?_⟩
        refine ⟨p, dx, rp, kt, lp, d, st, fs, .ref a, x, A'.hw, A'.flag, A'.ps, A'.ks, A'.most, as, N.1, rfl, e1, nf, nt.rl, nt.ru, nt.kt, nt.k3, nu, hpl, ok, by rw [hgo] at hz; exact hz, fun H1 l ws as1 b1 nl el nu1 pw => ?_⟩
        have b3 : But3 d lp st H H1 := fun a o h1 h2 h3 h4 => b1 _ _ h1 h2 h4
        have k1 : KpS H H1 := b1.kps nu
        have nsd : st ≠ d := fun z => by
          have h1 := na.kv
          rw [z, nu.nd.1] at h1
          cases h1
        have nsl : st ≠ lp := fun z => by
          have h1 := na.kv
          rw [z, nu.lst] at h1
          cases h1
        have est1 := b1 _ _ nsd nsl na.kv
        refine ⟨.ref p, rfl, p, C, dx, _, _, rfl, k1 _ _ e1 trivial, T.cl, T.nS, nf.steps, .int (n : Nat), rfl, st, _, rfl, DPut.k (k := Sum.inl (n : Int)) est1 ?_, ?_⟩
        · unfold stpK
          rw [List.length_map, List.length_zip, na.len, Nat.min_self]
          exact hz2
        · have hSl : ∀ a2 ∈ S, a2 ≠ st := fun a2 h2 z => by
            obtain ⟨m, _, ws2, e2, _⟩ := paired_left na.ls a2 h2
            rw [z, na.kv] at e2
            cases e2
          have hSd : ∀ a2 ∈ S, a2 ≠ d := fun a2 h2 z => by
            obtain ⟨m, _, ws2, e2, _⟩ := paired_left na.ls a2 h2
            rw [z, nu.nd.1] at e2
            cases e2
          have ku := KpS.upd (u := .dK (putK (stpK N.2 S) (Sum.inl ((n : Nat) : Int)) (.ref l))) est1 (fun z => z)
          have nls : l ≠ st := fun z => by
            rw [z, na.kv] at nl
            cases nl
          refine ⟨rfl, fun a o h1 h2 h3 h4 => by rw [upd_ne h3]; exact b3 _ _ h1 h2 h3 h4, S ++ [l], ?_, fun a2 h2 => ?_, by rw [hgo, get_snoc hg]; rfl⟩
          · rw [hgo]
            refine ⟨⟨as1, nu1.upd est1 (fun z => z) nsd nsl⟩, by rw [upd_same, stpK_put na.len hg], by rw [List.length_append, List.length_append, na.len]; rfl, ?_, fun z => ?_⟩
            · refine ND.paired_snoc ⟨ws, by rw [upd_ne nls]; exact el, Paired.mono (fun _ _ q => StpAt.tups ku.tup q) pw⟩ (paired_memL (fun a2 h2 m ⟨ws2, h3, h4⟩ => ⟨ws2, ?_, Paired.mono (fun _ _ q => StpAt.tups (k1.trans ku).tup q) h4⟩) na.ls)
              rw [upd_ne (hSl a2 h2)]
              exact b1 _ _ (hSd a2 h2) (fun z => na.nlp (z ▸ h2)) h3
            · rcases List.mem_append.mp z with z | z
              · exact na.nlp z
              · rw [List.mem_singleton] at z
                rw [← z, nu.lst] at nl
                cases nl
          · rcases List.mem_append.mp h2 with h2 | h2
            · exact .inl h2
            · rw [List.mem_singleton.mp h2]
              exact .inr nl
    · rintro σ' H' ⟨rfl, b3, S', na', hS, hget⟩
      obtain ⟨s1, hs1⟩ := Option.isSome_iff_exists.mp hget
      obtain ⟨l, ws, h1, h2, h3, h4⟩ := na'.at hs1
      have e2 := b3.kps na _ _ e1 trivial
      refine ⟨.ref p, rfl, p, C, dx, _, _, rfl, e2, T.cl, T.nS, nf.steps, .int (n : Nat), rfl, st, _, rfl, ?_, q H' S' l ws b3 na' hS h2 h3 ?_⟩
      · have := DGet.k (k := Sum.inl (n : Int)) na'.kv
        rw [h1] at this
        exact this
      · unfold netSteps
        rw [hs1]
        exact h4

abbrev s_Net_init : Stmt := (inClass (topS 30) 0)
theorem sc_Net_init : FnScope ["self", "rule", "kinds", "hits", "how"] ["self", "rule", "kinds", "hits", "how"] (fnScope s_Net_init) := fnScope_by (by decide +kernel)
theorem ok_ntinit {C f : Addr} {fd : FuncData} (F : C8.Fun K "__init__" "Net.__init__" s_Net_init f fd) (M : Mg mg) (T : NtT K C) (m__number : Met P w K mg base 1 C "_number" (spNumber P w C) []) : FnOk P w K mg base CX0 3 f fd ["self", "rule", "kinds", "hits", "how"] (spNtInit P w K C) := by
  refine fn0 F sc_Net_init (fun vs H Q E h => ?_) (fun cdv A outer s H vs Q E hr h => ?_)
  · obtain ⟨p, dx, rp, kl, o, ks, most, hw, rfl, _⟩ := h
    rfl
  · obtain ⟨p, dx, rp, kl, o, ks, most, hw, rfl, e1, hk, k3, q⟩ := h
    refine ⟨_, (pss_cons (ps_fld (pv 0) (pv 1) rfl)
        (pss_cons (ps_fld (pv 0) (pe_callTy call_tuple_of (by rfl) M.tuple (by decide +kernel) (pa_cons (pv 2) pa_nil)) rfl)
        (pss_cons (ps_fld (pv 0) (pv 3) rfl)
        (pss_cons (ps_fld (pv 0) (pv 4) rfl)
        (pss_cons (ps_fld (pv 0) (pe_lst pa_nil) rfl)
        (pss_cons (ps_fld (pv 0) ND.pe_nnew rfl)
        (pss_cons (ps_fld (pv 0) pe_dnewK rfl)
        (pss_one (ps_fld (pv 0) (pe_mt m__number hr (by decide) (pv 0) (pa_cons (pe_tup (pa_cons pe_str (pa_cons pe_str (pa_cons pe_int (pa_cons (pe_tup (pa_cons pe_int (pa_cons (pe_ifExp (pt_cmpR op_eq (pv 4) pe_str (nomark _)) pe_non pe_str) pa_nil))) (pa_cons pe_int pa_nil)))))) pa_nil)) rfl))))))))), ?_⟩
    refine ⟨.ref rp, rfl, .ref p, rfl, p, C, dx, _, rfl, e1, T.cl, T.nR, (by show 0 < 1000; decide), ?_⟩
    have fin : ∀ (H' : Hp) (kt lp d st : Addr) (as : List Addr), But p H H' → H' p = some (.ins C dx (ntF rp kt lp d st most hw)) → H lp = none → H d = none → H st = none → SqT K H' kt (kdV ks) → NumAt P w H' d lp as [plc0 hw] → H' st = some (.dK []) → Q .non H' := fun H' kt lp d st as b h1 h2 h3 h4 h5 h6 h7 => q H' kt lp d st (fun a o n h => b _ _ h n) h1 h2 h3 h4 h5 ⟨⟨as, h6⟩, h7, rfl, .nil, List.not_mem_nil⟩
    have hk2 : SqK K o (upd H p (.ins C dx (putF "_rule" (.ref rp) []))) kl (kdV ks) := SqK.ins hk e1
    dsimp only
    unfold tSeq
    unfold sFld
    refine te_cont (te := tCB _ _) (fun v H' => ∃ kt, v = .ref kt ∧ Same (upd H p (.ins C dx (putF "_rule" (.ref rp) []))) H' ∧ SqT K H' kt (kdV ks)) (fun Q' hQ => ?_) (fun v H1 hv => ?_)
    · refine ⟨.ref kl, rfl, kl, kdV ks, rfl, ?_⟩
      cases o with
      | true => exact .inl ⟨hk2, fun l hl => hQ _ _ ⟨l, rfl, same_new hl, .inl (.inl upd_same)⟩⟩
      | false => exact .inr ⟨hk2, hQ _ _ ⟨kl, rfl, Same.refl _, hk2⟩⟩
    obtain ⟨kt, rfl, s1, hkt⟩ := hv
    have e11 := s1 _ _ (upd_same (H := H) (a := p) (o := .ins C dx (putF "_rule" (.ref rp) [])))
    have b1 : But p H H1 := (But.upd p H _).trans (But.of s1)
    refine ⟨.ref p, rfl, p, C, dx, _, rfl, e11, T.cl, T.nK, by show 1 < 1000; decide, ?_⟩
    rw [nt_put1]
    refine ⟨.int (most : Nat), rfl, .ref p, rfl, p, C, dx, _, rfl, upd_same, T.cl, T.nM, by show 2 < 1000; decide, ?_⟩
    rw [nt_put2, upd_upd]
    refine ⟨.str hw.str, rfl, .ref p, rfl, p, C, dx, _, rfl, upd_same, T.cl, T.nH, by show 3 < 1000; decide, ?_⟩
    rw [nt_put3, upd_upd]
    have b2 : But p H (upd H1 p (.ins C dx [("_rule", .ref rp), ("_kinds", .ref kt), ("_most", .int (most : Nat)), ("_how", .str hw.str)])) := b1.trans (But.upd p H1 _)
    have hkt2 : SqT K (upd H1 p (.ins C dx [("_rule", .ref rp), ("_kinds", .ref kt), ("_most", .int (most : Nat)), ("_how", .str hw.str)])) kt (kdV ks) := show SqK K false _ kt _ from SqK.ins (o := false) hkt e11
    have e12 : (upd H1 p (.ins C dx [("_rule", .ref rp), ("_kinds", .ref kt), ("_most", .int (most : Nat)), ("_how", .str hw.str)])) p = _ := upd_same
    revert b2 hkt2 e12
    generalize upd H1 p (.ins C dx [("_rule", .ref rp), ("_kinds", .ref kt), ("_most", .int (most : Nat)), ("_how", .str hw.str)]) = H2
    intro b2 hkt2 e12
    clear e11 b1 hkt s1 H1
    have free : ∀ {H' : Hp} {a : Addr}, But p H H' → H' p ≠ none → H' a = none → H a = none := fun {H' a} b hp ha => by
      cases e : H a with
      | none => rfl
      | some o =>
        exfalso
        by_cases z : a = p
        · exact hp (z ▸ ha)
        · rw [b _ _ e z] at ha
          cases ha
    -- the places
    refine ⟨by show 0 ≤ sizeLine; decide, fun lp hlp => ?_⟩
    have nlp : lp ≠ p := fun z => by rw [z, e12] at hlp; cases hlp
    have flp := free b2 (by rw [e12]; exact fun z => nomatch z) hlp
    refine ⟨.ref p, rfl, p, C, dx, _, rfl, same_new hlp _ _ e12, T.cl, T.nP, by show 4 < 1000; decide, ?_⟩
    rw [nt_put4]
    have b3 : But p H (upd (upd H2 lp (.lst [])) p (.ins C dx [("_rule", .ref rp), ("_kinds", .ref kt), ("_most", .int (most : Nat)), ("_how", .str hw.str), ("_places", .ref lp)])) := (b2.trans (But.of (same_new hlp))).trans (But.upd p _ _)
    have hkt3 : SqT K (upd (upd H2 lp (.lst [])) p (.ins C dx [("_rule", .ref rp), ("_kinds", .ref kt), ("_most", .int (most : Nat)), ("_how", .str hw.str), ("_places", .ref lp)])) kt (kdV ks) := show SqK K false _ kt _ from SqK.ins (o := false) (SqT.same hkt2 (same_new hlp)) (same_new hlp _ _ e12)
    have e13 : (upd (upd H2 lp (.lst [])) p (.ins C dx [("_rule", .ref rp), ("_kinds", .ref kt), ("_most", .int (most : Nat)), ("_how", .str hw.str), ("_places", .ref lp)])) p = _ := upd_same
    have el3 : (upd (upd H2 lp (.lst [])) p (.ins C dx [("_rule", .ref rp), ("_kinds", .ref kt), ("_most", .int (most : Nat)), ("_how", .str hw.str), ("_places", .ref lp)])) lp = some (.lst []) := by rw [upd_ne nlp, upd_same]
    revert b3 hkt3 e13 el3
    generalize upd (upd H2 lp (.lst [])) p (.ins C dx [("_rule", .ref rp), ("_kinds", .ref kt), ("_most", .int (most : Nat)), ("_how", .str hw.str), ("_places", .ref lp)]) = H3
    intro b3 hkt3 e13 el3
    clear hlp b2 hkt2 e12 H2
    -- the numbers
    refine fun d hd => ?_
    dsimp only [cxOf, Cx.nox]
    have ndp : d ≠ p := fun z => by rw [z, e13] at hd; cases hd
    have ndl : d ≠ lp := fun z => by rw [z, el3] at hd; cases hd
    have fd2 := free b3 (by rw [e13]; exact fun z => nomatch z) hd
    refine ⟨.ref p, rfl, p, C, dx, _, rfl, same_new hd _ _ e13, T.cl, T.nN, by show 5 < 1000; decide, ?_⟩
    rw [nt_put5]
    have b4 : But p H (upd (upd H3 d (ND.NdO P w d [])) p (.ins C dx [("_rule", .ref rp), ("_kinds", .ref kt), ("_most", .int (most : Nat)), ("_how", .str hw.str), ("_places", .ref lp), ("_numbers", .ref d)])) := (b3.trans (But.of (same_new hd))).trans (But.upd p _ _)
    have hkt4 : SqT K (upd (upd H3 d (ND.NdO P w d [])) p (.ins C dx [("_rule", .ref rp), ("_kinds", .ref kt), ("_most", .int (most : Nat)), ("_how", .str hw.str), ("_places", .ref lp), ("_numbers", .ref d)])) kt (kdV ks) := show SqK K false _ kt _ from SqK.ins (o := false) (SqT.same hkt3 (same_new hd)) (same_new hd _ _ e13)
    have e14 : (upd (upd H3 d (ND.NdO P w d [])) p (.ins C dx [("_rule", .ref rp), ("_kinds", .ref kt), ("_most", .int (most : Nat)), ("_how", .str hw.str), ("_places", .ref lp), ("_numbers", .ref d)])) p = _ := upd_same
    have el4 : (upd (upd H3 d (ND.NdO P w d [])) p (.ins C dx [("_rule", .ref rp), ("_kinds", .ref kt), ("_most", .int (most : Nat)), ("_how", .str hw.str), ("_places", .ref lp), ("_numbers", .ref d)])) lp = some (.lst []) := by rw [upd_ne nlp, upd_ne (Ne.symm ndl)]; exact el3
    have ed4 : (upd (upd H3 d (ND.NdO P w d [])) p (.ins C dx [("_rule", .ref rp), ("_kinds", .ref kt), ("_most", .int (most : Nat)), ("_how", .str hw.str), ("_places", .ref lp), ("_numbers", .ref d)])) d = some (ND.NdO P w d []) := by rw [upd_ne ndp, upd_same]
    revert b4 hkt4 e14 el4 ed4
    generalize upd (upd H3 d (ND.NdO P w d [])) p (.ins C dx [("_rule", .ref rp), ("_kinds", .ref kt), ("_most", .int (most : Nat)), ("_how", .str hw.str), ("_places", .ref lp), ("_numbers", .ref d)]) = H4
    intro b4 hkt4 e14 el4 ed4
    clear hd b3 hkt3 e13 el3 H3
    -- the steps
    refine fun st hst => ?_
    have nsp : st ≠ p := fun z => by rw [z, e14] at hst; cases hst
    have nsl : st ≠ lp := fun z => by rw [z, el4] at hst; cases hst
    have nsd : st ≠ d := fun z => by rw [z, ed4] at hst; cases hst
    have fst2 := free b4 (by rw [e14]; exact fun z => nomatch z) hst
    refine ⟨.ref p, rfl, p, C, dx, _, rfl, same_new hst _ _ e14, T.cl, T.nS, by show 6 < 1000; decide, ?_⟩
    rw [nt_put6]
    have b5 : But p H (upd (upd H4 st (.dK [])) p (.ins C dx (ntF7 rp kt lp d st most hw))) := (b4.trans (But.of (same_new hst))).trans (But.upd p _ _)
    have hkt5 : SqT K (upd (upd H4 st (.dK [])) p (.ins C dx (ntF7 rp kt lp d st most hw))) kt (kdV ks) := show SqK K false _ kt _ from SqK.ins (o := false) (SqT.same hkt4 (same_new hst)) (same_new hst _ _ e14)
    have e15 : (upd (upd H4 st (.dK [])) p (.ins C dx (ntF7 rp kt lp d st most hw))) p = some (.ins C dx (ntF7 rp kt lp d st most hw)) := upd_same
    have el5 : (upd (upd H4 st (.dK [])) p (.ins C dx (ntF7 rp kt lp d st most hw))) lp = some (.lst []) := by rw [upd_ne nlp, upd_ne (Ne.symm nsl)]; exact el4
    have ed5 : (upd (upd H4 st (.dK [])) p (.ins C dx (ntF7 rp kt lp d st most hw))) d = some (ND.NdO P w d []) := by rw [upd_ne ndp, upd_ne (Ne.symm nsd)]; exact ed4
    have es5 : (upd (upd H4 st (.dK [])) p (.ins C dx (ntF7 rp kt lp d st most hw))) st = some (.dK []) := by rw [upd_ne nsp, upd_same]
    revert b5 hkt5 e15 el5 ed5 es5
    generalize upd (upd H4 st (.dK [])) p (.ins C dx (ntF7 rp kt lp d st most hw)) = H5
    intro b5 hkt5 e15 el5 ed5 es5
    clear hst b4 hkt4 e14 el4 ed4 H4
    obtain ⟨l7a, l7b, l7c⟩ := ntF7_look rp kt lp d st most hw
    refine ⟨.ref p, rfl, p, dx, _, rfl, e15, l7c, .str hw.str, rfl, rfl, _, rfl, ?_⟩
    have hdec : decide (V.str hw.str = V.str "shift") = decide (hw = .shift) := by cases hw <;> decide +kernel
    rw [hdec]
    by_cases hsh : hw = .shift
    · rw [decide_eq_true hsh]
      refine iteT ⟨by show 2 ≤ sizeLine; decide, fun tg htg => ⟨by show 5 ≤ sizeLine; decide, fun tp htp => ?_⟩⟩
      have sg := same_new (o := .tup [.int 0, .non]) htg
      have sp5 := same_new (o := .tup [.str "", .str "", .int 0, .ref tg, .int 0]) htp
      have s57 := sg.trans sp5
      have b7 := b5.trans (But.of s57)
      have hg0 : gap0 hw = (0, none) := by
        unfold gap0
        rw [if_pos hsh]
      have hpl : PlAt (upd (upd H5 tg (.tup [.int 0, .non])) tp (.tup [.str "", .str "", .int 0, .ref tg, .int 0])) (.ref tp) (plc0 hw) := ⟨tp, .ref tg, rfl, upd_same, tg, rfl, by
        show _ = some (HO.tup [.int (gap0 hw).1, oW (gap0 hw).2])
        rw [hg0]
        exact sp5 _ _ upd_same⟩
      have hkt7 := SqT.same hkt5 s57
      have e17 := s57 _ _ e15
      have el7 := s57 _ _ el5
      have ed7 := s57 _ _ ed5
      have es7 := s57 _ _ es5
      refine ⟨p, dx, d, lp, _, .ref tp, plc0 hw, [], [], rfl, e17, l7a, l7b, ⟨rfl, el7, .nil, ed7, fun e he => nomatch he⟩, hpl, by decide, fun H8 as' n8 b78 na8 hn8 => ?_⟩
      have hadd : addL [] (plc0 hw) = [plc0 hw] := rfl
      rw [hadd] at na8 hn8
      have hn0 : n8 = 0 := by
        unfold numL at hn8
        rw [if_pos rfl] at hn8
        exact (Option.some.inj hn8).symm
      subst hn0
      have npl : p ≠ lp := Ne.symm nlp
      have npd : p ≠ d := Ne.symm ndp
      have e18 := b78 _ _ npd npl e17
      refine ⟨.ref p, rfl, p, C, dx, _, rfl, e18, T.cl, T.nB, by show 7 < 1000; decide, ?_⟩
      rw [nt_put7]
      have es8 := b78 _ _ nsd nsl es7
      have hkt8 : SqT K H8 kt (kdV ks) := by
        rcases hkt7 with (h | ⟨o, h⟩) | h
        · exact .inl (.inl (b78 _ _ (fun z => by rw [z, ed7] at h; cases h) (fun z => by rw [z, el7] at h; cases h) h))
        · exact .inl (.inr ⟨o, b78 _ _ (fun z => by rw [z, ed7] at h; cases h) (fun z => by rw [z, el7] at h; cases h) h⟩)
        · exact .inr h
      have ku : ∀ a o, a ≠ p → H8 a = some o → upd H8 p (.ins C dx (ntF rp kt lp d st most hw)) a = some o := fun a o n h => by rw [upd_ne n]; exact h
      have kt8 : ∀ a xs, H8 a = some (.tup xs) → upd H8 p (.ins C dx (ntF rp kt lp d st most hw)) a = some (.tup xs) := fun a xs h => ku _ _ (fun z => by rw [z, e18] at h; cases h) h
      refine fin _ kt lp d st as' (fun a o h n => ku _ _ n (b78 _ _ (fun z => by rw [z, fd2] at h; cases h) (fun z => by rw [z, flp] at h; cases h) (b7 _ _ h n))) upd_same flp fd2 fst2 (show SqK K false _ kt _ from SqK.ins (o := false) hkt8 e18) ?_ (ku _ _ nsp es8)
      exact ⟨na8.len, ku _ _ nlp na8.lst, Paired.mono (F' := fun (a : Addr) x => PlAt _ (.ref a) x) (fun _ _ q => PlAt.tups kt8 q) na8.pl, ku _ _ ndp na8.nd.1, fun e he => ⟨(na8.nd.2 e he).1, (na8.nd.2 e he).2.tups kt8⟩⟩
    · rw [decide_eq_false hsh]
      refine iteF ⟨by show 2 ≤ sizeLine; decide, fun tg htg => ⟨by show 5 ≤ sizeLine; decide, fun tp htp => ?_⟩⟩
      have sg := same_new (o := .tup [.int 0, .str ""]) htg
      have sp5 := same_new (o := .tup [.str "", .str "", .int 0, .ref tg, .int 0]) htp
      have s57 := sg.trans sp5
      have b7 := b5.trans (But.of s57)
      have hg0 : gap0 hw = (0, some []) := by
        unfold gap0
        rw [if_neg hsh]
      have hpl : PlAt (upd (upd H5 tg (.tup [.int 0, .str ""])) tp (.tup [.str "", .str "", .int 0, .ref tg, .int 0])) (.ref tp) (plc0 hw) := ⟨tp, .ref tg, rfl, upd_same, tg, rfl, by
        show _ = some (HO.tup [.int (gap0 hw).1, oW (gap0 hw).2])
        rw [hg0]
        exact sp5 _ _ upd_same⟩
      have hkt7 := SqT.same hkt5 s57
      have e17 := s57 _ _ e15
      have el7 := s57 _ _ el5
      have ed7 := s57 _ _ ed5
      have es7 := s57 _ _ es5
      refine ⟨p, dx, d, lp, _, .ref tp, plc0 hw, [], [], rfl, e17, l7a, l7b, ⟨rfl, el7, .nil, ed7, fun e he => nomatch he⟩, hpl, by decide, fun H8 as' n8 b78 na8 hn8 => ?_⟩
      have hadd : addL [] (plc0 hw) = [plc0 hw] := rfl
      rw [hadd] at na8 hn8
      have hn0 : n8 = 0 := by
        unfold numL at hn8
        rw [if_pos rfl] at hn8
        exact (Option.some.inj hn8).symm
      subst hn0
      have npl : p ≠ lp := Ne.symm nlp
      have npd : p ≠ d := Ne.symm ndp
      have e18 := b78 _ _ npd npl e17
      refine ⟨.ref p, rfl, p, C, dx, _, rfl, e18, T.cl, T.nB, by show 7 < 1000; decide, ?_⟩
      rw [nt_put7]
      have es8 := b78 _ _ nsd nsl es7
      have hkt8 : SqT K H8 kt (kdV ks) := by
        rcases hkt7 with (h | ⟨o, h⟩) | h
        · exact .inl (.inl (b78 _ _ (fun z => by rw [z, ed7] at h; cases h) (fun z => by rw [z, el7] at h; cases h) h))
        · exact .inl (.inr ⟨o, b78 _ _ (fun z => by rw [z, ed7] at h; cases h) (fun z => by rw [z, el7] at h; cases h) h⟩)
        · exact .inr h
      have ku : ∀ a o, a ≠ p → H8 a = some o → upd H8 p (.ins C dx (ntF rp kt lp d st most hw)) a = some o := fun a o n h => by rw [upd_ne n]; exact h
      have kt8 : ∀ a xs, H8 a = some (.tup xs) → upd H8 p (.ins C dx (ntF rp kt lp d st most hw)) a = some (.tup xs) := fun a xs h => ku _ _ (fun z => by rw [z, e18] at h; cases h) h
      refine fin _ kt lp d st as' (fun a o h n => ku _ _ n (b78 _ _ (fun z => by rw [z, fd2] at h; cases h) (fun z => by rw [z, flp] at h; cases h) (b7 _ _ h n))) upd_same flp fd2 fst2 (show SqK K false _ kt _ from SqK.ins (o := false) hkt8 e18) ?_ (ku _ _ nsp es8)
      exact ⟨na8.len, ku _ _ nlp na8.lst, Paired.mono (F' := fun (a : Addr) x => PlAt _ (.ref a) x) (fun _ _ q => PlAt.tups kt8 q) na8.pl, ku _ _ ndp na8.nd.1, fun e he => ⟨(na8.nd.2 e he).1, (na8.nd.2 e he).2.tups kt8⟩⟩

abbrev s_is_unseen : Stmt := (topS 33)
theorem sc_is_unseen : FnScope ["net", "lefts", "state", "place", "own", "other"] ["net", "lefts", "state"] (fnScope s_is_unseen) := fnScope_by (by decide +kernel)
theorem ok_is_unseen {CN CL CRule CC f : Addr} {fd : FuncData} (F : C8.Fun K "is_unseen" "is_unseen" s_is_unseen f fd) (M : Mg mg) (TL : LfT K CL) (m_is_end : Met P w K mg base 4 CN "is_end" (spIsEndU CN CRule) []) : FnOk P w K mg base CX0 5 f fd ["net", "lefts", "state"] (spIsUnseen P w K CN CL CRule CC) := by
  refine fn0 F sc_is_unseen (fun vs H Q E h => ?_) (fun cdv A outer s H vs Q E hr h => ?_)
  · obtain ⟨W, L, S, sv, st, rfl, _⟩ := h
    rfl
  · obtain ⟨W, L, S, sv, st, rfl, uo, wa, hst, hl1, hl2, q⟩ := h
    refine ⟨_, (pss_cons (ps_asg (pv 2) (pg_tup rfl (pgs_cons (pg_name (i := 3) sc_is_unseen.nd rfl (Or.inl rfl)) (pgs_cons (pg_name (i := 4) sc_is_unseen.nd rfl (Or.inl rfl)) (pgs_cons (pg_name (i := 5) sc_is_unseen.nd rfl (Or.inl rfl)) pgs_nil)))))
        (pss_one (ps_ret (pe_and (pe_cmpR op_eq (pv 4) (pe_fld (pv 1) rfl) (nomark _)) (pe_and (pe_cmpR op_eq (pv 5) (pe_fld (pv 1) rfl) (nomark _)) (pe_one (pe_mt m_is_end hr (by decide) (pv 0) (pa_cons (pv 3) pa_nil)))))))), ?_⟩
    obtain ⟨t, i, rfl, hi, et⟩ := id hst
    refine ⟨.ref t, rfl, t, _, rfl, .inl (.inl et), rfl, _, _, rfl, _, _, rfl, _, _, rfl, rfl, ?_⟩
    obtain ⟨l1, l2, l3, l4, l5⟩ := lfF_look W.c W.kn W.st0
    have hz : WS (List.replicate W.st0.length false) = lfT (zeroL W.st0.length) := rfl
    have hd : ∀ l : Lft, decide (V.str (lfT l) = V.str (WS (List.replicate W.st0.length false))) = decide (l = zeroL W.st0.length) := fun l => by
      rw [hz]
      exact decide_eq_decide.mpr ⟨fun e => lfT_inj (V.str.inj e), fun e => by rw [e]⟩
    unfold eX at q
    refine ⟨.str (lfT st.2.1), rfl, .ref W.lf, rfl, W.lf, CL, W.dl, _, _, rfl, wa.el, TL.cl, TL.nG, l4, rfl, _, rfl, ?_⟩
    rw [hd]
    by_cases e1 : st.2.1 = zeroL W.st0.length
    · rw [decide_eq_true e1] at q ⊢
      refine (if_pos rfl).mpr ⟨.str (lfT st.2.2), rfl, .ref W.lf, rfl, W.lf, CL, W.dl, _, _, rfl, wa.el, TL.cl, TL.nG, l4, rfl, _, rfl, ?_⟩
      rw [hd]
      by_cases e2 : st.2.2 = zeroL W.st0.length
      · rw [decide_eq_true e2] at q ⊢
        obtain ⟨M0, m1, m2⟩ := wa.net
        obtain ⟨as, na⟩ := m1.num
        have hx := numL_some hi
        have ok := uo.pk _ (wa.up _ (List.mem_of_getElem? hx))
        refine (if_pos rfl).mpr ⟨.ref W.p, rfl, W.p, W.dx, W.fs, rfl, wa.ep, wa.nf.n10, .int (i : Nat), rfl, W.p, W.dx, W.lp, W.rp, W.fs, as, L, i, st.1, W.A.hw, W.A.flag, W.A.ps, rfl, wa.ep, wa.nf.places, wa.nf.rule, wa.nf.how, wa.nt.rl, wa.nt.ru.ne, wa.nt.ru.fl, ok.hd, na.len, na.lst, na.pl, hx, fun H' s' => ?_⟩
        exact q H' s'
      · rw [decide_eq_false e2] at q ⊢
        exact (if_neg (by simp)).mpr (q H (Same.refl H))
    · rw [decide_eq_false e1] at q ⊢
      exact (if_neg (by simp)).mpr (q H (Same.refl H))
abbrev s_first_way_onward : Stmt := ((C8.fnBody (topS 34)).getD 2 (.Pass ⟨0, 0, 0, 0⟩))
theorem sc_first_way_onward : NC.NScopeC ["state", "net", "lefts", "place", "own", "other", "behind", "bit", "read", "marked", "many"] ["state"] ["net", "lefts"] (C8.fnScope s_first_way_onward) := NC.nscC_by (by decide +kernel)
theorem ok_first_way_onward {CN CL CRule CC f c' : Addr} {qual : Str} {cl : List (Str × Addr)} (M : Mg mg) (m_steps : Met P w K mg base 8 CN "steps" (spSteps P w K CN CRule) []) (m_behind : Met P w K mg base 4 CL "behind" (spLfBehind CL CC) []) :
    NdefX.NOk P w K mg base CX0 9 f (NdefX.NF.of s_first_way_onward "onward" qual cl c') ["state"] ["net", "lefts"] (spOnwU P w K CN CL CRule CC) := by
  refine NC.nok_ofC (N := ["state", "net", "lefts", "place", "own", "other", "behind", "bit", "read", "marked", "many"]) sc_first_way_onward (fun doc pm ctv us hl => ?_) (fun ws vs H Q E h => ?_) (fun A outer s H vs ws Q E hr hf hc hwl h => ?_)
  · match us, hl with
    | [a], _ => rfl
  · obtain ⟨W, L, S, sv, st, _, rfl, _⟩ := h
    rfl
  · obtain ⟨W, L, S, sv, st, rfl, rfl, uo, wa, hst, hl1, hl2, q⟩ := h
    refine ⟨_, (pss_cons (ps_asg (pv 0) (pg_tup rfl (pgs_cons (pg_name (i := 3) sc_first_way_onward.nd rfl (Or.inl rfl)) (pgs_cons (pg_name (i := 4) sc_first_way_onward.nd rfl (Or.inr rfl)) (pgs_cons (pg_name (i := 5) sc_first_way_onward.nd rfl (Or.inr rfl)) pgs_nil)))))
        (pss_one (ps_ret (pe_lc (own := [("behind", 6), ("bit", 7), ("read", 8), ("marked", 9), ("many", 10)]) (g := (gTup _ 5 (gCons (gName 6) (gCons (gName 7) (gCons (gName 8) (gCons (gName 9) (gCons (gName 10) gNil))))))) rfl sc_first_way_onward.nd (pi_list (pe_mt m_steps hr (by decide) (pv 1) (pa_cons (pv 3) pa_nil))) (blkOk_by (N := ["state", "net", "lefts", "place", "own", "other", "behind", "bit", "read", "marked", "many"]) (sc := fnScope s_first_way_onward) (by decide +kernel)) (fun _ _ _ _ _ => (pg_tup rfl (pgs_cons (pg_name (i := 6) sc_first_way_onward.nd rfl (Or.inl rfl)) (pgs_cons (pg_name (i := 7) sc_first_way_onward.nd rfl (Or.inl rfl)) (pgs_cons (pg_name (i := 8) sc_first_way_onward.nd rfl (Or.inl rfl)) (pgs_cons (pg_name (i := 9) sc_first_way_onward.nd rfl (Or.inl rfl)) (pgs_cons (pg_name (i := 10) sc_first_way_onward.nd rfl (Or.inl rfl)) pgs_nil))))))) (fun _ _ _ _ _ => pts_nil) (fun _ _ _ _ _ => (pe_tup (pa_cons (pe_tup (pa_cons (pv 7) (pa_cons (pv 9) pa_nil))) (pa_cons (pe_tup (pa_cons (pv 6) (pa_cons (pe_mt m_behind hr (by decide) (pv 2) (pa_cons (pv 4) (pa_cons (pv 7) pa_nil))) (pa_cons (pe_mt m_behind hr (by decide) (pv 2) (pa_cons (pv 5) (pa_cons (pv 8) pa_nil))) pa_nil)))) pa_nil)))))))), ?_⟩
    obtain ⟨l1, l2, l3, l4, l5⟩ := lfF_look W.c W.kn W.st0
    obtain ⟨t, i, rfl, hi, et⟩ := id hst
    obtain ⟨M0, m1, m2⟩ := wa.net
    have hx := numL_some hi
    have hup := wa.up _ (List.mem_of_getElem? hx)
    have ok := uo.pk _ hup
    obtain ⟨g1, g2, g3, M, g4, g5⟩ := netGo_ok m2 hx
    have hLM : (netGo W.A (L, M0) i).1 = L ++ M := g4
    have upM : ∀ x ∈ L ++ M, x ∈ W.UP := fun x h => by
      rcases List.mem_append.mp h with h | h
      · exact wa.up x h
      · obtain ⟨r, hr, e⟩ := g5 x h
        rw [← e]
        exact (uo.ps _ hup r hr).1
    have hz1 : (netGo W.A (L, M0) i).1.length < sizeLine := by
      refine Nat.lt_of_le_of_lt (Bw.nodup_len g1.nd fun x h => ?_) uo.few
      rw [hLM] at h
      exact upM x h
    have hz2 : M0.length < sizeLine := by
      have h1 : M0.length ≤ L.length := by
        have h2 := Bw.nodup_len (u := List.range L.length) m2.ks fun n hn => by
          obtain ⟨m, hm, rfl⟩ := List.mem_map.mp hn
          obtain ⟨x, h3, _⟩ := m2.st m hm
          exact List.mem_range.mpr (List.getElem?_eq_some_iff.mp h3).1
        rw [List.length_map, List.length_range] at h2
        exact h2
      refine Nat.lt_of_le_of_lt h1 (Nat.lt_of_le_of_lt (Bw.nodup_len m2.nd fun x h => wa.up x h) uo.few)
    refine ⟨.ref t, rfl, t, _, rfl, .inl (.inl et), rfl, _, _, rfl, _, _, rfl, _, _, rfl, rfl, ?_⟩
    have hσ : NdefX.startF ["state", "net", "lefts", "place", "own", "other", "behind", "bit", "read", "marked", "many"] [V.ref t] [some (V.ref W.p), some (V.ref W.lf)] = [some (V.ref t), some (V.ref W.p), some (V.ref W.lf), none, none, none, none, none, none, none, none] := rfl
    rw [hσ]
    dsimp only [gName, List.set]
    refine ⟨.ref W.p, rfl, W.p, W.dx, W.fs, rfl, wa.ep, wa.nf.n8, .int (i : Nat), rfl, ?_⟩
    refine ⟨W.p, W.dx, W.rp, W.kt, W.lp, W.d, W.st, W.fs, W.A, S, (L, M0), i, st.1, rfl, wa.ep, wa.nf, wa.nt, m1, hx, ok, hz1, hz2, fun H1 S1 l wsl b3 na1 hS1 hlS el pw => ?_⟩
    rw [g2] at pw
    have k1 : KpS H H1 := b3.kps m1
    obtain ⟨KN, kn1, kn2, kn3⟩ := wa.kn
    have hkna := kn_apart m1 kn1
    have ekn1 : H1 W.kn = some (.dT (KN.map (entK W.poly))) := b3 _ _ (fun z => hkna (.inl z)) (fun z => hkna (.inr (.inl z))) (fun z => hkna (.inr (.inr (.inl z)))) kn1
    have wa1 : WAt P w K CN CL CRule CC W H1 (L ++ M) S1 := by
      obtain ⟨dc, ec⟩ := wa.ck
      refine ⟨k1 _ _ wa.ep trivial, wa.nf, wa.nt.kps k1, ⟨(netGo W.A (L, M0) i).2, ?_, ?_⟩, k1 _ _ wa.el trivial, ⟨dc, k1 _ _ ec trivial⟩, ⟨KN, ekn1, kn2, kn3⟩, upM⟩
      · rw [← hLM]
        exact na1
      · rw [← hLM]
        exact g1
    have bW1 : ButW W S H H1 := fun a o e n => b3 a o (fun z => n (.inl (.inl z))) (fun z => n (.inl (.inr (.inl z)))) (fun z => n (.inl (.inr (.inr (.inl z))))) e
    rw [hLM] at pw g3
    refine ⟨l, rfl, ⟨wsl, .inl (.inl el)⟩, fun G hG => ?_⟩
    have hGn : ¬ FpW W S1 G := fun f => by
      obtain ⟨o, e, _⟩ := wa1.there f
      rw [hG] at e
      cases e
    have hGH : H G = none := by
      cases e : H G with
      | none => rfl
      | some o =>
        exfalso
        by_cases f : FpW W S G
        · rcases f with (f | f | f | f) | f
          · exact hGn (.inl (.inl f))
          · exact hGn (.inl (.inr (.inl f)))
          · exact hGn (.inl (.inr (.inr (.inl f))))
          · obtain ⟨m, _, wss, e2, _⟩ := paired_left m1.ls G f
            rw [b3 _ _ (fun z => hGn (.inl (.inl z))) (fun z => hGn (.inl (.inr (.inl z)))) (fun z => hGn (.inl (.inr (.inr (.inl z))))) e2] at hG
            cases hG
          · exact hGn (.inr f)
        · rw [bW1 _ _ e f] at hG
          cases hG
    have e12 : ∀ a o, H1 a = some o → (upd H1 G (.lst [])) a = some o := fun a o e => same_new hG _ _ e
    refine lc_it (walk_list (K := K) (a := l) (xs := wsl)) (fun j H4 => WAt P w K CN CL CRule CC W H4 (L ++ M) S1 ∧ (∀ a o, a ≠ W.kn → H1 a = some o → H4 a = some o) ∧ ∃ gs, H4 G = some (.lst gs) ∧ Paired (MsAt H4 (L ++ M)) gs ((gX W.A W.poly st).take j))
      ⟨wa1.same (same_new hG), fun a o _ e => e12 a o e, [], upd_same, .nil⟩ (fun j H4 _ h => .inl (.inl (h.2.1 _ _ (fun z => by rw [z, ekn1] at el; cases el) el))) (fun j y H4o H4 hj hp hy => ?_) (fun H4 hp => ?_)
    · obtain ⟨rfl, hy⟩ := hy
      obtain ⟨wa4, b4, gs, eG, pg⟩ := hp
      obtain ⟨z, hz, ty, hv, rfl, ety, hht⟩ := paired_getE pw hy
      rw [List.getElem?_map] at hz
      obtain ⟨r, hr1, rfl⟩ := Option.map_eq_some_iff.mp hz
      obtain ⟨i2, hi2⟩ := numL_mem (g3 r (List.mem_of_getElem? hr1))
      have hnum : (numK (L ++ M) r).1.1 = i2 := by
        show (numL (L ++ M) r.1.1).getD 0 = i2
        rw [hi2]
        rfl
      rw [hnum] at ety
      have hknk : KpS H1 H4 := fun a o e s => b4 a o (fun z => by rw [z, ekn1] at e; cases e; exact s) e
      have ety4 := hknk.tup _ _ ety
      have hht4 := hht.tups hknk.tup
      have hru := uo.ps _ hup r (List.mem_of_getElem? hr1)
      refine ⟨ty, _, rfl, .inl (.inl ety4), rfl, _, _, rfl, _, _, rfl, _, _, rfl, _, _, rfl, _, _, rfl, rfl, rfl, ?_⟩
      refine ⟨.str (WS [r.1.2.1]), rfl, hv, rfl, by show 2 ≤ sizeLine; decide, fun t1 ht1 => ?_⟩
      have s41 := same_new (o := .tup [.str (WS [r.1.2.1]), hv]) ht1
      have wa41 := wa4.same s41
      obtain ⟨KN4, kn41, kn42, kn43⟩ := wa41.kn
      obtain ⟨c41, c42, c43⟩ := uo.lk _ hl1
      obtain ⟨d41, d42, d43⟩ := uo.lk _ hl2
      have s9 := uo.s9
      refine ⟨.int (i2 : Nat), rfl, .ref W.lf, rfl, W.lf, W.dl, _, rfl, wa41.el, l5, .str (lfT st.2.1), rfl, .str (WS [r.1.2.1]), rfl, ?_⟩
      refine ⟨W.lf, W.dl, W.c, W.kn, W.poly, W.st0, st.2.1, [r.1.2.1], KN4, rfl, wa41.el, wa41.ck, c42, c43, s9, by simp, c41, kn41, kn_few kn42 kn43 uo.kb, fun H5 b5 kn5 => ?_⟩
      have k45 : KpS (upd H4 t1 (.tup [.str (WS [r.1.2.1]), hv])) H5 := fun a o e s => b5 a o (fun z => by
        have h5 : (upd H4 t1 (.tup [.str (WS [r.1.2.1]), hv])) W.kn = some (.dT _) := kn41
        rw [z, h5] at e
        cases e
        exact s) e
      obtain ⟨kn5b, kn5c⟩ := knPut_ok kn42 kn43 (r := (st.2.1, [r.1.2.1])) ⟨hl1, by simp⟩
      have wa5 : WAt P w K CN CL CRule CC W H5 (L ++ M) S1 := by
        obtain ⟨M4, n1, n2⟩ := wa41.net
        obtain ⟨dc, ec⟩ := wa41.ck
        have hkn2 := kn_apart n1 kn41
        exact ⟨k45 _ _ wa41.ep trivial, wa41.nf, wa41.nt.kps k45, ⟨M4, n1.keep k45 fun a o ha e => b5 a o (fun z => hkn2 (z ▸ ha)) e, n2⟩, k45 _ _ wa41.el trivial, ⟨dc, k45 _ _ ec trivial⟩, ⟨_, kn5, kn5b, kn5c⟩, wa41.up⟩
      refine ⟨.ref W.lf, rfl, W.lf, W.dl, _, rfl, wa5.el, l5, .str (lfT st.2.2), rfl, .str (WS r.1.2.2), rfl, ?_⟩
      refine ⟨W.lf, W.dl, W.c, W.kn, W.poly, W.st0, st.2.2, r.1.2.2, _, rfl, wa5.el, wa5.ck, d42, d43, s9, by have := hru.2; omega, d41, kn5, kn_few kn5b kn5c uo.kb, fun H6 b6 kn6 => ?_⟩
      have k56 : KpS H5 H6 := fun a o e s => b6 a o (fun z => by
        have h5 : H5 W.kn = some (.dT _) := kn5
        rw [z, h5] at e
        cases e
        exact s) e
      obtain ⟨kn6b, kn6c⟩ := knPut_ok kn5b kn5c (r := (st.2.2, r.1.2.2)) ⟨hl2, hru.2⟩
      have wa6 : WAt P w K CN CL CRule CC W H6 (L ++ M) S1 := by
        obtain ⟨M4, n1, n2⟩ := wa5.net
        obtain ⟨dc, ec⟩ := wa5.ck
        have hkn2 := kn_apart n1 kn5
        exact ⟨k56 _ _ wa5.ep trivial, wa5.nf, wa5.nt.kps k56, ⟨M4, n1.keep k56 fun a o ha e => b6 a o (fun z => hkn2 (z ▸ ha)) e, n2⟩, k56 _ _ wa5.el trivial, ⟨dc, k56 _ _ ec trivial⟩, ⟨_, kn6, kn6b, kn6c⟩, wa5.up⟩
      refine ⟨by show 3 ≤ sizeLine; decide, fun t2 ht2 => ⟨by show 2 ≤ sizeLine; decide, fun t3 ht3 => ?_⟩⟩
      have s67 := same_new (o := .tup [.int (i2 : Nat), .str (lfT (lefB W.poly st.2.1 [r.1.2.1])), .str (lfT (lefB W.poly st.2.2 r.1.2.2))]) ht2
      have s78 := same_new (o := .tup [.ref t1, .ref t2]) ht3
      have s68 := s67.trans s78
      have k48 : KpS H4 (upd (upd H6 t2 (.tup [.int (i2 : Nat), .str (lfT (lefB W.poly st.2.1 [r.1.2.1])), .str (lfT (lefB W.poly st.2.2 r.1.2.2))])) t3 (.tup [.ref t1, .ref t2])) := ((KpS.of s41).trans (k45.trans k56)).trans (KpS.of s68)
      have b46 : ∀ a o, a ≠ W.kn → H4 a = some o → (upd (upd H6 t2 (.tup [.int (i2 : Nat), .str (lfT (lefB W.poly st.2.1 [r.1.2.1])), .str (lfT (lefB W.poly st.2.2 r.1.2.2))])) t3 (.tup [.ref t1, .ref t2])) a = some o := fun a o n e => s68 _ _ (b6 _ _ n (b5 _ _ n (s41 _ _ e)))
      have nGk : G ≠ W.kn := fun z => hGn (.inr z)
      have eG8 := b46 _ _ nGk eG
      have ms : MsAt (upd (upd H6 t2 (.tup [.int (i2 : Nat), .str (lfT (lefB W.poly st.2.1 [r.1.2.1])), .str (lfT (lefB W.poly st.2.2 r.1.2.2))])) t3 (.tup [.ref t1, .ref t2])) (L ++ M) (.ref t3) ((r.1.2.1, r.2.1), (r.1.1, lefB W.poly st.2.1 [r.1.2.1], lefB W.poly st.2.2 r.1.2.2)) :=
        ⟨t3, .ref t1, .ref t2, rfl, upd_same, ⟨t1, hv, rfl, s68 _ _ (k56.tup _ _ (k45.tup _ _ upd_same)), hht4.tups fun a xs e => k48.tup _ _ e⟩, t2, i2, rfl, hi2, s78 _ _ upd_same⟩
      have wa8 := wa6.same s68
      have hgl : (gX W.A W.poly st)[j]? = some ((r.1.2.1, r.2.1), (r.1.1, lefB W.poly st.2.1 [r.1.2.1], lefB W.poly st.2.2 r.1.2.2)) := by
        unfold gX
        rw [List.getElem?_map, hr1]
        rfl
      have pg8 := Paired.mono (fun _ _ h => MsAt.tups k48.tup h) pg
      revert b46 eG8 ms wa8 pg8
      generalize upd (upd H6 t2 (.tup [.int (i2 : Nat), .str (lfT (lefB W.poly st.2.1 [r.1.2.1])), .str (lfT (lefB W.poly st.2.2 r.1.2.2))])) t3 (.tup [.ref t1, .ref t2]) = H8
      intro b46 eG8 ms wa8 pg8
      have ku := KpS.upd (u := .lst (gs ++ [.ref t3])) eG8 (fun z => z)
      have gll : gs.length < sizeLine := by
        have h1 : (stepsX W.A st.1).length ≤ 2 * 16 ^ 5 := stepsX_len wa.nt.k3 ok
        rw [pg.length, List.length_take]
        refine Nat.lt_of_le_of_lt (Nat.min_le_right _ _) ?_
        unfold gX
        rw [List.length_map]
        exact Nat.lt_of_le_of_lt h1 (by decide)
      refine ⟨gs, eG8, gll, wa8.keep ku fun a o f e => by rw [upd_ne (fun z => hGn (by rw [← z]; exact f))]; exact e, fun a o n e => ?_, _, upd_same, ?_⟩
      · rw [upd_ne (ne_of_none e hG)]
        exact b46 _ _ n (b4 _ _ n e)
      · rw [take_sn hgl]
        exact ND.paired_snoc (ms.tups ku.tup) (Paired.mono (fun _ _ h => MsAt.tups ku.tup h) pg8)
    · obtain ⟨wa4, b4, gs, eG, pg⟩ := hp
      have hln : wsl.length = (gX W.A W.poly st).length := by
        rw [pw.length, List.length_map]
        unfold gX
        rw [List.length_map]
      rw [hln, List.take_length] at pg
      refine q H4 M S1 G gs wa4 (fun a o e n => b4 a o (fun z => n (.inr z)) (bW1 a o e n)) hS1 hGH (fun z => hGn (.inl (.inr (.inr (.inr z))))) eG pg

abbrev s_marks_to : Stmt := (topS 24)
theorem sc_marks_to : FnScope ["came", "place", "marks", "mark"] ["came", "place"] (fnScope s_marks_to) := fnScope_by (by decide +kernel)
theorem ok_marks_to {f : Addr} {fd : FuncData} (F : C8.Fun K "marks_to" "marks_to" s_marks_to f fd) (M : Mg mg) : FnOk P w K mg base CX0 1 f fd ["came", "place"] spMarksTo := by
  refine fn0 F sc_marks_to (fun vs H Q E h => ?_) (fun cdv A outer s H vs Q E hr h => ?_)
  · obtain ⟨D, L, kvs, c, qv, b, rfl, _⟩ := h
    rfl
  · obtain ⟨D, L, kvs, c, qv, b, rfl, eD, pk, wf, kn, hst, hbc, hcl, q⟩ := h
    refine ⟨_, (pss_cons (ps_set (i := 2) sc_marks_to.nd rfl (Or.inl rfl) (pe_lst pa_nil))
        (pss_cons (ps_while PassesOwn.never (pt_cmpR op_notN (pe_dget (hu_of hr) (pv 0) (pv 1) (fun _ _ => rfl)) pe_non (nomark _))
          (pss_cons (ps_asg (pe_dget (hu_of hr) (pv 0) (pv 1) (fun _ _ => rfl)) (pg_tup rfl (pgs_cons (pg_name (i := 3) sc_marks_to.nd rfl (Or.inl rfl)) (pgs_cons (pg_name (i := 1) sc_marks_to.nd rfl (Or.inl rfl)) pgs_nil))))
            (pss_one (ps_expr (pe_bm PySem.F.plainAttrs_list PySem.F.slot_list_append PySem.F.type_list_append mt_append (pv 2) (pa_cons (pv 3) pa_nil))))))
        (pss_one (ps_ret (pe_revL (pv 2)))))), ?_⟩
    refine ⟨by show 0 ≤ sizeLine; decide, fun lm hlm => ?_⟩
    obtain ⟨r0, hr0, hb0⟩ := List.mem_map.mp hbc
    obtain ⟨i0, hi0⟩ := List.getElem?_of_mem hr0
    have hi0 : c[i0]? = some (b, r0.2) := by rw [hi0, ← hb0]
    have hil := (List.getElem?_eq_some_iff.mp hi0).1
    have hR : Bw.mkTo c.length c b = Bw.mkTo (i0 + 1) c b := Bw.mkTo_at wf i0 b r0.2 _ _ hi0 hil (by omega)
    refine ⟨fun m σ H3 => ∃ (qv3 : V) (x3 : Option V) (b3 : PSt) (i : Nat) (o : Option (Mk × PSt)) (xs : List V) (dn : List Mk), σ = [some (.ref D), some qv3, some (.ref lm), x3] ∧ Same H H3 ∧ StAt H L qv3 b3 ∧ c[i]? = some (b3, o) ∧ H3 lm = some (.lst xs) ∧ Paired (MkAt H) xs dn ∧ Bw.mkTo c.length c b = Bw.mkTo (i + 1) c b3 ++ dn.reverse ∧ dn.length + i < sizeLine ∧ m = i,
      ⟨i0, qv, none, b, i0, r0.2, [], [], rfl, same_new hlm, hst, hi0, upd_same, .nil, by rw [hR]; exact (List.append_nil _).symm, by show 0 + i0 < sizeLine; omega, rfl⟩, ?_⟩
    rintro m σ H3 ⟨qv3, x3, b3, i, o, xs, dn, rfl, s3, hst3, hi3, el3, px, hR3, hlen, rfl⟩
    obtain ⟨t3, rfl, et3, hbL3⟩ := hst3.key
    have inj : ∀ a ∈ c, keySt L a.1 = keySt L b3 → a.1 = b3 := fun a ha e => keySt_inj (kn a ha) hbL3 e
    have hg : AM.get c b3 = some o := Bw.get_at wf.nd hi3
    rcases rk_getW pk inj with ⟨h1, _⟩ | ⟨o2, v2, h1, h2, h3⟩
    · rw [hg] at h1
      cases h1
    rw [hg] at h1
    cases h1
    have hget : DGet H3 D (.ref t3) (some v2) := by
      have := DGet.t (s3 _ _ eD) (s3 _ _ et3)
      rw [h2] at this
      exact this
    refine ⟨.ref D, rfl, .ref t3, rfl, D, v2, rfl, hget, ?_⟩
    cases o with
    | none =>
      obtain rfl : v2 = .non := h3
      have hm0 : Bw.mkTo (m + 1) c b3 = [] := by
        unfold Bw.mkTo
        rw [hg]
      rw [hm0, List.nil_append] at hR3
      refine ⟨rfl, _, rfl, iteF ⟨.ref lm, rfl, lm, xs, rfl, .inl (.inl el3), fun l hl => ?_⟩⟩
      refine q _ l xs.reverse (s3.trans (same_new hl)) (s3.free hl) upd_same ?_
      rw [hR3]
      exact Paired.mono (fun _ _ h => MkAt.tups (fun a ys e => same_new hl _ _ (s3 _ _ e)) h) (paired_rev px)
    | some mp =>
      obtain ⟨mm, pp⟩ := mp
      obtain ⟨tv, mv, pv2, rfl, etv, hmk, hst2⟩ : CvAt H L v2 (some (mm, pp)) := h3
      obtain ⟨j, o4, hji, hj⟩ := wf.up m b3 mm pp hi3
      have hm1 : Bw.mkTo (m + 1) c b3 = Bw.mkTo (j + 1) c pp ++ [mm] := by
        rw [Bw.mkTo_some hg, Bw.mkTo_at wf j pp o4 m (j + 1) hj hji (by omega)]
      refine ⟨rfl, _, rfl, iteT ⟨_, fun σ' H' hW => hW, ?_⟩⟩
      refine ⟨.ref D, rfl, .ref t3, rfl, D, _, rfl, hget, tv, _, rfl, .inl (.inl (s3 _ _ etv)), rfl, _, _, rfl, _, _, rfl, rfl, ?_⟩
      refine ⟨.ref lm, rfl, .inl ⟨rfl, _, .inl (.inl el3)⟩, mv, rfl, lm, xs, _, rfl, rfl, el3, by rw [px.length]; omega, ?_⟩
      refine ⟨j, hji, pv2, some mv, pp, j, o4, xs ++ [mv], dn ++ [mm], rfl, fun a o e => by rw [upd_ne (ne_of_none e hlm)]; exact s3 _ _ e, hst2, hj, upd_same, ND.paired_snoc hmk px, ?_, by rw [List.length_append]; show dn.length + 1 + j < sizeLine; omega, rfl⟩
      rw [hR3, hm1, List.reverse_append, List.append_assoc]
      rfl

abbrev s_shortest_way : Stmt := (topS 23)
theorem sc_shortest_way : FnScope ["begin", "onward", "is_end", "came", "level", "following", "place", "mark", "behind"] ["begin", "onward", "is_end"] (fnScope s_shortest_way) := fnScope_by (by decide +kernel)
theorem ok_shortest_way {CN CL CRule CC f : Addr} {fd : FuncData} (F : C8.Fun K "shortest_way" "shortest_way" s_shortest_way f fd) (M : Mg mg) (c_marks_to : Cal P w K mg base 1 "marks_to" spMarksTo []) : Clo.FnOkH P w K mg base CX0 10 f fd ["begin", "onward", "is_end"] (Clo2.hSp2 (hSW P w K mg base 9 CN CL CRule CC)) := by
  refine Clo.fnH F sc_shortest_way (fun o h vs H Q E hh => ?_) (fun cdv A outer s H vs Q E hr hh => ?_)
  · obtain ⟨fr1, f1, F1, ws1, fr2, f2, F2, ws2, _, _, _, _, _, _, _, _, ps1, ps2, W, L, S, sv, st, rfl, _⟩ := hh
    rfl
  · obtain ⟨fr1, f1, F1, ws1, fr2, f2, F2, ws2, C_onward, nf_onward, hf1, hc1, C_is_end, nf_is_end, hf2, hc2, ps1, ps2, W, L, S, sv, st, rfl, hS0, Fn_onward, Fn_is_end, rfl, rfl, uo, wa, hst, hl1, hl2, n1, n2, n3, n4, q⟩ := hh
    have nex_onward : ∀ (y : Str) (c : Addr), F1.cl.lookup y = some c → c ∉ ([] : List Addr) := fun _ _ _ => List.not_mem_nil
    have nex_is_end : ∀ (y : Str) (c : Addr), F2.cl.lookup y = some c → c ∉ ([] : List Addr) := fun _ _ _ => List.not_mem_nil
    refine ⟨_, (pss_cons (ps_if (pt_val (Clo.pe_callp (i := 2) Fn_is_end C_is_end nf_is_end nex_is_end hr (by decide) (C8.pass0 (E := C8.E0)) rfl (Or.inl rfl) (pa_cons (pv 0) pa_nil)))
          (pss_one (ps_ret (pe_lst pa_nil)))
          pss_nil)
        (pss_cons (ps_set (i := 3) sc_shortest_way.nd rfl (Or.inl rfl) (DsT.pe_dispT (hu_of hr) (pv 0) pe_non))
        (pss_cons (ps_set (i := 4) sc_shortest_way.nd rfl (Or.inl rfl) (pe_lst (pa_cons (pv 0) pa_nil)))
        (pss_cons (ps_while PassesOwn.never (pt_truth (pv 4) (by intro _; rfl))
          (pss_cons (ps_set (i := 5) sc_shortest_way.nd rfl (Or.inl rfl) (pe_lst pa_nil))
            (pss_cons (ps_for PassesOwn.never rfl (pi_list (pv 4)) (pg_name (i := 6) sc_shortest_way.nd rfl (Or.inl rfl))
              (pss_one (ps_for PassesOwn.never rfl (pi_list (Clo.pe_callp (i := 1) Fn_onward C_onward nf_onward nex_onward hr (by decide) (C8.pass0 (E := C8.E0)) rfl (Or.inl rfl) (pa_cons (pv 6) pa_nil))) (pg_tup rfl (pgs_cons (pg_name (i := 7) sc_shortest_way.nd rfl (Or.inl rfl)) (pgs_cons (pg_name (i := 8) sc_shortest_way.nd rfl (Or.inl rfl)) pgs_nil)))
                  (pss_one (ps_if (pt_cmp (pc_dnotin (hu_of hr) (pv 8) (pv 3)))
                      (pss_cons (ps_dput (hu_of hr) (pv 3) (pv 8) (pe_tup (pa_cons (pv 7) (pa_cons (pv 6) pa_nil))) rfl)
                        (pss_cons (ps_if (pt_val (Clo.pe_callp (i := 2) Fn_is_end C_is_end nf_is_end nex_is_end hr (by decide) (C8.pass0 (E := C8.E0)) rfl (Or.inl rfl) (pa_cons (pv 8) pa_nil)))
                          (pss_one (ps_ret (pe_c c_marks_to hr (by decide) (by rfl) (pa_cons (pv 3) (pa_cons (pv 8) pa_nil)))))
                          pss_nil)
                        (pss_one (ps_expr (pe_bm PySem.F.plainAttrs_list PySem.F.slot_list_append PySem.F.type_list_append mt_append (pv 5) (pa_cons (pv 8) pa_nil))))))
                      pss_nil)))))
            (pss_one (ps_set (i := 4) sc_shortest_way.nd rfl (Or.inl rfl) (pv 5))))))
        (pss_one (ps_ret pe_non)))))), ?_⟩
    have fin : ∀ (H' : Hp) (L' : List Plc) (S' : List Addr) (D : Addr) (c : CmS) (r : V), SwSt P w K CN CL CRule CC W H L S H' L' S' D c → RwAt H H' r (wayM W.A W.poly W.st0.length st) → Q r H' := fun H' L' S' D c r sw hr => by
      obtain ⟨M0, hM⟩ := sw.pre
      have wa2 := sw.wa
      rw [hM] at wa2
      exact q H' M0 S' r wa2 sw.bw sw.sn hr
    refine ⟨rfl, hf2, sv, rfl, hf2, hc2, W, L, S, sv, st, rfl, rfl, uo, wa, hst, hl1, hl2, fun H1 s1 => ⟨_, rfl, ?_⟩⟩
    cases he0 : eX W.A W.st0.length st with
    | true =>
      refine iteT ⟨by show 0 ≤ sizeLine; decide, fun l hl => ?_⟩
      have s2 := s1.trans (same_new (o := .lst []) hl)
      have := q _ [] S (.ref l) (by rw [List.append_nil]; exact wa.same s2) (fun a o e _ => s2 _ _ e) (fun a h => .inl h)
      refine this ?_
      have hw : wayM W.A W.poly W.st0.length st = some [] := by
        unfold wayM Bw.shortW
        rw [if_pos he0]
      rw [hw]
      exact ⟨l, [], rfl, s1.free hl, upd_same, .nil, by decide⟩
    | false =>
      refine iteF ?_
      have hw : wayM W.A W.poly W.st0.length st = (Bw.bfs (gX W.A W.poly) (eX W.A W.st0.length) sizeLine [(st, none)] [st]).map fun r => Bw.mkTo r.1.length r.1 r.2 := by
        unfold wayM Bw.shortW
        rw [if_neg (by rw [he0]; exact Bool.false_ne_true)]
      generalize hres : Bw.bfs (gX W.A W.poly) (eX W.A W.st0.length) sizeLine [(st, none)] [st] = res at hw
      refine fun D hD => ?_
      have wa1 := wa.same s1
      have hst1 := hst.tups fun a xs e => s1 _ _ e
      obtain ⟨t, rfl, et, hbL⟩ := hst1.key
      have hDt : t ≠ D := fun z => by rw [z, hD] at et; cases et
      refine ⟨.ref t, rfl, upd_same, keySt L st, t, rfl, by rw [upd_ne hDt]; exact et, ?_⟩
      rw [upd_upd]
      have sw1 := SwSt.start hS0 wa1 hst1 ⟨hl1, hl2⟩ hD
      have hD0 : H D = none := s1.free hD
      have sw2 : SwSt P w K CN CL CRule CC W H L S (upd H1 D (.dT [(keySt L st, .non)])) L S D [(st, none)] := ⟨sw1.wa, sw1.pre, fun a o e n => sw1.bw _ _ (s1 _ _ e) n, fun a h => .inl h, hD0, sw1.dn, sw1.cm, sw1.wf, sw1.kn, sw1.un, hS0⟩
      have hst2 := hst1.tups fun a xs e => same_new (o := .dT [(keySt L st, .non)]) hD _ _ e
      dsimp only [gName, List.set]
      revert sw2 hst2
      generalize upd H1 D (.dT [(keySt L st, .non)]) = H2
      intro sw2 hst2
      clear sw1 wa1 hst1 hDt et
      refine ⟨.ref t, rfl, by show 1 ≤ sizeLine; decide, fun lv hlv => ?_⟩
      have hfew := uo.big
      obtain ⟨hlv0, nlv, _⟩ := sw2.new hlv
      refine ⟨fun m σ H3 => ∃ (L3 : List Plc) (S3 : List Addr) (c : CmS) (lvs : List PSt) (x5 x6 x7 x8 : Option V) (lv : Addr) (xs : List V), σ = [some (.ref t), some (.ref f1), some (.ref f2), some (.ref D), some (.ref lv), x5, x6, x7, x8] ∧ SwSt P w K CN CL CRule CC W H L S H3 L3 S3 D c ∧ H3 lv = some (.lst xs) ∧ Paired (StAt H3 L3) xs lvs ∧ (∀ s ∈ lvs, s ∈ c.map (·.1)) ∧ H lv = none ∧ ¬ FpW W S3 lv ∧
          Bw.bfs (gX W.A W.poly) (eX W.A W.st0.length) m c lvs = res ∧ W.UP.length * (W.LU.length * W.LU.length) - c.length + (if lvs = [] then 0 else 1) + 1 ≤ m,
        ⟨sizeLine, L, S, _, [st], none, none, none, none, lv, _, rfl, sw2.same (same_new hlv), upd_same, .cons (hst2.tups fun a xs e => same_new hlv _ _ e) .nil, fun s hs => by rw [List.mem_singleton.mp hs]; exact List.mem_cons_self, hlv0, nlv, hres, ?_⟩, ?_⟩
      · show _ - 1 + 1 + 1 ≤ sizeLine
        have : 1 ≤ W.UP.length * (W.LU.length * W.LU.length) := sw2.few
        omega
      rintro m σ H3 ⟨L3, S3, c, lvs, x5, x6, x7, x8, lv, xs, rfl, sw3, elv3, pl3, hlk, hlv0, nlv, hbfs, hm⟩
      refine ⟨.ref lv, rfl, !xs.isEmpty, .inl ⟨xs, .inl (.inl elv3), rfl⟩, ?_⟩
      obtain ⟨m', rfl⟩ : ∃ k, m = k + 1 := ⟨m - 1, by omega⟩
      by_cases hxe : xs = []
      · subst hxe
        have hle : lvs = [] := List.length_eq_zero_iff.mp pl3.length.symm
        subst hle
        have hno : res = none := by rw [← hbfs]; exact Bw.bfs_nil
        refine iteF (fin H3 L3 S3 D c .non sw3 ?_)
        rw [hw, hno]
        exact rfl
      · have hle : lvs ≠ [] := fun z => hxe (List.length_eq_zero_iff.mp (by rw [pl3.length, z]; rfl))
        have e1 : (!xs.isEmpty) = true := by
          cases xs with
          | nil => exact absurd rfl hxe
          | cons _ _ => rfl
        rw [e1]
        rw [Bw.bfs_go hle] at hbfs
        rw [if_neg hle] at hm
        refine iteT ⟨_, fun σ' H' hW => hW, ?_⟩
        refine ⟨by show 0 ≤ sizeLine; decide, fun fl hfl => ?_⟩
        obtain ⟨hfl0, nfl, _⟩ := sw3.new hfl
        have nlf : lv ≠ fl := fun z => by rw [z, hfl] at elv3; cases elv3
        refine ⟨.ref lv, rfl, lv, rfl, ⟨_, .inl (.inl (same_new hfl _ _ elv3))⟩, ?_⟩
        refine for_it (walk_list (K := K) (a := lv) (xs := xs)) (fun j σ H4 => ∃ (L4 : List Plc) (S4 : List Addr) (c4 : CmS) (fs : List PSt) (x6 x7 x8 : Option V) (ys : List V), σ = [some (.ref t), some (.ref f1), some (.ref f2), some (.ref D), some (.ref lv), some (.ref fl), x6, x7, x8] ∧ SwSt P w K CN CL CRule CC W H L S H4 L4 S4 D c4 ∧ H4 lv = some (.lst xs) ∧ Paired (StAt H4 L4) xs lvs ∧ (∀ s ∈ lvs, s ∈ c4.map (·.1)) ∧ ¬ FpW W S4 lv ∧
            H4 fl = some (.lst ys) ∧ Paired (StAt H4 L4) ys fs ∧ (∀ s ∈ fs, s ∈ c4.map (·.1)) ∧ ¬ FpW W S4 fl ∧ c4.length = c.length + fs.length ∧ Bw.kL (gX W.A W.poly) (eX W.A W.st0.length) m' (lvs.drop j) c4 fs = res)
          ⟨L3, S3, c, [], _, _, _, [], rfl, sw3.same (same_new hfl), same_new hfl _ _ elv3, Paired.mono (fun _ _ h => StAt.tups (fun a ys e => same_new hfl _ _ e) h) pl3, hlk, nlv, upd_same, .nil, (fun s h => nomatch h), nfl, rfl, hbfs⟩ (fun j σ H4 _ h => ?_) (fun j y σ H4o H4 hj hp hy => ?_) (fun σ H4 hp => ?_)
        · obtain ⟨_, _, _, _, _, _, _, _, _, _, h, _⟩ := h
          exact .inl (.inl h)
        · obtain ⟨rfl, hy⟩ := hy
          obtain ⟨L4, S4, c4, fs, x6, x7, x8, ys, rfl, sw4, elv4, pl4, hlk4, nlv4, efl4, pf4, hfk4, nfl4, hcl4, hk4⟩ := hp
          obtain ⟨pp, hpp, hstp⟩ := paired_getE pl4 hy
          have hdrop : lvs.drop j = pp :: lvs.drop (j + 1) := by
            obtain ⟨hjl, e⟩ := List.getElem?_eq_some_iff.mp hpp
            rw [List.drop_eq_getElem_cons hjl, e]
          rw [hdrop, Bw.kL_cons] at hk4
          obtain ⟨rp, hrp, hrp1⟩ := List.mem_map.mp (hlk4 pp (List.mem_of_getElem? hpp))
          have hup := sw4.un rp hrp
          have hrp1 : rp.1 = pp := hrp1
          rw [hrp1] at hup
          refine ⟨rfl, sw4.bw _ _ hf1 n1, y, rfl, sw4.bw _ _ hf1 n1, sw4.bw _ _ hc1 n2, W, L4, S4, y, pp, rfl, rfl, uo, sw4.wa, hstp, hup.1, hup.2, fun H5 M5 S5 l vs' wa5 b5 s5 nl nlS el pms => ?_⟩
          have sw5 := sw4.step wa5 b5 s5
          have k45 := sw4.wa.kps b5
          have elv5 := b5 _ _ elv4 nlv4
          have efl5 := b5 _ _ efl4 nfl4
          have nlv5 := fpw_mono s5 elv4 nlv4
          have nfl5 := fpw_mono s5 efl4 nfl4
          obtain ⟨nl0, nlF4, nlD⟩ := sw4.new nl
          have nlF : ¬ FpW W S5 l := fun f => by
            rcases f with (f | f | f | f) | f
            · exact nlF4 (.inl (.inl f))
            · exact nlF4 (.inl (.inr (.inl f)))
            · exact nlF4 (.inl (.inr (.inr (.inl f))))
            · exact nlS f
            · exact nlF4 (.inr f)
          have nllv : l ≠ lv := fun z => by rw [z, elv4] at nl; cases nl
          have nlfl : l ≠ fl := fun z => by rw [z, efl4] at nl; cases nl
          have pl5 := Paired.mono (F' := StAt H5 (L4 ++ M5)) (fun _ _ h => StAt.mono k45.tup h) pl4
          have pf5 := Paired.mono (F' := StAt H5 (L4 ++ M5)) (fun _ _ h => StAt.mono k45.tup h) pf4
          have hst5 : StAt H5 (L4 ++ M5) y pp := hstp.mono k45.tup
          generalize L4 ++ M5 = L5 at sw5 pl5 pf5 hst5 pms wa5
          refine ⟨l, rfl, ⟨_, .inl (.inl el)⟩, ?_⟩
          have hppc : pp ∈ c4.map (·.1) := hlk4 pp (List.mem_of_getElem? hpp)
          refine for_it (walk_list (K := K) (a := l) (xs := vs')) (fun i σ H6 => ∃ (c6 : CmS) (f6 : List PSt) (x7 x8 : Option V) (ys : List V), σ = [some (.ref t), some (.ref f1), some (.ref f2), some (.ref D), some (.ref lv), some (.ref fl), some y, x7, x8] ∧ SwSt P w K CN CL CRule CC W H L S H6 L5 S5 D c6 ∧ KpS H5 H6 ∧ H6 lv = some (.lst xs) ∧ (∀ s ∈ lvs, s ∈ c6.map (·.1)) ∧
              H6 fl = some (.lst ys) ∧ Paired (StAt H6 L5) ys f6 ∧ (∀ s ∈ f6, s ∈ c6.map (·.1)) ∧ H6 l = some (.lst vs') ∧ c6.length = c.length + f6.length ∧ Bw.kI (gX W.A W.poly) (eX W.A W.st0.length) m' pp ((gX W.A W.poly pp).drop i) (lvs.drop (j + 1)) c6 f6 = res)
            ⟨c4, fs, _, _, ys, rfl, sw5, KpS.refl _, elv5, hlk4, efl5, pf5, hfk4, el, hcl4, hk4⟩ (fun i σ H6 _ h => ?_) (fun i z σ H6o H6 hi hp hz => ?_) (fun σ H6 hp => ?_)
          · obtain ⟨_, _, _, _, _, _, _, _, _, _, _, _, _, h, _⟩ := h
            exact .inl (.inl h)
          · obtain ⟨rfl, hz⟩ := hz
            obtain ⟨c6, f6, x7, x8, ys6, rfl, sw6, k6, elv6, hlk6, efl6, pf6, hfk6, el6, hcl6, hk6⟩ := hp
            obtain ⟨gr, hgr, tm, mv, sv2, rfl, etm, hmk, hst6⟩ := paired_getE pms hz
            have etm6 := k6.tup _ _ etm
            have hmk6 := hmk.tups k6.tup
            have hstb := hst6.tups k6.tup
            have hdi : (gX W.A W.poly pp).drop i = gr :: (gX W.A W.poly pp).drop (i + 1) := by
              obtain ⟨hil, e⟩ := List.getElem?_eq_some_iff.mp hgr
              rw [List.drop_eq_getElem_cons hil, e]
            rw [hdi] at hk6
            obtain ⟨tb, rfl, etb, hbL⟩ := hstb.key
            obtain ⟨kvs, eD6, pk6⟩ := sw6.cm
            refine ⟨tm, _, rfl, .inl (.inl etm6), rfl, _, _, rfl, _, _, rfl, rfl, ?_⟩
            refine ⟨.ref tb, rfl, .ref D, rfl, D, _, rfl, DGet.t eD6 etb, _, rfl, ?_⟩
            rcases rk_getW pk6 (sw6.keyInj hbL) with ⟨h1, h2⟩ | ⟨o2, v2, h1, h2, h3⟩
            · rw [h2]
              refine iteT ?_
              have hfew6 := sw6.few
              have hbig := uo.big
              have kl6 : kvs.length < sizeLine := by rw [pk6.length]; omega
              have hup2 : gr.2.2.1 ∈ W.LU ∧ gr.2.2.2 ∈ W.LU := by
                have hm := List.mem_of_getElem? hgr
                unfold gX at hm
                obtain ⟨r, hr, rfl⟩ := List.mem_map.mp hm
                have hLp := sw4.wa.up
                obtain ⟨_, _, _, hpL, _⟩ := id hstp
                have hp4 := uo.ps _ (sw4.wa.up _ (List.mem_of_getElem? (numL_some hpL))) r hr
                exact ⟨uo.ls _ hup.1 _ (by simp), uo.ls _ hup.2 _ hp4.2⟩
              refine ⟨mv, rfl, y, rfl, by show 2 ≤ sizeLine; decide, fun tn htn => ⟨.ref D, rfl, .ref tb, rfl, D, _, rfl, DPut.t (same_new htn _ _ eD6) (same_new htn _ _ etb) kl6, ?_⟩⟩
              have s67 := same_new (o := .tup [mv, y]) htn
              have t67 : ∀ a xs, H6 a = some (.tup xs) → (upd H6 tn (.tup [mv, y])) a = some (.tup xs) := fun a xs e => s67 _ _ e
              have hsty := (hst5.tups k6.tup).tups t67
              have hkp : pp ∈ c6.map (·.1) := hlk6 pp (List.mem_of_getElem? hpp)
              have sw8 := SwSt.put (m := gr.1) (v := .ref tn) (mv := mv) (tp := y) (sw6.same s67) (hstb.tups t67) hkp h1 ⟨tn, mv, y, rfl, upd_same, hmk6.tups t67, hsty⟩ hup2 (s67 _ _ eD6) (Paired.mono (F' := AM.RK (keySt L5) (CvAt (upd H6 tn (.tup [mv, y])) L5)) (fun _ _ h => ⟨h.1, h.2.tups t67⟩) pk6)
              have k68 : KpS H6 (upd (upd H6 tn (.tup [mv, y])) D (.dT (putK kvs (keySt L5 gr.2) (.ref tn)))) := (KpS.of s67).trans (KpS.upd (s67 _ _ eD6) fun z => z)
              have nD : ∀ {a : Addr} {zs : List V}, H6 a = some (.lst zs) → a ≠ D := fun {a zs} e z => by rw [z, eD6] at e; cases e
              have l68 : ∀ a zs, H6 a = some (.lst zs) → (upd (upd H6 tn (.tup [mv, y])) D (.dT (putK kvs (keySt L5 gr.2) (.ref tn)))) a = some (.lst zs) := fun a zs e => by
                rw [upd_ne (nD e)]
                exact s67 _ _ e
              have hstb8 := hstb.tups k68.tup
              revert sw8 k68 l68 hstb8
              generalize upd (upd H6 tn (.tup [mv, y])) D (.dT (putK kvs (keySt L5 gr.2) (.ref tn))) = H8
              intro sw8 k68 l68 hstb8
              clear s67 t67 htn
              refine ⟨rfl, sw8.bw _ _ hf2 n3, .ref tb, rfl, sw8.bw _ _ hf2 n3, sw8.bw _ _ hc2 n4, W, L5, S5, .ref tb, gr.2, rfl, rfl, uo, sw8.wa, hstb8, hup2.1, hup2.2, fun H9 s89 => ⟨_, rfl, ?_⟩⟩
              have sw9 := sw8.same s89
              cases hend : eX W.A W.st0.length gr.2 with
              | true =>
                rw [Bw.kI_end h1 hend] at hk6
                obtain ⟨kv9, eD9, pk9⟩ := sw9.cm
                refine iteT ⟨.ref D, rfl, .ref tb, rfl, D, L5, kv9, _, .ref tb, gr.2, rfl, eD9, pk9, sw9.wf, sw9.kn, hstb8.tups (fun a xs e => s89 _ _ e), ?_, ?_, fun H10 lr xr s910 nlr elr pmr => ?_⟩
                · rw [List.map_append]
                  exact List.mem_append_right _ List.mem_cons_self
                · have := sw9.few
                  omega
                · refine fin H10 L5 S5 D _ (.ref lr) (sw9.same s910) ?_
                  rw [hw, ← hk6]
                  exact ⟨lr, xr, rfl, (sw9.new nlr).1, elr, pmr, Nat.lt_of_le_of_lt (Bw.mkTo_len _ _ _) (Nat.lt_of_le_of_lt sw9.few hbig)⟩
              | false =>
                rw [Bw.kI_new h1 hend] at hk6
                have k9 := k68.trans (KpS.of s89)
                have efl9 := s89 _ _ (l68 _ _ efl6)
                have nst : ¬ Stab (.lst ys6) := fun z => z
                have ku := KpS.upd (u := .lst (ys6 ++ [.ref tb])) efl9 nst
                refine iteF ⟨.ref fl, rfl, .inl ⟨rfl, _, .inl (.inl efl9)⟩, .ref tb, rfl, fl, ys6, _, rfl, rfl, efl9, ?_, ?_⟩
                · rw [pf6.length]
                  have := sw9.few
                  rw [List.length_append] at this
                  omega
                refine ⟨_, f6 ++ [gr.2], _, _, ys6 ++ [.ref tb], rfl, sw9.upd efl9 hfl0 nfl5, (k6.trans k9).trans ku, ?_, fun s hs => ?_, upd_same, ND.paired_snoc ((hstb.tups k9.tup).tups ku.tup) (Paired.mono (F' := StAt _ L5) (fun _ _ h => (StAt.tups k9.tup h).tups ku.tup) pf6), fun s hs => ?_, ?_, ?_, hk6⟩
                · rw [upd_ne nlf]
                  exact s89 _ _ (l68 _ _ elv6)
                · rw [List.map_append]
                  exact List.mem_append_left _ (hlk6 s hs)
                · rw [List.map_append]
                  rcases List.mem_append.mp hs with hs | hs
                  · exact List.mem_append_left _ (hfk6 s hs)
                  · rw [List.mem_singleton.mp hs]
                    exact List.mem_append_right _ List.mem_cons_self
                · rw [upd_ne nlfl]
                  exact s89 _ _ (l68 _ _ el6)
                · rw [List.length_append, List.length_append, hcl6, Nat.add_assoc]
                  rfl
            · rw [h2]
              refine iteF ⟨c6, f6, _, _, ys6, rfl, sw6, k6, elv6, hlk6, efl6, pf6, hfk6, el6, hcl6, ?_⟩
              rw [Bw.kI_old (by rw [h1]; rfl)] at hk6
              exact hk6
          · obtain ⟨c6, f6, x7, x8, ys6, rfl, sw6, k6, elv6, hlk6, efl6, pf6, hfk6, el6, hcl6, hk6⟩ := hp
            rw [pms.length, List.drop_length] at hk6
            exact ⟨L5, S5, c6, f6, _, _, _, ys6, rfl, sw6, elv6, Paired.mono (F' := StAt H6 L5) (fun _ _ h => StAt.tups k6.tup h) pl5, hlk6, nlv5, efl6, pf6, hfk6, nfl5, hcl6, hk6⟩
        · obtain ⟨L4, S4, c4, fs, x6, x7, x8, ys, rfl, sw4, elv4, pl4, hlk4, nlv4, efl4, pf4, hfk4, nfl4, hcl4, hk4⟩ := hp
          rw [pl3.length, List.drop_length] at hk4
          refine ⟨.ref fl, rfl, m', Nat.lt_succ_self _, L4, S4, c4, fs, _, _, _, _, fl, ys, rfl, sw4, efl4, pf4, hfk4, hfl0, nfl4, hk4, ?_⟩
          have hf4 := sw4.few
          rw [hcl4] at hf4 ⊢
          by_cases hfe : fs = []
          · subst hfe
            rw [if_pos rfl, List.length_nil]
            omega
          · rw [if_neg hfe]
            have := List.length_pos_iff.mpr hfe
            omega

abbrev s_begin_of : Stmt := (topS 32)
theorem sc_begin_of : FnScope ["net", "lefts"] ["net", "lefts"] (fnScope s_begin_of) := fnScope_by (by decide +kernel)
theorem ok_begin_of {CN CL f : Addr} {fd : FuncData} (F : C8.Fun K "begin_of" "begin_of" s_begin_of f fd) (M : Mg mg) (T : NtT K CN) (TL : LfT K CL) : FnOk P w K mg base CX0 1 f fd ["net", "lefts"] (spBeginOf CN CL) := by
  refine fn0 F sc_begin_of (fun vs H Q E h => ?_) (fun cdv A outer s H vs Q E hr h => ?_)
  · obtain ⟨p, dx, lf, dl, fs, c, kn, st, rfl, _⟩ := h
    rfl
  · obtain ⟨p, dx, lf, dl, fs, c, kn, st, rfl, e1, hb, e2, q⟩ := h
    refine ⟨_, (pss_one (ps_ret (pe_tup (pa_cons (pe_fld (pv 0) rfl) (pa_cons (pe_fld (pv 1) rfl) (pa_cons (pe_fld (pv 1) rfl) pa_nil)))))), ?_⟩
    obtain ⟨l1, l2, l3, l4, l5⟩ := lfF_look c kn st
    refine ⟨.ref p, rfl, p, CN, dx, fs, _, rfl, e1, T.cl, T.nB, hb, .ref lf, rfl, lf, CL, dl, _, _, rfl, e2, TL.cl, TL.nB, l3, .ref lf, rfl, lf, CL, dl, _, _, rfl, e2, TL.cl, TL.nB, l3, by show 3 ≤ sizeLine; decide, fun t ht => ?_⟩
    exact q _ t (same_new ht) ht upd_same
abbrev s_first_way_is_last : Stmt := ((C8.fnBody (topS 34)).getD 3 (.Pass ⟨0, 0, 0, 0⟩))
theorem sc_first_way_is_last : NdefX.NScope ["state", "net", "lefts"] ["state"] ["net", "lefts"] (C8.fnScope s_first_way_is_last) := NdefX.nscope_by (by decide +kernel)
theorem ok_first_way_is_last {CN CL CRule CC f c' : Addr} {qual : Str} {cl : List (Str × Addr)} (M : Mg mg) (c_is_unseen : Cal P w K mg base 5 "is_unseen" (spIsUnseen P w K CN CL CRule CC) []) :
    NdefX.NOk P w K mg base CX0 6 f (NdefX.NF.of s_first_way_is_last "is_last" qual cl c') ["state"] ["net", "lefts"] (spLastU P w K CN CL CRule CC) := by
  refine NdefX.nok_of (N := ["state", "net", "lefts"]) sc_first_way_is_last (fun doc pm ctv us hl => ?_) (fun ws vs H Q E h => ?_) (fun A outer s H vs ws Q E hr hf hc hwl h => ?_)
  · match us, hl with
    | [a], _ => rfl
  · obtain ⟨W, L, S, sv, st, _, rfl, _⟩ := h
    rfl
  · obtain ⟨W, L, S, sv, st, rfl, rfl, uo, wa, hst, hl1, hl2, q⟩ := h
    refine ⟨_, (pss_one (ps_ret (pe_c c_is_unseen hr (by decide) (by rfl) (pa_cons (pv 1) (pa_cons (pv 2) (pa_cons (pv 0) pa_nil)))))), ?_⟩
    exact ⟨.ref W.p, rfl, .ref W.lf, rfl, sv, rfl, W, L, S, sv, st, rfl, uo, wa, hst, hl1, hl2, q⟩
abbrev s_first_way : Stmt := (topS 34)
theorem sc_first_way : FnScope ["rule", "check", "kinds", "hits", "how", "net", "lefts", "onward", "is_last"] ["rule", "check", "kinds", "hits", "how"] (fnScope s_first_way) := fnScope_by (by decide +kernel)
def mkW1 (n : Nat) (c' : Addr) : NdefX.NF := NdefX.NF.of s_first_way_onward "onward" (("first_way" : Str) ++ ".<locals>." ++ "onward") (cloFrom (cellsFrom (n + 1) (C8.fnScope s_first_way).names []) (C8.fnScope s_first_way_onward).names []) c'
def mkW2 (n : Nat) (c' : Addr) : NdefX.NF := NdefX.NF.of s_first_way_is_last "is_last" (("first_way" : Str) ++ ".<locals>." ++ "is_last") (cloFrom (cellsFrom (n + 1) (C8.fnScope s_first_way).names []) (C8.fnScope s_first_way_is_last).names []) c'
theorem nd_first_way1 : NdefX.ndefB (C8.fnScope s_first_way) (C8.fnScope s_first_way_onward) ["net", "lefts"] = true := by decide +kernel
theorem nd_first_way2 : NdefX.ndefB (C8.fnScope s_first_way) (C8.fnScope s_first_way_is_last) ["net", "lefts"] = true := by decide +kernel
def nmW : Nat → Nat → Str := fun l _ => if l = 294 then ("first_way" : Str) ++ ".<locals>." ++ "is_last" else ("first_way" : Str) ++ ".<locals>." ++ "onward"
theorem ok_first_way {CN CL CRule CC f cc P1 g : Addr} {fd fdg : FuncData} {TT : List NdefX.NTab} (F : C8.Fun K "first_way" "first_way" s_first_way f fd) (M : Mg mg) (hcd : fd.code = .ref cc) (TB : LamX.TabB base mg cc P1) (hm : (P1, nmW) ∈ TT) (hu : ∀ p ∈ TT, p.1 = P1 → p.2 = nmW)
    (TN : NtT K CN) (TL : LfT K CL) (k_Net : Mak P w K mg base 3 "Net" CN (spNtInit P w K CN) []) (k_Lefts : Mak P w K mg base 3 "Lefts" CL (spLfInit CL CC) []) (m_steps : Met P w K mg base 8 CN "steps" (spSteps P w K CN CRule) []) (m_behind : Met P w K mg base 4 CL "behind" (spLfBehind CL CC) []) (c_is_unseen : Cal P w K mg base 5 "is_unseen" (spIsUnseen P w K CN CL CRule CC) [])
    (c_begin_of : Cal P w K mg base 1 "begin_of" (spBeginOf CN CL) []) (H_shortest_way : Clo.FnOkH P w K mg base CX0 10 g fdg ["begin", "onward", "is_end"] (Clo2.hSp2 (hSW P w K mg base 9 CN CL CRule CC))) (g_shortest_way : mg "shortest_way" = some (.ref g)) (k_shortest_way : PySem.W.keepIn K (.ref g) = true) (b_shortest_way : Binds K fdg ["begin", "onward", "is_end"] []) : FnOk P w K mg base CX0 11 f fd ["rule", "check", "kinds", "hits", "how"] (spFirstWay K TT CRule CC) := by
  refine Clo.fn0c F sc_first_way (fun vs H Q E h => ?_) (fun cdv A outer s H vs Q E hcv hr h => ?_)
  · obtain ⟨rp, c, kl, o, AA, poly, st, UP, LU, rfl, _⟩ := h
    rfl
  · obtain ⟨rp, c, kl, o, AA, poly, st, UP, LU, rfl, rl, ru, ck, chk, hk, k3, uo, tb, q⟩ := h
    rw [hcd] at hcv
    subst hcv
    have NDEF_onward := NdefX.ps_ndefMS (X := (cxOf CX0 P w K mg base ["rule", "check", "kinds", "hits", "how", "net", "lefts", "onward", "is_last"] "first_way" (C8.fnScope s_first_way) f (.ref cc) A outer s H E).nox) (st := s_first_way_onward) (i := 7) (name := "onward") (T := TT) rfl TB rfl hm rfl hu (NdefX.ndef_free nd_first_way1) rfl rfl rfl sc_first_way.nd rfl (Or.inl rfl) (Or.inl rfl)
    have NDEF_is_last := NdefX.ps_ndefMS (X := (cxOf CX0 P w K mg base ["rule", "check", "kinds", "hits", "how", "net", "lefts", "onward", "is_last"] "first_way" (C8.fnScope s_first_way) f (.ref cc) A outer s H E).nox) (st := s_first_way_is_last) (i := 8) (name := "is_last") (T := TT) rfl TB rfl hm rfl hu (NdefX.ndef_free nd_first_way2) rfl rfl rfl sc_first_way.nd rfl (Or.inl rfl) (Or.inl rfl)
    have cp1_shortest_way := fun (k : (cxOf CX0 P w K mg base ["rule", "check", "kinds", "hits", "how", "net", "lefts", "onward", "is_last"] "first_way" (C8.fnScope s_first_way) f (.ref cc) A outer s H E).nox.Ok) => NdefX.Caps.made (fr := ["net", "lefts"]) (js := [5, 6]) k (NdefX.ndef_free nd_first_way1) (NdefX.ndef_fr nd_first_way1) rfl
    have cp2_shortest_way := fun (k : (cxOf CX0 P w K mg base ["rule", "check", "kinds", "hits", "how", "net", "lefts", "onward", "is_last"] "first_way" (C8.fnScope s_first_way) f (.ref cc) A outer s H E).nox.Ok) => NdefX.Caps.made (fr := ["net", "lefts"]) (js := [5, 6]) k (NdefX.ndef_free nd_first_way2) (NdefX.ndef_fr nd_first_way2) rfl
    refine ⟨_, (pss_cons (ps_set (i := 5) sc_first_way.nd rfl (Or.inr rfl) (pe_mk k_Net hr (by decide) (by rfl) (pa_cons (pv 0) (pa_cons (pv 2) (pa_cons (pv 3) (pa_cons (pv 4) pa_nil))))))
        (pss_cons (ps_set (i := 6) sc_first_way.nd rfl (Or.inr rfl) (pe_mk k_Lefts hr (by decide) (by rfl) (pa_cons (pv 1) pa_nil)))
        (pss_cons (NDEF_onward)
        (pss_cons (NDEF_is_last)
        (pss_one (ps_ret (Clo2.pe_callC2 (mk1 := mkW1 s.heap.objs.size) (fr1 := ["net", "lefts"]) (js1 := [5, 6]) (mk2 := mkW2 s.heap.objs.size) (fr2 := ["net", "lefts"]) (js2 := [5, 6]) H_shortest_way (fun _ => rfl) cp1_shortest_way (fun _ => rfl) cp2_shortest_way (fun _ => rfl) hr (by decide) (by rfl) g_shortest_way k_shortest_way b_shortest_way (pa_cons (pe_c c_begin_of hr (by decide) (by rfl) (pa_cons (pv 5) (pa_cons (pv 6) pa_nil))) (pa_cons (pv 7) (pa_cons (pv 8) pa_nil)))))))))), ?_⟩
    refine ⟨.ref rp, rfl, .ref kl, rfl, .int (AA.most : Nat), rfl, .str AA.hw.str, rfl, fun p dx hp hdx ne => ?_⟩
    have hS : ∀ a o, H a = some o → (upd (upd H dx (.own p)) p (.ins CN dx [])) a = some o := fun a o e => by rw [upd_ne (ne_of_none e hp), upd_ne (ne_of_none e hdx)]; exact e
    refine ⟨p, dx, rp, kl, o, AA.ks, AA.most, AA.hw, rfl, upd_same, SqK.same hk hS, k3, fun H2 kt lp d std b1 e1 fl1 fd1 fs1 hkt na => ⟨rfl, ?_⟩⟩
    have s2 : Same H H2 := fun a o e => b1 a o (ne_of_none e hp) (hS a o e)
    have nfr : ∀ {a : Addr}, (upd (upd H dx (.own p)) p (.ins CN dx [])) a = none → H a = none := fun {a} e => by
      cases h : H a with
      | none => rfl
      | some o => rw [hS a o h] at e; cases e
    have fl0 := nfr fl1
    have fd0 := nfr fd1
    have fs0 := nfr fs1
    clear fl1 fd1 fs1 b1 hS nfr ne
    dsimp only [gName, List.set]
    refine ⟨.ref c, rfl, fun lf dl hlf hdl nel => ?_⟩
    have hS2 : ∀ a o, H2 a = some o → (upd (upd H2 dl (.own lf)) lf (.ins CL dl [])) a = some o := fun a o e => by rw [upd_ne (ne_of_none e hlf), upd_ne (ne_of_none e hdl)]; exact e
    obtain ⟨dc, ec⟩ := id ck
    have ec2 := s2 _ _ ec
    refine ⟨lf, dl, c, poly, st, rfl, upd_same, ne_of_none ec2 hlf, ⟨dc, hS2 _ _ ec2⟩, chk, uo.s9, fun H4 kn b2 e2 fkn1 hkn => ⟨rfl, ?_⟩⟩
    have s24 : Same H2 H4 := fun a o e => b2 a o (ne_of_none e hlf) (hS2 a o e)
    have s4 := s2.trans s24
    have fkn0 : H kn = none := by
      cases h : H kn with
      | none => rfl
      | some o => rw [hS2 _ _ (s2 _ _ h)] at fkn1; cases fkn1
    clear b2 hS2 fkn1 nel
    dsimp only [gName, List.set]
    have na4 := na.same s24
    have wa4 : WAt P w K CN CL CRule CC ⟨p, dx, rp, kt, lp, d, std, lf, dl, c, kn, ntF rp kt lp d std AA.most AA.hw, AA, poly, st, UP, LU⟩ H4 [plc0 AA.hw] [] :=
      ⟨s24 _ _ e1, ntF_ok _ _ _ _ _ _ _, ⟨rl.same s4, ru, SqT.same hkt s24, k3⟩, ⟨[], na4, ⟨List.pairwise_singleton _ _, List.nodup_nil, fun m h => nomatch h⟩⟩, e2, ⟨dc, s4 _ _ ec⟩, ⟨[], hkn, List.nodup_nil, fun r h => nomatch h⟩, fun x hx => by rw [List.mem_singleton.mp hx]; exact uo.p0⟩
    have hWdef : ∃ W : WPar, W = ⟨p, dx, rp, kt, lp, d, std, lf, dl, c, kn, ntF rp kt lp d std AA.most AA.hw, AA, poly, st, UP, LU⟩ := ⟨_, rfl⟩
    have tb4 := tk_same tb s4
    refine ⟨tb4.tab, fun f1 c1 H5 x1 o1 t1 m1 g1 h1 => ⟨t1, fun f2 c2 H6 x2 o2 t2 m2 g2 h2 => ?_⟩⟩
    have x46 := x1.trans x2
    have tk6 : Tk TT H H6 := Tk.trans tb4 ⟨x46, t2, fun b e => o1 b (o2 b e)⟩
    have k46 : KpS H4 H6 := fun a o e s => x46 a o e fun ps z => by rw [z] at s; exact s
    have f46 : ∀ a o, FpW ⟨p, dx, rp, kt, lp, d, std, lf, dl, c, kn, ntF rp kt lp d std AA.most AA.hw, AA, poly, st, UP, LU⟩ [] a → H4 a = some o → H6 a = some o := fun a o f e => x46 a o e fun ps z => by
      subst z
      obtain ⟨as, nu⟩ := na4.num
      rcases f with (f | f | f | f) | f
      · rw [f] at e
        exact absurd (nu.nd.1.symm.trans e) (by intro z; cases z)
      · rw [f] at e
        exact absurd (nu.lst.symm.trans e) (by intro z; cases z)
      · rw [f] at e
        exact absurd (na4.kv.symm.trans e) (by intro z; cases z)
      · cases f
      · rw [f] at e
        exact absurd ((show H4 kn = some (.dT _) from hkn).symm.trans e) (by intro z; cases z)
    have wa6 := wa4.keep k46 f46
    have g16 := x2 _ _ g1 (fun ps => NdefX.fnO_ne ps)
    have h16 := x2 _ _ h1 (fun ps z => by unfold LamX.CodeO at z; cases z)
    refine ⟨.ref p, rfl, .ref lf, rfl, p, dx, lf, dl, ntF rp kt lp d std AA.most AA.hw, c, kn, st, rfl, wa6.ep, ntF_begin _ _ _ _ _ _ _, wa6.el, fun H7 t s67 ht et => ?_⟩
    have wa7 := wa6.same s67
    have g17 := s67 _ _ g16
    have h17 := s67 _ _ h16
    have g27 := s67 _ _ g2
    have h27 := s67 _ _ h2
    have nfp : ∀ {a : Addr}, H4 a = none → ¬ FpW ⟨p, dx, rp, kt, lp, d, std, lf, dl, c, kn, ntF rp kt lp d std AA.most AA.hw, AA, poly, st, UP, LU⟩ [] a := fun {a} e f => by
      obtain ⟨o, e2, _⟩ := wa4.there f
      rw [e] at e2
      cases e2
    obtain ⟨M7, n71, _⟩ := wa7.net
    obtain ⟨as7, nu7⟩ := n71.num
    obtain ⟨KN7, k71, _⟩ := wa7.kn
    have cfp : ∀ {a : Addr} {qq : Str}, H7 a = some (LamX.CodeO a qq) → ¬ FpW ⟨p, dx, rp, kt, lp, d, std, lf, dl, c, kn, ntF rp kt lp d std AA.most AA.hw, AA, poly, st, UP, LU⟩ [] a := fun {a qq} e f => by
      rcases f with (f | f | f | f) | f
      · subst f
        exact code_ne_nd (Option.some.inj (e.symm.trans nu7.nd.1))
      · rw [f] at e
        exact absurd (e.symm.trans nu7.lst) (by intro z; unfold LamX.CodeO at z; cases z)
      · rw [f] at e
        exact absurd (e.symm.trans n71.kv) (by intro z; unfold LamX.CodeO at z; cases z)
      · cases f
      · rw [f] at e
        exact absurd (e.symm.trans (show H7 kn = some (.dT _) from k71)) (by intro z; unfold LamX.CodeO at z; cases z)
    have tfp : ∀ {a : Addr} {ps : Array Value}, H7 a = some (.tbl ps) → ¬ FpW ⟨p, dx, rp, kt, lp, d, std, lf, dl, c, kn, ntF rp kt lp d std AA.most AA.hw, AA, poly, st, UP, LU⟩ [] a := fun {a ps} e f => by
      rcases f with (f | f | f | f) | f
      · subst f
        exact absurd (e.symm.trans nu7.nd.1) (by intro z; cases z)
      · rw [f] at e
        exact absurd (e.symm.trans nu7.lst) (by intro z; cases z)
      · rw [f] at e
        exact absurd (e.symm.trans n71.kv) (by intro z; cases z)
      · cases f
      · rw [f] at e
        exact absurd (e.symm.trans (show H7 kn = some (.dT _) from k71)) (by intro z; cases z)
    have f0 : ∀ {a : Addr}, H a ≠ none → ¬ FpW ⟨p, dx, rp, kt, lp, d, std, lf, dl, c, kn, ntF rp kt lp d std AA.most AA.hw, AA, poly, st, UP, LU⟩ [] a := fun {a} e f => by
      rcases f with (f | f | f | f) | f
      · exact e (by rw [f]; exact fd0)
      · exact e (by rw [f]; exact fl0)
      · exact e (by rw [f]; exact fs0)
      · cases f
      · exact e (by rw [f]; exact fkn0)
    have tk7 : Tk TT H H7 := tk6.same s67
    refine ⟨.ref f1, rfl, .ref f2, rfl, f1, c1, f2, c2, g17, h17, g27, h27, ?_⟩
    refine ⟨["state"], ["state"], ⟨p, dx, rp, kt, lp, d, std, lf, dl, c, kn, ntF rp kt lp d std AA.most AA.hw, AA, poly, st, UP, LU⟩, [plc0 AA.hw], [], .ref t, st0S AA st, rfl, rfl, ok_first_way_onward M m_steps m_behind, (ok_first_way_is_last M c_is_unseen).mono (by decide), rfl, rfl, uo, wa7, ⟨t, 0, rfl, if_pos rfl, et⟩, uo.l0, uo.l0, nfp m1, cfp h17, nfp (o1 _ m2), cfp h27, fun H8 M8 S8 r wa8 b8 s8 hr8 => q H8 r ⟨fun a o e n => ?_, fun pt hpt => ?_, fun a e => ?_⟩ ?_⟩
    · exact b8 _ _ (tk7.ext _ _ e n) (f0 (by rw [e]; exact fun z => nomatch z))
    · obtain ⟨qs, q1, q2, q3⟩ := tk7.tab pt hpt
      refine ⟨qs, b8 _ _ q1 (tfp q1), q2, fun pos cv hcv2 => ?_⟩
      obtain ⟨c9, q4, q5⟩ := q3 pos cv hcv2
      exact ⟨c9, q4, b8 _ _ q5 (cfp q5)⟩
    · cases h : H a with
      | none => rfl
      | some o =>
        exfalso
        have h7 : H7 a ≠ none := fun z => by
          have := tk7.old a z
          rw [h] at this
          cases this
        cases e7 : H7 a with
        | none => exact h7 e7
        | some o7 =>
          rw [b8 _ _ e7 (f0 (by rw [h]; exact fun z => nomatch z))] at e
          cases e
    · cases hw : wayM AA poly st.length (st0S AA st) with
      | none =>
        have hr8 : RwAt H7 H8 r (wayM AA poly st.length (st0S AA st)) := hr8
        rw [hw] at hr8
        exact hr8
      | some ms =>
        have hr8 : RwAt H7 H8 r (wayM AA poly st.length (st0S AA st)) := hr8
        rw [hw] at hr8
        obtain ⟨l, xs, e1, e2, e3, e4, e5⟩ := hr8
        exact ⟨l, xs, e1, tk7.old l e2, e3, e4, e5⟩
abbrev s_first_unseen : Stmt := (topS 35)
theorem sc_first_unseen : FnScope ["rule", "check", "kinds", "hits", "how", "way"] ["rule", "check", "kinds", "hits", "how"] (fnScope s_first_unseen) := fnScope_by (by decide +kernel)
theorem ok_first_unseen {CRule CC f : Addr} {fd : FuncData} {TT : List NdefX.NTab} (F : C8.Fun K "first_unseen" "first_unseen" s_first_unseen f fd) (M : Mg mg) (c_first_way : Cal P w K mg base 11 "first_way" (spFirstWay K TT CRule CC) []) (p_degree : Prp P w K mg base 1 CC "degree" (spDegree CC)) : FnOk P w K mg base CX0 12 f fd ["rule", "check", "kinds", "hits", "how"] (spFirstU K TT CRule CC) := by
  refine fn0 F sc_first_unseen (fun vs H Q E h => ?_) (fun cdv A outer s H vs Q E hr h => ?_)
  · obtain ⟨rp, c, kl, o, AA, poly, st, UP, LU, rfl, _⟩ := h
    rfl
  · obtain ⟨rp, c, kl, o, AA, poly, st, UP, LU, rfl, rl, ru, ck, chk, hk, k3, uo, tb, q⟩ := h
    refine ⟨_, (pss_cons (ps_set (i := 5) sc_first_unseen.nd rfl (Or.inl rfl) (pe_c c_first_way hr (by decide) (by rfl) (pa_cons (pv 0) (pa_cons (pv 1) (pa_cons (pv 2) (pa_cons (pv 3) (pa_cons (pv 4) pa_nil)))))))
        (pss_one (ps_ret (pe_ifExp (pt_cmpR op_isN (pv 5) pe_non (nomark _)) pe_non (pe_op op_sub (pe_callB call_len_seq (by rfl) M.len PySem.boot_len (pa_cons (pv 5) pa_nil)) (pe_p p_degree hr (by decide) (pv 1) rfl)))))), ?_⟩
    refine ⟨.ref rp, rfl, .ref c, rfl, .ref kl, rfl, .int (AA.most : Nat), rfl, .str AA.hw.str, rfl, rp, c, kl, o, AA, poly, st, UP, LU, rfl, rl, ru, ck, chk, hk, k3, uo, tb, fun H1 r t1 hr1 => ?_⟩
    unfold firstU at q
    cases hw : wayM AA poly st.length (st0S AA st) with
    | none =>
      rw [hw] at hr1 q
      obtain rfl : r = .non := hr1
      refine ⟨.non, rfl, rfl, _, rfl, ?_⟩
      exact iteT (q H1 t1 fun ms h => nomatch h)
    | some ms =>
      rw [hw] at hr1 q
      obtain ⟨l, xs, rfl, hl0, el, pm, hml⟩ := hr1
      obtain ⟨dc, ec⟩ := ck
      have ec1 := t1.ext _ _ ec (fun ps z => by cases z)
      have hpl := chk.len
      have s9 := uo.s9
      refine ⟨.ref l, rfl, rfl, _, rfl, ?_⟩
      refine iteF ⟨.ref l, rfl, l, xs, rfl, .inl (.inl (.inl el)), .ref c, rfl, c, dc, _, rfl, ec1, c, poly, st, rfl, ⟨dc, ec1⟩, by omega, _, _, rfl, rfl, ?_⟩
      have he : ((xs.length : Nat) : Int) - ((poly.length : Int) - 1) = ((ms.length : Nat) : Int) - ((st.length : Nat) : Int) := by
        rw [pm.length]
        omega
      show Q (V.int (((xs.length : Nat) : Int) - ((poly.length : Int) - 1))) H1
      rw [he]
      exact q H1 t1 fun ms2 h => by cases h; exact hml

abbrev s_is_no_longer : Stmt := (topS 60)
theorem sc_is_no_longer : FnScope ["_law_one", "_law_second"] ["_law_one", "_law_second"] (fnScope s_is_no_longer) := fnScope_by (by decide +kernel)
theorem ok_no_longer {f : Addr} {fd : FuncData} (F : C8.Fun K "_law_is_no_longer" "_law_is_no_longer" s_is_no_longer f fd) (M : Mg mg) : FnOk P w K mg base CX0 1 f fd ["_law_one", "_law_second"] spNoLonger := by
  refine fn0 F sc_is_no_longer (fun vs H Q E h => ?_) (fun cdv A outer s H vs Q E hr h => ?_)
  · obtain ⟨a, b, rfl, _⟩ := h
    rfl
  · obtain ⟨a, b, rfl, q⟩ := h
    refine ⟨_, (pss_one (ps_ret (pe_or (pe_cmpR op_isN (pv 1) pe_non (nomark _)) (pe_one (pe_and (pe_cmpR op_notN (pv 0) pe_non (nomark _)) (pe_one (pe_cmpR op_le (pv 0) (pv 1) (nomark _)))))))), ?_⟩
    cases b with
    | none =>
      refine ⟨_, rfl, rfl, _, rfl, ?_⟩
      exact (if_pos (decide_eq_true rfl)).mpr (q.1 fun n z => nomatch z)
    | some n =>
      refine ⟨_, rfl, rfl, _, rfl, (if_neg (by rw [decide_eq_false (fun z : oU (some n) = V.non => nomatch z)]; decide)).mpr ?_⟩
      cases a with
      | none =>
        refine ⟨_, rfl, rfl, _, rfl, (if_neg (by decide)).mpr ?_⟩
        exact q.2 fun z => by
          obtain ⟨m, h, _⟩ := z n rfl
          cases h
      | some m =>
        refine ⟨_, rfl, rfl, _, rfl, (if_pos (by rw [decide_eq_false (fun z : oU (some m) = V.non => nomatch z)]; rfl)).mpr ?_⟩
        refine ⟨_, rfl, _, rfl, (m : Nat), (n : Nat), rfl, rfl, ?_⟩
        show Q (V.bl (decide ((m : Int) ≤ (n : Int)))) H
        rcases Nat.lt_or_ge n m with h | h
        · rw [decide_eq_false (by omega)]
          exact q.2 fun z => by
            obtain ⟨m2, h2, h3⟩ := z n rfl
            cases h2
            omega
        · rw [decide_eq_true (by omega)]
          exact q.1 fun n2 e => by
            cases e
            exact ⟨m, rfl, h⟩
abbrev s_law : Stmt := (topS 61)
theorem sc_law : FnScope ["_law_script", "_law_k", "_law_box", "_law_rule_here", "_law_check_here", "_law_made_here", "_law_sum_made", "_law_kinds", "_law_how", "_law_every", "_law_one", "_law_some", "_law_two", "_law_alone"] ["_law_script"] (fnScope s_law) := fnScope_by (by decide +kernel)
theorem ok_law {CRule CC f : Addr} {fd : FuncData} {TT : List NdefX.NTab} (F : C8.Fun K "law" "law" s_law f fd) (M : Mg mg) (c_seed : Cal P w K mg base 1 "_law_seed" (spSeed K) []) (c_choose : Cal P w K mg base 1 "_law_choose" spChoose []) (c_one_of : Cal P w K mg base 2 "_law_one_of" spOneOf []) (c_rule : Cal P w K mg base 4 "_law_rule" spRuleS []) (c_made : Cal P w K mg base 7 "_law_made" (spMade CRule) []) (c_check : Cal P w K mg base 4 "_law_check" spCheck []) (c_is_no_longer : Cal P w K mg base 1 "_law_is_no_longer" spNoLonger [])
    (k_Check_0 : Mak P w K mg base 2 "Check" CC (spInit CC) [.str "1", .non]) (k_Check_2 : Mak P w K mg base 2 "Check" CC (spInit CC) []) (c_first_unseen : Cal P w K mg base 12 "first_unseen" (spFirstU K TT CRule CC) []) (c_spoiled : Cal P w K mg base 7 "spoiled" (spSpoiled TT CRule) []) (c_is_clean : Cal P w K mg base 8 "is_clean" (spClean TT CRule) []) : FnOk P w K mg base CX0 13 f fd ["_law_script"] (spLawT TT K) := by
  refine fn0 F sc_law (fun vs H Q E h => ?_) (fun cdv A outer s H vs Q E hr h => ?_)
  · obtain ⟨a, ns, rfl, _⟩ := h
    rfl
  · obtain ⟨a, ns, rfl, hS, hl, tb, q⟩ := h
    refine ⟨_, (pss_cons (ps_for PassesOwn.never rfl (pi_range1 (by rfl) M.range (pa_cons pe_int pa_nil)) (pg_name (i := 1) sc_law.nd rfl (Or.inl rfl))
          (pss_cons (ps_set (i := 2) sc_law.nd rfl (Or.inl rfl) (pe_c c_seed hr (by decide) (by rfl) (pa_cons (pv 0) (pa_cons (pv 1) pa_nil))))
            (pss_cons (ps_par (i := 3) (j := 4) rfl sc_law.nd rfl rfl (by decide) rfl rfl (pa_cons (pe_c c_rule hr (by decide) (by rfl) (pa_cons (pv 2) (pa_cons pe_int (pa_cons pe_int pa_nil)))) (pa_cons (pe_c c_check hr (by decide) (by rfl) (pa_cons (pv 2) (pa_cons pe_int pa_nil))) pa_nil)) (by rfl))
            (pss_cons (ps_asg (pe_tup (pa_cons (pe_c c_made hr (by decide) (by rfl) (pa_cons (pv 3) pa_nil)) (pa_cons (pe_mk k_Check_2 hr (by decide) (by rfl) (pa_cons (pe_ix (r := rIxT K) ix_tup (pv 4) pe_int (fun _ _ => rfl)) (pa_cons (pe_ix (r := rIxT K) ix_tup (pv 4) pe_int (fun _ _ => rfl)) pa_nil))) pa_nil))) (pg_tup rfl (pgs_cons (pg_name (i := 5) sc_law.nd rfl (Or.inr rfl)) (pgs_cons (pg_name (i := 6) sc_law.nd rfl (Or.inr rfl)) pgs_nil))))
            (pss_cons (ps_for PassesOwn.never rfl (pi_list (pe_lst (pa_cons (pe_c c_one_of hr (by decide) (by rfl) (pa_cons (pv 2) (pa_cons (pe_lst (pa_cons (pe_lst (pa_cons pe_str pa_nil)) (pa_cons (pe_lst (pa_cons pe_str (pa_cons pe_str pa_nil))) pa_nil))) pa_nil))) pa_nil))) (pg_name (i := 7) sc_law.nd rfl (Or.inr rfl))
              (pss_cons (ps_setLc (i := 9) (own := [("_law_how", 8)]) (g := (gName 8)) rfl sc_law.nd rfl rfl (sw_true rfl rfl rfl (by decide +kernel)) (pi_tup (pe_tup (pa_cons pe_str (pa_cons pe_str (pa_cons pe_str pa_nil))))) (blkOk_by (N := ["_law_script", "_law_k", "_law_box", "_law_rule_here", "_law_check_here", "_law_made_here", "_law_sum_made", "_law_kinds", "_law_how", "_law_every", "_law_one", "_law_some", "_law_two", "_law_alone"]) (sc := fnScope s_law) (by decide +kernel)) (fun _ _ _ _ _ => (pg_name (i := 8) sc_law.nd rfl (Or.inl rfl))) (fun _ _ _ _ _ => pts_nil) (fun _ _ _ _ _ => (pe_c c_first_unseen hr (by decide) (by rfl) (pa_cons (pv 5) (pa_cons (pv 6) (pa_cons (pv 7) (pa_cons pe_int (pa_cons (pv 8) pa_nil))))))))
                (pss_cons (ps_setLc (i := 11) (own := [("_law_one", 10)]) (g := (gName 10)) rfl sc_law.nd rfl rfl (sw_true rfl rfl rfl (by decide +kernel)) (pi_list (pv 9)) (blkOk_by (N := ["_law_script", "_law_k", "_law_box", "_law_rule_here", "_law_check_here", "_law_made_here", "_law_sum_made", "_law_kinds", "_law_how", "_law_every", "_law_one", "_law_some", "_law_two", "_law_alone"]) (sc := fnScope s_law) (by decide +kernel)) (fun _ _ _ _ _ => (pg_name (i := 10) sc_law.nd rfl (Or.inl rfl))) (fun _ _ _ _ _ => (pts_one (pt_cmpR op_notN (pv 10) pe_non (nomark _)))) (fun _ _ _ _ _ => (pe_callTy call_int1 (by rfl) M.int (by decide +kernel) (pa_cons (pv 10) pa_nil))))
                (pss_cons (ps_if (pt_cmpR op_ne (pe_c c_first_unseen hr (by decide) (by rfl) (pa_cons (pv 5) (pa_cons (pv 6) (pa_cons (pv 7) (pa_cons pe_int (pa_cons pe_str pa_nil)))))) (pe_ifExp (pt_cmpR (op_neD hr.units) (pv 11) (pe_lst pa_nil) (nomark _)) (pe_callB (cr_min rfl) (by rfl) M.min (by decide +kernel) (pa_cons (pv 11) pa_nil)) pe_non) (nomark _))
                  (pss_one (ps_ret pe_bl))
                  pss_nil)
                (pss_cons (ps_set (i := 8) sc_law.nd rfl (Or.inl rfl) (pe_c c_one_of hr (by decide) (by rfl) (pa_cons (pv 2) (pa_cons (pe_lst (pa_cons pe_str (pa_cons pe_str (pa_cons pe_str pa_nil)))) pa_nil))))
                (pss_cons (ps_set (i := 10) sc_law.nd rfl (Or.inl rfl) (pe_c c_first_unseen hr (by decide) (by rfl) (pa_cons (pv 5) (pa_cons (pv 6) (pa_cons (pv 7) (pa_cons pe_int (pa_cons (pv 8) pa_nil)))))))
                (pss_cons (ps_if (pt_not (pt_val (pe_c c_is_no_longer hr (by decide) (by rfl) (pa_cons (pe_c c_first_unseen hr (by decide) (by rfl) (pa_cons (pv 5) (pa_cons (pv 6) (pa_cons (pe_lst (pa_cons pe_str (pa_cons pe_str (pa_cons pe_str pa_nil)))) (pa_cons pe_int (pa_cons (pv 8) pa_nil)))))) (pa_cons (pv 10) pa_nil)))))
                  (pss_one (ps_ret pe_bl))
                  pss_nil)
                (pss_cons (ps_if (pt_not (pt_val (pe_c c_is_no_longer hr (by decide) (by rfl) (pa_cons (pv 10) (pa_cons (pe_c c_first_unseen hr (by decide) (by rfl) (pa_cons (pv 5) (pa_cons (pv 6) (pa_cons (pv 7) (pa_cons pe_int (pa_cons (pv 8) pa_nil)))))) pa_nil)))))
                  (pss_one (ps_ret pe_bl))
                  pss_nil)
                (pss_cons (ps_set (i := 12) sc_law.nd rfl (Or.inl rfl) (pe_c c_first_unseen hr (by decide) (by rfl) (pa_cons (pv 5) (pa_cons (pv 6) (pa_cons (pe_slice sl_list (pv 7) po_none (po_some pe_int)) (pa_cons pe_int (pa_cons pe_str pa_nil)))))))
                (pss_one (ps_if (pt_not (pt_val (pe_c c_is_no_longer hr (by decide) (by rfl) (pa_cons (pv 12) (pa_cons (pe_c c_first_unseen hr (by decide) (by rfl) (pa_cons (pv 5) (pa_cons (pv 6) (pa_cons (pe_slice sl_list (pv 7) po_none (po_some pe_int)) (pa_cons pe_int (pa_cons pe_str pa_nil)))))) pa_nil)))))
                  (pss_one (ps_ret pe_bl))
                  pss_nil)))))))))))
            (pss_cons (ps_set (i := 13) sc_law.nd rfl (Or.inl rfl) (pe_c c_first_unseen hr (by decide) (by rfl) (pa_cons (pv 5) (pa_cons (pe_mk0 k_Check_0 hr (by decide) (by rfl)) (pa_cons (pe_lst pa_nil) (pa_cons pe_int (pa_cons pe_str pa_nil)))))))
            (pss_one (ps_if (PW.pt (pw_and (pt_cmpR op_notN (pv 13) pe_non (nomark _)) (pw_and1 (PW.pt (pw_or (pt_val (pe_c c_is_clean hr (by decide) (by rfl) (pa_cons (pv 5) pa_nil))) (pw_or1 (pt_cmpR op_lt (pv 13) (pe_callB call_len_str (by rfl) M.len PySem.boot_len (pa_cons (pe_c c_spoiled hr (by decide) (by rfl) (pa_cons (pv 5) pa_nil)) pa_nil)) (nomark _))))))))
              (pss_one (ps_ret pe_bl))
              pss_nil))))))))
        (pss_one (ps_ret pe_bl))), ?_⟩
    refine ⟨1, rfl, by decide, by decide, ?_⟩
    refine for_it walk_range (fun i σ H1 => ∃ x1 x2 x3 x4 x5 x6 x7 x8 x9 x10 x11 x12 x13, σ = [some (.ref a), x1, x2, x3, x4, x5, x6, x7, x8, x9, x10, x11, x12, x13] ∧ Tk TT H H1)
      ⟨_, _, _, _, _, _, _, _, _, _, _, _, _, rfl, Tk.refl tb⟩ (fun _ _ _ _ _ => trivial) (fun i x σ H1 H1' hi hp hy => ?_) (fun σ H1 hp => ?_)
    · obtain ⟨rfl, rfl⟩ := hy
      obtain ⟨x1, x2, x3, x4, x5, x6, x7, x8, x9, x10, x11, x12, x13, rfl, tt1⟩ := hp
      have hi1 : i < 1 := hi
      refine ⟨.ref a, rfl, _, rfl, a, ns, (0 : Int) + (i : Nat), rfl, seq_ext tt1.ext hS, hl, by omega, by omega, fun b H2 hb1 hb2 s2 => ?_⟩
      have hb0 : H b = none := tt1.old b hb1
      have tt2 := tt1.same s2
      refine ⟨.ref b, rfl, b, 4, 2, rfl, hb2, by decide, by decide, by decide, by decide, fun t flag ps H3 lr ru hb3 off3 => ?_⟩
      have tt3 := tk_off tt2 hb2 off3 hb0
      refine ⟨.ref b, rfl, b, 0, rfl, hb3, by decide, by decide, fun poly st pc H4 ckc hst hpc epc hb4 off4 => ?_⟩
      obtain rfl : st = [] := List.length_eq_zero_iff.mp (by omega)
      obtain rfl : poly = [true] := chk_nil ckc
      have tt4 := tk_off tt3 hb3 off4 hb0
      have ru4 := ru.off hb3 off4
      have f2 := lr.lr.f2
      have f4 := lr.f
      refine ⟨_, _, rfl, ?_⟩
      refine ⟨.ref t, rfl, t, flag, ps, rfl, ru4, lr.lr.ok, f2, by omega, fun p H5 rl s5 => ?_⟩
      have tt5 := tt4.same s5
      replace epc := s5 _ _ epc
      refine ⟨.ref pc, rfl, pc, _, 0, _, rfl, rfl, .inl (.inl epc), atI0, .ref pc, rfl, pc, _, 1, _, rfl, rfl, .inl (.inl epc), atI1, fun c dx hc hdx ne => ?_⟩
      refine ⟨c, dx, [true], [], .str (WS []), rfl, .inr rfl, chk1, Nat.zero_le _, upd_same, fun H6 ck6 kp6 => ?_⟩
      have s56 := same_make hc hdx kp6
      have tt6 := tt5.same s56
      replace rl := rl.same s56
      have hb6 := (hb4.same s5).same s56
      have sml := lr.sml.sort lr.lr.ok
      have rlu : RlU flag (sortP ps) := ⟨sml.ne, by omega, by have := sml.few; omega, fun q hq => Nat.le_trans (sml.lens q hq).2 (by decide)⟩
      have rlw : RlW flag (sortP ps) := rlw_of lr.lr.ok lr.lr.fill f2 (by omega) (by have := lr.lr.few; omega) (fun q hq => (lr.lr.lens q hq).2)
      clear ru lr ru4 off3 off4 hb3 hb2 s2 tt1 tt2 tt3 tt4 tt5 hb1 kp6 hc hdx ne s56 s5 hb4 epc hpc
      revert sml rlu rlw rl
      generalize sortP ps = qs
      intro rl sml rlu rlw
      refine ⟨rfl, by show 2 ≤ sizeLine; decide, fun tp htp => ?_⟩
      refine ⟨tp, _, rfl, .inl (.inl upd_same), rfl, ?_⟩
      refine ⟨_, _, rfl, _, _, rfl, rfl, ?_⟩
      have s7 := same_new (o := .tup [.ref p, .ref c]) htp
      replace rl := rl.same s7
      have ck7 := ck6.same s7
      have tt7 := tt6.same s7
      have hb7 := hb6.same s7
      revert rl ck7 tt7 hb7
      clear ck6 tt6 hb6 s7 hst ckc
      generalize upd H6 tp _ = H7
      intro rl ck7 tt7 hb7
      clear htp
      refine ⟨.ref b, rfl, by show 1 ≤ sizeLine; decide, fun l1 n1 => ⟨by show 2 ≤ sizeLine; decide, fun l2 n2 => ⟨by show 2 ≤ sizeLine; decide, fun l3 n3 => ?_⟩⟩⟩
      obtain ⟨s8, e8, nb8, hK⟩ := kinds58 hb7 n1 n2 n3
      replace rl := rl.same s8
      have ck8 := ck7.same s8
      have tt8 := tt7.same s8
      have hb8 := hb7.same s8
      revert rl ck8 tt8 hb8 e8 hK
      clear ck7 tt7 hb7 s8
      generalize upd (upd (upd H7 l1 _) l2 _) l3 _ = H8
      intro e8 hK rl ck8 tt8 hb8
      clear n1 n2 n3
      refine ⟨b, l3, _, rfl, hb8, e8, nb8, (by intro z; cases z), by show 2 ≤ 1000; decide, fun kx H9 hkx hb9 off9 => ?_⟩
      obtain ⟨kl, ks, rfl, nkb, hks, ekl⟩ := hK kx hkx
      have hk3 : ks.length ≤ 3 := by rcases hks with rfl | rfl <;> decide
      replace ekl := off9 _ _ ekl nkb
      have tt9 := tk_off tt8 hb8 off9 hb0
      replace rl := rl.kp (kp_off hb8 off9)
      have ck9 := ck8.kp (kp_off hb8 off9)
      clear hK hkx e8 tt8 ck8 nb8
      refine ⟨by show 1 ≤ sizeLine; decide, fun lo hlo => ?_⟩
      have nlo := hb9.ne_new hlo
      have sA := same_new (o := .lst [.ref kl]) hlo
      replace rl := rl.same sA
      have ckA := ck9.same sA
      have ttA := tt9.same sA
      have hbA := hb9.same sA
      replace ekl := sA _ _ ekl
      have elo : (upd H9 lo (.lst [.ref kl])) lo = some (.lst [.ref kl]) := upd_same
      revert ekl rl ckA ttA hbA elo
      clear ck9 tt9 hb9 sA off9 hb8
      generalize upd H9 lo _ = HA
      intro rl ckA ttA hbA ekl elo
      clear hlo
      refine ⟨lo, rfl, ⟨_, .inl (.inl elo)⟩, ?_⟩
      refine for_it (walk_list (K := K) (a := lo) (xs := [.ref kl])) (fun j σ H1 => ∃ y7 y8 y9 y10 y11 y12 y13, σ = [some (.ref a), some (.int (0 + (i : Nat))), some (.ref b), some (.ref t), some (.ref pc), some (.ref p), some (.ref c), y7, y8, y9, y10, y11, y12, y13] ∧ Tk TT H H1 ∧ RlAt CRule H1 p flag qs ∧ CkAt CC H1 c [true] [] ∧ BoxAt H1 b ∧ H1 lo = some (.lst [.ref kl]) ∧ H1 kl = some (.lst (kdV ks)))
        ⟨_, _, _, _, _, _, _, rfl, ttA, rl, ckA, hbA, elo, ekl⟩ (fun j m σ H1 hp => ?_) (fun j x σ H1 H1' hj hp hy => ?_) (fun σ HZ hp => ?_)
      · obtain ⟨y7, y8, y9, y10, y11, y12, y13, rfl, _, _, _, _, h, _⟩ := hp
        exact .inl (.inl h)
      · clear ekl rl ckA ttA hbA elo
        obtain ⟨rfl, hx⟩ := hy
        obtain ⟨rfl, rfl⟩ := one_at hx
        obtain ⟨y7, y8, y9, y10, y11, y12, y13, rfl, ttA, rl, ckA, hbA, elo, ekl⟩ := hp
        have hxs : [V.str "same", V.str "shift", V.str "cut"] = [How.same, .shift, .cut].map fun h => V.str h.str := rfl
        refine ⟨by show 3 ≤ sizeLine; decide, fun th hth => ⟨th, rfl, ⟨_, .inl (.inl upd_same)⟩, fun D hD => ?_⟩⟩
        have sB := same_new (o := .tup [.str "same", .str "shift", .str "cut"]) hth
        have eth : (upd H1' th (.tup [.str "same", .str "shift", .str "cut"])) th = some (.tup [.str "same", .str "shift", .str "cut"]) := upd_same
        replace rl := rl.same sB
        have ckB := ckA.same sB
        have ttB := ttA.same sB
        have hbB := hbA.same sB
        replace elo := sB _ _ elo
        replace ekl := sB _ _ ekl
        revert eth rl ckB ttB hbB elo ekl hD
        clear ckA ttA hbA sB
        generalize upd H1' th _ = HB
        intro hD eth rl ckB ttB hbB elo ekl
        clear hth
        refine lc_it (walk_tup (K := K) (a := th) (xs := [V.str "same", V.str "shift", V.str "cut"])) (fun i H2 => Tk TT HB H2 ∧ H2 D = some (.lst (([How.same, .shift, .cut].take i).map fun hw => oU (fL flag qs hw ks 1)))) ⟨tk_same ttB.tab (same_new hD), upd_same⟩ (fun i H2 _ h => .inl (.inl (h.1.ext _ _ eth fun _ z => by cases z))) (fun i x H2o H2 hi hp hy => ?_) (fun HC hp => ?_)
        · obtain ⟨rfl, hx⟩ := hy
          obtain ⟨t2, eD⟩ := hp
          rw [hxs, List.getElem?_map] at hx
          obtain ⟨hw, hhw, rfl⟩ := Option.map_eq_some_iff.mp hx
          refine ⟨rfl, .ref p, rfl, .ref c, rfl, .ref kl, rfl, .str hw.str, rfl, p, c, kl, true, N58 flag qs hw ks 1, [true], [], _, _, rfl, rl.ext t2.ext, rlu, ck58 ckB t2, chk1, .l (lst_tk t2 ekl), hk3, uo58 sml hw ks (m := 1) (by decide), t2.tab, fun H4 t4 _ => ?_⟩
          rw [first_fL]
          have eD4 := lst_tk t4 eD
          refine ⟨_, eD4, ?_, tkLst (t2.trans t4) eD4 hD, ?_⟩
          · rw [List.length_map, List.length_take]
            exact Nat.lt_of_le_of_lt (Nat.min_le_right _ _) (by decide)
          · rw [upd_same, take_sn hhw, List.map_append]
            rfl
        obtain ⟨tC, eD⟩ := hp
        have mn := any_min (f := fun hw => fL flag qs hw ks 1) (ps := qs) (ks := ks) (most := 1) (poly := [true]) (st := []) sml.ne (fun hw => lst58 sml hw ks (m := 1) (by decide))
        replace eD : HC D = some (.lst ([fL flag qs .same ks 1, fL flag qs .shift ks 1, fL flag qs .cut ks 1].map oU)) := eD
        obtain ⟨es, hes⟩ : ∃ es, es = [fL flag qs .same ks 1, fL flag qs .shift ks 1, fL flag qs .cut ks 1] := ⟨_, rfl⟩
        rw [← hes] at eD
        replace rl := rl.ext tC.ext
        have ckC := ck58 ckB tC
        have ttC := ttB.trans tC
        replace elo := lst_tk tC elo
        replace ekl := lst_tk tC ekl
        have hbC : BoxAt HC b := hbB.ext tC.ext
        clear hD eth hbB ttB ckB tC
        refine ⟨.ref D, rfl, D, rfl, ⟨_, .inl (.inl eD)⟩, fun D2 hD2 => ?_⟩
        refine lc_it (walk_list (K := K) (a := D) (xs := es.map oU)) (fun i H3 => Same HC H3 ∧ H3 D2 = some (.lst (((es.take i).filterMap id).map fun n : Nat => V.int (n : Nat)))) ⟨same_new hD2, upd_same⟩ (fun i H3 _ h => .inl (.inl (h.1 _ _ eD))) (fun i x H3o H3 hi hp hy => ?_) (fun HD hp => ?_)
        · obtain ⟨rfl, hx⟩ := hy
          obtain ⟨s3, e3⟩ := hp
          rw [List.getElem?_map] at hx
          obtain ⟨e, he, rfl⟩ := Option.map_eq_some_iff.mp hx
          cases e with
          | none =>
            refine ⟨rfl, _, rfl, rfl, _, rfl, ?_⟩
            rw [take_sn he, List.filterMap_append]
            exact (if_neg (by decide)).mpr ⟨s3, by rw [e3]; exact congrArg (fun z => some (HO.lst (List.map (fun n : Nat => V.int (n : Nat)) z))) (List.append_nil _).symm⟩
          | some n =>
            refine ⟨rfl, _, rfl, rfl, _, rfl, (if_pos rfl).mpr ⟨_, rfl, .inl ⟨(n : Nat), rfl, _, e3, ?_, same_upd s3 hD2, ?_⟩⟩⟩
            · rw [List.length_map]
              exact Nat.lt_of_le_of_lt (List.length_filterMap_le _ _) (Nat.lt_of_le_of_lt (by rw [List.length_take]; exact Nat.min_le_right _ _) (by rw [hes]; show 3 < sizeLine; decide))
            · rw [upd_same, take_sn he, List.filterMap_append, List.map_append]
              rfl
        obtain ⟨s4, e4⟩ := hp
        replace e4 : HD D2 = some (.lst ((es.filterMap id).map fun n : Nat => V.int (n : Nat))) := by
          rw [e4, List.take_of_length_le (by rw [List.length_map]; exact Nat.le_refl _)]
        replace rl := rl.same s4
        have ckD := ckC.same s4
        have ttD := ttC.same s4
        replace elo := s4 _ _ elo
        replace ekl := s4 _ _ ekl
        have hbD := hbC.same s4
        clear hD2 ckC ttC hbC s4 eD
        dsimp only [gName, List.set]
        refine ⟨.ref p, rfl, .ref c, rfl, .ref kl, rfl, p, c, kl, true, N58 flag qs .any ks 1, [true], [], _, _, rfl, rl, rlu, ckD, chk1, .l ekl, hk3, uo58 sml .any ks (m := 1) (by decide), ttD.tab, fun HE tE _ => ?_⟩
        rw [first_fL]
        have e5 := lst_tk tE e4
        refine te_cont (te := tIf _ _ _) (fun v H' => v = oU (fL flag qs .any ks 1) ∧ Same HE H') (fun Q' hQ => ?_) (fun v HF hv => ?_)
        · refine ⟨.ref D2, rfl, by show 0 ≤ sizeLine; decide, fun dn hdn => ?_⟩
          have sn := same_new (o := .lst []) hdn
          have e6 := sn _ _ e5
          have d1 := dp58 (K := K) (H := upd HE dn (.lst [])) (es.filterMap id)
          rcases mn with ⟨ma, mo⟩ | ⟨n, ma, ⟨hw0, hw1, hw2⟩, mle⟩
          · have hes0 : es.filterMap id = [] := by
              rw [hes, mo .same (by decide), mo .shift (by decide), mo .cut (by decide)]
              rfl
            rw [hes0] at e6 d1
            refine ⟨.list [], .list [], .lst (.inl (.inl e6)) .nil, .lst (.inl (.inl upd_same)) .nil, rfl, rfl, _, rfl, (if_neg (by decide)).mpr (hQ _ _ ⟨by rw [ma]; rfl, sn⟩)⟩
          · obtain ⟨hin, hle⟩ := min58 (f := fun hw => fL flag qs hw ks 1) hes ⟨hw0, hw1, hw2⟩ mle
            have hsh := sh58 (es.filterMap id) (Nat.le_trans (List.length_filterMap_le _ _) (by rw [hes]; exact Nat.le_refl 3))
            refine ⟨.list _, .list [], .lst (.inl (.inl e6)) d1, .lst (.inl (.inl upd_same)) .nil, hsh, rfl, _, rfl, (if_pos (ne58 hin)).mpr ?_⟩
            refine ⟨.ref D2, rfl, D2, (es.filterMap id).map fun n : Nat => (n : Int), rfl, .inl (.inl (by rw [e6, List.map_map]; rfl)), ?_, fun m hm1 hm2 => hQ _ _ ⟨?_, sn⟩⟩
            · rw [List.length_map]
              exact List.length_pos_of_mem hin
            · obtain ⟨m0, h1, rfl⟩ := List.mem_map.mp hm1
              have h2 := hle m0 h1
              have h3 := hm2 (n : Nat) (List.mem_map.mpr ⟨n, hin, rfl⟩)
              rw [ma]
              show V.int (m0 : Nat) = V.int (n : Nat)
              congr 1
              omega
        obtain ⟨rfl, sF⟩ := hv
        have tF := Tk.trans tE (tk_same tE.tab sF)
        replace rl := rl.ext tF.ext
        have ckF := ck58 ckD tF
        have ttF := ttD.trans tF
        replace elo := lst_tk tF elo
        replace ekl := lst_tk tF ekl
        have hbF : BoxAt HF b := hbD.ext tF.ext
        clear e4 e5 ckD ttD hbD sF tE tF mn hes
        refine ⟨sc58 _, _, rfl, ?_⟩
        rw [decide_eq_true rfl]
        refine (if_neg (by decide)).mpr ?_
        refine ⟨.ref b, rfl, by show 3 ≤ sizeLine; decide, fun hl2 hhl => ⟨b, hl2, _, rfl, hbF.same (same_new hhl), upd_same, hbF.ne_new hhl, (by intro z; cases z), by show 3 ≤ 1000; decide, fun hx HG hhx hbG offG => ?_⟩⟩
        obtain ⟨hw, rfl⟩ : ∃ hw : How, hx = .str hw.str := by
          simp only [List.mem_cons, List.not_mem_nil, or_false] at hhx
          rcases hhx with rfl | rfl | rfl
          · exact ⟨.same, rfl⟩
          · exact ⟨.shift, rfl⟩
          · exact ⟨.cut, rfl⟩
        have sG := same_new (o := .lst [.str "same", .str "shift", .str "cut"]) hhl
        have ttG := tk_off (ttF.same sG) (hbF.same sG) offG hb0
        replace rl := (rl.same sG).kp (kp_off (hbF.same sG) offG)
        have ckG := (ckF.same sG).kp (kp_off (hbF.same sG) offG)
        replace elo := offG _ _ (sG _ _ elo) nlo
        replace ekl := offG _ _ (sG _ _ ekl) nkb
        clear ckF ttF hbF sG offG hhl hhx
        -- the length of the drawn way
        refine ⟨.ref p, rfl, .ref c, rfl, .ref kl, rfl, .str hw.str, rfl, p, c, kl, true, N58 flag qs hw ks 1, [true], [], _, _, rfl, rl, rlu, ckG, chk1, .l ekl, hk3, uo58 sml hw ks (m := 1) (by decide), ttG.tab, fun HI tI _ => ?_⟩
        rw [first_fL]
        replace rl := rl.ext tI.ext
        have ckI := ck58 ckG tI
        have ttI := ttG.trans tI
        replace elo := lst_tk tI elo
        replace ekl := lst_tk tI ekl
        have hbI : BoxAt HI b := hbG.ext tI.ext
        clear ckG ttG hbG tI
        dsimp only [gName, List.set]
        -- all kinds
        refine ⟨.ref p, rfl, .ref c, rfl, by show 3 ≤ sizeLine; decide, fun k3 hkk => ⟨.str hw.str, rfl, p, c, k3, true, N58 flag qs hw [.turn, .lose, .double] 1, [true], [], _, _, rfl, rl.same (same_new hkk), rlu, ckI.same (same_new hkk), chk1, .l upd_same, by show 3 ≤ 3; decide, uo58 sml hw [.turn, .lose, .double] (m := 1) (by decide), (ttI.same (same_new hkk)).tab, fun HJ tJ _ => ?_⟩⟩
        rw [first_fL]
        have tIJ := Tk.trans (tk_same ttI.tab (same_new (o := .lst [.str "turn", .str "lose", .str "double"]) hkk)) tJ
        refine ⟨_, rfl, fL flag qs hw [.turn, .lose, .double] 1, fL flag qs hw ks 1, rfl, fun _ => ?_, fun z => absurd (more_le (fun k _ => by cases k <;> decide) (Nat.le_refl 1) (lst58 sml hw _ (by decide)) (lst58 sml hw ks (by decide))) z⟩
        refine ⟨_, rfl, (if_neg (by decide)).mpr ?_⟩
        replace rl := rl.ext tIJ.ext
        have ckJ := ck58 ckI tIJ
        have ttJ := ttI.trans tIJ
        replace elo := lst_tk tIJ elo
        replace ekl := lst_tk tIJ ekl
        have hbJ : BoxAt HJ b := hbI.ext tIJ.ext
        clear ckI ttI hbI tJ tIJ hkk
        -- no hit
        refine ⟨_, rfl, .ref p, rfl, .ref c, rfl, .ref kl, rfl, .str hw.str, rfl, p, c, kl, true, N58 flag qs hw ks 0, [true], [], _, _, rfl, rl, rlu, ckJ, chk1, .l ekl, hk3, uo58 sml hw ks (m := 0) (by decide), ttJ.tab, fun HK tK _ => ?_⟩
        rw [first_fL]
        refine ⟨fL flag qs hw ks 1, fL flag qs hw ks 0, rfl, fun _ => ?_, fun z => absurd (more_le (fun _ h => h) (Nat.zero_le 1) (lst58 sml hw ks (by decide)) (lst58 sml hw ks (by decide))) z⟩
        refine ⟨_, rfl, (if_neg (by decide)).mpr ?_⟩
        replace rl := rl.ext tK.ext
        have ckK := ck58 ckJ tK
        have ttK := ttJ.trans tK
        replace elo := lst_tk tK elo
        replace ekl := lst_tk tK ekl
        have hbK : BoxAt HK b := hbJ.ext tK.ext
        clear ckJ ttJ hbJ tK
        -- two hits
        have hcut : cutV (kdV ks) none (some 1) = kdV (ks.take 1) := by rcases hks with rfl | rfl <;> rfl
        have hk1 : (ks.take 1).length ≤ 3 := by rw [List.length_take]; omega
        dsimp only [tNoPart]
        refine ⟨.ref p, rfl, .ref c, rfl, .ref kl, rfl, _, rfl, kl, kdV ks, rfl, .inl (.inl ekl), fun ka hka => ?_⟩
        rw [hcut]
        have sa := same_new (o := .lst (kdV (ks.take 1))) hka
        refine ⟨p, c, ka, true, N58 flag qs .shift (ks.take 1) 2, [true], [], _, _, rfl, rl.same sa, rlu, ckK.same sa, chk1, .l upd_same, hk1, uo58 sml .shift (ks.take 1) (m := 2) (by decide), (ttK.same sa).tab, fun HL tL _ => ?_⟩
        rw [first_fL]
        have tKL := Tk.trans (tk_same ttK.tab sa) tL
        replace rl := rl.ext tKL.ext
        have ckL := ck58 ckK tKL
        have ttL := ttK.trans tKL
        replace elo := lst_tk tKL elo
        replace ekl := lst_tk tKL ekl
        have hbL : BoxAt HL b := hbK.ext tKL.ext
        clear ckK ttK hbK tL tKL hka sa
        dsimp only [gName, List.set]
        refine ⟨_, rfl, .ref p, rfl, .ref c, rfl, .ref kl, rfl, _, rfl, kl, kdV ks, rfl, .inl (.inl ekl), fun ka hka => ?_⟩
        rw [hcut]
        have sa := same_new (o := .lst (kdV (ks.take 1))) hka
        refine ⟨p, c, ka, true, N58 flag qs .shift (ks.take 1) 1, [true], [], _, _, rfl, rl.same sa, rlu, ckL.same sa, chk1, .l upd_same, hk1, uo58 sml .shift (ks.take 1) (m := 1) (by decide), (ttL.same sa).tab, fun HM tM _ => ?_⟩
        rw [first_fL]
        have tLM := Tk.trans (tk_same ttL.tab sa) tM
        refine ⟨fL flag qs .shift (ks.take 1) 2, fL flag qs .shift (ks.take 1) 1, rfl, fun _ => ?_, fun z => absurd (more_le (fun _ h => h) (show 1 ≤ 2 by decide) (lst58 sml .shift _ (by decide)) (lst58 sml .shift _ (by decide))) z⟩
        refine ⟨_, rfl, (if_neg (by decide)).mpr ?_⟩
        exact ⟨_, _, _, _, _, _, _, rfl, ttL.trans tLM, rl.ext tLM.ext, ck58 ckL tLM, hbL.ext tLM.ext, lst_tk tLM elo, lst_tk tLM ekl⟩
      · clear ekl rl ckA ttA hbA elo
        obtain ⟨y7, y8, y9, y10, y11, y12, y13, rfl, ttA, rl, ckA, hbA, elo, ekl⟩ := hp
        refine ⟨.ref p, rfl, fun c2 dx2 hc2 hdx2 ne2 => ?_⟩
        refine ⟨c2, dx2, [true], [], .non, (by rw [← WS_1]; rfl), .inl ⟨rfl, rfl⟩, chk1, Nat.zero_le _, upd_same, fun HN ckN kpN => ?_⟩
        have sN := same_make hc2 hdx2 kpN
        refine ⟨rfl, by show 0 ≤ sizeLine; decide, fun ke hke => ?_⟩
        have se := sN.trans (same_new (o := .lst []) hke)
        refine ⟨p, c2, ke, true, N58 flag qs .any [] 0, [true], [], _, _, rfl, rl.same se, rlu, ckN.same (same_new hke), chk1, .l upd_same, Nat.zero_le _, uo58 sml .any [] (m := 0) (by decide), (ttA.same se).tab, fun HO tO _ => ?_⟩
        rw [first_fL]
        have tAO := Tk.trans (tk_same ttA.tab se) tO
        replace rl := rl.ext tAO.ext
        have ttO := ttA.trans tAO
        clear ckA ttA hbA elo ekl ckN kpN sN se tO tAO hke hc2 hdx2 ne2
        dsimp only [gName, List.set]
        have hal := lst58 sml .any [] (m := 0) (by decide)
        revert hal
        cases fL flag qs .any [] 0 with
        | none =>
          intro _
          refine ⟨_, rfl, rfl, _, rfl, (if_neg (by decide)).mpr ((if_neg (by decide)).mpr ?_)⟩
          exact ⟨_, _, _, _, _, _, _, _, _, _, _, _, _, rfl, ttO⟩
        | some n =>
          intro hal
          refine ⟨_, rfl, rfl, _, rfl, (if_pos rfl).mpr ?_⟩
          refine ⟨.ref p, rfl, p, flag, qs, rfl, rl, rlw, ttO.tab, fun cl HP tP hcl => ?_⟩
          have hcf : cl = false := by
            cases cl with
            | false => rfl
            | true =>
              obtain ⟨M, h, _⟩ := alone_ok sml.tame (putL_nil58 sml) sml.ne hal (r := none) (hcl.mp rfl)
              cases h
          rw [hcf]
          refine ⟨_, rfl, (if_neg (by decide)).mpr ?_⟩
          refine ⟨_, rfl, .ref p, rfl, p, flag, qs, rfl, rl.ext tP.ext, rlw, tP.tab, fun r HQ tQ hr hr1 => ?_⟩
          obtain ⟨M, rfl, hM⟩ := alone_ok sml.tame (putL_nil58 sml) sml.ne hal hr
          refine ⟨WS M, rfl, ?_, (n : Nat), ((WS M).length : Nat), rfl, rfl, _, rfl, ?_⟩
          · rw [WS_len]
            exact Nat.le_trans (hr1 M rfl) (by decide)
          · rw [WS_len, decide_eq_false (by omega)]
            refine (if_neg (by decide)).mpr ?_
            exact ⟨_, _, _, _, _, _, _, _, _, _, _, _, _, rfl, ttO.trans (tP.trans tQ)⟩
    · exact q _

end
theorem all_mk {l : PySem.W.OpenLaw} {w : World} {K : PySem.W.Frag} {h : Heap} {mg : Str → Option Value} {fa cc_spoiled P_spoiled cc_first_way P_first_way f1 f2 f3 f4 f5 f6 f7 f8 f9 f10 f11 f12 f13 f14 f15 f16 f17 f18 f19 f20 f21 f22 f23 f24 f25 f26 f27 f28 f29 f30 f31 f32 f33 f34 f35 f36 f37 f38 f39 f40 CRule f41 f42 f43 f44 p44 CCheck f45 f46 f47 p47 CNet f48 f49 f50 f51 f52 f53 f54 f55 f56 f57 f58 CLefts f59 f60 : Addr} {q : Program} (X : K.In h) (G : h.Ns mainGlobals mg) (hfa : mg "law" = some (.ref fa)) (TT : Clo.TopTab q K h) (r_spoiled : ((recsOf q).find? fun e => e.name == ("spoiled" : Str)).isSome = true) (r_first_way : ((recsOf q).find? fun e => e.name == ("first_way" : Str)).isSome = true)
    {od1 an1 : Option Addr} {sl1 : Array (Option Value)} {oc1 kV1 dc1 pm1 cd1 ct1 : Value}
    {T1 : Addr} {cT1 : Value} {oT1 : Option Addr} {nT1 : Nat} {sT1 : Array (Option Value)} {u1_0 : Tok}
    {od2 an2 : Option Addr} {sl2 : Array (Option Value)} {oc2 kV2 dc2 pm2 cd2 ct2 : Value}
    {od3 an3 : Option Addr} {sl3 : Array (Option Value)} {oc3 kV3 dc3 pm3 cd3 ct3 : Value}
    {od4 an4 : Option Addr} {sl4 : Array (Option Value)} {oc4 kV4 dc4 pm4 cd4 ct4 : Value}
    {od5 an5 : Option Addr} {sl5 : Array (Option Value)} {oc5 kV5 dc5 pm5 cd5 ct5 : Value}
    {od6 an6 : Option Addr} {sl6 : Array (Option Value)} {oc6 kV6 dc6 pm6 cd6 ct6 : Value}
    {od7 an7 : Option Addr} {sl7 : Array (Option Value)} {oc7 kV7 dc7 pm7 cd7 ct7 : Value}
    {od8 an8 : Option Addr} {sl8 : Array (Option Value)} {oc8 kV8 dc8 pm8 cd8 ct8 : Value}
    {od9 an9 : Option Addr} {sl9 : Array (Option Value)} {oc9 kV9 dc9 pm9 cd9 ct9 : Value}
    {od10 an10 : Option Addr} {sl10 : Array (Option Value)} {oc10 kV10 dc10 pm10 cd10 ct10 : Value}
    {od11 an11 : Option Addr} {sl11 : Array (Option Value)} {oc11 kV11 dc11 pm11 cd11 ct11 : Value}
    {od12 an12 : Option Addr} {sl12 : Array (Option Value)} {oc12 kV12 dc12 pm12 cd12 ct12 : Value}
    {od13 an13 : Option Addr} {sl13 : Array (Option Value)} {oc13 kV13 dc13 pm13 cd13 ct13 : Value}
    {od14 an14 : Option Addr} {sl14 : Array (Option Value)} {oc14 kV14 dc14 pm14 cd14 ct14 : Value}
    {od15 an15 : Option Addr} {sl15 : Array (Option Value)} {oc15 kV15 dc15 pm15 cd15 ct15 : Value}
    {od16 an16 : Option Addr} {sl16 : Array (Option Value)} {oc16 kV16 dc16 pm16 cd16 ct16 : Value}
    {od17 an17 : Option Addr} {sl17 : Array (Option Value)} {oc17 kV17 dc17 pm17 cd17 ct17 : Value}
    {od18 an18 : Option Addr} {sl18 : Array (Option Value)} {oc18 kV18 dc18 pm18 cd18 ct18 : Value}
    {od19 an19 : Option Addr} {sl19 : Array (Option Value)} {oc19 kV19 dc19 pm19 cd19 ct19 : Value}
    {od20 an20 : Option Addr} {sl20 : Array (Option Value)} {oc20 kV20 dc20 pm20 cd20 ct20 : Value}
    {od21 an21 : Option Addr} {sl21 : Array (Option Value)} {oc21 kV21 dc21 pm21 cd21 ct21 : Value}
    {od22 an22 : Option Addr} {sl22 : Array (Option Value)} {oc22 kV22 dc22 pm22 cd22 ct22 : Value}
    {od23 an23 : Option Addr} {sl23 : Array (Option Value)} {oc23 kV23 dc23 pm23 ct23 : Value}
    {od24 an24 : Option Addr} {sl24 : Array (Option Value)} {oc24 kV24 dc24 pm24 cd24 ct24 : Value}
    {od25 an25 : Option Addr} {sl25 : Array (Option Value)} {oc25 kV25 dc25 pm25 cd25 ct25 : Value}
    {od26 an26 : Option Addr} {sl26 : Array (Option Value)} {oc26 kV26 dc26 pm26 cd26 ct26 : Value}
    {od27 an27 : Option Addr} {sl27 : Array (Option Value)} {oc27 kV27 dc27 pm27 cd27 ct27 : Value}
    {od28 an28 : Option Addr} {sl28 : Array (Option Value)} {oc28 kV28 dc28 pm28 ct28 : Value}
    {od29 an29 : Option Addr} {sl29 : Array (Option Value)} {oc29 kV29 dc29 pm29 cd29 ct29 : Value}
    {od30 an30 : Option Addr} {sl30 : Array (Option Value)} {oc30 kV30 dc30 pm30 cd30 ct30 : Value}
    {od31 an31 : Option Addr} {sl31 : Array (Option Value)} {oc31 kV31 dc31 pm31 cd31 ct31 : Value}
    {od32 an32 : Option Addr} {sl32 : Array (Option Value)} {oc32 kV32 dc32 pm32 cd32 ct32 : Value}
    {od33 an33 : Option Addr} {sl33 : Array (Option Value)} {oc33 kV33 dc33 pm33 cd33 ct33 : Value}
    {od34 an34 : Option Addr} {sl34 : Array (Option Value)} {oc34 kV34 dc34 pm34 cd34 ct34 : Value}
    {od35 an35 : Option Addr} {sl35 : Array (Option Value)} {oc35 kV35 dc35 pm35 cd35 ct35 : Value}
    {od36 an36 : Option Addr} {sl36 : Array (Option Value)} {oc36 kV36 dc36 pm36 cd36 ct36 : Value}
    {od37 an37 : Option Addr} {sl37 : Array (Option Value)} {oc37 kV37 dc37 pm37 cd37 ct37 : Value}
    {od38 an38 : Option Addr} {sl38 : Array (Option Value)} {oc38 kV38 dc38 pm38 cd38 ct38 : Value}
    {od39 an39 : Option Addr} {sl39 : Array (Option Value)} {oc39 kV39 dc39 pm39 cd39 ct39 : Value}
    {od40 an40 : Option Addr} {sl40 : Array (Option Value)} {oc40 kV40 dc40 pm40 cd40 ct40 : Value}
    {od41 an41 : Option Addr} {sl41 : Array (Option Value)} {oc41 kV41 dc41 pm41 cd41 ct41 : Value}
    {T41 : Addr} {cT41 : Value} {oT41 : Option Addr} {nT41 : Nat} {sT41 : Array (Option Value)} 
    {E41_0 : Addr} {eO41_0 : Option Addr} {eN41_0 : Nat} {eS41_0 : Array (Option Value)}
    {od42 an42 : Option Addr} {sl42 : Array (Option Value)} {oc42 kV42 dc42 pm42 cd42 ct42 : Value}
    {od43 an43 : Option Addr} {sl43 : Array (Option Value)} {oc43 kV43 dc43 pm43 cd43 ct43 : Value}
    {R44 : List Value}
    {od44 an44 : Option Addr} {sl44 : Array (Option Value)} {oc44 kV44 dc44 pm44 cd44 ct44 : Value}
    {od45 an45 : Option Addr} {sl45 : Array (Option Value)} {oc45 kV45 dc45 pm45 cd45 ct45 : Value}
    {T45 : Addr} {cT45 : Value} {oT45 : Option Addr} {nT45 : Nat} {sT45 : Array (Option Value)} {u45_0 : Tok}
    {od46 an46 : Option Addr} {sl46 : Array (Option Value)} {oc46 kV46 dc46 pm46 cd46 ct46 : Value}
    {R47 : List Value}
    {od47 an47 : Option Addr} {sl47 : Array (Option Value)} {oc47 kV47 dc47 pm47 cd47 ct47 : Value}
    {od48 an48 : Option Addr} {sl48 : Array (Option Value)} {oc48 kV48 dc48 pm48 cd48 ct48 : Value}
    {od49 an49 : Option Addr} {sl49 : Array (Option Value)} {oc49 kV49 dc49 pm49 cd49 ct49 : Value}
    {od50 an50 : Option Addr} {sl50 : Array (Option Value)} {oc50 kV50 dc50 pm50 cd50 ct50 : Value}
    {od51 an51 : Option Addr} {sl51 : Array (Option Value)} {oc51 kV51 dc51 pm51 cd51 ct51 : Value}
    {od52 an52 : Option Addr} {sl52 : Array (Option Value)} {oc52 kV52 dc52 pm52 cd52 ct52 : Value}
    {od53 an53 : Option Addr} {sl53 : Array (Option Value)} {oc53 kV53 dc53 pm53 cd53 ct53 : Value}
    {od54 an54 : Option Addr} {sl54 : Array (Option Value)} {oc54 kV54 dc54 pm54 cd54 ct54 : Value}
    {od55 an55 : Option Addr} {sl55 : Array (Option Value)} {oc55 kV55 dc55 pm55 cd55 ct55 : Value}
    {od56 an56 : Option Addr} {sl56 : Array (Option Value)} {oc56 kV56 dc56 pm56 cd56 ct56 : Value}
    {od57 an57 : Option Addr} {sl57 : Array (Option Value)} {oc57 kV57 dc57 pm57 cd57 ct57 : Value}
    {od58 an58 : Option Addr} {sl58 : Array (Option Value)} {oc58 kV58 dc58 pm58 cd58 ct58 : Value}
    {od59 an59 : Option Addr} {sl59 : Array (Option Value)} {oc59 kV59 dc59 pm59 cd59 ct59 : Value}
    {od60 an60 : Option Addr} {sl60 : Array (Option Value)} {oc60 kV60 dc60 pm60 cd60 ct60 : Value}
    {eC_spoiled : Value} {dC_spoiled : Option Addr} {vC_spoiled : Array Value} {sC_spoiled : Array (Option Value)}
    {eC_first_way : Value} {dC_first_way : Option Addr} {vC_first_way : Array Value} {sC_first_way : Array (Option Value)}
    (a1 : PySem.W.nsIn K mainGlobals "is_word" = some (some (.ref f1)))
    (l1 : K.lookup f1 = some ⟨oc1, od1, .func (PySem.W.fnOf "is_word" "is_word" (fnArgs s_is_word) (fnBody s_is_word) (fnScope s_is_word) (.ref T1) kV1 dc1 pm1 an1 cd1 ct1), sl1⟩)
    (c1 : PySem.W.codeIn K cd1 "is_word" = true)
    (k1 : PySem.W.keepIn K (.ref f1) = true)
    (d1 : K.lookup T1 = some ⟨cT1, oT1, .seq #[.int 0 u1_0] nT1, sT1⟩)
    (a2 : PySem.W.nsIn K mainGlobals "is_bit" = some (some (.ref f2)))
    (l2 : K.lookup f2 = some ⟨oc2, od2, .func (PySem.W.fnOf "is_bit" "is_bit" (fnArgs s_is_bit) (fnBody s_is_bit) (fnScope s_is_bit) .none kV2 dc2 pm2 an2 cd2 ct2), sl2⟩)
    (c2 : PySem.W.codeIn K cd2 "is_bit" = true)
    (k2 : PySem.W.keepIn K (.ref f2) = true)
    (a3 : PySem.W.nsIn K mainGlobals "is_stuff" = some (some (.ref f3)))
    (l3 : K.lookup f3 = some ⟨oc3, od3, .func (PySem.W.fnOf "is_stuff" "is_stuff" (fnArgs s_is_stuff) (fnBody s_is_stuff) (fnScope s_is_stuff) .none kV3 dc3 pm3 an3 cd3 ct3), sl3⟩)
    (c3 : PySem.W.codeIn K cd3 "is_stuff" = true)
    (k3 : PySem.W.keepIn K (.ref f3) = true)
    (a4 : PySem.W.nsIn K mainGlobals "one_ends_with_another" = some (some (.ref f4)))
    (l4 : K.lookup f4 = some ⟨oc4, od4, .func (PySem.W.fnOf "one_ends_with_another" "one_ends_with_another" (fnArgs s_one_ends_with_another) (fnBody s_one_ends_with_another) (fnScope s_one_ends_with_another) .none kV4 dc4 pm4 an4 cd4 ct4), sl4⟩)
    (c4 : PySem.W.codeIn K cd4 "one_ends_with_another" = true)
    (k4 : PySem.W.keepIn K (.ref f4) = true)
    (a5 : PySem.W.nsIn K mainGlobals "are_stuffs" = some (some (.ref f5)))
    (l5 : K.lookup f5 = some ⟨oc5, od5, .func (PySem.W.fnOf "are_stuffs" "are_stuffs" (fnArgs s_are_stuffs) (fnBody s_are_stuffs) (fnScope s_are_stuffs) .none kV5 dc5 pm5 an5 cd5 ct5), sl5⟩)
    (c5 : PySem.W.codeIn K cd5 "are_stuffs" = true)
    (k5 : PySem.W.keepIn K (.ref f5) = true)
    (a6 : PySem.W.nsIn K mainGlobals "longest_pattern" = some (some (.ref f6)))
    (l6 : K.lookup f6 = some ⟨oc6, od6, .func (PySem.W.fnOf "longest_pattern" "longest_pattern" (fnArgs s_longest_pattern) (fnBody s_longest_pattern) (fnScope s_longest_pattern) .none kV6 dc6 pm6 an6 cd6 ct6), sl6⟩)
    (c6 : PySem.W.codeIn K cd6 "longest_pattern" = true)
    (k6 : PySem.W.keepIn K (.ref f6) = true)
    (a7 : PySem.W.nsIn K mainGlobals "bit_behind" = some (some (.ref f7)))
    (l7 : K.lookup f7 = some ⟨oc7, od7, .func (PySem.W.fnOf "bit_behind" "bit_behind" (fnArgs s_bit_behind) (fnBody s_bit_behind) (fnScope s_bit_behind) .none kV7 dc7 pm7 an7 cd7 ct7), sl7⟩)
    (c7 : PySem.W.codeIn K cd7 "bit_behind" = true)
    (k7 : PySem.W.keepIn K (.ref f7) = true)
    (a8 : PySem.W.nsIn K mainGlobals "never_ends" = some (some (.ref f8)))
    (l8 : K.lookup f8 = some ⟨oc8, od8, .func (PySem.W.fnOf "never_ends" "never_ends" (fnArgs s_never_ends) (fnBody s_never_ends) (fnScope s_never_ends) .none kV8 dc8 pm8 an8 cd8 ct8), sl8⟩)
    (c8 : PySem.W.codeIn K cd8 "never_ends" = true)
    (k8 : PySem.W.keepIn K (.ref f8) = true)
    (a9 : PySem.W.nsIn K mainGlobals "are_endless" = some (some (.ref f9)))
    (l9 : K.lookup f9 = some ⟨oc9, od9, .func (PySem.W.fnOf "are_endless" "are_endless" (fnArgs s_are_endless) (fnBody s_are_endless) (fnScope s_are_endless) .none kV9 dc9 pm9 an9 cd9 ct9), sl9⟩)
    (c9 : PySem.W.codeIn K cd9 "are_endless" = true)
    (k9 : PySem.W.keepIn K (.ref f9) = true)
    (a10 : PySem.W.nsIn K mainGlobals "exchanged" = some (some (.ref f10)))
    (l10 : K.lookup f10 = some ⟨oc10, od10, .func (PySem.W.fnOf "exchanged" "exchanged" (fnArgs s_exchanged) (fnBody s_exchanged) (fnScope s_exchanged) .none kV10 dc10 pm10 an10 cd10 ct10), sl10⟩)
    (c10 : PySem.W.codeIn K cd10 "exchanged" = true)
    (k10 : PySem.W.keepIn K (.ref f10) = true)
    (a11 : PySem.W.nsIn K mainGlobals "other_bits" = some (some (.ref f11)))
    (l11 : K.lookup f11 = some ⟨oc11, od11, .func (PySem.W.fnOf "other_bits" "other_bits" (fnArgs s_other_bits) (fnBody s_other_bits) (fnScope s_other_bits) .none kV11 dc11 pm11 an11 cd11 ct11), sl11⟩)
    (c11 : PySem.W.codeIn K cd11 "other_bits" = true)
    (k11 : PySem.W.keepIn K (.ref f11) = true)
    (a12 : PySem.W.nsIn K mainGlobals "arriving" = some (some (.ref f12)))
    (l12 : K.lookup f12 = some ⟨oc12, od12, .func (PySem.W.fnOf "arriving" "arriving" (fnArgs s_arriving) (fnBody s_arriving) (fnScope s_arriving) .none kV12 dc12 pm12 an12 cd12 ct12), sl12⟩)
    (c12 : PySem.W.codeIn K cd12 "arriving" = true)
    (k12 : PySem.W.keepIn K (.ref f12) = true)
    (a13 : PySem.W.nsIn K mainGlobals "filled" = some (some (.ref f13)))
    (l13 : K.lookup f13 = some ⟨oc13, od13, .func (PySem.W.fnOf "filled" "filled" (fnArgs s_filled) (fnBody s_filled) (fnScope s_filled) .none kV13 dc13 pm13 an13 cd13 ct13), sl13⟩)
    (c13 : PySem.W.codeIn K cd13 "filled" = true)
    (k13 : PySem.W.keepIn K (.ref f13) = true)
    (a14 : PySem.W.nsIn K mainGlobals "is_kept" = some (some (.ref f14)))
    (l14 : K.lookup f14 = some ⟨oc14, od14, .func (PySem.W.fnOf "is_kept" "is_kept" (fnArgs s_is_kept) (fnBody s_is_kept) (fnScope s_is_kept) .none kV14 dc14 pm14 an14 cd14 ct14), sl14⟩)
    (c14 : PySem.W.codeIn K cd14 "is_kept" = true)
    (k14 : PySem.W.keepIn K (.ref f14) = true)
    (a15 : PySem.W.nsIn K mainGlobals "tail" = some (some (.ref f15)))
    (l15 : K.lookup f15 = some ⟨oc15, od15, .func (PySem.W.fnOf "tail" "tail" (fnArgs s_tail) (fnBody s_tail) (fnScope s_tail) .none kV15 dc15 pm15 an15 cd15 ct15), sl15⟩)
    (c15 : PySem.W.codeIn K cd15 "tail" = true)
    (k15 : PySem.W.keepIn K (.ref f15) = true)
    (a16 : PySem.W.nsIn K mainGlobals "can_end" = some (some (.ref f16)))
    (l16 : K.lookup f16 = some ⟨oc16, od16, .func (PySem.W.fnOf "can_end" "can_end" (fnArgs s_can_end) (fnBody s_can_end) (fnScope s_can_end) .none kV16 dc16 pm16 an16 cd16 ct16), sl16⟩)
    (c16 : PySem.W.codeIn K cd16 "can_end" = true)
    (k16 : PySem.W.keepIn K (.ref f16) = true)
    (a17 : PySem.W.nsIn K mainGlobals "hear" = some (some (.ref f17)))
    (l17 : K.lookup f17 = some ⟨oc17, od17, .func (PySem.W.fnOf "hear" "hear" (fnArgs s_hear) (fnBody s_hear) (fnScope s_hear) .none kV17 dc17 pm17 an17 cd17 ct17), sl17⟩)
    (c17 : PySem.W.codeIn K cd17 "hear" = true)
    (k17 : PySem.W.keepIn K (.ref f17) = true)
    (a18 : PySem.W.nsIn K mainGlobals "moved" = some (some (.ref f18)))
    (l18 : K.lookup f18 = some ⟨oc18, od18, .func (PySem.W.fnOf "moved" "moved" (fnArgs s_moved) (fnBody s_moved) (fnScope s_moved) .none kV18 dc18 pm18 an18 cd18 ct18), sl18⟩)
    (c18 : PySem.W.codeIn K cd18 "moved" = true)
    (k18 : PySem.W.keepIn K (.ref f18) = true)
    (a19 : PySem.W.nsIn K mainGlobals "is_unseen" = some (some (.ref f19)))
    (l19 : K.lookup f19 = some ⟨oc19, od19, .func (PySem.W.fnOf "is_unseen" "is_unseen" (fnArgs s_is_unseen) (fnBody s_is_unseen) (fnScope s_is_unseen) .none kV19 dc19 pm19 an19 cd19 ct19), sl19⟩)
    (c19 : PySem.W.codeIn K cd19 "is_unseen" = true)
    (k19 : PySem.W.keepIn K (.ref f19) = true)
    (a20 : PySem.W.nsIn K mainGlobals "marks_to" = some (some (.ref f20)))
    (l20 : K.lookup f20 = some ⟨oc20, od20, .func (PySem.W.fnOf "marks_to" "marks_to" (fnArgs s_marks_to) (fnBody s_marks_to) (fnScope s_marks_to) .none kV20 dc20 pm20 an20 cd20 ct20), sl20⟩)
    (c20 : PySem.W.codeIn K cd20 "marks_to" = true)
    (k20 : PySem.W.keepIn K (.ref f20) = true)
    (a21 : PySem.W.nsIn K mainGlobals "shortest_way" = some (some (.ref f21)))
    (l21 : K.lookup f21 = some ⟨oc21, od21, .func (PySem.W.fnOf "shortest_way" "shortest_way" (fnArgs s_shortest_way) (fnBody s_shortest_way) (fnScope s_shortest_way) .none kV21 dc21 pm21 an21 cd21 ct21), sl21⟩)
    (c21 : PySem.W.codeIn K cd21 "shortest_way" = true)
    (k21 : PySem.W.keepIn K (.ref f21) = true)
    (a22 : PySem.W.nsIn K mainGlobals "begin_of" = some (some (.ref f22)))
    (l22 : K.lookup f22 = some ⟨oc22, od22, .func (PySem.W.fnOf "begin_of" "begin_of" (fnArgs s_begin_of) (fnBody s_begin_of) (fnScope s_begin_of) .none kV22 dc22 pm22 an22 cd22 ct22), sl22⟩)
    (c22 : PySem.W.codeIn K cd22 "begin_of" = true)
    (k22 : PySem.W.keepIn K (.ref f22) = true)
    (a23 : PySem.W.nsIn K mainGlobals "first_way" = some (some (.ref f23)))
    (l23 : K.lookup f23 = some ⟨oc23, od23, .func (PySem.W.fnOf "first_way" "first_way" (fnArgs s_first_way) (fnBody s_first_way) (fnScope s_first_way) .none kV23 dc23 pm23 an23 (.ref cc_first_way) ct23), sl23⟩)
    (c23 : PySem.W.codeIn K (.ref cc_first_way) "first_way" = true)
    (k23 : PySem.W.keepIn K (.ref f23) = true)
    (a24 : PySem.W.nsIn K mainGlobals "first_unseen" = some (some (.ref f24)))
    (l24 : K.lookup f24 = some ⟨oc24, od24, .func (PySem.W.fnOf "first_unseen" "first_unseen" (fnArgs s_first_unseen) (fnBody s_first_unseen) (fnScope s_first_unseen) .none kV24 dc24 pm24 an24 cd24 ct24), sl24⟩)
    (c24 : PySem.W.codeIn K cd24 "first_unseen" = true)
    (k24 : PySem.W.keepIn K (.ref f24) = true)
    (a25 : PySem.W.nsIn K mainGlobals "last_bits" = some (some (.ref f25)))
    (l25 : K.lookup f25 = some ⟨oc25, od25, .func (PySem.W.fnOf "last_bits" "last_bits" (fnArgs s_last_bits) (fnBody s_last_bits) (fnScope s_last_bits) .none kV25 dc25 pm25 an25 cd25 ct25), sl25⟩)
    (c25 : PySem.W.codeIn K cd25 "last_bits" = true)
    (k25 : PySem.W.keepIn K (.ref f25) = true)
    (a26 : PySem.W.nsIn K mainGlobals "standing_behind" = some (some (.ref f26)))
    (l26 : K.lookup f26 = some ⟨oc26, od26, .func (PySem.W.fnOf "standing_behind" "standing_behind" (fnArgs s_standing_behind) (fnBody s_standing_behind) (fnScope s_standing_behind) .none kV26 dc26 pm26 an26 cd26 ct26), sl26⟩)
    (c26 : PySem.W.codeIn K cd26 "standing_behind" = true)
    (k26 : PySem.W.keepIn K (.ref f26) = true)
    (a27 : PySem.W.nsIn K mainGlobals "first_refused" = some (some (.ref f27)))
    (l27 : K.lookup f27 = some ⟨oc27, od27, .func (PySem.W.fnOf "first_refused" "first_refused" (fnArgs s_first_refused) (fnBody s_first_refused) (fnScope s_first_refused) .none kV27 dc27 pm27 an27 cd27 ct27), sl27⟩)
    (c27 : PySem.W.codeIn K cd27 "first_refused" = true)
    (k27 : PySem.W.keepIn K (.ref f27) = true)
    (a28 : PySem.W.nsIn K mainGlobals "spoiled" = some (some (.ref f28)))
    (l28 : K.lookup f28 = some ⟨oc28, od28, .func (PySem.W.fnOf "spoiled" "spoiled" (fnArgs s_spoiled) (fnBody s_spoiled) (fnScope s_spoiled) .none kV28 dc28 pm28 an28 (.ref cc_spoiled) ct28), sl28⟩)
    (c28 : PySem.W.codeIn K (.ref cc_spoiled) "spoiled" = true)
    (k28 : PySem.W.keepIn K (.ref f28) = true)
    (a29 : PySem.W.nsIn K mainGlobals "is_clean" = some (some (.ref f29)))
    (l29 : K.lookup f29 = some ⟨oc29, od29, .func (PySem.W.fnOf "is_clean" "is_clean" (fnArgs s_is_clean) (fnBody s_is_clean) (fnScope s_is_clean) .none kV29 dc29 pm29 an29 cd29 ct29), sl29⟩)
    (c29 : PySem.W.codeIn K cd29 "is_clean" = true)
    (k29 : PySem.W.keepIn K (.ref f29) = true)
    (a30 : PySem.W.nsIn K mainGlobals "_law_seed" = some (some (.ref f30)))
    (l30 : K.lookup f30 = some ⟨oc30, od30, .func (PySem.W.fnOf "_law_seed" "_law_seed" (fnArgs s_seed) (fnBody s_seed) (fnScope s_seed) .none kV30 dc30 pm30 an30 cd30 ct30), sl30⟩)
    (c30 : PySem.W.codeIn K cd30 "_law_seed" = true)
    (k30 : PySem.W.keepIn K (.ref f30) = true)
    (a31 : PySem.W.nsIn K mainGlobals "_law_choose" = some (some (.ref f31)))
    (l31 : K.lookup f31 = some ⟨oc31, od31, .func (PySem.W.fnOf "_law_choose" "_law_choose" (fnArgs s_choose) (fnBody s_choose) (fnScope s_choose) .none kV31 dc31 pm31 an31 cd31 ct31), sl31⟩)
    (c31 : PySem.W.codeIn K cd31 "_law_choose" = true)
    (k31 : PySem.W.keepIn K (.ref f31) = true)
    (a32 : PySem.W.nsIn K mainGlobals "_law_one_of" = some (some (.ref f32)))
    (l32 : K.lookup f32 = some ⟨oc32, od32, .func (PySem.W.fnOf "_law_one_of" "_law_one_of" (fnArgs s_one_of) (fnBody s_one_of) (fnScope s_one_of) .none kV32 dc32 pm32 an32 cd32 ct32), sl32⟩)
    (c32 : PySem.W.codeIn K cd32 "_law_one_of" = true)
    (k32 : PySem.W.keepIn K (.ref f32) = true)
    (a33 : PySem.W.nsIn K mainGlobals "_law_word" = some (some (.ref f33)))
    (l33 : K.lookup f33 = some ⟨oc33, od33, .func (PySem.W.fnOf "_law_word" "_law_word" (fnArgs s_word) (fnBody s_word) (fnScope s_word) .none kV33 dc33 pm33 an33 cd33 ct33), sl33⟩)
    (c33 : PySem.W.codeIn K cd33 "_law_word" = true)
    (k33 : PySem.W.keepIn K (.ref f33) = true)
    (a34 : PySem.W.nsIn K mainGlobals "_law_put" = some (some (.ref f34)))
    (l34 : K.lookup f34 = some ⟨oc34, od34, .func (PySem.W.fnOf "_law_put" "_law_put" (fnArgs s_put) (fnBody s_put) (fnScope s_put) .none kV34 dc34 pm34 an34 cd34 ct34), sl34⟩)
    (c34 : PySem.W.codeIn K cd34 "_law_put" = true)
    (k34 : PySem.W.keepIn K (.ref f34) = true)
    (a35 : PySem.W.nsIn K mainGlobals "_law_is_rule" = some (some (.ref f35)))
    (l35 : K.lookup f35 = some ⟨oc35, od35, .func (PySem.W.fnOf "_law_is_rule" "_law_is_rule" (fnArgs s_is_rule) (fnBody s_is_rule) (fnScope s_is_rule) .none kV35 dc35 pm35 an35 cd35 ct35), sl35⟩)
    (c35 : PySem.W.codeIn K cd35 "_law_is_rule" = true)
    (k35 : PySem.W.keepIn K (.ref f35) = true)
    (a36 : PySem.W.nsIn K mainGlobals "_law_rule" = some (some (.ref f36)))
    (l36 : K.lookup f36 = some ⟨oc36, od36, .func (PySem.W.fnOf "_law_rule" "_law_rule" (fnArgs s_rule) (fnBody s_rule) (fnScope s_rule) .none kV36 dc36 pm36 an36 cd36 ct36), sl36⟩)
    (c36 : PySem.W.codeIn K cd36 "_law_rule" = true)
    (k36 : PySem.W.keepIn K (.ref f36) = true)
    (a37 : PySem.W.nsIn K mainGlobals "_law_made" = some (some (.ref f37)))
    (l37 : K.lookup f37 = some ⟨oc37, od37, .func (PySem.W.fnOf "_law_made" "_law_made" (fnArgs s_made) (fnBody s_made) (fnScope s_made) .none kV37 dc37 pm37 an37 cd37 ct37), sl37⟩)
    (c37 : PySem.W.codeIn K cd37 "_law_made" = true)
    (k37 : PySem.W.keepIn K (.ref f37) = true)
    (a38 : PySem.W.nsIn K mainGlobals "_law_check" = some (some (.ref f38)))
    (l38 : K.lookup f38 = some ⟨oc38, od38, .func (PySem.W.fnOf "_law_check" "_law_check" (fnArgs s_check) (fnBody s_check) (fnScope s_check) .none kV38 dc38 pm38 an38 cd38 ct38), sl38⟩)
    (c38 : PySem.W.codeIn K cd38 "_law_check" = true)
    (k38 : PySem.W.keepIn K (.ref f38) = true)
    (a39 : PySem.W.nsIn K mainGlobals "_law_is_no_longer" = some (some (.ref f39)))
    (l39 : K.lookup f39 = some ⟨oc39, od39, .func (PySem.W.fnOf "_law_is_no_longer" "_law_is_no_longer" (fnArgs s_is_no_longer) (fnBody s_is_no_longer) (fnScope s_is_no_longer) .none kV39 dc39 pm39 an39 cd39 ct39), sl39⟩)
    (c39 : PySem.W.codeIn K cd39 "_law_is_no_longer" = true)
    (k39 : PySem.W.keepIn K (.ref f39) = true)
    (a40 : PySem.W.nsIn K mainGlobals "law" = some (some (.ref f40)))
    (l40 : K.lookup f40 = some ⟨oc40, od40, .func (PySem.W.fnOf "law" "law" (fnArgs s_law) (fnBody s_law) (fnScope s_law) .none kV40 dc40 pm40 an40 cd40 ct40), sl40⟩)
    (c40 : PySem.W.codeIn K cd40 "law" = true)
    (k40 : PySem.W.keepIn K (.ref f40) = true)
    (aCRule : PySem.W.nsIn K mainGlobals "Rule" = some (some (.ref CRule)))
    (a41 : PySem.W.findIn K (.ref CRule) "__init__" = some (some (.ref f41)))
    (i41 : PySem.W.isFn K (.ref f41) = true)
    (l41 : K.lookup f41 = some ⟨oc41, od41, .func (PySem.W.fnOf "__init__" "Rule.__init__" (fnArgs s_Rule_init) (fnBody s_Rule_init) (fnScope s_Rule_init) (.ref T41) kV41 dc41 pm41 an41 cd41 ct41), sl41⟩)
    (c41 : PySem.W.codeIn K cd41 "Rule.__init__" = true)
    (k41 : PySem.W.keepIn K (.ref f41) = true)
    (d41 : K.lookup T41 = some ⟨cT41, oT41, .seq #[.ref E41_0] nT41, sT41⟩)
    (e41_0 : K.lookup E41_0 = some ⟨.type "tuple", eO41_0, .seq #[] eN41_0, eS41_0⟩)
    (a42 : PySem.W.findIn K (.ref CRule) "put" = some (some (.ref f42)))
    (i42 : PySem.W.isFn K (.ref f42) = true)
    (l42 : K.lookup f42 = some ⟨oc42, od42, .func (PySem.W.fnOf "put" "Rule.put" (fnArgs s_Rule_put) (fnBody s_Rule_put) (fnScope s_Rule_put) .none kV42 dc42 pm42 an42 cd42 ct42), sl42⟩)
    (c42 : PySem.W.codeIn K cd42 "Rule.put" = true)
    (k42 : PySem.W.keepIn K (.ref f42) = true)
    (a43 : PySem.W.findIn K (.ref CRule) "patterns" = some (some (.ref f43)))
    (i43 : PySem.W.isFn K (.ref f43) = true)
    (l43 : K.lookup f43 = some ⟨oc43, od43, .func (PySem.W.fnOf "patterns" "Rule.patterns" (fnArgs s_Rule_patterns) (fnBody s_Rule_patterns) (fnScope s_Rule_patterns) .none kV43 dc43 pm43 an43 cd43 ct43), sl43⟩)
    (c43 : PySem.W.codeIn K cd43 "Rule.patterns" = true)
    (k43 : PySem.W.keepIn K (.ref f43) = true)
    (a44 : PySem.W.findIn K (.ref CRule) "longest" = some (some (.ref p44)))
    (q44 : PySem.W.specialIn K (.ref p44) "__get__" = some (some (.builtin "property.__get__")))
    (t44 : PySem.W.takesIn K (.ref p44) = some true)
    (r44 : PySem.W.recIn K p44 "property" = some (.ref f44 :: R44))
    (l44 : K.lookup f44 = some ⟨oc44, od44, .func (PySem.W.fnOf "longest" "Rule.longest" (fnArgs s_Rule_longest) (fnBody s_Rule_longest) (fnScope s_Rule_longest) .none kV44 dc44 pm44 an44 cd44 ct44), sl44⟩)
    (c44 : PySem.W.codeIn K cd44 "Rule.longest" = true)
    (k44 : PySem.W.keepIn K (.ref f44) = true)
    (pgCRule : PySem.W.plainGet K CRule Str.empty = true)
    (hdCRule : PySem.W.hasDictIn K CRule = true)
    (poCRule : PySem.W.plainOver K CRule = true)
    (saCRule : PySem.W.findIn K (.ref CRule) "__setattr__" = some (some (.builtin "object.__setattr__")))
    (mkCRule : PySem.W.makesIn K CRule = true)
    (kcCRule : PySem.W.keepIn K (.ref CRule) = true)
    (nCRule_flag : PySem.W.findIn K (.ref CRule) "flag" = some none)
    (nCRule_stuffs : PySem.W.findIn K (.ref CRule) "stuffs" = some none)
    (aCCheck : PySem.W.nsIn K mainGlobals "Check" = some (some (.ref CCheck)))
    (a45 : PySem.W.findIn K (.ref CCheck) "__init__" = some (some (.ref f45)))
    (i45 : PySem.W.isFn K (.ref f45) = true)
    (l45 : K.lookup f45 = some ⟨oc45, od45, .func (PySem.W.fnOf "__init__" "Check.__init__" (fnArgs s_Check_init) (fnBody s_Check_init) (fnScope s_Check_init) (.ref T45) kV45 dc45 pm45 an45 cd45 ct45), sl45⟩)
    (c45 : PySem.W.codeIn K cd45 "Check.__init__" = true)
    (k45 : PySem.W.keepIn K (.ref f45) = true)
    (d45 : K.lookup T45 = some ⟨cT45, oT45, .seq #[.str "1" u45_0, .none] nT45, sT45⟩)
    (a46 : PySem.W.findIn K (.ref CCheck) "rest" = some (some (.ref f46)))
    (i46 : PySem.W.isFn K (.ref f46) = true)
    (l46 : K.lookup f46 = some ⟨oc46, od46, .func (PySem.W.fnOf "rest" "Check.rest" (fnArgs s_Check_rest) (fnBody s_Check_rest) (fnScope s_Check_rest) .none kV46 dc46 pm46 an46 cd46 ct46), sl46⟩)
    (c46 : PySem.W.codeIn K cd46 "Check.rest" = true)
    (k46 : PySem.W.keepIn K (.ref f46) = true)
    (a47 : PySem.W.findIn K (.ref CCheck) "degree" = some (some (.ref p47)))
    (q47 : PySem.W.specialIn K (.ref p47) "__get__" = some (some (.builtin "property.__get__")))
    (t47 : PySem.W.takesIn K (.ref p47) = some true)
    (r47 : PySem.W.recIn K p47 "property" = some (.ref f47 :: R47))
    (l47 : K.lookup f47 = some ⟨oc47, od47, .func (PySem.W.fnOf "degree" "Check.degree" (fnArgs s_Check_degree) (fnBody s_Check_degree) (fnScope s_Check_degree) .none kV47 dc47 pm47 an47 cd47 ct47), sl47⟩)
    (c47 : PySem.W.codeIn K cd47 "Check.degree" = true)
    (k47 : PySem.W.keepIn K (.ref f47) = true)
    (pgCCheck : PySem.W.plainGet K CCheck Str.empty = true)
    (hdCCheck : PySem.W.hasDictIn K CCheck = true)
    (poCCheck : PySem.W.plainOver K CCheck = true)
    (saCCheck : PySem.W.findIn K (.ref CCheck) "__setattr__" = some (some (.builtin "object.__setattr__")))
    (mkCCheck : PySem.W.makesIn K CCheck = true)
    (kcCCheck : PySem.W.keepIn K (.ref CCheck) = true)
    (nCCheck_poly : PySem.W.findIn K (.ref CCheck) "poly" = some none)
    (nCCheck_start : PySem.W.findIn K (.ref CCheck) "start" = some none)
    (aCNet : PySem.W.nsIn K mainGlobals "Net" = some (some (.ref CNet)))
    (a48 : PySem.W.findIn K (.ref CNet) "_settled" = some (some (.ref f48)))
    (i48 : PySem.W.isFn K (.ref f48) = true)
    (l48 : K.lookup f48 = some ⟨oc48, od48, .func (PySem.W.fnOf "_settled" "Net._settled" (fnArgs s_Netsettled) (fnBody s_Netsettled) (fnScope s_Netsettled) .none kV48 dc48 pm48 an48 cd48 ct48), sl48⟩)
    (c48 : PySem.W.codeIn K cd48 "Net._settled" = true)
    (k48 : PySem.W.keepIn K (.ref f48) = true)
    (a49 : PySem.W.findIn K (.ref CNet) "_gap_behind" = some (some (.ref f49)))
    (i49 : PySem.W.isFn K (.ref f49) = true)
    (l49 : K.lookup f49 = some ⟨oc49, od49, .func (PySem.W.fnOf "_gap_behind" "Net._gap_behind" (fnArgs s_Netgap_behind) (fnBody s_Netgap_behind) (fnScope s_Netgap_behind) .none kV49 dc49 pm49 an49 cd49 ct49), sl49⟩)
    (c49 : PySem.W.codeIn K cd49 "Net._gap_behind" = true)
    (k49 : PySem.W.keepIn K (.ref f49) = true)
    (a50 : PySem.W.findIn K (.ref CNet) "_ears_behind" = some (some (.ref f50)))
    (i50 : PySem.W.isFn K (.ref f50) = true)
    (l50 : K.lookup f50 = some ⟨oc50, od50, .func (PySem.W.fnOf "_ears_behind" "Net._ears_behind" (fnArgs s_Netears_behind) (fnBody s_Netears_behind) (fnScope s_Netears_behind) .none kV50 dc50 pm50 an50 cd50 ct50), sl50⟩)
    (c50 : PySem.W.codeIn K cd50 "Net._ears_behind" = true)
    (k50 : PySem.W.keepIn K (.ref f50) = true)
    (a51 : PySem.W.findIn K (.ref CNet) "_arrived" = some (some (.ref f51)))
    (i51 : PySem.W.isFn K (.ref f51) = true)
    (l51 : K.lookup f51 = some ⟨oc51, od51, .func (PySem.W.fnOf "_arrived" "Net._arrived" (fnArgs s_Netarrived) (fnBody s_Netarrived) (fnScope s_Netarrived) .none kV51 dc51 pm51 an51 cd51 ct51), sl51⟩)
    (c51 : PySem.W.codeIn K cd51 "Net._arrived" = true)
    (k51 : PySem.W.keepIn K (.ref f51) = true)
    (a52 : PySem.W.findIn K (.ref CNet) "_number" = some (some (.ref f52)))
    (i52 : PySem.W.isFn K (.ref f52) = true)
    (l52 : K.lookup f52 = some ⟨oc52, od52, .func (PySem.W.fnOf "_number" "Net._number" (fnArgs s_Netnumber) (fnBody s_Netnumber) (fnScope s_Netnumber) .none kV52 dc52 pm52 an52 cd52 ct52), sl52⟩)
    (c52 : PySem.W.codeIn K cd52 "Net._number" = true)
    (k52 : PySem.W.keepIn K (.ref f52) = true)
    (a53 : PySem.W.findIn K (.ref CNet) "used" = some (some (.ref f53)))
    (i53 : PySem.W.isFn K (.ref f53) = true)
    (l53 : K.lookup f53 = some ⟨oc53, od53, .func (PySem.W.fnOf "used" "Net.used" (fnArgs s_Net_used) (fnBody s_Net_used) (fnScope s_Net_used) .none kV53 dc53 pm53 an53 cd53 ct53), sl53⟩)
    (c53 : PySem.W.codeIn K cd53 "Net.used" = true)
    (k53 : PySem.W.keepIn K (.ref f53) = true)
    (a54 : PySem.W.findIn K (.ref CNet) "is_end" = some (some (.ref f54)))
    (i54 : PySem.W.isFn K (.ref f54) = true)
    (l54 : K.lookup f54 = some ⟨oc54, od54, .func (PySem.W.fnOf "is_end" "Net.is_end" (fnArgs s_Net_is_end) (fnBody s_Net_is_end) (fnScope s_Net_is_end) .none kV54 dc54 pm54 an54 cd54 ct54), sl54⟩)
    (c54 : PySem.W.codeIn K cd54 "Net.is_end" = true)
    (k54 : PySem.W.keepIn K (.ref f54) = true)
    (a55 : PySem.W.findIn K (.ref CNet) "_heard_of" = some (some (.ref f55)))
    (i55 : PySem.W.isFn K (.ref f55) = true)
    (l55 : K.lookup f55 = some ⟨oc55, od55, .func (PySem.W.fnOf "_heard_of" "Net._heard_of" (fnArgs s_Netheard_of) (fnBody s_Netheard_of) (fnScope s_Netheard_of) .none kV55 dc55 pm55 an55 cd55 ct55), sl55⟩)
    (c55 : PySem.W.codeIn K cd55 "Net._heard_of" = true)
    (k55 : PySem.W.keepIn K (.ref f55) = true)
    (a56 : PySem.W.findIn K (.ref CNet) "_steps_from" = some (some (.ref f56)))
    (i56 : PySem.W.isFn K (.ref f56) = true)
    (l56 : K.lookup f56 = some ⟨oc56, od56, .func (PySem.W.fnOf "_steps_from" "Net._steps_from" (fnArgs s_Netsteps_from) (fnBody s_Netsteps_from) (fnScope s_Netsteps_from) .none kV56 dc56 pm56 an56 cd56 ct56), sl56⟩)
    (c56 : PySem.W.codeIn K cd56 "Net._steps_from" = true)
    (k56 : PySem.W.keepIn K (.ref f56) = true)
    (a57 : PySem.W.findIn K (.ref CNet) "steps" = some (some (.ref f57)))
    (i57 : PySem.W.isFn K (.ref f57) = true)
    (l57 : K.lookup f57 = some ⟨oc57, od57, .func (PySem.W.fnOf "steps" "Net.steps" (fnArgs s_Net_steps) (fnBody s_Net_steps) (fnScope s_Net_steps) .none kV57 dc57 pm57 an57 cd57 ct57), sl57⟩)
    (c57 : PySem.W.codeIn K cd57 "Net.steps" = true)
    (k57 : PySem.W.keepIn K (.ref f57) = true)
    (a58 : PySem.W.findIn K (.ref CNet) "__init__" = some (some (.ref f58)))
    (i58 : PySem.W.isFn K (.ref f58) = true)
    (l58 : K.lookup f58 = some ⟨oc58, od58, .func (PySem.W.fnOf "__init__" "Net.__init__" (fnArgs s_Net_init) (fnBody s_Net_init) (fnScope s_Net_init) .none kV58 dc58 pm58 an58 cd58 ct58), sl58⟩)
    (c58 : PySem.W.codeIn K cd58 "Net.__init__" = true)
    (k58 : PySem.W.keepIn K (.ref f58) = true)
    (pgCNet : PySem.W.plainGet K CNet Str.empty = true)
    (hdCNet : PySem.W.hasDictIn K CNet = true)
    (poCNet : PySem.W.plainOver K CNet = true)
    (saCNet : PySem.W.findIn K (.ref CNet) "__setattr__" = some (some (.builtin "object.__setattr__")))
    (mkCNet : PySem.W.makesIn K CNet = true)
    (kcCNet : PySem.W.keepIn K (.ref CNet) = true)
    (nCNet__rule : PySem.W.findIn K (.ref CNet) "_rule" = some none)
    (nCNet__kinds : PySem.W.findIn K (.ref CNet) "_kinds" = some none)
    (nCNet__most : PySem.W.findIn K (.ref CNet) "_most" = some none)
    (nCNet__how : PySem.W.findIn K (.ref CNet) "_how" = some none)
    (nCNet__places : PySem.W.findIn K (.ref CNet) "_places" = some none)
    (nCNet__numbers : PySem.W.findIn K (.ref CNet) "_numbers" = some none)
    (nCNet__steps : PySem.W.findIn K (.ref CNet) "_steps" = some none)
    (nCNet_begin : PySem.W.findIn K (.ref CNet) "begin" = some none)
    (aCLefts : PySem.W.nsIn K mainGlobals "Lefts" = some (some (.ref CLefts)))
    (a59 : PySem.W.findIn K (.ref CLefts) "__init__" = some (some (.ref f59)))
    (i59 : PySem.W.isFn K (.ref f59) = true)
    (l59 : K.lookup f59 = some ⟨oc59, od59, .func (PySem.W.fnOf "__init__" "Lefts.__init__" (fnArgs s_Lefts_init) (fnBody s_Lefts_init) (fnScope s_Lefts_init) .none kV59 dc59 pm59 an59 cd59 ct59), sl59⟩)
    (c59 : PySem.W.codeIn K cd59 "Lefts.__init__" = true)
    (k59 : PySem.W.keepIn K (.ref f59) = true)
    (a60 : PySem.W.findIn K (.ref CLefts) "behind" = some (some (.ref f60)))
    (i60 : PySem.W.isFn K (.ref f60) = true)
    (l60 : K.lookup f60 = some ⟨oc60, od60, .func (PySem.W.fnOf "behind" "Lefts.behind" (fnArgs s_Lefts_behind) (fnBody s_Lefts_behind) (fnScope s_Lefts_behind) .none kV60 dc60 pm60 an60 cd60 ct60), sl60⟩)
    (c60 : PySem.W.codeIn K cd60 "Lefts.behind" = true)
    (k60 : PySem.W.keepIn K (.ref f60) = true)
    (pgCLefts : PySem.W.plainGet K CLefts Str.empty = true)
    (hdCLefts : PySem.W.hasDictIn K CLefts = true)
    (poCLefts : PySem.W.plainOver K CLefts = true)
    (saCLefts : PySem.W.findIn K (.ref CLefts) "__setattr__" = some (some (.builtin "object.__setattr__")))
    (mkCLefts : PySem.W.makesIn K CLefts = true)
    (kcCLefts : PySem.W.keepIn K (.ref CLefts) = true)
    (nCLefts__check : PySem.W.findIn K (.ref CLefts) "_check" = some none)
    (nCLefts__known : PySem.W.findIn K (.ref CLefts) "_known" = some none)
    (nCLefts_begin : PySem.W.findIn K (.ref CLefts) "begin" = some none)
    (nCLefts_good : PySem.W.findIn K (.ref CLefts) "good" = some none)
    (x_spoiled : K.lookup cc_spoiled = some ⟨eC_spoiled, dC_spoiled, .fields vC_spoiled, sC_spoiled⟩)
    (v_spoiled : vC_spoiled[11]? = some (.ref P_spoiled))
    (n_spoiled : K.lookup P_spoiled = none)
    (x_first_way : K.lookup cc_first_way = some ⟨eC_first_way, dC_first_way, .fields vC_first_way, sC_first_way⟩)
    (v_first_way : vC_first_way[11]? = some (.ref P_first_way))
    (n_first_way : K.lookup P_first_way = none)
    (u_spoiled_first_way : (P_spoiled == P_first_way) = false)
    (z_len : PySem.W.nsIn K mainGlobals "len" = some none)
    (z_abs : PySem.W.nsIn K mainGlobals "abs" = some none)
    (z_max : PySem.W.nsIn K mainGlobals "max" = some none)
    (z_min : PySem.W.nsIn K mainGlobals "min" = some none)
    (z_int : PySem.W.nsIn K mainGlobals "int" = some none)
    (z_str : PySem.W.nsIn K mainGlobals "str" = some none)
    (z_range : PySem.W.nsIn K mainGlobals "range" = some none)
    (z_zip : PySem.W.nsIn K mainGlobals "zip" = some none)
    (z_enumerate : PySem.W.nsIn K mainGlobals "enumerate" = some none)
    (z_isinstance : PySem.W.nsIn K mainGlobals "isinstance" = some none)
    (z_all : PySem.W.nsIn K mainGlobals "all" = some none)
    (z_any : PySem.W.nsIn K mainGlobals "any" = some none)
    (z_list : PySem.W.nsIn K mainGlobals "list" = some none)
    (z_tuple : PySem.W.nsIn K mainGlobals "tuple" = some none)
    (z_repr : PySem.W.nsIn K mainGlobals "repr" = some none)
    (z_set : PySem.W.nsIn K mainGlobals "set" = some none)
    (z_sorted : PySem.W.nsIn K mainGlobals "sorted" = some none)
    : LamX.LawAtS l w K CX0 13 63 "_law_script" mg fa h := by
  have e := hfa.symm.trans (PySem.W.mg_of X G a40)
  cases e
  have F1 : C8.Fun K "is_word" "is_word" s_is_word f1 _ := ⟨⟨_, _, _, _, _, _, _, _, _, _, rfl, l1, c1⟩⟩
  have D1 : FunD K "is_word" "is_word" (fnArgs s_is_word) (fnBody s_is_word) (fnScope s_is_word) [V.int 0] [] f1 _ := ⟨⟨_, _, _, _, _, _, _, _, _, _, rfl, l1, c1, .inr ⟨by simp, T1, _, _, _, rfl, d1, rfl, (.cons ⟨_, rfl⟩ .nil)⟩, .inl rfl⟩, k1⟩
  obtain ⟨ds1_1, v1_1, b1_1⟩ := D1.binds1 (ps := ["value", "least"]) 1 0 (by simp) rfl fun _ _ _ _ _ _ _ us its hu hi => match us, its, hu, hi with | [_], [_], _, _ => ⟨_, rfl, rfl⟩
  obtain ⟨ds1_2, v1_2, b1_2⟩ := D1.binds1 (ps := ["value", "least"]) 2 1 (by simp) rfl fun _ _ _ _ _ _ _ us its hu hi => match us, its, hu, hi with | [_, _], [_], _, _ => ⟨_, rfl, rfl⟩
  have g1 : mg "is_word" = some (.ref f1) := PySem.W.mg_of X G a1
  have F2 : C8.Fun K "is_bit" "is_bit" s_is_bit f2 _ := ⟨⟨_, _, _, _, _, _, _, _, _, _, rfl, l2, c2⟩⟩
  have b2 := F2.binds rfl (ps := ["value"]) fun _ _ _ _ _ _ us hl => match us, hl with | [_], _ => rfl
  have g2 : mg "is_bit" = some (.ref f2) := PySem.W.mg_of X G a2
  have F3 : C8.Fun K "is_stuff" "is_stuff" s_is_stuff f3 _ := ⟨⟨_, _, _, _, _, _, _, _, _, _, rfl, l3, c3⟩⟩
  have b3 := F3.binds rfl (ps := ["value"]) fun _ _ _ _ _ _ us hl => match us, hl with | [_], _ => rfl
  have g3 : mg "is_stuff" = some (.ref f3) := PySem.W.mg_of X G a3
  have F4 : C8.Fun K "one_ends_with_another" "one_ends_with_another" s_one_ends_with_another f4 _ := ⟨⟨_, _, _, _, _, _, _, _, _, _, rfl, l4, c4⟩⟩
  have b4 := F4.binds rfl (ps := ["patterns"]) fun _ _ _ _ _ _ us hl => match us, hl with | [_], _ => rfl
  have g4 : mg "one_ends_with_another" = some (.ref f4) := PySem.W.mg_of X G a4
  have F5 : C8.Fun K "are_stuffs" "are_stuffs" s_are_stuffs f5 _ := ⟨⟨_, _, _, _, _, _, _, _, _, _, rfl, l5, c5⟩⟩
  have b5 := F5.binds rfl (ps := ["value"]) fun _ _ _ _ _ _ us hl => match us, hl with | [_], _ => rfl
  have g5 : mg "are_stuffs" = some (.ref f5) := PySem.W.mg_of X G a5
  have F6 : C8.Fun K "longest_pattern" "longest_pattern" s_longest_pattern f6 _ := ⟨⟨_, _, _, _, _, _, _, _, _, _, rfl, l6, c6⟩⟩
  have b6 := F6.binds rfl (ps := ["stuffs"]) fun _ _ _ _ _ _ us hl => match us, hl with | [_], _ => rfl
  have g6 : mg "longest_pattern" = some (.ref f6) := PySem.W.mg_of X G a6
  have F7 : C8.Fun K "bit_behind" "bit_behind" s_bit_behind f7 _ := ⟨⟨_, _, _, _, _, _, _, _, _, _, rfl, l7, c7⟩⟩
  have b7 := F7.binds rfl (ps := ["stuffs", "line"]) fun _ _ _ _ _ _ us hl => match us, hl with | [_, _], _ => rfl
  have g7 : mg "bit_behind" = some (.ref f7) := PySem.W.mg_of X G a7
  have F8 : C8.Fun K "never_ends" "never_ends" s_never_ends f8 _ := ⟨⟨_, _, _, _, _, _, _, _, _, _, rfl, l8, c8⟩⟩
  have b8 := F8.binds rfl (ps := ["stuffs", "line"]) fun _ _ _ _ _ _ us hl => match us, hl with | [_, _], _ => rfl
  have g8 : mg "never_ends" = some (.ref f8) := PySem.W.mg_of X G a8
  have F9 : C8.Fun K "are_endless" "are_endless" s_are_endless f9 _ := ⟨⟨_, _, _, _, _, _, _, _, _, _, rfl, l9, c9⟩⟩
  have b9 := F9.binds rfl (ps := ["stuffs"]) fun _ _ _ _ _ _ us hl => match us, hl with | [_], _ => rfl
  have g9 : mg "are_endless" = some (.ref f9) := PySem.W.mg_of X G a9
  have F10 : C8.Fun K "exchanged" "exchanged" s_exchanged f10 _ := ⟨⟨_, _, _, _, _, _, _, _, _, _, rfl, l10, c10⟩⟩
  have b10 := F10.binds rfl (ps := ["word", "marks"]) fun _ _ _ _ _ _ us hl => match us, hl with | [_, _], _ => rfl
  have g10 : mg "exchanged" = some (.ref f10) := PySem.W.mg_of X G a10
  have F11 : C8.Fun K "other_bits" "other_bits" s_other_bits f11 _ := ⟨⟨_, _, _, _, _, _, _, _, _, _, rfl, l11, c11⟩⟩
  have b11 := F11.binds rfl (ps := ["word"]) fun _ _ _ _ _ _ us hl => match us, hl with | [_], _ => rfl
  have g11 : mg "other_bits" = some (.ref f11) := PySem.W.mg_of X G a11
  have F12 : C8.Fun K "arriving" "arriving" s_arriving f12 _ := ⟨⟨_, _, _, _, _, _, _, _, _, _, rfl, l12, c12⟩⟩
  have b12 := F12.binds rfl (ps := ["bit", "kind"]) fun _ _ _ _ _ _ us hl => match us, hl with | [_, _], _ => rfl
  have g12 : mg "arriving" = some (.ref f12) := PySem.W.mg_of X G a12
  have F13 : C8.Fun K "filled" "filled" s_filled f13 _ := ⟨⟨_, _, _, _, _, _, _, _, _, _, rfl, l13, c13⟩⟩
  have b13 := F13.binds rfl (ps := ["rule", "line"]) fun _ _ _ _ _ _ us hl => match us, hl with | [_, _], _ => rfl
  have g13 : mg "filled" = some (.ref f13) := PySem.W.mg_of X G a13
  have F14 : C8.Fun K "is_kept" "is_kept" s_is_kept f14 _ := ⟨⟨_, _, _, _, _, _, _, _, _, _, rfl, l14, c14⟩⟩
  have b14 := F14.binds rfl (ps := ["rule", "line"]) fun _ _ _ _ _ _ us hl => match us, hl with | [_, _], _ => rfl
  have g14 : mg "is_kept" = some (.ref f14) := PySem.W.mg_of X G a14
  have F15 : C8.Fun K "tail" "tail" s_tail f15 _ := ⟨⟨_, _, _, _, _, _, _, _, _, _, rfl, l15, c15⟩⟩
  have b15 := F15.binds rfl (ps := ["line", "words"]) fun _ _ _ _ _ _ us hl => match us, hl with | [_, _], _ => rfl
  have g15 : mg "tail" = some (.ref f15) := PySem.W.mg_of X G a15
  have F16 : C8.Fun K "can_end" "can_end" s_can_end f16 _ := ⟨⟨_, _, _, _, _, _, _, _, _, _, rfl, l16, c16⟩⟩
  have b16 := F16.binds rfl (ps := ["rule", "line"]) fun _ _ _ _ _ _ us hl => match us, hl with | [_, _], _ => rfl
  have g16 : mg "can_end" = some (.ref f16) := PySem.W.mg_of X G a16
  have F17 : C8.Fun K "hear" "hear" s_hear f17 _ := ⟨⟨_, _, _, _, _, _, _, _, _, _, rfl, l17, c17⟩⟩
  have b17 := F17.binds rfl (ps := ["rule", "heard", "bits"]) fun _ _ _ _ _ _ us hl => match us, hl with | [_, _, _], _ => rfl
  have g17 : mg "hear" = some (.ref f17) := PySem.W.mg_of X G a17
  have F18 : C8.Fun K "moved" "moved" s_moved f18 _ := ⟨⟨_, _, _, _, _, _, _, _, _, _, rfl, l18, c18⟩⟩
  have b18 := F18.binds rfl (ps := ["gap", "by", "bit"]) fun _ _ _ _ _ _ us hl => match us, hl with | [_, _, _], _ => rfl
  have g18 : mg "moved" = some (.ref f18) := PySem.W.mg_of X G a18
  have F19 : C8.Fun K "is_unseen" "is_unseen" s_is_unseen f19 _ := ⟨⟨_, _, _, _, _, _, _, _, _, _, rfl, l19, c19⟩⟩
  have b19 := F19.binds rfl (ps := ["net", "lefts", "state"]) fun _ _ _ _ _ _ us hl => match us, hl with | [_, _, _], _ => rfl
  have g19 : mg "is_unseen" = some (.ref f19) := PySem.W.mg_of X G a19
  have F20 : C8.Fun K "marks_to" "marks_to" s_marks_to f20 _ := ⟨⟨_, _, _, _, _, _, _, _, _, _, rfl, l20, c20⟩⟩
  have b20 := F20.binds rfl (ps := ["came", "place"]) fun _ _ _ _ _ _ us hl => match us, hl with | [_, _], _ => rfl
  have g20 : mg "marks_to" = some (.ref f20) := PySem.W.mg_of X G a20
  have F21 : C8.Fun K "shortest_way" "shortest_way" s_shortest_way f21 _ := ⟨⟨_, _, _, _, _, _, _, _, _, _, rfl, l21, c21⟩⟩
  have b21 := F21.binds rfl (ps := ["begin", "onward", "is_end"]) fun _ _ _ _ _ _ us hl => match us, hl with | [_, _, _], _ => rfl
  have g21 : mg "shortest_way" = some (.ref f21) := PySem.W.mg_of X G a21
  have F22 : C8.Fun K "begin_of" "begin_of" s_begin_of f22 _ := ⟨⟨_, _, _, _, _, _, _, _, _, _, rfl, l22, c22⟩⟩
  have b22 := F22.binds rfl (ps := ["net", "lefts"]) fun _ _ _ _ _ _ us hl => match us, hl with | [_, _], _ => rfl
  have g22 : mg "begin_of" = some (.ref f22) := PySem.W.mg_of X G a22
  have F23 : C8.Fun K "first_way" "first_way" s_first_way f23 _ := ⟨⟨_, _, _, _, _, _, _, _, _, _, rfl, l23, c23⟩⟩
  have b23 := F23.binds rfl (ps := ["rule", "check", "kinds", "hits", "how"]) fun _ _ _ _ _ _ us hl => match us, hl with | [_, _, _, _, _], _ => rfl
  have g23 : mg "first_way" = some (.ref f23) := PySem.W.mg_of X G a23
  have F24 : C8.Fun K "first_unseen" "first_unseen" s_first_unseen f24 _ := ⟨⟨_, _, _, _, _, _, _, _, _, _, rfl, l24, c24⟩⟩
  have b24 := F24.binds rfl (ps := ["rule", "check", "kinds", "hits", "how"]) fun _ _ _ _ _ _ us hl => match us, hl with | [_, _, _, _, _], _ => rfl
  have g24 : mg "first_unseen" = some (.ref f24) := PySem.W.mg_of X G a24
  have F25 : C8.Fun K "last_bits" "last_bits" s_last_bits f25 _ := ⟨⟨_, _, _, _, _, _, _, _, _, _, rfl, l25, c25⟩⟩
  have b25 := F25.binds rfl (ps := ["word", "many"]) fun _ _ _ _ _ _ us hl => match us, hl with | [_, _], _ => rfl
  have g25 : mg "last_bits" = some (.ref f25) := PySem.W.mg_of X G a25
  have F26 : C8.Fun K "standing_behind" "standing_behind" s_standing_behind f26 _ := ⟨⟨_, _, _, _, _, _, _, _, _, _, rfl, l26, c26⟩⟩
  have b26 := F26.binds rfl (ps := ["rule", "line"]) fun _ _ _ _ _ _ us hl => match us, hl with | [_, _], _ => rfl
  have g26 : mg "standing_behind" = some (.ref f26) := PySem.W.mg_of X G a26
  have F27 : C8.Fun K "first_refused" "first_refused" s_first_refused f27 _ := ⟨⟨_, _, _, _, _, _, _, _, _, _, rfl, l27, c27⟩⟩
  have b27 := F27.binds rfl (ps := ["step"]) fun _ _ _ _ _ _ us hl => match us, hl with | [_], _ => rfl
  have g27 : mg "first_refused" = some (.ref f27) := PySem.W.mg_of X G a27
  have F28 : C8.Fun K "spoiled" "spoiled" s_spoiled f28 _ := ⟨⟨_, _, _, _, _, _, _, _, _, _, rfl, l28, c28⟩⟩
  have b28 := F28.binds rfl (ps := ["rule"]) fun _ _ _ _ _ _ us hl => match us, hl with | [_], _ => rfl
  have g28 : mg "spoiled" = some (.ref f28) := PySem.W.mg_of X G a28
  have F29 : C8.Fun K "is_clean" "is_clean" s_is_clean f29 _ := ⟨⟨_, _, _, _, _, _, _, _, _, _, rfl, l29, c29⟩⟩
  have b29 := F29.binds rfl (ps := ["rule"]) fun _ _ _ _ _ _ us hl => match us, hl with | [_], _ => rfl
  have g29 : mg "is_clean" = some (.ref f29) := PySem.W.mg_of X G a29
  have F30 : C8.Fun K "_law_seed" "_law_seed" s_seed f30 _ := ⟨⟨_, _, _, _, _, _, _, _, _, _, rfl, l30, c30⟩⟩
  have b30 := F30.binds rfl (ps := ["_law_script", "_law_k"]) fun _ _ _ _ _ _ us hl => match us, hl with | [_, _], _ => rfl
  have g30 : mg "_law_seed" = some (.ref f30) := PySem.W.mg_of X G a30
  have F31 : C8.Fun K "_law_choose" "_law_choose" s_choose f31 _ := ⟨⟨_, _, _, _, _, _, _, _, _, _, rfl, l31, c31⟩⟩
  have b31 := F31.binds rfl (ps := ["_law_box", "_law_many"]) fun _ _ _ _ _ _ us hl => match us, hl with | [_, _], _ => rfl
  have g31 : mg "_law_choose" = some (.ref f31) := PySem.W.mg_of X G a31
  have F32 : C8.Fun K "_law_one_of" "_law_one_of" s_one_of f32 _ := ⟨⟨_, _, _, _, _, _, _, _, _, _, rfl, l32, c32⟩⟩
  have b32 := F32.binds rfl (ps := ["_law_box", "_law_some"]) fun _ _ _ _ _ _ us hl => match us, hl with | [_, _], _ => rfl
  have g32 : mg "_law_one_of" = some (.ref f32) := PySem.W.mg_of X G a32
  have F33 : C8.Fun K "_law_word" "_law_word" s_word f33 _ := ⟨⟨_, _, _, _, _, _, _, _, _, _, rfl, l33, c33⟩⟩
  have b33 := F33.binds rfl (ps := ["_law_box", "_law_few", "_law_many"]) fun _ _ _ _ _ _ us hl => match us, hl with | [_, _, _], _ => rfl
  have g33 : mg "_law_word" = some (.ref f33) := PySem.W.mg_of X G a33
  have F34 : C8.Fun K "_law_put" "_law_put" s_put f34 _ := ⟨⟨_, _, _, _, _, _, _, _, _, _, rfl, l34, c34⟩⟩
  have b34 := F34.binds rfl (ps := ["_law_rule_here", "_law_line"]) fun _ _ _ _ _ _ us hl => match us, hl with | [_, _], _ => rfl
  have g34 : mg "_law_put" = some (.ref f34) := PySem.W.mg_of X G a34
  have F35 : C8.Fun K "_law_is_rule" "_law_is_rule" s_is_rule f35 _ := ⟨⟨_, _, _, _, _, _, _, _, _, _, rfl, l35, c35⟩⟩
  have b35 := F35.binds rfl (ps := ["_law_rule_here"]) fun _ _ _ _ _ _ us hl => match us, hl with | [_], _ => rfl
  have g35 : mg "_law_is_rule" = some (.ref f35) := PySem.W.mg_of X G a35
  have F36 : C8.Fun K "_law_rule" "_law_rule" s_rule f36 _ := ⟨⟨_, _, _, _, _, _, _, _, _, _, rfl, l36, c36⟩⟩
  have b36 := F36.binds rfl (ps := ["_law_box", "_law_widest", "_law_longest_one"]) fun _ _ _ _ _ _ us hl => match us, hl with | [_, _, _], _ => rfl
  have g36 : mg "_law_rule" = some (.ref f36) := PySem.W.mg_of X G a36
  have F37 : C8.Fun K "_law_made" "_law_made" s_made f37 _ := ⟨⟨_, _, _, _, _, _, _, _, _, _, rfl, l37, c37⟩⟩
  have b37 := F37.binds rfl (ps := ["_law_rule_here"]) fun _ _ _ _ _ _ us hl => match us, hl with | [_], _ => rfl
  have g37 : mg "_law_made" = some (.ref f37) := PySem.W.mg_of X G a37
  have F38 : C8.Fun K "_law_check" "_law_check" s_check f38 _ := ⟨⟨_, _, _, _, _, _, _, _, _, _, rfl, l38, c38⟩⟩
  have b38 := F38.binds rfl (ps := ["_law_box", "_law_most"]) fun _ _ _ _ _ _ us hl => match us, hl with | [_, _], _ => rfl
  have g38 : mg "_law_check" = some (.ref f38) := PySem.W.mg_of X G a38
  have F39 : C8.Fun K "_law_is_no_longer" "_law_is_no_longer" s_is_no_longer f39 _ := ⟨⟨_, _, _, _, _, _, _, _, _, _, rfl, l39, c39⟩⟩
  have b39 := F39.binds rfl (ps := ["_law_one", "_law_second"]) fun _ _ _ _ _ _ us hl => match us, hl with | [_, _], _ => rfl
  have g39 : mg "_law_is_no_longer" = some (.ref f39) := PySem.W.mg_of X G a39
  have F40 : C8.Fun K "law" "law" s_law fa _ := ⟨⟨_, _, _, _, _, _, _, _, _, _, rfl, l40, c40⟩⟩
  have b40 := F40.binds rfl (ps := ["_law_script"]) fun _ _ _ _ _ _ us hl => match us, hl with | [_], _ => rfl
  have g40 : mg "law" = some (.ref fa) := PySem.W.mg_of X G a40
  have F41 : C8.Fun K "__init__" "Rule.__init__" s_Rule_init f41 _ := ⟨⟨_, _, _, _, _, _, _, _, _, _, rfl, l41, c41⟩⟩
  have D41 : FunD K "__init__" "Rule.__init__" (fnArgs s_Rule_init) (fnBody s_Rule_init) (fnScope s_Rule_init) [V.ref E41_0] [] f41 _ := ⟨⟨_, _, _, _, _, _, _, _, _, _, rfl, l41, c41, .inr ⟨by simp, T41, _, _, _, rfl, d41, rfl, (.cons rfl .nil)⟩, .inl rfl⟩, k41⟩
  obtain ⟨ds41_2, v41_2, b41_2⟩ := D41.binds1 (ps := ["self", "flag", "stuffs"]) 2 0 (by simp) rfl fun _ _ _ _ _ _ _ us its hu hi => match us, its, hu, hi with | [_, _], [_], _, _ => ⟨_, rfl, rfl⟩
  obtain ⟨ds41_3, v41_3, b41_3⟩ := D41.binds1 (ps := ["self", "flag", "stuffs"]) 3 1 (by simp) rfl fun _ _ _ _ _ _ _ us its hu hi => match us, its, hu, hi with | [_, _, _], [_], _, _ => ⟨_, rfl, rfl⟩
  have F42 : C8.Fun K "put" "Rule.put" s_Rule_put f42 _ := ⟨⟨_, _, _, _, _, _, _, _, _, _, rfl, l42, c42⟩⟩
  have b42 := F42.binds rfl (ps := ["self", "line"]) fun _ _ _ _ _ _ us hl => match us, hl with | [_, _], _ => rfl
  have F43 : C8.Fun K "patterns" "Rule.patterns" s_Rule_patterns f43 _ := ⟨⟨_, _, _, _, _, _, _, _, _, _, rfl, l43, c43⟩⟩
  have b43 := F43.binds rfl (ps := ["self"]) fun _ _ _ _ _ _ us hl => match us, hl with | [_], _ => rfl
  have F44 : C8.Fun K "longest" "Rule.longest" s_Rule_longest f44 _ := ⟨⟨_, _, _, _, _, _, _, _, _, _, rfl, l44, c44⟩⟩
  have b44 := F44.binds rfl (ps := ["self"]) fun _ _ _ _ _ _ us hl => match us, hl with | [_], _ => rfl
  have clCRule : Cls K CRule := ⟨pgCRule, hdCRule, poCRule, saCRule⟩
  have gCRule : mg "Rule" = some (.ref CRule) := PySem.W.mg_of X G aCRule
  have F45 : C8.Fun K "__init__" "Check.__init__" s_Check_init f45 _ := ⟨⟨_, _, _, _, _, _, _, _, _, _, rfl, l45, c45⟩⟩
  have D45 : FunD K "__init__" "Check.__init__" (fnArgs s_Check_init) (fnBody s_Check_init) (fnScope s_Check_init) [V.str "1", V.non] [] f45 _ := ⟨⟨_, _, _, _, _, _, _, _, _, _, rfl, l45, c45, .inr ⟨by simp, T45, _, _, _, rfl, d45, rfl, (.cons ⟨_, rfl⟩ (.cons rfl .nil))⟩, .inl rfl⟩, k45⟩
  obtain ⟨ds45_1, v45_1, b45_1⟩ := D45.binds1 (ps := ["self", "poly", "start"]) 1 0 (by simp) rfl fun _ _ _ _ _ _ _ us its hu hi => match us, its, hu, hi with | [_], [_, _], _, _ => ⟨_, rfl, rfl⟩
  obtain ⟨ds45_2, v45_2, b45_2⟩ := D45.binds1 (ps := ["self", "poly", "start"]) 2 1 (by simp) rfl fun _ _ _ _ _ _ _ us its hu hi => match us, its, hu, hi with | [_, _], [_, _], _, _ => ⟨_, rfl, rfl⟩
  obtain ⟨ds45_3, v45_3, b45_3⟩ := D45.binds1 (ps := ["self", "poly", "start"]) 3 2 (by simp) rfl fun _ _ _ _ _ _ _ us its hu hi => match us, its, hu, hi with | [_, _, _], [_, _], _, _ => ⟨_, rfl, rfl⟩
  have F46 : C8.Fun K "rest" "Check.rest" s_Check_rest f46 _ := ⟨⟨_, _, _, _, _, _, _, _, _, _, rfl, l46, c46⟩⟩
  have b46 := F46.binds rfl (ps := ["self", "bits"]) fun _ _ _ _ _ _ us hl => match us, hl with | [_, _], _ => rfl
  have F47 : C8.Fun K "degree" "Check.degree" s_Check_degree f47 _ := ⟨⟨_, _, _, _, _, _, _, _, _, _, rfl, l47, c47⟩⟩
  have b47 := F47.binds rfl (ps := ["self"]) fun _ _ _ _ _ _ us hl => match us, hl with | [_], _ => rfl
  have clCCheck : Cls K CCheck := ⟨pgCCheck, hdCCheck, poCCheck, saCCheck⟩
  have gCCheck : mg "Check" = some (.ref CCheck) := PySem.W.mg_of X G aCCheck
  have F48 : C8.Fun K "_settled" "Net._settled" s_Netsettled f48 _ := ⟨⟨_, _, _, _, _, _, _, _, _, _, rfl, l48, c48⟩⟩
  have b48 := F48.binds rfl (ps := ["self", "gap", "cut"]) fun _ _ _ _ _ _ us hl => match us, hl with | [_, _, _], _ => rfl
  have F49 : C8.Fun K "_gap_behind" "Net._gap_behind" s_Netgap_behind f49 _ := ⟨⟨_, _, _, _, _, _, _, _, _, _, rfl, l49, c49⟩⟩
  have b49 := F49.binds rfl (ps := ["self", "gap", "by", "bit", "cut"]) fun _ _ _ _ _ _ us hl => match us, hl with | [_, _, _, _, _], _ => rfl
  have F50 : C8.Fun K "_ears_behind" "Net._ears_behind" s_Netears_behind f50 _ := ⟨⟨_, _, _, _, _, _, _, _, _, _, rfl, l50, c50⟩⟩
  have b50 := F50.binds rfl (ps := ["self", "ear", "bit"]) fun _ _ _ _ _ _ us hl => match us, hl with | [_, _, _], _ => rfl
  have F51 : C8.Fun K "_arrived" "Net._arrived" s_Netarrived f51 _ := ⟨⟨_, _, _, _, _, _, _, _, _, _, rfl, l51, c51⟩⟩
  have b51 := F51.binds rfl (ps := ["self", "ear", "bits"]) fun _ _ _ _ _ _ us hl => match us, hl with | [_, _, _], _ => rfl
  have F52 : C8.Fun K "_number" "Net._number" s_Netnumber f52 _ := ⟨⟨_, _, _, _, _, _, _, _, _, _, rfl, l52, c52⟩⟩
  have b52 := F52.binds rfl (ps := ["self", "place"]) fun _ _ _ _ _ _ us hl => match us, hl with | [_, _], _ => rfl
  have F53 : C8.Fun K "used" "Net.used" s_Net_used f53 _ := ⟨⟨_, _, _, _, _, _, _, _, _, _, rfl, l53, c53⟩⟩
  have b53 := F53.binds rfl (ps := ["self", "number"]) fun _ _ _ _ _ _ us hl => match us, hl with | [_, _], _ => rfl
  have F54 : C8.Fun K "is_end" "Net.is_end" s_Net_is_end f54 _ := ⟨⟨_, _, _, _, _, _, _, _, _, _, rfl, l54, c54⟩⟩
  have b54 := F54.binds rfl (ps := ["self", "number"]) fun _ _ _ _ _ _ us hl => match us, hl with | [_, _], _ => rfl
  have F55 : C8.Fun K "_heard_of" "Net._heard_of" s_Netheard_of f55 _ := ⟨⟨_, _, _, _, _, _, _, _, _, _, rfl, l55, c55⟩⟩
  have b55 := F55.binds rfl (ps := ["self", "bits", "ear", "used"]) fun _ _ _ _ _ _ us hl => match us, hl with | [_, _, _, _], _ => rfl
  have F56 : C8.Fun K "_steps_from" "Net._steps_from" s_Netsteps_from f56 _ := ⟨⟨_, _, _, _, _, _, _, _, _, _, rfl, l56, c56⟩⟩
  have b56 := F56.binds rfl (ps := ["self", "place"]) fun _ _ _ _ _ _ us hl => match us, hl with | [_, _], _ => rfl
  have F57 : C8.Fun K "steps" "Net.steps" s_Net_steps f57 _ := ⟨⟨_, _, _, _, _, _, _, _, _, _, rfl, l57, c57⟩⟩
  have b57 := F57.binds rfl (ps := ["self", "number"]) fun _ _ _ _ _ _ us hl => match us, hl with | [_, _], _ => rfl
  have F58 : C8.Fun K "__init__" "Net.__init__" s_Net_init f58 _ := ⟨⟨_, _, _, _, _, _, _, _, _, _, rfl, l58, c58⟩⟩
  have b58 := F58.binds rfl (ps := ["self", "rule", "kinds", "hits", "how"]) fun _ _ _ _ _ _ us hl => match us, hl with | [_, _, _, _, _], _ => rfl
  have clCNet : Cls K CNet := ⟨pgCNet, hdCNet, poCNet, saCNet⟩
  have gCNet : mg "Net" = some (.ref CNet) := PySem.W.mg_of X G aCNet
  have F59 : C8.Fun K "__init__" "Lefts.__init__" s_Lefts_init f59 _ := ⟨⟨_, _, _, _, _, _, _, _, _, _, rfl, l59, c59⟩⟩
  have b59 := F59.binds rfl (ps := ["self", "check"]) fun _ _ _ _ _ _ us hl => match us, hl with | [_, _], _ => rfl
  have F60 : C8.Fun K "behind" "Lefts.behind" s_Lefts_behind f60 _ := ⟨⟨_, _, _, _, _, _, _, _, _, _, rfl, l60, c60⟩⟩
  have b60 := F60.binds rfl (ps := ["self", "left", "bits"]) fun _ _ _ _ _ _ us hl => match us, hl with | [_, _, _], _ => rfl
  have clCLefts : Cls K CLefts := ⟨pgCLefts, hdCLefts, poCLefts, saCLefts⟩
  have gCLefts : mg "Lefts" = some (.ref CLefts) := PySem.W.mg_of X G aCLefts
  have t_spoiled : PySem.W.tabIn K "spoiled" = some (cc_spoiled, P_spoiled) := Clo.tabIn_of a28 l28 rfl x_spoiled v_spoiled
  have CT_spoiled := TT "spoiled" cc_spoiled P_spoiled r_spoiled t_spoiled
  have t_first_way : PySem.W.tabIn K "first_way" = some (cc_first_way, P_first_way) := Clo.tabIn_of a23 l23 rfl x_first_way v_first_way
  have CT_first_way := TT "first_way" cc_first_way P_first_way r_first_way t_first_way
  have M : Mg mg := ⟨PySem.W.mg_none_of X G z_len, PySem.W.mg_none_of X G z_abs, PySem.W.mg_none_of X G z_max, PySem.W.mg_none_of X G z_min, PySem.W.mg_none_of X G z_int, PySem.W.mg_none_of X G z_str, PySem.W.mg_none_of X G z_range, PySem.W.mg_none_of X G z_zip, PySem.W.mg_none_of X G z_enumerate, PySem.W.mg_none_of X G z_isinstance, PySem.W.mg_none_of X G z_all, PySem.W.mg_none_of X G z_any, PySem.W.mg_none_of X G z_list, PySem.W.mg_none_of X G z_tuple, PySem.W.mg_none_of X G z_repr, PySem.W.mg_none_of X G z_set, PySem.W.mg_none_of X G z_sorted⟩
  refine ⟨PySem.W.fnOf "law" "law" (fnArgs s_law) (fnBody s_law) (fnScope s_law) .none kV40 dc40 pm40 an40 cd40 ct40, [(cc_spoiled, P_spoiled), (cc_first_way, P_first_way)], spLawT [(P_spoiled, nmS), (P_first_way, nmW)] K, ?hT, ?nT, ?C, fun s v => .of_eq rfl, ?hsp, fun base _ _ TBs => ?_⟩
  case hT =>
    intro p hp
    simp only [List.mem_cons, List.not_mem_nil, or_false] at hp
    rcases hp with rfl | rfl
    · exact CT_spoiled.2
    · exact CT_first_way.2
  case nT =>
    intro p hp
    simp only [List.mem_cons, List.not_mem_nil, or_false] at hp
    rcases hp with rfl | rfl
    · exact n_spoiled
    · exact n_first_way
  case C =>
    intro p hp
    simp only [List.mem_cons, List.not_mem_nil, or_false] at hp
    rcases hp with rfl | rfl
    · exact CT_spoiled.1
    · exact CT_first_way.1
  case hsp =>
    intro H a ns hl _ hT hS
    refine ⟨a, ns, rfl, hS, hl, ?_, fun _ => rfl⟩
    intro p hp
    simp only [List.mem_cons, List.not_mem_nil, or_false] at hp
    rcases hp with rfl | rfl
    · exact NdefX.TabN.nil (hT (cc_spoiled, P_spoiled) (by simp))
    · exact NdefX.TabN.nil (hT (cc_first_way, P_first_way) (by simp))
  have TB_spoiled := TBs (cc_spoiled, P_spoiled) (by simp)
  have hm_spoiled : (P_spoiled, nmS) ∈ [(P_spoiled, nmS), (P_first_way, nmW)] := by simp
  have hu_spoiled : ∀ p ∈ [(P_spoiled, nmS), (P_first_way, nmW)], p.1 = P_spoiled → p.2 = nmS := by
    intro p hp e
    simp only [List.mem_cons, List.not_mem_nil, or_false] at hp
    rcases hp with rfl | rfl
    · rfl
    · exact absurd (show P_spoiled = P_first_way from e.symm) (fun z => by rw [z, beq_self_eq_true] at u_spoiled_first_way; cases u_spoiled_first_way)
  have TB_first_way := TBs (cc_first_way, P_first_way) (by simp)
  have hm_first_way : (P_first_way, nmW) ∈ [(P_spoiled, nmS), (P_first_way, nmW)] := by simp
  have hu_first_way : ∀ p ∈ [(P_spoiled, nmS), (P_first_way, nmW)], p.1 = P_first_way → p.2 = nmW := by
    intro p hp e
    simp only [List.mem_cons, List.not_mem_nil, or_false] at hp
    rcases hp with rfl | rfl
    · exact absurd (show P_spoiled = P_first_way from e) (fun z => by rw [z, beq_self_eq_true] at u_spoiled_first_way; cases u_spoiled_first_way)
    · rfl
  have TRule : RlT K CRule := ⟨clCRule, nCRule_flag, nCRule_stuffs⟩
  have TCheck : CkT K CCheck := ⟨clCCheck, nCCheck_poly, nCCheck_start⟩
  have TNet : NtT K CNet := ⟨clCNet, nCNet__rule, nCNet__kinds, nCNet__most, nCNet__how, nCNet__places, nCNet__numbers, nCNet__steps, nCNet_begin⟩
  have TLefts : LfT K CLefts := ⟨clCLefts, nCLefts__check, nCLefts__known, nCLefts_begin, nCLefts_good⟩
  have c_is_word_2 : Cal l.prog w K mg base 1 "is_word" spIsWord [] := ⟨_, _, _, _, ok_is_word F1 M, g1, k1, b1_2, v1_2⟩
  have c_is_word_1 : Cal l.prog w K mg base 1 "is_word" spIsWord [.int 0] := ⟨_, _, _, _, ok_is_word F1 M, g1, k1, b1_1, v1_1⟩
  have c_is_bit : Cal l.prog w K mg base 2 "is_bit" spIsBit [] := ⟨_, _, _, _, ok_is_bit F2 M c_is_word_2, g2, k2, b2, .nil⟩
  have c_is_stuff : Cal l.prog w K mg base 3 "is_stuff" spIsStuff [] := ⟨_, _, _, _, ok_is_stuff F3 M c_is_word_2 c_is_bit, g3, k3, b3, .nil⟩
  have c_one_ends : Cal l.prog w K mg base 1 "one_ends_with_another" spOneEnds [] := ⟨_, _, _, _, ok_one_ends F4 M, g4, k4, b4, .nil⟩
  have c_are_stuffs : Cal l.prog w K mg base 4 "are_stuffs" (spStuffs K) [] := ⟨_, _, _, _, ok_are_stuffs F5 M c_is_stuff c_one_ends, g5, k5, b5, .nil⟩
  have c_longest : Cal l.prog w K mg base 1 "longest_pattern" (spLongest K) [] := ⟨_, _, _, _, ok_longest F6 M, g6, k6, b6, .nil⟩
  have c_behind : Cal l.prog w K mg base 1 "bit_behind" (spBehind K) [] := ⟨_, _, _, _, ok_behind F7 M, g7, k7, b7, .nil⟩
  have c_never : Cal l.prog w K mg base 2 "never_ends" (spNever K) [] := ⟨_, _, _, _, ok_never F8 M c_longest c_behind, g8, k8, b8, .nil⟩
  have c_endless : Cal l.prog w K mg base 3 "are_endless" (spEndless K) [] := ⟨_, _, _, _, ok_endless F9 M c_never, g9, k9, b9, .nil⟩
  have OIRule := ok_rinit (P := l.prog) (w := w) (base := base) F41 M TRule c_is_word_2 c_are_stuffs c_endless
  have k_Rule_2 : Mak l.prog w K mg base 5 "Rule" CRule (spRInit K CRule) [] := ⟨_, _, _, _, ⟨mkCRule, a41, i41, kcCRule⟩, OIRule, gCRule, b41_3, v41_3⟩
  have k_Rule_1 : Mak l.prog w K mg base 5 "Rule" CRule (spRInit K CRule) [.ref E41_0] := ⟨_, _, _, _, ⟨mkCRule, a41, i41, kcCRule⟩, OIRule, gCRule, b41_2, v41_2⟩
  have hERule : ∀ H, SqK K false H E41_0 [] := fun H => show SqT K H E41_0 [] from .inr ⟨_, #[], _, e41_0, rfl, rfl, by decide, .nil⟩
  have m_put : Met l.prog w K mg base 2 CRule "put" (spPut CRule) [] := ⟨_, _, _, _, clCRule, ⟨a42, i42, k42⟩, ok_put F42 M TRule c_behind, b42, .nil⟩
  have c_exchanged : Cal l.prog w K mg base 1 "exchanged" spExch [] := ⟨_, _, _, _, ok_exchanged F10 M, g10, k10, b10, .nil⟩
  have OICheck := ok_init (P := l.prog) (w := w) (base := base) F45 M TCheck c_is_word_2 c_is_word_1
  have k_Check_2 : Mak l.prog w K mg base 2 "Check" CCheck (spInit CCheck) [] := ⟨_, _, _, _, ⟨mkCCheck, a45, i45, kcCCheck⟩, OICheck, gCCheck, b45_3, v45_3⟩
  have k_Check_1 : Mak l.prog w K mg base 2 "Check" CCheck (spInit CCheck) [.non] := ⟨_, _, _, _, ⟨mkCCheck, a45, i45, kcCCheck⟩, OICheck, gCCheck, b45_2, v45_2⟩
  have k_Check_0 : Mak l.prog w K mg base 2 "Check" CCheck (spInit CCheck) [.str "1", .non] := ⟨_, _, _, _, ⟨mkCCheck, a45, i45, kcCCheck⟩, OICheck, gCCheck, b45_1, v45_1⟩
  have m_rest : Met l.prog w K mg base 2 CCheck "rest" (spRest CCheck) [] := ⟨_, _, _, _, clCCheck, ⟨a46, i46, k46⟩, ok_rest F46 M TCheck c_exchanged, b46, .nil⟩
  have p_degree : Prp l.prog w K mg base 1 CCheck "degree" (spDegree CCheck) := ⟨_, _, _, _, clCCheck, ⟨a47, q47, t47, _, r47⟩, ok_degree F47 M TCheck, b47⟩
  have c_other_bits : Cal l.prog w K mg base 1 "other_bits" spOther [] := ⟨_, _, _, _, ok_other_bits F11 M, g11, k11, b11, .nil⟩
  have c_arriving : Cal l.prog w K mg base 2 "arriving" spArriving [] := ⟨_, _, _, _, ok_arriving F12 M c_other_bits, g12, k12, b12, .nil⟩
  have c_filled : Cal l.prog w K mg base 3 "filled" (spFilled CRule) [] := ⟨_, _, _, _, ok_filled F13 M m_put, g13, k13, b13, .nil⟩
  have c_is_kept : Cal l.prog w K mg base 1 "is_kept" (spKept CRule) [] := ⟨_, _, _, _, ok_is_kept F14 M TRule, g14, k14, b14, .nil⟩
  have c_tail : Cal l.prog w K mg base 1 "tail" spTail [] := ⟨_, _, _, _, ok_tail F15 M, g15, k15, b15, .nil⟩
  have c_can_end : Cal l.prog w K mg base 3 "can_end" (spCanEnd CRule) [] := ⟨_, _, _, _, ok_can_end F16 M m_put c_is_kept, g16, k16, b16, .nil⟩
  have m_patterns : Met l.prog w K mg base 1 CRule "patterns" (spPats CRule) [] := ⟨_, _, _, _, clCRule, ⟨a43, i43, k43⟩, ok_patterns F43 M TRule, b43, .nil⟩
  have c_hear : Cal l.prog w K mg base 3 "hear" (spHearU CRule) [] := ⟨_, _, _, _, ok_hear F17 M TRule m_put m_patterns c_tail, g17, k17, b17, .nil⟩
  have c_moved : Cal l.prog w K mg base 1 "moved" spMoved [] := ⟨_, _, _, _, ok_moved F18 M, g18, k18, b18, .nil⟩
  have m__settled : Met l.prog w K mg base 1 CNet "_settled" (spSettled CNet) [] := ⟨_, _, _, _, clCNet, ⟨a48, i48, k48⟩, ok_settled F48 M TNet, b48, .nil⟩
  have m__gap_behind : Met l.prog w K mg base 2 CNet "_gap_behind" (spGapB CNet) [] := ⟨_, _, _, _, clCNet, ⟨a49, i49, k49⟩, ok_gap_behind F49 M c_moved m__settled, b49, .nil⟩
  have m__ears_behind : Met l.prog w K mg base 4 CNet "_ears_behind" (spEarsB CNet CRule) [] := ⟨_, _, _, _, clCNet, ⟨a50, i50, k50⟩, ok_ears_behind F50 M TNet TRule c_hear c_can_end m__gap_behind m__settled, b50, .nil⟩
  have m__arrived : Met l.prog w K mg base 5 CNet "_arrived" (spArrE CNet CRule) [] := ⟨_, _, _, _, clCNet, ⟨a51, i51, k51⟩, ok_arrived F51 M TNet m__ears_behind, b51, .nil⟩
  have m__number : Met l.prog w K mg base 1 CNet "_number" (spNumber l.prog w CNet) [] := ⟨_, _, _, _, clCNet, ⟨a52, i52, k52⟩, ok_number F52 M TNet, b52, .nil⟩
  have m_used : Met l.prog w K mg base 1 CNet "used" (spUsed CNet) [] := ⟨_, _, _, _, clCNet, ⟨a53, i53, k53⟩, ok_used F53 M TNet, b53, .nil⟩
  have m_is_end : Met l.prog w K mg base 4 CNet "is_end" (spIsEndU CNet CRule) [] := ⟨_, _, _, _, clCNet, ⟨a54, i54, k54⟩, ok_is_end F54 M TNet TRule c_can_end, b54, .nil⟩
  have m__heard_of : Met l.prog w K mg base 6 CNet "_heard_of" (spHeardOf K CNet CRule) [] := ⟨_, _, _, _, clCNet, ⟨a55, i55, k55⟩, ok_heard_of F55 M TNet m__arrived c_arriving, b55, .nil⟩
  have m__steps_from : Met l.prog w K mg base 7 CNet "_steps_from" (spStepsFrom l.prog w K CNet CRule) [] := ⟨_, _, _, _, clCNet, ⟨a56, i56, k56⟩, ok_steps_from F56 M TNet c_filled c_tail m__gap_behind m__heard_of m__number m_patterns, b56, .nil⟩
  have m_steps : Met l.prog w K mg base 8 CNet "steps" (spSteps l.prog w K CNet CRule) [] := ⟨_, _, _, _, clCNet, ⟨a57, i57, k57⟩, ok_steps F57 M TNet m__steps_from, b57, .nil⟩
  have OINet := ok_ntinit (P := l.prog) (w := w) (base := base) F58 M TNet m__number
  have k_Net : Mak l.prog w K mg base 3 "Net" CNet (spNtInit l.prog w K CNet) [] := ⟨_, _, _, _, ⟨mkCNet, a58, i58, kcCNet⟩, OINet, gCNet, b58, .nil⟩
  have OILefts := ok_lfinit (P := l.prog) (w := w) (base := base) F59 M TLefts TCheck p_degree
  have k_Lefts : Mak l.prog w K mg base 3 "Lefts" CLefts (spLfInit CLefts CCheck) [] := ⟨_, _, _, _, ⟨mkCLefts, a59, i59, kcCLefts⟩, OILefts, gCLefts, b59, .nil⟩
  have m_behind : Met l.prog w K mg base 4 CLefts "behind" (spLfBehind CLefts CCheck) [] := ⟨_, _, _, _, clCLefts, ⟨a60, i60, k60⟩, ok_lfbehind F60 M TLefts TCheck p_degree k_Check_2 m_rest, b60, .nil⟩
  have c_is_unseen : Cal l.prog w K mg base 5 "is_unseen" (spIsUnseen l.prog w K CNet CLefts CRule CCheck) [] := ⟨_, _, _, _, ok_is_unseen F19 M TLefts m_is_end, g19, k19, b19, .nil⟩
  have c_marks_to : Cal l.prog w K mg base 1 "marks_to" spMarksTo [] := ⟨_, _, _, _, ok_marks_to F20 M, g20, k20, b20, .nil⟩
  have H_shortest_way := ok_shortest_way (CN := CNet) (CL := CLefts) (CRule := CRule) (CC := CCheck) (P := l.prog) (w := w) (base := base) F21 M c_marks_to
  have g_shortest_way := g21
  have k_shortest_way := k21
  have b_shortest_way := b21
  have c_begin_of : Cal l.prog w K mg base 1 "begin_of" (spBeginOf CNet CLefts) [] := ⟨_, _, _, _, ok_begin_of F22 M TNet TLefts, g22, k22, b22, .nil⟩
  have c_first_way : Cal l.prog w K mg base 11 "first_way" (spFirstWay K [(P_spoiled, nmS), (P_first_way, nmW)] CRule CCheck) [] := ⟨_, _, _, _, ok_first_way F23 M rfl TB_first_way hm_first_way hu_first_way TNet TLefts k_Net k_Lefts m_steps m_behind c_is_unseen c_begin_of H_shortest_way g_shortest_way k_shortest_way b_shortest_way, g23, k23, b23, .nil⟩
  have c_first_unseen : Cal l.prog w K mg base 12 "first_unseen" (spFirstU K [(P_spoiled, nmS), (P_first_way, nmW)] CRule CCheck) [] := ⟨_, _, _, _, ok_first_unseen F24 M c_first_way p_degree, g24, k24, b24, .nil⟩
  have p_longest : Prp l.prog w K mg base 2 CRule "longest" (spRLong CRule) := ⟨_, _, _, _, clCRule, ⟨a44, q44, t44, _, r44⟩, ok_rlong F44 M TRule c_longest, b44⟩
  have c_last_bits : Cal l.prog w K mg base 1 "last_bits" spLast [] := ⟨_, _, _, _, ok_last_bits F25 M, g25, k25, b25, .nil⟩
  have c_standing_behind : Cal l.prog w K mg base 4 "standing_behind" (spStand CRule) [] := ⟨_, _, _, _, ok_standing F26 M TRule c_last_bits p_longest, g26, k26, b26, .nil⟩
  have H_first_refused := ok_first (P := l.prog) (w := w) (base := base) F27 M
  have g_first_refused := g27
  have k_first_refused := k27
  have b_first_refused := b27
  have c_spoiled : Cal l.prog w K mg base 7 "spoiled" (spSpoiled [(P_spoiled, nmS), (P_first_way, nmW)] CRule) [] := ⟨_, _, _, _, ok_spoiled F28 M rfl TB_spoiled hm_spoiled hu_spoiled c_filled c_is_kept c_standing_behind H_first_refused g_first_refused k_first_refused b_first_refused, g28, k28, b28, .nil⟩
  have c_is_clean : Cal l.prog w K mg base 8 "is_clean" (spClean [(P_spoiled, nmS), (P_first_way, nmW)] CRule) [] := ⟨_, _, _, _, ok_is_clean F29 M c_spoiled, g29, k29, b29, .nil⟩
  have c_seed : Cal l.prog w K mg base 1 "_law_seed" (spSeed K) [] := ⟨_, _, _, _, ok_seed F30 M, g30, k30, b30, .nil⟩
  have c_choose : Cal l.prog w K mg base 1 "_law_choose" spChoose [] := ⟨_, _, _, _, ok_choose F31 M, g31, k31, b31, .nil⟩
  have c_one_of : Cal l.prog w K mg base 2 "_law_one_of" spOneOf [] := ⟨_, _, _, _, ok_one_of F32 M c_choose, g32, k32, b32, .nil⟩
  have c_word : Cal l.prog w K mg base 3 "_law_word" spWord2 [] := ⟨_, _, _, _, ok_word2 F33 M c_choose c_one_of, g33, k33, b33, .nil⟩
  have c_put : Cal l.prog w K mg base 1 "_law_put" spLPutW [] := ⟨_, _, _, _, ok_lputW F34 M, g34, k34, b34, .nil⟩
  have c_putN : Cal l.prog w K mg base 1 "_law_put" spLPut [] := put_weak c_put
  have c_is_rule : Cal l.prog w K mg base 2 "_law_is_rule" spIsRule [] := ⟨_, _, _, _, ok_is_ruleB F35 M c_putN, g35, k35, b35, .nil⟩
  have c_rule : Cal l.prog w K mg base 4 "_law_rule" spRuleS [] := ⟨_, _, _, _, ok_lruleS F36 M c_choose c_one_of c_word c_is_rule, g36, k36, b36, .nil⟩
  have c_made : Cal l.prog w K mg base 7 "_law_made" (spMade CRule) [] := ⟨_, _, _, _, ok_made F37 M k_Rule_2, g37, k37, b37, .nil⟩
  have c_check : Cal l.prog w K mg base 4 "_law_check" spCheck [] := ⟨_, _, _, _, ok_checkB F38 M c_choose c_word, g38, k38, b38, .nil⟩
  have c_is_no_longer : Cal l.prog w K mg base 1 "_law_is_no_longer" spNoLonger [] := ⟨_, _, _, _, ok_no_longer F39 M, g39, k39, b39, .nil⟩
  exact ok_law F40 M c_seed c_choose c_one_of c_rule c_made c_check c_is_no_longer k_Check_0 k_Check_2 c_first_unseen c_spoiled c_is_clean
end La
open PySem PySem.W PyProof.Rows
set_option maxHeartbeats 0 in
theorem PySem.Challenge.cw_unseenflips_k58_whole_lengths_and_ways_holds : PySem.Challenge.rw_unseenflips_k58_whole_lengths_and_ways.Holds := by
  w_on; o_law; k_head; (case hw => w_witness2)
  k_fill
  refine Clo.walk_ofTop (l := PySem.Challenge.rw_unseenflips_k58_whole_lengths_and_ways) (n := 63) (k := 13) (x := "_law_script") (CX := fun _ => L2.CX0) rfl (by decide) rfl ⟨rfl, by decide, by decide⟩ (fun w h Y => PySem.W.km_in_of Y) ?F (fun _ _ _ _ _ h => h)
  case F =>
    intro w mg fa h KX G hmg TT
    refine' La.all_mk KX G hmg TT (by decide +kernel) (by decide +kernel) ?a1 ?l1 ?c1 ?k1 ?d1 ?a2 ?l2 ?c2 ?k2 ?a3 ?l3 ?c3 ?k3 ?a4 ?l4 ?c4 ?k4 ?a5 ?l5 ?c5 ?k5 ?a6 ?l6 ?c6 ?k6 ?a7 ?l7 ?c7 ?k7 ?a8 ?l8 ?c8 ?k8 ?a9 ?l9 ?c9 ?k9 ?a10 ?l10 ?c10 ?k10 ?a11 ?l11 ?c11 ?k11 ?a12 ?l12 ?c12 ?k12 ?a13 ?l13 ?c13 ?k13 ?a14 ?l14 ?c14 ?k14 ?a15 ?l15 ?c15 ?k15 ?a16 ?l16 ?c16 ?k16 ?a17 ?l17 ?c17 ?k17 ?a18 ?l18 ?c18 ?k18 ?a19 ?l19 ?c19 ?k19 ?a20 ?l20 ?c20 ?k20 ?a21 ?l21 ?c21 ?k21 ?a22 ?l22 ?c22 ?k22 ?a23 ?l23 ?c23 ?k23 ?a24 ?l24 ?c24 ?k24 ?a25 ?l25 ?c25 ?k25 ?a26 ?l26 ?c26 ?k26 ?a27 ?l27 ?c27 ?k27 ?a28 ?l28 ?c28 ?k28 ?a29 ?l29 ?c29 ?k29 ?a30 ?l30 ?c30 ?k30 ?a31 ?l31 ?c31 ?k31 ?a32 ?l32 ?c32 ?k32 ?a33 ?l33 ?c33 ?k33 ?a34 ?l34 ?c34 ?k34 ?a35 ?l35 ?c35 ?k35 ?a36 ?l36 ?c36 ?k36 ?a37 ?l37 ?c37 ?k37 ?a38 ?l38 ?c38 ?k38 ?a39 ?l39 ?c39 ?k39 ?a40 ?l40 ?c40 ?k40 ?aCRule ?a41 ?i41 ?l41 ?c41 ?k41 ?d41 ?e41_0 ?a42 ?i42 ?l42 ?c42 ?k42 ?a43 ?i43 ?l43 ?c43 ?k43 ?a44 ?q44 ?t44 ?r44 ?l44 ?c44 ?k44 ?pgCRule ?hdCRule ?poCRule ?saCRule ?mkCRule ?kcCRule ?nCRule_flag ?nCRule_stuffs ?aCCheck ?a45 ?i45 ?l45 ?c45 ?k45 ?d45 ?a46 ?i46 ?l46 ?c46 ?k46 ?a47 ?q47 ?t47 ?r47 ?l47 ?c47 ?k47 ?pgCCheck ?hdCCheck ?poCCheck ?saCCheck ?mkCCheck ?kcCCheck ?nCCheck_poly ?nCCheck_start ?aCNet ?a48 ?i48 ?l48 ?c48 ?k48 ?a49 ?i49 ?l49 ?c49 ?k49 ?a50 ?i50 ?l50 ?c50 ?k50 ?a51 ?i51 ?l51 ?c51 ?k51 ?a52 ?i52 ?l52 ?c52 ?k52 ?a53 ?i53 ?l53 ?c53 ?k53 ?a54 ?i54 ?l54 ?c54 ?k54 ?a55 ?i55 ?l55 ?c55 ?k55 ?a56 ?i56 ?l56 ?c56 ?k56 ?a57 ?i57 ?l57 ?c57 ?k57 ?a58 ?i58 ?l58 ?c58 ?k58 ?pgCNet ?hdCNet ?poCNet ?saCNet ?mkCNet ?kcCNet ?nCNet__rule ?nCNet__kinds ?nCNet__most ?nCNet__how ?nCNet__places ?nCNet__numbers ?nCNet__steps ?nCNet_begin ?aCLefts ?a59 ?i59 ?l59 ?c59 ?k59 ?a60 ?i60 ?l60 ?c60 ?k60 ?pgCLefts ?hdCLefts ?poCLefts ?saCLefts ?mkCLefts ?kcCLefts ?nCLefts__check ?nCLefts__known ?nCLefts_begin ?nCLefts_good ?x_spoiled ?v_spoiled ?n_spoiled ?x_first_way ?v_first_way ?n_first_way ?u_spoiled_first_way ?z_len ?z_abs ?z_max ?z_min ?z_int ?z_str ?z_range ?z_zip ?z_enumerate ?z_isinstance ?z_all ?z_any ?z_list ?z_tuple ?z_repr ?z_set ?z_sorted
    (case a1 => k_is)
    (case l1 => k_is)
    (case c1 => k_is)
    (case k1 => k_is)
    (case d1 => k_is)
    (case a2 => k_is)
    (case l2 => k_is)
    (case c2 => k_is)
    (case k2 => k_is)
    (case a3 => k_is)
    (case l3 => k_is)
    (case c3 => k_is)
    (case k3 => k_is)
    (case a4 => k_is)
    (case l4 => k_is)
    (case c4 => k_is)
    (case k4 => k_is)
    (case a5 => k_is)
    (case l5 => k_is)
    (case c5 => k_is)
    (case k5 => k_is)
    (case a6 => k_is)
    (case l6 => k_is)
    (case c6 => k_is)
    (case k6 => k_is)
    (case a7 => k_is)
    (case l7 => k_is)
    (case c7 => k_is)
    (case k7 => k_is)
    (case a8 => k_is)
    (case l8 => k_is)
    (case c8 => k_is)
    (case k8 => k_is)
    (case a9 => k_is)
    (case l9 => k_is)
    (case c9 => k_is)
    (case k9 => k_is)
    (case a10 => k_is)
    (case l10 => k_is)
    (case c10 => k_is)
    (case k10 => k_is)
    (case a11 => k_is)
    (case l11 => k_is)
    (case c11 => k_is)
    (case k11 => k_is)
    (case a12 => k_is)
    (case l12 => k_is)
    (case c12 => k_is)
    (case k12 => k_is)
    (case a13 => k_is)
    (case l13 => k_is)
    (case c13 => k_is)
    (case k13 => k_is)
    (case a14 => k_is)
    (case l14 => k_is)
    (case c14 => k_is)
    (case k14 => k_is)
    (case a15 => k_is)
    (case l15 => k_is)
    (case c15 => k_is)
    (case k15 => k_is)
    (case a16 => k_is)
    (case l16 => k_is)
    (case c16 => k_is)
    (case k16 => k_is)
    (case a17 => k_is)
    (case l17 => k_is)
    (case c17 => k_is)
    (case k17 => k_is)
    (case a18 => k_is)
    (case l18 => k_is)
    (case c18 => k_is)
    (case k18 => k_is)
    (case a19 => k_is)
    (case l19 => k_is)
    (case c19 => k_is)
    (case k19 => k_is)
    (case a20 => k_is)
    (case l20 => k_is)
    (case c20 => k_is)
    (case k20 => k_is)
    (case a21 => k_is)
    (case l21 => k_is)
    (case c21 => k_is)
    (case k21 => k_is)
    (case a22 => k_is)
    (case l22 => k_is)
    (case c22 => k_is)
    (case k22 => k_is)
    (case a23 => k_is)
    (case l23 => k_is)
    (case c23 => k_is)
    (case k23 => k_is)
    (case a24 => k_is)
    (case l24 => k_is)
    (case c24 => k_is)
    (case k24 => k_is)
    (case a25 => k_is)
    (case l25 => k_is)
    (case c25 => k_is)
    (case k25 => k_is)
    (case a26 => k_is)
    (case l26 => k_is)
    (case c26 => k_is)
    (case k26 => k_is)
    (case a27 => k_is)
    (case l27 => k_is)
    (case c27 => k_is)
    (case k27 => k_is)
    (case a28 => k_is)
    (case l28 => k_is)
    (case c28 => k_is)
    (case k28 => k_is)
    (case a29 => k_is)
    (case l29 => k_is)
    (case c29 => k_is)
    (case k29 => k_is)
    (case a30 => k_is)
    (case l30 => k_is)
    (case c30 => k_is)
    (case k30 => k_is)
    (case a31 => k_is)
    (case l31 => k_is)
    (case c31 => k_is)
    (case k31 => k_is)
    (case a32 => k_is)
    (case l32 => k_is)
    (case c32 => k_is)
    (case k32 => k_is)
    (case a33 => k_is)
    (case l33 => k_is)
    (case c33 => k_is)
    (case k33 => k_is)
    (case a34 => k_is)
    (case l34 => k_is)
    (case c34 => k_is)
    (case k34 => k_is)
    (case a35 => k_is)
    (case l35 => k_is)
    (case c35 => k_is)
    (case k35 => k_is)
    (case a36 => k_is)
    (case l36 => k_is)
    (case c36 => k_is)
    (case k36 => k_is)
    (case a37 => k_is)
    (case l37 => k_is)
    (case c37 => k_is)
    (case k37 => k_is)
    (case a38 => k_is)
    (case l38 => k_is)
    (case c38 => k_is)
    (case k38 => k_is)
    (case a39 => k_is)
    (case l39 => k_is)
    (case c39 => k_is)
    (case k39 => k_is)
    (case a40 => k_is)
    (case l40 => k_is)
    (case c40 => k_is)
    (case k40 => k_is)
    (case aCRule => k_is)
    (case a41 => k_is)
    (case i41 => k_is)
    (case l41 => k_is)
    (case c41 => k_is)
    (case k41 => k_is)
    (case d41 => k_is)
    (case e41_0 => k_is)
    (case a42 => k_is)
    (case i42 => k_is)
    (case l42 => k_is)
    (case c42 => k_is)
    (case k42 => k_is)
    (case a43 => k_is)
    (case i43 => k_is)
    (case l43 => k_is)
    (case c43 => k_is)
    (case k43 => k_is)
    (case a44 => k_is)
    (case q44 => k_is)
    (case t44 => k_is)
    (case r44 => k_is)
    (case l44 => k_is)
    (case c44 => k_is)
    (case k44 => k_is)
    (case pgCRule => k_is)
    (case hdCRule => k_is)
    (case poCRule => k_is)
    (case saCRule => k_is)
    (case mkCRule => k_is)
    (case kcCRule => k_is)
    (case nCRule_flag => k_is)
    (case nCRule_stuffs => k_is)
    (case aCCheck => k_is)
    (case a45 => k_is)
    (case i45 => k_is)
    (case l45 => k_is)
    (case c45 => k_is)
    (case k45 => k_is)
    (case d45 => k_is)
    (case a46 => k_is)
    (case i46 => k_is)
    (case l46 => k_is)
    (case c46 => k_is)
    (case k46 => k_is)
    (case a47 => k_is)
    (case q47 => k_is)
    (case t47 => k_is)
    (case r47 => k_is)
    (case l47 => k_is)
    (case c47 => k_is)
    (case k47 => k_is)
    (case pgCCheck => k_is)
    (case hdCCheck => k_is)
    (case poCCheck => k_is)
    (case saCCheck => k_is)
    (case mkCCheck => k_is)
    (case kcCCheck => k_is)
    (case nCCheck_poly => k_is)
    (case nCCheck_start => k_is)
    (case aCNet => k_is)
    (case a48 => k_is)
    (case i48 => k_is)
    (case l48 => k_is)
    (case c48 => k_is)
    (case k48 => k_is)
    (case a49 => k_is)
    (case i49 => k_is)
    (case l49 => k_is)
    (case c49 => k_is)
    (case k49 => k_is)
    (case a50 => k_is)
    (case i50 => k_is)
    (case l50 => k_is)
    (case c50 => k_is)
    (case k50 => k_is)
    (case a51 => k_is)
    (case i51 => k_is)
    (case l51 => k_is)
    (case c51 => k_is)
    (case k51 => k_is)
    (case a52 => k_is)
    (case i52 => k_is)
    (case l52 => k_is)
    (case c52 => k_is)
    (case k52 => k_is)
    (case a53 => k_is)
    (case i53 => k_is)
    (case l53 => k_is)
    (case c53 => k_is)
    (case k53 => k_is)
    (case a54 => k_is)
    (case i54 => k_is)
    (case l54 => k_is)
    (case c54 => k_is)
    (case k54 => k_is)
    (case a55 => k_is)
    (case i55 => k_is)
    (case l55 => k_is)
    (case c55 => k_is)
    (case k55 => k_is)
    (case a56 => k_is)
    (case i56 => k_is)
    (case l56 => k_is)
    (case c56 => k_is)
    (case k56 => k_is)
    (case a57 => k_is)
    (case i57 => k_is)
    (case l57 => k_is)
    (case c57 => k_is)
    (case k57 => k_is)
    (case a58 => k_is)
    (case i58 => k_is)
    (case l58 => k_is)
    (case c58 => k_is)
    (case k58 => k_is)
    (case pgCNet => k_is)
    (case hdCNet => k_is)
    (case poCNet => k_is)
    (case saCNet => k_is)
    (case mkCNet => k_is)
    (case kcCNet => k_is)
    (case nCNet__rule => k_is)
    (case nCNet__kinds => k_is)
    (case nCNet__most => k_is)
    (case nCNet__how => k_is)
    (case nCNet__places => k_is)
    (case nCNet__numbers => k_is)
    (case nCNet__steps => k_is)
    (case nCNet_begin => k_is)
    (case aCLefts => k_is)
    (case a59 => k_is)
    (case i59 => k_is)
    (case l59 => k_is)
    (case c59 => k_is)
    (case k59 => k_is)
    (case a60 => k_is)
    (case i60 => k_is)
    (case l60 => k_is)
    (case c60 => k_is)
    (case k60 => k_is)
    (case pgCLefts => k_is)
    (case hdCLefts => k_is)
    (case poCLefts => k_is)
    (case saCLefts => k_is)
    (case mkCLefts => k_is)
    (case kcCLefts => k_is)
    (case nCLefts__check => k_is)
    (case nCLefts__known => k_is)
    (case nCLefts_begin => k_is)
    (case nCLefts_good => k_is)
    (case x_spoiled => k_is)
    (case v_spoiled => rfl)
    (case n_spoiled => first | k_is | rfl)
    (case x_first_way => k_is)
    (case v_first_way => rfl)
    (case n_first_way => first | k_is | rfl)
    (case u_spoiled_first_way => first | rfl | decide | decide +kernel)
    (case z_len => k_is)
    (case z_abs => k_is)
    (case z_max => k_is)
    (case z_min => k_is)
    (case z_int => k_is)
    (case z_str => k_is)
    (case z_range => k_is)
    (case z_zip => k_is)
    (case z_enumerate => k_is)
    (case z_isinstance => k_is)
    (case z_all => k_is)
    (case z_any => k_is)
    (case z_list => k_is)
    (case z_tuple => k_is)
    (case z_repr => k_is)
    (case z_set => k_is)
    (case z_sorted => k_is)


