import PyProof.Rows.All
import Wide.All
import OpenK.AllK
import Wide.FinOn
import HandS.Base
import HandS.Call
import HandS.List
import HandS.Comp
import HandS.Ends
import HandS.Dict
import HandS.Iter
import HandS.Text
import HandS.Words
import HandS.TryOnly
import HandS.Wide
import HandS.IsInst
import HandS.EndBits
import HandS.Evl
import PySem.Challenge.RW_betstall_k01_sums_products_order
set_option Elab.async false
set_option linter.all false
set_option maxRecDepth 100000
set_option maxHeartbeats 4000000
namespace B
open PySem PySem.Spec PyProof.Rows L2
/-! ### a def of the text, by its place, its parameters, its name -/
structure Df (K : PySem.W.Frag) (mg : Str → Option Value) (x : Str) (st : Stmt) (ps : List Str) where
  f : Addr
  fd : FuncData
  F : Fun K x x st f fd
  b : Binds K fd ps []
  g : mg x = some (.ref f)
/-! ### heaps -/
theorem same_upd {H : Hp} {p : Addr} {o : HO} (h : H p = none) : Same H (upd H p o) := fun b x e => by
  rw [upd_ne (ne_of_none e h)]
  exact e
theorem Same.tup {K : PySem.W.Frag} {H H' : Hp} {a : Addr} {xs : List V} (e : Same H H') (h : SqT K H a xs) : SqT K H' a xs := by
  rcases h with (h | ⟨o, h⟩) | h
  · exact .inl (.inl (e _ _ h))
  · exact .inl (.inr ⟨o, e _ _ h⟩)
  · exact .inr h
theorem sqt_upd {K : PySem.W.Frag} {H : Hp} {p : Addr} {xs : List V} : SqT K (upd H p (.tup xs)) p xs := .inl (.inl upd_same)
theorem sql_upd {K : PySem.W.Frag} {H : Hp} {p : Addr} {xs : List V} : SqL K (upd H p (.lst xs)) p xs := .inl (.inl upd_same)
/-- the three objects of a row of draws -/
structure Dr where
  dr : Addr
  cl : Addr
  rs : Addr
/-- such a row stands at d, and b further draws may be asked -/
structure Drw (H : Hp) (d : Dr) (b : Nat) : Prop where
  ex : ∃ (cs rr : List Int) (c : Nat), H d.dr = some (.lst [.ref d.cl, .int c, .ref d.rs]) ∧ H d.cl = some (.lst (cs.map V.int)) ∧ H d.rs = some (.lst (rr.map V.int)) ∧ cs.length = rr.length ∧ 0 < cs.length ∧ cs.length ≤ 63 ∧ c + b ≤ 1000000
  ne : d.cl ≠ d.rs
/-- all else that was tracked is as it was -/
def Kp (d : Dr) (H H' : Hp) : Prop := ∀ b o, H b = some o → b ≠ d.dr → b ≠ d.rs → H' b = some o
theorem Kp.refl (d : Dr) (H : Hp) : Kp d H H := fun _ _ h _ _ => h
theorem Kp.trans {d : Dr} {H H1 H2 : Hp} (a : Kp d H H1) (b : Kp d H1 H2) : Kp d H H2 := fun x o h n m => b x o (a x o h n m) n m
theorem Same.kp {d : Dr} {H H' : Hp} (e : Same H H') : Kp d H H' := fun b o h _ _ => e b o h
theorem Kp.upd {d : Dr} {H H' : Hp} {p : Addr} {o : HO} (k : Kp d H H') (h : H p = none) : Kp d H (upd H' p o) := fun b x e n m => by
  rw [upd_ne (ne_of_none e h)]
  exact k b x e n m
theorem Drw.less {H : Hp} {d : Dr} {b c : Nat} (h : Drw H d b) (e : c ≤ b) : Drw H d c := by
  obtain ⟨⟨cs, rr, k, h1, h2, h3, h4, h5, h6, h7⟩, ne⟩ := h
  exact ⟨⟨cs, rr, k, h1, h2, h3, h4, h5, h6, by omega⟩, ne⟩
theorem Drw.same {H H' : Hp} {d : Dr} {b : Nat} (h : Drw H d b) (e : Same H H') : Drw H' d b := by
  obtain ⟨⟨cs, rr, k, h1, h2, h3, h4⟩, ne⟩ := h
  exact ⟨⟨cs, rr, k, e _ _ h1, e _ _ h2, e _ _ h3, h4⟩, ne⟩
theorem Drw.upd {H : Hp} {d : Dr} {b : Nat} {p : Addr} {o : HO} (h : Drw H d b) (n : H p = none) : Drw (upd H p o) d b := h.same (same_upd n)
theorem Drw.dr {H : Hp} {d : Dr} {b : Nat} (h : Drw H d b) : ∃ xs, H d.dr = some (.lst xs) := by
  obtain ⟨⟨cs, rr, k, h1, h2, h3, h4⟩, ne⟩ := h
  exact ⟨_, h1⟩
theorem Drw.rs {H : Hp} {d : Dr} {b : Nat} (h : Drw H d b) : ∃ xs, H d.rs = some (.lst xs) := by
  obtain ⟨⟨cs, rr, k, h1, h2, h3, h4⟩, ne⟩ := h
  exact ⟨_, h3⟩
theorem Drw.no {H : Hp} {d : Dr} {b : Nat} {p : Addr} (h : Drw H d b) (n : H p = none) : p ≠ d.dr ∧ p ≠ d.rs := by
  obtain ⟨x, hx⟩ := h.dr
  obtain ⟨y, hy⟩ := h.rs
  exact ⟨(ne_of_none hx n).symm, (ne_of_none hy n).symm⟩
/-- a tuple stays as it is, whatever is drawn -/
theorem Kp.tup {K : PySem.W.Frag} {d : Dr} {b : Nat} {H H' : Hp} {a : Addr} {xs : List V} (k : Kp d H H') (w : Drw H d b) (h : SqT K H a xs) : SqT K H' a xs := by
  obtain ⟨ys, hy⟩ := w.dr
  obtain ⟨zs, hz⟩ := w.rs
  rcases h with (h | ⟨o, h⟩) | h
  · exact .inl (.inl (k _ _ h (ne_of h hy (by intro q; cases q)) (ne_of h hz (by intro q; cases q))))
  · exact .inl (.inr ⟨o, k _ _ h (ne_of h hy (by intro q; cases q)) (ne_of h hz (by intro q; cases q))⟩)
  · exact .inr h
/-! ### numbers -/
/-- // by any divisor but 0, of any size below 2 ^ 9000 -/
def CDivN (_ j : Int) : Prop := j ≠ 0 ∧ j.natAbs.log2 < 9000
theorem op_fdivNW {X : Cx} : OpR X (binaryOp .FloorDiv) (rI CDivN fun i j => .int (i.fdiv j)) := opI fun i j _ _ _ _ _ hc q => floordiv_int hc.1 q (.inl (PyProof.noPylong_of_log2 hc.2))
theorem divN {i j : Int} {b : Nat} (h : j ≠ 0) (hb : j.natAbs < 2 ^ b) (h0 : 0 < b) (h9 : b ≤ 9000) : CDivN i j := ⟨h, Nat.lt_of_lt_of_le (PySem.Flt.log2_lt_of h0 hb) h9⟩
theorem fmod_nat {a b : Nat} : ((a : Int).fmod (b : Int)) = ((a % b : Nat) : Int) := by
  rw [Int.fmod_eq_emod_of_nonneg _ (Int.natCast_nonneg b)]
  rfl
theorem fmod_pos {a b : Int} (h : 0 < b) : 0 ≤ a.fmod b ∧ a.fmod b < b := ⟨Int.fmod_nonneg_of_pos a h, Int.fmod_lt_of_pos a h⟩
theorem abs_nat (i : Int) : (if i < 0 then -i else i) = (i.natAbs : Int) := by
  split <;> omega
theorem iteE {k : Bool} {A B : Prop} (h : k = false) (q : B) : if k = true then A else B := by
  subst h
  exact iteF q
theorem iteK {k : Bool} {A B : Prop} (h : k = true) (q : A) : if k = true then A else B := by
  subst h
  exact iteT q
theorem lc_yes {σ : L2.St} {H : Hp} {X Y : Hp → Prop} (h : X H) : tYes σ H (fun b H3 => if b = true then X H3 else Y H3) := by
  show if true = true then X H else Y H
  rw [if_pos rfl]
  exact h
theorem ty_tup {K : PySem.W.Frag} {H : Hp} {a : Addr} {xs : List V} (h : SqT K H a xs) : TyX K H (.ref a) (.type "tuple") := by
  rcases h with (h | ⟨o, h⟩) | ⟨o, its, n, e, c, _⟩
  · exact .base (.tup h)
  · exact .fTuple h
  · exact .kTuple e c
theorem dp2 {K : PySem.W.Frag} {H : Hp} {a : Addr} {x y : Int} (h : SqT K H a [.int x, .int y]) : Dp K H (.ref a) (.tuple [.int x, .int y]) := .tup h (.cons (.int x) (.cons (.int y) .nil))
theorem nab_mul {x y : Int} {a b c : Nat} (hx : x.natAbs < 2 ^ a) (hy : y.natAbs < 2 ^ b) (h : a + b ≤ c) : (x * y).natAbs < 2 ^ c := Nat.lt_of_lt_of_le (wide_lt hx hy) (Nat.pow_le_pow_right (by decide) h)
theorem nab_le {x y : Int} {a : Nat} (h : x.natAbs ≤ y.natAbs) (hy : y.natAbs < 2 ^ a) : x.natAbs < 2 ^ a := Nat.lt_of_le_of_lt h hy
theorem at_nat {xs : List V} {j : Nat} {v : V} (h : xs[j]? = some v) : atI xs (j : Int) = some v := atI_nat h
end B
namespace B
open PySem PySem.Spec PyProof.Rows L2
/-! ### fractions in lowest terms -/
/-- what lowest divides by -/
def lowN (t b : Int) : Int := if b < 0 then -((Nat.gcd t.natAbs b.natAbs : Nat) : Int) else ((Nat.gcd t.natAbs b.natAbs : Nat) : Int)
def lowT (t b : Int) : Int := t.fdiv (lowN t b)
def lowB (t b : Int) : Int := b.fdiv (lowN t b)
theorem lowN_abs (t b : Int) : (lowN t b).natAbs = Nat.gcd t.natAbs b.natAbs := by
  unfold lowN
  split <;> omega
theorem lowN_dvd_t (t b : Int) : lowN t b ∣ t := by
  rw [← Int.natAbs_dvd_natAbs, lowN_abs]
  exact Nat.gcd_dvd_left _ _
theorem lowN_dvd_b (t b : Int) : lowN t b ∣ b := by
  rw [← Int.natAbs_dvd_natAbs, lowN_abs]
  exact Nat.gcd_dvd_right _ _
theorem low_t (t b : Int) : lowN t b * lowT t b = t := by
  unfold lowT
  rw [Int.fdiv_eq_ediv_of_dvd (lowN_dvd_t t b)]
  exact Int.mul_ediv_cancel' (lowN_dvd_t t b)
theorem low_b (t b : Int) : lowN t b * lowB t b = b := by
  unfold lowB
  rw [Int.fdiv_eq_ediv_of_dvd (lowN_dvd_b t b)]
  exact Int.mul_ediv_cancel' (lowN_dvd_b t b)
theorem lowN_pos {t b : Int} (h : b ≠ 0) : 0 < Nat.gcd t.natAbs b.natAbs := Nat.gcd_pos_of_pos_right _ (by omega)
theorem lowB_pos {t b : Int} (h : b ≠ 0) : 1 ≤ lowB t b := by
  have e := low_b t b
  have g := lowN_pos (t := t) h
  rcases Int.lt_or_le (lowB t b) 1 with z | z
  · exfalso
    by_cases hb : b < 0
    · have n : lowN t b ≤ 0 := by unfold lowN; rw [if_pos hb]; omega
      have := Int.mul_nonneg_of_nonpos_of_nonpos n (show lowB t b ≤ 0 by omega)
      omega
    · have n : 0 ≤ lowN t b := by unfold lowN; rw [if_neg hb]; omega
      have := Int.mul_nonpos_of_nonneg_of_nonpos n (show lowB t b ≤ 0 by omega)
      omega
  · exact z
theorem low_cop {t b : Int} (h : b ≠ 0) : Nat.gcd (lowT t b).natAbs (lowB t b).natAbs = 1 := by
  have g := lowN_pos (t := t) h
  have e1 : t.natAbs = Nat.gcd t.natAbs b.natAbs * (lowT t b).natAbs := by
    rw [← lowN_abs, ← Int.natAbs_mul, low_t]
  have e2 : b.natAbs = Nat.gcd t.natAbs b.natAbs * (lowB t b).natAbs := by
    rw [← lowN_abs, ← Int.natAbs_mul, low_b]
  have e3 : Nat.gcd t.natAbs b.natAbs = Nat.gcd t.natAbs b.natAbs * Nat.gcd (lowT t b).natAbs (lowB t b).natAbs := by
    rw [← Nat.gcd_mul_left, ← e1, ← e2]
  exact (Nat.eq_of_mul_eq_mul_left g (by rw [Nat.mul_one]; exact e3)).symm
theorem cop_dvd {a b c : Nat} (h : Nat.gcd b a = 1) (d : b ∣ a * c) : b ∣ c := by
  have e : Nat.gcd (b * c) (a * c) = c := by rw [Nat.gcd_mul_right, h, Nat.one_mul]
  rw [← e]
  exact Nat.dvd_gcd (Nat.dvd_mul_right _ _) d
/-- two fractions in lowest terms of one worth are one -/
theorem cop_one {T B T' B' : Int} (h : 1 ≤ B) (h' : 1 ≤ B') (g : Nat.gcd T.natAbs B.natAbs = 1) (g' : Nat.gcd T'.natAbs B'.natAbs = 1) (e : T * B' = T' * B) : T = T' ∧ B = B' := by
  have e1 : T.natAbs * B'.natAbs = T'.natAbs * B.natAbs := by rw [← Int.natAbs_mul, ← Int.natAbs_mul, e]
  have d1 : B.natAbs ∣ B'.natAbs := cop_dvd (a := T.natAbs) (by rw [Nat.gcd_comm]; exact g) ⟨T'.natAbs, by rw [e1, Nat.mul_comm]⟩
  have d2 : B'.natAbs ∣ B.natAbs := cop_dvd (a := T'.natAbs) (by rw [Nat.gcd_comm]; exact g') ⟨T.natAbs, by rw [← e1, Nat.mul_comm]⟩
  have e2 : B = B' := by
    have := Nat.dvd_antisymm d1 d2
    omega
  subst e2
  exact ⟨Int.eq_of_mul_eq_mul_right (by omega) e, rfl⟩
/-- t, b and what is in lowest terms of the same worth -/
theorem low_cross (t b : Int) : lowT t b * b = t * lowB t b := by
  have e1 := low_t t b
  have e2 := low_b t b
  calc lowT t b * b = lowT t b * (lowN t b * lowB t b) := by rw [e2]
    _ = (lowN t b * lowT t b) * lowB t b := by rw [← Int.mul_assoc, Int.mul_comm (lowT t b)]
    _ = t * lowB t b := by rw [e1]
theorem low_is {t b T B : Int} (hb : b ≠ 0) (h : 1 ≤ B) (g : Nat.gcd T.natAbs B.natAbs = 1) (e : T * b = t * B) : lowT t b = T ∧ lowB t b = B := by
  refine cop_one (lowB_pos hb) h (low_cop hb) g ?_
  have c := low_cross t b
  refine Int.eq_of_mul_eq_mul_right hb ?_
  calc lowT t b * B * b = (lowT t b * b) * B := by rw [Int.mul_assoc, Int.mul_comm B, ← Int.mul_assoc]
    _ = t * lowB t b * B := by rw [c]
    _ = (t * B) * lowB t b := by rw [Int.mul_assoc, Int.mul_comm (lowB t b), ← Int.mul_assoc]
    _ = T * b * lowB t b := by rw [e]
    _ = T * lowB t b * b := by rw [Int.mul_assoc, Int.mul_comm b, ← Int.mul_assoc]
theorem lowT_abs {t b : Int} (h : b ≠ 0) : (lowT t b).natAbs ≤ t.natAbs := by
  have e := low_t t b
  have g := lowN_pos (t := t) h
  rw [← lowN_abs] at g
  have : t.natAbs = (lowN t b).natAbs * (lowT t b).natAbs := by rw [← Int.natAbs_mul, e]
  rw [this]
  exact Nat.le_mul_of_pos_left _ g
theorem lowB_abs {t b : Int} (h : b ≠ 0) : (lowB t b).natAbs ≤ b.natAbs := by
  have e := low_b t b
  have g := lowN_pos (t := t) h
  rw [← lowN_abs] at g
  have : b.natAbs = (lowN t b).natAbs * (lowB t b).natAbs := by rw [← Int.natAbs_mul, e]
  rw [this]
  exact Nat.le_mul_of_pos_left _ g
end B
namespace B
open PySem PySem.Spec PyProof.Rows L2
/-! ### sums and products of fractions -/
/-- a fraction: top, bottom -/
structure IsF (t : Int) (b : Nat) : Prop where
  pos : 0 < b
  cop : Nat.Coprime t.natAbs b
theorem low_isN {t T : Int} {b B : Nat} (hb : 0 < b) (h : IsF T B) (e : T * (b : Int) = t * (B : Int)) : lowT t b = T ∧ lowB t b = (B : Int) :=
  low_is (by omega) (by have := h.pos; omega) (by rw [Int.natAbs_natCast]; exact h.cop) e
/-- the bottom as a number -/
def lowBn (t : Int) (b : Nat) : Nat := (lowB t b).natAbs
theorem lowBn_eq {t : Int} {b : Nat} (hb : 0 < b) : lowB t b = (lowBn t b : Int) := by
  have := lowB_pos (t := t) (b := (b : Int)) (by omega)
  unfold lowBn
  omega
theorem low_isF {t : Int} {b : Nat} (hb : 0 < b) : IsF (lowT t b) (lowBn t b) := by
  have h := lowB_pos (t := t) (b := (b : Int)) (by omega)
  refine ⟨by unfold lowBn; omega, ?_⟩
  exact low_cop (t := t) (b := (b : Int)) (by omega)
theorem low_self {t : Int} {b : Nat} (h : IsF t b) : lowT t b = t ∧ lowBn t b = b := by
  have := low_isN h.pos h (rfl : t * (b : Int) = t * b)
  refine ⟨this.1, ?_⟩
  unfold lowBn
  rw [this.2, Int.natAbs_natCast]
/-- what lowest divides by, the bottom above 0 -/
theorem lowN_nat (t : Int) (b : Nat) : lowN t b = ((Nat.gcd t.natAbs b : Nat) : Int) := by
  unfold lowN
  rw [if_neg (by omega), Int.natAbs_natCast]
theorem lowT_nat {t : Int} {b : Nat} : lowT t b = t / ((Nat.gcd t.natAbs b : Nat) : Int) := by
  unfold lowT
  rw [lowN_nat, Int.fdiv_eq_ediv_of_nonneg _ (by omega)]
theorem lowB_nat {t : Int} {b : Nat} : lowB t b = (b : Int) / ((Nat.gcd t.natAbs b : Nat) : Int) := by
  unfold lowB
  rw [lowN_nat, Int.fdiv_eq_ediv_of_nonneg _ (by omega)]
theorem natAbs_div {a : Int} {d : Nat} (h : d ∣ a.natAbs) : (a / (d : Int)).natAbs = a.natAbs / d := by
  rw [Int.natAbs_ediv_of_dvd (by exact Int.ofNat_dvd_left.mpr h), Int.natAbs_natCast]
theorem div_mul {a : Int} {d : Nat} (h : d ∣ a.natAbs) : a / (d : Int) * d = a := Int.ediv_mul_cancel (by exact Int.ofNat_dvd_left.mpr h)
def addX (t1 : Int) (b1 : Nat) (t2 : Int) (b2 : Nat) : Int := t1 * b2 + t2 * b1
def addT (t1 : Int) (b1 : Nat) (t2 : Int) (b2 : Nat) : Int := lowT (addX t1 b1 t2 b2) (b1 * b2 : Nat)
def addB (t1 : Int) (b1 : Nat) (t2 : Int) (b2 : Nat) : Nat := lowBn (addX t1 b1 t2 b2) (b1 * b2)
def mulT (t1 : Int) (b1 : Nat) (t2 : Int) (b2 : Nat) : Int := lowT (t1 * t2) (b1 * b2 : Nat)
def mulB (t1 : Int) (b1 : Nat) (t2 : Int) (b2 : Nat) : Nat := lowBn (t1 * t2) (b1 * b2)
/-- what plus reckons -/
def plG (b1 b2 : Nat) : Nat := Nat.gcd b1 b2
def plS (t1 : Int) (b1 : Nat) (t2 : Int) (b2 : Nat) : Int := t1 * ((b2 / plG b1 b2 : Nat) : Int) + t2 * ((b1 / plG b1 b2 : Nat) : Int)
def plD (t1 : Int) (b1 : Nat) (t2 : Int) (b2 : Nat) : Nat := Nat.gcd (plS t1 b1 t2 b2).natAbs (plG b1 b2)
theorem plus_math {t1 t2 : Int} {b1 b2 : Nat} (h1 : IsF t1 b1) (h2 : IsF t2 b2) :
    plS t1 b1 t2 b2 / (plD t1 b1 t2 b2 : Int) = addT t1 b1 t2 b2 ∧ b1 / plG b1 b2 * (b2 / plD t1 b1 t2 b2) = addB t1 b1 t2 b2 ∧ 0 < plG b1 b2 ∧ 0 < plD t1 b1 t2 b2 := by
  have g0 : 0 < plG b1 b2 := Nat.gcd_pos_of_pos_left _ h1.pos
  have d0 : 0 < plD t1 b1 t2 b2 := Nat.gcd_pos_of_pos_right _ g0
  obtain ⟨r, er⟩ : plG b1 b2 ∣ b1 := Nat.gcd_dvd_left _ _
  obtain ⟨s, es⟩ : plG b1 b2 ∣ b2 := Nat.gcd_dvd_right _ _
  have er2 : b1 / plG b1 b2 = r := Nat.div_eq_of_eq_mul_right g0 er
  have es2 : b2 / plG b1 b2 = s := Nat.div_eq_of_eq_mul_right g0 es
  have crs : Nat.Coprime r s := by
    have := Nat.coprime_div_gcd_div_gcd (m := b1) (n := b2) g0
    rw [show Nat.gcd b1 b2 = plG b1 b2 from rfl, er2, es2] at this
    exact this
  have eS : plS t1 b1 t2 b2 = t1 * (s : Int) + t2 * (r : Int) := by unfold plS; rw [er2, es2]
  have ct1r : Nat.Coprime t1.natAbs r := Nat.Coprime.coprime_dvd_right ⟨plG b1 b2, by rw [Nat.mul_comm]; exact er⟩ h1.cop
  have ct2s : Nat.Coprime t2.natAbs s := Nat.Coprime.coprime_dvd_right ⟨plG b1 b2, by rw [Nat.mul_comm]; exact es⟩ h2.cop
  have cSr : Nat.Coprime (plS t1 b1 t2 b2).natAbs r := by
    show Int.gcd (plS t1 b1 t2 b2) (r : Int) = 1
    rw [eS, Int.gcd_add_mul_right_left]
    show Nat.gcd (t1 * (s : Int)).natAbs (r : Int).natAbs = 1
    rw [Int.natAbs_mul, Int.natAbs_natCast, Int.natAbs_natCast]
    exact Nat.Coprime.mul_left ct1r crs.symm
  have cSs : Nat.Coprime (plS t1 b1 t2 b2).natAbs s := by
    show Int.gcd (plS t1 b1 t2 b2) (s : Int) = 1
    rw [eS, Int.add_comm, Int.gcd_add_mul_right_left]
    show Nat.gcd (t2 * (r : Int)).natAbs (s : Int).natAbs = 1
    rw [Int.natAbs_mul, Int.natAbs_natCast, Int.natAbs_natCast]
    exact Nat.Coprime.mul_left ct2s crs
  have dS : plD t1 b1 t2 b2 ∣ (plS t1 b1 t2 b2).natAbs := Nat.gcd_dvd_left _ _
  have dG : plD t1 b1 t2 b2 ∣ plG b1 b2 := Nat.gcd_dvd_right _ _
  obtain ⟨e, ee⟩ := dG
  have ee2 : plG b1 b2 / plD t1 b1 t2 b2 = e := Nat.div_eq_of_eq_mul_right d0 ee
  have eb : b2 / plD t1 b1 t2 b2 = e * s := Nat.div_eq_of_eq_mul_right d0 (by rw [← Nat.mul_assoc, ← ee]; exact es)
  have aT : (plS t1 b1 t2 b2 / (plD t1 b1 t2 b2 : Int)).natAbs = (plS t1 b1 t2 b2).natAbs / plD t1 b1 t2 b2 := natAbs_div dS
  have cT : ∀ {x : Nat}, Nat.Coprime (plS t1 b1 t2 b2).natAbs x → Nat.Coprime (plS t1 b1 t2 b2 / (plD t1 b1 t2 b2 : Int)).natAbs x := fun h => by
    rw [aT]
    exact Nat.Coprime.coprime_dvd_left (Nat.div_dvd_of_dvd dS) h
  have cTe : Nat.Coprime (plS t1 b1 t2 b2 / (plD t1 b1 t2 b2 : Int)).natAbs e := by
    have := Nat.coprime_div_gcd_div_gcd (m := (plS t1 b1 t2 b2).natAbs) (n := plG b1 b2) d0
    rw [show Nat.gcd (plS t1 b1 t2 b2).natAbs (plG b1 b2) = plD t1 b1 t2 b2 from rfl, ee2, ← aT] at this
    exact this
  have r0 : 0 < r := by
    rcases Nat.eq_zero_or_pos r with z | z
    · rw [z, Nat.mul_zero] at er
      have := h1.pos
      omega
    · exact z
  have s0 : 0 < s := by
    rcases Nat.eq_zero_or_pos s with z | z
    · rw [z, Nat.mul_zero] at es
      have := h2.pos
      omega
    · exact z
  have e0 : 0 < e := by
    rcases Nat.eq_zero_or_pos e with z | z
    · rw [z, Nat.mul_zero] at ee
      omega
    · exact z
  have F : IsF (plS t1 b1 t2 b2 / (plD t1 b1 t2 b2 : Int)) (r * (e * s)) := ⟨Nat.mul_pos r0 (Nat.mul_pos e0 s0), Nat.Coprime.mul_right (cT cSr) (Nat.Coprime.mul_right cTe (cT cSs))⟩
  have X := low_isN (t := addX t1 b1 t2 b2) (b := b1 * b2) (Nat.mul_pos h1.pos h2.pos) F (by
    have hd := div_mul dS
    generalize plS t1 b1 t2 b2 / (plD t1 b1 t2 b2 : Int) = T at hd
    generalize plD t1 b1 t2 b2 = d at hd ee
    rw [eS] at hd
    generalize plG b1 b2 = g at er es ee
    unfold addX
    subst ee
    rw [er, es]
    simp only [Int.natCast_mul]
    have : T * ((d : Int) * e * r * (d * e * s)) = (T * d) * ((e : Int) * r * (d * e * s)) := by
      simp only [Int.mul_assoc]
    rw [this, hd]
    have a1 : ∀ u v x y z : Int, (u * v + x * y) * z = u * v * z + x * y * z := fun u v x y z => Int.add_mul _ _ _
    rw [a1, a1]
    congr 1
    · simp only [Int.mul_assoc, Int.mul_left_comm, Int.mul_comm]
    · simp only [Int.mul_assoc, Int.mul_left_comm, Int.mul_comm])
  refine ⟨X.1.symm, ?_, g0, d0⟩
  rw [er2, eb]
  unfold addB lowBn
  rw [X.2, Int.natAbs_natCast]
theorem times_math {t1 t2 : Int} {b1 b2 : Nat} (h1 : IsF t1 b1) (h2 : IsF t2 b2) :
    t1 / ((Nat.gcd t1.natAbs b2 : Nat) : Int) * (t2 / ((Nat.gcd t2.natAbs b1 : Nat) : Int)) = mulT t1 b1 t2 b2 ∧ b1 / Nat.gcd t2.natAbs b1 * (b2 / Nat.gcd t1.natAbs b2) = mulB t1 b1 t2 b2 ∧ 0 < Nat.gcd t1.natAbs b2 ∧ 0 < Nat.gcd t2.natAbs b1 := by
  have f0 : 0 < Nat.gcd t1.natAbs b2 := Nat.gcd_pos_of_pos_right _ h2.pos
  have r0 : 0 < Nat.gcd t2.natAbs b1 := Nat.gcd_pos_of_pos_right _ h1.pos
  have df1 : Nat.gcd t1.natAbs b2 ∣ t1.natAbs := Nat.gcd_dvd_left _ _
  have df2 : Nat.gcd t1.natAbs b2 ∣ b2 := Nat.gcd_dvd_right _ _
  have dr1 : Nat.gcd t2.natAbs b1 ∣ t2.natAbs := Nat.gcd_dvd_left _ _
  have dr2 : Nat.gcd t2.natAbs b1 ∣ b1 := Nat.gcd_dvd_right _ _
  have c1 := Nat.coprime_div_gcd_div_gcd (m := t1.natAbs) (n := b2) f0
  have c2 := Nat.coprime_div_gcd_div_gcd (m := t2.natAbs) (n := b1) r0
  have c3 : Nat.Coprime (t1.natAbs / Nat.gcd t1.natAbs b2) (b1 / Nat.gcd t2.natAbs b1) := Nat.Coprime.coprime_dvd_left (Nat.div_dvd_of_dvd df1) (Nat.Coprime.coprime_dvd_right (Nat.div_dvd_of_dvd dr2) h1.cop)
  have c4 : Nat.Coprime (t2.natAbs / Nat.gcd t2.natAbs b1) (b2 / Nat.gcd t1.natAbs b2) := Nat.Coprime.coprime_dvd_left (Nat.div_dvd_of_dvd dr1) (Nat.Coprime.coprime_dvd_right (Nat.div_dvd_of_dvd df2) h2.cop)
  have F : IsF (t1 / ((Nat.gcd t1.natAbs b2 : Nat) : Int) * (t2 / ((Nat.gcd t2.natAbs b1 : Nat) : Int))) (b1 / Nat.gcd t2.natAbs b1 * (b2 / Nat.gcd t1.natAbs b2)) := by
    refine ⟨Nat.mul_pos (Nat.div_pos (Nat.le_of_dvd h1.pos dr2) r0) (Nat.div_pos (Nat.le_of_dvd h2.pos df2) f0), ?_⟩
    rw [Int.natAbs_mul, natAbs_div df1, natAbs_div dr1]
    exact Nat.Coprime.mul_left (Nat.Coprime.mul_right c3 c1) (Nat.Coprime.mul_right c2 c4)
  have X := low_isN (t := t1 * t2) (b := b1 * b2) (Nat.mul_pos h1.pos h2.pos) F (by
    have a1 := div_mul df1
    have a2 := div_mul dr1
    have a3 := Nat.div_mul_cancel dr2
    have a4 := Nat.div_mul_cancel df2
    generalize t1 / ((Nat.gcd t1.natAbs b2 : Nat) : Int) = x at a1
    generalize t2 / ((Nat.gcd t2.natAbs b1 : Nat) : Int) = y at a2
    generalize b1 / Nat.gcd t2.natAbs b1 = u at a3
    generalize b2 / Nat.gcd t1.natAbs b2 = v at a4
    have b3 : (b1 : Int) = u * (Nat.gcd t2.natAbs b1 : Nat) := by rw [← Int.natCast_mul, a3]
    have b4 : (b2 : Int) = v * (Nat.gcd t1.natAbs b2 : Nat) := by rw [← Int.natCast_mul, a4]
    rw [Int.natCast_mul, Int.natCast_mul, b3, b4]
    rw [show t1 * t2 = (x * (Nat.gcd t1.natAbs b2 : Nat)) * (y * (Nat.gcd t2.natAbs b1 : Nat)) by rw [a1, a2]]
    simp only [Int.mul_assoc, Int.mul_left_comm, Int.mul_comm])
  refine ⟨X.1.symm, ?_, f0, r0⟩
  unfold mulB lowBn
  rw [X.2, Int.natAbs_natCast]
/-- how great -/
structure Fz (t : Int) (b n : Nat) : Prop where
  t : t.natAbs < 2 ^ n
  b : b < 2 ^ n
theorem Fz.more {t : Int} {b n m : Nat} (h : Fz t b n) (e : n ≤ m) : Fz t b m := ⟨Nat.lt_of_lt_of_le h.t (Nat.pow_le_pow_right (by decide) e), Nat.lt_of_lt_of_le h.b (Nat.pow_le_pow_right (by decide) e)⟩
theorem low_z {t : Int} {b n : Nat} (hb : 0 < b) (ht : t.natAbs < 2 ^ n) (hz : b < 2 ^ n) : Fz (lowT t b) (lowBn t b) n := by
  refine ⟨Nat.lt_of_le_of_lt (lowT_abs (by omega)) ht, ?_⟩
  have := lowB_abs (t := t) (b := (b : Int)) (by omega)
  rw [Int.natAbs_natCast] at this
  exact Nat.lt_of_le_of_lt this hz
theorem addX_z {t1 t2 : Int} {b1 b2 n m : Nat} (h1 : Fz t1 b1 n) (h2 : Fz t2 b2 m) : (addX t1 b1 t2 b2).natAbs < 2 ^ (n + m + 1) := by
  unfold addX
  have a : (t1 * (b2 : Int)).natAbs < 2 ^ (n + m) := by rw [Int.natAbs_mul, Int.natAbs_natCast, Nat.pow_add]; exact Nat.mul_lt_mul'' h1.t h2.b
  have c : (t2 * (b1 : Int)).natAbs < 2 ^ (n + m) := by rw [Int.natAbs_mul, Int.natAbs_natCast, Nat.pow_add, Nat.mul_comm]; exact Nat.mul_lt_mul'' h1.b h2.t
  rw [Nat.pow_succ]
  omega
theorem mulB_z {b1 b2 n m : Nat} {t1 t2 : Int} (h1 : Fz t1 b1 n) (h2 : Fz t2 b2 m) : b1 * b2 < 2 ^ (n + m) := by
  rw [Nat.pow_add]
  exact Nat.mul_lt_mul'' h1.b h2.b
theorem add_z {t1 t2 : Int} {b1 b2 n m : Nat} (p1 : 0 < b1) (p2 : 0 < b2) (h1 : Fz t1 b1 n) (h2 : Fz t2 b2 m) : Fz (addT t1 b1 t2 b2) (addB t1 b1 t2 b2) (n + m + 1) :=
  low_z (Nat.mul_pos p1 p2) (addX_z h1 h2) (Nat.lt_of_lt_of_le (mulB_z h1 h2) (Nat.pow_le_pow_right (by decide) (by omega)))
theorem mul_z {t1 t2 : Int} {b1 b2 n m : Nat} (p1 : 0 < b1) (p2 : 0 < b2) (h1 : Fz t1 b1 n) (h2 : Fz t2 b2 m) : Fz (mulT t1 b1 t2 b2) (mulB t1 b1 t2 b2) (n + m) :=
  low_z (Nat.mul_pos p1 p2) (by rw [Int.natAbs_mul, Nat.pow_add]; exact Nat.mul_lt_mul'' h1.t h2.t) (mulB_z h1 h2)
theorem add_isF {t1 t2 : Int} {b1 b2 : Nat} (p1 : 0 < b1) (p2 : 0 < b2) : IsF (addT t1 b1 t2 b2) (addB t1 b1 t2 b2) := low_isF (Nat.mul_pos p1 p2)
theorem mul_isF {t1 t2 : Int} {b1 b2 : Nat} (p1 : 0 < b1) (p2 : 0 < b2) : IsF (mulT t1 b1 t2 b2) (mulB t1 b1 t2 b2) := low_isF (Nat.mul_pos p1 p2)
theorem IsF.neg {t : Int} {b : Nat} (h : IsF t b) : IsF (-t) b := ⟨h.pos, by rw [Int.natAbs_neg]; exact h.cop⟩
end B
namespace B
open PySem PySem.Spec PyProof.Rows L2
def topS (i : Nat) : Stmt := PySem.Challenge.pw_betstall_k01_sums_products_order.main.body.getD i (.Pass ⟨0, 0, 0, 0⟩)
abbrev s_common : Stmt := topS 1
abbrev N_common : List Str := ["one", "other"]
theorem sc_common : FnScope ["one", "other"] ["one", "other"] (defScope s_common) := ⟨rfl, rfl, rfl, by decide +kernel, rfl, by decide +kernel, by decide +kernel⟩
abbrev s_plus : Stmt := topS 2
abbrev N_plus : List Str := ["one", "other", "top", "bottom", "other_top", "other_bottom", "shared", "rest", "total", "left"]
theorem sc_plus : FnScope ["one", "other", "top", "bottom", "other_top", "other_bottom", "shared", "rest", "total", "left"] ["one", "other"] (defScope s_plus) := ⟨rfl, rfl, rfl, by decide +kernel, rfl, by decide +kernel, by decide +kernel⟩
abbrev s_times : Stmt := topS 3
abbrev N_times : List Str := ["one", "other", "top", "bottom", "other_top", "other_bottom", "falling", "rising"]
theorem sc_times : FnScope ["one", "other", "top", "bottom", "other_top", "other_bottom", "falling", "rising"] ["one", "other"] (defScope s_times) := ⟨rfl, rfl, rfl, by decide +kernel, rfl, by decide +kernel, by decide +kernel⟩
abbrev s_turned_about : Stmt := topS 4
abbrev N_turned_about : List Str := ["one"]
theorem sc_turned_about : FnScope ["one"] ["one"] (defScope s_turned_about) := ⟨rfl, rfl, rfl, by decide +kernel, rfl, by decide +kernel, by decide +kernel⟩
abbrev s_less : Stmt := topS 5
abbrev N_less : List Str := ["one", "other"]
theorem sc_less : FnScope ["one", "other"] ["one", "other"] (defScope s_less) := ⟨rfl, rfl, rfl, by decide +kernel, rfl, by decide +kernel, by decide +kernel⟩
abbrev s_l_draws : Stmt := topS 7
abbrev N_l_draws : List Str := ["_law_script", "_law_cells", "_law_cell"]
theorem sc_l_draws : FnScope ["_law_script", "_law_cells", "_law_cell"] ["_law_script"] (defScope s_l_draws) := ⟨rfl, rfl, rfl, by decide +kernel, rfl, by decide +kernel, by decide +kernel⟩
abbrev s_l_next : Stmt := topS 8
abbrev N_l_next : List Str := ["_law_drawn", "_law_many", "_law_cells", "_law_count", "_law_rests", "_law_at", "_law_digit", "_law_primes", "_law_mixed", "_law_more"]
theorem sc_l_next : FnScope ["_law_drawn", "_law_many", "_law_cells", "_law_count", "_law_rests", "_law_at", "_law_digit", "_law_primes", "_law_mixed", "_law_more"] ["_law_drawn", "_law_many"] (defScope s_l_next) := ⟨rfl, rfl, rfl, by decide +kernel, rfl, by decide +kernel, by decide +kernel⟩
abbrev s_l_whole : Stmt := topS 9
abbrev N_l_whole : List Str := ["_law_thing"]
theorem sc_l_whole : FnScope ["_law_thing"] ["_law_thing"] (defScope s_l_whole) := ⟨rfl, rfl, rfl, by decide +kernel, rfl, by decide +kernel, by decide +kernel⟩
abbrev s_l_lowest : Stmt := topS 10
abbrev N_l_lowest : List Str := ["_law_top", "_law_bottom", "_law_one", "_law_other"]
theorem sc_l_lowest : FnScope ["_law_top", "_law_bottom", "_law_one", "_law_other"] ["_law_top", "_law_bottom"] (defScope s_l_lowest) := ⟨rfl, rfl, rfl, by decide +kernel, rfl, by decide +kernel, by decide +kernel⟩
abbrev s_l_plus : Stmt := topS 11
abbrev N_l_plus : List Str := ["_law_one", "_law_other"]
theorem sc_l_plus : FnScope ["_law_one", "_law_other"] ["_law_one", "_law_other"] (defScope s_l_plus) := ⟨rfl, rfl, rfl, by decide +kernel, rfl, by decide +kernel, by decide +kernel⟩
abbrev s_l_times : Stmt := topS 12
abbrev N_l_times : List Str := ["_law_one", "_law_other"]
theorem sc_l_times : FnScope ["_law_one", "_law_other"] ["_law_one", "_law_other"] (defScope s_l_times) := ⟨rfl, rfl, rfl, by decide +kernel, rfl, by decide +kernel, by decide +kernel⟩
abbrev s_l_less : Stmt := topS 13
abbrev N_l_less : List Str := ["_law_one", "_law_other"]
theorem sc_l_less : FnScope ["_law_one", "_law_other"] ["_law_one", "_law_other"] (defScope s_l_less) := ⟨rfl, rfl, rfl, by decide +kernel, rfl, by decide +kernel, by decide +kernel⟩
abbrev s_l_is_fraction : Stmt := topS 14
abbrev N_l_is_fraction : List Str := ["_law_thing"]
theorem sc_l_is_fraction : FnScope ["_law_thing"] ["_law_thing"] (defScope s_l_is_fraction) := ⟨rfl, rfl, rfl, by decide +kernel, rfl, by decide +kernel, by decide +kernel⟩
abbrev s_l_fraction : Stmt := topS 15
abbrev N_l_fraction : List Str := ["_law_drawn", "_law_way", "_law_top"]
theorem sc_l_fraction : FnScope ["_law_drawn", "_law_way", "_law_top"] ["_law_drawn"] (defScope s_l_fraction) := ⟨rfl, rfl, rfl, by decide +kernel, rfl, by decide +kernel, by decide +kernel⟩
abbrev s_l_second : Stmt := topS 16
abbrev N_l_second : List Str := ["_law_drawn", "_law_one", "_law_way"]
theorem sc_l_second : FnScope ["_law_drawn", "_law_one", "_law_way"] ["_law_drawn", "_law_one"] (defScope s_l_second) := ⟨rfl, rfl, rfl, by decide +kernel, rfl, by decide +kernel, by decide +kernel⟩
abbrev s_l_is : Stmt := topS 17
abbrev N_l_is : List Str := ["_law_found", "_law_due"]
theorem sc_l_is : FnScope ["_law_found", "_law_due"] ["_law_found", "_law_due"] (defScope s_l_is) := ⟨rfl, rfl, rfl, by decide +kernel, rfl, by decide +kernel, by decide +kernel⟩
abbrev s_l_right : Stmt := topS 18
abbrev N_l_right : List Str := ["_law_one", "_law_other", "_law_told", "_law_truth"]
theorem sc_l_right : FnScope ["_law_one", "_law_other", "_law_told", "_law_truth"] ["_law_one", "_law_other"] (defScope s_l_right) := ⟨rfl, rfl, rfl, by decide +kernel, rfl, by decide +kernel, by decide +kernel⟩
abbrev s_law : Stmt := topS 19
abbrev N_law : List Str := ["_law_script", "_law_drawn", "_law_total", "_law_product", "_law_due", "_law_k", "_law_one", "_law_other"]
theorem sc_law : FnScope ["_law_script", "_law_drawn", "_law_total", "_law_product", "_law_due", "_law_k", "_law_one", "_law_other"] ["_law_script"] (defScope s_law) := ⟨rfl, rfl, rfl, by decide +kernel, rfl, by decide +kernel, by decide +kernel⟩
structure Tx (K : PySem.W.Frag) (mg : Str → Option Value) where
  common : Df K mg "common" s_common ["one", "other"]
  plus : Df K mg "plus" s_plus ["one", "other"]
  times : Df K mg "times" s_times ["one", "other"]
  turned_about : Df K mg "turned_about" s_turned_about ["one"]
  less : Df K mg "less" s_less ["one", "other"]
  l_draws : Df K mg "_law_draws" s_l_draws ["_law_script"]
  l_next : Df K mg "_law_next" s_l_next ["_law_drawn", "_law_many"]
  l_whole : Df K mg "_law_whole" s_l_whole ["_law_thing"]
  l_lowest : Df K mg "_law_lowest" s_l_lowest ["_law_top", "_law_bottom"]
  l_plus : Df K mg "_law_plus" s_l_plus ["_law_one", "_law_other"]
  l_times : Df K mg "_law_times" s_l_times ["_law_one", "_law_other"]
  l_less : Df K mg "_law_less" s_l_less ["_law_one", "_law_other"]
  l_is_fraction : Df K mg "_law_is_fraction" s_l_is_fraction ["_law_thing"]
  l_fraction : Df K mg "_law_fraction" s_l_fraction ["_law_drawn"]
  l_second : Df K mg "_law_second" s_l_second ["_law_drawn", "_law_one"]
  l_is : Df K mg "_law_is" s_l_is ["_law_found", "_law_due"]
  l_right : Df K mg "_law_right" s_l_right ["_law_one", "_law_other"]
  law : Df K mg "law" s_law ["_law_script"]
  m_abs : mg "abs" = none
  m_bool : mg "bool" = none
  m_int : mg "int" = none
  m_isinstance : mg "isinstance" = none
  m_len : mg "len" = none
  m_list : mg "list" = none
  m_range : mg "range" = none
  m_tuple : mg "tuple" = none
end B
namespace B
open PySem PySem.Spec PyProof.Rows L2

/-- common(a, b) of numbers from 0 on -/
def sp_common (_ : PySem.W.Frag) : Sp := fun vs H Q _ => ∃ (a b : Nat), vs = [.int a, .int b] ∧ Q (.int (Nat.gcd a b : Nat)) H

section
variable {P : Program} {w : World} {K : PySem.W.Frag} {mg : Str → Option Value} {base : Heap}
theorem ok_common (T : Tx K mg) : FnOk P w K mg base CX0 1 T.common.f T.common.fd ["one", "other"] (sp_common K) := by
  refine T.common.F.ok sc_common (fun vs H Q E h => ?_) (fun cdv A outer s H vs Q E hr h => ?_)
  · obtain ⟨a, b, rfl, q⟩ := h
    rfl
  · obtain ⟨a, b, rfl, q⟩ := h
    refine ⟨_, (pss_cons (ps_while PassesOwn.never (pt_cmpR op_gt (pv 1) pe_int (nomark _)) (pss_one (ps_par (i := 0) (j := 1) (by rfl) sc_common.nd rfl rfl (by decide) rfl rfl (pa_cons (pv 1) (pa_cons (pe_op op_mod (pv 0) (pv 1)) pa_nil)) (by rfl))))
      (pss_one (ps_ret (pv 0)))), ?_⟩
    refine ⟨fun m σ H' => ∃ x y : Nat, σ = [some (.int x), some (.int y)] ∧ Nat.gcd x y = Nat.gcd a b ∧ H' = H ∧ m = y, ⟨b, a, b, rfl, rfl, rfl, rfl⟩, fun m σ H' hW => ?_⟩
    obtain ⟨x, y, rfl, eg, rfl, rfl⟩ := hW
    refine ⟨_, rfl, _, _, rfl, rfl, _, rfl, ite2 (fun e => ?_) (fun e => ?_)⟩
    · have hy : 0 < m := by
        have := of_decide_eq_true e
        omega
      refine ⟨fun σ' H2 => σ' = [some (.int m), some (.int (x % m : Nat))] ∧ H2 = H', fun σ' H2 hN => ?_, ?_⟩
      · obtain ⟨rfl, rfl⟩ := hN
        exact ⟨x % m, Nat.mod_lt _ hy, m, x % m, rfl, by rw [← eg, Nat.gcd_comm m, ← Nat.gcd_rec, Nat.gcd_comm], rfl, rfl⟩
      · refine ⟨_, rfl, _, rfl, _, rfl, _, _, rfl, rfl, (by show (0 : Int) < m; omega), _, _, rfl, ?_⟩
        exact ⟨rfl, rfl⟩
    · have hy : m = 0 := by
        have : ¬ (0 : Int) < m := fun z => e (decide_eq_true z)
        omega
      subst hy
      refine ⟨_, rfl, ?_⟩
      rw [Nat.gcd_zero_right] at eg
      rw [eg]
      exact q
end
end B

namespace B
open PySem PySem.Spec PyProof.Rows L2

def sp_turned_about (K : PySem.W.Frag) : Sp := fun vs H Q _ => ∃ (a : Addr) (t : Int) (b : Nat), vs = [.ref a] ∧ SqT K H a [.int t, .int b] ∧ ∀ p, H p = none → Q (.ref p) (upd H p (.tup [.int (-t), .int b]))

section
variable {P : Program} {w : World} {K : PySem.W.Frag} {mg : Str → Option Value} {base : Heap}
theorem ok_turned_about (T : Tx K mg) : FnOk P w K mg base CX0 1 T.turned_about.f T.turned_about.fd ["one"] (sp_turned_about K) := by
  refine T.turned_about.F.ok sc_turned_about (fun vs H Q E h => ?_) (fun cdv A outer s H vs Q E hr h => ?_)
  · obtain ⟨a, t, b, rfl, hA, q⟩ := h
    rfl
  · obtain ⟨a, t, b, rfl, hA, q⟩ := h
    refine ⟨_, (pss_one (ps_ret (pe_tup (pa_cons (pe_un un_neg (pe_ix ix_tup (pv 0) pe_int (fun _ _ => rfl))) (pa_cons (pe_ix ix_tup (pv 0) pe_int (fun _ _ => rfl)) pa_nil))))), ?_⟩
    exact ⟨_, rfl, a, _, 0, .int t, rfl, rfl, hA, rfl, _, rfl, _, rfl, a, _, 1, .int b, rfl, rfl, hA, rfl, by show 2 ≤ sizeLine; decide, q⟩
end
end B

namespace B
open PySem PySem.Spec PyProof.Rows L2

def sp_less (K : PySem.W.Frag) : Sp := fun vs H Q _ => ∃ (a c : Addr) (t1 t2 : Int) (b1 b2 : Nat), vs = [.ref a, .ref c] ∧ SqT K H a [.int t1, .int b1] ∧ SqT K H c [.int t2, .int b2] ∧ Fz t1 b1 4000 ∧ Fz t2 b2 4000 ∧ Q (.bl (decide (t1 * (b2 : Int) < t2 * (b1 : Int)))) H

section
variable {P : Program} {w : World} {K : PySem.W.Frag} {mg : Str → Option Value} {base : Heap}
theorem ok_less (T : Tx K mg) : FnOk P w K mg base CX0 1 T.less.f T.less.fd ["one", "other"] (sp_less K) := by
  refine T.less.F.ok sc_less (fun vs H Q E h => ?_) (fun cdv A outer s H vs Q E hr h => ?_)
  · obtain ⟨a, c, t1, t2, b1, b2, rfl, hA, hC, z1, z2, q⟩ := h
    rfl
  · obtain ⟨a, c, t1, t2, b1, b2, rfl, hA, hC, z1, z2, q⟩ := h
    refine ⟨_, (pss_one (ps_ret (pe_cmpR op_lt (pe_op op_mulW (pe_ix ix_tup (pv 0) pe_int (fun _ _ => rfl)) (pe_ix ix_tup (pv 1) pe_int (fun _ _ => rfl))) (pe_op op_mulW (pe_ix ix_tup (pv 1) pe_int (fun _ _ => rfl)) (pe_ix ix_tup (pv 0) pe_int (fun _ _ => rfl))) (nomark _)))), ?_⟩
    have W : ∀ {x : Nat}, x < 2 ^ 4000 → (x : Int).natAbs < 2 ^ 4000 := fun h => by
      rw [Int.natAbs_natCast]
      exact h
    exact ⟨_, rfl, a, _, 0, .int t1, rfl, rfl, hA, rfl, _, rfl, c, _, 1, .int b2, rfl, rfl, hC, rfl, _, _, rfl, rfl, wide_mul z1.t (W z2.b) (by decide) (by decide) (by decide), _, rfl, c, _, 0, .int t2, rfl, rfl, hC, rfl, _, rfl, a, _, 1, .int b1, rfl, rfl, hA, rfl, _, _, rfl, rfl, wide_mul z2.t (W z1.b) (by decide) (by decide) (by decide), _, _, rfl, rfl, q⟩
end
end B

namespace B
open PySem PySem.Spec PyProof.Rows L2
theorem cut63 {xs : List V} (h : xs.length ≤ 63) : cutV xs none (some 63) = xs := by
  unfold cutV
  rw [HT.sIx_none, show HT.sIx xs.length xs.length (some 63) = min 63 xs.length from HT.sIx_nat xs.length xs.length 63]
  rw [List.drop_zero, List.take_of_length_le (by omega)]

def sp_l_draws (K : PySem.W.Frag) : Sp := fun vs H Q _ => ∃ (a : Addr) (ns : List Int), vs = [.ref a] ∧ SqL K H a (ns.map V.int) ∧ ns.length ≤ 63 ∧ ∀ (H' : Hp) (d : Dr), Drw H' d 900000 → Same H H' → H d.dr = none → H d.rs = none → Q (.ref d.dr) H'

section
variable {P : Program} {w : World} {K : PySem.W.Frag} {mg : Str → Option Value} {base : Heap}
theorem ok_l_draws (T : Tx K mg) : FnOk P w K mg base CX0 1 T.l_draws.f T.l_draws.fd ["_law_script"] (sp_l_draws K) := by
  refine T.l_draws.F.ok sc_l_draws (fun vs H Q E h => ?_) (fun cdv A outer s H vs Q E hr h => ?_)
  · obtain ⟨a, ns, rfl, hS, hlen, q⟩ := h
    rfl
  · obtain ⟨a, ns, rfl, hS, hlen, q⟩ := h
    refine ⟨_, (pss_cons (ps_set (i := 1) sc_l_draws.nd rfl (.inl rfl) (pe_op op_cat (pe_callTy call_list_of (by rfl) T.m_list (by decide +kernel) (pa_cons (pe_slice sl_list (pv 0) po_none (po_some pe_int)) pa_nil)) (pe_op op_rep (pe_lst (pa_cons pe_int pa_nil)) (pe_callTy call_int1 (by rfl) T.m_int (by decide +kernel) (pa_cons (pe_cmpR op_eq (pe_callB call_len_seq (by rfl) T.m_len (by decide +kernel) (pa_cons (pv 0) pa_nil)) pe_int (nomark _)) pa_nil)))))
      (pss_one (ps_ret (pe_lst (pa_cons (pv 1) (pa_cons pe_int (pa_cons (pe_lc (own := [("_law_cell", 2)]) (g := gName 2) (tt := tYes) rfl sc_l_draws.nd (pi_list (pv 1)) (blkOk_by (own := [("_law_cell", 2)]) (N := N_l_draws) (sc := defScope s_l_draws) (by decide +kernel)) (fun _ _ _ _ _ => (pg_name (i := 2) sc_l_draws.nd rfl (.inl rfl))) (fun _ _ _ _ _ => pts_nil) (fun _ _ _ _ _ => (pe_op op_mul (pv 2) (pe_callTy (T := "int") call_int1 (by rfl) T.m_int (by decide +kernel) (pa_cons (pe_cmpR op_ge (pv 2) (pe_op op_pow pe_int pe_int) (nomark _)) pa_nil))))) pa_nil))))))), ?_⟩
    have lns : (ns.map V.int).length = ns.length := List.length_map ..
    refine ⟨_, rfl, 63, rfl, a, _, rfl, hS, fun p1 np1 => ?_⟩
    have s1 := same_upd (o := .lst (cutV (ns.map V.int) none (some 63))) np1
    refine ⟨p1, _, rfl, .inl sql_upd, fun l nl => ?_⟩
    rw [cut63 (by rw [lns]; exact hlen)] at s1 nl ⊢
    have s2 := s1.trans (same_upd (o := .lst (ns.map V.int)) nl)
    refine ⟨by decide, fun z nz => ?_⟩
    have s3 := s2.trans (same_upd (o := .lst [.int 0]) nz)
    refine ⟨_, rfl, a, _, rfl, .inl (s3.seq hS), rfl, .inr ⟨_, rfl, ?_⟩⟩
    have hl3 : (upd (upd (upd H p1 (.lst (ns.map V.int))) l (.lst (ns.map V.int))) z (.lst [.int 0])) l = some (.lst (ns.map V.int)) := by
      rw [upd_ne (ne_of_none upd_same nz), upd_same]
    obtain ⟨k, hk, k2⟩ : ∃ k : Nat, (if decide (V.int ((ns.map V.int).length : Nat) = V.int 0) = true then (1 : Int) else 0) = (k : Int) ∧ ((ns = [] ∧ k = 1) ∨ (ns ≠ [] ∧ k = 0)) := by
      cases ns with
      | nil => exact ⟨1, rfl, .inl ⟨rfl, rfl⟩⟩
      | cons x r =>
        refine ⟨0, ?_, .inr ⟨by simp, rfl⟩⟩
        rw [if_neg]
        · rfl
        · intro e
          have e2 := V.int.inj (of_decide_eq_true e)
          rw [List.length_map, List.length_cons] at e2
          omega
    refine ⟨z, _, _, rfl, rfl, upd_same, ?_, ?_, ?_, fun r nr => ?_⟩
    · rw [hk]
      omega
    · rw [hk]
      omega
    · rw [hk, Int.toNat_natCast]
      show 1 * k ≤ sizeLine
      exact Nat.le_trans (show 1 * k ≤ 1 by omega) (by decide)
    rw [hk, Int.toNat_natCast]
    have s4 := s3.trans (same_upd (o := .lst (List.replicate k [V.int 0]).flatten) nr)
    obtain ⟨cs, ecs, c0, c63⟩ : ∃ cs : List Int, ns.map V.int ++ (List.replicate k [V.int 0]).flatten = cs.map V.int ∧ 0 < cs.length ∧ cs.length ≤ 63 := by
      rcases k2 with ⟨rfl, rfl⟩ | ⟨h, rfl⟩
      · exact ⟨[0], rfl, by decide, by decide⟩
      · refine ⟨ns, by simp, ?_, hlen⟩
        cases ns with
        | nil => exact absurd rfl h
        | cons x r => rw [List.length_cons]; omega
    refine ⟨l, r, ns.map V.int, _, rfl, rfl, ?_, upd_same, ?_, fun c nc => ?_⟩
    · rw [upd_ne (ne_of_none hl3 nr)]
      exact hl3
    · have e := congrArg List.length ecs
      rw [List.length_append, List.length_map] at e
      rw [List.length_map, e, List.length_map]
      exact Nat.le_trans c63 (by decide)
    rw [ecs]
    have s5 := s4.trans (same_upd (o := .lst (cs.map V.int)) nc)
    have hc5 := upd_same (H := upd (upd (upd (upd H p1 (.lst (ns.map V.int))) l (.lst (ns.map V.int))) z (.lst [.int 0])) r (.lst (List.replicate k [V.int 0]).flatten)) (a := c) (o := .lst (cs.map V.int))
    generalize upd (upd (upd (upd (upd H p1 (.lst (ns.map V.int))) l (.lst (ns.map V.int))) z (.lst [.int 0])) r (.lst (List.replicate k [V.int 0]).flatten)) c (.lst (cs.map V.int)) = H5 at s5 hc5 ⊢
    refine ⟨_, rfl, _, rfl, c, rfl, ⟨_, .inl (.inl hc5)⟩, fun D nD => ?_⟩
    refine lc_list (K := K) (a := c) (xs := cs.map V.int) (fun i H' => ∃ acc : List Int, H' D = some (.lst (acc.map V.int)) ∧ acc.length = i ∧ i ≤ cs.length ∧ Same H5 H') ⟨[], upd_same, rfl, by omega, same_upd nD⟩ (fun i H' _ ⟨_, _, _, _, e⟩ => .inl (.inl (e _ _ hc5))) ?_ ?_
    · rintro i x H' hx ⟨acc, h1, h2, h3, h4⟩
      have hi : i < cs.length := by
        have := (List.getElem?_eq_some_iff.mp hx).1
        rw [List.length_map] at this
        exact this
      obtain ⟨y, hy, rfl⟩ : ∃ y, cs[i]? = some y ∧ x = V.int y := by
        rw [List.getElem?_map] at hx
        cases e : cs[i]? with
        | none => rw [e] at hx; cases hx
        | some y => rw [e] at hx; exact ⟨y, rfl, (Option.some.inj hx).symm⟩
      refine ⟨rfl, lc_yes ?_⟩
      refine ⟨_, rfl, _, rfl, _, _, rfl, rfl, ⟨by decide, by decide, by decide⟩, _, _, rfl, rfl, .inr ⟨_, rfl, ?_⟩⟩
      refine ⟨_, _, rfl, rfl, .inr ?_, _, h1, ?_, ?_⟩
      · constructor
        · split <;> decide
        · split <;> decide
      · rw [List.length_map]
        exact Nat.lt_of_le_of_lt (show acc.length ≤ 63 by omega) (by decide)
      · refine ⟨acc ++ [_], by rw [upd_same, List.map_append]; rfl, by rw [List.length_append, h2]; rfl, hi, fun b o e => ?_⟩
        rw [upd_ne (ne_of_none e nD)]
        exact h4 b o e
    · rintro H' ⟨acc, h1, h2, h3, h4⟩
      refine ⟨by show 3 ≤ sizeLine; decide, fun p np => ?_⟩
      rw [List.length_map] at h2
      refine q _ ⟨p, c, D⟩ ⟨⟨cs, acc, 0, upd_same, ?_, ?_, h2.symm, c0, c63, by decide⟩, ?_⟩ ?_ ?_ ?_
      · rw [upd_ne (ne_of_none (h4 _ _ hc5) np)]
        exact h4 _ _ hc5
      · rw [upd_ne (ne_of_none h1 np)]
        exact h1
      · exact ne_of_none hc5 nD
      · exact (s5.trans h4).trans (same_upd np)
      · exact (s5.trans h4).free np
      · exact s5.free nD
end
end B

namespace B
open PySem PySem.Spec PyProof.Rows L2

def sp_l_next (_ : PySem.W.Frag) : Sp := fun vs H Q _ => ∃ (d : Dr) (b : Nat) (many : Int), vs = [.ref d.dr, .int many] ∧ 0 < many ∧ many.natAbs < 2 ^ 64 ∧ Drw H d (b + 1) ∧ ∀ (H' : Hp) (r : Int), 0 ≤ r → r < many → Drw H' d b → Kp d H H' → Q (.int r) H'

section
variable {P : Program} {w : World} {K : PySem.W.Frag} {mg : Str → Option Value} {base : Heap}
theorem ok_l_next (T : Tx K mg) : FnOk P w K mg base CX0 1 T.l_next.f T.l_next.fd ["_law_drawn", "_law_many"] (sp_l_next K) := by
  refine T.l_next.F.ok sc_l_next (fun vs H Q E h => ?_) (fun cdv A outer s H vs Q E hr h => ?_)
  · obtain ⟨d, b, many, rfl, hm0, hm1, ⟨⟨cs, rr, c, h1, h2, h3, hl, hp, h63, hb⟩, ne⟩, q⟩ := h
    rfl
  · obtain ⟨d, b, many, rfl, hm0, hm1, ⟨⟨cs, rr, c, h1, h2, h3, hl, hp, h63, hb⟩, ne⟩, q⟩ := h
    refine ⟨_, (pss_cons (ps_asg (pv 0) (pg_lst rfl (pgs_cons (pg_name (i := 2) sc_l_next.nd rfl (.inl rfl)) (pgs_cons (pg_name (i := 3) sc_l_next.nd rfl (.inl rfl)) (pgs_cons (pg_name (i := 4) sc_l_next.nd rfl (.inl rfl)) pgs_nil)))))
      (pss_cons (ps_set (i := 5) sc_l_next.nd rfl (.inl rfl) (pe_op op_mod (pv 3) (pe_callB call_len_seq (by rfl) T.m_len (by decide +kernel) (pa_cons (pv 2) pa_nil))))
      (pss_cons (ps_asg (pe_op op_add (pv 3) pe_int) (pg_sub (pv 0) pe_int set_list))
      (pss_cons (ps_if (pt_cmpR op_gt (pe_ix ix_list (pv 4) (pv 5) (fun _ _ => rfl)) pe_int (nomark _)) (pss_cons (ps_set (i := 6) sc_l_next.nd rfl (.inl rfl) (pe_op op_mod (pe_ix ix_list (pv 4) (pv 5) (fun _ _ => rfl)) (pv 1)))
      (pss_cons (ps_asg (pe_op op_fdivW (pe_ix ix_list (pv 4) (pv 5) (fun _ _ => rfl)) (pv 1)) (pg_sub (pv 4) (pv 5) set_list))
      (pss_one (ps_ret (pv 6))))) pss_nil)
      (pss_cons (ps_set (i := 7) sc_l_next.nd rfl (.inl rfl) (pe_lst (pa_cons pe_int (pa_cons pe_int (pa_cons pe_int (pa_cons pe_int (pa_cons pe_int (pa_cons pe_int (pa_cons pe_int pa_nil)))))))))
      (pss_cons (ps_set (i := 8) sc_l_next.nd rfl (.inl rfl) (pe_op op_add (pe_op op_add (pe_op op_mod (pe_ix ix_list (pv 2) (pv 5) (fun _ _ => rfl)) pe_int) (pe_op op_mul pe_int (pv 3))) pe_int))
      (pss_cons (ps_set (i := 8) sc_l_next.nd rfl (.inl rfl) (pe_op op_mod (pe_op op_pow (pv 8) pe_int) (pe_ix ix_list (pv 7) (pe_op op_mod (pv 3) pe_int) (fun _ _ => rfl))))
      (pss_cons (ps_set (i := 9) sc_l_next.nd rfl (.inl rfl) (pe_op op_mod (pe_op op_pow (pe_op op_add (pv 8) (pe_op op_mul pe_int (pv 3))) pe_int) pe_int))
      (pss_one (ps_ret (pe_op op_mod (pe_op op_mod (pe_op op_add (pe_op op_mul (pv 9) pe_int) (pv 8)) pe_int) (pv 1)))))))))))), ?_⟩
    have n1 : d.dr ≠ d.cl := ne_of h1 h2 (by intro z; cases cs with | nil => cases z | cons x r => cases z)
    have n2 : d.dr ≠ d.rs := ne_of h1 h3 (by intro z; cases rr with | nil => cases z | cons x r => cases z)
    have lc : (cs.map V.int).length = cs.length := List.length_map ..
    have lr : (rr.map V.int).length = cs.length := by rw [List.length_map, hl]
    have hj : c % (cs.map V.int).length < cs.length := by
      rw [lc]
      exact Nat.mod_lt _ hp
    obtain ⟨x, hx⟩ : ∃ x, cs[c % (cs.map V.int).length]? = some x := ⟨_, List.getElem?_eq_getElem hj⟩
    obtain ⟨y, hy⟩ : ∃ y, rr[c % (cs.map V.int).length]? = some y := ⟨_, List.getElem?_eq_getElem (by rw [← hl]; exact hj)⟩
    refine ⟨_, rfl, d.dr, _, rfl, .inl (.inl h1), rfl, _, _, rfl, _, _, rfl, _, _, rfl, rfl, ?_⟩
    refine ⟨_, rfl, _, rfl, d.cl, _, rfl, .inl (.inl (.inl h2)), _, _, rfl, rfl, (by show (0 : Int) < ((cs.map V.int).length : Int); omega), ?_⟩
    refine ⟨_, rfl, _, _, rfl, rfl, _, rfl, d.dr, _, 1, 1, rfl, rfl, h1, rfl, ?_⟩
    have H1r : (upd H d.dr (.lst ([.ref d.cl, .int c, .ref d.rs].set 1 (.int ((c : Int) + 1))))) d.rs = some (.lst (rr.map V.int)) := by rw [upd_ne n2.symm]; exact h3
    have H1c : (upd H d.dr (.lst ([.ref d.cl, .int c, .ref d.rs].set 1 (.int ((c : Int) + 1))))) d.cl = some (.lst (cs.map V.int)) := by rw [upd_ne n1.symm]; exact h2
    have ary : atI (rr.map V.int) ((c % (cs.map V.int).length : Nat) : Int) = some (.int y) := at_nat (by rw [List.getElem?_map, hy]; rfl)
    have arx : atI (cs.map V.int) ((c % (cs.map V.int).length : Nat) : Int) = some (.int x) := at_nat (by rw [List.getElem?_map, hx]; rfl)
    refine ⟨_, rfl, _, rfl, d.rs, _, ((c % (cs.map V.int).length : Nat) : Int), _, rfl, rfl, .inl (.inl H1r), ary, _, _, rfl, rfl, _, rfl, ite2 (fun e => ?_) (fun e => ?_)⟩
    · refine ⟨_, rfl, _, rfl, d.rs, _, ((c % (cs.map V.int).length : Nat) : Int), _, rfl, rfl, .inl (.inl H1r), ary, _, rfl, _, _, rfl, rfl, hm0, ?_⟩
      refine ⟨_, rfl, _, rfl, d.rs, _, ((c % (cs.map V.int).length : Nat) : Int), _, rfl, rfl, .inl (.inl H1r), ary, _, rfl, _, _, rfl, rfl, wide_div hm0 hm1 (by decide) (by decide), _, rfl, _, rfl, d.rs, _, ((c % (cs.map V.int).length : Nat) : Int), c % (cs.map V.int).length, rfl, rfl, H1r, ?_, ?_⟩
      · unfold ixN
        rw [if_pos (by omega), if_pos (by rw [lr]; omega)]
        rfl
      refine ⟨_, rfl, ?_⟩
      refine q _ _ (Int.emod_nonneg _ (by omega)) (Int.emod_lt_of_pos _ hm0) ⟨⟨cs, rr.set (c % (cs.map V.int).length) (y / many), c + 1, ?_, ?_, ?_, ?_, hp, h63, by omega⟩, ne⟩ ?_
      · rw [upd_ne n2, upd_same]
        rfl
      · rw [upd_ne ne]
        exact H1c
      · rw [upd_same, List.map_set]
      · rw [List.length_set]
        exact hl
      · intro p o hp1 a1 a2
        rw [upd_ne a2, upd_ne a1]
        exact hp1
    · refine ⟨by decide, fun pr npr => ?_⟩
      have npc : d.cl ≠ pr := ne_of_none H1c npr
      refine ⟨_, rfl, _, rfl, d.cl, _, ((c % (cs.map V.int).length : Nat) : Int), _, rfl, rfl, .inl (.inl (by rw [upd_ne npc]; exact H1c)), arx, _, _, rfl, rfl, (by show (0 : Int) < 2147483647; decide), _, rfl, _, _, rfl, rfl, .inl ⟨by decide, by decide⟩, _, _, rfl, rfl, _, _, rfl, rfl, ?_⟩
      have c7 : c % 7 < 7 := Nat.mod_lt _ (by decide)
      obtain ⟨pm, hpm, pm0, pm1⟩ : ∃ pm : Int, ([.int 2147483629, .int 2147483587, .int 2147483579, .int 2147483563, .int 2147483549, .int 2147483543, .int 2147483497] : List V)[c % 7]? = some (.int pm) ∧ 0 < pm ∧ pm < 2147483648 := by
        generalize c % 7 = z at c7
        match z, c7 with
        | 0, _ => exact ⟨_, rfl, by decide, by decide⟩
        | 1, _ => exact ⟨_, rfl, by decide, by decide⟩
        | 2, _ => exact ⟨_, rfl, by decide, by decide⟩
        | 3, _ => exact ⟨_, rfl, by decide, by decide⟩
        | 4, _ => exact ⟨_, rfl, by decide, by decide⟩
        | 5, _ => exact ⟨_, rfl, by decide, by decide⟩
        | 6, _ => exact ⟨_, rfl, by decide, by decide⟩
      refine ⟨_, rfl, _, _, rfl, rfl, ⟨by decide, by decide, by omega⟩, _, rfl, _, rfl, _, _, rfl, rfl, (by show (0 : Int) < 7; decide), pr, _, ((c % 7 : Nat) : Int), _, rfl, rfl, .inl (.inl upd_same), at_nat hpm, _, _, rfl, rfl, pm0, ?_⟩
      have m2 := Int.emod_nonneg ((x % 2147483647 + 48271 * (c : Int) + 104729) ^ (3 : Int).toNat) (show pm ≠ 0 by omega)
      have m2' := Int.emod_lt_of_pos ((x % 2147483647 + 48271 * (c : Int) + 104729) ^ (3 : Int).toNat) pm0
      refine ⟨_, rfl, _, rfl, _, _, rfl, rfl, .inl ⟨by decide, by decide⟩, _, _, rfl, rfl, _, _, rfl, rfl, ⟨by decide, by decide, by omega⟩, _, _, rfl, rfl, (by show (0 : Int) < 2147483477; decide), ?_⟩
      refine ⟨_, rfl, _, _, rfl, rfl, .inr ⟨by decide, by decide⟩, _, rfl, _, _, rfl, rfl, _, _, rfl, rfl, (by show (0 : Int) < 4611686018427387847; decide), _, rfl, _, _, rfl, rfl, hm0, ?_⟩
      refine q _ _ (Int.emod_nonneg _ (by omega)) (Int.emod_lt_of_pos _ hm0) ⟨⟨cs, rr, c + 1, ?_, ?_, ?_, hl, hp, h63, by omega⟩, ne⟩ ?_
      · rw [upd_ne (ne_of_none (upd_same (H := H)) npr), upd_same]
        rfl
      · rw [upd_ne npc]
        exact H1c
      · rw [upd_ne (ne_of_none H1r npr)]
        exact H1r
      · intro p o hp1 a1 a2
        have e1 : (upd H d.dr (.lst ([.ref d.cl, .int c, .ref d.rs].set 1 (.int ((c : Int) + 1))))) p = some o := by rw [upd_ne a1]; exact hp1
        rw [upd_ne (ne_of_none e1 npr)]
        exact e1
end
end B

namespace B
open PySem PySem.Spec PyProof.Rows L2

def sp_l_whole (_ : PySem.W.Frag) : Sp := fun vs H Q _ => ∃ (i : Int), vs = [.int i] ∧ Q (.bl true) H

section
variable {P : Program} {w : World} {K : PySem.W.Frag} {mg : Str → Option Value} {base : Heap}
theorem ok_l_whole (T : Tx K mg) : FnOk P w K mg base CX0 1 T.l_whole.f T.l_whole.fd ["_law_thing"] (sp_l_whole K) := by
  refine T.l_whole.F.ok sc_l_whole (fun vs H Q E h => ?_) (fun cdv A outer s H vs Q E hr h => ?_)
  · obtain ⟨i, rfl, q⟩ := h
    rfl
  · obtain ⟨i, rfl, q⟩ := h
    refine ⟨_, (pss_one (ps_ret (pe_and (pe_callB call_isi (by rfl) T.m_isinstance (by decide +kernel) (pa_cons (pv 0) (pa_cons (pe_bltn (v := .ty "int") (u := .type "int") (by rfl) T.m_int (by decide +kernel) rfl) pa_nil))) (pe_one (pe_not (pe_callB call_isi (by rfl) T.m_isinstance (by decide +kernel) (pa_cons (pv 0) (pa_cons (pe_bltn (v := .ty "bool") (u := .type "bool") (by rfl) T.m_bool (by decide +kernel) rfl) pa_nil)))))))), ?_⟩
    refine ⟨_, rfl, _, .ty "int", .type "int", .type "int", true, rfl, .ty _, .base (.int i), kit_ty (by decide +kernel), true, rfl, iteT ?_⟩
    exact ⟨_, rfl, _, .ty "bool", .type "int", .type "bool", false, rfl, .ty _, .base (.int i), kit_ty (by decide +kernel), false, rfl, q⟩
end
end B

namespace B
open PySem PySem.Spec PyProof.Rows L2

def sp_l_lowest (_ : PySem.W.Frag) : Sp := fun vs H Q _ => ∃ (t : Int) (b : Nat), vs = [.int t, .int b] ∧ 0 < b ∧ b < 2 ^ 9000 ∧ ∀ p, H p = none → Q (.ref p) (upd H p (.tup [.int (lowT t b), .int (lowBn t b)]))

section
variable {P : Program} {w : World} {K : PySem.W.Frag} {mg : Str → Option Value} {base : Heap}
theorem ok_l_lowest (T : Tx K mg) : FnOk P w K mg base CX0 1 T.l_lowest.f T.l_lowest.fd ["_law_top", "_law_bottom"] (sp_l_lowest K) := by
  refine T.l_lowest.F.ok sc_l_lowest (fun vs H Q E h => ?_) (fun cdv A outer s H vs Q E hr h => ?_)
  · obtain ⟨t, b, rfl, hb, hz, q⟩ := h
    rfl
  · obtain ⟨t, b, rfl, hb, hz, q⟩ := h
    refine ⟨_, (pss_cons (ps_par (i := 2) (j := 3) (by rfl) sc_l_lowest.nd rfl rfl (by decide) rfl rfl (pa_cons (pe_callB call_abs (by rfl) T.m_abs (by decide +kernel) (pa_cons (pv 0) pa_nil)) (pa_cons (pv 1) pa_nil)) (by rfl))
      (pss_cons (ps_while PassesOwn.never (pt_cmpR op_gt (pv 3) pe_int (nomark _)) (pss_one (ps_par (i := 2) (j := 3) (by rfl) sc_l_lowest.nd rfl rfl (by decide) rfl rfl (pa_cons (pv 3) (pa_cons (pe_op op_mod (pv 2) (pv 3)) pa_nil)) (by rfl))))
      (pss_one (ps_ret (pe_tup (pa_cons (pe_op op_fdivW (pv 0) (pv 2)) (pa_cons (pe_op op_fdivW (pv 1) (pv 2)) pa_nil))))))), ?_⟩
    have g0 : 0 < Nat.gcd t.natAbs b := Nat.gcd_pos_of_pos_right _ hb
    have gz : ((Nat.gcd t.natAbs b : Nat) : Int).natAbs < 2 ^ 9000 := by
      rw [Int.natAbs_natCast]
      exact Nat.lt_of_le_of_lt (Nat.gcd_le_right _ hb) hz
    have q' : ∀ p, H p = none → Q (.ref p) (upd H p (.tup [.int (t / ((Nat.gcd t.natAbs b : Nat) : Int)), .int ((b : Int) / ((Nat.gcd t.natAbs b : Nat) : Int))])) := by
      rw [← lowT_nat, ← lowB_nat, lowBn_eq hb]
      exact q
    refine ⟨_, rfl, t, rfl, _, rfl, _, _, rfl, ?_⟩
    refine ⟨fun m σ H' => ∃ x y : Nat, σ = [some (.int t), some (.int b), some (.int x), some (.int y)] ∧ Nat.gcd x y = Nat.gcd t.natAbs b ∧ H' = H ∧ m = y, ⟨b, t.natAbs, b, ?_, rfl, rfl, rfl⟩, fun m σ H' hW => ?_⟩
    · rw [abs_nat]
      rfl
    obtain ⟨x, y, rfl, eg, rfl, rfl⟩ := hW
    refine ⟨_, rfl, _, _, rfl, rfl, _, rfl, ite2 (fun e => ?_) (fun e => ?_)⟩
    · have hy : 0 < m := by
        have := of_decide_eq_true e
        omega
      refine ⟨fun σ' H2 => σ' = [some (.int t), some (.int b), some (.int m), some (.int (x % m : Nat))] ∧ H2 = H', fun σ' H2 hN => ?_, ?_⟩
      · obtain ⟨rfl, rfl⟩ := hN
        exact ⟨x % m, Nat.mod_lt _ hy, m, x % m, rfl, by rw [← eg, Nat.gcd_comm m, ← Nat.gcd_rec, Nat.gcd_comm], rfl, rfl⟩
      · refine ⟨_, rfl, _, rfl, _, rfl, _, _, rfl, rfl, (by show (0 : Int) < m; omega), _, _, rfl, ?_⟩
        exact ⟨rfl, rfl⟩
    · have hy : m = 0 := by
        have : ¬ (0 : Int) < m := fun z => e (decide_eq_true z)
        omega
      subst hy
      rw [Nat.gcd_zero_right] at eg
      subst eg
      exact ⟨_, rfl, _, rfl, _, _, rfl, rfl, wide_div (by omega) gz (by decide) (by decide), _, rfl, _, rfl, _, _, rfl, rfl, wide_div (by omega) gz (by decide) (by decide), by show 2 ≤ sizeLine; decide, q'⟩
end
end B

namespace B
open PySem PySem.Spec PyProof.Rows L2

def sp_l_less (K : PySem.W.Frag) : Sp := fun vs H Q _ => ∃ (a c : Addr) (t1 t2 : Int) (b1 b2 : Nat), vs = [.ref a, .ref c] ∧ SqT K H a [.int t1, .int b1] ∧ SqT K H c [.int t2, .int b2] ∧ Fz t1 b1 4000 ∧ Fz t2 b2 4000 ∧ Q (.bl (decide (t1 * (b2 : Int) < t2 * (b1 : Int)))) H

section
variable {P : Program} {w : World} {K : PySem.W.Frag} {mg : Str → Option Value} {base : Heap}
theorem ok_l_less (T : Tx K mg) : FnOk P w K mg base CX0 1 T.l_less.f T.l_less.fd ["_law_one", "_law_other"] (sp_l_less K) := by
  refine T.l_less.F.ok sc_l_less (fun vs H Q E h => ?_) (fun cdv A outer s H vs Q E hr h => ?_)
  · obtain ⟨a, c, t1, t2, b1, b2, rfl, hA, hC, z1, z2, q⟩ := h
    rfl
  · obtain ⟨a, c, t1, t2, b1, b2, rfl, hA, hC, z1, z2, q⟩ := h
    refine ⟨_, (pss_one (ps_ret (pe_cmpR op_lt (pe_op op_mulW (pe_ix ix_tup (pv 0) pe_int (fun _ _ => rfl)) (pe_ix ix_tup (pv 1) pe_int (fun _ _ => rfl))) (pe_op op_mulW (pe_ix ix_tup (pv 1) pe_int (fun _ _ => rfl)) (pe_ix ix_tup (pv 0) pe_int (fun _ _ => rfl))) (nomark _)))), ?_⟩
    have W : ∀ {x : Nat}, x < 2 ^ 4000 → (x : Int).natAbs < 2 ^ 4000 := fun h => by
      rw [Int.natAbs_natCast]
      exact h
    exact ⟨_, rfl, a, _, 0, .int t1, rfl, rfl, hA, rfl, _, rfl, c, _, 1, .int b2, rfl, rfl, hC, rfl, _, _, rfl, rfl, wide_mul z1.t (W z2.b) (by decide) (by decide) (by decide), _, rfl, c, _, 0, .int t2, rfl, rfl, hC, rfl, _, rfl, a, _, 1, .int b1, rfl, rfl, hA, rfl, _, _, rfl, rfl, wide_mul z2.t (W z1.b) (by decide) (by decide) (by decide), _, _, rfl, rfl, q⟩
end
end B

namespace B
open PySem PySem.Spec PyProof.Rows L2

def sp_plus (K : PySem.W.Frag) : Sp := fun vs H Q _ => ∃ (a c : Addr) (t1 t2 : Int) (b1 b2 : Nat), vs = [.ref a, .ref c] ∧ SqT K H a [.int t1, .int b1] ∧ SqT K H c [.int t2, .int b2] ∧ IsF t1 b1 ∧ IsF t2 b2 ∧ Fz t1 b1 4000 ∧ Fz t2 b2 4000 ∧
  ∀ p, H p = none → Q (.ref p) (upd H p (.tup [.int (addT t1 b1 t2 b2), .int (addB t1 b1 t2 b2)]))

section
variable {P : Program} {w : World} {K : PySem.W.Frag} {mg : Str → Option Value} {base : Heap}
theorem ok_plus (T : Tx K mg) : FnOk P w K mg base CX0 2 T.plus.f T.plus.fd ["one", "other"] (sp_plus K) := by
  refine T.plus.F.ok sc_plus (fun vs H Q E h => ?_) (fun cdv A outer s H vs Q E hr h => ?_)
  · obtain ⟨a, c, t1, t2, b1, b2, rfl, hA, hC, f1, f2, z1, z2, q⟩ := h
    rfl
  · obtain ⟨a, c, t1, t2, b1, b2, rfl, hA, hC, f1, f2, z1, z2, q⟩ := h
    refine ⟨_, (pss_cons (ps_asg (pv 0) (pg_tup rfl (pgs_cons (pg_name (i := 2) sc_plus.nd rfl (.inl rfl)) (pgs_cons (pg_name (i := 3) sc_plus.nd rfl (.inl rfl)) pgs_nil))))
      (pss_cons (ps_asg (pv 1) (pg_tup rfl (pgs_cons (pg_name (i := 4) sc_plus.nd rfl (.inl rfl)) (pgs_cons (pg_name (i := 5) sc_plus.nd rfl (.inl rfl)) pgs_nil))))
      (pss_cons (ps_set (i := 6) sc_plus.nd rfl (.inl rfl) (pe_call (ok_common T) (hr.mono (by decide)) (by rfl) T.common.g T.common.F.kp T.common.b .nil pass0 (pa_cons (pv 3) (pa_cons (pv 5) pa_nil))))
      (pss_cons (ps_set (i := 7) sc_plus.nd rfl (.inl rfl) (pe_op op_fdivW (pv 3) (pv 6)))
      (pss_cons (ps_set (i := 8) sc_plus.nd rfl (.inl rfl) (pe_op op_add (pe_op op_mulW (pv 2) (pe_op op_fdivW (pv 5) (pv 6))) (pe_op op_mulW (pv 4) (pv 7))))
      (pss_cons (ps_set (i := 9) sc_plus.nd rfl (.inl rfl) (pe_call (ok_common T) (hr.mono (by decide)) (by rfl) T.common.g T.common.F.kp T.common.b .nil pass0 (pa_cons (pe_callB call_abs (by rfl) T.m_abs (by decide +kernel) (pa_cons (pv 8) pa_nil)) (pa_cons (pv 6) pa_nil))))
      (pss_one (ps_ret (pe_tup (pa_cons (pe_op op_fdivW (pv 8) (pv 9)) (pa_cons (pe_op op_mulW (pv 7) (pe_op op_fdivW (pv 5) (pv 9))) pa_nil))))))))))), ?_⟩
    obtain ⟨m1, m2, g0, d0⟩ := plus_math f1 f2
    have q' : ∀ p, H p = none → Q (.ref p) (upd H p (.tup [.int (plS t1 b1 t2 b2 / (plD t1 b1 t2 b2 : Int)), .int (((b1 / plG b1 b2 : Nat) : Int) * ((b2 / plD t1 b1 t2 b2 : Nat) : Int))])) := by
      rw [m1, ← Int.natCast_mul, m2]
      exact q
    have zG : plG b1 b2 < 2 ^ 4000 := Nat.lt_of_le_of_lt (Nat.gcd_le_left _ f1.pos) z1.b
    have zD : plD t1 b1 t2 b2 < 2 ^ 4000 := Nat.lt_of_le_of_lt (Nat.gcd_le_right _ g0) zG
    have zr : b1 / plG b1 b2 < 2 ^ 4000 := Nat.lt_of_le_of_lt (Nat.div_le_self _ _) z1.b
    have zs : b2 / plG b1 b2 < 2 ^ 4000 := Nat.lt_of_le_of_lt (Nat.div_le_self _ _) z2.b
    have ze : b2 / plD t1 b1 t2 b2 < 2 ^ 4000 := Nat.lt_of_le_of_lt (Nat.div_le_self _ _) z2.b
    have W : ∀ {x : Nat}, x < 2 ^ 4000 → (x : Int).natAbs < 2 ^ 4000 := fun h => by
      rw [Int.natAbs_natCast]
      exact h
    refine ⟨_, rfl, a, _, rfl, hA, rfl, _, _, rfl, _, _, rfl, rfl, ?_⟩
    refine ⟨_, rfl, c, _, rfl, hC, rfl, _, _, rfl, _, _, rfl, rfl, ?_⟩
    refine ⟨_, rfl, _, rfl, b1, b2, rfl, ?_⟩
    refine ⟨_, rfl, _, rfl, _, _, rfl, rfl, wide_div (show (0 : Int) < (plG b1 b2 : Nat) by omega) (W zG) (by decide) (by decide), ?_⟩
    refine ⟨_, rfl, _, rfl, _, rfl, _, _, rfl, rfl, wide_div (show (0 : Int) < (plG b1 b2 : Nat) by omega) (W zG) (by decide) (by decide), _, _, rfl, rfl, wide_mul z1.t (W zs) (by decide) (by decide) (by decide), _, rfl, _, rfl, _, _, rfl, rfl, wide_mul z2.t (W zr) (by decide) (by decide) (by decide), _, _, rfl, rfl, ?_⟩
    refine ⟨_, rfl, plS t1 b1 t2 b2, rfl, _, rfl, (plS t1 b1 t2 b2).natAbs, plG b1 b2, ?_, ?_⟩
    · rw [abs_nat]
      rfl
    exact ⟨_, rfl, _, rfl, plS t1 b1 t2 b2, (plD t1 b1 t2 b2 : Int), rfl, rfl, wide_div (show (0 : Int) < (plD t1 b1 t2 b2 : Nat) by omega) (W zD) (by decide) (by decide), _, rfl, _, rfl, _, rfl, (b2 : Int), (plD t1 b1 t2 b2 : Int), rfl, rfl, wide_div (show (0 : Int) < (plD t1 b1 t2 b2 : Nat) by omega) (W zD) (by decide) (by decide), ((b1 / plG b1 b2 : Nat) : Int), ((b2 / plD t1 b1 t2 b2 : Nat) : Int), rfl, rfl, wide_mul (W zr) (W ze) (by decide) (by decide) (by decide), by show 2 ≤ sizeLine; decide, q'⟩
end
end B

namespace B
open PySem PySem.Spec PyProof.Rows L2

def sp_times (K : PySem.W.Frag) : Sp := fun vs H Q _ => ∃ (a c : Addr) (t1 t2 : Int) (b1 b2 : Nat), vs = [.ref a, .ref c] ∧ SqT K H a [.int t1, .int b1] ∧ SqT K H c [.int t2, .int b2] ∧ IsF t1 b1 ∧ IsF t2 b2 ∧ Fz t1 b1 4000 ∧ Fz t2 b2 4000 ∧
  ∀ p, H p = none → Q (.ref p) (upd H p (.tup [.int (mulT t1 b1 t2 b2), .int (mulB t1 b1 t2 b2)]))

section
variable {P : Program} {w : World} {K : PySem.W.Frag} {mg : Str → Option Value} {base : Heap}
theorem ok_times (T : Tx K mg) : FnOk P w K mg base CX0 2 T.times.f T.times.fd ["one", "other"] (sp_times K) := by
  refine T.times.F.ok sc_times (fun vs H Q E h => ?_) (fun cdv A outer s H vs Q E hr h => ?_)
  · obtain ⟨a, c, t1, t2, b1, b2, rfl, hA, hC, f1, f2, z1, z2, q⟩ := h
    rfl
  · obtain ⟨a, c, t1, t2, b1, b2, rfl, hA, hC, f1, f2, z1, z2, q⟩ := h
    refine ⟨_, (pss_cons (ps_asg (pv 0) (pg_tup rfl (pgs_cons (pg_name (i := 2) sc_times.nd rfl (.inl rfl)) (pgs_cons (pg_name (i := 3) sc_times.nd rfl (.inl rfl)) pgs_nil))))
      (pss_cons (ps_asg (pv 1) (pg_tup rfl (pgs_cons (pg_name (i := 4) sc_times.nd rfl (.inl rfl)) (pgs_cons (pg_name (i := 5) sc_times.nd rfl (.inl rfl)) pgs_nil))))
      (pss_cons (ps_set (i := 6) sc_times.nd rfl (.inl rfl) (pe_call (ok_common T) (hr.mono (by decide)) (by rfl) T.common.g T.common.F.kp T.common.b .nil pass0 (pa_cons (pe_callB call_abs (by rfl) T.m_abs (by decide +kernel) (pa_cons (pv 2) pa_nil)) (pa_cons (pv 5) pa_nil))))
      (pss_cons (ps_set (i := 7) sc_times.nd rfl (.inl rfl) (pe_call (ok_common T) (hr.mono (by decide)) (by rfl) T.common.g T.common.F.kp T.common.b .nil pass0 (pa_cons (pe_callB call_abs (by rfl) T.m_abs (by decide +kernel) (pa_cons (pv 4) pa_nil)) (pa_cons (pv 3) pa_nil))))
      (pss_one (ps_ret (pe_tup (pa_cons (pe_op op_mulW (pe_op op_fdivW (pv 2) (pv 6)) (pe_op op_fdivW (pv 4) (pv 7))) (pa_cons (pe_op op_mulW (pe_op op_fdivW (pv 3) (pv 7)) (pe_op op_fdivW (pv 5) (pv 6))) pa_nil))))))))), ?_⟩
    obtain ⟨m1, m2, f0, r0⟩ := times_math f1 f2
    have q' : ∀ p, H p = none → Q (.ref p) (upd H p (.tup [.int (t1 / ((Nat.gcd t1.natAbs b2 : Nat) : Int) * (t2 / ((Nat.gcd t2.natAbs b1 : Nat) : Int))), .int (((b1 / Nat.gcd t2.natAbs b1 : Nat) : Int) * ((b2 / Nat.gcd t1.natAbs b2 : Nat) : Int))])) := by
      rw [m1, ← Int.natCast_mul, m2]
      exact q
    have W : ∀ {x : Nat}, x < 2 ^ 4000 → (x : Int).natAbs < 2 ^ 4000 := fun h => by
      rw [Int.natAbs_natCast]
      exact h
    have zf : Nat.gcd t1.natAbs b2 < 2 ^ 4000 := Nat.lt_of_le_of_lt (Nat.gcd_le_right _ f2.pos) z2.b
    have zr : Nat.gcd t2.natAbs b1 < 2 ^ 4000 := Nat.lt_of_le_of_lt (Nat.gcd_le_right _ f1.pos) z1.b
    have y1 : (t1 / ((Nat.gcd t1.natAbs b2 : Nat) : Int)).natAbs < 2 ^ 4000 := by
      rw [natAbs_div (Nat.gcd_dvd_left _ _)]
      exact Nat.lt_of_le_of_lt (Nat.div_le_self _ _) z1.t
    have y2 : (t2 / ((Nat.gcd t2.natAbs b1 : Nat) : Int)).natAbs < 2 ^ 4000 := by
      rw [natAbs_div (Nat.gcd_dvd_left _ _)]
      exact Nat.lt_of_le_of_lt (Nat.div_le_self _ _) z2.t
    have y3 : b1 / Nat.gcd t2.natAbs b1 < 2 ^ 4000 := Nat.lt_of_le_of_lt (Nat.div_le_self _ _) z1.b
    have y4 : b2 / Nat.gcd t1.natAbs b2 < 2 ^ 4000 := Nat.lt_of_le_of_lt (Nat.div_le_self _ _) z2.b
    refine ⟨_, rfl, a, _, rfl, hA, rfl, _, _, rfl, _, _, rfl, rfl, ?_⟩
    refine ⟨_, rfl, c, _, rfl, hC, rfl, _, _, rfl, _, _, rfl, rfl, ?_⟩
    refine ⟨_, rfl, t1, rfl, _, rfl, t1.natAbs, b2, ?_, ?_⟩
    · rw [abs_nat]
      rfl
    refine ⟨_, rfl, t2, rfl, _, rfl, t2.natAbs, b1, ?_, ?_⟩
    · rw [abs_nat]
      rfl
    refine ⟨_, rfl, _, rfl, t1, ((Nat.gcd t1.natAbs b2 : Nat) : Int), rfl, rfl, wide_div (by omega) (W zf) (by decide) (by decide), _, rfl, _, rfl, t2, ((Nat.gcd t2.natAbs b1 : Nat) : Int), rfl, rfl, wide_div (by omega) (W zr) (by decide) (by decide), _, _, rfl, rfl, wide_mul y1 y2 (by decide) (by decide) (by decide), ?_⟩
    exact ⟨_, rfl, _, rfl, (b1 : Int), ((Nat.gcd t2.natAbs b1 : Nat) : Int), rfl, rfl, wide_div (by omega) (W zr) (by decide) (by decide), _, rfl, _, rfl, (b2 : Int), ((Nat.gcd t1.natAbs b2 : Nat) : Int), rfl, rfl, wide_div (by omega) (W zf) (by decide) (by decide), ((b1 / Nat.gcd t2.natAbs b1 : Nat) : Int), ((b2 / Nat.gcd t1.natAbs b2 : Nat) : Int), rfl, rfl, wide_mul (W y3) (W y4) (by decide) (by decide) (by decide), by show 2 ≤ sizeLine; decide, q'⟩
end
end B

namespace B
open PySem PySem.Spec PyProof.Rows L2

def sp_l_plus (K : PySem.W.Frag) : Sp := fun vs H Q _ => ∃ (a c : Addr) (t1 t2 : Int) (b1 b2 : Nat), vs = [.ref a, .ref c] ∧ SqT K H a [.int t1, .int b1] ∧ SqT K H c [.int t2, .int b2] ∧ IsF t1 b1 ∧ IsF t2 b2 ∧ Fz t1 b1 4000 ∧ Fz t2 b2 4000 ∧
  ∀ p, H p = none → Q (.ref p) (upd H p (.tup [.int (addT t1 b1 t2 b2), .int (addB t1 b1 t2 b2)]))

section
variable {P : Program} {w : World} {K : PySem.W.Frag} {mg : Str → Option Value} {base : Heap}
theorem ok_l_plus (T : Tx K mg) : FnOk P w K mg base CX0 2 T.l_plus.f T.l_plus.fd ["_law_one", "_law_other"] (sp_l_plus K) := by
  refine T.l_plus.F.ok sc_l_plus (fun vs H Q E h => ?_) (fun cdv A outer s H vs Q E hr h => ?_)
  · obtain ⟨a, c, t1, t2, b1, b2, rfl, hA, hC, f1, f2, z1, z2, q⟩ := h
    rfl
  · obtain ⟨a, c, t1, t2, b1, b2, rfl, hA, hC, f1, f2, z1, z2, q⟩ := h
    refine ⟨_, (pss_one (ps_ret (pe_call (ok_l_lowest T) (hr.mono (by decide)) (by rfl) T.l_lowest.g T.l_lowest.F.kp T.l_lowest.b .nil pass0 (pa_cons (pe_op op_add (pe_op op_mulW (pe_ix ix_tup (pv 0) pe_int (fun _ _ => rfl)) (pe_ix ix_tup (pv 1) pe_int (fun _ _ => rfl))) (pe_op op_mulW (pe_ix ix_tup (pv 1) pe_int (fun _ _ => rfl)) (pe_ix ix_tup (pv 0) pe_int (fun _ _ => rfl)))) (pa_cons (pe_op op_mulW (pe_ix ix_tup (pv 0) pe_int (fun _ _ => rfl)) (pe_ix ix_tup (pv 1) pe_int (fun _ _ => rfl))) pa_nil))))), ?_⟩
    have W : ∀ {x : Nat}, x < 2 ^ 4000 → (x : Int).natAbs < 2 ^ 4000 := fun h => by
      rw [Int.natAbs_natCast]
      exact h
    refine ⟨_, rfl, a, _, 0, .int t1, rfl, rfl, hA, rfl, _, rfl, c, _, 1, .int b2, rfl, rfl, hC, rfl, _, _, rfl, rfl, wide_mul z1.t (W z2.b) (by decide) (by decide) (by decide), _, rfl, c, _, 0, .int t2, rfl, rfl, hC, rfl, _, rfl, a, _, 1, .int b1, rfl, rfl, hA, rfl, _, _, rfl, rfl, wide_mul z2.t (W z1.b) (by decide) (by decide) (by decide), _, _, rfl, rfl, ?_⟩
    exact ⟨_, rfl, a, _, 1, .int b1, rfl, rfl, hA, rfl, _, rfl, c, _, 1, .int b2, rfl, rfl, hC, rfl, _, _, rfl, rfl, wide_mul (W z1.b) (W z2.b) (by decide) (by decide) (by decide), addX t1 b1 t2 b2, b1 * b2, rfl, Nat.mul_pos f1.pos f2.pos, Nat.lt_of_lt_of_le (mulB_z z1 z2) (Nat.pow_le_pow_right (by decide) (by decide)), q⟩
end
end B

namespace B
open PySem PySem.Spec PyProof.Rows L2

def sp_l_times (K : PySem.W.Frag) : Sp := fun vs H Q _ => ∃ (a c : Addr) (t1 t2 : Int) (b1 b2 : Nat), vs = [.ref a, .ref c] ∧ SqT K H a [.int t1, .int b1] ∧ SqT K H c [.int t2, .int b2] ∧ IsF t1 b1 ∧ IsF t2 b2 ∧ Fz t1 b1 4000 ∧ Fz t2 b2 4000 ∧
  ∀ p, H p = none → Q (.ref p) (upd H p (.tup [.int (mulT t1 b1 t2 b2), .int (mulB t1 b1 t2 b2)]))

section
variable {P : Program} {w : World} {K : PySem.W.Frag} {mg : Str → Option Value} {base : Heap}
theorem ok_l_times (T : Tx K mg) : FnOk P w K mg base CX0 2 T.l_times.f T.l_times.fd ["_law_one", "_law_other"] (sp_l_times K) := by
  refine T.l_times.F.ok sc_l_times (fun vs H Q E h => ?_) (fun cdv A outer s H vs Q E hr h => ?_)
  · obtain ⟨a, c, t1, t2, b1, b2, rfl, hA, hC, f1, f2, z1, z2, q⟩ := h
    rfl
  · obtain ⟨a, c, t1, t2, b1, b2, rfl, hA, hC, f1, f2, z1, z2, q⟩ := h
    refine ⟨_, (pss_one (ps_ret (pe_call (ok_l_lowest T) (hr.mono (by decide)) (by rfl) T.l_lowest.g T.l_lowest.F.kp T.l_lowest.b .nil pass0 (pa_cons (pe_op op_mulW (pe_ix ix_tup (pv 0) pe_int (fun _ _ => rfl)) (pe_ix ix_tup (pv 1) pe_int (fun _ _ => rfl))) (pa_cons (pe_op op_mulW (pe_ix ix_tup (pv 0) pe_int (fun _ _ => rfl)) (pe_ix ix_tup (pv 1) pe_int (fun _ _ => rfl))) pa_nil))))), ?_⟩
    have W : ∀ {x : Nat}, x < 2 ^ 4000 → (x : Int).natAbs < 2 ^ 4000 := fun h => by
      rw [Int.natAbs_natCast]
      exact h
    refine ⟨_, rfl, a, _, 0, .int t1, rfl, rfl, hA, rfl, _, rfl, c, _, 0, .int t2, rfl, rfl, hC, rfl, _, _, rfl, rfl, wide_mul z1.t z2.t (by decide) (by decide) (by decide), ?_⟩
    exact ⟨_, rfl, a, _, 1, .int b1, rfl, rfl, hA, rfl, _, rfl, c, _, 1, .int b2, rfl, rfl, hC, rfl, _, _, rfl, rfl, wide_mul (W z1.b) (W z2.b) (by decide) (by decide) (by decide), t1 * t2, b1 * b2, rfl, Nat.mul_pos f1.pos f2.pos, Nat.lt_of_lt_of_le (mulB_z z1 z2) (Nat.pow_le_pow_right (by decide) (by decide)), q⟩
end
end B

namespace B
open PySem PySem.Spec PyProof.Rows L2
theorem eq2 {x y : Int} : PyData.eqv (.tuple [.int x, .int y]) (.tuple [.int x, .int y]) = true := SeqAt.eqv_refl _ rfl

def sp_l_is_fraction (K : PySem.W.Frag) : Sp := fun vs H Q _ => ∃ (a : Addr) (t : Int) (b : Nat), vs = [.ref a] ∧ SqT K H a [.int t, .int b] ∧ IsF t b ∧ Fz t b 8000 ∧ ∀ H', Same H H' → Q (.bl true) H'

section
variable {P : Program} {w : World} {K : PySem.W.Frag} {mg : Str → Option Value} {base : Heap}
theorem ok_l_is_fraction (T : Tx K mg) : FnOk P w K mg base CX0 2 T.l_is_fraction.f T.l_is_fraction.fd ["_law_thing"] (sp_l_is_fraction K) := by
  refine T.l_is_fraction.F.ok sc_l_is_fraction (fun vs H Q E h => ?_) (fun cdv A outer s H vs Q E hr h => ?_)
  · obtain ⟨a, t, b, rfl, hT, hF, hz, q⟩ := h
    rfl
  · obtain ⟨a, t, b, rfl, hT, hF, hz, q⟩ := h
    refine ⟨_, (pss_cons (ps_if (PW.pt (pw_or (pt_not (pt_val (pe_callB call_isi (by rfl) T.m_isinstance (by decide +kernel) (pa_cons (pv 0) (pa_cons (pe_bltn (v := .ty "tuple") (u := .type "tuple") (by rfl) T.m_tuple (by decide +kernel) rfl) pa_nil))))) (pw_or (pt_cmpR op_ne (pe_callB call_len_seq (by rfl) T.m_len (by decide +kernel) (pa_cons (pv 0) pa_nil)) pe_int (nomark _)) (pw_or (pt_not (pt_val (pe_call (ok_l_whole T) (hr.mono (by decide)) (by rfl) T.l_whole.g T.l_whole.F.kp T.l_whole.b .nil pass0 (pa_cons (pe_ix ix_tup (pv 0) pe_int (fun _ _ => rfl)) pa_nil)))) (pw_or1 (pt_not (pt_val (pe_call (ok_l_whole T) (hr.mono (by decide)) (by rfl) T.l_whole.g T.l_whole.F.kp T.l_whole.b .nil pass0 (pa_cons (pe_ix ix_tup (pv 0) pe_int (fun _ _ => rfl)) pa_nil))))))))) (pss_one (ps_ret pe_bl)) pss_nil)
      (pss_one (ps_ret (pe_and (pe_cmpR op_gt (pe_ix ix_tup (pv 0) pe_int (fun _ _ => rfl)) pe_int (nomark _)) (pe_one (pe_cmpR (op_eqD hr.units) (pe_call (ok_l_lowest T) (hr.mono (by decide)) (by rfl) T.l_lowest.g T.l_lowest.F.kp T.l_lowest.b .nil pass0 (pa_cons (pe_ix ix_tup (pv 0) pe_int (fun _ _ => rfl)) (pa_cons (pe_ix ix_tup (pv 0) pe_int (fun _ _ => rfl)) pa_nil))) (pv 0) (nomark _))))))), ?_⟩
    refine ⟨_, rfl, _, .ty "tuple", .type "tuple", .type "tuple", true, rfl, .ty _, ty_tup hT, kit_ty (by decide +kernel), _, rfl, iteF ?_⟩
    refine ⟨_, rfl, a, _, rfl, .inr hT, rfl, _, rfl, iteNS rfl ?_⟩
    refine ⟨_, rfl, a, _, 0, .int t, rfl, rfl, hT, rfl, t, rfl, _, rfl, iteF ?_⟩
    refine ⟨_, rfl, a, _, 1, .int b, rfl, rfl, hT, rfl, b, rfl, _, rfl, iteF ?_⟩
    have hp := hF.pos
    refine ⟨_, rfl, a, _, 1, .int b, rfl, rfl, hT, rfl, _, _, rfl, rfl, _, rfl, iteK (decide_eq_true (by omega)) ?_⟩
    refine ⟨_, rfl, a, _, 0, .int t, rfl, rfl, hT, rfl, _, rfl, a, _, 1, .int b, rfl, rfl, hT, rfl, t, b, rfl, hp, Nat.lt_of_lt_of_le hz.b (Nat.pow_le_pow_right (by decide) (by decide)), fun p np => ?_⟩
    have e := low_self hF
    refine ⟨_, rfl, _, _, dp2 sqt_upd, dp2 (Same.tup (same_upd np) hT), rfl, rfl, ?_⟩
    rw [e.1, e.2, eq2]
    exact q _ (same_upd np)
end
end B

namespace B
open PySem PySem.Spec PyProof.Rows L2

def sp_l_fraction (_ : PySem.W.Frag) : Sp := fun vs H Q _ => ∃ (d : Dr) (n : Nat), vs = [.ref d.dr] ∧ Drw H d (n + 10) ∧ ∀ (H' : Hp) (p : Addr) (t : Int) (b : Nat), H' p = some (.tup [.int t, .int b]) → IsF t b → Fz t b 80 → Drw H' d n → Kp d H H' → Q (.ref p) H'

section
variable {P : Program} {w : World} {K : PySem.W.Frag} {mg : Str → Option Value} {base : Heap}
theorem ok_l_fraction (T : Tx K mg) : FnOk P w K mg base CX0 2 T.l_fraction.f T.l_fraction.fd ["_law_drawn"] (sp_l_fraction K) := by
  refine T.l_fraction.F.ok sc_l_fraction (fun vs H Q E h => ?_) (fun cdv A outer s H vs Q E hr h => ?_)
  · obtain ⟨d, n, rfl, hD, q⟩ := h
    rfl
  · obtain ⟨d, n, rfl, hD, q⟩ := h
    refine ⟨_, (pss_cons (ps_set (i := 1) sc_l_fraction.nd rfl (.inl rfl) (pe_call (ok_l_next T) (hr.mono (by decide)) (by rfl) T.l_next.g T.l_next.F.kp T.l_next.b .nil pass0 (pa_cons (pv 0) (pa_cons pe_int pa_nil))))
      (pss_cons (ps_if (pt_cmpR op_eq (pv 1) pe_int (nomark _)) (pss_one (ps_ret (pe_tup (pa_cons pe_int (pa_cons pe_int pa_nil))))) pss_nil)
      (pss_cons (ps_if (pt_cmpR op_lt (pv 1) pe_int (nomark _)) (pss_one (ps_ret (pe_tup (pa_cons (pe_op op_sub (pe_call (ok_l_next T) (hr.mono (by decide)) (by rfl) T.l_next.g T.l_next.F.kp T.l_next.b .nil pass0 (pa_cons (pv 0) (pa_cons pe_int pa_nil))) pe_int) (pa_cons pe_int pa_nil))))) pss_nil)
      (pss_cons (ps_if (pt_cmpR op_lt (pv 1) pe_int (nomark _)) (pss_one (ps_ret (pe_call (ok_l_lowest T) (hr.mono (by decide)) (by rfl) T.l_lowest.g T.l_lowest.F.kp T.l_lowest.b .nil pass0 (pa_cons (pe_op op_sub (pe_call (ok_l_next T) (hr.mono (by decide)) (by rfl) T.l_next.g T.l_next.F.kp T.l_next.b .nil pass0 (pa_cons (pv 0) (pa_cons pe_int pa_nil))) pe_int) (pa_cons (pe_op op_add pe_int (pe_call (ok_l_next T) (hr.mono (by decide)) (by rfl) T.l_next.g T.l_next.F.kp T.l_next.b .nil pass0 (pa_cons (pv 0) (pa_cons pe_int pa_nil)))) pa_nil))))) pss_nil)
      (pss_cons (ps_set (i := 2) sc_l_fraction.nd rfl (.inl rfl) (pe_op op_add (pe_op op_mul (pe_call (ok_l_next T) (hr.mono (by decide)) (by rfl) T.l_next.g T.l_next.F.kp T.l_next.b .nil pass0 (pa_cons (pv 0) (pa_cons (pe_op op_pow pe_int pe_int) pa_nil))) (pe_op op_pow pe_int pe_int)) (pe_call (ok_l_next T) (hr.mono (by decide)) (by rfl) T.l_next.g T.l_next.F.kp T.l_next.b .nil pass0 (pa_cons (pv 0) (pa_cons (pe_op op_pow pe_int pe_int) pa_nil)))))
      (pss_one (ps_ret (pe_call (ok_l_lowest T) (hr.mono (by decide)) (by rfl) T.l_lowest.g T.l_lowest.F.kp T.l_lowest.b .nil pass0 (pa_cons (pe_op op_sub (pv 2) (pe_op op_mul pe_int (pe_op op_pow pe_int pe_int))) (pa_cons (pe_op op_add pe_int (pe_op op_mul (pe_call (ok_l_next T) (hr.mono (by decide)) (by rfl) T.l_next.g T.l_next.F.kp T.l_next.b .nil pass0 (pa_cons (pv 0) (pa_cons (pe_op op_pow pe_int pe_int) pa_nil))) (pe_ix ix_list (pe_lst (pa_cons pe_int (pa_cons (pe_op op_sub (pe_op op_pow pe_int pe_int) pe_int) pa_nil))) (pe_call (ok_l_next T) (hr.mono (by decide)) (by rfl) T.l_next.g T.l_next.F.kp T.l_next.b .nil pass0 (pa_cons (pv 0) (pa_cons pe_int pa_nil))) (fun _ _ => rfl)))) pa_nil)))))))))), ?_⟩
    refine ⟨_, rfl, d, n + 9, 8, rfl, by decide, by decide, hD, fun H1 r r0 r1 w1 k1 => ?_⟩
    refine ⟨_, rfl, rfl, _, rfl, ite2 (fun e => ?_) (fun e => ?_)⟩
    · refine ⟨by decide, fun p np => ?_⟩
      exact q _ p 0 1 upd_same ⟨by decide, by decide⟩ ⟨by decide, by decide⟩ ((w1.less (by omega)).upd np) (k1.trans (Same.kp (same_upd np)))
    refine ⟨_, rfl, _, _, rfl, rfl, _, rfl, ite2 (fun e => ?_) (fun e => ?_)⟩
    · refine ⟨_, rfl, d, n + 8, 13, rfl, by decide, by decide, w1, fun H2 r2 r20 r21 w2 k2 => ?_⟩
      refine ⟨_, _, rfl, rfl, by show 2 ≤ sizeLine; decide, fun p np => ?_⟩
      exact q _ p (r2 - 6) 1 upd_same ⟨by decide, Nat.coprime_one_right _⟩ ⟨by omega, by decide⟩ ((w2.less (by omega)).upd np) ((k1.trans k2).trans (Same.kp (same_upd np)))
    refine ⟨_, rfl, _, _, rfl, rfl, _, rfl, ite2 (fun e => ?_) (fun e => ?_)⟩
    · refine ⟨_, rfl, d, n + 8, 41, rfl, by decide, by decide, w1, fun H2 r2 r20 r21 w2 k2 => ?_⟩
      refine ⟨_, _, rfl, rfl, _, rfl, d, n + 7, 12, rfl, by decide, by decide, w2, fun H3 r3 r30 r31 w3 k3 => ?_⟩
      refine ⟨_, _, rfl, rfl, r2 - 20, (1 + r3).toNat, by rw [Int.toNat_of_nonneg (by omega)]; rfl, by omega, Nat.lt_of_lt_of_le (show (1 + r3).toNat < 2 ^ 5 by omega) (Nat.pow_le_pow_right (by decide) (by decide)), fun p np => ?_⟩
      exact q _ p _ _ upd_same (low_isF (by omega)) (low_z (by omega) (by omega) (by omega)) ((w3.less (by omega)).upd np) (((k1.trans k2).trans k3).trans (Same.kp (same_upd np)))
    refine ⟨_, rfl, _, _, rfl, rfl, ⟨by decide, by decide, by decide⟩, d, n + 8, 10 ^ 10, rfl, by decide, by decide, w1, fun H2 r2 r20 r21 w2 k2 => ?_⟩
    refine ⟨_, _, rfl, rfl, ⟨by decide, by decide, by decide⟩, _, _, rfl, rfl, .inr ⟨by decide, by decide⟩, _, rfl, _, _, rfl, rfl, ⟨by decide, by decide, by decide⟩, d, n + 7, 10 ^ 10, rfl, by decide, by decide, w2, fun H3 r3 r30 r31 w3 k3 => ?_⟩
    refine ⟨_, _, rfl, rfl, ?_⟩
    refine ⟨_, rfl, _, _, rfl, rfl, ⟨by decide, by decide, by decide⟩, _, _, rfl, rfl, .inl ⟨by decide, by decide⟩, _, _, rfl, rfl, ?_⟩
    refine ⟨_, rfl, _, _, rfl, rfl, ⟨by decide, by decide, by decide⟩, d, n + 6, 10 ^ 10, rfl, by decide, by decide, w3, fun H4 r4 r40 r41 w4 k4 => ?_⟩
    refine ⟨_, _, rfl, rfl, ⟨by decide, by decide, by decide⟩, _, _, rfl, rfl, by decide, fun l nl => ?_⟩
    refine ⟨_, rfl, d, n + 5, 2, rfl, by decide, by decide, w4.upd nl, fun H5 r5 r50 r51 w5 k5 => ?_⟩
    have hl : SqL K H5 l [.int 1, .int 9999999999] := .inl (.inl (k5 _ _ upd_same (w4.no nl).1 (w4.no nl).2))
    obtain ⟨x, hx, x0, x1⟩ : ∃ x : Int, atI [V.int 1, V.int 9999999999] r5 = some (.int x) ∧ 1 ≤ x ∧ x ≤ 9999999999 := by
      have : r5 = 0 ∨ r5 = 1 := by omega
      rcases this with rfl | rfl
      · exact ⟨1, rfl, by decide, by decide⟩
      · exact ⟨9999999999, rfl, by decide, by decide⟩
    refine ⟨l, _, r5, .int x, rfl, rfl, hl, hx, _, _, rfl, rfl, .inr ⟨by omega, by omega⟩, _, _, rfl, rfl, ?_⟩
    have m0 : 0 ≤ r4 * x := Int.mul_nonneg r40 (by omega)
    have m1 : r4 * x ≤ 9999999999 * 9999999999 := Int.mul_le_mul (by omega) x1 (by omega) (by decide)
    refine ⟨_, (1 + r4 * x).toNat, by rw [Int.toNat_of_nonneg (by omega)]; rfl, by omega, Nat.lt_of_lt_of_le (show (1 + r4 * x).toNat < 2 ^ 80 by omega) (Nat.pow_le_pow_right (by decide) (by decide)), fun p np => ?_⟩
    have p10 : (10 : Int) ^ Int.toNat 10 = 10000000000 := by decide
    have p19 : (10 : Int) ^ Int.toNat 19 = 10000000000000000000 := by decide
    exact q _ p _ _ upd_same (low_isF (by omega)) (low_z (by omega) (by rw [p10, p19]; omega) (by omega)) ((w5.less (by omega)).upd np) ((((k1.trans k2).trans k3).trans k4).trans ((Same.kp (same_upd nl)).trans (k5.trans (Same.kp (same_upd np)))))
end
end B

namespace B
open PySem PySem.Spec PyProof.Rows L2

def sp_l_second (K : PySem.W.Frag) : Sp := fun vs H Q _ => ∃ (d : Dr) (n : Nat) (a : Addr) (t : Int) (b : Nat), vs = [.ref d.dr, .ref a] ∧ SqT K H a [.int t, .int b] ∧ IsF t b ∧ Fz t b 80 ∧ Drw H d (n + 20) ∧ ∀ (H' : Hp) (p : Addr) (t2 : Int) (b2 : Nat), SqT K H' p [.int t2, .int b2] → IsF t2 b2 → Fz t2 b2 80 → Drw H' d n → Kp d H H' → Q (.ref p) H'

section
variable {P : Program} {w : World} {K : PySem.W.Frag} {mg : Str → Option Value} {base : Heap}
theorem ok_l_second (T : Tx K mg) : FnOk P w K mg base CX0 3 T.l_second.f T.l_second.fd ["_law_drawn", "_law_one"] (sp_l_second K) := by
  refine T.l_second.F.ok sc_l_second (fun vs H Q E h => ?_) (fun cdv A outer s H vs Q E hr h => ?_)
  · obtain ⟨d, n, a, t, b, rfl, hA, hF, hz, hD, q⟩ := h
    rfl
  · obtain ⟨d, n, a, t, b, rfl, hA, hF, hz, hD, q⟩ := h
    refine ⟨_, (pss_cons (ps_set (i := 2) sc_l_second.nd rfl (.inl rfl) (pe_call (ok_l_next T) (hr.mono (by decide)) (by rfl) T.l_next.g T.l_next.F.kp T.l_next.b .nil pass0 (pa_cons (pv 0) (pa_cons pe_int pa_nil))))
      (pss_cons (ps_if (pt_cmpR op_eq (pv 2) pe_int (nomark _)) (pss_one (ps_ret (pv 1))) pss_nil)
      (pss_cons (ps_if (pt_cmpR op_eq (pv 2) pe_int (nomark _)) (pss_one (ps_ret (pe_tup (pa_cons (pe_op op_sub pe_int (pe_ix ix_tup (pv 1) pe_int (fun _ _ => rfl))) (pa_cons (pe_ix ix_tup (pv 1) pe_int (fun _ _ => rfl)) pa_nil))))) pss_nil)
      (pss_cons (ps_if (PW.pt (pw_and (pt_cmpR op_eq (pv 2) pe_int (nomark _)) (pw_and1 (pt_cmpR op_lt (pe_callB call_abs (by rfl) T.m_abs (by decide +kernel) (pa_cons (pe_ix ix_tup (pv 1) pe_int (fun _ _ => rfl)) pa_nil)) (pe_op op_pow pe_int pe_int) (nomark _))))) (pss_one (ps_ret (pe_call (ok_l_lowest T) (hr.mono (by decide)) (by rfl) T.l_lowest.g T.l_lowest.F.kp T.l_lowest.b .nil pass0 (pa_cons (pe_op op_add (pe_ix ix_tup (pv 1) pe_int (fun _ _ => rfl)) pe_int) (pa_cons (pe_ix ix_tup (pv 1) pe_int (fun _ _ => rfl)) pa_nil))))) pss_nil)
      (pss_one (ps_ret (pe_call (ok_l_fraction T) (hr.mono (by decide)) (by rfl) T.l_fraction.g T.l_fraction.F.kp T.l_fraction.b .nil pass0 (pa_cons (pv 0) pa_nil)))))))), ?_⟩
    refine ⟨_, rfl, d, n + 19, 9, rfl, by decide, by decide, hD, fun H1 r r0 r1 w1 k1 => ?_⟩
    have hA1 := Kp.tup k1 hD hA
    refine ⟨_, rfl, rfl, _, rfl, ite2 (fun e => ?_) (fun e => ?_)⟩
    · exact ⟨_, rfl, q _ a t b hA1 hF hz (w1.less (by omega)) k1⟩
    refine ⟨_, rfl, rfl, _, rfl, ite2 (fun e => ?_) (fun e => ?_)⟩
    · refine ⟨_, rfl, a, _, 0, .int t, rfl, rfl, hA1, rfl, _, _, rfl, rfl, _, rfl, a, _, 1, .int b, rfl, rfl, hA1, rfl, by show 2 ≤ sizeLine; decide, fun p np => ?_⟩
      have e0 : 0 - t = -t := by omega
      exact q _ p (0 - t) b sqt_upd (by rw [e0]; exact hF.neg) ⟨by rw [e0, Int.natAbs_neg]; exact hz.t, hz.b⟩ ((w1.less (by omega)).upd np) (k1.trans (Same.kp (same_upd np)))
    have fin : ∀ {D : Ends} {σ : L2.St}, D.rt = Q → σ[0]? = some (some (.ref d.dr)) → tRet (tCall (sp_l_fraction K) [] E0 (tCons (tVar 0) tNil)) D σ H1 := by
      intro D σ e1 e2
      refine ⟨_, e2, d, n, rfl, w1.less (by omega), fun H2 p t2 b2 h1 h2 h3 h4 h5 => ?_⟩
      rw [e1]
      exact q _ p t2 b2 (.inl (.inl h1)) h2 h3 h4 (k1.trans h5)
    refine ⟨_, rfl, rfl, _, rfl, ite2 (fun e => ?_) (fun e => ?_)⟩
    · refine ⟨_, rfl, a, _, 0, .int t, rfl, rfl, hA1, rfl, t, rfl, _, _, rfl, rfl, ⟨by decide, by decide, by decide⟩, _, _, rfl, rfl, _, rfl, ?_⟩
      refine ite2 (fun e2 => ?_) (fun e2 => ?_)
      · have e3 : (if t < 0 then -t else t) < 10 ^ (19 : Int).toNat := of_decide_eq_true e2
        rw [abs_nat] at e3
        have p19 : (10 : Int) ^ Int.toNat 19 = 10000000000000000000 := by decide
        refine ⟨_, rfl, a, _, 0, .int t, rfl, rfl, hA1, rfl, _, _, rfl, rfl, _, rfl, a, _, 1, .int b, rfl, rfl, hA1, rfl, t + 1, b, rfl, hF.pos, Nat.lt_of_lt_of_le hz.b (Nat.pow_le_pow_right (by decide) (by decide)), fun p np => ?_⟩
        exact q _ p _ _ sqt_upd (low_isF hF.pos) (low_z hF.pos (by omega) hz.b) ((w1.less (by omega)).upd np) (k1.trans (Same.kp (same_upd np)))
      · exact fin rfl rfl
    · exact fin rfl rfl
end
end B

namespace B
open PySem PySem.Spec PyProof.Rows L2

def sp_l_is (K : PySem.W.Frag) : Sp := fun vs H Q _ => ∃ (a c : Addr) (t : Int) (b : Nat), vs = [.ref a, .ref c] ∧ SqT K H a [.int t, .int b] ∧ SqT K H c [.int t, .int b] ∧ IsF t b ∧ Fz t b 8000 ∧ ∀ H', Same H H' → Q (.bl true) H'

section
variable {P : Program} {w : World} {K : PySem.W.Frag} {mg : Str → Option Value} {base : Heap}
theorem ok_l_is (T : Tx K mg) : FnOk P w K mg base CX0 3 T.l_is.f T.l_is.fd ["_law_found", "_law_due"] (sp_l_is K) := by
  refine T.l_is.F.ok sc_l_is (fun vs H Q E h => ?_) (fun cdv A outer s H vs Q E hr h => ?_)
  · obtain ⟨a, c, t, b, rfl, hA, hC, hF, hz, q⟩ := h
    rfl
  · obtain ⟨a, c, t, b, rfl, hA, hC, hF, hz, q⟩ := h
    refine ⟨_, (pss_one (ps_ret (pe_and (pe_call (ok_l_is_fraction T) (hr.mono (by decide)) (by rfl) T.l_is_fraction.g T.l_is_fraction.F.kp T.l_is_fraction.b .nil pass0 (pa_cons (pv 0) pa_nil)) (pe_one (pe_cmpR (op_eqD hr.units) (pv 0) (pv 1) (nomark _)))))), ?_⟩
    refine ⟨_, rfl, a, t, b, rfl, hA, hF, hz, fun H1 s1 => ⟨_, rfl, iteT ?_⟩⟩
    refine ⟨_, rfl, _, rfl, _, _, dp2 (Same.tup s1 hA), dp2 (Same.tup s1 hC), rfl, rfl, ?_⟩
    rw [eq2]
    exact q _ s1
end
end B

namespace B
open PySem PySem.Spec PyProof.Rows L2

def sp_l_right (K : PySem.W.Frag) : Sp := fun vs H Q _ => ∃ (a c : Addr) (t1 t2 : Int) (b1 b2 : Nat), vs = [.ref a, .ref c] ∧ SqT K H a [.int t1, .int b1] ∧ SqT K H c [.int t2, .int b2] ∧ IsF t1 b1 ∧ IsF t2 b2 ∧ Fz t1 b1 3000 ∧ Fz t2 b2 3000 ∧ ∀ H', Same H H' → Q (.bl true) H'

section
variable {P : Program} {w : World} {K : PySem.W.Frag} {mg : Str → Option Value} {base : Heap}
theorem ok_l_right (T : Tx K mg) : FnOk P w K mg base CX0 4 T.l_right.f T.l_right.fd ["_law_one", "_law_other"] (sp_l_right K) := by
  refine T.l_right.F.ok sc_l_right (fun vs H Q E h => ?_) (fun cdv A outer s H vs Q E hr h => ?_)
  · obtain ⟨a, c, t1, t2, b1, b2, rfl, hA, hC, f1, f2, y1, y2, q⟩ := h
    rfl
  · obtain ⟨a, c, t1, t2, b1, b2, rfl, hA, hC, f1, f2, y1, y2, q⟩ := h
    refine ⟨_, (pss_cons (ps_if (PW.pt (pw_or (pt_not (pt_val (pe_call (ok_l_is T) (hr.mono (by decide)) (by rfl) T.l_is.g T.l_is.F.kp T.l_is.b .nil pass0 (pa_cons (pe_call (ok_plus T) (hr.mono (by decide)) (by rfl) T.plus.g T.plus.F.kp T.plus.b .nil pass0 (pa_cons (pv 0) (pa_cons (pv 1) pa_nil))) (pa_cons (pe_call (ok_l_plus T) (hr.mono (by decide)) (by rfl) T.l_plus.g T.l_plus.F.kp T.l_plus.b .nil pass0 (pa_cons (pv 0) (pa_cons (pv 1) pa_nil))) pa_nil))))) (pw_or1 (pt_not (pt_val (pe_call (ok_l_is T) (hr.mono (by decide)) (by rfl) T.l_is.g T.l_is.F.kp T.l_is.b .nil pass0 (pa_cons (pe_call (ok_times T) (hr.mono (by decide)) (by rfl) T.times.g T.times.F.kp T.times.b .nil pass0 (pa_cons (pv 0) (pa_cons (pv 1) pa_nil))) (pa_cons (pe_call (ok_l_times T) (hr.mono (by decide)) (by rfl) T.l_times.g T.l_times.F.kp T.l_times.b .nil pass0 (pa_cons (pv 0) (pa_cons (pv 1) pa_nil))) pa_nil)))))))) (pss_one (ps_ret pe_bl)) pss_nil)
      (pss_cons (ps_if (PW.pt (pw_or (pt_not (pt_val (pe_call (ok_l_is T) (hr.mono (by decide)) (by rfl) T.l_is.g T.l_is.F.kp T.l_is.b .nil pass0 (pa_cons (pe_call (ok_turned_about T) (hr.mono (by decide)) (by rfl) T.turned_about.g T.turned_about.F.kp T.turned_about.b .nil pass0 (pa_cons (pv 0) pa_nil)) (pa_cons (pe_tup (pa_cons (pe_op op_sub pe_int (pe_ix ix_tup (pv 0) pe_int (fun _ _ => rfl))) (pa_cons (pe_ix ix_tup (pv 0) pe_int (fun _ _ => rfl)) pa_nil))) pa_nil))))) (pw_or1 (pt_not (pt_val (pe_call (ok_l_is T) (hr.mono (by decide)) (by rfl) T.l_is.g T.l_is.F.kp T.l_is.b .nil pass0 (pa_cons (pe_call (ok_turned_about T) (hr.mono (by decide)) (by rfl) T.turned_about.g T.turned_about.F.kp T.turned_about.b .nil pass0 (pa_cons (pe_call (ok_turned_about T) (hr.mono (by decide)) (by rfl) T.turned_about.g T.turned_about.F.kp T.turned_about.b .nil pass0 (pa_cons (pv 0) pa_nil)) pa_nil)) (pa_cons (pv 0) pa_nil)))))))) (pss_one (ps_ret pe_bl)) pss_nil)
      (pss_cons (ps_set (i := 2) sc_l_right.nd rfl (.inl rfl) (pe_lst (pa_cons (pe_call (ok_less T) (hr.mono (by decide)) (by rfl) T.less.g T.less.F.kp T.less.b .nil pass0 (pa_cons (pv 0) (pa_cons (pv 1) pa_nil))) (pa_cons (pe_call (ok_less T) (hr.mono (by decide)) (by rfl) T.less.g T.less.F.kp T.less.b .nil pass0 (pa_cons (pv 1) (pa_cons (pv 0) pa_nil))) pa_nil))))
      (pss_cons (ps_if (pt_cmpR (op_neD hr.units) (pe_lc (own := [("_law_truth", 3)]) (g := gName 3) rfl sc_l_right.nd (pi_list (pv 2)) (blkOk_by (own := [("_law_truth", 3)]) (N := N_l_right) (sc := defScope s_l_right) (by decide +kernel)) (fun _ _ _ _ _ => (pg_name (i := 3) sc_l_right.nd rfl (.inl rfl))) (fun _ _ _ _ _ => (pts_one (pt_not (pt_val (pe_callB (id := "isinstance") (r := rIsi K) call_isi (by rfl) T.m_isinstance (by decide +kernel) (pa_cons (pv 3) (pa_cons (pe_bltn (v := .ty "bool") (u := .type "bool") (by rfl) T.m_bool (by decide +kernel) rfl) pa_nil))))))) (fun _ _ _ _ _ => (pv 3))) (pe_lst pa_nil) (nomark _)) (pss_one (ps_ret pe_bl)) pss_nil)
      (pss_one (ps_ret (pe_cmpR (op_eqD hr.units) (pv 2) (pe_lst (pa_cons (pe_call (ok_l_less T) (hr.mono (by decide)) (by rfl) T.l_less.g T.l_less.F.kp T.l_less.b .nil pass0 (pa_cons (pv 0) (pa_cons (pv 1) pa_nil))) (pa_cons (pe_call (ok_l_less T) (hr.mono (by decide)) (by rfl) T.l_less.g T.l_less.F.kp T.l_less.b .nil pass0 (pa_cons (pv 1) (pa_cons (pv 0) pa_nil))) pa_nil))) (nomark _)))))))), ?_⟩
    have z1 := y1.more (show 3000 ≤ 4000 by decide)
    have z2 := y2.more (show 3000 ≤ 4000 by decide)
    have F1 : Fz (addT t1 b1 t2 b2) (addB t1 b1 t2 b2) 8000 := (add_z f1.pos f2.pos y1 y2).more (by decide)
    have F2 : Fz (mulT t1 b1 t2 b2) (mulB t1 b1 t2 b2) 8000 := (mul_z f1.pos f2.pos y1 y2).more (by decide)
    -- plus and the law's own
    refine ⟨_, rfl, _, rfl, a, c, t1, t2, b1, b2, rfl, hA, hC, f1, f2, z1, z2, fun p np => ?_⟩
    have s1 := same_upd (o := .tup [.int (addT t1 b1 t2 b2), .int (addB t1 b1 t2 b2)]) np
    refine ⟨_, rfl, _, rfl, a, c, t1, t2, b1, b2, rfl, Same.tup s1 hA, Same.tup s1 hC, f1, f2, z1, z2, fun p2 np2 => ?_⟩
    have s2 := same_upd (o := .tup [.int (addT t1 b1 t2 b2), .int (addB t1 b1 t2 b2)]) np2
    refine ⟨p, p2, _, _, rfl, Same.tup s2 sqt_upd, sqt_upd, add_isF f1.pos f2.pos, F1, fun H3 s3 => ⟨_, rfl, iteF ?_⟩⟩
    have S3 := (s1.trans s2).trans s3
    -- times
    refine ⟨_, rfl, _, rfl, a, c, t1, t2, b1, b2, rfl, Same.tup S3 hA, Same.tup S3 hC, f1, f2, z1, z2, fun p4 np4 => ?_⟩
    have s4 := same_upd (o := .tup [.int (mulT t1 b1 t2 b2), .int (mulB t1 b1 t2 b2)]) np4
    have S4 := S3.trans s4
    refine ⟨_, rfl, _, rfl, a, c, t1, t2, b1, b2, rfl, Same.tup S4 hA, Same.tup S4 hC, f1, f2, z1, z2, fun p5 np5 => ?_⟩
    have s5 := same_upd (o := .tup [.int (mulT t1 b1 t2 b2), .int (mulB t1 b1 t2 b2)]) np5
    refine ⟨p4, p5, _, _, rfl, Same.tup s5 sqt_upd, sqt_upd, mul_isF f1.pos f2.pos, F2, fun H6 s6 => ⟨_, rfl, iteF ?_⟩⟩
    have S6 := (S4.trans s5).trans s6
    -- turned about
    have e0 : 0 - t1 = -t1 := by omega
    refine ⟨_, rfl, a, t1, b1, rfl, Same.tup S6 hA, fun p7 np7 => ?_⟩
    have s7 := same_upd (o := .tup [.int (-t1), .int b1]) np7
    have S7 := S6.trans s7
    refine ⟨_, rfl, a, _, 0, .int t1, rfl, rfl, Same.tup S7 hA, rfl, _, _, rfl, rfl, _, rfl, a, _, 1, .int b1, rfl, rfl, Same.tup S7 hA, rfl, by show 2 ≤ sizeLine; decide, fun p8 np8 => ?_⟩
    have s8 := same_upd (o := .tup [.int (0 - t1), .int b1]) np8
    have S8 := S7.trans s8
    refine ⟨p7, p8, -t1, b1, rfl, Same.tup s8 sqt_upd, by rw [← e0]; exact sqt_upd, f1.neg, ⟨by rw [Int.natAbs_neg]; exact (y1.more (by decide)).t, (y1.more (by decide)).b⟩, fun H9 s9 => ⟨_, rfl, iteF ?_⟩⟩
    have S9 := S8.trans s9
    refine ⟨_, rfl, a, t1, b1, rfl, Same.tup S9 hA, fun p10 np10 => ?_⟩
    have s10 := same_upd (o := .tup [.int (-t1), .int b1]) np10
    have S10 := S9.trans s10
    refine ⟨p10, -t1, b1, rfl, sqt_upd, fun p11 np11 => ?_⟩
    have s11 := same_upd (o := .tup [.int (- -t1), .int b1]) np11
    have S11 := S10.trans s11
    refine ⟨_, rfl, p11, a, t1, b1, rfl, by rw [Int.neg_neg]; exact sqt_upd, Same.tup S11 hA, f1, y1.more (by decide), fun H12 s12 => ⟨_, rfl, iteF ?_⟩⟩
    have S12 := S11.trans s12
    -- less
    refine ⟨_, rfl, _, rfl, a, c, t1, t2, b1, b2, rfl, Same.tup S12 hA, Same.tup S12 hC, z1, z2, ?_⟩
    refine ⟨_, rfl, _, rfl, c, a, t2, t1, b2, b1, rfl, Same.tup S12 hC, Same.tup S12 hA, z2, z1, ?_⟩
    refine ⟨by show 2 ≤ sizeLine; decide, fun l nl => ?_⟩
    have s13 := same_upd (o := .lst [.bl (decide (t1 * (b2 : Int) < t2 * (b1 : Int))), .bl (decide (t2 * (b1 : Int) < t1 * (b2 : Int)))]) nl
    have S13 := S12.trans s13
    have hl := upd_same (H := H12) (a := l) (o := .lst [.bl (decide (t1 * (b2 : Int) < t2 * (b1 : Int))), .bl (decide (t2 * (b1 : Int) < t1 * (b2 : Int)))])
    generalize upd H12 l (.lst [.bl (decide (t1 * (b2 : Int) < t2 * (b1 : Int))), .bl (decide (t2 * (b1 : Int) < t1 * (b2 : Int)))]) = H13 at S13 hl ⊢
    refine ⟨_, rfl, l, rfl, ⟨_, .inl (.inl hl)⟩, fun D nD => ?_⟩
    refine lc_list (K := K) (a := l) (xs := [.bl (decide (t1 * (b2 : Int) < t2 * (b1 : Int))), .bl (decide (t2 * (b1 : Int) < t1 * (b2 : Int)))]) (fun i H' => H' D = some (.lst []) ∧ Same H13 H') ⟨upd_same, same_upd nD⟩ (fun i H' _ ⟨_, e⟩ => .inl (.inl (e _ _ hl))) ?_ ?_
    · rintro i x H' hx ⟨h1, h2⟩
      obtain ⟨b, rfl⟩ : ∃ b : Bool, x = .bl b := by
        match i, hx with
        | 0, hx => exact ⟨_, (Option.some.inj hx).symm⟩
        | 1, hx => exact ⟨_, (Option.some.inj hx).symm⟩
        | i + 2, hx => simp at hx
      exact ⟨rfl, _, rfl, _, .ty "bool", .type "bool", .type "bool", true, rfl, .ty _, .base (.bl b), kit_ty (by decide +kernel), _, rfl, iteF ⟨h1, h2⟩⟩
    rintro H14 ⟨h1, h2⟩
    refine ⟨by decide, fun e1 ne1 => ?_⟩
    have s15 := same_upd (o := .lst []) ne1
    have S15 := (S13.trans h2).trans s15
    refine ⟨_, _, .lst (.inl (.inl (s15 _ _ h1))) .nil, .lst sql_upd .nil, rfl, rfl, _, rfl, iteE (by rw [SeqAt.eqv_refl _ rfl]; rfl) ?_⟩
    refine ⟨_, rfl, _, rfl, _, rfl, a, c, t1, t2, b1, b2, rfl, Same.tup S15 hA, Same.tup S15 hC, z1, z2, ?_⟩
    refine ⟨_, rfl, _, rfl, c, a, t2, t1, b2, b1, rfl, Same.tup S15 hC, Same.tup S15 hA, z2, z1, ?_⟩
    refine ⟨by show 2 ≤ sizeLine; decide, fun l2 nl2 => ?_⟩
    have s16 := same_upd (o := .lst [.bl (decide (t1 * (b2 : Int) < t2 * (b1 : Int))), .bl (decide (t2 * (b1 : Int) < t1 * (b2 : Int)))]) nl2
    refine ⟨_, _, .lst (.inl (.inl (s16 _ _ (s15 _ _ (h2 _ _ hl))))) (.cons (.bl _) (.cons (.bl _) .nil)), .lst sql_upd (.cons (.bl _) (.cons (.bl _) .nil)), rfl, rfl, ?_⟩
    rw [SeqAt.eqv_refl _ rfl]
    exact q _ (S15.trans s16)
end
end B

namespace B
open PySem PySem.Spec PyProof.Rows L2

def sp_law (K : PySem.W.Frag) : Sp := fun vs H Q _ => ∃ (a : Addr) (ns : List Int), vs = [.ref a] ∧ SqL K H a (ns.map V.int) ∧ ns.length ≤ 63 ∧ (∀ z ∈ ns, Builtin.Int.intBits z ≤ 1048576) ∧ ∀ H', Q (.bl true) H'

section
variable {P : Program} {w : World} {K : PySem.W.Frag} {mg : Str → Option Value} {base : Heap}
theorem ok_law (T : Tx K mg) : FnOk P w K mg base CX0 5 T.law.f T.law.fd ["_law_script"] (sp_law K) := by
  refine T.law.F.ok sc_law (fun vs H Q E h => ?_) (fun cdv A outer s H vs Q E hr h => ?_)
  · obtain ⟨a, ns, rfl, hS, hlen, _, q⟩ := h
    rfl
  · obtain ⟨a, ns, rfl, hS, hlen, _, q⟩ := h
    refine ⟨_, (pss_cons (ps_set (i := 1) sc_law.nd rfl (.inl rfl) (pe_call (ok_l_draws T) (hr.mono (by decide)) (by rfl) T.l_draws.g T.l_draws.F.kp T.l_draws.b .nil pass0 (pa_cons (pv 0) pa_nil)))
      (pss_cons (ps_set (i := 2) sc_law.nd rfl (.inl rfl) (pe_tup (pa_cons pe_int (pa_cons pe_int pa_nil))))
      (pss_cons (ps_set (i := 3) sc_law.nd rfl (.inl rfl) (pe_tup (pa_cons pe_int (pa_cons pe_int pa_nil))))
      (pss_cons (ps_set (i := 4) sc_law.nd rfl (.inl rfl) (pe_lst (pa_cons (pe_tup (pa_cons pe_int (pa_cons pe_int pa_nil))) (pa_cons (pe_tup (pa_cons pe_int (pa_cons pe_int pa_nil))) pa_nil))))
      (pss_cons (ps_for PassesOwn.never rfl (pi_range1 (by rfl) T.m_range (pa_cons pe_int pa_nil)) (pg_name (i := 5) sc_law.nd rfl (.inl rfl))
      (pss_cons (ps_set (i := 6) sc_law.nd rfl (.inl rfl) (pe_call (ok_l_fraction T) (hr.mono (by decide)) (by rfl) T.l_fraction.g T.l_fraction.F.kp T.l_fraction.b .nil pass0 (pa_cons (pv 1) pa_nil)))
      (pss_cons (ps_set (i := 7) sc_law.nd rfl (.inl rfl) (pe_call (ok_l_second T) (hr.mono (by decide)) (by rfl) T.l_second.g T.l_second.F.kp T.l_second.b .nil pass0 (pa_cons (pv 1) (pa_cons (pv 6) pa_nil))))
      (pss_cons (ps_if (PW.pt (pw_or (pt_not (pt_val (pe_call (ok_l_right T) (hr.mono (by decide)) (by rfl) T.l_right.g T.l_right.F.kp T.l_right.b .nil pass0 (pa_cons (pv 6) (pa_cons (pv 7) pa_nil))))) (pw_or (pt_not (pt_val (pe_call (ok_l_right T) (hr.mono (by decide)) (by rfl) T.l_right.g T.l_right.F.kp T.l_right.b .nil pass0 (pa_cons (pv 7) (pa_cons (pv 6) pa_nil))))) (pw_or1 (pt_not (pt_val (pe_call (ok_l_right T) (hr.mono (by decide)) (by rfl) T.l_right.g T.l_right.F.kp T.l_right.b .nil pass0 (pa_cons (pv 6) (pa_cons (pv 7) pa_nil))))))))) (pss_one (ps_ret pe_bl)) pss_nil)
      (pss_cons (ps_set (i := 2) sc_law.nd rfl (.inl rfl) (pe_call (ok_plus T) (hr.mono (by decide)) (by rfl) T.plus.g T.plus.F.kp T.plus.b .nil pass0 (pa_cons (pv 2) (pa_cons (pv 6) pa_nil))))
      (pss_cons (ps_set (i := 3) sc_law.nd rfl (.inl rfl) (pe_call (ok_times T) (hr.mono (by decide)) (by rfl) T.times.g T.times.F.kp T.times.b .nil pass0 (pa_cons (pv 3) (pa_cons (pv 7) pa_nil))))
      (pss_cons (ps_set (i := 4) sc_law.nd rfl (.inl rfl) (pe_lst (pa_cons (pe_call (ok_l_plus T) (hr.mono (by decide)) (by rfl) T.l_plus.g T.l_plus.F.kp T.l_plus.b .nil pass0 (pa_cons (pe_ix ix_list (pv 4) pe_int (fun _ _ => rfl)) (pa_cons (pv 6) pa_nil))) (pa_cons (pe_call (ok_l_times T) (hr.mono (by decide)) (by rfl) T.l_times.g T.l_times.F.kp T.l_times.b .nil pass0 (pa_cons (pe_ix ix_list (pv 4) pe_int (fun _ _ => rfl)) (pa_cons (pv 7) pa_nil))) pa_nil))))
      (pss_one (ps_if (PW.pt (pw_or (pt_not (pt_val (pe_call (ok_l_is T) (hr.mono (by decide)) (by rfl) T.l_is.g T.l_is.F.kp T.l_is.b .nil pass0 (pa_cons (pv 2) (pa_cons (pe_ix ix_list (pv 4) pe_int (fun _ _ => rfl)) pa_nil))))) (pw_or (pt_not (pt_val (pe_call (ok_l_is T) (hr.mono (by decide)) (by rfl) T.l_is.g T.l_is.F.kp T.l_is.b .nil pass0 (pa_cons (pv 3) (pa_cons (pe_ix ix_list (pv 4) pe_int (fun _ _ => rfl)) pa_nil))))) (pw_or1 (pt_not (pt_val (pe_call (ok_l_right T) (hr.mono (by decide)) (by rfl) T.l_right.g T.l_right.F.kp T.l_right.b .nil pass0 (pa_cons (pv 2) (pa_cons (pv 3) pa_nil))))))))) (pss_one (ps_ret pe_bl)) pss_nil)))))))))
      (pss_one (ps_ret pe_bl))))))), ?_⟩
    refine ⟨_, rfl, a, ns, rfl, hS, hlen, fun H1 d w1 _ _ _ => ?_⟩
    refine ⟨by decide, fun p1 n1 => ?_⟩
    refine ⟨by decide, fun p2 n2 => ?_⟩
    refine ⟨by decide, fun p3 n3 => ?_⟩
    refine ⟨by decide, fun p4 n4 => ?_⟩
    refine ⟨by show 2 ≤ sizeLine; decide, fun l nl => ?_⟩
    have S1 := same_upd (o := .tup [.int 0, .int 1]) n1
    have S2 := S1.trans (same_upd (o := .tup [.int 1, .int 1]) n2)
    have S3 := S2.trans (same_upd (o := .tup [.int 0, .int 1]) n3)
    have S4 := S3.trans (same_upd (o := .tup [.int 1, .int 1]) n4)
    have S5 := S4.trans (same_upd (o := .lst [.ref p3, .ref p4]) nl)
    refine ⟨6, rfl, by decide, by decide, for_range (lo := 0) (n := 6) (fun i σ H' => ∃ x5 x6 x7, ∃ (pt pp pd ld dp : Addr) (T P : Int) (B C : Nat), σ = [some (.ref a), some (.ref d.dr), some (.ref pt), some (.ref pp), some (.ref ld), x5, x6, x7] ∧ SqT K H' pt [.int T, .int B] ∧ SqT K H' pp [.int P, .int C] ∧ H' ld = some (.lst [.ref pd, .ref dp]) ∧ ld ≠ d.dr ∧ ld ≠ d.rs ∧ SqT K H' pd [.int T, .int B] ∧ SqT K H' dp [.int P, .int C] ∧ IsF T B ∧ IsF P C ∧ Fz T B (100 * i + 100) ∧ Fz P C (100 * i + 100) ∧ Drw H' d (600 - 100 * i)) ?_ ?_ ?_⟩
    · have w4 := ((((w1.upd (o := .tup [.int 0, .int 1]) n1).upd (o := .tup [.int 1, .int 1]) n2).upd (o := .tup [.int 0, .int 1]) n3).upd (o := .tup [.int 1, .int 1]) n4)
      have s2 := same_upd (o := .tup [.int 1, .int 1]) n2
      have s3 := same_upd (o := .tup [.int 0, .int 1]) n3
      have s4 := same_upd (o := .tup [.int 1, .int 1]) n4
      have s5 := same_upd (o := .lst [.ref p3, .ref p4]) nl
      have F0 : IsF 0 1 := ⟨by decide, by decide⟩
      have F1 : IsF 1 1 := ⟨by decide, by decide⟩
      refine ⟨none, none, none, p1, p2, p3, l, p4, 0, 1, 1, 1, rfl, Same.tup (((s2.trans s3).trans s4).trans s5) sqt_upd, Same.tup ((s3.trans s4).trans s5) sqt_upd, upd_same, (w4.no nl).1, (w4.no nl).2, Same.tup (s4.trans s5) sqt_upd, Same.tup s5 sqt_upd, F0, F1, ⟨by decide, by decide⟩, ⟨by decide, by decide⟩, (w4.upd nl).less (by omega)⟩
    · rintro i σ H2 hi ⟨x5, x6, x7, pt, pp, pd, ld, dp, T, P, B, C, rfl, hT, hP, hL, l1, l2, hd1, hd2, fT, fP, zT, zP, w2⟩
      refine ⟨_, rfl, d, 500 - 100 * i + 50, rfl, w2.less (by omega), fun H3 p t b h1 F z w3 k3 => ?_⟩
      refine ⟨_, rfl, _, rfl, d, 500 - 100 * i + 20, p, t, b, rfl, .inl (.inl h1), F, z, w3.less (by omega), fun H4 p' t2 b2 h2 F2 z2 w4 k4 => ?_⟩
      have K4 := k3.trans k4
      have hA := Kp.tup k4 w3 (K := K) (.inl (.inl h1))
      have hT4 := Kp.tup K4 w2 hT
      have hP4 := Kp.tup K4 w2 hP
      have hd14 := Kp.tup K4 w2 hd1
      have hd24 := Kp.tup K4 w2 hd2
      have hL4 := K4 _ _ hL l1 l2
      have y := z.more (show 80 ≤ 3000 by decide)
      have y2 := z2.more (show 80 ≤ 3000 by decide)
      refine ⟨_, rfl, _, rfl, p, p', t, t2, b, b2, rfl, hA, h2, F, F2, y, y2, fun H5 s5 => ⟨_, rfl, iteF ?_⟩⟩
      refine ⟨_, rfl, _, rfl, p', p, t2, t, b2, b, rfl, Same.tup s5 h2, Same.tup s5 hA, F2, F, y2, y, fun H6 s6 => ⟨_, rfl, iteF ?_⟩⟩
      have S6 := s5.trans s6
      refine ⟨_, rfl, _, rfl, p, p', t, t2, b, b2, rfl, Same.tup S6 hA, Same.tup S6 h2, F, F2, y, y2, fun H7 s7 => ⟨_, rfl, iteF ?_⟩⟩
      have S7 := S6.trans s7
      have w7 := w4.same S7
      have u1 := zT.more (show 100 * i + 100 ≤ 4000 by omega)
      have u2 := zP.more (show 100 * i + 100 ≤ 4000 by omega)
      have v1 := z.more (show 80 ≤ 4000 by decide)
      have v2 := z2.more (show 80 ≤ 4000 by decide)
      refine ⟨_, rfl, _, rfl, pt, p, T, t, B, b, rfl, Same.tup S7 hT4, Same.tup S7 hA, fT, F, u1, v1, fun q1 nq1 => ?_⟩
      have s8 := same_upd (o := .tup [.int (addT T B t b), .int (addB T B t b)]) nq1
      have S8 := S7.trans s8
      refine ⟨_, rfl, _, rfl, pp, p', P, t2, C, b2, rfl, Same.tup S8 hP4, Same.tup S8 h2, fP, F2, u2, v2, fun q2 nq2 => ?_⟩
      have s9 := same_upd (o := .tup [.int (mulT P C t2 b2), .int (mulB P C t2 b2)]) nq2
      have S9 := S8.trans s9
      refine ⟨_, rfl, ld, _, 0, .ref pd, rfl, rfl, .inl (.inl (S9 _ _ hL4)), rfl, _, rfl, pd, p, T, t, B, b, rfl, Same.tup S9 hd14, Same.tup S9 hA, fT, F, u1, v1, fun q3 nq3 => ?_⟩
      have s10 := same_upd (o := .tup [.int (addT T B t b), .int (addB T B t b)]) nq3
      have S10 := S9.trans s10
      refine ⟨_, rfl, ld, _, 1, .ref dp, rfl, rfl, .inl (.inl (S10 _ _ hL4)), rfl, _, rfl, dp, p', P, t2, C, b2, rfl, Same.tup S10 hd24, Same.tup S10 h2, fP, F2, u2, v2, fun q4 nq4 => ?_⟩
      have s11 := same_upd (o := .tup [.int (mulT P C t2 b2), .int (mulB P C t2 b2)]) nq4
      have S11 := S10.trans s11
      refine ⟨by show 2 ≤ sizeLine; decide, fun ll nll => ?_⟩
      have s12 := same_upd (o := .lst [.ref q3, .ref q4]) nll
      have w11 := w4.same S11
      have S12 := S11.trans s12
      have aF : IsF (addT T B t b) (addB T B t b) := add_isF fT.pos F.pos
      have mF : IsF (mulT P C t2 b2) (mulB P C t2 b2) := mul_isF fP.pos F2.pos
      have aZ : Fz (addT T B t b) (addB T B t b) (100 * (i + 1) + 100) := (add_z fT.pos F.pos zT z).more (by omega)
      have mZ : Fz (mulT P C t2 b2) (mulB P C t2 b2) (100 * (i + 1) + 100) := (mul_z fP.pos F2.pos zP z2).more (by omega)
      have r1 := Same.tup (((s9.trans s10).trans s11).trans s12) (sqt_upd (K := K) (H := H7) (p := q1) (xs := [.int (addT T B t b), .int (addB T B t b)]))
      have r2 := Same.tup ((s10.trans s11).trans s12) (sqt_upd (K := K) (H := upd H7 q1 (.tup [.int (addT T B t b), .int (addB T B t b)])) (p := q2) (xs := [.int (mulT P C t2 b2), .int (mulB P C t2 b2)]))
      have r3 := Same.tup (s11.trans s12) (sqt_upd (K := K) (p := q3) (H := upd (upd H7 q1 (.tup [.int (addT T B t b), .int (addB T B t b)])) q2 (.tup [.int (mulT P C t2 b2), .int (mulB P C t2 b2)])) (xs := [.int (addT T B t b), .int (addB T B t b)]))
      have r4 := Same.tup s12 (sqt_upd (K := K) (p := q4) (xs := [.int (mulT P C t2 b2), .int (mulB P C t2 b2)]))
      have nn := w11.no nll
      refine ⟨_, rfl, _, rfl, ll, _, 0, .ref q3, rfl, rfl, sql_upd, rfl, q1, q3, _, _, rfl, r1, r3, aF, aZ.more (by omega), fun H13 s13 => ⟨_, rfl, iteF ?_⟩⟩
      refine ⟨_, rfl, _, rfl, ll, _, 1, .ref q4, rfl, rfl, .inl (.inl (s13 _ _ upd_same)), rfl, q2, q4, _, _, rfl, Same.tup s13 r2, Same.tup s13 r4, mF, mZ.more (by omega), fun H14 s14 => ⟨_, rfl, iteF ?_⟩⟩
      have S14 := s13.trans s14
      refine ⟨_, rfl, _, rfl, q1, q2, _, _, _, _, rfl, Same.tup S14 r1, Same.tup S14 r2, aF, mF, aZ.more (by omega), mZ.more (by omega), fun H15 s15 => ⟨_, rfl, iteF ?_⟩⟩
      have S15 := S14.trans s15
      exact ⟨_, _, _, q1, q2, q3, ll, q4, _, _, _, _, rfl, Same.tup S15 r1, Same.tup S15 r2, S15 _ _ upd_same, nn.1, nn.2, Same.tup S15 r3, Same.tup S15 r4, aF, mF, aZ, mZ, ((w11.upd nll).same S15).less (by omega)⟩
    · rintro σ H2 ⟨x5, x6, x7, pt, pp, pd, ld, dp, T, P, B, C, rfl, _⟩
      exact q _
end
end B
namespace B
open PySem PySem.Spec PyProof.Rows L2
theorem all_mk {l : PySem.W.OpenLaw} {w : World} {K : PySem.W.Frag} {h : Heap} {mg : Str → Option Value} {fa : Addr} (X : K.In h) (G : h.Ns mainGlobals mg) (hfa : mg "law" = some (.ref fa))
    {f0 : Addr} {od0 an0 : Option Addr} {sl0 : Array (Option Value)} {oc0 kV0 dc0 pm0 cd0 ct0 : Value} (a0 : PySem.W.nsIn K mainGlobals "common" = some (some (.ref f0))) (l0 : K.lookup f0 = some ⟨oc0, od0, .func (PySem.W.fnOf "common" "common" (defArgs s_common) (defBody s_common) (defScope s_common) .none kV0 dc0 pm0 an0 cd0 ct0), sl0⟩) (c0 : PySem.W.codeIn K cd0 "common" = true) (k0 : PySem.W.keepIn K (.ref f0) = true)
    {f1 : Addr} {od1 an1 : Option Addr} {sl1 : Array (Option Value)} {oc1 kV1 dc1 pm1 cd1 ct1 : Value} (a1 : PySem.W.nsIn K mainGlobals "plus" = some (some (.ref f1))) (l1 : K.lookup f1 = some ⟨oc1, od1, .func (PySem.W.fnOf "plus" "plus" (defArgs s_plus) (defBody s_plus) (defScope s_plus) .none kV1 dc1 pm1 an1 cd1 ct1), sl1⟩) (c1 : PySem.W.codeIn K cd1 "plus" = true) (k1 : PySem.W.keepIn K (.ref f1) = true)
    {f2 : Addr} {od2 an2 : Option Addr} {sl2 : Array (Option Value)} {oc2 kV2 dc2 pm2 cd2 ct2 : Value} (a2 : PySem.W.nsIn K mainGlobals "times" = some (some (.ref f2))) (l2 : K.lookup f2 = some ⟨oc2, od2, .func (PySem.W.fnOf "times" "times" (defArgs s_times) (defBody s_times) (defScope s_times) .none kV2 dc2 pm2 an2 cd2 ct2), sl2⟩) (c2 : PySem.W.codeIn K cd2 "times" = true) (k2 : PySem.W.keepIn K (.ref f2) = true)
    {f3 : Addr} {od3 an3 : Option Addr} {sl3 : Array (Option Value)} {oc3 kV3 dc3 pm3 cd3 ct3 : Value} (a3 : PySem.W.nsIn K mainGlobals "turned_about" = some (some (.ref f3))) (l3 : K.lookup f3 = some ⟨oc3, od3, .func (PySem.W.fnOf "turned_about" "turned_about" (defArgs s_turned_about) (defBody s_turned_about) (defScope s_turned_about) .none kV3 dc3 pm3 an3 cd3 ct3), sl3⟩) (c3 : PySem.W.codeIn K cd3 "turned_about" = true) (k3 : PySem.W.keepIn K (.ref f3) = true)
    {f4 : Addr} {od4 an4 : Option Addr} {sl4 : Array (Option Value)} {oc4 kV4 dc4 pm4 cd4 ct4 : Value} (a4 : PySem.W.nsIn K mainGlobals "less" = some (some (.ref f4))) (l4 : K.lookup f4 = some ⟨oc4, od4, .func (PySem.W.fnOf "less" "less" (defArgs s_less) (defBody s_less) (defScope s_less) .none kV4 dc4 pm4 an4 cd4 ct4), sl4⟩) (c4 : PySem.W.codeIn K cd4 "less" = true) (k4 : PySem.W.keepIn K (.ref f4) = true)
    {f5 : Addr} {od5 an5 : Option Addr} {sl5 : Array (Option Value)} {oc5 kV5 dc5 pm5 cd5 ct5 : Value} (a5 : PySem.W.nsIn K mainGlobals "_law_draws" = some (some (.ref f5))) (l5 : K.lookup f5 = some ⟨oc5, od5, .func (PySem.W.fnOf "_law_draws" "_law_draws" (defArgs s_l_draws) (defBody s_l_draws) (defScope s_l_draws) .none kV5 dc5 pm5 an5 cd5 ct5), sl5⟩) (c5 : PySem.W.codeIn K cd5 "_law_draws" = true) (k5 : PySem.W.keepIn K (.ref f5) = true)
    {f6 : Addr} {od6 an6 : Option Addr} {sl6 : Array (Option Value)} {oc6 kV6 dc6 pm6 cd6 ct6 : Value} (a6 : PySem.W.nsIn K mainGlobals "_law_next" = some (some (.ref f6))) (l6 : K.lookup f6 = some ⟨oc6, od6, .func (PySem.W.fnOf "_law_next" "_law_next" (defArgs s_l_next) (defBody s_l_next) (defScope s_l_next) .none kV6 dc6 pm6 an6 cd6 ct6), sl6⟩) (c6 : PySem.W.codeIn K cd6 "_law_next" = true) (k6 : PySem.W.keepIn K (.ref f6) = true)
    {f7 : Addr} {od7 an7 : Option Addr} {sl7 : Array (Option Value)} {oc7 kV7 dc7 pm7 cd7 ct7 : Value} (a7 : PySem.W.nsIn K mainGlobals "_law_whole" = some (some (.ref f7))) (l7 : K.lookup f7 = some ⟨oc7, od7, .func (PySem.W.fnOf "_law_whole" "_law_whole" (defArgs s_l_whole) (defBody s_l_whole) (defScope s_l_whole) .none kV7 dc7 pm7 an7 cd7 ct7), sl7⟩) (c7 : PySem.W.codeIn K cd7 "_law_whole" = true) (k7 : PySem.W.keepIn K (.ref f7) = true)
    {f8 : Addr} {od8 an8 : Option Addr} {sl8 : Array (Option Value)} {oc8 kV8 dc8 pm8 cd8 ct8 : Value} (a8 : PySem.W.nsIn K mainGlobals "_law_lowest" = some (some (.ref f8))) (l8 : K.lookup f8 = some ⟨oc8, od8, .func (PySem.W.fnOf "_law_lowest" "_law_lowest" (defArgs s_l_lowest) (defBody s_l_lowest) (defScope s_l_lowest) .none kV8 dc8 pm8 an8 cd8 ct8), sl8⟩) (c8 : PySem.W.codeIn K cd8 "_law_lowest" = true) (k8 : PySem.W.keepIn K (.ref f8) = true)
    {f9 : Addr} {od9 an9 : Option Addr} {sl9 : Array (Option Value)} {oc9 kV9 dc9 pm9 cd9 ct9 : Value} (a9 : PySem.W.nsIn K mainGlobals "_law_plus" = some (some (.ref f9))) (l9 : K.lookup f9 = some ⟨oc9, od9, .func (PySem.W.fnOf "_law_plus" "_law_plus" (defArgs s_l_plus) (defBody s_l_plus) (defScope s_l_plus) .none kV9 dc9 pm9 an9 cd9 ct9), sl9⟩) (c9 : PySem.W.codeIn K cd9 "_law_plus" = true) (k9 : PySem.W.keepIn K (.ref f9) = true)
    {f10 : Addr} {od10 an10 : Option Addr} {sl10 : Array (Option Value)} {oc10 kV10 dc10 pm10 cd10 ct10 : Value} (a10 : PySem.W.nsIn K mainGlobals "_law_times" = some (some (.ref f10))) (l10 : K.lookup f10 = some ⟨oc10, od10, .func (PySem.W.fnOf "_law_times" "_law_times" (defArgs s_l_times) (defBody s_l_times) (defScope s_l_times) .none kV10 dc10 pm10 an10 cd10 ct10), sl10⟩) (c10 : PySem.W.codeIn K cd10 "_law_times" = true) (k10 : PySem.W.keepIn K (.ref f10) = true)
    {f11 : Addr} {od11 an11 : Option Addr} {sl11 : Array (Option Value)} {oc11 kV11 dc11 pm11 cd11 ct11 : Value} (a11 : PySem.W.nsIn K mainGlobals "_law_less" = some (some (.ref f11))) (l11 : K.lookup f11 = some ⟨oc11, od11, .func (PySem.W.fnOf "_law_less" "_law_less" (defArgs s_l_less) (defBody s_l_less) (defScope s_l_less) .none kV11 dc11 pm11 an11 cd11 ct11), sl11⟩) (c11 : PySem.W.codeIn K cd11 "_law_less" = true) (k11 : PySem.W.keepIn K (.ref f11) = true)
    {f12 : Addr} {od12 an12 : Option Addr} {sl12 : Array (Option Value)} {oc12 kV12 dc12 pm12 cd12 ct12 : Value} (a12 : PySem.W.nsIn K mainGlobals "_law_is_fraction" = some (some (.ref f12))) (l12 : K.lookup f12 = some ⟨oc12, od12, .func (PySem.W.fnOf "_law_is_fraction" "_law_is_fraction" (defArgs s_l_is_fraction) (defBody s_l_is_fraction) (defScope s_l_is_fraction) .none kV12 dc12 pm12 an12 cd12 ct12), sl12⟩) (c12 : PySem.W.codeIn K cd12 "_law_is_fraction" = true) (k12 : PySem.W.keepIn K (.ref f12) = true)
    {f13 : Addr} {od13 an13 : Option Addr} {sl13 : Array (Option Value)} {oc13 kV13 dc13 pm13 cd13 ct13 : Value} (a13 : PySem.W.nsIn K mainGlobals "_law_fraction" = some (some (.ref f13))) (l13 : K.lookup f13 = some ⟨oc13, od13, .func (PySem.W.fnOf "_law_fraction" "_law_fraction" (defArgs s_l_fraction) (defBody s_l_fraction) (defScope s_l_fraction) .none kV13 dc13 pm13 an13 cd13 ct13), sl13⟩) (c13 : PySem.W.codeIn K cd13 "_law_fraction" = true) (k13 : PySem.W.keepIn K (.ref f13) = true)
    {f14 : Addr} {od14 an14 : Option Addr} {sl14 : Array (Option Value)} {oc14 kV14 dc14 pm14 cd14 ct14 : Value} (a14 : PySem.W.nsIn K mainGlobals "_law_second" = some (some (.ref f14))) (l14 : K.lookup f14 = some ⟨oc14, od14, .func (PySem.W.fnOf "_law_second" "_law_second" (defArgs s_l_second) (defBody s_l_second) (defScope s_l_second) .none kV14 dc14 pm14 an14 cd14 ct14), sl14⟩) (c14 : PySem.W.codeIn K cd14 "_law_second" = true) (k14 : PySem.W.keepIn K (.ref f14) = true)
    {f15 : Addr} {od15 an15 : Option Addr} {sl15 : Array (Option Value)} {oc15 kV15 dc15 pm15 cd15 ct15 : Value} (a15 : PySem.W.nsIn K mainGlobals "_law_is" = some (some (.ref f15))) (l15 : K.lookup f15 = some ⟨oc15, od15, .func (PySem.W.fnOf "_law_is" "_law_is" (defArgs s_l_is) (defBody s_l_is) (defScope s_l_is) .none kV15 dc15 pm15 an15 cd15 ct15), sl15⟩) (c15 : PySem.W.codeIn K cd15 "_law_is" = true) (k15 : PySem.W.keepIn K (.ref f15) = true)
    {f16 : Addr} {od16 an16 : Option Addr} {sl16 : Array (Option Value)} {oc16 kV16 dc16 pm16 cd16 ct16 : Value} (a16 : PySem.W.nsIn K mainGlobals "_law_right" = some (some (.ref f16))) (l16 : K.lookup f16 = some ⟨oc16, od16, .func (PySem.W.fnOf "_law_right" "_law_right" (defArgs s_l_right) (defBody s_l_right) (defScope s_l_right) .none kV16 dc16 pm16 an16 cd16 ct16), sl16⟩) (c16 : PySem.W.codeIn K cd16 "_law_right" = true) (k16 : PySem.W.keepIn K (.ref f16) = true)
    {f17 : Addr} {od17 an17 : Option Addr} {sl17 : Array (Option Value)} {oc17 kV17 dc17 pm17 cd17 ct17 : Value} (a17 : PySem.W.nsIn K mainGlobals "law" = some (some (.ref f17))) (l17 : K.lookup f17 = some ⟨oc17, od17, .func (PySem.W.fnOf "law" "law" (defArgs s_law) (defBody s_law) (defScope s_law) .none kV17 dc17 pm17 an17 cd17 ct17), sl17⟩) (c17 : PySem.W.codeIn K cd17 "law" = true) (k17 : PySem.W.keepIn K (.ref f17) = true)
    (z_abs : PySem.W.nsIn K mainGlobals "abs" = some none)
    (z_bool : PySem.W.nsIn K mainGlobals "bool" = some none)
    (z_int : PySem.W.nsIn K mainGlobals "int" = some none)
    (z_isinstance : PySem.W.nsIn K mainGlobals "isinstance" = some none)
    (z_len : PySem.W.nsIn K mainGlobals "len" = some none)
    (z_list : PySem.W.nsIn K mainGlobals "list" = some none)
    (z_range : PySem.W.nsIn K mainGlobals "range" = some none)
    (z_tuple : PySem.W.nsIn K mainGlobals "tuple" = some none)
    : ∃ fd : FuncData, (∀ (s : Shared) (v : Value), BindsTo s fd ⟨[v], []⟩ [("_law_script", v)]) ∧ ∀ base : Heap, K.In base → base.Ns mainGlobals mg → FnOk l.prog w K mg base CX0 5 fa fd ["_law_script"] (sp_law K) := by
  have e := hfa.symm.trans (PySem.W.mg_of X G a17)
  cases e
  have F0 := fun_mk (st := s_common) l0 c0 k0
  have b0 := F0.binds (ps := ["one", "other"]) fun _ _ _ _ _ _ us hl => match us, hl with | [_, _], _ => rfl
  have F1 := fun_mk (st := s_plus) l1 c1 k1
  have b1 := F1.binds (ps := ["one", "other"]) fun _ _ _ _ _ _ us hl => match us, hl with | [_, _], _ => rfl
  have F2 := fun_mk (st := s_times) l2 c2 k2
  have b2 := F2.binds (ps := ["one", "other"]) fun _ _ _ _ _ _ us hl => match us, hl with | [_, _], _ => rfl
  have F3 := fun_mk (st := s_turned_about) l3 c3 k3
  have b3 := F3.binds (ps := ["one"]) fun _ _ _ _ _ _ us hl => match us, hl with | [_], _ => rfl
  have F4 := fun_mk (st := s_less) l4 c4 k4
  have b4 := F4.binds (ps := ["one", "other"]) fun _ _ _ _ _ _ us hl => match us, hl with | [_, _], _ => rfl
  have F5 := fun_mk (st := s_l_draws) l5 c5 k5
  have b5 := F5.binds (ps := ["_law_script"]) fun _ _ _ _ _ _ us hl => match us, hl with | [_], _ => rfl
  have F6 := fun_mk (st := s_l_next) l6 c6 k6
  have b6 := F6.binds (ps := ["_law_drawn", "_law_many"]) fun _ _ _ _ _ _ us hl => match us, hl with | [_, _], _ => rfl
  have F7 := fun_mk (st := s_l_whole) l7 c7 k7
  have b7 := F7.binds (ps := ["_law_thing"]) fun _ _ _ _ _ _ us hl => match us, hl with | [_], _ => rfl
  have F8 := fun_mk (st := s_l_lowest) l8 c8 k8
  have b8 := F8.binds (ps := ["_law_top", "_law_bottom"]) fun _ _ _ _ _ _ us hl => match us, hl with | [_, _], _ => rfl
  have F9 := fun_mk (st := s_l_plus) l9 c9 k9
  have b9 := F9.binds (ps := ["_law_one", "_law_other"]) fun _ _ _ _ _ _ us hl => match us, hl with | [_, _], _ => rfl
  have F10 := fun_mk (st := s_l_times) l10 c10 k10
  have b10 := F10.binds (ps := ["_law_one", "_law_other"]) fun _ _ _ _ _ _ us hl => match us, hl with | [_, _], _ => rfl
  have F11 := fun_mk (st := s_l_less) l11 c11 k11
  have b11 := F11.binds (ps := ["_law_one", "_law_other"]) fun _ _ _ _ _ _ us hl => match us, hl with | [_, _], _ => rfl
  have F12 := fun_mk (st := s_l_is_fraction) l12 c12 k12
  have b12 := F12.binds (ps := ["_law_thing"]) fun _ _ _ _ _ _ us hl => match us, hl with | [_], _ => rfl
  have F13 := fun_mk (st := s_l_fraction) l13 c13 k13
  have b13 := F13.binds (ps := ["_law_drawn"]) fun _ _ _ _ _ _ us hl => match us, hl with | [_], _ => rfl
  have F14 := fun_mk (st := s_l_second) l14 c14 k14
  have b14 := F14.binds (ps := ["_law_drawn", "_law_one"]) fun _ _ _ _ _ _ us hl => match us, hl with | [_, _], _ => rfl
  have F15 := fun_mk (st := s_l_is) l15 c15 k15
  have b15 := F15.binds (ps := ["_law_found", "_law_due"]) fun _ _ _ _ _ _ us hl => match us, hl with | [_, _], _ => rfl
  have F16 := fun_mk (st := s_l_right) l16 c16 k16
  have b16 := F16.binds (ps := ["_law_one", "_law_other"]) fun _ _ _ _ _ _ us hl => match us, hl with | [_, _], _ => rfl
  have F17 := fun_mk (st := s_law) l17 c17 k17
  have b17 := F17.binds (ps := ["_law_script"]) fun _ _ _ _ _ _ us hl => match us, hl with | [_], _ => rfl
  exact ⟨_, fun s v => .of_eq rfl, fun base _ _ => (ok_law ⟨⟨_, _, F0, b0, PySem.W.mg_of X G a0⟩, ⟨_, _, F1, b1, PySem.W.mg_of X G a1⟩, ⟨_, _, F2, b2, PySem.W.mg_of X G a2⟩, ⟨_, _, F3, b3, PySem.W.mg_of X G a3⟩, ⟨_, _, F4, b4, PySem.W.mg_of X G a4⟩, ⟨_, _, F5, b5, PySem.W.mg_of X G a5⟩, ⟨_, _, F6, b6, PySem.W.mg_of X G a6⟩, ⟨_, _, F7, b7, PySem.W.mg_of X G a7⟩, ⟨_, _, F8, b8, PySem.W.mg_of X G a8⟩, ⟨_, _, F9, b9, PySem.W.mg_of X G a9⟩, ⟨_, _, F10, b10, PySem.W.mg_of X G a10⟩, ⟨_, _, F11, b11, PySem.W.mg_of X G a11⟩, ⟨_, _, F12, b12, PySem.W.mg_of X G a12⟩, ⟨_, _, F13, b13, PySem.W.mg_of X G a13⟩, ⟨_, _, F14, b14, PySem.W.mg_of X G a14⟩, ⟨_, _, F15, b15, PySem.W.mg_of X G a15⟩, ⟨_, _, F16, b16, PySem.W.mg_of X G a16⟩, ⟨_, _, F17, b17, PySem.W.mg_of X G a17⟩, PySem.W.mg_none_of X G z_abs, PySem.W.mg_none_of X G z_bool, PySem.W.mg_none_of X G z_int, PySem.W.mg_none_of X G z_isinstance, PySem.W.mg_none_of X G z_len, PySem.W.mg_none_of X G z_list, PySem.W.mg_none_of X G z_range, PySem.W.mg_none_of X G z_tuple⟩)⟩
end B
open PySem PySem.W PyProof.Rows
set_option maxRecDepth 100000 in
set_option maxHeartbeats 0 in
theorem PySem.Challenge.cw_betstall_k01_sums_products_order_holds : PySem.Challenge.rw_betstall_k01_sums_products_order.Holds := by
  w_on; o_law; k_head; (case hw => w_witness2)
  k_fill
  refine L2.walk_ofB (l := PySem.Challenge.rw_betstall_k01_sums_products_order) (n := 63) (k := 5) (x := "_law_script") (CX := fun _ => L2.CX0) (sp := fun w => B.sp_law _) rfl (by decide) rfl ⟨rfl, by decide, by decide⟩ (fun w h Y => PySem.W.kIn_of Y) ?F (fun _ _ a ns hl hb _ hS => ⟨a, ns, rfl, hS, hl, hb, fun _ => rfl⟩) (fun _ _ _ _ _ h => h)
  case F =>
    intro w mg fa h KX G hmg
    refine' B.all_mk KX G hmg ?a0 ?l0 ?c0 ?k0 ?a1 ?l1 ?c1 ?k1 ?a2 ?l2 ?c2 ?k2 ?a3 ?l3 ?c3 ?k3 ?a4 ?l4 ?c4 ?k4 ?a5 ?l5 ?c5 ?k5 ?a6 ?l6 ?c6 ?k6 ?a7 ?l7 ?c7 ?k7 ?a8 ?l8 ?c8 ?k8 ?a9 ?l9 ?c9 ?k9 ?a10 ?l10 ?c10 ?k10 ?a11 ?l11 ?c11 ?k11 ?a12 ?l12 ?c12 ?k12 ?a13 ?l13 ?c13 ?k13 ?a14 ?l14 ?c14 ?k14 ?a15 ?l15 ?c15 ?k15 ?a16 ?l16 ?c16 ?k16 ?a17 ?l17 ?c17 ?k17 ?z_abs ?z_bool ?z_int ?z_isinstance ?z_len ?z_list ?z_range ?z_tuple
    (case a0 => k_is); (case l0 => k_is); (case c0 => k_is); (case k0 => k_is); (case a1 => k_is); (case l1 => k_is); (case c1 => k_is); (case k1 => k_is); (case a2 => k_is); (case l2 => k_is); (case c2 => k_is); (case k2 => k_is); (case a3 => k_is); (case l3 => k_is); (case c3 => k_is); (case k3 => k_is); (case a4 => k_is); (case l4 => k_is); (case c4 => k_is); (case k4 => k_is); (case a5 => k_is); (case l5 => k_is); (case c5 => k_is); (case k5 => k_is); (case a6 => k_is); (case l6 => k_is); (case c6 => k_is); (case k6 => k_is); (case a7 => k_is); (case l7 => k_is); (case c7 => k_is); (case k7 => k_is); (case a8 => k_is); (case l8 => k_is); (case c8 => k_is); (case k8 => k_is); (case a9 => k_is); (case l9 => k_is); (case c9 => k_is); (case k9 => k_is); (case a10 => k_is); (case l10 => k_is); (case c10 => k_is); (case k10 => k_is); (case a11 => k_is); (case l11 => k_is); (case c11 => k_is); (case k11 => k_is); (case a12 => k_is); (case l12 => k_is); (case c12 => k_is); (case k12 => k_is); (case a13 => k_is); (case l13 => k_is); (case c13 => k_is); (case k13 => k_is); (case a14 => k_is); (case l14 => k_is); (case c14 => k_is); (case k14 => k_is); (case a15 => k_is); (case l15 => k_is); (case c15 => k_is); (case k15 => k_is); (case a16 => k_is); (case l16 => k_is); (case c16 => k_is); (case k16 => k_is); (case a17 => k_is); (case l17 => k_is); (case c17 => k_is); (case k17 => k_is); (case z_abs => k_is); (case z_bool => k_is); (case z_int => k_is); (case z_isinstance => k_is); (case z_len => k_is); (case z_list => k_is); (case z_range => k_is); (case z_tuple => k_is)
