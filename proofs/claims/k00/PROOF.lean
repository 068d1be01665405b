import PyProof.Rows.All
import Wide.All
import OpenK.AllK
import Wide.FinOn
import HandS.Base
import HandS.Call
import HandS.List
import HandS.Comp
import HandS.Ends
import HandS.Dict
import HandS.Iter
import HandS.Text
import HandS.Words
import HandS.TryOnly
import HandS.Wide
import HandS.IsInst
import HandS.EndBits
import HandS.Evl
import PySem.Challenge.RW_betstall_k00_fractions_in_lowest_terms
set_option Elab.async false
set_option linter.all false
set_option maxRecDepth 100000
set_option maxHeartbeats 4000000
namespace B
open PySem PySem.Spec PyProof.Rows L2
/-! ### a def of the text, by its place, its parameters, its name -/
structure Df (K : PySem.W.Frag) (mg : Str → Option Value) (x : Str) (st : Stmt) (ps : List Str) where
  f : Addr
  fd : FuncData
  F : Fun K x x st f fd
  b : Binds K fd ps []
  g : mg x = some (.ref f)
/-! ### heaps -/
theorem same_upd {H : Hp} {p : Addr} {o : HO} (h : H p = none) : Same H (upd H p o) := fun b x e => by
  rw [upd_ne (ne_of_none e h)]
  exact e
theorem Same.tup {K : PySem.W.Frag} {H H' : Hp} {a : Addr} {xs : List V} (e : Same H H') (h : SqT K H a xs) : SqT K H' a xs := by
  rcases h with (h | ⟨o, h⟩) | h
  · exact .inl (.inl (e _ _ h))
  · exact .inl (.inr ⟨o, e _ _ h⟩)
  · exact .inr h
theorem sqt_upd {K : PySem.W.Frag} {H : Hp} {p : Addr} {xs : List V} : SqT K (upd H p (.tup xs)) p xs := .inl (.inl upd_same)
theorem sql_upd {K : PySem.W.Frag} {H : Hp} {p : Addr} {xs : List V} : SqL K (upd H p (.lst xs)) p xs := .inl (.inl upd_same)
/-- the three objects of a row of draws -/
structure Dr where
  dr : Addr
  cl : Addr
  rs : Addr
/-- such a row stands at d, and b further draws may be asked -/
structure Drw (H : Hp) (d : Dr) (b : Nat) : Prop where
  ex : ∃ (cs rr : List Int) (c : Nat), H d.dr = some (.lst [.ref d.cl, .int c, .ref d.rs]) ∧ H d.cl = some (.lst (cs.map V.int)) ∧ H d.rs = some (.lst (rr.map V.int)) ∧ cs.length = rr.length ∧ 0 < cs.length ∧ cs.length ≤ 63 ∧ c + b ≤ 1000000
  ne : d.cl ≠ d.rs
/-- all else that was tracked is as it was -/
def Kp (d : Dr) (H H' : Hp) : Prop := ∀ b o, H b = some o → b ≠ d.dr → b ≠ d.rs → H' b = some o
theorem Kp.refl (d : Dr) (H : Hp) : Kp d H H := fun _ _ h _ _ => h
theorem Kp.trans {d : Dr} {H H1 H2 : Hp} (a : Kp d H H1) (b : Kp d H1 H2) : Kp d H H2 := fun x o h n m => b x o (a x o h n m) n m
theorem Same.kp {d : Dr} {H H' : Hp} (e : Same H H') : Kp d H H' := fun b o h _ _ => e b o h
theorem Kp.upd {d : Dr} {H H' : Hp} {p : Addr} {o : HO} (k : Kp d H H') (h : H p = none) : Kp d H (upd H' p o) := fun b x e n m => by
  rw [upd_ne (ne_of_none e h)]
  exact k b x e n m
theorem Drw.less {H : Hp} {d : Dr} {b c : Nat} (h : Drw H d b) (e : c ≤ b) : Drw H d c := by
  obtain ⟨⟨cs, rr, k, h1, h2, h3, h4, h5, h6, h7⟩, ne⟩ := h
  exact ⟨⟨cs, rr, k, h1, h2, h3, h4, h5, h6, by omega⟩, ne⟩
theorem Drw.same {H H' : Hp} {d : Dr} {b : Nat} (h : Drw H d b) (e : Same H H') : Drw H' d b := by
  obtain ⟨⟨cs, rr, k, h1, h2, h3, h4⟩, ne⟩ := h
  exact ⟨⟨cs, rr, k, e _ _ h1, e _ _ h2, e _ _ h3, h4⟩, ne⟩
theorem Drw.upd {H : Hp} {d : Dr} {b : Nat} {p : Addr} {o : HO} (h : Drw H d b) (n : H p = none) : Drw (upd H p o) d b := h.same (same_upd n)
theorem Drw.dr {H : Hp} {d : Dr} {b : Nat} (h : Drw H d b) : ∃ xs, H d.dr = some (.lst xs) := by
  obtain ⟨⟨cs, rr, k, h1, h2, h3, h4⟩, ne⟩ := h
  exact ⟨_, h1⟩
theorem Drw.rs {H : Hp} {d : Dr} {b : Nat} (h : Drw H d b) : ∃ xs, H d.rs = some (.lst xs) := by
  obtain ⟨⟨cs, rr, k, h1, h2, h3, h4⟩, ne⟩ := h
  exact ⟨_, h3⟩
theorem Drw.no {H : Hp} {d : Dr} {b : Nat} {p : Addr} (h : Drw H d b) (n : H p = none) : p ≠ d.dr ∧ p ≠ d.rs := by
  obtain ⟨x, hx⟩ := h.dr
  obtain ⟨y, hy⟩ := h.rs
  exact ⟨(ne_of_none hx n).symm, (ne_of_none hy n).symm⟩
/-- a tuple stays as it is, whatever is drawn -/
theorem Kp.tup {K : PySem.W.Frag} {d : Dr} {b : Nat} {H H' : Hp} {a : Addr} {xs : List V} (k : Kp d H H') (w : Drw H d b) (h : SqT K H a xs) : SqT K H' a xs := by
  obtain ⟨ys, hy⟩ := w.dr
  obtain ⟨zs, hz⟩ := w.rs
  rcases h with (h | ⟨o, h⟩) | h
  · exact .inl (.inl (k _ _ h (ne_of h hy (by intro q; cases q)) (ne_of h hz (by intro q; cases q))))
  · exact .inl (.inr ⟨o, k _ _ h (ne_of h hy (by intro q; cases q)) (ne_of h hz (by intro q; cases q))⟩)
  · exact .inr h
/-! ### numbers -/
/-- // by any divisor but 0, of any size below 2 ^ 9000 -/
def CDivN (_ j : Int) : Prop := j ≠ 0 ∧ j.natAbs.log2 < 9000
theorem op_fdivNW {X : Cx} : OpR X (binaryOp .FloorDiv) (rI CDivN fun i j => .int (i.fdiv j)) := opI fun i j _ _ _ _ _ hc q => floordiv_int hc.1 q (.inl (PyProof.noPylong_of_log2 hc.2))
theorem divN {i j : Int} {b : Nat} (h : j ≠ 0) (hb : j.natAbs < 2 ^ b) (h0 : 0 < b) (h9 : b ≤ 9000) : CDivN i j := ⟨h, Nat.lt_of_lt_of_le (PySem.Flt.log2_lt_of h0 hb) h9⟩
theorem fmod_nat {a b : Nat} : ((a : Int).fmod (b : Int)) = ((a % b : Nat) : Int) := by
  rw [Int.fmod_eq_emod_of_nonneg _ (Int.natCast_nonneg b)]
  rfl
theorem fmod_pos {a b : Int} (h : 0 < b) : 0 ≤ a.fmod b ∧ a.fmod b < b := ⟨Int.fmod_nonneg_of_pos a h, Int.fmod_lt_of_pos a h⟩
theorem abs_nat (i : Int) : (if i < 0 then -i else i) = (i.natAbs : Int) := by
  split <;> omega
theorem iteE {k : Bool} {A B : Prop} (h : k = false) (q : B) : if k = true then A else B := by
  subst h
  exact iteF q
theorem iteK {k : Bool} {A B : Prop} (h : k = true) (q : A) : if k = true then A else B := by
  subst h
  exact iteT q
theorem lc_yes {σ : L2.St} {H : Hp} {X Y : Hp → Prop} (h : X H) : tYes σ H (fun b H3 => if b = true then X H3 else Y H3) := by
  show if true = true then X H else Y H
  rw [if_pos rfl]
  exact h
theorem dp2 {K : PySem.W.Frag} {H : Hp} {a : Addr} {x y : Int} (h : SqT K H a [.int x, .int y]) : Dp K H (.ref a) (.tuple [.int x, .int y]) := .tup h (.cons (.int x) (.cons (.int y) .nil))
theorem nab_mul {x y : Int} {a b c : Nat} (hx : x.natAbs < 2 ^ a) (hy : y.natAbs < 2 ^ b) (h : a + b ≤ c) : (x * y).natAbs < 2 ^ c := Nat.lt_of_lt_of_le (wide_lt hx hy) (Nat.pow_le_pow_right (by decide) h)
theorem nab_le {x y : Int} {a : Nat} (h : x.natAbs ≤ y.natAbs) (hy : y.natAbs < 2 ^ a) : x.natAbs < 2 ^ a := Nat.lt_of_le_of_lt h hy
theorem at_nat {xs : List V} {j : Nat} {v : V} (h : xs[j]? = some v) : atI xs (j : Int) = some v := atI_nat h
end B
namespace B
open PySem PySem.Spec PyProof.Rows L2
/-! ### fractions in lowest terms -/
/-- what lowest divides by -/
def lowN (t b : Int) : Int := if b < 0 then -((Nat.gcd t.natAbs b.natAbs : Nat) : Int) else ((Nat.gcd t.natAbs b.natAbs : Nat) : Int)
def lowT (t b : Int) : Int := t.fdiv (lowN t b)
def lowB (t b : Int) : Int := b.fdiv (lowN t b)
theorem lowN_abs (t b : Int) : (lowN t b).natAbs = Nat.gcd t.natAbs b.natAbs := by
  unfold lowN
  split <;> omega
theorem lowN_dvd_t (t b : Int) : lowN t b ∣ t := by
  rw [← Int.natAbs_dvd_natAbs, lowN_abs]
  exact Nat.gcd_dvd_left _ _
theorem lowN_dvd_b (t b : Int) : lowN t b ∣ b := by
  rw [← Int.natAbs_dvd_natAbs, lowN_abs]
  exact Nat.gcd_dvd_right _ _
theorem low_t (t b : Int) : lowN t b * lowT t b = t := by
  unfold lowT
  rw [Int.fdiv_eq_ediv_of_dvd (lowN_dvd_t t b)]
  exact Int.mul_ediv_cancel' (lowN_dvd_t t b)
theorem low_b (t b : Int) : lowN t b * lowB t b = b := by
  unfold lowB
  rw [Int.fdiv_eq_ediv_of_dvd (lowN_dvd_b t b)]
  exact Int.mul_ediv_cancel' (lowN_dvd_b t b)
theorem lowN_pos {t b : Int} (h : b ≠ 0) : 0 < Nat.gcd t.natAbs b.natAbs := Nat.gcd_pos_of_pos_right _ (by omega)
theorem lowB_pos {t b : Int} (h : b ≠ 0) : 1 ≤ lowB t b := by
  have e := low_b t b
  have g := lowN_pos (t := t) h
  rcases Int.lt_or_le (lowB t b) 1 with z | z
  · exfalso
    by_cases hb : b < 0
    · have n : lowN t b ≤ 0 := by unfold lowN; rw [if_pos hb]; omega
      have := Int.mul_nonneg_of_nonpos_of_nonpos n (show lowB t b ≤ 0 by omega)
      omega
    · have n : 0 ≤ lowN t b := by unfold lowN; rw [if_neg hb]; omega
      have := Int.mul_nonpos_of_nonneg_of_nonpos n (show lowB t b ≤ 0 by omega)
      omega
  · exact z
theorem low_cop {t b : Int} (h : b ≠ 0) : Nat.gcd (lowT t b).natAbs (lowB t b).natAbs = 1 := by
  have g := lowN_pos (t := t) h
  have e1 : t.natAbs = Nat.gcd t.natAbs b.natAbs * (lowT t b).natAbs := by
    rw [← lowN_abs, ← Int.natAbs_mul, low_t]
  have e2 : b.natAbs = Nat.gcd t.natAbs b.natAbs * (lowB t b).natAbs := by
    rw [← lowN_abs, ← Int.natAbs_mul, low_b]
  have e3 : Nat.gcd t.natAbs b.natAbs = Nat.gcd t.natAbs b.natAbs * Nat.gcd (lowT t b).natAbs (lowB t b).natAbs := by
    rw [← Nat.gcd_mul_left, ← e1, ← e2]
  exact (Nat.eq_of_mul_eq_mul_left g (by rw [Nat.mul_one]; exact e3)).symm
theorem cop_dvd {a b c : Nat} (h : Nat.gcd b a = 1) (d : b ∣ a * c) : b ∣ c := by
  have e : Nat.gcd (b * c) (a * c) = c := by rw [Nat.gcd_mul_right, h, Nat.one_mul]
  rw [← e]
  exact Nat.dvd_gcd (Nat.dvd_mul_right _ _) d
/-- two fractions in lowest terms of one worth are one -/
theorem cop_one {T B T' B' : Int} (h : 1 ≤ B) (h' : 1 ≤ B') (g : Nat.gcd T.natAbs B.natAbs = 1) (g' : Nat.gcd T'.natAbs B'.natAbs = 1) (e : T * B' = T' * B) : T = T' ∧ B = B' := by
  have e1 : T.natAbs * B'.natAbs = T'.natAbs * B.natAbs := by rw [← Int.natAbs_mul, ← Int.natAbs_mul, e]
  have d1 : B.natAbs ∣ B'.natAbs := cop_dvd (a := T.natAbs) (by rw [Nat.gcd_comm]; exact g) ⟨T'.natAbs, by rw [e1, Nat.mul_comm]⟩
  have d2 : B'.natAbs ∣ B.natAbs := cop_dvd (a := T'.natAbs) (by rw [Nat.gcd_comm]; exact g') ⟨T.natAbs, by rw [← e1, Nat.mul_comm]⟩
  have e2 : B = B' := by
    have := Nat.dvd_antisymm d1 d2
    omega
  subst e2
  exact ⟨Int.eq_of_mul_eq_mul_right (by omega) e, rfl⟩
/-- t, b and what is in lowest terms of the same worth -/
theorem low_cross (t b : Int) : lowT t b * b = t * lowB t b := by
  have e1 := low_t t b
  have e2 := low_b t b
  calc lowT t b * b = lowT t b * (lowN t b * lowB t b) := by rw [e2]
    _ = (lowN t b * lowT t b) * lowB t b := by rw [← Int.mul_assoc, Int.mul_comm (lowT t b)]
    _ = t * lowB t b := by rw [e1]
theorem low_is {t b T B : Int} (hb : b ≠ 0) (h : 1 ≤ B) (g : Nat.gcd T.natAbs B.natAbs = 1) (e : T * b = t * B) : lowT t b = T ∧ lowB t b = B := by
  refine cop_one (lowB_pos hb) h (low_cop hb) g ?_
  have c := low_cross t b
  refine Int.eq_of_mul_eq_mul_right hb ?_
  calc lowT t b * B * b = (lowT t b * b) * B := by rw [Int.mul_assoc, Int.mul_comm B, ← Int.mul_assoc]
    _ = t * lowB t b * B := by rw [c]
    _ = (t * B) * lowB t b := by rw [Int.mul_assoc, Int.mul_comm (lowB t b), ← Int.mul_assoc]
    _ = T * b * lowB t b := by rw [e]
    _ = T * lowB t b * b := by rw [Int.mul_assoc, Int.mul_comm b, ← Int.mul_assoc]
theorem lowT_abs {t b : Int} (h : b ≠ 0) : (lowT t b).natAbs ≤ t.natAbs := by
  have e := low_t t b
  have g := lowN_pos (t := t) h
  rw [← lowN_abs] at g
  have : t.natAbs = (lowN t b).natAbs * (lowT t b).natAbs := by rw [← Int.natAbs_mul, e]
  rw [this]
  exact Nat.le_mul_of_pos_left _ g
theorem lowB_abs {t b : Int} (h : b ≠ 0) : (lowB t b).natAbs ≤ b.natAbs := by
  have e := low_b t b
  have g := lowN_pos (t := t) h
  rw [← lowN_abs] at g
  have : b.natAbs = (lowN t b).natAbs * (lowB t b).natAbs := by rw [← Int.natAbs_mul, e]
  rw [this]
  exact Nat.le_mul_of_pos_left _ g
end B
namespace B
open PySem PySem.Spec PyProof.Rows L2
def topS (i : Nat) : Stmt := PySem.Challenge.pw_betstall_k00_fractions_in_lowest_terms.main.body.getD i (.Pass ⟨0, 0, 0, 0⟩)
abbrev s_common : Stmt := topS 1
abbrev N_common : List Str := ["one", "other"]
theorem sc_common : FnScope ["one", "other"] ["one", "other"] (defScope s_common) := ⟨rfl, rfl, rfl, by decide +kernel, rfl, by decide +kernel, by decide +kernel⟩
abbrev s_lowest : Stmt := topS 2
abbrev N_lowest : List Str := ["top", "bottom", "shared"]
theorem sc_lowest : FnScope ["top", "bottom", "shared"] ["top", "bottom"] (defScope s_lowest) := ⟨rfl, rfl, rfl, by decide +kernel, rfl, by decide +kernel, by decide +kernel⟩
abbrev s_l_draws : Stmt := topS 4
abbrev N_l_draws : List Str := ["_law_script", "_law_cells", "_law_cell"]
theorem sc_l_draws : FnScope ["_law_script", "_law_cells", "_law_cell"] ["_law_script"] (defScope s_l_draws) := ⟨rfl, rfl, rfl, by decide +kernel, rfl, by decide +kernel, by decide +kernel⟩
abbrev s_l_next : Stmt := topS 5
abbrev N_l_next : List Str := ["_law_drawn", "_law_many", "_law_cells", "_law_count", "_law_rests", "_law_at", "_law_digit", "_law_primes", "_law_mixed", "_law_more"]
theorem sc_l_next : FnScope ["_law_drawn", "_law_many", "_law_cells", "_law_count", "_law_rests", "_law_at", "_law_digit", "_law_primes", "_law_mixed", "_law_more"] ["_law_drawn", "_law_many"] (defScope s_l_next) := ⟨rfl, rfl, rfl, by decide +kernel, rfl, by decide +kernel, by decide +kernel⟩
abbrev s_l_whole : Stmt := topS 6
abbrev N_l_whole : List Str := ["_law_thing"]
theorem sc_l_whole : FnScope ["_law_thing"] ["_law_thing"] (defScope s_l_whole) := ⟨rfl, rfl, rfl, by decide +kernel, rfl, by decide +kernel, by decide +kernel⟩
abbrev s_l_great : Stmt := topS 7
abbrev N_l_great : List Str := ["_law_drawn", "_law_parts", "_law_number", "_law_k"]
theorem sc_l_great : FnScope ["_law_drawn", "_law_parts", "_law_number", "_law_k"] ["_law_drawn", "_law_parts"] (defScope s_l_great) := ⟨rfl, rfl, rfl, by decide +kernel, rfl, by decide +kernel, by decide +kernel⟩
abbrev s_l_int : Stmt := topS 8
abbrev N_l_int : List Str := ["_law_drawn", "_law_sign", "_law_way"]
theorem sc_l_int : FnScope ["_law_drawn", "_law_sign", "_law_way"] ["_law_drawn"] (defScope s_l_int) := ⟨rfl, rfl, rfl, by decide +kernel, rfl, by decide +kernel, by decide +kernel⟩
abbrev s_l_common : Stmt := topS 9
abbrev N_l_common : List Str := ["_law_one", "_law_other"]
theorem sc_l_common : FnScope ["_law_one", "_law_other"] ["_law_one", "_law_other"] (defScope s_l_common) := ⟨rfl, rfl, rfl, by decide +kernel, rfl, by decide +kernel, by decide +kernel⟩
abbrev s_l_right : Stmt := topS 10
abbrev N_l_right : List Str := ["_law_found", "_law_first", "_law_second"]
theorem sc_l_right : FnScope ["_law_found", "_law_first", "_law_second"] ["_law_found", "_law_first", "_law_second"] (defScope s_l_right) := ⟨rfl, rfl, rfl, by decide +kernel, rfl, by decide +kernel, by decide +kernel⟩
abbrev s_law : Stmt := topS 11
abbrev N_law : List Str := ["_law_script", "_law_drawn", "_law_k", "_law_first", "_law_second", "_law_share", "_law_found"]
theorem sc_law : FnScope ["_law_script", "_law_drawn", "_law_k", "_law_first", "_law_second", "_law_share", "_law_found"] ["_law_script"] (defScope s_law) := ⟨rfl, rfl, rfl, by decide +kernel, rfl, by decide +kernel, by decide +kernel⟩
structure Tx (K : PySem.W.Frag) (mg : Str → Option Value) where
  common : Df K mg "common" s_common ["one", "other"]
  lowest : Df K mg "lowest" s_lowest ["top", "bottom"]
  l_draws : Df K mg "_law_draws" s_l_draws ["_law_script"]
  l_next : Df K mg "_law_next" s_l_next ["_law_drawn", "_law_many"]
  l_whole : Df K mg "_law_whole" s_l_whole ["_law_thing"]
  l_great : Df K mg "_law_great" s_l_great ["_law_drawn", "_law_parts"]
  l_int : Df K mg "_law_int" s_l_int ["_law_drawn"]
  l_common : Df K mg "_law_common" s_l_common ["_law_one", "_law_other"]
  l_right : Df K mg "_law_right" s_l_right ["_law_found", "_law_first", "_law_second"]
  law : Df K mg "law" s_law ["_law_script"]
  m_abs : mg "abs" = none
  m_bool : mg "bool" = none
  m_int : mg "int" = none
  m_isinstance : mg "isinstance" = none
  m_len : mg "len" = none
  m_list : mg "list" = none
  m_range : mg "range" = none
  m_tuple : mg "tuple" = none
end B
namespace B
open PySem PySem.Spec PyProof.Rows L2

/-- common(a, b) of numbers from 0 on -/
def sp_common (_ : PySem.W.Frag) : Sp := fun vs H Q _ => ∃ (a b : Nat), vs = [.int a, .int b] ∧ Q (.int (Nat.gcd a b : Nat)) H

section
variable {P : Program} {w : World} {K : PySem.W.Frag} {mg : Str → Option Value} {base : Heap}
theorem ok_common (T : Tx K mg) : FnOk P w K mg base CX0 1 T.common.f T.common.fd ["one", "other"] (sp_common K) := by
  refine T.common.F.ok sc_common (fun vs H Q E h => ?_) (fun cdv A outer s H vs Q E hr h => ?_)
  · obtain ⟨a, b, rfl, q⟩ := h
    rfl
  · obtain ⟨a, b, rfl, q⟩ := h
    refine ⟨_, (pss_cons (ps_while PassesOwn.never (pt_cmpR op_gt (pv 1) pe_int (nomark _)) (pss_one (ps_par (i := 0) (j := 1) (by rfl) sc_common.nd rfl rfl (by decide) rfl rfl (pa_cons (pv 1) (pa_cons (pe_op op_mod (pv 0) (pv 1)) pa_nil)) (by rfl))))
      (pss_one (ps_ret (pv 0)))), ?_⟩
    refine ⟨fun m σ H' => ∃ x y : Nat, σ = [some (.int x), some (.int y)] ∧ Nat.gcd x y = Nat.gcd a b ∧ H' = H ∧ m = y, ⟨b, a, b, rfl, rfl, rfl, rfl⟩, fun m σ H' hW => ?_⟩
    obtain ⟨x, y, rfl, eg, rfl, rfl⟩ := hW
    refine ⟨_, rfl, _, _, rfl, rfl, _, rfl, ite2 (fun e => ?_) (fun e => ?_)⟩
    · have hy : 0 < m := by
        have := of_decide_eq_true e
        omega
      refine ⟨fun σ' H2 => σ' = [some (.int m), some (.int (x % m : Nat))] ∧ H2 = H', fun σ' H2 hN => ?_, ?_⟩
      · obtain ⟨rfl, rfl⟩ := hN
        exact ⟨x % m, Nat.mod_lt _ hy, m, x % m, rfl, by rw [← eg, Nat.gcd_comm m, ← Nat.gcd_rec, Nat.gcd_comm], rfl, rfl⟩
      · refine ⟨_, rfl, _, rfl, _, rfl, _, _, rfl, rfl, (by show (0 : Int) < m; omega), _, _, rfl, ?_⟩
        exact ⟨rfl, rfl⟩
    · have hy : m = 0 := by
        have : ¬ (0 : Int) < m := fun z => e (decide_eq_true z)
        omega
      subst hy
      refine ⟨_, rfl, ?_⟩
      rw [Nat.gcd_zero_right] at eg
      rw [eg]
      exact q
end
end B

namespace B
open PySem PySem.Spec PyProof.Rows L2
theorem cut63 {xs : List V} (h : xs.length ≤ 63) : cutV xs none (some 63) = xs := by
  unfold cutV
  rw [HT.sIx_none, show HT.sIx xs.length xs.length (some 63) = min 63 xs.length from HT.sIx_nat xs.length xs.length 63]
  rw [List.drop_zero, List.take_of_length_le (by omega)]

def sp_l_draws (K : PySem.W.Frag) : Sp := fun vs H Q _ => ∃ (a : Addr) (ns : List Int), vs = [.ref a] ∧ SqL K H a (ns.map V.int) ∧ ns.length ≤ 63 ∧ ∀ (H' : Hp) (d : Dr), Drw H' d 900000 → Same H H' → H d.dr = none → H d.rs = none → Q (.ref d.dr) H'

section
variable {P : Program} {w : World} {K : PySem.W.Frag} {mg : Str → Option Value} {base : Heap}
theorem ok_l_draws (T : Tx K mg) : FnOk P w K mg base CX0 1 T.l_draws.f T.l_draws.fd ["_law_script"] (sp_l_draws K) := by
  refine T.l_draws.F.ok sc_l_draws (fun vs H Q E h => ?_) (fun cdv A outer s H vs Q E hr h => ?_)
  · obtain ⟨a, ns, rfl, hS, hlen, q⟩ := h
    rfl
  · obtain ⟨a, ns, rfl, hS, hlen, q⟩ := h
    refine ⟨_, (pss_cons (ps_set (i := 1) sc_l_draws.nd rfl (.inl rfl) (pe_op op_cat (pe_callTy call_list_of (by rfl) T.m_list (by decide +kernel) (pa_cons (pe_slice sl_list (pv 0) po_none (po_some pe_int)) pa_nil)) (pe_op op_rep (pe_lst (pa_cons pe_int pa_nil)) (pe_callTy call_int1 (by rfl) T.m_int (by decide +kernel) (pa_cons (pe_cmpR op_eq (pe_callB call_len_seq (by rfl) T.m_len (by decide +kernel) (pa_cons (pv 0) pa_nil)) pe_int (nomark _)) pa_nil)))))
      (pss_one (ps_ret (pe_lst (pa_cons (pv 1) (pa_cons pe_int (pa_cons (pe_lc (own := [("_law_cell", 2)]) (g := gName 2) (tt := tYes) rfl sc_l_draws.nd (pi_list (pv 1)) (blkOk_by (own := [("_law_cell", 2)]) (N := N_l_draws) (sc := defScope s_l_draws) (by decide +kernel)) (fun _ _ _ _ _ => (pg_name (i := 2) sc_l_draws.nd rfl (.inl rfl))) (fun _ _ _ _ _ => pts_nil) (fun _ _ _ _ _ => (pe_op op_mul (pv 2) (pe_callTy call_int1 (by rfl) T.m_int (by decide +kernel) (pa_cons (pe_cmpR op_ge (pv 2) (pe_op op_pow pe_int pe_int) (nomark _)) pa_nil))))) pa_nil))))))), ?_⟩
    have lns : (ns.map V.int).length = ns.length := List.length_map ..
    refine ⟨_, rfl, 63, rfl, a, _, rfl, hS, fun p1 np1 => ?_⟩
    have s1 := same_upd (o := .lst (cutV (ns.map V.int) none (some 63))) np1
    refine ⟨p1, _, rfl, .inl sql_upd, fun l nl => ?_⟩
    rw [cut63 (by rw [lns]; exact hlen)] at s1 nl ⊢
    have s2 := s1.trans (same_upd (o := .lst (ns.map V.int)) nl)
    refine ⟨by decide, fun z nz => ?_⟩
    have s3 := s2.trans (same_upd (o := .lst [.int 0]) nz)
    refine ⟨_, rfl, a, _, rfl, .inl (s3.seq hS), rfl, .inr ⟨_, rfl, ?_⟩⟩
    have hl3 : (upd (upd (upd H p1 (.lst (ns.map V.int))) l (.lst (ns.map V.int))) z (.lst [.int 0])) l = some (.lst (ns.map V.int)) := by
      rw [upd_ne (ne_of_none upd_same nz), upd_same]
    obtain ⟨k, hk, k2⟩ : ∃ k : Nat, (if decide (V.int ((ns.map V.int).length : Nat) = V.int 0) = true then (1 : Int) else 0) = (k : Int) ∧ ((ns = [] ∧ k = 1) ∨ (ns ≠ [] ∧ k = 0)) := by
      cases ns with
      | nil => exact ⟨1, rfl, .inl ⟨rfl, rfl⟩⟩
      | cons x r =>
        refine ⟨0, ?_, .inr ⟨by simp, rfl⟩⟩
        rw [if_neg]
        · rfl
        · intro e
          have e2 := V.int.inj (of_decide_eq_true e)
          rw [List.length_map, List.length_cons] at e2
          omega
    refine ⟨z, _, _, rfl, rfl, upd_same, ?_, ?_, ?_, fun r nr => ?_⟩
    · rw [hk]
      omega
    · rw [hk]
      omega
    · rw [hk, Int.toNat_natCast]
      show 1 * k ≤ sizeLine
      exact Nat.le_trans (show 1 * k ≤ 1 by omega) (by decide)
    rw [hk, Int.toNat_natCast]
    have s4 := s3.trans (same_upd (o := .lst (List.replicate k [V.int 0]).flatten) nr)
    obtain ⟨cs, ecs, c0, c63⟩ : ∃ cs : List Int, ns.map V.int ++ (List.replicate k [V.int 0]).flatten = cs.map V.int ∧ 0 < cs.length ∧ cs.length ≤ 63 := by
      rcases k2 with ⟨rfl, rfl⟩ | ⟨h, rfl⟩
      · exact ⟨[0], rfl, by decide, by decide⟩
      · refine ⟨ns, by simp, ?_, hlen⟩
        cases ns with
        | nil => exact absurd rfl h
        | cons x r => rw [List.length_cons]; omega
    refine ⟨l, r, ns.map V.int, _, rfl, rfl, ?_, upd_same, ?_, fun c nc => ?_⟩
    · rw [upd_ne (ne_of_none hl3 nr)]
      exact hl3
    · have e := congrArg List.length ecs
      rw [List.length_append, List.length_map] at e
      rw [List.length_map, e, List.length_map]
      exact Nat.le_trans c63 (by decide)
    rw [ecs]
    have s5 := s4.trans (same_upd (o := .lst (cs.map V.int)) nc)
    have hc5 := upd_same (H := upd (upd (upd (upd H p1 (.lst (ns.map V.int))) l (.lst (ns.map V.int))) z (.lst [.int 0])) r (.lst (List.replicate k [V.int 0]).flatten)) (a := c) (o := .lst (cs.map V.int))
    generalize upd (upd (upd (upd (upd H p1 (.lst (ns.map V.int))) l (.lst (ns.map V.int))) z (.lst [.int 0])) r (.lst (List.replicate k [V.int 0]).flatten)) c (.lst (cs.map V.int)) = H5 at s5 hc5 ⊢
    refine ⟨_, rfl, _, rfl, c, rfl, ⟨_, .inl (.inl hc5)⟩, fun D nD => ?_⟩
    refine lc_list (K := K) (a := c) (xs := cs.map V.int) (fun i H' => ∃ acc : List Int, H' D = some (.lst (acc.map V.int)) ∧ acc.length = i ∧ i ≤ cs.length ∧ Same H5 H') ⟨[], upd_same, rfl, by omega, same_upd nD⟩ (fun i H' _ ⟨_, _, _, _, e⟩ => .inl (.inl (e _ _ hc5))) ?_ ?_
    · rintro i x H' hx ⟨acc, h1, h2, h3, h4⟩
      have hi : i < cs.length := by
        have := (List.getElem?_eq_some_iff.mp hx).1
        rw [List.length_map] at this
        exact this
      obtain ⟨y, hy, rfl⟩ : ∃ y, cs[i]? = some y ∧ x = V.int y := by
        rw [List.getElem?_map] at hx
        cases e : cs[i]? with
        | none => rw [e] at hx; cases hx
        | some y => rw [e] at hx; exact ⟨y, rfl, (Option.some.inj hx).symm⟩
      refine ⟨rfl, lc_yes ?_⟩
      refine ⟨_, rfl, _, rfl, _, _, rfl, rfl, ⟨by decide, by decide, by decide⟩, _, _, rfl, rfl, .inr ⟨_, rfl, ?_⟩⟩
      refine ⟨_, _, rfl, rfl, .inr ?_, _, h1, ?_, ?_⟩
      · constructor
        · split <;> decide
        · split <;> decide
      · rw [List.length_map]
        exact Nat.lt_of_le_of_lt (show acc.length ≤ 63 by omega) (by decide)
      · refine ⟨acc ++ [_], by rw [upd_same, List.map_append]; rfl, by rw [List.length_append, h2]; rfl, hi, fun b o e => ?_⟩
        rw [upd_ne (ne_of_none e nD)]
        exact h4 b o e
    · rintro H' ⟨acc, h1, h2, h3, h4⟩
      refine ⟨by show 3 ≤ sizeLine; decide, fun p np => ?_⟩
      rw [List.length_map] at h2
      refine q _ ⟨p, c, D⟩ ⟨⟨cs, acc, 0, upd_same, ?_, ?_, h2.symm, c0, c63, by decide⟩, ?_⟩ ?_ ?_ ?_
      · rw [upd_ne (ne_of_none (h4 _ _ hc5) np)]
        exact h4 _ _ hc5
      · rw [upd_ne (ne_of_none h1 np)]
        exact h1
      · exact ne_of_none hc5 nD
      · exact (s5.trans h4).trans (same_upd np)
      · exact (s5.trans h4).free np
      · exact s5.free nD
end
end B

namespace B
open PySem PySem.Spec PyProof.Rows L2

def sp_l_next (_ : PySem.W.Frag) : Sp := fun vs H Q _ => ∃ (d : Dr) (b : Nat) (many : Int), vs = [.ref d.dr, .int many] ∧ 0 < many ∧ many.natAbs < 2 ^ 64 ∧ Drw H d (b + 1) ∧ ∀ (H' : Hp) (r : Int), 0 ≤ r → r < many → Drw H' d b → Kp d H H' → Q (.int r) H'

section
variable {P : Program} {w : World} {K : PySem.W.Frag} {mg : Str → Option Value} {base : Heap}
theorem ok_l_next (T : Tx K mg) : FnOk P w K mg base CX0 1 T.l_next.f T.l_next.fd ["_law_drawn", "_law_many"] (sp_l_next K) := by
  refine T.l_next.F.ok sc_l_next (fun vs H Q E h => ?_) (fun cdv A outer s H vs Q E hr h => ?_)
  · obtain ⟨d, b, many, rfl, hm0, hm1, ⟨⟨cs, rr, c, h1, h2, h3, hl, hp, h63, hb⟩, ne⟩, q⟩ := h
    rfl
  · obtain ⟨d, b, many, rfl, hm0, hm1, ⟨⟨cs, rr, c, h1, h2, h3, hl, hp, h63, hb⟩, ne⟩, q⟩ := h
    refine ⟨_, (pss_cons (ps_asg (pv 0) (pg_lst rfl (pgs_cons (pg_name (i := 2) sc_l_next.nd rfl (.inl rfl)) (pgs_cons (pg_name (i := 3) sc_l_next.nd rfl (.inl rfl)) (pgs_cons (pg_name (i := 4) sc_l_next.nd rfl (.inl rfl)) pgs_nil)))))
      (pss_cons (ps_set (i := 5) sc_l_next.nd rfl (.inl rfl) (pe_op op_mod (pv 3) (pe_callB call_len_seq (by rfl) T.m_len (by decide +kernel) (pa_cons (pv 2) pa_nil))))
      (pss_cons (ps_asg (pe_op op_add (pv 3) pe_int) (pg_sub (pv 0) pe_int set_list))
      (pss_cons (ps_if (pt_cmpR op_gt (pe_ix ix_list (pv 4) (pv 5) (fun _ _ => rfl)) pe_int (nomark _)) (pss_cons (ps_set (i := 6) sc_l_next.nd rfl (.inl rfl) (pe_op op_mod (pe_ix ix_list (pv 4) (pv 5) (fun _ _ => rfl)) (pv 1)))
      (pss_cons (ps_asg (pe_op op_fdivW (pe_ix ix_list (pv 4) (pv 5) (fun _ _ => rfl)) (pv 1)) (pg_sub (pv 4) (pv 5) set_list))
      (pss_one (ps_ret (pv 6))))) pss_nil)
      (pss_cons (ps_set (i := 7) sc_l_next.nd rfl (.inl rfl) (pe_lst (pa_cons pe_int (pa_cons pe_int (pa_cons pe_int (pa_cons pe_int (pa_cons pe_int (pa_cons pe_int (pa_cons pe_int pa_nil)))))))))
      (pss_cons (ps_set (i := 8) sc_l_next.nd rfl (.inl rfl) (pe_op op_add (pe_op op_add (pe_op op_mod (pe_ix ix_list (pv 2) (pv 5) (fun _ _ => rfl)) pe_int) (pe_op op_mul pe_int (pv 3))) pe_int))
      (pss_cons (ps_set (i := 8) sc_l_next.nd rfl (.inl rfl) (pe_op op_mod (pe_op op_pow (pv 8) pe_int) (pe_ix ix_list (pv 7) (pe_op op_mod (pv 3) pe_int) (fun _ _ => rfl))))
      (pss_cons (ps_set (i := 9) sc_l_next.nd rfl (.inl rfl) (pe_op op_mod (pe_op op_pow (pe_op op_add (pv 8) (pe_op op_mul pe_int (pv 3))) pe_int) pe_int))
      (pss_one (ps_ret (pe_op op_mod (pe_op op_mod (pe_op op_add (pe_op op_mul (pv 9) pe_int) (pv 8)) pe_int) (pv 1)))))))))))), ?_⟩
    have n1 : d.dr ≠ d.cl := ne_of h1 h2 (by intro z; cases cs with | nil => cases z | cons x r => cases z)
    have n2 : d.dr ≠ d.rs := ne_of h1 h3 (by intro z; cases rr with | nil => cases z | cons x r => cases z)
    have lc : (cs.map V.int).length = cs.length := List.length_map ..
    have lr : (rr.map V.int).length = cs.length := by rw [List.length_map, hl]
    have hj : c % (cs.map V.int).length < cs.length := by
      rw [lc]
      exact Nat.mod_lt _ hp
    obtain ⟨x, hx⟩ : ∃ x, cs[c % (cs.map V.int).length]? = some x := ⟨_, List.getElem?_eq_getElem hj⟩
    obtain ⟨y, hy⟩ : ∃ y, rr[c % (cs.map V.int).length]? = some y := ⟨_, List.getElem?_eq_getElem (by rw [← hl]; exact hj)⟩
    refine ⟨_, rfl, d.dr, _, rfl, .inl (.inl h1), rfl, _, _, rfl, _, _, rfl, _, _, rfl, rfl, ?_⟩
    refine ⟨_, rfl, _, rfl, d.cl, _, rfl, .inl (.inl (.inl h2)), _, _, rfl, rfl, (by show (0 : Int) < ((cs.map V.int).length : Int); omega), ?_⟩
    refine ⟨_, rfl, _, _, rfl, rfl, _, rfl, d.dr, _, 1, 1, rfl, rfl, h1, rfl, ?_⟩
    have H1r : (upd H d.dr (.lst ([.ref d.cl, .int c, .ref d.rs].set 1 (.int ((c : Int) + 1))))) d.rs = some (.lst (rr.map V.int)) := by rw [upd_ne n2.symm]; exact h3
    have H1c : (upd H d.dr (.lst ([.ref d.cl, .int c, .ref d.rs].set 1 (.int ((c : Int) + 1))))) d.cl = some (.lst (cs.map V.int)) := by rw [upd_ne n1.symm]; exact h2
    have ary : atI (rr.map V.int) ((c % (cs.map V.int).length : Nat) : Int) = some (.int y) := at_nat (by rw [List.getElem?_map, hy]; rfl)
    have arx : atI (cs.map V.int) ((c % (cs.map V.int).length : Nat) : Int) = some (.int x) := at_nat (by rw [List.getElem?_map, hx]; rfl)
    refine ⟨_, rfl, _, rfl, d.rs, _, ((c % (cs.map V.int).length : Nat) : Int), _, rfl, rfl, .inl (.inl H1r), ary, _, _, rfl, rfl, _, rfl, ite2 (fun e => ?_) (fun e => ?_)⟩
    · refine ⟨_, rfl, _, rfl, d.rs, _, ((c % (cs.map V.int).length : Nat) : Int), _, rfl, rfl, .inl (.inl H1r), ary, _, rfl, _, _, rfl, rfl, hm0, ?_⟩
      refine ⟨_, rfl, _, rfl, d.rs, _, ((c % (cs.map V.int).length : Nat) : Int), _, rfl, rfl, .inl (.inl H1r), ary, _, rfl, _, _, rfl, rfl, wide_div hm0 hm1 (by decide) (by decide), _, rfl, _, rfl, d.rs, _, ((c % (cs.map V.int).length : Nat) : Int), c % (cs.map V.int).length, rfl, rfl, H1r, ?_, ?_⟩
      · unfold ixN
        rw [if_pos (by omega), if_pos (by rw [lr]; omega)]
        rfl
      refine ⟨_, rfl, ?_⟩
      refine q _ _ (Int.emod_nonneg _ (by omega)) (Int.emod_lt_of_pos _ hm0) ⟨⟨cs, rr.set (c % (cs.map V.int).length) (y / many), c + 1, ?_, ?_, ?_, ?_, hp, h63, by omega⟩, ne⟩ ?_
      · rw [upd_ne n2, upd_same]
        rfl
      · rw [upd_ne ne]
        exact H1c
      · rw [upd_same, List.map_set]
      · rw [List.length_set]
        exact hl
      · intro p o hp1 a1 a2
        rw [upd_ne a2, upd_ne a1]
        exact hp1
    · refine ⟨by decide, fun pr npr => ?_⟩
      have npc : d.cl ≠ pr := ne_of_none H1c npr
      refine ⟨_, rfl, _, rfl, d.cl, _, ((c % (cs.map V.int).length : Nat) : Int), _, rfl, rfl, .inl (.inl (by rw [upd_ne npc]; exact H1c)), arx, _, _, rfl, rfl, (by show (0 : Int) < 2147483647; decide), _, rfl, _, _, rfl, rfl, .inl ⟨by decide, by decide⟩, _, _, rfl, rfl, _, _, rfl, rfl, ?_⟩
      have c7 : c % 7 < 7 := Nat.mod_lt _ (by decide)
      obtain ⟨pm, hpm, pm0, pm1⟩ : ∃ pm : Int, ([.int 2147483629, .int 2147483587, .int 2147483579, .int 2147483563, .int 2147483549, .int 2147483543, .int 2147483497] : List V)[c % 7]? = some (.int pm) ∧ 0 < pm ∧ pm < 2147483648 := by
        generalize c % 7 = z at c7
        match z, c7 with
        | 0, _ => exact ⟨_, rfl, by decide, by decide⟩
        | 1, _ => exact ⟨_, rfl, by decide, by decide⟩
        | 2, _ => exact ⟨_, rfl, by decide, by decide⟩
        | 3, _ => exact ⟨_, rfl, by decide, by decide⟩
        | 4, _ => exact ⟨_, rfl, by decide, by decide⟩
        | 5, _ => exact ⟨_, rfl, by decide, by decide⟩
        | 6, _ => exact ⟨_, rfl, by decide, by decide⟩
      refine ⟨_, rfl, _, _, rfl, rfl, ⟨by decide, by decide, by omega⟩, _, rfl, _, rfl, _, _, rfl, rfl, (by show (0 : Int) < 7; decide), pr, _, ((c % 7 : Nat) : Int), _, rfl, rfl, .inl (.inl upd_same), at_nat hpm, _, _, rfl, rfl, pm0, ?_⟩
      have m2 := Int.emod_nonneg ((x % 2147483647 + 48271 * (c : Int) + 104729) ^ (3 : Int).toNat) (show pm ≠ 0 by omega)
      have m2' := Int.emod_lt_of_pos ((x % 2147483647 + 48271 * (c : Int) + 104729) ^ (3 : Int).toNat) pm0
      refine ⟨_, rfl, _, rfl, _, _, rfl, rfl, .inl ⟨by decide, by decide⟩, _, _, rfl, rfl, _, _, rfl, rfl, ⟨by decide, by decide, by omega⟩, _, _, rfl, rfl, (by show (0 : Int) < 2147483477; decide), ?_⟩
      refine ⟨_, rfl, _, _, rfl, rfl, .inr ⟨by decide, by decide⟩, _, rfl, _, _, rfl, rfl, _, _, rfl, rfl, (by show (0 : Int) < 4611686018427387847; decide), _, rfl, _, _, rfl, rfl, hm0, ?_⟩
      refine q _ _ (Int.emod_nonneg _ (by omega)) (Int.emod_lt_of_pos _ hm0) ⟨⟨cs, rr, c + 1, ?_, ?_, ?_, hl, hp, h63, by omega⟩, ne⟩ ?_
      · rw [upd_ne (ne_of_none (upd_same (H := H)) npr), upd_same]
        rfl
      · rw [upd_ne npc]
        exact H1c
      · rw [upd_ne (ne_of_none H1r npr)]
        exact H1r
      · intro p o hp1 a1 a2
        have e1 : (upd H d.dr (.lst ([.ref d.cl, .int c, .ref d.rs].set 1 (.int ((c : Int) + 1))))) p = some o := by rw [upd_ne a1]; exact hp1
        rw [upd_ne (ne_of_none e1 npr)]
        exact e1
end
end B

namespace B
open PySem PySem.Spec PyProof.Rows L2

def sp_l_whole (_ : PySem.W.Frag) : Sp := fun vs H Q _ => ∃ (i : Int), vs = [.int i] ∧ Q (.bl true) H

section
variable {P : Program} {w : World} {K : PySem.W.Frag} {mg : Str → Option Value} {base : Heap}
theorem ok_l_whole (T : Tx K mg) : FnOk P w K mg base CX0 1 T.l_whole.f T.l_whole.fd ["_law_thing"] (sp_l_whole K) := by
  refine T.l_whole.F.ok sc_l_whole (fun vs H Q E h => ?_) (fun cdv A outer s H vs Q E hr h => ?_)
  · obtain ⟨i, rfl, q⟩ := h
    rfl
  · obtain ⟨i, rfl, q⟩ := h
    refine ⟨_, (pss_one (ps_ret (pe_and (pe_callB call_isi (by rfl) T.m_isinstance (by decide +kernel) (pa_cons (pv 0) (pa_cons (pe_bltn (v := .ty "int") (u := .type "int") (by rfl) T.m_int (by decide +kernel) rfl) pa_nil))) (pe_one (pe_not (pe_callB call_isi (by rfl) T.m_isinstance (by decide +kernel) (pa_cons (pv 0) (pa_cons (pe_bltn (v := .ty "bool") (u := .type "bool") (by rfl) T.m_bool (by decide +kernel) rfl) pa_nil)))))))), ?_⟩
    refine ⟨_, rfl, _, .ty "int", .type "int", .type "int", true, rfl, .ty _, .base (.int i), kit_ty (by decide +kernel), true, rfl, iteT ?_⟩
    exact ⟨_, rfl, _, .ty "bool", .type "int", .type "bool", false, rfl, .ty _, .base (.int i), kit_ty (by decide +kernel), false, rfl, q⟩
end
end B

namespace B
open PySem PySem.Spec PyProof.Rows L2

def sp_l_common (_ : PySem.W.Frag) : Sp := fun vs H Q _ => ∃ (a b : Nat), vs = [.int a, .int b] ∧ Q (.int (Nat.gcd a b : Nat)) H

section
variable {P : Program} {w : World} {K : PySem.W.Frag} {mg : Str → Option Value} {base : Heap}
theorem ok_l_common (T : Tx K mg) : FnOk P w K mg base CX0 1 T.l_common.f T.l_common.fd ["_law_one", "_law_other"] (sp_l_common K) := by
  refine T.l_common.F.ok sc_l_common (fun vs H Q E h => ?_) (fun cdv A outer s H vs Q E hr h => ?_)
  · obtain ⟨a, b, rfl, q⟩ := h
    rfl
  · obtain ⟨a, b, rfl, q⟩ := h
    refine ⟨_, (pss_cons (ps_while PassesOwn.never (pt_cmpR op_gt (pv 1) pe_int (nomark _)) (pss_one (ps_par (i := 0) (j := 1) (by rfl) sc_l_common.nd rfl rfl (by decide) rfl rfl (pa_cons (pv 1) (pa_cons (pe_op op_mod (pv 0) (pv 1)) pa_nil)) (by rfl))))
      (pss_one (ps_ret (pv 0)))), ?_⟩
    refine ⟨fun m σ H' => ∃ x y : Nat, σ = [some (.int x), some (.int y)] ∧ Nat.gcd x y = Nat.gcd a b ∧ H' = H ∧ m = y, ⟨b, a, b, rfl, rfl, rfl, rfl⟩, fun m σ H' hW => ?_⟩
    obtain ⟨x, y, rfl, eg, rfl, rfl⟩ := hW
    refine ⟨_, rfl, _, _, rfl, rfl, _, rfl, ite2 (fun e => ?_) (fun e => ?_)⟩
    · have hy : 0 < m := by
        have := of_decide_eq_true e
        omega
      refine ⟨fun σ' H2 => σ' = [some (.int m), some (.int (x % m : Nat))] ∧ H2 = H', fun σ' H2 hN => ?_, ?_⟩
      · obtain ⟨rfl, rfl⟩ := hN
        exact ⟨x % m, Nat.mod_lt _ hy, m, x % m, rfl, by rw [← eg, Nat.gcd_comm m, ← Nat.gcd_rec, Nat.gcd_comm], rfl, rfl⟩
      · refine ⟨_, rfl, _, rfl, _, rfl, _, _, rfl, rfl, (by show (0 : Int) < m; omega), _, _, rfl, ?_⟩
        exact ⟨rfl, rfl⟩
    · have hy : m = 0 := by
        have : ¬ (0 : Int) < m := fun z => e (decide_eq_true z)
        omega
      subst hy
      refine ⟨_, rfl, ?_⟩
      rw [Nat.gcd_zero_right] at eg
      rw [eg]
      exact q
end
end B

namespace B
open PySem PySem.Spec PyProof.Rows L2

def sp_lowest (_ : PySem.W.Frag) : Sp := fun vs H Q _ => ∃ (t b : Int), vs = [.int t, .int b] ∧ b ≠ 0 ∧ b.natAbs < 2 ^ 9000 ∧ ∀ p, H p = none → Q (.ref p) (upd H p (.tup [.int (lowT t b), .int (lowB t b)]))

section
variable {P : Program} {w : World} {K : PySem.W.Frag} {mg : Str → Option Value} {base : Heap}
theorem ok_lowest (T : Tx K mg) : FnOk P w K mg base CX0 2 T.lowest.f T.lowest.fd ["top", "bottom"] (sp_lowest K) := by
  refine T.lowest.F.ok sc_lowest (fun vs H Q E h => ?_) (fun cdv A outer s H vs Q E hr h => ?_)
  · obtain ⟨t, b, rfl, hb, hz, q⟩ := h
    rfl
  · obtain ⟨t, b, rfl, hb, hz, q⟩ := h
    refine ⟨_, (pss_cons (ps_set (i := 2) sc_lowest.nd rfl (.inl rfl) (pe_call (ok_common T) (hr.mono (by decide)) (by rfl) T.common.g T.common.F.kp T.common.b .nil pass0 (pa_cons (pe_callB call_abs (by rfl) T.m_abs (by decide +kernel) (pa_cons (pv 0) pa_nil)) (pa_cons (pe_callB call_abs (by rfl) T.m_abs (by decide +kernel) (pa_cons (pv 1) pa_nil)) pa_nil))))
      (pss_cons (ps_if (pt_cmpR op_lt (pv 1) pe_int (nomark _)) (pss_one (ps_set (i := 2) sc_lowest.nd rfl (.inl rfl) (pe_un un_neg (pv 2)))) pss_nil)
      (pss_one (ps_ret (pe_tup (pa_cons (pe_op op_fdivNW (pv 0) (pv 2)) (pa_cons (pe_op op_fdivNW (pv 1) (pv 2)) pa_nil))))))), ?_⟩
    have g0 := lowN_pos (t := t) hb
    have g1 : Nat.gcd t.natAbs b.natAbs < 2 ^ 9000 := Nat.lt_of_le_of_lt (Nat.gcd_le_right _ (by omega)) hz
    have n0 : lowN t b ≠ 0 := by
      intro z
      rw [← lowN_abs, z] at g0
      exact absurd g0 (by decide)
    have n1 : (lowN t b).natAbs < 2 ^ 9000 := by
      rw [lowN_abs]
      exact g1
    refine ⟨_, rfl, t, rfl, _, rfl, b, rfl, t.natAbs, b.natAbs, ?_, ?_⟩
    · rw [abs_nat, abs_nat]
      rfl
    refine ⟨_, rfl, _, _, rfl, rfl, _, rfl, ?_⟩
    have fin : ∀ z : Int, z = lowN t b → tRet (tTup (tCons (tOp (rI CDivN fun i j => .int (i.fdiv j)) (tVar 0) (tVar 2)) (tCons (tOp (rI CDivN fun i j => .int (i.fdiv j)) (tVar 1) (tVar 2)) tNil))) { nx := fun _ H' => Q .non H', rt := Q } [some (.int t), some (.int b), some (.int z)] H := by
      rintro z rfl
      exact ⟨_, rfl, _, rfl, _, _, rfl, rfl, divN n0 n1 (by decide) (by decide), _, rfl, _, rfl, _, _, rfl, rfl, divN n0 n1 (by decide) (by decide), by show 2 ≤ sizeLine; decide, q⟩
    refine ite2 (fun e => ?_) (fun e => ?_)
    · have e' : b < 0 := of_decide_eq_true e
      refine ⟨_, rfl, _, rfl, fin _ ?_⟩
      unfold lowN
      rw [if_pos e']
    · have e' : ¬ b < 0 := fun z => e (decide_eq_true z)
      refine fin _ ?_
      unfold lowN
      rw [if_neg e']
end
end B

namespace B
open PySem PySem.Spec PyProof.Rows L2

def sp_l_great (_ : PySem.W.Frag) : Sp := fun vs H Q _ => ∃ (d : Dr) (b n : Nat), vs = [.ref d.dr, .int n] ∧ n ≤ 40 ∧ Drw H d (b + n) ∧ ∀ (H' : Hp) (r : Int), 0 ≤ r → r < (10 : Int) ^ (10 * n) → Drw H' d b → Kp d H H' → Q (.int r) H'

section
variable {P : Program} {w : World} {K : PySem.W.Frag} {mg : Str → Option Value} {base : Heap}
theorem ok_l_great (T : Tx K mg) : FnOk P w K mg base CX0 2 T.l_great.f T.l_great.fd ["_law_drawn", "_law_parts"] (sp_l_great K) := by
  refine T.l_great.F.ok sc_l_great (fun vs H Q E h => ?_) (fun cdv A outer s H vs Q E hr h => ?_)
  · obtain ⟨d, b, n, rfl, hn, hD, q⟩ := h
    rfl
  · obtain ⟨d, b, n, rfl, hn, hD, q⟩ := h
    refine ⟨_, (pss_cons (ps_set (i := 2) sc_l_great.nd rfl (.inl rfl) pe_int)
      (pss_cons (ps_for PassesOwn.never rfl (pi_range1 (by rfl) T.m_range (pa_cons (pv 1) pa_nil)) (pg_name (i := 3) sc_l_great.nd rfl (.inl rfl))
      (pss_one (ps_set (i := 2) sc_l_great.nd rfl (.inl rfl) (pe_op op_add (pe_op op_mul (pv 2) (pe_op op_pow pe_int pe_int)) (pe_call (ok_l_next T) (hr.mono (by decide)) (by rfl) T.l_next.g T.l_next.F.kp T.l_next.b .nil pass0 (pa_cons (pv 0) (pa_cons (pe_op op_pow pe_int pe_int) pa_nil)))))))
      (pss_one (ps_ret (pv 2))))), ?_⟩
    refine ⟨_, rfl, (n : Int), rfl, (by omega), (by omega), for_range (lo := 0) (n := ((n : Int)).toNat) (fun i σ H' => ∃ (r : Int) (k : Option V), σ = [some (.ref d.dr), some (.int n), some (.int r), k] ∧ 0 ≤ r ∧ r < (10 : Int) ^ (10 * i) ∧ Drw H' d (b + (n - i)) ∧ Kp d H H') ⟨0, none, rfl, by omega, by decide, hD, Kp.refl d H⟩ ?_ ?_⟩
    · rintro i σ H1 hi ⟨r, k, rfl, r0, r1, w1, k1⟩
      rw [Int.toNat_natCast] at hi
      refine ⟨_, rfl, _, _, rfl, rfl, ⟨by decide, by decide, by decide⟩, _, _, rfl, rfl, .inr ⟨by decide, by decide⟩, _, rfl, _, _, rfl, rfl, ⟨by decide, by decide, by decide⟩, d, b + (n - (i + 1)), 10 ^ 10, rfl, by decide, by decide, w1.less (by omega), fun H2 z z0 z1 w2 k2 => ?_⟩
      refine ⟨_, _, rfl, rfl, r * 10 ^ 10 + z, some (.int (0 + (i : Int))), rfl, by omega, ?_, w2, k1.trans k2⟩
      rw [Nat.mul_add, Int.pow_add]
      have e : r * 10 ^ (10 * 1) + 10 ^ (10 * 1) ≤ (10 : Int) ^ (10 * i) * 10 ^ (10 * 1) := by
        have := Int.mul_le_mul_of_nonneg_right (show r + 1 ≤ (10 : Int) ^ (10 * i) by omega) (show (0 : Int) ≤ 10 ^ (10 * 1) by decide)
        rw [Int.add_mul, Int.one_mul] at this
        exact this
      have e2 : (10 : Int) ^ (10 * 1) = 10 ^ 10 := rfl
      omega
    · rintro σ H1 ⟨r, k, rfl, r0, r1, w1, k1⟩
      rw [Int.toNat_natCast] at r1 w1
      exact ⟨_, rfl, q _ _ r0 r1 (w1.less (by omega)) k1⟩
end
end B

namespace B
open PySem PySem.Spec PyProof.Rows L2

def sp_l_right (K : PySem.W.Frag) : Sp := fun vs H Q _ => ∃ (a : Addr) (t b f s : Int), vs = [.ref a, .int f, .int s] ∧ H a = some (.tup [.int t, .int b]) ∧ t.natAbs < 2 ^ 1000 ∧ b.natAbs < 2 ^ 1000 ∧ f.natAbs < 2 ^ 1000 ∧ s.natAbs < 2 ^ 1000 ∧ 1 ≤ b ∧ Nat.gcd t.natAbs b.natAbs = 1 ∧ t * s = f * b ∧ Q (.bl true) H

section
variable {P : Program} {w : World} {K : PySem.W.Frag} {mg : Str → Option Value} {base : Heap}
theorem ok_l_right (T : Tx K mg) : FnOk P w K mg base CX0 2 T.l_right.f T.l_right.fd ["_law_found", "_law_first", "_law_second"] (sp_l_right K) := by
  refine T.l_right.F.ok sc_l_right (fun vs H Q E h => ?_) (fun cdv A outer s H vs Q E hr h => ?_)
  · obtain ⟨a, t, b, f, s, rfl, hA, zt, zb, zf, zs, hb, hg, he, q⟩ := h
    rfl
  · obtain ⟨a, t, b, f, s, rfl, hA, zt, zb, zf, zs, hb, hg, he, q⟩ := h
    refine ⟨_, (pss_cons (ps_if (PW.pt (pw_or (pt_not (pt_val (pe_callB call_isi (by rfl) T.m_isinstance (by decide +kernel) (pa_cons (pv 0) (pa_cons (pe_bltn (v := .ty "tuple") (u := .type "tuple") (by rfl) T.m_tuple (by decide +kernel) rfl) pa_nil))))) (pw_or (pt_cmpR op_ne (pe_callB call_len_seq (by rfl) T.m_len (by decide +kernel) (pa_cons (pv 0) pa_nil)) pe_int (nomark _)) (pw_or (pt_not (pt_val (pe_call (ok_l_whole T) (hr.mono (by decide)) (by rfl) T.l_whole.g T.l_whole.F.kp T.l_whole.b .nil pass0 (pa_cons (pe_ix ix_tup (pv 0) pe_int (fun _ _ => rfl)) pa_nil)))) (pw_or1 (pt_not (pt_val (pe_call (ok_l_whole T) (hr.mono (by decide)) (by rfl) T.l_whole.g T.l_whole.F.kp T.l_whole.b .nil pass0 (pa_cons (pe_ix ix_tup (pv 0) pe_int (fun _ _ => rfl)) pa_nil))))))))) (pss_one (ps_ret pe_bl)) pss_nil)
      (pss_cons (ps_if (PW.pt (pw_or (pt_cmpR op_lt (pe_ix ix_tup (pv 0) pe_int (fun _ _ => rfl)) pe_int (nomark _)) (pw_or1 (pt_cmpR op_ne (pe_call (ok_l_common T) (hr.mono (by decide)) (by rfl) T.l_common.g T.l_common.F.kp T.l_common.b .nil pass0 (pa_cons (pe_callB call_abs (by rfl) T.m_abs (by decide +kernel) (pa_cons (pe_ix ix_tup (pv 0) pe_int (fun _ _ => rfl)) pa_nil)) (pa_cons (pe_ix ix_tup (pv 0) pe_int (fun _ _ => rfl)) pa_nil))) pe_int (nomark _))))) (pss_one (ps_ret pe_bl)) pss_nil)
      (pss_one (ps_ret (pe_cmpR op_eq (pe_op op_mulW (pe_ix ix_tup (pv 0) pe_int (fun _ _ => rfl)) (pv 2)) (pe_op op_mulW (pv 1) (pe_ix ix_tup (pv 0) pe_int (fun _ _ => rfl))) (nomark _)))))), ?_⟩
    have hT : SqT K H a [.int t, .int b] := .inl (.inl hA)
    refine ⟨_, rfl, _, .ty "tuple", .type "tuple", .type "tuple", true, rfl, .ty _, .base (.tup hA), kit_ty (by decide +kernel), _, rfl, iteF ?_⟩
    refine ⟨_, rfl, a, _, rfl, .inr hT, rfl, _, rfl, ?_⟩
    refine iteNS rfl ?_
    refine ⟨_, rfl, a, _, 0, .int t, rfl, rfl, hT, rfl, t, rfl, _, rfl, iteF ?_⟩
    refine ⟨_, rfl, a, _, 1, .int b, rfl, rfl, hT, rfl, b, rfl, _, rfl, iteF ?_⟩
    refine ⟨_, rfl, a, _, 1, .int b, rfl, rfl, hT, rfl, _, _, rfl, rfl, _, rfl, iteE (decide_eq_false (by omega)) ?_⟩
    refine ⟨_, rfl, a, _, 0, .int t, rfl, rfl, hT, rfl, t, rfl, _, rfl, a, _, 1, .int b, rfl, rfl, hT, rfl, t.natAbs, b.natAbs, ?_, ?_⟩
    · rw [abs_nat]
      have : b = (b.natAbs : Int) := by omega
      rw [← this]
      rfl
    refine ⟨rfl, _, rfl, ?_⟩
    rw [hg]
    refine iteNS rfl ?_
    refine ⟨_, rfl, a, _, 0, .int t, rfl, rfl, hT, rfl, _, rfl, _, _, rfl, rfl, wide_mul zt zs (by decide) (by decide) (by decide), _, rfl, _, rfl, a, _, 1, .int b, rfl, rfl, hT, rfl, _, _, rfl, rfl, wide_mul zf zb (by decide) (by decide) (by decide), rfl, ?_⟩
    rw [show decide (V.int (t * s) = V.int (f * b)) = true from decide_eq_true (by rw [he])]
    exact q
end
end B

namespace B
open PySem PySem.Spec PyProof.Rows L2
theorem sgn_mul {s r : Int} (h : s = 1 ∨ s = -1) (r0 : 0 ≤ r) (r1 : r < 2 ^ 140) : (s * r).natAbs < 2 ^ 140 := by
  rcases h with rfl | rfl
  · rw [Int.one_mul]; omega
  · rw [Int.neg_mul, Int.one_mul]; omega
theorem sgn_ok {s r : Int} (h : s = 1 ∨ s = -1) : CMul s r := by
  rcases h with rfl | rfl
  · exact .inl ⟨by decide, by decide⟩
  · exact .inl ⟨by decide, by decide⟩

def sp_l_int (_ : PySem.W.Frag) : Sp := fun vs H Q _ => ∃ (d : Dr) (b : Nat), vs = [.ref d.dr] ∧ Drw H d (b + 10) ∧ ∀ (H' : Hp) (r : Int), r.natAbs < 2 ^ 140 → Drw H' d b → Kp d H H' → Q (.int r) H'

section
variable {P : Program} {w : World} {K : PySem.W.Frag} {mg : Str → Option Value} {base : Heap}
theorem ok_l_int (T : Tx K mg) : FnOk P w K mg base CX0 3 T.l_int.f T.l_int.fd ["_law_drawn"] (sp_l_int K) := by
  refine T.l_int.F.ok sc_l_int (fun vs H Q E h => ?_) (fun cdv A outer s H vs Q E hr h => ?_)
  · obtain ⟨d, b, rfl, hD, q⟩ := h
    rfl
  · obtain ⟨d, b, rfl, hD, q⟩ := h
    refine ⟨_, (pss_cons (ps_set (i := 1) sc_l_int.nd rfl (.inl rfl) (pe_ix ix_list (pe_lst (pa_cons pe_int (pa_cons (pe_un un_neg pe_int) pa_nil))) (pe_call (ok_l_next T) (hr.mono (by decide)) (by rfl) T.l_next.g T.l_next.F.kp T.l_next.b .nil pass0 (pa_cons (pv 0) (pa_cons pe_int pa_nil))) (fun _ _ => rfl)))
      (pss_cons (ps_set (i := 2) sc_l_int.nd rfl (.inl rfl) (pe_call (ok_l_next T) (hr.mono (by decide)) (by rfl) T.l_next.g T.l_next.F.kp T.l_next.b .nil pass0 (pa_cons (pv 0) (pa_cons pe_int pa_nil))))
      (pss_cons (ps_if (pt_cmpR op_eq (pv 2) pe_int (nomark _)) (pss_one (ps_ret (pe_op op_mul (pv 1) (pe_call (ok_l_next T) (hr.mono (by decide)) (by rfl) T.l_next.g T.l_next.F.kp T.l_next.b .nil pass0 (pa_cons (pv 0) (pa_cons pe_int pa_nil)))))) pss_nil)
      (pss_cons (ps_if (pt_cmpR op_eq (pv 2) pe_int (nomark _)) (pss_one (ps_ret (pe_op op_mul (pv 1) (pe_call (ok_l_next T) (hr.mono (by decide)) (by rfl) T.l_next.g T.l_next.F.kp T.l_next.b .nil pass0 (pa_cons (pv 0) (pa_cons pe_int pa_nil)))))) pss_nil)
      (pss_one (ps_ret (pe_op op_mul (pv 1) (pe_call (ok_l_great T) (hr.mono (by decide)) (by rfl) T.l_great.g T.l_great.F.kp T.l_great.b .nil pass0 (pa_cons (pv 0) (pa_cons (pe_op op_add pe_int (pe_call (ok_l_next T) (hr.mono (by decide)) (by rfl) T.l_next.g T.l_next.F.kp T.l_next.b .nil pass0 (pa_cons (pv 0) (pa_cons pe_int pa_nil)))) pa_nil)))))))))), ?_⟩
    refine ⟨_, rfl, by decide, fun p np => ?_⟩
    refine ⟨_, rfl, d, b + 9, 2, rfl, by decide, by decide, hD.upd np, fun H1 r r0 r1 w1 k1 => ?_⟩
    have kp : Kp d H H1 := (Same.kp (same_upd np)).trans k1
    have hl : SqL K H1 p [.int 1, .int (-1)] := .inl (.inl (k1 _ _ upd_same (hD.no np).1 (hD.no np).2))
    obtain ⟨s, hs, es⟩ : ∃ s : Int, atI [V.int 1, V.int (-1)] r = some (.int s) ∧ (s = 1 ∨ s = -1) := by
      have : r = 0 ∨ r = 1 := by omega
      rcases this with rfl | rfl
      · exact ⟨1, rfl, .inl rfl⟩
      · exact ⟨-1, rfl, .inr rfl⟩
    refine ⟨p, _, r, .int s, rfl, rfl, hl, hs, ?_⟩
    refine ⟨_, rfl, d, b + 8, 4, rfl, by decide, by decide, w1, fun H2 r2 r20 r21 w2 k2 => ?_⟩
    refine ⟨_, rfl, rfl, _, rfl, ite2 (fun e => ?_) (fun e => ?_)⟩
    · refine ⟨_, rfl, _, rfl, d, b + 7, 3, rfl, by decide, by decide, w2, fun H3 r3 r30 r31 w3 k3 => ?_⟩
      exact ⟨_, _, rfl, rfl, sgn_ok es, q _ _ (sgn_mul es r30 (by omega)) (w3.less (by omega)) ((kp.trans k2).trans k3)⟩
    · refine ⟨_, rfl, rfl, _, rfl, ite2 (fun e => ?_) (fun e => ?_)⟩
      · refine ⟨_, rfl, _, rfl, d, b + 7, 1000, rfl, by decide, by decide, w2, fun H3 r3 r30 r31 w3 k3 => ?_⟩
        exact ⟨_, _, rfl, rfl, sgn_ok es, q _ _ (sgn_mul es r30 (by omega)) (w3.less (by omega)) ((kp.trans k2).trans k3)⟩
      · refine ⟨_, rfl, _, rfl, _, rfl, d, b + 7, 4, rfl, by decide, by decide, w2, fun H3 r3 r30 r31 w3 k3 => ?_⟩
        refine ⟨_, _, rfl, rfl, d, b, (1 + r3).toNat, ?_, by omega, w3.less (by omega), fun H4 r4 r40 r41 w4 k4 => ?_⟩
        · rw [Int.toNat_of_nonneg (by omega)]
          rfl
        · refine ⟨_, _, rfl, rfl, sgn_ok es, q _ _ (sgn_mul es r40 ?_) w4 (((kp.trans k2).trans k3).trans k4)⟩
          have : (10 : Int) ^ (10 * (1 + r3).toNat) ≤ 10 ^ 40 := by
            have h4 : (1 + r3).toNat = 1 ∨ (1 + r3).toNat = 2 ∨ (1 + r3).toNat = 3 ∨ (1 + r3).toNat = 4 := by omega
            rcases h4 with h | h | h | h <;> rw [h] <;> decide
          exact Int.lt_of_lt_of_le r41 (Int.le_trans this (by decide))
end
end B

namespace B
open PySem PySem.Spec PyProof.Rows L2
theorem k00_a {f c s : Int} (hs : 1 ≤ s) : lowT (f * s) (c * s) * c = f * lowB (f * s) (c * s) := by
  have e := low_cross (f * s) (c * s)
  refine Int.eq_of_mul_eq_mul_right (show s ≠ 0 by omega) ?_
  rw [Int.mul_assoc, e, Int.mul_assoc, Int.mul_assoc, Int.mul_comm s]
theorem k00_b {f c s : Int} (hc : c ≠ 0) (hs : 1 ≤ s) : lowT (0 - f) (0 - c) = lowT (f * s) (c * s) ∧ lowB (0 - f) (0 - c) = lowB (f * s) (c * s) := by
  have hcs : c * s ≠ 0 := Int.mul_ne_zero hc (by omega)
  refine low_is (by omega) (lowB_pos hcs) (low_cop hcs) ?_
  rw [Int.zero_sub, Int.zero_sub, Int.mul_neg, Int.neg_mul, k00_a hs]
theorem k00_cs {c s : Int} (hc : c ≠ 0) (hs : 1 ≤ s) : c * s ≠ 0 := Int.mul_ne_zero hc (by omega)
theorem k00_zt {f c s : Int} (hc : c ≠ 0) (hs : 1 ≤ s) (zf : f.natAbs < 2 ^ 140) (zs : s.natAbs < 2 ^ 140) : (lowT (f * s) (c * s)).natAbs < 2 ^ 1000 := nab_le (lowT_abs (k00_cs hc hs)) (nab_mul zf zs (by decide))
theorem k00_zb {f c s : Int} (hc : c ≠ 0) (hs : 1 ≤ s) (zc : c.natAbs < 2 ^ 140) (zs : s.natAbs < 2 ^ 140) : (lowB (f * s) (c * s)).natAbs < 2 ^ 1000 := nab_le (lowB_abs (k00_cs hc hs)) (nab_mul zc zs (by decide))
theorem ne2 {x y : Int} : (!PyData.eqv (.tuple [.int x, .int y]) (.tuple [.int x, .int y])) = false := by
  rw [SeqAt.eqv_refl _ rfl]
  rfl

def sp_law (K : PySem.W.Frag) : Sp := fun vs H Q _ => ∃ (a : Addr) (ns : List Int), vs = [.ref a] ∧ SqL K H a (ns.map V.int) ∧ ns.length ≤ 63 ∧ (∀ z ∈ ns, Builtin.Int.intBits z ≤ 1048576) ∧ ∀ H', Q (.bl true) H'

section
variable {P : Program} {w : World} {K : PySem.W.Frag} {mg : Str → Option Value} {base : Heap}
theorem ok_law (T : Tx K mg) : FnOk P w K mg base CX0 4 T.law.f T.law.fd ["_law_script"] (sp_law K) := by
  refine T.law.F.ok sc_law (fun vs H Q E h => ?_) (fun cdv A outer s H vs Q E hr h => ?_)
  · obtain ⟨a, ns, rfl, hS, hlen, _, q⟩ := h
    rfl
  · obtain ⟨a, ns, rfl, hS, hlen, _, q⟩ := h
    refine ⟨_, (pss_cons (ps_set (i := 1) sc_law.nd rfl (.inl rfl) (pe_call (ok_l_draws T) (hr.mono (by decide)) (by rfl) T.l_draws.g T.l_draws.F.kp T.l_draws.b .nil pass0 (pa_cons (pv 0) pa_nil)))
      (pss_cons (ps_for PassesOwn.never rfl (pi_range1 (by rfl) T.m_range (pa_cons pe_int pa_nil)) (pg_name (i := 2) sc_law.nd rfl (.inl rfl))
      (pss_cons (ps_set (i := 3) sc_law.nd rfl (.inl rfl) (pe_call (ok_l_int T) (hr.mono (by decide)) (by rfl) T.l_int.g T.l_int.F.kp T.l_int.b .nil pass0 (pa_cons (pv 1) pa_nil)))
      (pss_cons (ps_set (i := 4) sc_law.nd rfl (.inl rfl) (pe_call (ok_l_int T) (hr.mono (by decide)) (by rfl) T.l_int.g T.l_int.F.kp T.l_int.b .nil pass0 (pa_cons (pv 1) pa_nil)))
      (pss_cons (ps_if (pt_cmpR op_eq (pv 4) pe_int (nomark _)) (pss_one (ps_set (i := 4) sc_law.nd rfl (.inl rfl) pe_int)) pss_nil)
      (pss_cons (ps_set (i := 5) sc_law.nd rfl (.inl rfl) (pe_ix ix_list (pe_lst (pa_cons pe_int (pa_cons (pe_op op_add pe_int (pe_call (ok_l_next T) (hr.mono (by decide)) (by rfl) T.l_next.g T.l_next.F.kp T.l_next.b .nil pass0 (pa_cons (pv 1) (pa_cons pe_int pa_nil)))) (pa_cons (pe_op op_add pe_int (pe_call (ok_l_great T) (hr.mono (by decide)) (by rfl) T.l_great.g T.l_great.F.kp T.l_great.b .nil pass0 (pa_cons (pv 1) (pa_cons pe_int pa_nil)))) pa_nil)))) (pe_call (ok_l_next T) (hr.mono (by decide)) (by rfl) T.l_next.g T.l_next.F.kp T.l_next.b .nil pass0 (pa_cons (pv 1) (pa_cons pe_int pa_nil))) (fun _ _ => rfl)))
      (pss_cons (ps_set (i := 6) sc_law.nd rfl (.inl rfl) (pe_call (ok_lowest T) (hr.mono (by decide)) (by rfl) T.lowest.g T.lowest.F.kp T.lowest.b .nil pass0 (pa_cons (pe_op op_mulW (pv 3) (pv 5)) (pa_cons (pe_op op_mulW (pv 4) (pv 5)) pa_nil))))
      (pss_cons (ps_if (PW.pt (pw_or (pt_not (pt_val (pe_call (ok_l_right T) (hr.mono (by decide)) (by rfl) T.l_right.g T.l_right.F.kp T.l_right.b .nil pass0 (pa_cons (pv 6) (pa_cons (pv 3) (pa_cons (pv 4) pa_nil)))))) (pw_or1 (pt_cmpR (op_neD hr.units) (pe_call (ok_lowest T) (hr.mono (by decide)) (by rfl) T.lowest.g T.lowest.F.kp T.lowest.b .nil pass0 (pa_cons (pe_op op_mulW (pv 3) (pv 5)) (pa_cons (pe_op op_mulW (pv 4) (pv 5)) pa_nil))) (pv 6) (nomark _))))) (pss_one (ps_ret pe_bl)) pss_nil)
      (pss_one (ps_if (pt_cmpR (op_neD hr.units) (pe_call (ok_lowest T) (hr.mono (by decide)) (by rfl) T.lowest.g T.lowest.F.kp T.lowest.b .nil pass0 (pa_cons (pe_op op_sub pe_int (pv 3)) (pa_cons (pe_op op_sub pe_int (pv 4)) pa_nil))) (pv 6) (nomark _)) (pss_one (ps_ret pe_bl)) pss_nil)))))))))
      (pss_one (ps_ret pe_bl)))), ?_⟩
    refine ⟨_, rfl, a, ns, rfl, hS, hlen, fun H1 d w1 _ _ _ => ?_⟩
    refine ⟨6, rfl, by decide, by decide, for_range (lo := 0) (n := 6) (fun i σ H' => ∃ x2 x3 x4 x5 x6, σ = [some (.ref a), some (.ref d.dr), x2, x3, x4, x5, x6] ∧ Drw H' d (600 - 100 * i)) ⟨none, none, none, none, none, rfl, w1.less (by omega)⟩ ?_ ?_⟩
    · rintro i σ H2 hi ⟨x2, x3, x4, x5, x6, rfl, w2⟩
      refine ⟨_, rfl, d, 500 - 100 * i + 80, rfl, w2.less (by omega), fun H3 f zf w3 k3 => ?_⟩
      refine ⟨_, rfl, d, 500 - 100 * i + 70, rfl, w3.less (by omega), fun H4 c0 zc0 w4 k4 => ?_⟩
      have A1 : (1 : Int) ≠ 0 := by decide
      have A2 : (1 : Int).natAbs < 2 ^ 140 := by decide
      refine ⟨_, rfl, rfl, _, rfl, ite2 (fun e => ?_) (fun e => ?_)⟩
      all_goals try have B1 : c0 ≠ 0 := fun z => e (decide_eq_true (by rw [z]))
      all_goals
        refine ⟨_, rfl, d, 500 - 100 * i + 60, 30, rfl, by decide, by decide, w4.less (by omega), fun H5 r5 r50 r51 w5 k5 => ?_⟩
        refine ⟨_, _, rfl, rfl, _, rfl, d, 500 - 100 * i + 50, 2, rfl, by decide, w5.less (by omega), fun H6 r6 r60 r61 w6 k6 => ?_⟩
        refine ⟨_, _, rfl, rfl, by show 3 ≤ sizeLine; decide, fun p np => ?_⟩
        refine ⟨_, rfl, d, 500 - 100 * i + 40, 3, rfl, by decide, by decide, (w6.less (by omega)).upd np, fun H7 r7 r70 r71 w7 k7 => ?_⟩
        have hl : SqL K H7 p [.int 1, .int (1 + r5), .int (1 + r6)] := .inl (.inl (k7 _ _ upd_same (w6.no np).1 (w6.no np).2))
        obtain ⟨s, hs, s1, sz⟩ : ∃ s : Int, atI [V.int 1, V.int (1 + r5), V.int (1 + r6)] r7 = some (.int s) ∧ 1 ≤ s ∧ s.natAbs < 2 ^ 140 := by
          have : r7 = 0 ∨ r7 = 1 ∨ r7 = 2 := by omega
          have e6 : (10 : Int) ^ (10 * 2) = 100000000000000000000 := by decide
          rw [e6] at r61
          rcases this with rfl | rfl | rfl
          · exact ⟨1, rfl, by decide, by decide⟩
          · exact ⟨1 + r5, rfl, by omega, by omega⟩
          · exact ⟨1 + r6, rfl, by omega, by omega⟩
        refine ⟨p, _, r7, .int s, rfl, rfl, hl, hs, ?_⟩
        refine ⟨_, rfl, _, rfl, _, _, rfl, rfl, wide_mul zf sz (by decide) (by decide) (by decide), _, rfl, _, rfl, _, _, rfl, rfl, wide_mul (b := 140) (by first | exact A2 | exact zc0) sz (by decide) (by decide) (by decide), _, _, rfl, Int.mul_ne_zero (by first | exact A1 | exact B1) (by omega), nab_mul (a := 140) (b := 140) (by first | exact A2 | exact zc0) sz (by decide), fun p1 np1 => ?_⟩
        refine ⟨_, rfl, _, rfl, _, rfl, p1, _, _, f, _, rfl, upd_same, k00_zt (by first | exact A1 | exact B1) s1 zf sz, k00_zb (by first | exact A1 | exact B1) s1 (by first | exact A2 | exact zc0) sz, Nat.lt_of_lt_of_le zf (by decide), Nat.lt_of_lt_of_le (by first | exact A2 | exact zc0) (by decide), lowB_pos (k00_cs (by first | exact A1 | exact B1) s1), low_cop (k00_cs (by first | exact A1 | exact B1) s1), k00_a s1, _, rfl, iteF ?_⟩
        refine ⟨_, rfl, _, rfl, _, _, rfl, rfl, wide_mul zf sz (by decide) (by decide) (by decide), _, rfl, _, rfl, _, _, rfl, rfl, wide_mul (b := 140) (by first | exact A2 | exact zc0) sz (by decide) (by decide) (by decide), _, _, rfl, k00_cs (by first | exact A1 | exact B1) s1, nab_mul (a := 140) (b := 140) (by first | exact A2 | exact zc0) sz (by decide), fun p2 np2 => ?_⟩
        have n12 : p1 ≠ p2 := ne_of_none upd_same np2
        refine ⟨_, rfl, _, _, dp2 sqt_upd, dp2 (.inl (.inl (by rw [upd_ne n12]; exact upd_same))), rfl, rfl, _, rfl, iteE ne2 ?_⟩
        refine ⟨_, rfl, _, _, rfl, rfl, _, rfl, _, _, rfl, rfl, _, _, rfl, (by have := (by first | exact A1 | exact B1); omega), (by have := (by first | exact A2 | exact zc0); omega), fun p3 np3 => ?_⟩
        have n13 : p1 ≠ p3 := ne_of_none (by rw [upd_ne n12]; exact upd_same) np3
        refine ⟨_, rfl, _, _, dp2 sqt_upd, dp2 (.inl (.inl (by rw [upd_ne n13, upd_ne n12]; exact upd_same))), rfl, rfl, _, rfl, iteE (by first | (have eb := k00_b (f := f) A1 s1; rw [eb.1, eb.2]; exact ne2) | (have eb := k00_b (f := f) B1 s1; rw [eb.1, eb.2]; exact ne2)) ?_⟩
        exact ⟨_, _, _, _, _, rfl, (((w7.upd np1).upd np2).upd np3).less (by omega)⟩
    · rintro σ H2 ⟨x2, x3, x4, x5, x6, rfl, w2⟩
      exact q _
end
end B
namespace B
open PySem PySem.Spec PyProof.Rows L2
theorem all_mk {l : PySem.W.OpenLaw} {w : World} {K : PySem.W.Frag} {h : Heap} {mg : Str → Option Value} {fa : Addr} (X : K.In h) (G : h.Ns mainGlobals mg) (hfa : mg "law" = some (.ref fa))
    {f0 : Addr} {od0 an0 : Option Addr} {sl0 : Array (Option Value)} {oc0 kV0 dc0 pm0 cd0 ct0 : Value} (a0 : PySem.W.nsIn K mainGlobals "common" = some (some (.ref f0))) (l0 : K.lookup f0 = some ⟨oc0, od0, .func (PySem.W.fnOf "common" "common" (defArgs s_common) (defBody s_common) (defScope s_common) .none kV0 dc0 pm0 an0 cd0 ct0), sl0⟩) (c0 : PySem.W.codeIn K cd0 "common" = true) (k0 : PySem.W.keepIn K (.ref f0) = true)
    {f1 : Addr} {od1 an1 : Option Addr} {sl1 : Array (Option Value)} {oc1 kV1 dc1 pm1 cd1 ct1 : Value} (a1 : PySem.W.nsIn K mainGlobals "lowest" = some (some (.ref f1))) (l1 : K.lookup f1 = some ⟨oc1, od1, .func (PySem.W.fnOf "lowest" "lowest" (defArgs s_lowest) (defBody s_lowest) (defScope s_lowest) .none kV1 dc1 pm1 an1 cd1 ct1), sl1⟩) (c1 : PySem.W.codeIn K cd1 "lowest" = true) (k1 : PySem.W.keepIn K (.ref f1) = true)
    {f2 : Addr} {od2 an2 : Option Addr} {sl2 : Array (Option Value)} {oc2 kV2 dc2 pm2 cd2 ct2 : Value} (a2 : PySem.W.nsIn K mainGlobals "_law_draws" = some (some (.ref f2))) (l2 : K.lookup f2 = some ⟨oc2, od2, .func (PySem.W.fnOf "_law_draws" "_law_draws" (defArgs s_l_draws) (defBody s_l_draws) (defScope s_l_draws) .none kV2 dc2 pm2 an2 cd2 ct2), sl2⟩) (c2 : PySem.W.codeIn K cd2 "_law_draws" = true) (k2 : PySem.W.keepIn K (.ref f2) = true)
    {f3 : Addr} {od3 an3 : Option Addr} {sl3 : Array (Option Value)} {oc3 kV3 dc3 pm3 cd3 ct3 : Value} (a3 : PySem.W.nsIn K mainGlobals "_law_next" = some (some (.ref f3))) (l3 : K.lookup f3 = some ⟨oc3, od3, .func (PySem.W.fnOf "_law_next" "_law_next" (defArgs s_l_next) (defBody s_l_next) (defScope s_l_next) .none kV3 dc3 pm3 an3 cd3 ct3), sl3⟩) (c3 : PySem.W.codeIn K cd3 "_law_next" = true) (k3 : PySem.W.keepIn K (.ref f3) = true)
    {f4 : Addr} {od4 an4 : Option Addr} {sl4 : Array (Option Value)} {oc4 kV4 dc4 pm4 cd4 ct4 : Value} (a4 : PySem.W.nsIn K mainGlobals "_law_whole" = some (some (.ref f4))) (l4 : K.lookup f4 = some ⟨oc4, od4, .func (PySem.W.fnOf "_law_whole" "_law_whole" (defArgs s_l_whole) (defBody s_l_whole) (defScope s_l_whole) .none kV4 dc4 pm4 an4 cd4 ct4), sl4⟩) (c4 : PySem.W.codeIn K cd4 "_law_whole" = true) (k4 : PySem.W.keepIn K (.ref f4) = true)
    {f5 : Addr} {od5 an5 : Option Addr} {sl5 : Array (Option Value)} {oc5 kV5 dc5 pm5 cd5 ct5 : Value} (a5 : PySem.W.nsIn K mainGlobals "_law_great" = some (some (.ref f5))) (l5 : K.lookup f5 = some ⟨oc5, od5, .func (PySem.W.fnOf "_law_great" "_law_great" (defArgs s_l_great) (defBody s_l_great) (defScope s_l_great) .none kV5 dc5 pm5 an5 cd5 ct5), sl5⟩) (c5 : PySem.W.codeIn K cd5 "_law_great" = true) (k5 : PySem.W.keepIn K (.ref f5) = true)
    {f6 : Addr} {od6 an6 : Option Addr} {sl6 : Array (Option Value)} {oc6 kV6 dc6 pm6 cd6 ct6 : Value} (a6 : PySem.W.nsIn K mainGlobals "_law_int" = some (some (.ref f6))) (l6 : K.lookup f6 = some ⟨oc6, od6, .func (PySem.W.fnOf "_law_int" "_law_int" (defArgs s_l_int) (defBody s_l_int) (defScope s_l_int) .none kV6 dc6 pm6 an6 cd6 ct6), sl6⟩) (c6 : PySem.W.codeIn K cd6 "_law_int" = true) (k6 : PySem.W.keepIn K (.ref f6) = true)
    {f7 : Addr} {od7 an7 : Option Addr} {sl7 : Array (Option Value)} {oc7 kV7 dc7 pm7 cd7 ct7 : Value} (a7 : PySem.W.nsIn K mainGlobals "_law_common" = some (some (.ref f7))) (l7 : K.lookup f7 = some ⟨oc7, od7, .func (PySem.W.fnOf "_law_common" "_law_common" (defArgs s_l_common) (defBody s_l_common) (defScope s_l_common) .none kV7 dc7 pm7 an7 cd7 ct7), sl7⟩) (c7 : PySem.W.codeIn K cd7 "_law_common" = true) (k7 : PySem.W.keepIn K (.ref f7) = true)
    {f8 : Addr} {od8 an8 : Option Addr} {sl8 : Array (Option Value)} {oc8 kV8 dc8 pm8 cd8 ct8 : Value} (a8 : PySem.W.nsIn K mainGlobals "_law_right" = some (some (.ref f8))) (l8 : K.lookup f8 = some ⟨oc8, od8, .func (PySem.W.fnOf "_law_right" "_law_right" (defArgs s_l_right) (defBody s_l_right) (defScope s_l_right) .none kV8 dc8 pm8 an8 cd8 ct8), sl8⟩) (c8 : PySem.W.codeIn K cd8 "_law_right" = true) (k8 : PySem.W.keepIn K (.ref f8) = true)
    {f9 : Addr} {od9 an9 : Option Addr} {sl9 : Array (Option Value)} {oc9 kV9 dc9 pm9 cd9 ct9 : Value} (a9 : PySem.W.nsIn K mainGlobals "law" = some (some (.ref f9))) (l9 : K.lookup f9 = some ⟨oc9, od9, .func (PySem.W.fnOf "law" "law" (defArgs s_law) (defBody s_law) (defScope s_law) .none kV9 dc9 pm9 an9 cd9 ct9), sl9⟩) (c9 : PySem.W.codeIn K cd9 "law" = true) (k9 : PySem.W.keepIn K (.ref f9) = true)
    (z_abs : PySem.W.nsIn K mainGlobals "abs" = some none)
    (z_bool : PySem.W.nsIn K mainGlobals "bool" = some none)
    (z_int : PySem.W.nsIn K mainGlobals "int" = some none)
    (z_isinstance : PySem.W.nsIn K mainGlobals "isinstance" = some none)
    (z_len : PySem.W.nsIn K mainGlobals "len" = some none)
    (z_list : PySem.W.nsIn K mainGlobals "list" = some none)
    (z_range : PySem.W.nsIn K mainGlobals "range" = some none)
    (z_tuple : PySem.W.nsIn K mainGlobals "tuple" = some none)
    : ∃ fd : FuncData, (∀ (s : Shared) (v : Value), BindsTo s fd ⟨[v], []⟩ [("_law_script", v)]) ∧ ∀ base : Heap, K.In base → base.Ns mainGlobals mg → FnOk l.prog w K mg base CX0 4 fa fd ["_law_script"] (sp_law K) := by
  have e := hfa.symm.trans (PySem.W.mg_of X G a9)
  cases e
  have F0 := fun_mk (st := s_common) l0 c0 k0
  have b0 := F0.binds (ps := ["one", "other"]) fun _ _ _ _ _ _ us hl => match us, hl with | [_, _], _ => rfl
  have F1 := fun_mk (st := s_lowest) l1 c1 k1
  have b1 := F1.binds (ps := ["top", "bottom"]) fun _ _ _ _ _ _ us hl => match us, hl with | [_, _], _ => rfl
  have F2 := fun_mk (st := s_l_draws) l2 c2 k2
  have b2 := F2.binds (ps := ["_law_script"]) fun _ _ _ _ _ _ us hl => match us, hl with | [_], _ => rfl
  have F3 := fun_mk (st := s_l_next) l3 c3 k3
  have b3 := F3.binds (ps := ["_law_drawn", "_law_many"]) fun _ _ _ _ _ _ us hl => match us, hl with | [_, _], _ => rfl
  have F4 := fun_mk (st := s_l_whole) l4 c4 k4
  have b4 := F4.binds (ps := ["_law_thing"]) fun _ _ _ _ _ _ us hl => match us, hl with | [_], _ => rfl
  have F5 := fun_mk (st := s_l_great) l5 c5 k5
  have b5 := F5.binds (ps := ["_law_drawn", "_law_parts"]) fun _ _ _ _ _ _ us hl => match us, hl with | [_, _], _ => rfl
  have F6 := fun_mk (st := s_l_int) l6 c6 k6
  have b6 := F6.binds (ps := ["_law_drawn"]) fun _ _ _ _ _ _ us hl => match us, hl with | [_], _ => rfl
  have F7 := fun_mk (st := s_l_common) l7 c7 k7
  have b7 := F7.binds (ps := ["_law_one", "_law_other"]) fun _ _ _ _ _ _ us hl => match us, hl with | [_, _], _ => rfl
  have F8 := fun_mk (st := s_l_right) l8 c8 k8
  have b8 := F8.binds (ps := ["_law_found", "_law_first", "_law_second"]) fun _ _ _ _ _ _ us hl => match us, hl with | [_, _, _], _ => rfl
  have F9 := fun_mk (st := s_law) l9 c9 k9
  have b9 := F9.binds (ps := ["_law_script"]) fun _ _ _ _ _ _ us hl => match us, hl with | [_], _ => rfl
  exact ⟨_, fun s v => .of_eq rfl, fun base _ _ => (ok_law ⟨⟨_, _, F0, b0, PySem.W.mg_of X G a0⟩, ⟨_, _, F1, b1, PySem.W.mg_of X G a1⟩, ⟨_, _, F2, b2, PySem.W.mg_of X G a2⟩, ⟨_, _, F3, b3, PySem.W.mg_of X G a3⟩, ⟨_, _, F4, b4, PySem.W.mg_of X G a4⟩, ⟨_, _, F5, b5, PySem.W.mg_of X G a5⟩, ⟨_, _, F6, b6, PySem.W.mg_of X G a6⟩, ⟨_, _, F7, b7, PySem.W.mg_of X G a7⟩, ⟨_, _, F8, b8, PySem.W.mg_of X G a8⟩, ⟨_, _, F9, b9, PySem.W.mg_of X G a9⟩, PySem.W.mg_none_of X G z_abs, PySem.W.mg_none_of X G z_bool, PySem.W.mg_none_of X G z_int, PySem.W.mg_none_of X G z_isinstance, PySem.W.mg_none_of X G z_len, PySem.W.mg_none_of X G z_list, PySem.W.mg_none_of X G z_range, PySem.W.mg_none_of X G z_tuple⟩)⟩
end B
open PySem PySem.W PyProof.Rows
set_option maxRecDepth 100000 in
set_option maxHeartbeats 0 in
theorem PySem.Challenge.cw_betstall_k00_fractions_in_lowest_terms_holds : PySem.Challenge.rw_betstall_k00_fractions_in_lowest_terms.Holds := by
  w_on; o_law; k_head; (case hw => w_witness2)
  k_fill
  refine L2.walk_ofB (l := PySem.Challenge.rw_betstall_k00_fractions_in_lowest_terms) (n := 63) (k := 4) (x := "_law_script") (CX := fun _ => L2.CX0) (sp := fun w => B.sp_law _) rfl (by decide) rfl ⟨rfl, by decide, by decide⟩ (fun w h Y => PySem.W.kIn_of Y) ?F (fun _ _ a ns hl hb _ hS => ⟨a, ns, rfl, hS, hl, hb, fun _ => rfl⟩) (fun _ _ _ _ _ h => h)
  case F =>
    intro w mg fa h KX G hmg
    refine' B.all_mk KX G hmg ?a0 ?l0 ?c0 ?k0 ?a1 ?l1 ?c1 ?k1 ?a2 ?l2 ?c2 ?k2 ?a3 ?l3 ?c3 ?k3 ?a4 ?l4 ?c4 ?k4 ?a5 ?l5 ?c5 ?k5 ?a6 ?l6 ?c6 ?k6 ?a7 ?l7 ?c7 ?k7 ?a8 ?l8 ?c8 ?k8 ?a9 ?l9 ?c9 ?k9 ?z_abs ?z_bool ?z_int ?z_isinstance ?z_len ?z_list ?z_range ?z_tuple
    (case a0 => k_is); (case l0 => k_is); (case c0 => k_is); (case k0 => k_is); (case a1 => k_is); (case l1 => k_is); (case c1 => k_is); (case k1 => k_is); (case a2 => k_is); (case l2 => k_is); (case c2 => k_is); (case k2 => k_is); (case a3 => k_is); (case l3 => k_is); (case c3 => k_is); (case k3 => k_is); (case a4 => k_is); (case l4 => k_is); (case c4 => k_is); (case k4 => k_is); (case a5 => k_is); (case l5 => k_is); (case c5 => k_is); (case k5 => k_is); (case a6 => k_is); (case l6 => k_is); (case c6 => k_is); (case k6 => k_is); (case a7 => k_is); (case l7 => k_is); (case c7 => k_is); (case k7 => k_is); (case a8 => k_is); (case l8 => k_is); (case c8 => k_is); (case k8 => k_is); (case a9 => k_is); (case l9 => k_is); (case c9 => k_is); (case k9 => k_is); (case z_abs => k_is); (case z_bool => k_is); (case z_int => k_is); (case z_isinstance => k_is); (case z_len => k_is); (case z_list => k_is); (case z_range => k_is); (case z_tuple => k_is)
