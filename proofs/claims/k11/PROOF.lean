import PyProof.Rows.All
import Wide.All
import OpenK.AllK
import Wide.FinOn
import HandS.Base
import HandS.Call
import HandS.List
import HandS.Comp
import HandS.Ends
import HandS.Dict
import HandS.Iter
import HandS.Text
import HandS.Words
import HandS.TryOnly
import HandS.Wide
import HandS.IsInst
import HandS.EndBits
import HandS.TupAny
import HandS.TupMul
import HandS.Replace
import HandS.SortInts
import HandS.Evl
import HandS.Zip
import HandS.Exc
import HandS.ExcOwn
import HandS.ExcValue
import HandS.ExcIs
import HandS.WordsExc
import HandS.TryMany
import HandS.Walk
import HandS.TupLe
import HandS.Defaults
import HandS.CallSlots
import KE.GoesMore
import KE.GoesEnum
import KE.GoesNew
import PySem.Challenge.RW_betstall_k11_refusals_by_hand
set_option Elab.async false
set_option linter.all false
set_option maxRecDepth 100000
set_option maxHeartbeats 4000000
namespace B
open PySem PySem.Spec PyProof.Rows L2
/-! ### a def of the text, by its place, its parameters, its name -/
structure Df (K : PySem.W.Frag) (mg : Str → Option Value) (x : Str) (st : Stmt) (ps : List Str) where
  f : Addr
  fd : FuncData
  F : Fun K x x st f fd
  b : Binds K fd ps []
  g : mg x = some (.ref f)
/-! ### heaps -/
theorem same_upd {H : Hp} {p : Addr} {o : HO} (h : H p = none) : Same H (upd H p o) := fun b x e => by
  rw [upd_ne (ne_of_none e h)]
  exact e
theorem Same.tup {K : PySem.W.Frag} {H H' : Hp} {a : Addr} {xs : List V} (e : Same H H') (h : SqT K H a xs) : SqT K H' a xs := by
  rcases h with (h | ⟨o, h⟩) | h
  · exact .inl (.inl (e _ _ h))
  · exact .inl (.inr ⟨o, e _ _ h⟩)
  · exact .inr h
theorem sqt_upd {K : PySem.W.Frag} {H : Hp} {p : Addr} {xs : List V} : SqT K (upd H p (.tup xs)) p xs := .inl (.inl upd_same)
theorem sql_upd {K : PySem.W.Frag} {H : Hp} {p : Addr} {xs : List V} : SqL K (upd H p (.lst xs)) p xs := .inl (.inl upd_same)
/-- the three objects of a row of draws -/
structure Dr where
  dr : Addr
  cl : Addr
  rs : Addr
/-- such a row stands at d, and b further draws may be asked -/
structure Drw (H : Hp) (d : Dr) (b : Nat) : Prop where
  ex : ∃ (cs rr : List Int) (c : Nat), H d.dr = some (.lst [.ref d.cl, .int c, .ref d.rs]) ∧ H d.cl = some (.lst (cs.map V.int)) ∧ H d.rs = some (.lst (rr.map V.int)) ∧ cs.length = rr.length ∧ 0 < cs.length ∧ cs.length ≤ 63 ∧ c + b ≤ 1000000
  ne : d.cl ≠ d.rs
/-- all else that was tracked is as it was -/
def Kp (d : Dr) (H H' : Hp) : Prop := ∀ b o, H b = some o → b ≠ d.dr → b ≠ d.rs → H' b = some o
theorem Kp.refl (d : Dr) (H : Hp) : Kp d H H := fun _ _ h _ _ => h
theorem Kp.trans {d : Dr} {H H1 H2 : Hp} (a : Kp d H H1) (b : Kp d H1 H2) : Kp d H H2 := fun x o h n m => b x o (a x o h n m) n m
theorem Same.kp {d : Dr} {H H' : Hp} (e : Same H H') : Kp d H H' := fun b o h _ _ => e b o h
theorem Kp.upd {d : Dr} {H H' : Hp} {p : Addr} {o : HO} (k : Kp d H H') (h : H p = none) : Kp d H (upd H' p o) := fun b x e n m => by
  rw [upd_ne (ne_of_none e h)]
  exact k b x e n m
theorem Drw.less {H : Hp} {d : Dr} {b c : Nat} (h : Drw H d b) (e : c ≤ b) : Drw H d c := by
  obtain ⟨⟨cs, rr, k, h1, h2, h3, h4, h5, h6, h7⟩, ne⟩ := h
  exact ⟨⟨cs, rr, k, h1, h2, h3, h4, h5, h6, by omega⟩, ne⟩
theorem Drw.same {H H' : Hp} {d : Dr} {b : Nat} (h : Drw H d b) (e : Same H H') : Drw H' d b := by
  obtain ⟨⟨cs, rr, k, h1, h2, h3, h4⟩, ne⟩ := h
  exact ⟨⟨cs, rr, k, e _ _ h1, e _ _ h2, e _ _ h3, h4⟩, ne⟩
theorem Drw.upd {H : Hp} {d : Dr} {b : Nat} {p : Addr} {o : HO} (h : Drw H d b) (n : H p = none) : Drw (upd H p o) d b := h.same (same_upd n)
theorem Drw.dr {H : Hp} {d : Dr} {b : Nat} (h : Drw H d b) : ∃ xs, H d.dr = some (.lst xs) := by
  obtain ⟨⟨cs, rr, k, h1, h2, h3, h4⟩, ne⟩ := h
  exact ⟨_, h1⟩
theorem Drw.rs {H : Hp} {d : Dr} {b : Nat} (h : Drw H d b) : ∃ xs, H d.rs = some (.lst xs) := by
  obtain ⟨⟨cs, rr, k, h1, h2, h3, h4⟩, ne⟩ := h
  exact ⟨_, h3⟩
theorem Drw.no {H : Hp} {d : Dr} {b : Nat} {p : Addr} (h : Drw H d b) (n : H p = none) : p ≠ d.dr ∧ p ≠ d.rs := by
  obtain ⟨x, hx⟩ := h.dr
  obtain ⟨y, hy⟩ := h.rs
  exact ⟨(ne_of_none hx n).symm, (ne_of_none hy n).symm⟩
/-- a tuple stays as it is, whatever is drawn -/
theorem Kp.tup {K : PySem.W.Frag} {d : Dr} {b : Nat} {H H' : Hp} {a : Addr} {xs : List V} (k : Kp d H H') (w : Drw H d b) (h : SqT K H a xs) : SqT K H' a xs := by
  obtain ⟨ys, hy⟩ := w.dr
  obtain ⟨zs, hz⟩ := w.rs
  rcases h with (h | ⟨o, h⟩) | h
  · exact .inl (.inl (k _ _ h (ne_of h hy (by intro q; cases q)) (ne_of h hz (by intro q; cases q))))
  · exact .inl (.inr ⟨o, k _ _ h (ne_of h hy (by intro q; cases q)) (ne_of h hz (by intro q; cases q))⟩)
  · exact .inr h
/-! ### numbers -/
/-- // by any divisor but 0, of any size below 2 ^ 9000 -/
def CDivN (_ j : Int) : Prop := j ≠ 0 ∧ j.natAbs.log2 < 9000
theorem op_fdivNW {X : Cx} : OpR X (binaryOp .FloorDiv) (rI CDivN fun i j => .int (i.fdiv j)) := opI fun i j _ _ _ _ _ hc q => floordiv_int hc.1 q (.inl (PyProof.noPylong_of_log2 hc.2))
theorem divN {i j : Int} {b : Nat} (h : j ≠ 0) (hb : j.natAbs < 2 ^ b) (h0 : 0 < b) (h9 : b ≤ 9000) : CDivN i j := ⟨h, Nat.lt_of_lt_of_le (PySem.Flt.log2_lt_of h0 hb) h9⟩
theorem fmod_nat {a b : Nat} : ((a : Int).fmod (b : Int)) = ((a % b : Nat) : Int) := by
  rw [Int.fmod_eq_emod_of_nonneg _ (Int.natCast_nonneg b)]
  rfl
theorem fmod_pos {a b : Int} (h : 0 < b) : 0 ≤ a.fmod b ∧ a.fmod b < b := ⟨Int.fmod_nonneg_of_pos a h, Int.fmod_lt_of_pos a h⟩
theorem abs_nat (i : Int) : (if i < 0 then -i else i) = (i.natAbs : Int) := by
  split <;> omega
theorem iteE {k : Bool} {A B : Prop} (h : k = false) (q : B) : if k = true then A else B := by
  subst h
  exact iteF q
theorem iteK {k : Bool} {A B : Prop} (h : k = true) (q : A) : if k = true then A else B := by
  subst h
  exact iteT q
theorem lc_yes {σ : L2.St} {H : Hp} {X Y : Hp → Prop} (h : X H) : tYes σ H (fun b H3 => if b = true then X H3 else Y H3) := by
  show if true = true then X H else Y H
  rw [if_pos rfl]
  exact h
theorem ty_tup {K : PySem.W.Frag} {H : Hp} {a : Addr} {xs : List V} (h : SqT K H a xs) : TyX K H (.ref a) (.type "tuple") := by
  rcases h with (h | ⟨o, h⟩) | ⟨o, its, n, e, c, _⟩
  · exact .base (.tup h)
  · exact .fTuple h
  · exact .kTuple e c
theorem dp2 {K : PySem.W.Frag} {H : Hp} {a : Addr} {x y : Int} (h : SqT K H a [.int x, .int y]) : Dp K H (.ref a) (.tuple [.int x, .int y]) := .tup h (.cons (.int x) (.cons (.int y) .nil))
theorem nab_mul {x y : Int} {a b c : Nat} (hx : x.natAbs < 2 ^ a) (hy : y.natAbs < 2 ^ b) (h : a + b ≤ c) : (x * y).natAbs < 2 ^ c := Nat.lt_of_lt_of_le (wide_lt hx hy) (Nat.pow_le_pow_right (by decide) h)
theorem nab_le {x y : Int} {a : Nat} (h : x.natAbs ≤ y.natAbs) (hy : y.natAbs < 2 ^ a) : x.natAbs < 2 ^ a := Nat.lt_of_le_of_lt h hy
theorem at_nat {xs : List V} {j : Nat} {v : V} (h : xs[j]? = some v) : atI xs (j : Int) = some v := atI_nat h
end B
namespace B
open PySem PySem.Spec PyProof.Rows L2
/-! ### own errors: made of nothing, caught, asked for their class -/
abbrev veB : List Value := [.type "ValueError", .type "Exception", .type "BaseException", .type "object"]
/-- what the top says of an own class of errors (of ValueError's) -/
structure Xc (K : PySem.W.Frag) (mg : Str → Option Value) (x : Str) where
  C : Addr
  ns : PySem.W.nsIn K mainGlobals x = some (some (.ref C))
  g : mg x = some (.ref C)
  ex : PySem.W.excIn K C veB "ValueError.__new__" = true
  kp : PySem.W.keepIn K (.ref C) = true
  sb : PySem.W.subIn K (.ref C) (.type "BaseException") = some true
  ty : PySem.W.typeIn K (.ref C) = some (.type "type")
  ic : PySem.W.isClsIn K C = true
  me : PySem.W.subIn K (.ref C) (.ref C) = some true
  ec : ExcC K C
/-- the class of that name -/
def XIs (K : PySem.W.Frag) (x : Str) (C : Addr) : Prop := PySem.W.nsIn K mainGlobals x = some (some (.ref C))
theorem XIs.eq {K : PySem.W.Frag} {x : Str} {C D : Addr} (h : XIs K x C) (k : PySem.W.nsIn K mainGlobals x = some (some (.ref D))) : C = D := by
  have e := (show PySem.W.nsIn K mainGlobals x = some (some (.ref C)) from h).symm.trans k
  cases e
  rfl
/-- C() -/
theorem pmk_none {X : Cx} {C : Addr} {bm : List Value} {Bn nw ini : String} {x : Str} {p pos : Pos} (F : ExcBaseFacts Bn nw ini bm) (own : PySem.W.excIn X.K C bm nw = true) (at_ : X.mg x = some (.ref C)) (kp : PySem.W.keepIn X.K (.ref C) = true)
    (ra : Raises X (.ref C)) (gl : Gl X x) (nd : (x == ("__debug__" : Str)) = false := by decide) : PMk X (.Call (.Name x p) [] [] pos) (fun _ H Q => Q (.ref C) none H) := by
  intro pins s σ H Q I want
  refine wpAny_Call_Name_kw (ld_glob I gl at_ ?_ nd)
  refine PySem.W.callWith_K0 I.kIn kp ?_
  obtain ⟨_, _, _, _, _, _, _, _, _, _, _, _, _, _, _, _, _, c1, c2, c3, c4⟩ := exc_obj I.kIn own
  exact wpAny_call_exc_subT (rest := []) F c4 c1 c2 c3 (fun h' e made => mk_of I made ra want (I.hok.gone made.new)) (Nat.zero_le _)
section
variable {X : Cx} {a : Addr} {oe : Obj} {pn : List (Addr × Obj)} {cls : Value} {d : Option Addr}
/-- isinstance(e, c), e the error of the suite -/
def rIsX (K : PySem.W.Frag) (a : Addr) (cls : Value) (d : Option Addr) : List V → Hp → VK → Prop := fun xs H Q => ∃ (D : Addr) (c : V) (cv : Value) (b : Bool), cls = .ref D ∧ d = none ∧ ExcC K D ∧ xs = [.ref a, c] ∧ ClsV c cv ∧ PySem.W.kitOne K (.ref D) cv = some b ∧ Q (.bl b) H
theorem call_isX (hz : Zc cls d oe) (hf : ∃ vs, oe.data = .fields vs) : CallR (X.suite a ((a, oe) :: pn)) (.builtin "isinstance") (rIsX X.K a cls d) := by
  rintro pins s σ H xs us Q I r ⟨D, c, cv, b, rfl, rfl, ec, e1, e2, e3⟩
  exact call_isE ec hz hf pins s σ H xs us Q I r ⟨c, cv, b, e1, fun u ru => ClsV.eq e2 ru, e3⟩
/-- isinstance(e, (c, ..)) -/
def rIsXT (K : PySem.W.Frag) (a : Addr) (cls : Value) (d : Option Addr) : List V → Hp → VK → Prop := fun xs H Q => ∃ (D tp : Addr) (cs : List V) (us : List Value) (b : Bool), cls = .ref D ∧ d = none ∧ ExcC K D ∧ xs = [.ref a, .ref tp] ∧ H tp = some (.tup cs) ∧ Paired ClsV cs us ∧ PySem.W.kitAny K (.ref D) us = some b ∧ Q (.bl b) H
theorem call_isXT (hz : Zc cls d oe) (hf : ∃ vs, oe.data = .fields vs) : CallR (X.suite a ((a, oe) :: pn)) (.builtin "isinstance") (rIsXT X.K a cls d) := by
  rintro pins s σ H xs us Q I r ⟨D, tp, cs, ws, b, rfl, rfl, ec, rfl, ht, hp, e, q⟩
  obtain ⟨u1, u2, rfl, r1, r2⟩ := vals2 r
  cases (show u1 = Value.ref a from r1)
  cases (show u2 = Value.ref tp from r2)
  have got := (I.pin (a, oe) (List.mem_append.mpr (.inl List.mem_cons_self))).1
  obtain ⟨vs, hv⟩ := hf
  have J : PySem.W.InstAt s.heap a oe D none := ⟨got, hz.1, by unfold PySem.W.notCls; rw [hv] <;> rfl, by rw [hz.2]; trivial⟩
  obtain ⟨_, its, rv, o, h1, h2, n, h3⟩ := (show ObjOk X.prog X.w H s.heap tp (.tup cs) from I.hok tp _ ht)
  cases ClsV.all hp rv
  obtain ⟨oc, od, dt, sl⟩ := o
  cases (show oc = Value.type "tuple" from h2)
  cases (show dt = _ from h3)
  exact PySem.W.kia_tup (PySem.W.handS_kitx_exc ec.hg ec.hk ec.hs ec.hd ec.ha ec.hn ec.ht ec.hm) I.kIn J h1 e (fun z => nomatch z) fun tk => ⟨.bl b, H, I.kept (t' := tk) fun _ _ z => z, rfl, q⟩
end
/-- o.m(e, ..), the part of the module named -/
theorem pe_bmK {X : Cx} {K : PySem.W.Frag} {T id : String} {name : Str} {o e : Expr} {es : List Expr} {r : V → List V → Hp → VK → Prop} {to : TE} {t : TA} {apos cpos : Pos} (hK : X.K = K) (pa : PlainAttrs T) (slot : Slot T name id) (ht : typeOf (.builtin id) = pure (.type "method_descriptor")) (hm : MtR X id r)
    (ho : PE X o to) (ha : PA X (e :: es) t) (b1 : attributeBase o name X.env (eval o X.env) = eval o X.env := by rfl)
    (b2 : ((backTo cpos (starEach (e :: es) X.env)).all (fun x => !x.1) && (backToKw cpos (keywordEach [] X.env)).all (fun x => x.1.isSome) && decide ((e :: es).length + ([] : List Keyword).length + (if ([] : List Keyword).isEmpty then 0 else 1) < 30)) = true := by rfl)
    (b3 : (apos.endLine == cpos.line) = true := by rfl) (b4 : starEach (e :: es) X.env = (false, eval e X.env) :: starEach es X.env := by rfl) (b5 : (backTo cpos (starEach es X.env)).any (·.1) = false := by rfl) :
    PE X (.Call (.Attribute o name apos) (e :: es) [] cpos) (tBM K T r to t) := by
  cases hK
  exact pe_bm pa slot ht hm ho ha b1 b2 b3 b4 b5
/-! ### which class is which -/
theorem kitCls_own {K : PySem.W.Frag} {D : Value} {C : Addr} {b : Bool} (i : PySem.W.isClsIn K C = true) (t : PySem.W.typeIn K (.ref C) = some (.type "type")) (h : PySem.W.subIn K D (.ref C) = some b) : PySem.W.kitCls K D (.ref C) = some b := by
  have e : ((PySem.W.clsIn K C).isSome && PySem.W.typeIn K (.ref C) == some (.type "type")) = true := by
    have i' : (PySem.W.clsIn K C).isSome = true := i
    rw [i', t]
    rfl
  show (if ((PySem.W.clsIn K C).isSome && PySem.W.typeIn K (.ref C) == some (.type "type")) = true then PySem.W.subIn K D (.ref C) else none) = some b
  rw [if_pos e]
  exact h
theorem kit_own {K : PySem.W.Frag} {D C : Addr} {b : Bool} (i : PySem.W.isClsIn K C = true) (t : PySem.W.typeIn K (.ref C) = some (.type "type")) (me : PySem.W.subIn K (.ref D) (.ref D) = some true) (h : PySem.W.subIn K (.ref D) (.ref C) = some b) : PySem.W.kitOne K (.ref D) (.ref C) = some b := by
  unfold PySem.W.kitOne
  by_cases e : (Value.ref D == Value.ref C) = true
  · rw [if_pos e]
    have e2 : Value.ref D = Value.ref C := eq_of_beq e
    cases e2
    rw [me] at h
    exact h
  · rw [if_neg e]
    exact kitCls_own i t h
theorem kit_val {K : PySem.W.Frag} {D : Addr} {n : String} {b : Bool} (m : PySem.W.kitMeta n = true) (h : PySem.W.subIn K (.ref D) (.type n) = some b) : PySem.W.kitOne K (.ref D) (.type n) = some b := by
  have e : ¬ (Value.ref D == Value.type n) = true := by intro z; cases eq_of_beq z
  unfold PySem.W.kitOne
  rw [if_neg e]
  show (if PySem.W.kitMeta n = true then PySem.W.subIn K (.ref D) (.type n) else none) = some b
  rw [if_pos m]
  exact h
theorem kn_nil {K : PySem.W.Frag} {t : Value} : PySem.W.kitAny K t [] = some false := rfl
theorem kn_cons {K : PySem.W.Frag} {t c : Value} {cs : List Value} (h : PySem.W.kitOne K t c = some false) (k : PySem.W.kitAny K t cs = some false) : PySem.W.kitAny K t (c :: cs) = some false := kitAny_cons h (fun _ => k) (fun z => nomatch z)
theorem exm_own {K : PySem.W.Frag} {D C : Addr} {b : Bool} (s : PySem.W.subIn K (.ref C) (.type "BaseException") = some true) (i : PySem.W.isClsIn K C = true) (t : PySem.W.typeIn K (.ref C) = some (.type "type")) (h : PySem.W.subIn K (.ref D) (.ref C) = some b) : PySem.W.exmOne K (.ref D) (.ref C) = some b := by
  have e : (PySem.W.subIn K (.ref C) (.type "BaseException") == some true) = true := by rw [s]; rfl
  unfold PySem.W.exmOne
  rw [if_pos e]
  exact kitCls_own i t h
end B
namespace B
open PySem PySem.Spec PyProof.Rows L2
/-! ### try .. except A as n: .. except B as n: .., the error caught is tracked from then on -/
/-- an error of the class cls, at a -/
def ExK (cls : Value) (a : Addr) : HO := .ext fun h => ∃ (oe : Obj) (vs : Array Value), h.get? a = some oe ∧ Zc cls none oe ∧ oe.data = .fields vs
theorem exK_ok {P : Program} {w : World} {H : Hp} {h : Heap} {a : Addr} {cls : Value} {oe : Obj} {vs : Array Value} (got : h.get? a = some oe) (z : Zc cls none oe) (fl : oe.data = .fields vs) : ObjOk P w H h a (ExK cls a) := by
  refine ⟨⟨oe, vs, got, z, fl⟩, ⟨oe, got⟩, ?_⟩
  rintro _ _ ⟨o, v, g, r⟩ k
  exact ⟨o, v, k o g, r⟩
theorem hok_on {P : Program} {w : World} {H : Hp} {h : Heap} {a : Addr} {o : HO} (x : L2.HOk P w H h) (hn : H a = none) (new : ObjOk P w (upd H a o) h a o) : L2.HOk P w (upd H a o) h := fun b u e => by
  by_cases hb : b = a
  · subst hb; rw [upd_same] at e; cases e; exact new
  · rw [upd_ne hb] at e
    exact (x b u e).stay (fun c v _ q => q) (fun c q => by rw [upd_ne (ne_of_none q hn)]; exact q) fun c xs q => by rw [upd_ne (ne_of_none q hn)]; exact q
section
variable {X : Cx} {pins : List (Addr × Obj)} {σ : L2.St} {H : Hp} {s : Shared}
/-- an error that nobody tracks is tracked now -/
theorem track {a : Addr} {cls : Value} {oe : Obj} {vs : Array Value} (I : L2.Inv X pins σ H s) (got : s.heap.get? a = some oe) (z : Zc cls none oe) (fl : oe.data = .fields vs) (free : H a = none) (new : X.s_0.heap.get? a = none)
    (nl : a ≠ X.env.locals) (np : ∀ p ∈ X.pn ++ pins, p.1 ≠ a) : L2.Inv X pins σ (upd H a (ExK cls a)) s := by
  have off : ∀ {b : Addr}, b ≠ a → upd H a (ExK cls a) b = H b := fun n => upd_ne n
  constructor
  · exact I.ok
  · exact I.os
  · exact I.bare
  · have B := I.base
    refine ⟨B.keep, B.slot, ?_, B.there, ?_, ?_, ?_⟩
    · intro b o e n x
      rw [off (by rintro rfl; rw [new] at e; cases e)]
      exact B.free b o e n x
    · intro b xs e
      have t := B.tups b xs e
      rw [off (by rintro rfl; rw [free] at t; cases t)]
      exact t
    · intro b o u e
      have t := B.frzs b o u e
      rw [off (by rintro rfl; rw [free] at t; cases t)]
      exact t
    · intro b ps e
      obtain ⟨m, t⟩ := B.tbls b ps e
      refine ⟨m, ?_⟩
      rw [off (by rintro rfl; rw [free] at t; cases t)]
      exact t
  · exact I.loc
  · exact I.cell
  · rw [off (Ne.symm nl)]
    exact I.free
  · intro x c e
    obtain ⟨v, o, g, d⟩ := I.cell x c e
    rw [off (by rintro rfl; rw [got] at g; cases g; rw [fl] at d; cases d)]
    exact I.freeC x c e
  · intro p hp
    obtain ⟨p1, p2, p3⟩ := I.pin p hp
    refine ⟨p1, ?_, p3⟩
    rw [off (np p hp)]
    exact p2
  · exact hok_on I.hok free (exK_ok got z fl)
  · exact I.len
end
/-- what the clauses, one behind another, wish of an error of the body -/
def wKeep (K : PySem.W.Frag) (i : Nat) (D : Ends) : List (Value × (Addr → Value → TS)) → WX
  | [] => fun _ _ _ _ => False
  | (c, t) :: r => fun cls d σ H => ∃ b, PySem.W.exmOne K cls c = some b ∧ (b = false → wKeep K i D r cls d σ H) ∧
    (b = true → d = none ∧ ∀ a, H a = none → t a cls { nx := fun τ G => D.nx (τ.set i none) G, rt := D.rt, bk := fun τ G => D.bk (τ.set i none) G, ct := fun τ G => D.ct (τ.set i none) G } (σ.set i (some (.ref a))) (upd H a (ExK cls a)))
/-- clauses that all bind the name n -/
inductive Clauses (X : Cx) (n : Str) : List ExceptHandler → List (Value × (Addr → Value → TS)) → Prop
  | none : Clauses X n [] []
  | more {x : Str} {c : Value} {t : Addr → Value → TS} {b₀ : Stmt} {su : List Stmt} {p q : Pos} {hs : List ExceptHandler} {l : List (Value × (Addr → Value → TS))} :
    Names X x c → (∀ (a : Addr) (cls : Value) (pn : List (Addr × Obj)), PSs (X.suite a pn) (b₀ :: su) (t a cls)) → Clauses X n hs l → Clauses X n (.ExceptHandler (some (.Name x p)) (some n) (b₀ :: su) q :: hs) ((c, t) :: l)
section
variable {X : Cx} {n : Str} {i : Nat} {body : List Stmt} {h0 : ExceptHandler} {hds : List ExceptHandler} {l : List (Value × (Addr → Value → TS))} {pos : Pos} {tb : WX → TS}
/-- the clauses see an error that has landed -/
theorem clauses_see {pins : List (Addr × Obj)} {σ : L2.St} {H : Hp} {D : Ends} {a : Addr} {cls : Value} {d : Option Addr} {ground h3 : Heap} {mid s1 : Shared} (frame : X.env.frame = some X.env.locals) (stack : X.stack = X.env :: X.outer) (hN : X.N.Nodup) (hi : X.N[i]? = some n)
    (hl : X.env.kindOf n = some .local) (noex : X.ex = []) (J : L2.Inv X pins σ H mid) (nb : ∀ b o, mid.heap.get? b = some o → b ∉ frs X.stack → ground.get? b = some o) (up : mid.heap.UpToSlots h3) (fl : HandSPX.FlyingZ ground (X.env :: X.outer) a (Zc cls d) h3)
    (free : H a = none) (os : s1.os = mid.os) (bare : AllBare s1.gens) : ∀ {hs : List ExceptHandler} {l : List (Value × (Addr → Value → TS))}, Clauses X n hs l → wKeep X.K i D l cls d σ H →
      wpAny (model X.prog X.w) X.A (handleBy (.ref a) X.env hs) (SP X pins D) X.xe { s1 with heap := h3 } := by
  obtain ⟨oe, vs, got, kind, flds⟩ := fl.there
  -- it is none of the frames, and it was not there before
  have apart : ∀ {g : Heap}, HandSPX.FlyingZ ground (X.env :: X.outer) a (Zc cls d) g → a ∉ frs (X.env :: X.outer) := by
    intro g fg m
    obtain ⟨o1, v1, g1, _, d1⟩ := fg.there
    obtain ⟨_, o2, g2, nf⟩ := fg.2.2.1.mem m
    rw [g1] at g2
    cases g2
    exact nf _ d1
  have away := apart fl
  have nl : a ≠ X.env.locals := fun e => away (List.mem_filterMap.mpr ⟨X.env, List.mem_cons_self, by rw [frame, e]⟩)
  have nf : a ∉ X.fs := fun m => by
    obtain ⟨e, he, q⟩ := List.mem_filterMap.mp m
    exact away (List.mem_filterMap.mpr ⟨e, List.mem_cons_of_mem _ he, q⟩)
  have fresh : mid.heap.get? a = none := by
    cases e : mid.heap.get? a with
    | none => rfl
    | some o =>
      have g := nb a o e (by rw [stack]; exact away)
      rw [fl.2.1] at g
      cases g
  have new : X.s_0.heap.get? a = none := by
    cases e : X.s_0.heap.get? a with
    | none => rfl
    | some o =>
      obtain ⟨o', t⟩ := J.base.there a o e (by rw [noex]; simp)
      rw [fresh] at t
      cases t
  have unpinned : ∀ p ∈ X.pn ++ pins, p.1 ≠ a := by
    rintro p hp rfl
    have g := (J.pin p hp).1
    rw [fresh] at g
    cases g
  have land := J.landed (s' := { s1 with heap := h3 }) nb fl.1 up os bare
  have inS := land.suite got flds free nl nf
  have look : PySem.W.Looks (model X.prog X.w) h3 (typeOf (.ref a)) cls := fun _ _ _ _ k q => wpAny_typeOf_ref (k _ _ got) (by rw [kind.1]; exact q)
  intro hs l cl
  induction cl with
  | none => exact fun w => w.elim
  | more names su rest ih =>
    rename_i x c t b₀ st p q hs' l'
    rintro ⟨b, m, no, yes⟩
    refine wpAny_handleBy_cons (codeAny_handlers_test ?_) (by intro z; cases z)
    have named : ∀ {Q E : Value → Shared → Prop}, Q c { s1 with heap := h3 } → wpAny (model X.prog X.w) (X.A.mark (some (.ref a))) (eval (.Name x p) X.env) Q E { s1 with heap := h3 } := by
      intro Q E ok
      rcases names with ⟨gl, nd, own | ⟨none, boot, nn⟩⟩
      · exact ld_glob (X := X.suite a ((a, oe) :: (X.pn ++ pins))) inS gl own ok nd
      · exact ld_blt (X := X.suite a ((a, oe) :: (X.pn ++ pins))) inS gl none boot ok nn nd
    refine named ((PySem.W.exm_one (M := model X.prog X.w) land.kIn look m).here ?_)
    cases b with
    | false => exact ih (no rfl)
    | true =>
      obtain ⟨rfl, go⟩ := yes rfl
      refine codeAny_handlers_suite_as (HandSPX.lands_againZ fl fun h4 fl4 up4 => ?_)
      have land4 := J.landed (s' := { s1 with heap := h4 }) nb fl4.1 (up.trans up4) os bare
      obtain ⟨oe4, vs4, got4, kind4, flds4⟩ := fl4.there
      have T := track land4 got4 kind4 flds4 free new nl unpinned
      have S : L2.Inv (X.suite a (X.pn ++ pins)) [] σ (upd H a (ExK cls a)) { s1 with heap := h4 } :=
        ⟨T.ok.suite _ _, T.os, T.bare, T.base, T.loc, T.cell, T.free, T.freeC, fun r hr => T.pin r (by rwa [List.append_nil] at hr), T.hok, T.len⟩
      refine store_ok (X := X.suite a (X.pn ++ pins)) (v := .ref a) S hN hi (.inl hl) rfl (fun s5 S5 => ?_) (.inr hl)
      refine wpAny_mono ((su a cls (X.pn ++ pins)).run [] s5 _ _ _ S5 (go a free)) ?_ fun _ _ z => z.elim
      have back : ∀ {τ : L2.St} {G : Hp} {s6 : Shared}, L2.Inv (X.suite a (X.pn ++ pins)) [] τ G s6 → L2.Inv X pins τ G s6 := fun K6 =>
        ⟨J.ok, K6.os, K6.bare, K6.base, K6.loc, K6.cell, K6.free, K6.freeC, fun r hr => K6.pin r (by rw [List.append_nil]; exact hr), K6.hok, K6.len⟩
      intro f s6 h6
      cases f with
      | next => obtain ⟨τ, G, K6, q6⟩ := h6; exact gone_ok (back K6) hN hi hl fun s7 K7 => ⟨_, _, K7, q6⟩
      | brk => obtain ⟨τ, G, K6, q6⟩ := h6; exact gone_ok (back K6) hN hi hl fun s7 K7 => ⟨_, _, K7, q6⟩
      | cont => obtain ⟨τ, G, K6, q6⟩ := h6; exact gone_ok (back K6) hN hi hl fun s7 K7 => ⟨_, _, K7, q6⟩
      | ret u => obtain ⟨v, τ, G, K6, r6, q6⟩ := h6; exact gone_ok (back K6) hN hi hl fun s7 K7 => ⟨_, _, _, K7, r6, q6⟩
/-- try: body, except A as n: .., except B as n: .. -/
theorem ps_try_keep (stack : X.stack = X.env :: X.outer) (frame : X.env.frame = some X.env.locals) (noex : X.ex = []) (hN : X.N.Nodup) (hi : X.N[i]? = some n) (hl : X.env.kindOf n = some .local)
    (hb : ∀ (W : WX) (pn : List (Addr × Obj)) (xe : Value → Shared → Prop), Takes (X.tr pn xe) W → PSs (X.tr pn xe) body (tb W)) (cl : Clauses X n (h0 :: hds) l) :
    PS X (.Try body (h0 :: hds) [] [] pos) (fun D σ H => tb (wKeep X.K i D l) D σ H) := by
  constructor
  intro pins s σ H D I want
  have frames : X.A.frames = some (X.env :: X.outer) := I.ok.frames.trans (congrArg some stack)
  let xe : Value → Shared → Prop := fun e s1 => wpAny (model X.prog X.w) X.A (noteFrame e X.env) (fun _ s2 =>
    wpAny (model X.prog X.w) X.A (setFlight e none) (fun _ s3 => wpAny (model X.prog X.w) X.A (handleBy e X.env (h0 :: hds)) (SP X pins D) X.xe s3) X.xe s2) X.xe s1
  have takes : Takes (X.tr (X.pn ++ pins) xe) (wKeep X.K i D l) := by
    rintro u s1 ⟨a, ground, mid, pins', τ, H1, cls, d, rfl, J', nb, up, sky, free, os, bare, wish⟩
    have sky' : Sky ground (X.env :: X.outer) a (Zc cls d) X.env.locals s1.heap := by rw [← stack]; exact sky
    exact Sky.land Zc.steady frames frame sky' fun h3 fl3 up3 => clauses_see frame stack hN hi hl noex (J'.ofTry I.ok) nb (up.trans up3) fl3 free os bare cl wish
  refine wpAny_Try_except (wpAny_mono ((hb _ (X.pn ++ pins) xe takes).run [] s σ H D (I.toTry _) want) ?_ fun _ _ z => z)
  intro f s1 h1
  cases f with
  | next => obtain ⟨τ, G, K, q⟩ := h1; exact wpAny_execs_nil ⟨τ, G, K.ofTry I.ok, q⟩
  | brk => obtain ⟨τ, G, K, q⟩ := h1; exact ⟨τ, G, K.ofTry I.ok, q⟩
  | cont => obtain ⟨τ, G, K, q⟩ := h1; exact ⟨τ, G, K.ofTry I.ok, q⟩
  | ret u => obtain ⟨v, τ, G, K, r, q⟩ := h1; exact ⟨v, τ, G, K.ofTry I.ok, r, q⟩
/-! ### isinstance of such an error -/
def rIsK (K : PySem.W.Frag) : List V → Hp → VK → Prop := fun xs H Q => ∃ (a D : Addr) (c : V) (cv : Value) (b : Bool), xs = [.ref a, c] ∧ H a = some (ExK (.ref D) a) ∧ ExcC K D ∧ ClsV c cv ∧ PySem.W.kitOne K (.ref D) cv = some b ∧ Q (.bl b) H
theorem inst_of {pins : List (Addr × Obj)} {σ : L2.St} {H : Hp} {s : Shared} {a D : Addr} (I : L2.Inv X pins σ H s) (h : H a = some (ExK (.ref D) a)) : ∃ oe, PySem.W.InstAt s.heap a oe D none := by
  obtain ⟨⟨oe, vs, got, z, fl⟩, _⟩ := (show ObjOk X.prog X.w H s.heap a (ExK (.ref D) a) from I.hok a _ h)
  exact ⟨oe, got, z.1, by unfold PySem.W.notCls; rw [fl] <;> rfl, by rw [z.2]; trivial⟩
theorem call_isK : CallR X (.builtin "isinstance") (rIsK X.K) := by
  rintro pins s σ H xs us Q I r ⟨a, D, c, cv, b, rfl, ha, ec, hc, e, q⟩
  obtain ⟨u1, u2, rfl, r1, r2⟩ := vals2 r
  cases (show u1 = Value.ref a from r1)
  cases ClsV.eq hc r2
  obtain ⟨oe, J⟩ := inst_of I ha
  exact PySem.W.kia_one (PySem.W.handS_kitx_exc ec.hg ec.hk ec.hs ec.hd ec.ha ec.hn ec.ht ec.hm) I.kIn J e (fun z => nomatch z) fun tk => ⟨.bl b, H, I.kept (t' := tk) fun _ _ z => z, rfl, q⟩
def rIsKT (K : PySem.W.Frag) : List V → Hp → VK → Prop := fun xs H Q => ∃ (a D tp : Addr) (cs : List V) (us : List Value) (b : Bool), xs = [.ref a, .ref tp] ∧ H a = some (ExK (.ref D) a) ∧ ExcC K D ∧ H tp = some (.tup cs) ∧ Paired ClsV cs us ∧ PySem.W.kitAny K (.ref D) us = some b ∧ Q (.bl b) H
theorem call_isKT : CallR X (.builtin "isinstance") (rIsKT X.K) := by
  rintro pins s σ H xs us Q I r ⟨a, D, tp, cs, ws, b, rfl, ha, ec, ht, hp, e, q⟩
  obtain ⟨u1, u2, rfl, r1, r2⟩ := vals2 r
  cases (show u1 = Value.ref a from r1)
  cases (show u2 = Value.ref tp from r2)
  obtain ⟨oe, J⟩ := inst_of I ha
  obtain ⟨_, its, rv, o, h1, h2, n, h3⟩ := (show ObjOk X.prog X.w H s.heap tp (.tup cs) from I.hok tp _ ht)
  cases ClsV.all hp rv
  obtain ⟨oc, od, dt, sl⟩ := o
  cases (show oc = Value.type "tuple" from h2)
  cases (show dt = _ from h3)
  exact PySem.W.kia_tup (PySem.W.handS_kitx_exc ec.hg ec.hk ec.hs ec.hd ec.ha ec.hn ec.ht ec.hm) I.kIn J h1 e (fun z => nomatch z) fun tk => ⟨.bl b, H, I.kept (t' := tk) fun _ _ z => z, rfl, q⟩
end
end B
namespace B
open PySem PySem.Spec PyProof.Rows L2
/-! ### zip of two things, each a list, a tuple or a text -/
inductive Kd where
  | l
  | t
  | s
/-- the items of v, by its kind -/
def Src (K : PySem.W.Frag) (H : Hp) : Kd → V → List V → Prop
  | .l, v, xs => ∃ a, v = .ref a ∧ SqL K H a xs
  | .t, v, xs => ∃ a, v = .ref a ∧ SqT K H a xs
  | .s, v, xs => ∃ x : Str, v = .str x ∧ xs = x.cps.toList.map fun c => V.str ⟨#[c]⟩
/-- its iterator, at it, ahead of item i -/
def ItSt : Kd → Value → Addr → Nat → Heap → Prop
  | .l, .ref a, it, i, h => h.IsListIter it a i
  | .t, .ref a, it, i, h => h.IsTupleIter it a i
  | .s, .str x t, it, i, h => h.IsStrIter it (strIterType x) x t i
  | _, _, _, _, _ => False
theorem ItSt.keep {k : Kd} {u : Value} {it : Addr} {i : Nat} {h h' : Heap} (st : ItSt k u it i h) (e : ∀ o, h.get? it = some o → h'.get? it = some o) : ItSt k u it i h' := by
  cases k <;> cases u <;> first | exact st.elim | (exact Heap.IsListIter.at st e) | (exact Heap.IsTupleIter.at st e) | (obtain ⟨o, a, b⟩ := st; exact ⟨o, e o a, b⟩)
theorem ItSt.obj {k : Kd} {u : Value} {it : Addr} {i : Nat} {h : Heap} (st : ItSt k u it i h) : ∃ o, h.get? it = some o ∧ ∀ v, o.data ≠ .cell v := by
  cases k <;> cases u <;> first | exact st.elim | (obtain ⟨o, e, c, d⟩ := st; exact ⟨o, e, fun v z => by rw [d] at z; cases z⟩)
section
variable {X : Cx} {pins : List (Addr × Obj)} {σ : L2.St} {H : Hp} {s : Shared}
theorem Src.inj {k : Kd} {v : V} {xs ys : List V} (I : Inv X pins σ H s) (h : Src X.K H k v xs) (h' : Src X.K H k v ys) : xs = ys := by
  cases k with
  | l =>
    obtain ⟨a, rfl, p⟩ := h
    obtain ⟨b, e, p'⟩ := h'
    cases e
    exact I.list_inj p p'
  | t =>
    obtain ⟨a, rfl, p⟩ := h
    obtain ⟨b, e, p'⟩ := h'
    cases e
    exact I.tuple_inj p p'
  | s =>
    obtain ⟨a, rfl, p⟩ := h
    obtain ⟨b, e, p'⟩ := h'
    cases e
    rw [p, p']
/-- what its iterator draws -/
theorem Src.draws {k : Kd} {v : V} {u : Value} {xs : List V} {A : Around} {it : Addr} (I : Inv X pins σ H s) (h : Src X.K H k v xs) (r : RelV v u) (hh : A.handled = none) (ne : ∀ a, u = .ref a → a < it) :
    ∃ (fp : List Addr) (P : Nat → Value → Prop) (St : Nat → Heap → Prop), Draws X.prog X.w A it (it :: fp) xs.length P St ∧ (∀ i x, P i x → ∃ y, xs[i]? = some y ∧ RelV y x) ∧ (∀ i, ItSt k u it i s.heap → St i s.heap) ∧ (∀ i h, St i h → ItSt k u it i h) ∧ (∀ b ∈ fp, u = .ref b) := by
  cases k with
  | l =>
    obtain ⟨a, rfl, p⟩ := h
    cases r
    obtain ⟨its, rv, ht, hz⟩ := I.list p
    have hl := rv.length
    have D := Draws.list (prog := X.prog) (w := X.w) hh it a (Nat.ne_of_lt (ne a rfl)) its.toArray
    rw [List.size_toArray, ← hl] at D
    refine ⟨[a], _, _, D, fun i x hx => ?_, fun i st => ⟨st, ht.isList⟩, fun i h st => st.1, fun b hb => by rw [List.mem_singleton] at hb; rw [hb]⟩
    have hx : its[i]? = some x := by simpa using hx
    have hi : i < xs.length := by rw [hl]; exact (List.getElem?_eq_some_iff.mp hx).1
    obtain ⟨u', hu, ru⟩ := rv.get (List.getElem?_eq_getElem hi)
    rw [hx] at hu
    cases hu
    exact ⟨_, List.getElem?_eq_getElem hi, ru⟩
  | t =>
    obtain ⟨a, rfl, p⟩ := h
    cases r
    obtain ⟨its, rv, ht, hz⟩ := I.tuple p
    have hl := rv.length
    have D := Draws.tuple (prog := X.prog) (w := X.w) hh it a (Nat.ne_of_lt (ne a rfl)) its.toArray
    rw [List.size_toArray, ← hl] at D
    refine ⟨[a], _, _, D, fun i x hx => ?_, fun i st => ⟨st, ht⟩, fun i h st => st.1, fun b hb => by rw [List.mem_singleton] at hb; rw [hb]⟩
    have hx : its[i]? = some x := by simpa using hx
    have hi : i < xs.length := by rw [hl]; exact (List.getElem?_eq_some_iff.mp hx).1
    obtain ⟨u', hu, ru⟩ := rv.get (List.getElem?_eq_getElem hi)
    rw [hx] at hu
    cases hu
    exact ⟨_, List.getElem?_eq_getElem hi, ru⟩
  | s =>
    obtain ⟨x, rfl, p⟩ := h
    obtain ⟨t, rfl⟩ := r
    have D := Draws.text (prog := X.prog) (w := X.w) hh it x t
    have hl : xs.length = x.cps.size := by rw [p, List.length_map, Array.length_toList]
    rw [← hl] at D
    refine ⟨[], _, _, D, fun i v hv => ?_, fun i st => st, fun i h st => st, fun b hb => nomatch hb⟩
    obtain ⟨c, w, hc, rfl⟩ := hv
    refine ⟨.str ⟨#[c]⟩, ?_, ⟨w, rfl⟩⟩
    rw [p, List.getElem?_map, Array.getElem?_toList, hc]
    rfl
/-- how it begins -/
theorem Src.begins {k : Kd} {v : V} {u : Value} {xs : List V} (I : Inv X pins σ H s) (h : Src X.K H k v xs) (r : RelV v u) :
    ∃ (o : Obj) (G : Heap → Prop), Begins u o G ∧ G s.heap ∧ (∀ (h' : Heap) (it : Addr), h'.get? it = some o → ItSt k u it 0 h') ∧ ∀ a, u = .ref a → a < s.heap.objs.size := by
  cases k with
  | l =>
    obtain ⟨a, rfl, p⟩ := h
    cases r
    obtain ⟨its, rv, ht, hz⟩ := I.list p
    exact ⟨_, _, begins_list a its.toArray, ht.isList, fun h' it e => ⟨_, e, rfl, rfl⟩, fun b e => by cases e; exact ht.lt⟩
  | t =>
    obtain ⟨a, rfl, p⟩ := h
    cases r
    obtain ⟨its, rv, ht, hz⟩ := I.tuple p
    exact ⟨_, _, begins_tuple a its.toArray, ht, fun h' it e => ⟨_, e, rfl, rfl⟩, fun b e => by cases e; obtain ⟨o, ho, _⟩ := ht; exact Heap.lt_size ho⟩
  | s =>
    obtain ⟨x, rfl, p⟩ := h
    obtain ⟨t, rfl⟩ := r
    exact ⟨_, _, begins_text x t, trivial, fun h' it e => ⟨_, e, rfl, rfl⟩, fun b e => by cases e⟩
end
/-- the two as they stand at each turn, the items in new pairs -/
def ItG (K : PySem.W.Frag) (k1 k2 : Kd) (v1 v2 : V) : It :=
  ⟨fun i H => ∃ (xs ys : List V) (x y : V), Src K H k1 v1 xs ∧ Src K H k2 v2 ys ∧ xs[i]? = some x ∧ ys[i]? = some y,
    fun i H v H' => ∃ T x y, v = .ref T ∧ H T = none ∧ H' = upd H T (.tup [x, y]) ∧ (∀ xs, Src K H k1 v1 xs → xs[i]? = some x) ∧ ∀ ys, Src K H k2 v2 ys → ys[i]? = some y,
    fun i H => ∃ xs ys : List V, Src K H k1 v1 xs ∧ Src K H k2 v2 ys ∧ i = min xs.length ys.length⟩
theorem turn_zipG {P : Program} {w : World} {K : PySem.W.Frag} {elts : List Expr} {kk : Nat} {tpos : Pos} {k1 k2 : Kd} {v1 v2 : V} {u1 u2 : Value} {N : Nat} (r1 : RelV v1 u1) (r2 : RelV v2 u2) (l1 : ∀ a, u1 = .ref a → a < N) (l2 : ∀ a, u2 = .ref a → a < N) :
    Turn P w K (.Tuple elts kk tpos) (ItG K k1 k2 v1 v2) [N + 4, N + 2, N + 3, N, N + 1] (N + 4) (fun i h => IsZip h (N + 4) (N + 2) (N + 3) .none ∧ IsTupOf2 h (N + 2) (.ref N) (.ref (N + 1)) ∧ (∃ a1 a2, IsTupOf2 h (N + 3) a1 a2) ∧ ItSt k1 u1 N i h ∧ ItSt k2 u2 (N + 1) i h) where
  mem := by simp
  obj := fun i h st c hc => by
    obtain ⟨hz, hTI, ⟨x, y, hTO⟩, s1, s2⟩ := st
    have e' : c = N + 4 ∨ c = N + 2 ∨ c = N + 3 ∨ c = N ∨ c = N + 1 := by simpa using hc
    rcases e' with q | q | q | q | q
    · rw [q]; exact ⟨_, hz, fun v q => nomatch q⟩
    · rw [q]; exact ⟨_, hTI, fun v q => nomatch q⟩
    · rw [q]; exact ⟨_, hTO, fun v q => nomatch q⟩
    · rw [q]; exact s1.obj
    · rw [q]; exact s2.obj
  keep := fun i h h' st k => by
    obtain ⟨hz, hTI, ⟨x, y, hTO⟩, s1, s2⟩ := st
    exact ⟨k (N + 4) (by simp) _ hz, k (N + 2) (by simp) _ hTI, ⟨x, y, k (N + 3) (by simp) _ hTO⟩, s1.keep fun o q => k N (by simp) o q, s2.keep fun o q => k (N + 1) (by simp) o q⟩
  item := by
    intro X hP hw hK hc i pins s σ H E I hf st hg
    subst hP hw hK
    obtain ⟨hz, hTI, hTO, s1, s2⟩ := st
    obtain ⟨xs, ys, x, y, hqx, hqy, hx, hy⟩ := hg
    have hh : X.A.in1.handled = none := I.ok.hd hc
    obtain ⟨fp1, P1, St1, D1, c1, a1, b1, m1⟩ := Src.draws (it := N) I hqx r1 hh l1
    obtain ⟨fp2, P2, St2, D2, c2, a2, b2, m2⟩ := Src.draws (it := N + 1) I hqy r2 hh fun a e => Nat.lt_succ_of_lt (l2 a e)
    have S := zip_sep2 (N := N) (fp1 := fp1) (fp2 := fp2) (fun b hb => l1 b (m1 b hb)) (fun b hb => l2 b (m2 b hb))
    have W := GoesN.zip2 (elts := elts) (x1 := kk) (pos := tpos) S D1 D2
    have hi1 := (List.getElem?_eq_some_iff.mp hx).1
    have hi2 := (List.getElem?_eq_some_iff.mp hy).1
    refine W.goes i s (fun u s2 => ∃ x H', Inv X pins σ H' s2 ∧ RelV x u ∧ (ItG X.K k1 k2 v1 v2).yld i H x H' ∧ _ ∧ ∀ b ∈ [N + 4, N + 2, N + 3, N, N + 1], H' b = none) E (by omega) ⟨hz, hTI, hTO, a1 i s1, a2 i s2⟩ ?_
    rintro v h' tk ⟨T, p, r, rfl, hT, hp, hr, ht⟩ st' hk htk
    obtain ⟨x', hx', rx⟩ := c1 i p hp
    obtain ⟨y', hy', ry⟩ := c2 i r hr
    have new : ObjOk X.prog X.w (upd H T (.tup [x', y'])) h' T (.tup [x', y']) := ⟨by show 2 ≤ sizeLine; decide, [p, r], .cons rx (.cons ry .nil), ht⟩
    have I1 : Inv X pins σ (upd H T (.tup [x', y'])) { s with heap := h', toks := tk } := I.turnedNew (ch := [N + 4, N + 2, N + 3, N, N + 1]) (fun c o hb q => hk c o (fun z => hb (by
      have z : c = N + 4 ∨ c = N + 3 ∨ c = N ∨ c = N + 1 := by simpa using z
      rcases z with z | z | z | z <;> rw [z] <;> simp)) q) hf hT new
    have hTn := I.hok.fresh hT
    refine ⟨.ref T, _, I1, rfl, ⟨T, x', y', rfl, hTn, rfl, fun zs hz' => by rw [Src.inj I hz' hqx]; exact hx', fun zs hz' => by rw [Src.inj I hz' hqy]; exact hy'⟩, ⟨st'.1, st'.2.1, st'.2.2.1, b1 _ _ st'.2.2.2.1, b2 _ _ st'.2.2.2.2⟩, fun c hc' => ?_⟩
    have hlt : c < s.heap.objs.size := by
      have e' : c = N + 4 ∨ c = N + 2 ∨ c = N + 3 ∨ c = N ∨ c = N + 1 := by simpa using hc'
      rcases e' with q | q | q | q | q
      · rw [q]; exact Heap.lt_size hz
      · rw [q]; exact Heap.lt_size hTI
      · rw [q]; obtain ⟨_, _, z⟩ := hTO; exact Heap.lt_size z
      · rw [q]; obtain ⟨_, z, _⟩ := s1.obj; exact Heap.lt_size z
      · rw [q]; obtain ⟨_, z, _⟩ := s2.obj; exact Heap.lt_size z
    rw [upd_ne (Nat.ne_of_lt (Nat.lt_of_lt_of_le hlt hT))]
    exact (hf c hc').1
  done := by
    intro X hP hw hK hc i pins s σ H E I hf st hg
    subst hP hw hK
    obtain ⟨hz, hTI, hTO, s1, s2⟩ := st
    obtain ⟨xs, ys, hqx, hqy, hend⟩ := hg
    have hh : X.A.in1.handled = none := I.ok.hd hc
    obtain ⟨fp1, P1, St1, D1, c1, a1, b1, m1⟩ := Src.draws (it := N) I hqx r1 hh l1
    obtain ⟨fp2, P2, St2, D2, c2, a2, b2, m2⟩ := Src.draws (it := N + 1) I hqy r2 hh fun a e => Nat.lt_succ_of_lt (l2 a e)
    have S := zip_sep2 (N := N) (fp1 := fp1) (fp2 := fp2) (fun b hb => l1 b (m1 b hb)) (fun b hb => l2 b (m2 b hb))
    have W := GoesN.zip2 (elts := elts) (x1 := kk) (pos := tpos) S D1 D2
    subst hend
    refine W.stops s (fun s1 => Inv X pins σ H s1) E ⟨hz, hTI, hTO, a1 _ s1, a2 _ s2⟩ fun h' tk hk htk => ?_
    exact I.turnedL (ch := [N + 4, N + 2, N + 3, N, N + 1]) (fun c o hb q => hk c o (fun z => hb (by
      have z : c = N + 4 ∨ c = N + 3 ∨ c = N ∨ c = N + 1 := by simpa using z
      rcases z with z | z | z | z <;> rw [z] <;> simp)) q) hf
  self := fun A i s Q E st h => wpAny_pyIter_zip st.1 h
def iZipG (K : PySem.W.Frag) (ta : TA) : TI := fun σ H R => ta σ H fun vs H1 => ∃ k1 k2 v1 v2 xs ys, vs = [v1, v2] ∧ Src K H1 k1 v1 xs ∧ Src K H1 k2 v2 ys ∧ R (ItG K k1 k2 v1 v2) H1
theorem pi_zipG {X : Cx} {e e2 : Expr} {ta : TA} {p pos tpos : Pos} {elts : List Expr} {kk : Nat} (hg : Gl X "zip") (hm : X.mg "zip" = none) (ha : PA X [e, e2] ta)
    (hs : starEach [e, e2] X.env = (false, eval e X.env) :: starEach [e2] X.env := by rfl) (hpl : (backTo pos (starEach [e2] X.env)).any (·.1) = false := by rfl) :
    PI X (.Tuple elts kk tpos) (.Call (.Name "zip" p) [e, e2] [] pos) (iZipG X.K ta) := by
  refine ⟨fun pins s σ H R I h => ?_⟩
  refine Call_ (ld_blt I hg hm PyProof.Rows.boot_zip (PyProof.Rows.callWith_type1 (thn (ha.run pos pins s σ H _ I h) fun us s1 ⟨vs, H1, I1, r1, q1⟩ => ?_) hs hpl))
  obtain ⟨k1, k2, v1, v2, xs, ys, ex, hqx, hqy, q⟩ := q1
  subst ex
  cases r1 with
  | cons r rr =>
    rename_i u1 us1
    cases rr with
    | cons r' rr =>
      rename_i u2 us2
      cases rr
      have fresh5 : ∀ c, c ∈ [s1.heap.objs.size + 4, s1.heap.objs.size + 2, s1.heap.objs.size + 3, s1.heap.objs.size, s1.heap.objs.size + 1] → FpOk X pins H1 c := fun c hcm => by
        have e' : c = s1.heap.objs.size + 4 ∨ c = s1.heap.objs.size + 2 ∨ c = s1.heap.objs.size + 3 ∨ c = s1.heap.objs.size ∨ c = s1.heap.objs.size + 1 := by simpa using hcm
        have hle : s1.heap.objs.size ≤ c := by
          rcases e' with z | z | z | z | z
          · rw [z]; exact Nat.le_add_right _ _
          · rw [z]; exact Nat.le_add_right _ _
          · rw [z]; exact Nat.le_add_right _ _
          · rw [z]; exact Nat.le_refl _
          · rw [z]; exact Nat.le_add_right _ _
        exact I1.fpOk hle (I1.hok.fresh hle)
      obtain ⟨o1, G1, B1, g1, b1, l1⟩ := Src.begins I1 hqx r
      obtain ⟨o2, G2, B2, g2, b2, l2⟩ := Src.begins I1 hqy r'
      refine zip_begins2 B1 B2 g1 g2 fun h' hz hTI hTO h1 h2 hsz hk => wpAny_pyIter_zip hz ?_
      have I2 : Inv X pins σ H1 { s1 with heap := h' } := I1.kept (t' := s1.toks) hk
      exact ⟨s1.heap.objs.size + 4, _, _, _, H1, rfl, I2, turn_zipG r r' l1 l2, ⟨hz, hTI, ⟨_, _, hTO⟩, b1 h' _ h1, b2 h' _ h2⟩, fresh5, q⟩
theorem walk_zipG {K : PySem.W.Frag} {k1 k2 : Kd} {v1 v2 : V} {xs ys : List V} : Walk (ItG K k1 k2 v1 v2) (min xs.length ys.length) (fun H => Src K H k1 v1 xs ∧ Src K H k2 v2 ys) (YPair (fun i => xs[i]?) (fun i => ys[i]?)) :=
  ⟨fun i H hi q => ⟨xs, ys, xs[i]'(by omega), ys[i]'(by omega), q.1, q.2, List.getElem?_eq_getElem _, List.getElem?_eq_getElem _⟩, fun H q => ⟨xs, ys, q.1, q.2, rfl⟩,
    fun i H v H' hi q y => by
      obtain ⟨T, x, y', e, n, e2, h1, h2⟩ := y
      exact ⟨T, x, y', e, n, e2, h1 xs q.1, h2 ys q.2⟩⟩
end B
namespace B
open PySem PySem.Spec PyProof.Rows L2
/-! ### a def whose last parameter has the default None -/
structure DfD (K : PySem.W.Frag) (mg : Str → Option Value) (x : Str) (st : Stmt) (ps : List Str) (n : Nat) (kw : Str) where
  f : Addr
  fd : FuncData
  F : FunD K x x (defArgs st) (defBody st) (defScope st) [.non] [] f fd
  b : Binds K fd ps []
  ds : List Value
  vd : Vals [.non] ds
  bd : Binds K fd ps ds
  kb : KBn K fd ps n [kw] (fun us ws => us ++ ws) (fun vs zs => vs ++ zs)
  g : mg x = some (.ref f)
theorem FunD.okX {P : Program} {w : World} {K : PySem.W.Frag} {mg : Str → Option Value} {base : Heap} {x qual : Str} {st : Stmt} {dvs : List V} {kws : List (Str × V)} {f : Addr} {fd : FuncData} {N ps : List Str} {k : Nat} {sp : Sp} (F : FunD K x qual (defArgs st) (defBody st) (defScope st) dvs kws f fd) (S : FnScope N ps (defScope st)) (len : ∀ vs H Q E, sp vs H Q E → vs.length = ps.length)
    (hbody : ∀ (cdv : Value) (A : Around) (outer : List Env) (s : Shared) (H : Hp) (vs : List V) (Q : VK) (E : XK), Room k (A.deeper (envOfC qual (defScope st) s.heap.objs.size f cdv)) → sp vs H Q E →
      ∃ t, PSs (cxOf (L2.CX P w) P w K mg base N qual (defScope st) f cdv A outer s H E) (defBody st) t ∧ t { nx := fun _ H' => Q .non H', rt := Q } (start N vs) H) : FnOk P w K mg base (L2.CX P w) (k + 1) f fd ps sp := FunD.ok F S len hbody
theorem Vals.none_nil {ds : List Value} (h : Vals [] ds) : ds = [] := by
  cases h
  rfl
/-- such a def, by what the top says -/
def dfd_mk {K : PySem.W.Frag} {mg : Str → Option Value} {x : Str} {st : Stmt} {ps : List Str} {n : Nat} {kw : Str} {f T : Addr} {oc kV doc pm cdv ct : Value} {od an odT : Option Addr} {osl slT : Array (Option Value)} {nT : Nat} (len : ps.length = n + 1)
    (l : K.lookup f = some ⟨oc, od, .func (PySem.W.fnOf x x (defArgs st) (defBody st) (defScope st) (.ref T) kV doc pm an cdv ct), osl⟩) (c : PySem.W.codeIn K cdv x = true) (k : PySem.W.keepIn K (.ref f) = true)
    (lT : K.lookup T = some ⟨.type "tuple", odT, .seq #[.none] nT, slT⟩) (g : mg x = some (.ref f))
    (h2 : ∀ (us its : List Value), us.length = n + 1 → its.length = 1 → ∃ k, bindArgs (PySem.W.fnOf x x (defArgs st) (defBody st) (defScope st) (.ref T) kV doc pm an cdv ct) ⟨us, []⟩ = seqItems? (.ref T) >>= k ∧ k (some its.toArray) = pure (ps.zip us))
    (h1 : ∀ (us its : List Value), us.length = n → its.length = 1 → ∃ k, bindArgs (PySem.W.fnOf x x (defArgs st) (defBody st) (defScope st) (.ref T) kV doc pm an cdv ct) ⟨us, []⟩ = seqItems? (.ref T) >>= k ∧ k (some its.toArray) = pure (ps.zip (us ++ its)))
    (hk : ∀ (us ws its : List Value), us.length = n → ws.length = 1 → its.length = 1 → ∃ k, bindArgs (PySem.W.fnOf x x (defArgs st) (defBody st) (defScope st) (.ref T) kV doc pm an cdv ct) ⟨us, [kw].zip ws⟩ = seqItems? (.ref T) >>= k ∧ k (some its.toArray) = pure (ps.zip (us ++ ws))) : DfD K mg x st ps n kw where
  f := f
  fd := _
  F := ⟨⟨oc, od, .ref T, kV, doc, pm, an, cdv, ct, osl, rfl, l, c, .inr ⟨by simp, T, _, [.none], nT, rfl, lT, rfl, .cons rfl .nil⟩, .inl rfl⟩, k⟩
  b := fun s us X hlen => by
    rw [List.append_nil] at hlen ⊢
    obtain ⟨k, e1, e2⟩ := h2 us [.none] (by omega) rfl
    refine BindsTo.of_looks fun M => ?_
    rw [e1]
    exact looks_items X lT rfl (.of_pure e2)
  ds := [.none]
  vd := .cons rfl .nil
  bd := fun s us X hlen => by
    rw [List.length_append] at hlen
    obtain ⟨k, e1, e2⟩ := h1 us [.none] (by have : us.length + 1 = ps.length := hlen; omega) rfl
    refine BindsTo.of_looks fun M => ?_
    rw [e1]
    exact looks_items X lT rfl (.of_pure e2)
  kb := ⟨fun s us ws X l1 l2 => by
    obtain ⟨k, e1, e2⟩ := hk us ws [.none] l1 l2 rfl
    refine BindsTo.of_looks fun M => ?_
    rw [e1]
    exact looks_items X lT rfl (.of_pure e2), fun r1 r2 => r1.append r2⟩
  g := g
/-- what reaches no slot passes whatever the slots -/
theorem passN {X : Cx} (tk : Takes X (fun _ _ _ _ => False)) : Passes (L2.CX X.prog X.w) X (fun _ _ _ => False) := fun pins σ H s e s' I c => passAt tk σ pins H s e s' I c
end B
namespace B
open PySem PySem.Spec PyProof.Rows L2
/-! ### defs that show things (repr): they are called where nothing is being shown -/
/-- like a def's promise, but asked only where no showing is under way -/
structure FnG (P : Program) (w : World) (K : PySem.W.Frag) (mg : Str → Option Value) (base : Heap) (k : Nat) (f : Addr) (fd : FuncData) (ps : List Str) (sp : Sp) : Prop where
  arity : ∀ vs H Q E, sp vs H Q E → vs.length = ps.length
  go : ∀ (A : Around) (out : List Env) (s : Shared) (H : Hp) (ar : Args) (us : List Value) (vs : List V) (Q : VK) (E : XK), Room k A ∧ A.guards = some [] → Env0 P w K mg base A out s H →
    BindsTo s fd ar (ps.zip us) → Vals vs us → sp vs H Q E → codeAny (model P w) A (.call (.ref f) ar) (CR CX0 out P w H s Q E) s
section
variable {P : Program} {w : World} {K : PySem.W.Frag} {mg : Str → Option Value} {base : Heap}
/-- a def by its body, where nothing is being shown -/
theorem fun_okG {x qual : Str} {st : Stmt} {f : Addr} {fd : FuncData} {N ps : List Str} {k : Nat} {sp : Sp} (F : Fun K x qual st f fd) (S : FnScope N ps (defScope st)) (ln : ∀ vs H Q E, sp vs H Q E → vs.length = ps.length)
    (body : ∀ (cdv : Value) (A : Around) (outer : List Env) (s : Shared) (H : Hp) (vs : List V) (Q : VK) (E : XK),
      Room k (A.deeper (envOfC qual (defScope st) s.heap.objs.size f cdv)) → (A.deeper (envOfC qual (defScope st) s.heap.objs.size f cdv)).guards = some [] → sp vs H Q E →
      ∃ t, PSs (cxOf CX0 P w K mg base N qual (defScope st) f cdv A outer s H E).nox (defBody st) t ∧ t { nx := fun _ H' => Q .non H', rt := Q } (start N vs) H) :
    FnG P w K mg base (k + 1) f fd ps sp := by
  obtain ⟨oc, od, kV, doc, pm, an, cv, ct, sl, rfl, look, code⟩ := F.ex
  constructor
  · exact ln
  intro A out s H ar us vs Q E ⟨room, quiet⟩ e0 hb rel want
  have up : ∀ b o, base.get? b = some o → s.heap.get? b = some o := fun b o q => (e0.bs b o q).1
  have inK := e0.mod.kin.keeps up
  refine codeAny_call_function room.depth (inK _ _ look) rfl S.co S.gen rfl (PySem.W.codeRec_of inK code) (hb _ _ _ _ ?_)
  have kinds : ∀ y ∈ ps.zip us, (defScope st).names.lookup y.1 = some .local ∨
      ((defScope st).names.lookup y.1 = some .cell ∧ ((cellsFrom (s.heap.objs.size + 1) (defScope st).names []).lookup y.1).isSome = true) := by
    intro y hy
    have par := S.par y.1 (List.of_mem_zip (a := y.1) (b := y.2) hy).1
    exact par.imp id fun c => ⟨c, PySem.W.cellsFrom_some _ _ _ (.inl c)⟩
  refine wpAny_newFunctionEnv_cells S.kind kinds fun env same s1 inC => ?_
  cases same
  refine ⟨(e0.mod.nolimit.keeps up).keeps inC.toInCall.keep, codeAny_func ?_⟩
  obtain ⟨t, tb, tq⟩ := body cv A out s H vs Q E (room.deeper _) quiet want
  have J0 := inv_start (CX := CX0) (E := E) S room.hd e0 (ln _ _ _ _ want) rel inC
  refine wpAny_mono (tb.nox.run [] s1 (start N vs) H _ J0 tq) ?_ fun _ _ h => h
  intro fl s2 h2
  cases fl
  case ret u => obtain ⟨v, _, H2, J, rv, q⟩ := h2; exact ⟨v, H2, J.os, J.bare, J.base, J.hok, rv, q⟩
  case next => obtain ⟨_, H2, J, q⟩ := h2; exact ⟨V.non, H2, J.os, J.bare, J.base, J.hok, rfl, q⟩
  case brk => exact h2.elim fun _ a => a.elim fun _ b => b.2.elim
  case cont => exact h2.elim fun _ a => a.elim fun _ b => b.2.elim
end
section
variable {X : Cx}
/-- f(e, ..), f such a def -/
theorem pe_callG {k : Nat} {f : Addr} {fd : FuncData} {ps : List Str} {sp : Sp} {x : Str} {p pos : Pos} {e : Expr} {es : List Expr} {t : TA} (F : FnG X.prog X.w X.K X.mg X.base k f fd ps sp) (room : Room k X.A) (quiet : X.A.guards = some []) (gl : Gl X x)
    (at_ : X.mg x = some (.ref f)) (kp : PySem.W.keepIn X.K (.ref f) = true) (bd : Binds X.K fd ps []) (ha : PA X (e :: es) t)
    (nd : (x == ("__debug__" : Str)) = false := by decide) (st : starEach (e :: es) X.env = (false, eval e X.env) :: starEach es X.env := by rfl) (nst : (backTo pos (starEach es X.env)).any (·.1) = false := by rfl) :
    PE X (.Call (.Name x p) (e :: es) [] pos) (tCall sp [] E0 t) := by
  constructor
  intro pins s σ H Q I want
  refine wpAny_Call_Name_kw (ld_glob I gl at_ ?_ nd)
  refine PySem.W.callWith_K (h₀ := X.base) I.ok.mod.kin kp ?_ st nst
  refine thn (ha.run pos pins s σ H _ I want) ?_
  rintro us s1 ⟨vs, H1, J, rel, q⟩
  rw [List.append_nil] at q
  have hl : us.length = ps.length := rel.length.symm.trans (F.arity _ _ _ _ q)
  have bind := bd s1 us J.kIn (by simpa using hl)
  rw [List.append_nil] at bind
  refine ⟨J.kIn, wpAny_call (codeAny_mono (F.go X.A X.stack s1 H1 ⟨us, []⟩ us vs Q E0 ⟨room, quiet⟩ J.env0 bind rel q) ?_)⟩
  intro r s2 h2
  match r, h2 with
  | .error _, h2 => exact h2.elim
  | .ok .next, h2 => exact h2.elim
  | .ok .brk, h2 => exact h2.elim
  | .ok .cont, h2 => exact h2.elim
  | .ok (.ret u), h2 =>
    obtain ⟨v, H2, a, b, c, d, rv, q2⟩ := h2
    exact ⟨v, H2, J.call' a c d b (fun _ h => absurd h (by simp)), rv, q2⟩
/-- repr(x), x a list or a tuple of what can be shown -/
def rRepr (K : PySem.W.Frag) : List V → Hp → VK → Prop := fun xs H Q => ∃ (a : Addr) (d : PyData), xs = [.ref a] ∧ Dp K H (.ref a) d ∧ d.showable = true ∧ d.hasDict = false ∧ d.depth ≤ 50 ∧ d.shown.length ≤ sizeLine ∧ Q (.str d.shown) H
theorem cr_repr (quiet : X.A.guards = some []) (room : X.A.units + 64 < cLine) : CallR X (.builtin "repr") (rRepr X.K) := by
  rintro pins s σ H xs us Q I rel ⟨a, d, rfl, hd, sh, nd, dp, len, q⟩
  obtain ⟨u, rfl, ru⟩ := vals1 rel
  cases ru
  obtain ⟨as, rd⟩ := Dp.reads I d _ _ hd rfl
  exact repr_of_reads' rd sh (PyData.noDict_hsm nd) quiet (by omega) (fun _ _ h => h) (fun h' u tk hk => ⟨.str _, H, I.kept hk, ⟨_, rfl⟩, q⟩) len
end
end B
namespace B
open PySem PySem.Spec PyProof.Rows L2
/-! ### the head, for a law whose def shows things -/
/-- a heap in which at most the script is tracked -/
theorem script_heap {P : Program} {w : World} {K : PySem.W.Frag} {h : Heap} {a : Addr} {vs : List Value} {ns : List Int} (inK : K.In h) (ha : h.get? a = some { cls := .type "list", data := .seq vs.toArray }) (hi : IntsAre vs ns)
    (hl : ns.length ≤ sizeLine) : ∃ H : Hp, Only H ∧ SqL K H a (ns.map V.int) ∧ HOk P w H h ∧ ∀ b, H b = none ∨ (b = a ∧ K.lookup a = none) := by
  have rel := vals_ints hi
  have ln := hi.length
  rcases Option.eq_none_or_eq_some (K.lookup a) with no | ⟨o, yes⟩
  · let ob : Obj := { cls := .type "list", data := .seq vs.toArray }
    let H : Hp := fun b => if b = a then some (.frz ob (.lst (ns.map V.int))) else none
    have on : H a = some (.frz ob (.lst (ns.map V.int))) := if_pos rfl
    have off : ∀ b, b ≠ a → H b = none := fun b n => if_neg n
    refine ⟨H, fun b => ?_, .inl (.inr ⟨ob, on⟩), fun b u z => ?_, fun b => ?_⟩
    · rcases Nat.decEq b a with n | y
      · exact .inl (off b n)
      · subst y; exact .inr ⟨_, _, on⟩
    · rcases Nat.decEq b a with n | y
      · rw [off b n] at z; cases z
      · subst y
        rw [on] at z
        cases z
        exact ⟨ha, by rw [List.length_map]; exact hl, vs, _, rel, ha⟩
    · rcases Nat.decEq b a with n | y
      · exact .inl (off b n)
      · exact .inr ⟨y, no⟩
  · have same := inK a o yes
    rw [ha] at same
    cases same
    exact ⟨fun _ => none, fun _ => .inl rfl, .inr ⟨_, vs.toArray, _, yes, rfl, rfl, rfl, by simpa [ln] using hl, by simpa using rel⟩, fun _ _ z => (nomatch z), fun _ => .inl rfl⟩
theorem head_call {P : Program} {w : World} {K : PySem.W.Frag} {mg mb : Str → Option Value} {k : Nat} {fa a : Addr} {fd : FuncData} {x : Str} {sp : Sp} {s : Shared} {vs : List Value} {ns : List Int} (inK : K.In s.heap) (top : s.heap.Ns mainGlobals mg)
    (bu : s.heap.Ns builtinsNs mb) (boot : ∀ x : Str, x ≠ "__name__" → mb x = bootBuiltins x) (lim : s.heap.NoLimit) (noG : s.gens = #[]) (ha : s.heap.get? a = some { cls := .type "list", data := .seq vs.toArray }) (hi : IntsAre vs ns) (hl : ns.length ≤ sizeLine)
    (room : Room k callerA) (F : ∀ base : Heap, K.In base → base.Ns mainGlobals mg → FnG P w K mg base k fa fd [x] sp) (bind : ∀ (s : Shared) (u : Value), BindsTo s fd ⟨[u], []⟩ [(x, u)])
    (want : ∀ H : Hp, Only H → SqL K H a (ns.map V.int) → sp [.ref a] H (fun v _ => v = .bl true) E0) :
    codeAny (model P w) callerA (.call (.ref fa) ⟨[.ref a], []⟩) (fun r s' => r = .ok (.ret (.bool true)) ∧ OldK s.heap s'.heap ∧ s'.os = s.os ∧ AllBare s'.gens) s := by
  obtain ⟨H, only, script, hok, free⟩ := script_heap (P := P) (w := w) inK ha hi hl
  have old : ∀ {b : Addr} {o : Obj}, s.heap.get? b = some o → H b = none → (hidT s.heap H).get? b = some o := fun e n => hidT_get e n
  have ns' : ∀ {b : Addr} {m : Str → Option Value}, s.heap.Ns b m → (hidT s.heap H).Ns b m := by
    rintro b m ⟨o, es, ep, e, d, r⟩
    refine ⟨o, es, ep, old e ?_, d, r⟩
    rcases free b with n | ⟨rfl, _⟩
    · exact n
    · rw [ha] at e
      cases e
      cases d
  have inB : K.In (hidT s.heap H) := by
    intro b o e
    refine old (inK b o e) ?_
    rcases free b with n | ⟨rfl, n⟩
    · exact n
    · rw [n] at e
      cases e
  obtain ⟨mc, l1, l2⟩ := lim
  have env : Env0 P w K mg (hidT s.heap H) callerA [] s H :=
    ⟨rfl, ⟨inB, ns' top, ⟨mb, ns' bu, boot⟩, ⟨mc, ns' l1, l2⟩⟩, fun _ _ e => of_hidT e, Nat.le_of_eq (hidT_size _ _), trivial, fun _ h => (nomatch h), hok, .of_eq noG⟩
  refine codeAny_mono ((F _ inB (ns' top)).go callerA [] s H _ [.ref a] [.ref a] _ _ ⟨room, rfl⟩ env (bind s (.ref a)) (.cons rfl .nil) (want H only script)) ?_
  intro r s2 h2
  match r, h2 with
  | .error _, h2 => exact h2.elim
  | .ok .next, h2 => exact h2.elim
  | .ok .brk, h2 => exact h2.elim
  | .ok .cont, h2 => exact h2.elim
  | .ok (.ret u), h2 =>
    obtain ⟨v, H2, os, bare, un, hok2, rv, q⟩ := h2
    cases (show v = .bl true from q)
    cases (show u = Value.bool true from rv)
    refine ⟨rfl, OldK.of_keep fun b o e => ?_, os, bare⟩
    rcases only b with n | ⟨ob, xs, z⟩
    · exact un.keep b o e n (fun h => (nomatch h)) (fun h => (nomatch h))
    · have e1 := (hok b _ z).1
      rw [e] at e1
      cases e1
      exact (hok2 b _ (un.frzs b _ _ z)).1
/-- the last step, as walk_ofB -/
theorem walkG {l : PySem.W.OpenLaw} {n k : Nat} {q : Program} {loose : List Str} {XP : (Str → Option Value) → Heap → Prop} {YP : World → Heap → Prop} {d : DefRec} {K : Params → PySem.W.Frag} {sp : World → Sp} {x : Str} (most : l.most = some n)
    (small : n ≤ sizeLine) (nodef : d.params.defaults = []) (room : Room k callerA) (inK : ∀ (w : World) (h : Heap), YP w h → (K w.params).In h)
    (F : ∀ (w : World) (mg : Str → Option Value) (fa : Addr) (h : Heap), (K w.params).In h → h.Ns mainGlobals mg → mg d.name = some (.ref fa) → ∃ fd : FuncData, (∀ (s : Shared) (u : Value), BindsTo s fd ⟨[u], []⟩ [(x, u)]) ∧
      ∀ base : Heap, (K w.params).In base → base.Ns mainGlobals mg → FnG l.prog w (K w.params) mg base k fa fd [x] (sp w))
    (want : ∀ (w : World) (H : Hp) (a : Addr) (ns : List Int), ns.length ≤ n → (∀ z ∈ ns, Builtin.Int.intBits z ≤ 1048576) → Only H → SqL (K w.params) H a (ns.map V.int) → sp w [.ref a] H (fun v _ => v = .bl true) E0) :
    PySem.W.WalkO q loose XP YP l.row.toRowW d [] (fun f vs => PySem.call f vs) := by
  refine Att.attach_callB most nodef ?_
  intro w _ s mg mb fa _ _ _ _ a vs ns G Y _ _ _ at_ obj hin len bits noG
  obtain ⟨fd, bd, ok⟩ := F w mg fa _ (inK w _ Y) G.T.g at_
  exact head_call (inK w _ Y) G.T.g G.T.b G.T.builtins G.T.nolimit noG obj hin (Nat.le_trans len small) room ok bd fun H o sc => want w H a ns len bits o sc
end B
namespace B
open PySem PySem.Spec PyProof.Rows L2
/-! ### fractions in lowest terms -/
/-- what lowest divides by -/
def lowN (t b : Int) : Int := if b < 0 then -((Nat.gcd t.natAbs b.natAbs : Nat) : Int) else ((Nat.gcd t.natAbs b.natAbs : Nat) : Int)
def lowT (t b : Int) : Int := t.fdiv (lowN t b)
def lowB (t b : Int) : Int := b.fdiv (lowN t b)
theorem lowN_abs (t b : Int) : (lowN t b).natAbs = Nat.gcd t.natAbs b.natAbs := by
  unfold lowN
  split <;> omega
theorem lowN_dvd_t (t b : Int) : lowN t b ∣ t := by
  rw [← Int.natAbs_dvd_natAbs, lowN_abs]
  exact Nat.gcd_dvd_left _ _
theorem lowN_dvd_b (t b : Int) : lowN t b ∣ b := by
  rw [← Int.natAbs_dvd_natAbs, lowN_abs]
  exact Nat.gcd_dvd_right _ _
theorem low_t (t b : Int) : lowN t b * lowT t b = t := by
  unfold lowT
  rw [Int.fdiv_eq_ediv_of_dvd (lowN_dvd_t t b)]
  exact Int.mul_ediv_cancel' (lowN_dvd_t t b)
theorem low_b (t b : Int) : lowN t b * lowB t b = b := by
  unfold lowB
  rw [Int.fdiv_eq_ediv_of_dvd (lowN_dvd_b t b)]
  exact Int.mul_ediv_cancel' (lowN_dvd_b t b)
theorem lowN_pos {t b : Int} (h : b ≠ 0) : 0 < Nat.gcd t.natAbs b.natAbs := Nat.gcd_pos_of_pos_right _ (by omega)
theorem lowB_pos {t b : Int} (h : b ≠ 0) : 1 ≤ lowB t b := by
  have e := low_b t b
  have g := lowN_pos (t := t) h
  rcases Int.lt_or_le (lowB t b) 1 with z | z
  · exfalso
    by_cases hb : b < 0
    · have n : lowN t b ≤ 0 := by unfold lowN; rw [if_pos hb]; omega
      have := Int.mul_nonneg_of_nonpos_of_nonpos n (show lowB t b ≤ 0 by omega)
      omega
    · have n : 0 ≤ lowN t b := by unfold lowN; rw [if_neg hb]; omega
      have := Int.mul_nonpos_of_nonneg_of_nonpos n (show lowB t b ≤ 0 by omega)
      omega
  · exact z
theorem low_cop {t b : Int} (h : b ≠ 0) : Nat.gcd (lowT t b).natAbs (lowB t b).natAbs = 1 := by
  have g := lowN_pos (t := t) h
  have e1 : t.natAbs = Nat.gcd t.natAbs b.natAbs * (lowT t b).natAbs := by
    rw [← lowN_abs, ← Int.natAbs_mul, low_t]
  have e2 : b.natAbs = Nat.gcd t.natAbs b.natAbs * (lowB t b).natAbs := by
    rw [← lowN_abs, ← Int.natAbs_mul, low_b]
  have e3 : Nat.gcd t.natAbs b.natAbs = Nat.gcd t.natAbs b.natAbs * Nat.gcd (lowT t b).natAbs (lowB t b).natAbs := by
    rw [← Nat.gcd_mul_left, ← e1, ← e2]
  exact (Nat.eq_of_mul_eq_mul_left g (by rw [Nat.mul_one]; exact e3)).symm
theorem cop_dvd {a b c : Nat} (h : Nat.gcd b a = 1) (d : b ∣ a * c) : b ∣ c := by
  have e : Nat.gcd (b * c) (a * c) = c := by rw [Nat.gcd_mul_right, h, Nat.one_mul]
  rw [← e]
  exact Nat.dvd_gcd (Nat.dvd_mul_right _ _) d
/-- two fractions in lowest terms of one worth are one -/
theorem cop_one {T B T' B' : Int} (h : 1 ≤ B) (h' : 1 ≤ B') (g : Nat.gcd T.natAbs B.natAbs = 1) (g' : Nat.gcd T'.natAbs B'.natAbs = 1) (e : T * B' = T' * B) : T = T' ∧ B = B' := by
  have e1 : T.natAbs * B'.natAbs = T'.natAbs * B.natAbs := by rw [← Int.natAbs_mul, ← Int.natAbs_mul, e]
  have d1 : B.natAbs ∣ B'.natAbs := cop_dvd (a := T.natAbs) (by rw [Nat.gcd_comm]; exact g) ⟨T'.natAbs, by rw [e1, Nat.mul_comm]⟩
  have d2 : B'.natAbs ∣ B.natAbs := cop_dvd (a := T'.natAbs) (by rw [Nat.gcd_comm]; exact g') ⟨T.natAbs, by rw [← e1, Nat.mul_comm]⟩
  have e2 : B = B' := by
    have := Nat.dvd_antisymm d1 d2
    omega
  subst e2
  exact ⟨Int.eq_of_mul_eq_mul_right (by omega) e, rfl⟩
/-- t, b and what is in lowest terms of the same worth -/
theorem low_cross (t b : Int) : lowT t b * b = t * lowB t b := by
  have e1 := low_t t b
  have e2 := low_b t b
  calc lowT t b * b = lowT t b * (lowN t b * lowB t b) := by rw [e2]
    _ = (lowN t b * lowT t b) * lowB t b := by rw [← Int.mul_assoc, Int.mul_comm (lowT t b)]
    _ = t * lowB t b := by rw [e1]
theorem low_is {t b T B : Int} (hb : b ≠ 0) (h : 1 ≤ B) (g : Nat.gcd T.natAbs B.natAbs = 1) (e : T * b = t * B) : lowT t b = T ∧ lowB t b = B := by
  refine cop_one (lowB_pos hb) h (low_cop hb) g ?_
  have c := low_cross t b
  refine Int.eq_of_mul_eq_mul_right hb ?_
  calc lowT t b * B * b = (lowT t b * b) * B := by rw [Int.mul_assoc, Int.mul_comm B, ← Int.mul_assoc]
    _ = t * lowB t b * B := by rw [c]
    _ = (t * B) * lowB t b := by rw [Int.mul_assoc, Int.mul_comm (lowB t b), ← Int.mul_assoc]
    _ = T * b * lowB t b := by rw [e]
    _ = T * lowB t b * b := by rw [Int.mul_assoc, Int.mul_comm b, ← Int.mul_assoc]
theorem lowT_abs {t b : Int} (h : b ≠ 0) : (lowT t b).natAbs ≤ t.natAbs := by
  have e := low_t t b
  have g := lowN_pos (t := t) h
  rw [← lowN_abs] at g
  have : t.natAbs = (lowN t b).natAbs * (lowT t b).natAbs := by rw [← Int.natAbs_mul, e]
  rw [this]
  exact Nat.le_mul_of_pos_left _ g
theorem lowB_abs {t b : Int} (h : b ≠ 0) : (lowB t b).natAbs ≤ b.natAbs := by
  have e := low_b t b
  have g := lowN_pos (t := t) h
  rw [← lowN_abs] at g
  have : b.natAbs = (lowN t b).natAbs * (lowB t b).natAbs := by rw [← Int.natAbs_mul, e]
  rw [this]
  exact Nat.le_mul_of_pos_left _ g
end B
namespace B
open PySem PySem.Spec PyProof.Rows L2
/-! ### sums and products of fractions -/
/-- a fraction: top, bottom -/
structure IsF (t : Int) (b : Nat) : Prop where
  pos : 0 < b
  cop : Nat.Coprime t.natAbs b
theorem low_isN {t T : Int} {b B : Nat} (hb : 0 < b) (h : IsF T B) (e : T * (b : Int) = t * (B : Int)) : lowT t b = T ∧ lowB t b = (B : Int) :=
  low_is (by omega) (by have := h.pos; omega) (by rw [Int.natAbs_natCast]; exact h.cop) e
/-- the bottom as a number -/
def lowBn (t : Int) (b : Nat) : Nat := (lowB t b).natAbs
theorem lowBn_eq {t : Int} {b : Nat} (hb : 0 < b) : lowB t b = (lowBn t b : Int) := by
  have := lowB_pos (t := t) (b := (b : Int)) (by omega)
  unfold lowBn
  omega
theorem low_isF {t : Int} {b : Nat} (hb : 0 < b) : IsF (lowT t b) (lowBn t b) := by
  have h := lowB_pos (t := t) (b := (b : Int)) (by omega)
  refine ⟨by unfold lowBn; omega, ?_⟩
  exact low_cop (t := t) (b := (b : Int)) (by omega)
theorem low_self {t : Int} {b : Nat} (h : IsF t b) : lowT t b = t ∧ lowBn t b = b := by
  have := low_isN h.pos h (rfl : t * (b : Int) = t * b)
  refine ⟨this.1, ?_⟩
  unfold lowBn
  rw [this.2, Int.natAbs_natCast]
/-- what lowest divides by, the bottom above 0 -/
theorem lowN_nat (t : Int) (b : Nat) : lowN t b = ((Nat.gcd t.natAbs b : Nat) : Int) := by
  unfold lowN
  rw [if_neg (by omega), Int.natAbs_natCast]
theorem lowT_nat {t : Int} {b : Nat} : lowT t b = t / ((Nat.gcd t.natAbs b : Nat) : Int) := by
  unfold lowT
  rw [lowN_nat, Int.fdiv_eq_ediv_of_nonneg _ (by omega)]
theorem lowB_nat {t : Int} {b : Nat} : lowB t b = (b : Int) / ((Nat.gcd t.natAbs b : Nat) : Int) := by
  unfold lowB
  rw [lowN_nat, Int.fdiv_eq_ediv_of_nonneg _ (by omega)]
theorem natAbs_div {a : Int} {d : Nat} (h : d ∣ a.natAbs) : (a / (d : Int)).natAbs = a.natAbs / d := by
  rw [Int.natAbs_ediv_of_dvd (by exact Int.ofNat_dvd_left.mpr h), Int.natAbs_natCast]
theorem div_mul {a : Int} {d : Nat} (h : d ∣ a.natAbs) : a / (d : Int) * d = a := Int.ediv_mul_cancel (by exact Int.ofNat_dvd_left.mpr h)
def addX (t1 : Int) (b1 : Nat) (t2 : Int) (b2 : Nat) : Int := t1 * b2 + t2 * b1
def addT (t1 : Int) (b1 : Nat) (t2 : Int) (b2 : Nat) : Int := lowT (addX t1 b1 t2 b2) (b1 * b2 : Nat)
def addB (t1 : Int) (b1 : Nat) (t2 : Int) (b2 : Nat) : Nat := lowBn (addX t1 b1 t2 b2) (b1 * b2)
def mulT (t1 : Int) (b1 : Nat) (t2 : Int) (b2 : Nat) : Int := lowT (t1 * t2) (b1 * b2 : Nat)
def mulB (t1 : Int) (b1 : Nat) (t2 : Int) (b2 : Nat) : Nat := lowBn (t1 * t2) (b1 * b2)
/-- what plus reckons -/
def plG (b1 b2 : Nat) : Nat := Nat.gcd b1 b2
def plS (t1 : Int) (b1 : Nat) (t2 : Int) (b2 : Nat) : Int := t1 * ((b2 / plG b1 b2 : Nat) : Int) + t2 * ((b1 / plG b1 b2 : Nat) : Int)
def plD (t1 : Int) (b1 : Nat) (t2 : Int) (b2 : Nat) : Nat := Nat.gcd (plS t1 b1 t2 b2).natAbs (plG b1 b2)
theorem plus_math {t1 t2 : Int} {b1 b2 : Nat} (h1 : IsF t1 b1) (h2 : IsF t2 b2) :
    plS t1 b1 t2 b2 / (plD t1 b1 t2 b2 : Int) = addT t1 b1 t2 b2 ∧ b1 / plG b1 b2 * (b2 / plD t1 b1 t2 b2) = addB t1 b1 t2 b2 ∧ 0 < plG b1 b2 ∧ 0 < plD t1 b1 t2 b2 := by
  have g0 : 0 < plG b1 b2 := Nat.gcd_pos_of_pos_left _ h1.pos
  have d0 : 0 < plD t1 b1 t2 b2 := Nat.gcd_pos_of_pos_right _ g0
  obtain ⟨r, er⟩ : plG b1 b2 ∣ b1 := Nat.gcd_dvd_left _ _
  obtain ⟨s, es⟩ : plG b1 b2 ∣ b2 := Nat.gcd_dvd_right _ _
  have er2 : b1 / plG b1 b2 = r := Nat.div_eq_of_eq_mul_right g0 er
  have es2 : b2 / plG b1 b2 = s := Nat.div_eq_of_eq_mul_right g0 es
  have crs : Nat.Coprime r s := by
    have := Nat.coprime_div_gcd_div_gcd (m := b1) (n := b2) g0
    rw [show Nat.gcd b1 b2 = plG b1 b2 from rfl, er2, es2] at this
    exact this
  have eS : plS t1 b1 t2 b2 = t1 * (s : Int) + t2 * (r : Int) := by unfold plS; rw [er2, es2]
  have ct1r : Nat.Coprime t1.natAbs r := Nat.Coprime.coprime_dvd_right ⟨plG b1 b2, by rw [Nat.mul_comm]; exact er⟩ h1.cop
  have ct2s : Nat.Coprime t2.natAbs s := Nat.Coprime.coprime_dvd_right ⟨plG b1 b2, by rw [Nat.mul_comm]; exact es⟩ h2.cop
  have cSr : Nat.Coprime (plS t1 b1 t2 b2).natAbs r := by
    show Int.gcd (plS t1 b1 t2 b2) (r : Int) = 1
    rw [eS, Int.gcd_add_mul_right_left]
    show Nat.gcd (t1 * (s : Int)).natAbs (r : Int).natAbs = 1
    rw [Int.natAbs_mul, Int.natAbs_natCast, Int.natAbs_natCast]
    exact Nat.Coprime.mul_left ct1r crs.symm
  have cSs : Nat.Coprime (plS t1 b1 t2 b2).natAbs s := by
    show Int.gcd (plS t1 b1 t2 b2) (s : Int) = 1
    rw [eS, Int.add_comm, Int.gcd_add_mul_right_left]
    show Nat.gcd (t2 * (r : Int)).natAbs (s : Int).natAbs = 1
    rw [Int.natAbs_mul, Int.natAbs_natCast, Int.natAbs_natCast]
    exact Nat.Coprime.mul_left ct2s crs
  have dS : plD t1 b1 t2 b2 ∣ (plS t1 b1 t2 b2).natAbs := Nat.gcd_dvd_left _ _
  have dG : plD t1 b1 t2 b2 ∣ plG b1 b2 := Nat.gcd_dvd_right _ _
  obtain ⟨e, ee⟩ := dG
  have ee2 : plG b1 b2 / plD t1 b1 t2 b2 = e := Nat.div_eq_of_eq_mul_right d0 ee
  have eb : b2 / plD t1 b1 t2 b2 = e * s := Nat.div_eq_of_eq_mul_right d0 (by rw [← Nat.mul_assoc, ← ee]; exact es)
  have aT : (plS t1 b1 t2 b2 / (plD t1 b1 t2 b2 : Int)).natAbs = (plS t1 b1 t2 b2).natAbs / plD t1 b1 t2 b2 := natAbs_div dS
  have cT : ∀ {x : Nat}, Nat.Coprime (plS t1 b1 t2 b2).natAbs x → Nat.Coprime (plS t1 b1 t2 b2 / (plD t1 b1 t2 b2 : Int)).natAbs x := fun h => by
    rw [aT]
    exact Nat.Coprime.coprime_dvd_left (Nat.div_dvd_of_dvd dS) h
  have cTe : Nat.Coprime (plS t1 b1 t2 b2 / (plD t1 b1 t2 b2 : Int)).natAbs e := by
    have := Nat.coprime_div_gcd_div_gcd (m := (plS t1 b1 t2 b2).natAbs) (n := plG b1 b2) d0
    rw [show Nat.gcd (plS t1 b1 t2 b2).natAbs (plG b1 b2) = plD t1 b1 t2 b2 from rfl, ee2, ← aT] at this
    exact this
  have r0 : 0 < r := by
    rcases Nat.eq_zero_or_pos r with z | z
    · rw [z, Nat.mul_zero] at er
      have := h1.pos
      omega
    · exact z
  have s0 : 0 < s := by
    rcases Nat.eq_zero_or_pos s with z | z
    · rw [z, Nat.mul_zero] at es
      have := h2.pos
      omega
    · exact z
  have e0 : 0 < e := by
    rcases Nat.eq_zero_or_pos e with z | z
    · rw [z, Nat.mul_zero] at ee
      omega
    · exact z
  have F : IsF (plS t1 b1 t2 b2 / (plD t1 b1 t2 b2 : Int)) (r * (e * s)) := ⟨Nat.mul_pos r0 (Nat.mul_pos e0 s0), Nat.Coprime.mul_right (cT cSr) (Nat.Coprime.mul_right cTe (cT cSs))⟩
  have X := low_isN (t := addX t1 b1 t2 b2) (b := b1 * b2) (Nat.mul_pos h1.pos h2.pos) F (by
    have hd := div_mul dS
    generalize plS t1 b1 t2 b2 / (plD t1 b1 t2 b2 : Int) = T at hd
    generalize plD t1 b1 t2 b2 = d at hd ee
    rw [eS] at hd
    generalize plG b1 b2 = g at er es ee
    unfold addX
    subst ee
    rw [er, es]
    simp only [Int.natCast_mul]
    have : T * ((d : Int) * e * r * (d * e * s)) = (T * d) * ((e : Int) * r * (d * e * s)) := by
      simp only [Int.mul_assoc]
    rw [this, hd]
    have a1 : ∀ u v x y z : Int, (u * v + x * y) * z = u * v * z + x * y * z := fun u v x y z => Int.add_mul _ _ _
    rw [a1, a1]
    congr 1
    · simp only [Int.mul_assoc, Int.mul_left_comm, Int.mul_comm]
    · simp only [Int.mul_assoc, Int.mul_left_comm, Int.mul_comm])
  refine ⟨X.1.symm, ?_, g0, d0⟩
  rw [er2, eb]
  unfold addB lowBn
  rw [X.2, Int.natAbs_natCast]
theorem times_math {t1 t2 : Int} {b1 b2 : Nat} (h1 : IsF t1 b1) (h2 : IsF t2 b2) :
    t1 / ((Nat.gcd t1.natAbs b2 : Nat) : Int) * (t2 / ((Nat.gcd t2.natAbs b1 : Nat) : Int)) = mulT t1 b1 t2 b2 ∧ b1 / Nat.gcd t2.natAbs b1 * (b2 / Nat.gcd t1.natAbs b2) = mulB t1 b1 t2 b2 ∧ 0 < Nat.gcd t1.natAbs b2 ∧ 0 < Nat.gcd t2.natAbs b1 := by
  have f0 : 0 < Nat.gcd t1.natAbs b2 := Nat.gcd_pos_of_pos_right _ h2.pos
  have r0 : 0 < Nat.gcd t2.natAbs b1 := Nat.gcd_pos_of_pos_right _ h1.pos
  have df1 : Nat.gcd t1.natAbs b2 ∣ t1.natAbs := Nat.gcd_dvd_left _ _
  have df2 : Nat.gcd t1.natAbs b2 ∣ b2 := Nat.gcd_dvd_right _ _
  have dr1 : Nat.gcd t2.natAbs b1 ∣ t2.natAbs := Nat.gcd_dvd_left _ _
  have dr2 : Nat.gcd t2.natAbs b1 ∣ b1 := Nat.gcd_dvd_right _ _
  have c1 := Nat.coprime_div_gcd_div_gcd (m := t1.natAbs) (n := b2) f0
  have c2 := Nat.coprime_div_gcd_div_gcd (m := t2.natAbs) (n := b1) r0
  have c3 : Nat.Coprime (t1.natAbs / Nat.gcd t1.natAbs b2) (b1 / Nat.gcd t2.natAbs b1) := Nat.Coprime.coprime_dvd_left (Nat.div_dvd_of_dvd df1) (Nat.Coprime.coprime_dvd_right (Nat.div_dvd_of_dvd dr2) h1.cop)
  have c4 : Nat.Coprime (t2.natAbs / Nat.gcd t2.natAbs b1) (b2 / Nat.gcd t1.natAbs b2) := Nat.Coprime.coprime_dvd_left (Nat.div_dvd_of_dvd dr1) (Nat.Coprime.coprime_dvd_right (Nat.div_dvd_of_dvd df2) h2.cop)
  have F : IsF (t1 / ((Nat.gcd t1.natAbs b2 : Nat) : Int) * (t2 / ((Nat.gcd t2.natAbs b1 : Nat) : Int))) (b1 / Nat.gcd t2.natAbs b1 * (b2 / Nat.gcd t1.natAbs b2)) := by
    refine ⟨Nat.mul_pos (Nat.div_pos (Nat.le_of_dvd h1.pos dr2) r0) (Nat.div_pos (Nat.le_of_dvd h2.pos df2) f0), ?_⟩
    rw [Int.natAbs_mul, natAbs_div df1, natAbs_div dr1]
    exact Nat.Coprime.mul_left (Nat.Coprime.mul_right c3 c1) (Nat.Coprime.mul_right c2 c4)
  have X := low_isN (t := t1 * t2) (b := b1 * b2) (Nat.mul_pos h1.pos h2.pos) F (by
    have a1 := div_mul df1
    have a2 := div_mul dr1
    have a3 := Nat.div_mul_cancel dr2
    have a4 := Nat.div_mul_cancel df2
    generalize t1 / ((Nat.gcd t1.natAbs b2 : Nat) : Int) = x at a1
    generalize t2 / ((Nat.gcd t2.natAbs b1 : Nat) : Int) = y at a2
    generalize b1 / Nat.gcd t2.natAbs b1 = u at a3
    generalize b2 / Nat.gcd t1.natAbs b2 = v at a4
    have b3 : (b1 : Int) = u * (Nat.gcd t2.natAbs b1 : Nat) := by rw [← Int.natCast_mul, a3]
    have b4 : (b2 : Int) = v * (Nat.gcd t1.natAbs b2 : Nat) := by rw [← Int.natCast_mul, a4]
    rw [Int.natCast_mul, Int.natCast_mul, b3, b4]
    rw [show t1 * t2 = (x * (Nat.gcd t1.natAbs b2 : Nat)) * (y * (Nat.gcd t2.natAbs b1 : Nat)) by rw [a1, a2]]
    simp only [Int.mul_assoc, Int.mul_left_comm, Int.mul_comm])
  refine ⟨X.1.symm, ?_, f0, r0⟩
  unfold mulB lowBn
  rw [X.2, Int.natAbs_natCast]
/-- how great -/
structure Fz (t : Int) (b n : Nat) : Prop where
  t : t.natAbs < 2 ^ n
  b : b < 2 ^ n
theorem Fz.more {t : Int} {b n m : Nat} (h : Fz t b n) (e : n ≤ m) : Fz t b m := ⟨Nat.lt_of_lt_of_le h.t (Nat.pow_le_pow_right (by decide) e), Nat.lt_of_lt_of_le h.b (Nat.pow_le_pow_right (by decide) e)⟩
theorem low_z {t : Int} {b n : Nat} (hb : 0 < b) (ht : t.natAbs < 2 ^ n) (hz : b < 2 ^ n) : Fz (lowT t b) (lowBn t b) n := by
  refine ⟨Nat.lt_of_le_of_lt (lowT_abs (by omega)) ht, ?_⟩
  have := lowB_abs (t := t) (b := (b : Int)) (by omega)
  rw [Int.natAbs_natCast] at this
  exact Nat.lt_of_le_of_lt this hz
theorem addX_z {t1 t2 : Int} {b1 b2 n m : Nat} (h1 : Fz t1 b1 n) (h2 : Fz t2 b2 m) : (addX t1 b1 t2 b2).natAbs < 2 ^ (n + m + 1) := by
  unfold addX
  have a : (t1 * (b2 : Int)).natAbs < 2 ^ (n + m) := by rw [Int.natAbs_mul, Int.natAbs_natCast, Nat.pow_add]; exact Nat.mul_lt_mul'' h1.t h2.b
  have c : (t2 * (b1 : Int)).natAbs < 2 ^ (n + m) := by rw [Int.natAbs_mul, Int.natAbs_natCast, Nat.pow_add, Nat.mul_comm]; exact Nat.mul_lt_mul'' h1.b h2.t
  rw [Nat.pow_succ]
  omega
theorem mulB_z {b1 b2 n m : Nat} {t1 t2 : Int} (h1 : Fz t1 b1 n) (h2 : Fz t2 b2 m) : b1 * b2 < 2 ^ (n + m) := by
  rw [Nat.pow_add]
  exact Nat.mul_lt_mul'' h1.b h2.b
theorem add_z {t1 t2 : Int} {b1 b2 n m : Nat} (p1 : 0 < b1) (p2 : 0 < b2) (h1 : Fz t1 b1 n) (h2 : Fz t2 b2 m) : Fz (addT t1 b1 t2 b2) (addB t1 b1 t2 b2) (n + m + 1) :=
  low_z (Nat.mul_pos p1 p2) (addX_z h1 h2) (Nat.lt_of_lt_of_le (mulB_z h1 h2) (Nat.pow_le_pow_right (by decide) (by omega)))
theorem mul_z {t1 t2 : Int} {b1 b2 n m : Nat} (p1 : 0 < b1) (p2 : 0 < b2) (h1 : Fz t1 b1 n) (h2 : Fz t2 b2 m) : Fz (mulT t1 b1 t2 b2) (mulB t1 b1 t2 b2) (n + m) :=
  low_z (Nat.mul_pos p1 p2) (by rw [Int.natAbs_mul, Nat.pow_add]; exact Nat.mul_lt_mul'' h1.t h2.t) (mulB_z h1 h2)
theorem add_isF {t1 t2 : Int} {b1 b2 : Nat} (p1 : 0 < b1) (p2 : 0 < b2) : IsF (addT t1 b1 t2 b2) (addB t1 b1 t2 b2) := low_isF (Nat.mul_pos p1 p2)
theorem mul_isF {t1 t2 : Int} {b1 b2 : Nat} (p1 : 0 < b1) (p2 : 0 < b2) : IsF (mulT t1 b1 t2 b2) (mulB t1 b1 t2 b2) := low_isF (Nat.mul_pos p1 p2)
theorem IsF.neg {t : Int} {b : Nat} (h : IsF t b) : IsF (-t) b := ⟨h.pos, by rw [Int.natAbs_neg]; exact h.cop⟩
end B
namespace B
open PySem PySem.Spec PyProof.Rows L2
/-! ### texts by their signs -/
/-- the text of these signs, the text of one sign -/
def tx (cs : List Nat) : Str := ⟨cs.toArray⟩
def sg (c : Nat) : Str := ⟨#[c]⟩
theorem sg_tx (c : Nat) : sg c = tx [c] := rfl
theorem tx_len (cs : List Nat) : (tx cs).length = cs.length := rfl
theorem tx_list (cs : List Nat) : (tx cs).cps.toList = cs := rfl
theorem tx_inj {a b : List Nat} (h : tx a = tx b) : a = b := by
  have := congrArg (fun z : Str => z.cps.toList) h
  exact this
section
open PySem.Builtin PySem.Builtin.Str PySem.StrLaws
theorem occ_done (s sub : Str) (hi : Nat) : ∀ (m cur : Nat) (st : Array Nat × Nat), st.1.size = 1 → (forIn (List.range' cur m) st (occBody s sub hi 1)).run.1 = st.1
  | 0, _, _, _ => rfl
  | m + 1, cur, st, h => by
    rw [List.range'_succ, List.forIn_cons]
    unfold occBody
    split
    · rename_i hc
      exact absurd hc.1.1.1 (by omega)
    · exact occ_done s sub hi m (cur + 1) st h
def occR (s sub : Str) (hi f cur m : Nat) : List Nat := (forIn (List.range' cur m) ((#[] : Array Nat), f) (occBody s sub hi 1)).run.1.toList
theorem occR_hit {s sub : Str} {hi f cur m : Nat} (hf : f ≤ cur) (hA : At s sub hi cur) : occR s sub hi f cur (m + 1) = [cur] := by
  unfold occR
  rw [List.range'_succ, List.forIn_cons]
  unfold occBody
  rw [if_pos ⟨⟨⟨by show (0 : Nat) < 1; decide, hf⟩, hA.1⟩, hA.2⟩]
  show (forIn (List.range' (cur + 1) m) ((#[] : Array Nat).push cur, cur + sub.length) (occBody s sub hi 1)).run.1.toList = [cur]
  rw [occ_done s sub hi m (cur + 1) _ rfl]
  rfl
theorem occR_miss {s sub : Str} {hi f cur m : Nat} (hA : ¬ At s sub hi cur) : occR s sub hi f cur (m + 1) = occR s sub hi f (cur + 1) m := by
  unfold occR
  rw [List.range'_succ, List.forIn_cons]
  unfold occBody
  rw [if_neg (fun hc => hA ⟨hc.1.2, hc.2⟩)]
  rfl
theorem occ_run1 (s sub : Str) (hi f : Nat) : ∀ (m cur : Nat), f ≤ cur → (∃ i, cur ≤ i ∧ i < cur + m ∧ At s sub hi i ∧ (∀ k, cur ≤ k → k < i → ¬ At s sub hi k) ∧ occR s sub hi f cur m = [i]) ∨
    ((∀ k, cur ≤ k → k < cur + m → ¬ At s sub hi k) ∧ occR s sub hi f cur m = [])
  | 0, cur, _ => .inr ⟨fun k h1 h2 => by omega, rfl⟩
  | m + 1, cur, hf => by
    by_cases hA : At s sub hi cur
    · exact .inl ⟨cur, Nat.le_refl _, by omega, hA, fun k h1 h2 => by omega, occR_hit hf hA⟩
    · rw [occR_miss hA]
      rcases occ_run1 s sub hi f m (cur + 1) (by omega) with ⟨i, h1, h2, h3, h4, h5⟩ | ⟨h1, h2⟩
      · refine .inl ⟨i, by omega, by omega, h3, fun k k1 k2 => ?_, h5⟩
        by_cases hk : k = cur
        · subst hk
          exact hA
        · exact h4 k (by omega) k2
      · refine .inr ⟨fun k k1 k2 => ?_, h2⟩
        by_cases hk : k = cur
        · subst hk
          exact hA
        · exact h1 k (by omega) (by omega)
theorem at_sign (cs : List Nat) (c i : Nat) : At (tx cs) (sg c) (tx cs).length i ↔ cs[i]? = some c := subAt_one (tx cs) c i
/-- where a sign first stands -/
theorem occ_sign {cs : List Nat} {c : Nat} (h : c ∈ cs) : ∃ i : Nat, occurrences (tx cs) (sg c) 0 (tx cs).length 1 = [i] ∧ cs[i]? = some c ∧ ∀ k, k < i → cs[k]? ≠ some c := by
  rw [occ_eq]
  rcases occ_run1 (tx cs) (sg c) (tx cs).length 0 ((tx cs).length + 1 - 0) 0 (Nat.le_refl _) with ⟨i, _, _, h3, h4, h5⟩ | ⟨h1, _⟩
  · exact ⟨i, h5, (at_sign cs c i).mp h3, fun k hk e => h4 k (by omega) hk ((at_sign cs c k).mpr e)⟩
  · exfalso
    obtain ⟨j, hj⟩ := List.getElem?_of_mem h
    have hlt := (List.getElem?_eq_some_iff.mp hj).1
    exact h1 j (by omega) (by rw [tx_len]; omega) ((at_sign cs c j).mpr hj)
theorem find_sign {cs : List Nat} {c : Nat} (h : c ∈ cs) : ∃ i : Nat, Txt.find (tx cs) (sg c) = (i : Int) ∧ occurrences (tx cs) (sg c) 0 (tx cs).length 1 = [i] ∧ cs[i]? = some c ∧ (∀ k, k < i → cs[k]? ≠ some c) := by
  obtain ⟨i, h1, h2, h3⟩ := occ_sign h
  refine ⟨i, ?_, h1, h2, h3⟩
  unfold Txt.find
  rw [h1]
end
/-! ### further calls -/
theorem vals_get : ∀ {xs : List V} {us : List Value}, xs.length = us.length → (∀ (j : Nat) (v : V) (u : Value), xs[j]? = some v → us[j]? = some u → RelV v u) → Vals xs us
  | [], [], _, _ => .nil
  | x :: xs, u :: us, hl, h => .cons (h 0 x u rfl rfl) (vals_get (by simpa using hl) fun j v w a b => h (j + 1) v w a b)
section
variable {X : Cx}
/-- list(text) -/
theorem cr_listS (hc : X.calm = true) : CallR X (.type "list") (fun xs H Q => ∃ z : Str, xs = [.str z] ∧ z.cps.size ≤ sizeLine ∧ ∀ p, H p = none → Q (.ref p) (upd H p (.lst (z.cps.toList.map fun c => V.str (sg c))))) := by
  intro pins s σ H xs us Q I r h
  obtain ⟨z, rfl, hz, q⟩ := h
  obtain ⟨u, rfl, ru⟩ : ∃ u, us = [u] ∧ RelV (.str z) u := by
    cases r with
    | cons a b => cases b; exact ⟨_, rfl, a⟩
  obtain ⟨t, rfl⟩ := ru
  refine PySem.call_list_str (I.ok.hd hc) z t (hn := hz) fun h' tk acc c hk hS hacc => ?_
  refine ⟨.ref _, upd H s.heap.objs.size (.lst (z.cps.toList.map fun c => V.str (sg c))), I.laid (t' := tk) hk (Nat.le_refl _) ⟨?_, acc.toList, c, ?_, ?_⟩, rfl, q _ (I.hok.fresh (Nat.le_refl _))⟩
  · rw [List.length_map, Array.length_toList]
    exact hz
  · refine vals_get ?_ fun j v u a b => ?_
    · rw [List.length_map, Array.length_toList, Array.length_toList]
      exact hacc.1.symm
    · obtain ⟨d, k, hd, rfl⟩ := hacc.2 j u (by simpa using b)
      rw [List.getElem?_map, Array.getElem?_toList, hd] at a
      have e : V.str (sg d) = v := Option.some.inj a
      rw [← e]
      exact ⟨k, rfl⟩
  · simpa using hS
/-- max(a tuple of ints) -/
theorem cr_maxT (hc : X.calm = true) : CallR X (.builtin "max") (fun vs H Q => ∃ (a : Addr) (ns : List Int), vs = [V.ref a] ∧ SqT X.K H a (ns.map V.int) ∧ 0 < ns.length ∧ ∀ m, m ∈ ns → (∀ y, y ∈ ns → y ≤ m) → Q (.int m) H) := by
  intro pins s σ H vs us Q I r h
  obtain ⟨a, ns, rfl, hs, hne, q⟩ := h
  obtain ⟨its, rv, hT, _⟩ := I.tuple hs
  rw [Vals.ref1 r]
  have hi := rv.ints
  obtain ⟨xs, e⟩ := hi.allInts.items
  have hn : numsOf (intItems xs).toList = ns := by rw [← e]; exact hi.numsOf
  rw [nums_intItems] at hn
  subst hn
  rw [e] at hT
  have hsz : 0 < xs.size := by simpa using hne
  have hlt : a < s.heap.objs.size := by obtain ⟨_, z, _⟩ := hT; exact Heap.lt_size z
  refine PySem.call_max_walk (PyProof.Rows.iter_tuple hT ?_)
  refine ⟨_, _, _, _, _, _, _, rfl, Walks.tuple (A := X.A.in1) (I.ok.hd hc) s.heap.objs.size a (Nat.ne_of_lt hlt) (intItems xs), ⟨⟨_, Heap.get?_push_size _ rfl, rfl, rfl⟩, ?_⟩, ?_, by simpa [intItems] using hsz, CmpOf.ints_gt (numAt xs) (fun _ _ => intItems_at), fun v h' tk hP hk => ?_⟩
  · obtain ⟨o, z, z2⟩ := hT
    exact ⟨o, Heap.get?_push_of_some _ z, z2⟩
  · intro b hb
    show b < (s.heap.push _).objs.size
    rw [Heap.size_push]
    rcases List.mem_cons.mp hb with rfl | hb
    · exact Nat.lt_succ_self _
    · rcases List.mem_cons.mp hb with rfl | hb
      · exact Nat.lt_succ_of_lt hlt
      · cases hb
  · obtain ⟨t, rfl⟩ := intItems_at (by simpa [intItems] using hP)
    obtain ⟨h1, h2⟩ := argBest_gt (numAt xs) (xs.size - 1)
    simp only [gt_iff_lt] at h1 h2
    have kp : ∀ b o, s.heap.get? b = some o → h'.get? b = some o := fun b o z => by
      refine hk b o (fun hm => ?_) (Heap.get?_push_of_some _ z)
      rcases List.mem_cons.mp hm with e1 | hm
      · exact absurd (e1 ▸ Heap.lt_size z) (Nat.lt_irrefl _)
      · cases hm
    refine ⟨.int _, H, I.kept kp, ⟨_, rfl⟩, q _ ?_ fun y hy => ?_⟩
    · rw [numAt_eq]
      exact PySem.getD_mem (by rw [List.length_map, Array.length_toList]; omega)
    · obtain ⟨j, hj, rfl⟩ := mem_getD hy
      rw [List.length_map, Array.length_toList] at hj
      rw [← numAt_eq]
      exact h2 j (by omega)
end
end B
namespace B
open PySem PySem.Spec PyProof.Rows L2
/-! ### rules of tuples that say no more than is wanted -/
theorem OpR.weak {X : Cx} {f : Value → Value → Sem Value} {r r' : R2} (o : OpR X f r) (h : ∀ x y H Q, r' x y H Q → r x y H Q) : OpR X f r' := fun pins s σ H x y v u Q I rx ry q => o pins s σ H x y v u Q I rx ry (h x y H Q q)
theorem SlR.weak {X : Cx} {r r' : V → Option Int → Option Int → Hp → VK → Prop} (o : SlR X r) (h : ∀ x lo hi H Q, r' x lo hi H Q → r x lo hi H Q) : SlR X r' := by
  intro pins s σ H x v vl vu lo hi sl Q I rx hs pl pu q
  exact o pins s σ H x v vl vu lo hi sl Q I rx hs pl pu (h x lo hi H Q q)
def rCatS (K : PySem.W.Frag) : R2 := fun x y H Q => ∃ a b xs ys, x = .ref a ∧ y = .ref b ∧ SqT K H a xs ∧ SqT K H b ys ∧ xs.length + ys.length ≤ 100000 ∧ ∀ p H', SqT K H' p (xs ++ ys) → Same H H' → Q (.ref p) H'
theorem op_catS {X : Cx} : OpR X (binaryOp .Add) (rCatS X.K) := OpR.weak op_catA fun x y H Q h => by
  obtain ⟨a, b, xs, ys, rfl, rfl, ha, hb, hl, q⟩ := h
  refine ⟨a, b, xs, ys, rfl, rfl, ha, hb, Nat.le_trans hl (by decide), fun e => ?_, fun _ e => ?_, fun _ _ p np => ?_⟩
  · subst e
    exact q b H hb (Same.refl H)
  · subst e
    exact q a H (by rw [List.append_nil]; exact ha) (Same.refl H)
  · exact q p _ sqt_upd (same_upd np)
def rSlS (K : PySem.W.Frag) : V → Option Int → Option Int → Hp → VK → Prop := fun x lo hi H Q => ∃ a xs, x = .ref a ∧ SqT K H a xs ∧ ∀ p H', SqT K H' p (cutV xs lo hi) → Same H H' → Q (.ref p) H'
theorem cutV_whole {xs : List V} {lo hi : Option Int} (h : HT.sIx xs.length 0 lo = 0 ∧ HT.sIx xs.length xs.length hi = xs.length) : cutV xs lo hi = xs := by
  unfold cutV
  rw [h.1, h.2, List.drop_zero, Nat.sub_zero, List.take_length]
theorem sl_tupS {X : Cx} : SlR X (rSlS X.K) := SlR.weak sl_tupA fun x lo hi H Q h => by
  obtain ⟨a, xs, rfl, ha, q⟩ := h
  refine ⟨a, xs, rfl, ha, fun e => ?_, fun _ p np => ?_⟩
  · exact q a H (by rw [cutV_whole e]; exact ha) (Same.refl H)
  · exact q p _ sqt_upd (same_upd np)
def rRepS (K : PySem.W.Frag) : R2 := fun x y H Q => ∃ l k xs, x = .ref l ∧ y = .int k ∧ SqT K H l xs ∧ xs ≠ [] ∧ 2 ≤ k ∧ k ≤ 1000 ∧ xs.length ≤ 1000 ∧ ∀ p H', SqT K H' p (List.replicate k.toNat xs).flatten → Same H H' → Q (.ref p) H'
theorem op_repS {X : Cx} : OpR X (binaryOp .Mult) (rRepS X.K) := OpR.weak op_repT fun x y H Q h => by
  obtain ⟨l, k, xs, rfl, rfl, h1, h2, h3, h4, h5, q⟩ := h
  exact ⟨l, k, xs, rfl, rfl, h1, h2, h3, h4, h5, fun p np => q p _ sqt_upd (same_upd np)⟩
theorem tuple_mul1 (l : Addr) (items : Array Value) (n : Nat) (dd : Option Addr) (sl : Array (Option Value)) (u : Tok) :
    Meets (Builtin.«tuple.__mul__» ⟨[.ref l, .int 1 u], []⟩) (fun _ R s => s.heap.get? l = some { cls := .type "tuple", dict := dd, data := .seq items n, slots := sl } ∧ R (.ok (.ret (Value.ref l))) s) :=
  .of_wp fun prog w A R s h => by
    obtain ⟨hp, g, d, tk, os⟩ := s
    obtain ⟨hl, h⟩ := h
    have f1 := AutoSeq1.idx_int
    wp_walk using wpAny_loadPart' hl
    exact ⟨_, rfl, h⟩
theorem tuple_mul0 (l : Addr) (items : Array Value) (n : Nat) (dd : Option Addr) (sl : Array (Option Value)) (x : Int) (u : Tok) (c0 : (decide (x < -(2 ^ 63)) || decide (x ≥ 2 ^ 63)) = false) (c1 : (items.isEmpty || x == 1) = false) (c2 : (decide (x ≤ 0) || items.isEmpty) = true) :
    Meets (Builtin.«tuple.__mul__» ⟨[.ref l, .int x u], []⟩) (fun _ R s => s.heap.get? l = some { cls := .type "tuple", dict := dd, data := .seq items n, slots := sl } ∧
      R (.ok (.ret (Value.ref s.heap.objs.size))) { s with heap := s.heap.push { cls := Value.type "tuple", data := Data.seq #[] }, toks := s.toks }) :=
  .of_wp fun prog w A R s h => by
    obtain ⟨hp, g, d, tk, os⟩ := s
    obtain ⟨hl, h⟩ := h
    have f1 := AutoSeq1.idx_int
    wp_walk using wpAny_loadPart' hl
    repeat (first
      | (refine wpAny_ite_false (decide_eq_false (by rw [c0]; decide)) ?_; wp_walk using wpAny_loadPart' hl)
      | (refine wpAny_ite_false (decide_eq_false (by rw [c1]; decide)) ?_; wp_walk using wpAny_loadPart' hl)
      | (refine wpAny_ite_true (decide_eq_true c2) ?_; wp_walk using wpAny_loadPart' hl))
    exact ⟨_, rfl, h⟩
/-- a tuple so often, also once or not at all -/
def rRepN (K : PySem.W.Frag) : R2 := fun x y H Q => ∃ l k xs, x = .ref l ∧ y = .int k ∧ SqT K H l xs ∧ xs ≠ [] ∧ -1000 ≤ k ∧ k ≤ 1000 ∧ xs.length ≤ 1000 ∧ ∀ p H', SqT K H' p (List.replicate k.toNat xs).flatten → Same H H' → Q (.ref p) H'
theorem op_repN {X : Cx} : OpR X (binaryOp .Mult) (rRepN X.K) := by
  intro pins s σ H x y v u Q I rx ry h
  obtain ⟨l, k, xs, rfl, rfl, hT, hne, h0, h1, hz, q⟩ := h
  by_cases hk : 2 ≤ k
  · exact op_repT pins s σ H _ _ v u Q I rx ry ⟨l, k, xs, rfl, rfl, hT, hne, hk, h1, hz, fun p np => q p _ sqt_upd (same_upd np)⟩
  cases rx
  obtain ⟨t, rfl⟩ := ry
  obtain ⟨its, r, ⟨⟨cls, dd, data, sl⟩, ho, hc, n, hd⟩, hs⟩ := I.tuple hT
  simp only at hc hd
  subst hc hd
  by_cases h1' : k = 1
  · subst h1'
    refine wpAny_binaryOp_repeat_ref (T := "tuple") (U := "int") (by decide) ⟨_, ho, rfl⟩ (fun s' => typeIs_int s' 1 t) noFill_tuple_mul F.fills_int_mul F.slot_int_rmul repeat_tuple F.slot_int_index.lookup
      (call_meets F.slot_int_rmul (typeIs_int s 1 t) F.entry_int_rmul (F.args_int_rmul_2 _ _) (int_rmul_tuple 1 t l its.toArray n dd sl)
        ⟨ho, rfl, ⟨_, ho, rfl⟩, call_meets F.slot_tuple_mul ⟨_, ho, rfl⟩ F.entry_tuple_mul (F.args_tuple_mul_2 _ _) (tuple_mul1 l its.toArray n dd sl t) ⟨ho, ?_⟩⟩)
    exact ⟨.ref l, H, I, rfl, q l H (by show SqT X.K H l (xs ++ []); rw [List.append_nil]; exact hT) (Same.refl H)⟩
  · have hle : its.length = xs.length := r.length.symm
    have hi : its.toArray.isEmpty = false := by
      cases its with
      | nil => exact absurd (List.eq_nil_of_length_eq_zero hle.symm) hne
      | cons a b => rfl
    have c0 : (decide (k < -(2 ^ 63)) || decide (k ≥ 2 ^ 63)) = false := by
      rw [decide_eq_false (by omega), decide_eq_false (by omega)]; rfl
    have c1 : (its.toArray.isEmpty || k == 1) = false := by
      rw [hi, Bool.false_or]
      exact beq_eq_false_iff_ne.mpr h1'
    have c2 : (decide (k ≤ 0) || its.toArray.isEmpty) = true := by
      rw [decide_eq_true (by omega)]; rfl
    refine wpAny_binaryOp_repeat_ref (T := "tuple") (U := "int") (by decide) ⟨_, ho, rfl⟩ (fun s' => typeIs_int s' k t) noFill_tuple_mul F.fills_int_mul F.slot_int_rmul repeat_tuple F.slot_int_index.lookup
      (call_meets F.slot_int_rmul (typeIs_int s k t) F.entry_int_rmul (F.args_int_rmul_2 _ _) (int_rmul_tuple k t l its.toArray n dd sl)
        ⟨ho, rfl, ⟨_, ho, rfl⟩, call_meets F.slot_tuple_mul ⟨_, ho, rfl⟩ F.entry_tuple_mul (F.args_tuple_mul_2 _ _) (tuple_mul0 l its.toArray n dd sl k t c0 c1 c2) ⟨ho, ?_⟩⟩)
    have ek : k.toNat = 0 := by omega
    refine ⟨.ref s.heap.objs.size, _, I.laid (t' := s.toks) (o := .tup []) (fun b ob q => Heap.get?_push_of_some _ q) (Nat.le_refl _) ?_, rfl, q _ _ (by rw [ek]; exact sqt_upd) (same_upd (I.hok.fresh (Nat.le_refl _)))⟩
    exact ⟨Nat.zero_le _, [], .nil, IsTup.new _ _⟩
theorem rep_fold (c : Nat) : ∀ (n : Nat) (l : List Nat), (List.replicate n (#[c] : Array Nat)).foldl (· ++ ·) l.toArray = (l ++ List.replicate n c).toArray
  | 0, l => by
    rw [List.replicate_zero, List.replicate_zero, List.append_nil]
    rfl
  | n + 1, l => by
    rw [List.replicate_succ, List.foldl_cons]
    have e : l.toArray ++ (#[c] : Array Nat) = (l ++ [c]).toArray := by simp
    rw [e, rep_fold c n (l ++ [c]), List.append_assoc, List.replicate_succ]
    rfl
/-- one sign so often -/
theorem op_mulS {X : Cx} : OpR X (binaryOp .Mult) (fun x y H Q => ∃ (c : Nat) (k : Int), x = .str (sg c) ∧ y = .int k ∧ 1 ≤ k ∧ k ≤ 1000 ∧ Q (.str (tx (List.replicate k.toNat c))) H) := by
  intro pins s σ H x y v u Q I rx ry h
  obtain ⟨c, k, rfl, rfl, h1, h2, q⟩ := h
  obtain ⟨t, rfl⟩ := rx
  obtain ⟨t', rfl⟩ := ry
  have l1 : (sg c).length = 1 := rfl
  refine PySem.P.mul_str (by rw [decide_eq_false (by omega), decide_eq_false (by omega)]; rfl) (fun _ _ => ?_) (fun _ _ => ?_) ?_
  · rw [l1]
    intro z
    have h3 : (1 : Int) ≤ (2 ^ 63 - 1) / k := Int.le_ediv_of_mul_le (by omega) (by omega)
    have z : ((1 : Nat) : Int) > (2 ^ 63 - 1) / k := z
    omega
  · rw [l1, Nat.one_mul]
    unfold Builtin.Str.tooLong
    exact decide_eq_false (by rw [sizeLine_eq]; omega)
  · rw [if_neg (by omega)]
    by_cases hk : k = 1
    · subst hk
      rw [if_pos (show (((1 : Int) == 1) || ((sg c).length == 0)) = true from rfl)]
      exact ⟨.str (sg c), H, I, ⟨_, rfl⟩, q⟩
    · rw [if_neg ?_]
      · have e := rep_fold c k.toNat []
        refine ⟨?_, .str (tx (List.replicate k.toNat c)), H, I.tok _, ⟨s.toks, ?_⟩, q⟩
        · show (List.foldl (· ++ ·) #[] (List.replicate k.toNat (#[c] : Array Nat))).size ≤ _
          rw [e, List.size_toArray, List.nil_append, List.length_replicate, sizeLine_eq]
          omega
        · congr 1
          show (⟨List.foldl (· ++ ·) #[] (List.replicate k.toNat (#[c] : Array Nat))⟩ : Str) = ⟨(List.replicate k.toNat c).toArray⟩
          rw [e, List.nil_append]
      · rw [l1]
        have : (k == 1) = false := beq_eq_false_iff_ne.mpr hk
        rw [this]
        decide
theorem cut_last (xs : List V) (h : xs ≠ []) : cutV xs none (some (-1)) = xs.dropLast := by
  have hl : 0 < xs.length := by
    cases xs with
    | nil => exact absurd rfl h
    | cons a b => simp
  unfold cutV
  rw [HT.sIx_none, List.drop_zero, Nat.sub_zero, List.dropLast_eq_take]
  congr 1
  show (if (-1 : Int) < 0 then ((-1 : Int) + (xs.length : Int)).toNat else min (-1 : Int).toNat xs.length) = xs.length - 1
  rw [if_pos (by decide)]
  omega
theorem cut_last2 (xs : List V) : cutV xs none (some (-2)) = xs.take (xs.length - 2) := by
  unfold cutV
  rw [HT.sIx_none, List.drop_zero, Nat.sub_zero]
  congr 1
  show (if (-2 : Int) < 0 then ((-2 : Int) + (xs.length : Int)).toNat else min (-2 : Int).toNat xs.length) = xs.length - 2
  rw [if_pos (by decide)]
  omega
theorem cut_end2 (xs : List V) : cutV xs (some (-2)) none = xs.drop (xs.length - 2) := by
  unfold cutV
  rw [HT.sIx_none]
  have e : HT.sIx xs.length 0 (some (-2)) = xs.length - 2 := by
    show (if (-2 : Int) < 0 then ((-2 : Int) + (xs.length : Int)).toNat else min (-2 : Int).toNat xs.length) = xs.length - 2
    rw [if_pos (by decide)]
    omega
  rw [e, List.take_of_length_le (by rw [List.length_drop]; omega)]
/-! ### words and sayings -/
inductive Wd where
  | lt (c : Nat) | yes | no | nt | an | orr | sm
  deriving DecidableEq
def Wd.s : Wd → Str
  | .lt c => sg c
  | .yes => "yes" | .no => "no" | .nt => "not" | .an => "and" | .orr => "or" | .sm => "same"
def wv (w : Wd) : V := .str w.s
/-- how high the heap is behind the words -/
def ht : Nat → List Wd → Option Nat
  | h, [] => some h
  | h, .lt _ :: r => ht (h + 1) r
  | h, .yes :: r => ht (h + 1) r
  | h, .no :: r => ht (h + 1) r
  | h, .nt :: r => if 1 ≤ h then ht h r else none
  | h, .an :: r => if 2 ≤ h then ht (h - 1) r else none
  | h, .orr :: r => if 2 ≤ h then ht (h - 1) r else none
  | h, .sm :: r => if 2 ≤ h then ht (h - 1) r else none
theorem ht_add : ∀ (ws : List Wd) (h k d : Nat), ht h ws = some k → ht (h + d) ws = some (k + d)
  | [], h, k, d, e => by
    have e : h = k := Option.some.inj e
    subst e
    rfl
  | w :: r, h, k, d, e => by
    cases w with
    | lt c => have := ht_add r (h + 1) k d e; rw [Nat.add_right_comm] at this; exact this
    | yes => have := ht_add r (h + 1) k d e; rw [Nat.add_right_comm] at this; exact this
    | no => have := ht_add r (h + 1) k d e; rw [Nat.add_right_comm] at this; exact this
    | nt =>
      unfold ht at e ⊢
      by_cases h1 : 1 ≤ h
      · rw [if_pos h1] at e
        rw [if_pos (by omega)]
        exact ht_add r h k d e
      · rw [if_neg h1] at e
        cases e
    | an =>
      unfold ht at e ⊢
      by_cases h1 : 2 ≤ h
      · rw [if_pos h1] at e
        rw [if_pos (by omega), show h + d - 1 = h - 1 + d by omega]
        exact ht_add r (h - 1) k d e
      · rw [if_neg h1] at e
        cases e
    | orr =>
      unfold ht at e ⊢
      by_cases h1 : 2 ≤ h
      · rw [if_pos h1] at e
        rw [if_pos (by omega), show h + d - 1 = h - 1 + d by omega]
        exact ht_add r (h - 1) k d e
      · rw [if_neg h1] at e
        cases e
    | sm =>
      unfold ht at e ⊢
      by_cases h1 : 2 ≤ h
      · rw [if_pos h1] at e
        rw [if_pos (by omega), show h + d - 1 = h - 1 + d by omega]
        exact ht_add r (h - 1) k d e
      · rw [if_neg h1] at e
        cases e
theorem ht_app : ∀ (a b : List Wd) (h k : Nat), ht h a = some k → ht h (a ++ b) = ht k b
  | [], b, h, k, e => by
    have e : h = k := Option.some.inj e
    subst e
    rfl
  | w :: r, b, h, k, e => by
    rw [List.cons_append]
    cases w with
    | lt c => exact ht_app r b (h + 1) k e
    | yes => exact ht_app r b (h + 1) k e
    | no => exact ht_app r b (h + 1) k e
    | nt =>
      simp only [ht] at e ⊢
      by_cases h1 : 1 ≤ h
      · rw [if_pos h1] at e ⊢
        exact ht_app r b h k e
      · rw [if_neg h1] at e
        cases e
    | an =>
      simp only [ht] at e ⊢
      by_cases h1 : 2 ≤ h
      · rw [if_pos h1] at e ⊢
        exact ht_app r b (h - 1) k e
      · rw [if_neg h1] at e
        cases e
    | orr =>
      simp only [ht] at e ⊢
      by_cases h1 : 2 ≤ h
      · rw [if_pos h1] at e ⊢
        exact ht_app r b (h - 1) k e
      · rw [if_neg h1] at e
        cases e
    | sm =>
      simp only [ht] at e ⊢
      by_cases h1 : 2 ≤ h
      · rw [if_pos h1] at e ⊢
        exact ht_app r b (h - 1) k e
      · rw [if_neg h1] at e
        cases e
/-- a saying over the letters cs -/
structure Sy (cs : List Nat) (ws : List Wd) : Prop where
  ht : ht 0 ws = some 1
  lt : ∀ c, Wd.lt c ∈ ws → c ∈ cs
theorem Sy.ne {cs : List Nat} {ws : List Wd} (h : Sy cs ws) : ws ≠ [] := by
  intro e
  have := h.ht
  rw [e] at this
  cases this
theorem Sy.not {cs : List Nat} {ws : List Wd} (h : Sy cs ws) : Sy cs (ws ++ [.nt]) := by
  refine ⟨by rw [ht_app _ _ _ _ h.ht]; rfl, fun c hc => ?_⟩
  rcases List.mem_append.mp hc with z | z
  · exact h.lt c z
  · simp at z
theorem Sy.nots {cs : List Nat} {ws : List Wd} (h : Sy cs ws) : ∀ n, Sy cs (ws ++ List.replicate n .nt)
  | 0 => by
    rw [List.replicate_zero, List.append_nil]
    exact h
  | n + 1 => by
    have := (Sy.nots h n).not
    rw [List.append_assoc, ← List.replicate_succ'] at this
    exact this
inductive Jn : Wd → Prop
  | an : Jn .an
  | orr : Jn .orr
  | sm : Jn .sm
theorem Sy.join {cs : List Nat} {a b : List Wd} {w : Wd} (ha : Sy cs a) (hb : Sy cs b) (hw : Jn w) : Sy cs (a ++ b ++ [w]) := by
  refine ⟨?_, fun c hc => ?_⟩
  · rw [List.append_assoc, ht_app _ _ _ _ ha.ht]
    have := ht_add b 0 1 1 hb.ht
    rw [ht_app _ _ _ _ this]
    cases hw <;> rfl
  · rcases List.mem_append.mp hc with z | z
    · rcases List.mem_append.mp z with z | z
      · exact ha.lt c z
      · exact hb.lt c z
    · rw [List.mem_singleton] at z
      subst z
      cases hw
theorem Sy.leaf {cs : List Nat} {c : Nat} (h : c ∈ cs) : Sy cs [.lt c] := ⟨rfl, fun d hd => by
  rw [List.mem_singleton] at hd
  cases hd
  exact h⟩
theorem Sy.yes {cs : List Nat} : Sy cs [.yes] := ⟨rfl, fun d hd => by simp at hd⟩
theorem Sy.no {cs : List Nat} : Sy cs [.no] := ⟨rfl, fun d hd => by simp at hd⟩
/-- what a word makes of the heap, its top ahead -/
def stp (v : Nat → Bool) : List Bool → Wd → List Bool
  | st, .lt c => v c :: st
  | st, .yes => true :: st
  | st, .no => false :: st
  | a :: st, .nt => (!a) :: st
  | b :: a :: st, .an => (a && b) :: st
  | b :: a :: st, .orr => (a || b) :: st
  | b :: a :: st, .sm => (a == b) :: st
  | st, _ => st
def run (v : Nat → Bool) (st : List Bool) (ws : List Wd) : List Bool := ws.foldl (stp v) st
/-- whether a saying holds -/
def sval (v : Nat → Bool) (ws : List Wd) : Bool := (run v [] ws).headD false
/-- one step: the word fits the heap -/
theorem ht_step {st : List Bool} {w : Wd} {r : List Wd} {k : Nat} (v : Nat → Bool) (h : ht st.length (w :: r) = some k) : ht (stp v st w).length r = some k := by
  cases w with
  | lt c => exact h
  | yes => exact h
  | no => exact h
  | nt =>
    unfold ht at h
    match st, h with
    | [], h => cases h
    | a :: st, h => exact h
  | an =>
    unfold ht at h
    match st, h with
    | [], h => cases h
    | [a], h => cases h
    | b :: a :: st, h => exact h
  | orr =>
    unfold ht at h
    match st, h with
    | [], h => cases h
    | [a], h => cases h
    | b :: a :: st, h => exact h
  | sm =>
    unfold ht at h
    match st, h with
    | [], h => cases h
    | [a], h => cases h
    | b :: a :: st, h => exact h
theorem ht_nt {st : List Bool} {r : List Wd} {k : Nat} (h : ht st.length (.nt :: r) = some k) : ∃ a s, st = a :: s := by
  unfold ht at h
  match st, h with
  | [], h => cases h
  | a :: s, _ => exact ⟨a, s, rfl⟩
theorem ht_jn {st : List Bool} {w : Wd} {r : List Wd} {k : Nat} (hw : Jn w) (h : ht st.length (w :: r) = some k) : ∃ b a s, st = b :: a :: s := by
  cases hw <;>
  · unfold ht at h
    match st, h with
    | [], h => cases h
    | [a], h => cases h
    | b :: a :: s, _ => exact ⟨b, a, s, rfl⟩
theorem run_cons (v : Nat → Bool) (st : List Bool) (w : Wd) (r : List Wd) : run v st (w :: r) = run v (stp v st w) r := rfl
/-- words fit a heap: what lies below stays -/
theorem run_frame (v : Nat → Bool) : ∀ (ws : List Wd) (st t : List Bool) (k : Nat), ht st.length ws = some k → run v (st ++ t) ws = run v st ws ++ t
  | [], st, t, k, _ => rfl
  | w :: r, st, t, k, h => by
    rw [run_cons, run_cons]
    have h2 := ht_step v h
    rw [← run_frame v r (stp v st w) t k h2]
    congr 1
    cases w with
    | lt c => rfl
    | yes => rfl
    | no => rfl
    | nt =>
      obtain ⟨a, s, rfl⟩ := ht_nt h
      rfl
    | an =>
      obtain ⟨b, a, s, rfl⟩ := ht_jn .an h
      rfl
    | orr =>
      obtain ⟨b, a, s, rfl⟩ := ht_jn .orr h
      rfl
    | sm =>
      obtain ⟨b, a, s, rfl⟩ := ht_jn .sm h
      rfl
theorem run_len (v : Nat → Bool) : ∀ (ws : List Wd) (st : List Bool) (k : Nat), ht st.length ws = some k → (run v st ws).length = k
  | [], st, k, h => Option.some.inj h
  | w :: r, st, k, h => run_len v r (stp v st w) k (ht_step v h)
theorem run_sy {cs : List Nat} {ws : List Wd} (v : Nat → Bool) (h : Sy cs ws) : run v [] ws = [sval v ws] := by
  have := run_len v ws [] 1 h.ht
  unfold sval
  match run v [] ws, this with
  | [b], _ => rfl
theorem run_app (v : Nat → Bool) (st : List Bool) (a b : List Wd) : run v st (a ++ b) = run v (run v st a) b := List.foldl_append ..
theorem run_on {cs : List Nat} {ws : List Wd} (v : Nat → Bool) (st : List Bool) (h : Sy cs ws) : run v st ws = sval v ws :: st := by
  have := run_frame v ws [] st 1 h.ht
  rw [List.nil_append, run_sy v h] at this
  exact this
theorem sval_not {cs : List Nat} {ws : List Wd} (v : Nat → Bool) (h : Sy cs ws) : sval v (ws ++ [.nt]) = !(sval v ws) := by
  unfold sval
  rw [run_app, run_sy v h]
  rfl
theorem sval_join {cs : List Nat} {a b : List Wd} (v : Nat → Bool) (ha : Sy cs a) (hb : Sy cs b) :
    sval v (a ++ b ++ [.an]) = (sval v a && sval v b) ∧ sval v (a ++ b ++ [.orr]) = (sval v a || sval v b) ∧ sval v (a ++ b ++ [.sm]) = (sval v a == sval v b) := by
  have e : ∀ w, run v [] (a ++ b ++ [w]) = stp v [sval v b, sval v a] w := fun w => by
    rw [run_app, run_app, run_sy v ha, run_on v _ hb]
    rfl
  refine ⟨?_, ?_, ?_⟩
  · show (run v [] (a ++ b ++ [.an])).headD false = _
    rw [e]; rfl
  · show (run v [] (a ++ b ++ [.orr])).headD false = _
    rw [e]; rfl
  · show (run v [] (a ++ b ++ [.sm])).headD false = _
    rw [e]; rfl
/-! ### words as texts -/
theorem sg_ne {c : Nat} {x : Str} (h : x.cps.size ≠ 1) : sg c ≠ x := by
  intro e
  rw [← e] at h
  exact h rfl
theorem V.str_eq {x y : Str} : decide (V.str x = V.str y) = decide (x = y) := by
  by_cases h : x = y
  · rw [decide_eq_true h, decide_eq_true (by rw [h])]
  · rw [decide_eq_false h, decide_eq_false (fun e => h (V.str.inj e))]
def Wd.isLt : Wd → Bool
  | .lt _ => true
  | _ => false
/-- a word is this one, by its text -/
theorem wd_eq (w u : Wd) (hu : u.isLt = false) : decide (wv w = wv u) = decide (w = u) := by
  cases w with
  | lt c =>
    have : sg c ≠ u.s := by
      cases u <;> first | (exact absurd (show true = false from hu) (by decide)) | exact sg_ne (by decide +kernel)
    have e : decide (wv (.lt c) = wv u) = false := decide_eq_false (fun e => this (V.str.inj e))
    rw [e]
    cases u <;> first | (exact absurd (show true = false from hu) (by decide)) | rfl
  | _ => cases u <;> first | (exact absurd (show true = false from hu) (by decide)) | decide +kernel
end B
namespace B
open PySem PySem.Spec PyProof.Rows L2
/-! ### worlds -/
def bc (b : Bool) : Nat := if b then 49 else 48
/-- a world's text -/
def wtx (bs : List Bool) : Str := tx (bs.map bc)
/-- the letter c at the world bs over the letters cs -/
def vl (cs : List Nat) (bs : List Bool) (c : Nat) : Bool := bs.getD (cs.idxOf c) false
theorem idx_first : ∀ {cs : List Nat} {c i : Nat}, cs[i]? = some c → (∀ k, k < i → cs[k]? ≠ some c) → cs.idxOf c = i
  | [], c, i, h, _ => by simp at h
  | a :: r, c, 0, h, _ => by
    have e : a = c := Option.some.inj h
    subst e
    simp
  | a :: r, c, i + 1, h, n => by
    have h0 : a ≠ c := fun e => n 0 (by omega) (by rw [e]; rfl)
    have ih := idx_first (cs := r) (c := c) (i := i) h fun k hk e => n (k + 1) (by omega) e
    rw [List.idxOf_cons, ih]
    have hb : (a == c) = false := beq_eq_false_iff_ne.mpr h0
    rw [hb]
    rfl
theorem letter_at {cs : List Nat} {c : Nat} (h : c ∈ cs) : ∃ i : Nat, cs.idxOf c = i ∧ cs[i]? = some c ∧ Txt.find (tx cs) (sg c) = (i : Int) ∧ Builtin.Str.occurrences (tx cs) (sg c) 0 (tx cs).length 1 = [i] := by
  obtain ⟨i, h1, h2, h3, h4⟩ := find_sign h
  exact ⟨i, idx_first h3 h4, h3, h1, h2⟩
theorem bc_one (b : Bool) : decide (V.str (sg (bc b)) = V.str "1") = b := by
  cases b <;> decide +kernel
theorem bc_int (b : Bool) : PySem.intText? (sg (bc b)) = some (if b then 1 else 0) := by
  cases b <;> decide +kernel
/-- the world with this number over n letters -/
def bitsN : Nat → Nat → List Bool
  | 0, _ => []
  | n + 1, k => decide (k / 2 ^ n % 2 = 1) :: bitsN n k
theorem bitsN_len : ∀ n k, (bitsN n k).length = n
  | 0, _ => rfl
  | n + 1, k => by
    rw [bitsN, List.length_cons, bitsN_len n k]
/-- all worlds over n letters, rising -/
def allW (n : Nat) : List (List Bool) := (List.range (2 ^ n)).map (bitsN n)
theorem allW_len {n : Nat} {bs : List Bool} (h : bs ∈ allW n) : bs.length = n := by
  obtain ⟨k, _, rfl⟩ := List.mem_map.mp h
  exact bitsN_len n k
/-! ### rows of sayings -/
/-- the values are these sayings -/
def Rws (K : PySem.W.Frag) (H : Hp) : List V → List (List Wd) → Prop
  | [], [] => True
  | v :: vs, r :: rs => (∃ a, v = .ref a ∧ SqT K H a (r.map wv)) ∧ Rws K H vs rs
  | _, _ => False
theorem Rws.len {K : PySem.W.Frag} {H : Hp} : ∀ {vs : List V} {rs : List (List Wd)}, Rws K H vs rs → vs.length = rs.length
  | [], [], _ => rfl
  | _ :: vs, _ :: rs, h => by rw [List.length_cons, List.length_cons, Rws.len h.2]
theorem Rws.mono {K : PySem.W.Frag} {H H' : Hp} (k : ∀ a xs, SqT K H a xs → SqT K H' a xs) : ∀ {vs : List V} {rs : List (List Wd)}, Rws K H vs rs → Rws K H' vs rs
  | [], [], _ => trivial
  | _ :: _, _ :: _, h => ⟨by obtain ⟨a, e, q⟩ := h.1; exact ⟨a, e, k _ _ q⟩, Rws.mono k h.2⟩
theorem Rws.get {K : PySem.W.Frag} {H : Hp} : ∀ {vs : List V} {rs : List (List Wd)} {j : Nat} {r : List Wd}, Rws K H vs rs → rs[j]? = some r → ∃ a, vs[j]? = some (.ref a) ∧ SqT K H a (r.map wv)
  | [], [], j, r, _, e => by simp at e
  | v :: vs, q :: rs, 0, r, h, e => by
    obtain ⟨a, rfl, z⟩ := h.1
    have e : q = r := Option.some.inj e
    subst e
    exact ⟨a, rfl, z⟩
  | _ :: vs, _ :: rs, j + 1, r, h, e => Rws.get (vs := vs) (rs := rs) (j := j) h.2 (by simpa using e)
theorem Rws.getV {K : PySem.W.Frag} {H : Hp} : ∀ {vs : List V} {rs : List (List Wd)} {j : Nat} {v : V}, Rws K H vs rs → vs[j]? = some v → ∃ a r, v = .ref a ∧ rs[j]? = some r ∧ SqT K H a (r.map wv)
  | [], [], j, r, _, e => by simp at e
  | v :: vs, q :: rs, 0, r, h, e => by
    obtain ⟨a, e1, z⟩ := h.1
    have e : v = r := Option.some.inj e
    subst e
    exact ⟨a, q, e1, rfl, z⟩
  | _ :: vs, _ :: rs, j + 1, r, h, e => Rws.getV (vs := vs) (rs := rs) (j := j) h.2 (by simpa using e)
theorem Rws.app {K : PySem.W.Frag} {H : Hp} : ∀ {vs us : List V} {rs ss : List (List Wd)}, Rws K H vs rs → Rws K H us ss → Rws K H (vs ++ us) (rs ++ ss)
  | [], _, [], _, _, h => h
  | _ :: _, _, _ :: _, _, h, h2 => ⟨h.1, Rws.app h.2 h2⟩
theorem Rws.one {K : PySem.W.Frag} {H : Hp} {a : Addr} {r : List Wd} (h : SqT K H a (r.map wv)) : Rws K H [.ref a] [r] := ⟨⟨a, rfl, h⟩, trivial⟩
theorem Rws.take {K : PySem.W.Frag} {H : Hp} : ∀ {vs : List V} {rs : List (List Wd)} (n : Nat), Rws K H vs rs → Rws K H (vs.take n) (rs.take n)
  | [], [], n, _ => by rw [List.take_nil, List.take_nil]; trivial
  | _ :: _, _ :: _, 0, _ => trivial
  | _ :: _, _ :: _, n + 1, h => ⟨h.1, Rws.take n h.2⟩
theorem Rws.drop {K : PySem.W.Frag} {H : Hp} : ∀ {vs : List V} {rs : List (List Wd)} (n : Nat), Rws K H vs rs → Rws K H (vs.drop n) (rs.drop n)
  | [], [], n, _ => by rw [List.drop_nil, List.drop_nil]; trivial
  | _ :: _, _ :: _, 0, h => h
  | _ :: _, _ :: _, n + 1, h => Rws.drop n h.2
theorem Rws.set {K : PySem.W.Frag} {H : Hp} {a : Addr} {r : List Wd} (q : SqT K H a (r.map wv)) : ∀ {vs : List V} {rs : List (List Wd)} (n : Nat), Rws K H vs rs → Rws K H (vs.set n (.ref a)) (rs.set n r)
  | [], [], _, _ => trivial
  | _ :: _, _ :: _, 0, h => ⟨⟨a, rfl, q⟩, h.2⟩
  | _ :: _, _ :: _, n + 1, h => ⟨h.1, Rws.set q n h.2⟩
theorem Rws.same {K : PySem.W.Frag} {H H' : Hp} {vs : List V} {rs : List (List Wd)} (h : Rws K H vs rs) (e : Same H H') : Rws K H' vs rs := h.mono fun _ _ q => Same.tup e q
theorem Rws.kp {K : PySem.W.Frag} {H H' : Hp} {d : Dr} {b : Nat} {vs : List V} {rs : List (List Wd)} (h : Rws K H vs rs) (w : Drw H d b) (e : Kp d H H') : Rws K H' vs rs := h.mono fun _ _ q => Kp.tup e w q
/-- changes of one list alone leave tuples as they are -/
theorem tup_upd {K : PySem.W.Frag} {H : Hp} {l a : Addr} {xs ys : List V} {zs : List V} (hl : H l = some (.lst xs)) (h : SqT K H a ys) : SqT K (upd H l (.lst zs)) a ys := by
  rcases h with (h | ⟨o, h⟩) | h
  · exact .inl (.inl (by rw [upd_ne (ne_of h hl (by intro q; cases q))]; exact h))
  · exact .inl (.inr ⟨o, by rw [upd_ne (ne_of h hl (by intro q; cases q))]; exact h⟩)
  · exact .inr h
theorem Drw.mut {H : Hp} {d : Dr} {b : Nat} {p : Addr} {o : HO} (h : Drw H d b) (n1 : p ≠ d.dr) (n2 : p ≠ d.cl) (n3 : p ≠ d.rs) : Drw (L2.upd H p o) d b := by
  obtain ⟨⟨cs, rr, k, h1, h2, h3, h4⟩, ne⟩ := h
  exact ⟨⟨cs, rr, k, by rw [upd_ne n1.symm]; exact h1, by rw [upd_ne n2.symm]; exact h2, by rw [upd_ne n3.symm]; exact h3, h4⟩, ne⟩
theorem Drw.nc {H : Hp} {d : Dr} {b : Nat} {p : Addr} (h : Drw H d b) (n : H p = none) : p ≠ d.cl := by
  obtain ⟨⟨cs, rr, k, h1, h2, h3, h4⟩, ne⟩ := h
  exact (ne_of_none h2 n).symm
theorem in_join (w : Wd) : inV (wv w) [.str "and", .str "or", .str "same"] = decide (w = .an ∨ w = .orr ∨ w = .sm) := by
  cases w with
  | lt c =>
    have h1 : (("and" : Str) == sg c) = false := beq_eq_false_iff_ne.mpr (sg_ne (c := c) (x := "and") (by decide +kernel)).symm
    have h2 : (("or" : Str) == sg c) = false := beq_eq_false_iff_ne.mpr (sg_ne (c := c) (x := "or") (by decide +kernel)).symm
    have h3 : (("same" : Str) == sg c) = false := beq_eq_false_iff_ne.mpr (sg_ne (c := c) (x := "same") (by decide +kernel)).symm
    show ((("and" : Str) == sg c) || ((("or" : Str) == sg c) || ((("same" : Str) == sg c) || false))) = _
    rw [h1, h2, h3]
    rfl
  | _ => decide +kernel
theorem iteW {w u : Wd} {A B : Prop} (hu : u.isLt = false) (h1 : w = u → A) (h2 : w ≠ u → B) : if decide (wv w = wv u) = true then A else B := by
  rw [wd_eq w u hu]
  exact ite2 (fun e => h1 (of_decide_eq_true e)) (fun e => h2 fun z => e (decide_eq_true z))
theorem iteJ {w : Wd} {A B : Prop} (h1 : (w = .an ∨ w = .orr ∨ w = .sm) → A) (h2 : ¬ (w = .an ∨ w = .orr ∨ w = .sm) → B) : if inV (wv w) [.str "and", .str "or", .str "same"] = true then A else B := by
  rw [in_join]
  exact ite2 (fun e => h1 (of_decide_eq_true e)) (fun e => h2 fun z => e (decide_eq_true z))
/-- what a word that wants nothing lays upon the heap -/
def lv (v : Nat → Bool) : Wd → Bool
  | .lt c => v c
  | .yes => true
  | _ => false
inductive Lf (cs : List Nat) : Wd → Prop
  | lt {c : Nat} (h : c ∈ cs) : Lf cs (.lt c)
  | yes : Lf cs .yes
  | no : Lf cs .no
def jv : Wd → Bool → Bool → Bool
  | .an, a, b => a && b
  | .orr, a, b => a || b
  | _, a, b => a == b
theorem last_ix {xs : List V} {y : V} : ixN (xs ++ [y]).length (-1) = some xs.length := by
  unfold ixN
  rw [List.length_append]
  show (if (0 : Int) ≤ -1 then _ else if -((xs.length + 1 : Nat) : Int) ≤ -1 then some (-1 + ((xs.length + 1 : Nat) : Int)).toNat else none) = _
  rw [if_neg (by decide), if_pos (by omega)]
  congr 1
  omega
theorem last_set {xs : List V} {y z : V} : (xs ++ [y]).set xs.length z = xs ++ [z] := by
  rw [List.set_append_right _ _ (Nat.le_refl _), Nat.sub_self]
  rfl
def hp (st : List Bool) : List V := st.reverse.map V.bl
theorem hp_cons (b : Bool) (st : List Bool) : hp (b :: st) = hp st ++ [.bl b] := by
  unfold hp
  rw [List.reverse_cons, List.map_append]
  rfl
def bi (b : Bool) : Int := if b then 1 else 0
def hq (st : List Bool) : List V := st.reverse.map fun b => V.int (bi b)
theorem hq_cons (b : Bool) (st : List Bool) : hq (b :: st) = hq st ++ [.int (bi b)] := by
  unfold hq
  rw [List.reverse_cons, List.map_append]
  rfl
theorem hq_len (st : List Bool) : (hq st).length = st.length := by
  unfold hq
  rw [List.length_map, List.length_reverse]
theorem at_last2 {xs : List V} {y z : V} : atI (xs ++ [y] ++ [z]) (-2) = some y := by
  unfold atI ixN
  rw [List.length_append, List.length_append]
  show (if (0 : Int) ≤ -2 then _ else if -((xs.length + 1 + 1 : Nat) : Int) ≤ -2 then some (-2 + ((xs.length + 1 + 1 : Nat) : Int)).toNat else none).bind _ = _
  rw [if_neg (by decide), if_pos (by omega)]
  have e : (-2 + ((xs.length + 1 + 1 : Nat) : Int)).toNat = xs.length := by omega
  rw [e]
  show (xs ++ [y] ++ [z])[xs.length]? = _
  rw [List.append_assoc, List.getElem?_append_right (Nat.le_refl _), Nat.sub_self]
  rfl
theorem cut2 {xs : List V} {y z : V} : cutV (xs ++ [y] ++ [z]) none (some (-2)) = xs ∧ cutV (xs ++ [y] ++ [z]) (some (-2)) none = [y, z] := by
  rw [cut_last2, cut_end2, List.append_assoc, List.length_append]
  show (xs ++ [y, z]).take (xs.length + 2 - 2) = xs ∧ (xs ++ [y, z]).drop (xs.length + 2 - 2) = [y, z]
  rw [Nat.add_sub_cancel]
  exact ⟨List.take_left, List.drop_left⟩
/-- letters: a rising row of small letters -/
structure Ls (n : Nat) (cs : List Nat) : Prop where
  pos : 1 ≤ cs.length
  most : cs.length ≤ n
  rise : cs.Pairwise (· < ·)
  small : ∀ c ∈ cs, 97 ≤ c ∧ c < 123
theorem eraseIdx_map {α β : Type} (f : α → β) : ∀ (l : List α) (n : Nat), (l.map f).eraseIdx n = (l.eraseIdx n).map f
  | [], _ => rfl
  | _ :: _, 0 => rfl
  | a :: r, n + 1 => by
    rw [List.map_cons, List.eraseIdx_cons_succ, List.eraseIdx_cons_succ, List.map_cons, eraseIdx_map f r n]
theorem perm_erase : ∀ {l : List Nat} {n c : Nat}, l[n]? = some c → ([c] ++ l.eraseIdx n).Perm l
  | [], n, c, h => by simp at h
  | a :: r, 0, c, h => by
    have e : a = c := Option.some.inj h
    subst e
    exact List.Perm.refl _
  | a :: r, n + 1, c, h => by
    have ih := perm_erase (l := r) (n := n) (c := c) (by simpa using h)
    rw [List.eraseIdx_cons_succ]
    exact (List.Perm.swap a c (r.eraseIdx n)).trans (List.Perm.cons a ih)
theorem perm_sg {ys : List Str} {fd : List Nat} (h : ys.Perm (fd.map sg)) : ∃ zs : List Nat, ys = zs.map sg ∧ zs.Perm fd := by
  refine ⟨ys.map fun z => z.cps.toList.headD 0, ?_, ?_⟩
  · rw [List.map_map]
    refine (List.map_id ys).symm.trans (List.map_congr_left fun y hy => ?_)
    obtain ⟨c, _, rfl⟩ := List.mem_map.mp (h.mem_iff.mp hy)
    rfl
  · have := h.map fun z : Str => z.cps.toList.headD 0
    rw [List.map_map] at this
    have e : fd.map ((fun z : Str => z.cps.toList.headD 0) ∘ sg) = fd := by
      refine (List.map_congr_left fun c _ => ?_).trans (List.map_id fd)
      rfl
    rw [e] at this
    exact this
theorem sum_one : ∀ zs : List Nat, (zs.map ((fun x : Str => x.length) ∘ sg)).sum = zs.length
  | [] => rfl
  | z :: r => by
    rw [List.map_cons, List.sum_cons, sum_one r, List.length_cons]
    show 1 + r.length = r.length + 1
    omega
theorem joinL_nil : ∀ l : List (List Nat), TL.joinL [] l = l.flatten
  | [] => rfl
  | [p] => by
    show p = p ++ []
    rw [List.append_nil]
  | p :: q :: r => by
    show p ++ ([] ++ TL.joinL [] (q :: r)) = p ++ (q :: r).flatten
    rw [List.nil_append, joinL_nil]
theorem flat_one : ∀ zs : List Nat, (zs.map fun c => [c]).flatten = zs
  | [] => rfl
  | z :: r => by
    show z :: (r.map fun c => [c]).flatten = z :: r
    rw [flat_one r]
theorem join_sg (zs : List Nat) : Txt.join "" (zs.map sg) = tx zs := by
  rw [TL.join_eq]
  refine TL.ext_tl ?_
  rw [TL.tl_join, List.map_map]
  show TL.joinL [] (zs.map fun c => [c]) = zs
  rw [joinL_nil, flat_one]
theorem ltCps_one (a b : Nat) : ltCps [a] [b] = decide (a < b) := by
  by_cases h : a < b
  · rw [decide_eq_true h]; simp [ltCps, h]
  · rw [decide_eq_false h]; simp [ltCps, h]
theorem rise_from : ∀ (p : Nat) (zs : List Nat), (p :: zs).Nodup → risingS (sg p) (zs.map sg) = true → (p :: zs).Pairwise (· < ·)
  | p, [], _, _ => List.pairwise_singleton _ _
  | p, z :: r, nd, h => by
    have h : (!ltCps [z] [p] && risingS (sg z) (r.map sg)) = true := h
    rw [Bool.and_eq_true] at h
    have nd2 := (List.nodup_cons.mp nd).2
    have ih := rise_from z r nd2 h.2
    have hle : ¬ z < p := by
      have := h.1
      rw [ltCps_one] at this
      simpa using this
    have hne : p ≠ z := fun e => (List.nodup_cons.mp nd).1 (by rw [e]; exact List.mem_cons_self ..)
    refine List.pairwise_cons.mpr ⟨fun x hx => ?_, ih⟩
    rcases List.mem_cons.mp hx with rfl | hx
    · omega
    · have := (List.pairwise_cons.mp ih).1 x hx
      omega
theorem rise_of {zs : List Nat} (nd : zs.Nodup) (h : sortedS (zs.map sg) = true) : zs.Pairwise (· < ·) := by
  cases zs with
  | nil => exact List.Pairwise.nil
  | cons z r => exact rise_from z r nd h
theorem cut_take (xs : List V) (j : Nat) : cutV xs none (some (j : Int)) = xs.take j := by
  unfold cutV
  rw [HT.sIx_none, HT.sIx_nat, List.drop_zero, Nat.sub_zero]
  rcases Nat.le_total j xs.length with h | h
  · rw [Nat.min_eq_left h]
  · rw [Nat.min_eq_right h, List.take_length, List.take_of_length_le h]
theorem cut_drop (xs : List V) (j : Nat) : cutV xs (some (j : Int)) none = xs.drop j := by
  unfold cutV
  rw [HT.sIx_none, HT.sIx_nat]
  rcases Nat.le_total j xs.length with h | h
  · rw [Nat.min_eq_left h, List.take_of_length_le (by rw [List.length_drop]; omega)]
  · rw [Nat.min_eq_right h, List.drop_length, List.take_nil, List.drop_of_length_le h]
theorem split2 {α : Type} {rs : List α} {j : Nat} {a b : α} (h1 : rs[j]? = some a) (h2 : rs[j + 1]? = some b) : rs = rs.take j ++ [a, b] ++ rs.drop (j + 2) := by
  obtain ⟨l1, e1⟩ := List.getElem?_eq_some_iff.mp h1
  obtain ⟨l2, e2⟩ := List.getElem?_eq_some_iff.mp h2
  have d1 : rs.drop j = a :: rs.drop (j + 1) := by rw [List.drop_eq_getElem_cons l1, e1]
  have d2 : rs.drop (j + 1) = b :: rs.drop (j + 2) := by rw [List.drop_eq_getElem_cons l2, e2]
  rw [List.append_assoc]
  show rs = rs.take j ++ (a :: b :: rs.drop (j + 2))
  rw [← d2, ← d1, List.take_append_drop]
/-- how many words there are in all -/
def tot (rs : List (List Wd)) : Nat := (rs.map List.length).sum
theorem tot_app (a b : List (List Wd)) : tot (a ++ b) = tot a + tot b := by
  unfold tot
  rw [List.map_append, List.sum_append]
theorem Kp.free {d : Dr} {H H' : Hp} {b : Nat} {p : Addr} (k : Kp d H H') (w : Drw H' d b) (n : H' p = none) : H p = none := by
  cases e : H p with
  | none => rfl
  | some o =>
    have := k p o e (w.no n).1 (w.no n).2
    rw [n] at this
    cases this
theorem flat_rep {α : Type} (x : α) : ∀ n : Nat, (List.replicate n [x]).flatten = List.replicate n x
  | 0 => rfl
  | n + 1 => by
    rw [List.replicate_succ, List.flatten_cons, flat_rep x n, List.replicate_succ]
    rfl
/-! ### sayings as data -/
def wdat (r : List Wd) : PyData := .tuple (r.map fun w => .str w.s)
theorem wd_ok {cs : List Nat} (hs : ∀ c ∈ cs, c < 123) (w : Wd) (h : ∀ c, w = .lt c → c ∈ cs) : PyData.strOk w.s = true := by
  cases w with
  | lt c =>
    have := hs c (h c rfl)
    show (#[c] : Array Nat).all _ = true
    simp
    omega
  | _ => decide +kernel
theorem wdat_ok {cs : List Nat} (hs : ∀ c ∈ cs, c < 123) : ∀ (r : List Wd), (∀ c, Wd.lt c ∈ r → c ∈ cs) → PyData.canLayAll0 (r.map fun w => .str w.s) = true
  | [], _ => rfl
  | w :: r, h => by
    show (PyData.strOk w.s && PyData.canLayAll0 (r.map fun w => .str w.s)) = true
    rw [wd_ok hs w (fun c e => h c (by rw [e]; exact List.mem_cons_self ..)), wdat_ok hs r fun c hc => h c (List.mem_cons_of_mem _ hc)]
    rfl
theorem wdat_depth : ∀ r : List Wd, PyData.depthAll (r.map fun w => PyData.str w.s) = 0
  | [] => rfl
  | w :: r => by
    show max 0 (PyData.depthAll (r.map fun w => PyData.str w.s)) = 0
    rw [wdat_depth r]
    rfl
theorem wdat_shaped {cs : List Nat} (hs : ∀ c ∈ cs, c < 123) {r : List Wd} (h : ∀ c, Wd.lt c ∈ r → c ∈ cs) : SeqAt.shaped (wdat r) = true := by
  unfold SeqAt.shaped
  have e1 : (wdat r).canLay0 = true := wdat_ok hs r h
  have e2 : (wdat r).depth = 1 := by
    show PyData.depthAll (r.map fun w => PyData.str w.s) + 1 = 1
    rw [wdat_depth]
  rw [e1, e2]
  rfl
theorem wdat_eqv {cs : List Nat} (hs : ∀ c ∈ cs, c < 123) {r : List Wd} (h : ∀ c, Wd.lt c ∈ r → c ∈ cs) : PyData.eqv (wdat r) (wdat r) = true := SeqAt.eqv_refl _ (wdat_ok hs r h)
theorem wdp_all {K : PySem.W.Frag} {H : Hp} : ∀ r : List Wd, DpAll K H (r.map wv) (r.map fun w => .str w.s)
  | [] => .nil
  | w :: r => .cons (.str w.s) (wdp_all r)
theorem wdp {K : PySem.W.Frag} {H : Hp} {a : Addr} {r : List Wd} (h : SqT K H a (r.map wv)) : Dp K H (.ref a) (wdat r) := .tup h (wdp_all r)
theorem Rws.dp {K : PySem.W.Frag} {H : Hp} : ∀ {vs : List V} {rs : List (List Wd)}, Rws K H vs rs → DpAll K H vs (rs.map wdat)
  | [], [], _ => .nil
  | _ :: _, _ :: _, h => by
    obtain ⟨a, rfl, q⟩ := h.1
    exact .cons (wdp q) (Rws.dp h.2)
theorem rows_ok {cs : List Nat} (hs : ∀ c ∈ cs, c < 123) : ∀ (rs : List (List Wd)), (∀ r ∈ rs, ∀ c, Wd.lt c ∈ r → c ∈ cs) → PyData.canLayAll0 (rs.map wdat) = true ∧ PyData.depthAll (rs.map wdat) ≤ 1
  | [], _ => ⟨rfl, by decide⟩
  | r :: rs, h => by
    have ih := rows_ok hs rs fun x hx => h x (List.mem_cons_of_mem _ hx)
    have e1 : (wdat r).canLay0 = true := wdat_ok hs r (h r (List.mem_cons_self ..))
    have e2 : (wdat r).depth = 1 := by
      show PyData.depthAll (r.map fun w => PyData.str w.s) + 1 = 1
      rw [wdat_depth]
    refine ⟨?_, ?_⟩
    · show ((wdat r).canLay0 && PyData.canLayAll0 (rs.map wdat)) = true
      rw [e1, ih.1]
      rfl
    · show max (wdat r).depth (PyData.depthAll (rs.map wdat)) ≤ 1
      rw [e2]
      omega
theorem rows_shaped {cs : List Nat} (hs : ∀ c ∈ cs, c < 123) {rs : List (List Wd)} (h : ∀ r ∈ rs, ∀ c, Wd.lt c ∈ r → c ∈ cs) : SeqAt.shaped (.list (rs.map wdat)) = true := by
  obtain ⟨a, b⟩ := rows_ok hs rs h
  unfold SeqAt.shaped
  have e1 : (PyData.list (rs.map wdat)).canLay0 = true := a
  have e2 : (PyData.list (rs.map wdat)).depth ≤ 64 := by
    show PyData.depthAll (rs.map wdat) + 1 ≤ 64
    omega
  rw [e1, decide_eq_true e2]
  rfl
theorem eqv_nil (ds : List PyData) : PyData.eqv (.list ds) (.list []) = ds.isEmpty := by
  cases ds <;> rfl
theorem pow_at {n : Nat} (h : n ≤ 6) : atI [V.int 1, V.int 2, V.int 4, V.int 8, V.int 16, V.int 32, V.int 64] (n : Int) = some (.int ((2 ^ n : Nat) : Int)) := by
  have : n = 0 ∨ n = 1 ∨ n = 2 ∨ n = 3 ∨ n = 4 ∨ n = 5 ∨ n = 6 := by omega
  rcases this with rfl | rfl | rfl | rfl | rfl | rfl | rfl <;> rfl
theorem tx_app (a b : List Nat) : tx a ++ tx b = tx (a ++ b) := TL.ext_tl (by rw [TL.tl_append]; rfl)
theorem digit_cons (k : Nat) (bs : List Bool) : (Str.ofString (toString ((k : Int) % 2)) : Str) ++ wtx bs = wtx (decide (k % 2 = 1) :: bs) := by
  have h : k % 2 = 0 ∨ k % 2 = 1 := by omega
  have e : ((k : Int) % 2) = ((k % 2 : Nat) : Int) := rfl
  rw [e]
  rcases h with h | h
  · rw [h]
    show (Str.ofString (toString ((0 : Nat) : Int)) : Str) ++ tx (bs.map bc) = tx (48 :: bs.map bc)
    rw [show (Str.ofString (toString ((0 : Nat) : Int)) : Str) = tx [48] by decide +kernel, tx_app]
    rfl
  · rw [h]
    show (Str.ofString (toString ((1 : Nat) : Int)) : Str) ++ tx (bs.map bc) = tx (49 :: bs.map bc)
    rw [show (Str.ofString (toString ((1 : Nat) : Int)) : Str) = tx [49] by decide +kernel, tx_app]
    rfl
theorem digit_len (k : Nat) : (Str.ofString (toString ((k : Int) % 2)) : Str).length = 1 := by
  have h : k % 2 = 0 ∨ k % 2 = 1 := by omega
  have e : ((k : Int) % 2) = ((k % 2 : Nat) : Int) := rfl
  rw [e]
  rcases h with h | h <;> rw [h] <;> decide +kernel
theorem take_filter {α : Type} (P : α → Bool) (l : List α) (i : Nat) (x : α) (h : l[i]? = some x) : (l.take (i + 1)).filter P = (l.take i).filter P ++ (if P x then [x] else []) := by
  rw [List.take_add_one, h, List.filter_append]
  congr 1
  show (List.filter P [x]) = _
  cases e : P x <;> simp [e]
theorem allW_get {n i : Nat} (h : i < 2 ^ n) : (allW n)[i]? = some (bitsN n i) := by
  unfold allW
  rw [List.getElem?_map, List.getElem?_range h]
  rfl
theorem allW_length (n : Nat) : (allW n).length = 2 ^ n := by
  unfold allW
  rw [List.length_map, List.length_range]
/-- the worlds at which all rules hold -/
def wor (cs : List Nat) (rs : List (List Wd)) : List (List Bool) := (allW cs.length).filter fun bs => rs.all fun r => sval (vl cs bs) r
def wvs (l : List (List Bool)) : List V := l.map fun bs => V.str (wtx bs)
theorem all_take {α : Type} (P : α → Bool) (l : List α) (i : Nat) (x : α) (h : l[i]? = some x) : (l.take (i + 1)).all P = ((l.take i).all P && P x) := by
  rw [List.take_add_one, h, List.all_append]
  show (_ && (P x && true)) = _
  rw [Bool.and_true]
end B
namespace B
open PySem PySem.Spec PyProof.Rows L2
/-! ### worlds one letter after another -/
def two (w : List Bool) : List (List Bool) := [w ++ [false], w ++ [true]]
theorem bits_snoc : ∀ (n k : Nat) (b : Bool), bitsN (n + 1) (2 * k + (if b then 1 else 0)) = bitsN n k ++ [b]
  | 0, k, b => by
    show [decide ((2 * k + (if b then 1 else 0)) / 2 ^ 0 % 2 = 1)] = [b]
    cases b <;> simp <;> omega
  | n + 1, k, b => by
    have ih := bits_snoc n k b
    have e : (2 * k + (if b then 1 else 0)) / 2 ^ (n + 1) = k / 2 ^ n := by
      rw [Nat.pow_succ', ← Nat.div_div_eq_div_mul]
      congr 1
      cases b <;> simp <;> omega
    show decide ((2 * k + (if b then 1 else 0)) / 2 ^ (n + 1) % 2 = 1) :: bitsN (n + 1) (2 * k + (if b then 1 else 0)) = decide (k / 2 ^ n % 2 = 1) :: bitsN n k ++ [b]
    rw [e, ih]
    rfl
theorem range_two : ∀ m : Nat, List.range (2 * m) = (List.range m).flatMap fun k => [2 * k, 2 * k + 1]
  | 0 => rfl
  | m + 1 => by
    rw [show 2 * (m + 1) = 2 * m + 1 + 1 by omega, List.range_succ, List.range_succ, range_two m, List.range_succ, List.flatMap_append]
    simp
theorem allW_succ (n : Nat) : allW (n + 1) = (allW n).flatMap two := by
  unfold allW
  rw [Nat.pow_succ', range_two, List.map_flatMap, List.flatMap_map]
  congr 1
  funext k
  show [bitsN (n + 1) (2 * k), bitsN (n + 1) (2 * k + 1)] = two (bitsN n k)
  have a := bits_snoc n k false
  have b := bits_snoc n k true
  simp only [Bool.false_eq_true, if_false, if_true, Nat.add_zero] at a b
  rw [a, b]
  rfl
theorem allW_zero : allW 0 = [[]] := rfl
theorem wtx_snoc (w : List Bool) (b : Bool) : wtx w ++ sg (bc b) = wtx (w ++ [b]) := by
  unfold wtx
  rw [sg_tx, tx_app, List.map_append]
  rfl
/-! ### houses -/
/-- a house stands at p: letters cs, rules rs -/
structure HsAt (K : PySem.W.Frag) (H : Hp) (p : Addr) (cs : List Nat) (rs : List (List Wd)) : Prop where
  ex : ∃ (ra : Addr) (rvs : List V), SqT K H p [.str (tx cs), .ref ra] ∧ SqT K H ra rvs ∧ Rws K H rvs rs
theorem HsAt.mono {K : PySem.W.Frag} {H H' : Hp} {p : Addr} {cs : List Nat} {rs : List (List Wd)} (k : ∀ a xs, SqT K H a xs → SqT K H' a xs) (h : HsAt K H p cs rs) : HsAt K H' p cs rs := by
  obtain ⟨ra, rvs, a, b, c⟩ := h
  exact ⟨ra, rvs, k _ _ a, k _ _ b, c.mono k⟩
theorem HsAt.same {K : PySem.W.Frag} {H H' : Hp} {p : Addr} {cs : List Nat} {rs : List (List Wd)} (h : HsAt K H p cs rs) (e : Same H H') : HsAt K H' p cs rs := h.mono fun _ _ q => Same.tup e q
/-- what holds of letters and rules of a house -/
structure HsOk (cs : List Nat) (rs : List (List Wd)) : Prop where
  c6 : cs.length ≤ 6
  sm : ∀ c ∈ cs, c < 123
  sy : ∀ r ∈ rs, Sy cs r ∧ r.length ≤ 40
  few : rs.length ≤ 20
theorem wor_len {cs : List Nat} {rs : List (List Wd)} {bs : List Bool} (h : bs ∈ wor cs rs) : bs.length = cs.length := allW_len (List.mem_filter.mp h).1
theorem wor_le {cs : List Nat} {rs : List (List Wd)} (h : cs.length ≤ 6) : (wor cs rs).length ≤ 64 := by
  unfold wor
  refine Nat.le_trans (List.length_filter_le _ _) ?_
  rw [allW_length]
  exact Nat.le_trans (Nat.pow_le_pow_right (by decide) h) (by decide)
theorem map_take_one {α β : Type} (f : α → β) (l : List α) (i : Nat) (x : α) (h : l[i]? = some x) : (l.take (i + 1)).map f = (l.take i).map f ++ [f x] := by
  rw [List.take_add_one, h, List.map_append]
  rfl
theorem any_id (l : List Bool) : l.any id = l.any fun b => b := rfl
theorem all_map_id {α : Type} (f : α → Bool) (l : List α) : (l.map f).all id = l.all f := by
  rw [List.all_map]
  rfl
theorem any_map_id {α : Type} (f : α → Bool) (l : List α) : (l.map f).any id = l.any f := by
  rw [List.any_map]
  rfl
/-! ### worlds as data -/
def wsdat (l : List (List Bool)) : PyData := .tuple (l.map fun bs => .str (wtx bs))
theorem wtx_ok (bs : List Bool) : PyData.strOk (wtx bs) = true := by
  show (bs.map bc).toArray.all _ = true
  rw [List.all_toArray, List.all_map, List.all_eq_true]
  intro b _
  cases b <;> decide
theorem wsdat_ok : ∀ l : List (List Bool), PyData.canLayAll0 (l.map fun bs => .str (wtx bs)) = true ∧ PyData.depthAll (l.map fun bs => PyData.str (wtx bs)) = 0
  | [] => ⟨rfl, rfl⟩
  | b :: l => by
    obtain ⟨h1, h2⟩ := wsdat_ok l
    refine ⟨?_, ?_⟩
    · show (PyData.strOk (wtx b) && PyData.canLayAll0 (l.map fun bs => .str (wtx bs))) = true
      rw [wtx_ok, h1]
      rfl
    · show max 0 (PyData.depthAll (l.map fun bs => PyData.str (wtx bs))) = 0
      rw [h2]
      rfl
theorem wsdat_shaped (l : List (List Bool)) : SeqAt.shaped (wsdat l) = true := by
  obtain ⟨h1, h2⟩ := wsdat_ok l
  unfold SeqAt.shaped
  have e1 : (wsdat l).canLay0 = true := h1
  have e2 : (wsdat l).depth = 1 := by
    show PyData.depthAll (l.map fun bs => PyData.str (wtx bs)) + 1 = 1
    rw [h2]
  rw [e1, e2]
  rfl
theorem wsdp_all {K : PySem.W.Frag} {H : Hp} : ∀ l : List (List Bool), DpAll K H (wvs l) (l.map fun bs => .str (wtx bs))
  | [] => .nil
  | b :: l => .cons (.str (wtx b)) (wsdp_all l)
theorem wsdp {K : PySem.W.Frag} {H : Hp} {a : Addr} {l : List (List Bool)} (h : SqT K H a (wvs l)) : Dp K H (.ref a) (wsdat l) := .tup h (wsdp_all l)
theorem eqv_nilT (ds : List PyData) : PyData.eqv (.tuple ds) (.tuple []) = ds.isEmpty := by
  cases ds <;> rfl
theorem ws_empty (l : List (List Bool)) : PyData.eqv (wsdat l) (.tuple []) = l.isEmpty := by
  unfold wsdat
  rw [eqv_nilT, List.isEmpty_map]
/-! ### houses as data -/
def hdat (cs : List Nat) (rs : List (List Wd)) : PyData := .tuple [.str (tx cs), .tuple (rs.map wdat)]
theorem tx_ok {cs : List Nat} (h : ∀ c ∈ cs, c < 123) : PyData.strOk (tx cs) = true := by
  show cs.toArray.all _ = true
  rw [List.all_toArray, List.all_eq_true]
  intro c hc
  exact decide_eq_true (Nat.lt_of_lt_of_le (h c hc) (by decide))
theorem hdat_ok {cs : List Nat} {rs : List (List Wd)} (h : HsOk cs rs) : (hdat cs rs).canLay0 = true ∧ (hdat cs rs).depth ≤ 3 := by
  obtain ⟨a, b⟩ := rows_ok h.sm rs fun r hr => (h.sy r hr).1.lt
  refine ⟨?_, ?_⟩
  · show (PyData.strOk (tx cs) && (PyData.canLayAll0 (rs.map wdat) && true)) = true
    rw [tx_ok h.sm, a]
    rfl
  · show max 0 (max (PyData.depthAll (rs.map wdat) + 1) 0) + 1 ≤ 3
    omega
theorem hdat_shaped {cs : List Nat} {rs : List (List Wd)} (h : HsOk cs rs) : SeqAt.shaped (hdat cs rs) = true := by
  obtain ⟨a, b⟩ := hdat_ok h
  unfold SeqAt.shaped
  rw [a, decide_eq_true (Nat.le_trans b (by decide))]
  rfl
theorem hdat_eqv {cs : List Nat} {rs : List (List Wd)} (h : HsOk cs rs) : PyData.eqv (hdat cs rs) (hdat cs rs) = true := SeqAt.eqv_refl _ (hdat_ok h).1
theorem hdp {K : PySem.W.Frag} {H : Hp} {p : Addr} {cs : List Nat} {rs : List (List Wd)} (h : HsAt K H p cs rs) : Dp K H (.ref p) (hdat cs rs) := by
  obtain ⟨ra, rvs, a, b, c⟩ := h
  exact .tup a (.cons (.str _) (.cons (.tup b c.dp) .nil))
theorem bit_text {z : Int} (h0 : 0 ≤ z) (h1 : z < 2) : ∃ b : Bool, (Str.ofString (toString z) : Str) = sg (bc b) := by
  have : z = 0 ∨ z = 1 := by omega
  rcases this with rfl | rfl
  · exact ⟨false, by decide +kernel⟩
  · exact ⟨true, by decide +kernel⟩
/-- sayings of a row, each right and not too long -/
structure SyAll (cs : List Nat) (us : List (List Wd)) : Prop where
  all : ∀ u ∈ us, Sy cs u ∧ u.length ≤ 40
theorem SyAll.app {cs : List Nat} {a b : List (List Wd)} (x : SyAll cs a) (y : SyAll cs b) : SyAll cs (a ++ b) := ⟨fun u hu => by
  rcases List.mem_append.mp hu with h | h
  · exact x.all u h
  · exact y.all u h⟩
theorem SyAll.nil {cs : List Nat} : SyAll cs [] := ⟨fun u hu => nomatch hu⟩
theorem SyAll.cons {cs : List Nat} {u : List Wd} {b : List (List Wd)} (h : Sy cs u) (hz : u.length ≤ 40) (y : SyAll cs b) : SyAll cs (u :: b) := ⟨fun x hx => by
  rcases List.mem_cons.mp hx with e | e
  · rw [e]
    exact ⟨h, hz⟩
  · exact y.all x e⟩
theorem Rws.nil {K : PySem.W.Frag} {H : Hp} : Rws K H [] [] := trivial
theorem Rws.cons {K : PySem.W.Frag} {H : Hp} {a : Addr} {r : List Wd} {vs : List V} {rs : List (List Wd)} (h : SqT K H a (r.map wv)) (t : Rws K H vs rs) : Rws K H (.ref a :: vs) (r :: rs) := ⟨⟨a, rfl, h⟩, t⟩
/-! ### letters set -/
def bw (b : Bool) : Wd := if b then .yes else .no
def setW (c : Nat) (b : Bool) (ws : List Wd) : List Wd := ws.map fun w => if w = .lt c then bw b else w
theorem sg_eq (w : Wd) (c : Nat) : decide (wv w = V.str (sg c)) = decide (w = .lt c) := by
  have ne : w.isLt = false → decide (wv w = V.str (sg c)) = false := fun h => decide_eq_false fun z => by
    have h2 : (w.s).cps.size ≠ 1 := by
      cases w <;> first | (exact absurd (show true = false from h) (by decide)) | decide +kernel
    exact sg_ne h2 (V.str.inj z).symm
  cases w with
  | lt e =>
    by_cases h : e = c
    · subst h
      exact (decide_eq_true (rfl : wv (Wd.lt e) = V.str (sg e))).trans (decide_eq_true (rfl : Wd.lt e = Wd.lt e)).symm
    · rw [decide_eq_false (fun z => h (Wd.lt.inj z)), decide_eq_false]
      intro z
      have := tx_inj (V.str.inj z : tx [e] = tx [c])
      exact h (by simpa using this)
  | _ =>
    rw [ne rfl]
    rfl
theorem iteG {w : Wd} {c : Nat} {A B : Prop} (h1 : w = .lt c → A) (h2 : w ≠ .lt c → B) : if decide (wv w = V.str (sg c)) = true then A else B := by
  rw [sg_eq]
  exact ite2 (fun e => h1 (of_decide_eq_true e)) (fun e => h2 fun z => e (decide_eq_true z))
/-- a letter's truth changed -/
def vset (v : Nat → Bool) (c : Nat) (b : Bool) : Nat → Bool := fun e => if e = c then b else v e
theorem stp_set (v : Nat → Bool) (c : Nat) (b : Bool) (st : List Bool) (w : Wd) : stp v st (if w = .lt c then bw b else w) = stp (vset v c b) st w := by
  cases w with
  | lt e =>
    by_cases h : e = c
    · rw [if_pos (by rw [h])]
      show stp v st (bw b) = vset v c b e :: st
      unfold vset
      rw [if_pos h]
      cases b <;> rfl
    · rw [if_neg (fun z => h (Wd.lt.inj z))]
      show v e :: st = vset v c b e :: st
      unfold vset
      rw [if_neg h]
  | _ => rw [if_neg (fun z => nomatch z)]; cases st with | nil => rfl | cons x r => cases r <;> rfl
theorem run_set (v : Nat → Bool) (c : Nat) (b : Bool) : ∀ (ws : List Wd) (st : List Bool), run v st (setW c b ws) = run (vset v c b) st ws
  | [], _ => rfl
  | w :: r, st => by
    show run v (stp v st (if w = .lt c then bw b else w)) (setW c b r) = run (vset v c b) (stp (vset v c b) st w) r
    rw [stp_set, run_set v c b r]
theorem sval_set (v : Nat → Bool) (c : Nat) (b : Bool) (ws : List Wd) : sval v (setW c b ws) = sval (vset v c b) ws := by
  unfold sval
  rw [run_set]
theorem ht_set (c : Nat) (b : Bool) : ∀ (ws : List Wd) (h : Nat), ht h (setW c b ws) = ht h ws
  | [], _ => rfl
  | w :: r, h => by
    show ht h ((if w = .lt c then bw b else w) :: setW c b r) = ht h (w :: r)
    cases w with
    | lt e =>
      have : ht h ((if Wd.lt e = .lt c then bw b else Wd.lt e) :: setW c b r) = ht (h + 1) (setW c b r) := by
        split
        · cases b <;> rfl
        · rfl
      rw [this, ht_set c b r]
      rfl
    | _ =>
      simp only [reduceCtorEq, if_false, ht, ht_set c b r]
theorem Sy.set {cs : List Nat} {ws : List Wd} (h : Sy cs ws) (c : Nat) (b : Bool) : Sy cs (setW c b ws) := by
  refine ⟨by rw [ht_set]; exact h.ht, fun e he => ?_⟩
  obtain ⟨w, hw, ew⟩ := List.mem_map.mp he
  by_cases z : w = .lt c
  · rw [if_pos z] at ew
    cases b <;> cases ew
  · rw [if_neg z] at ew
    rw [ew] at hw
    exact h.lt e hw
theorem setW_len (c : Nat) (b : Bool) (ws : List Wd) : (setW c b ws).length = ws.length := List.length_map ..
/-- what a saying says hangs on its letters alone -/
theorem sval_congr {cs : List Nat} {u v : Nat → Bool} (h : ∀ c ∈ cs, u c = v c) : ∀ (ws : List Wd) (st : List Bool), (∀ c, Wd.lt c ∈ ws → c ∈ cs) → run u st ws = run v st ws
  | [], _, _ => rfl
  | w :: r, st, hl => by
    rw [run_cons, run_cons]
    have e : stp u st w = stp v st w := by
      cases w with
      | lt c =>
        show u c :: st = v c :: st
        rw [h c (hl c (List.mem_cons_self ..))]
      | _ => cases st with | nil => rfl | cons x r => cases r <;> rfl
    rw [e]
    exact sval_congr h r _ fun c hc => hl c (List.mem_cons_of_mem _ hc)
theorem sval_eq {cs : List Nat} {u v : Nat → Bool} {ws : List Wd} (h : ∀ c ∈ cs, u c = v c) (hY : Sy cs ws) : sval u ws = sval v ws := by
  unfold sval
  rw [sval_congr h ws [] hY.lt]
theorem vl_set {cs : List Nat} {bs : List Bool} {c : Nat} {b : Bool} (hl : cs.length = bs.length) (hc : c ∈ cs) : ∀ e ∈ cs, vl cs (bs.set (cs.idxOf c) b) e = vset (vl cs bs) c b e := by
  intro e he
  unfold vset
  obtain ⟨i, h1, h2, _, _⟩ := letter_at hc
  obtain ⟨j, g1, g2, _, _⟩ := letter_at he
  have hi : i < bs.length := by rw [← hl]; exact (List.getElem?_eq_some_iff.mp h2).1
  unfold vl
  rw [h1, g1]
  by_cases z : e = c
  · rw [if_pos z]
    subst z
    have : i = j := h1.symm.trans g1
    subst this
    rw [List.getD_eq_getElem?_getD, List.getElem?_set_self hi]
    rfl
  · rw [if_neg z]
    have : i ≠ j := fun q => z (by rw [q, g2] at h2; exact Option.some.inj h2)
    rw [List.getD_eq_getElem?_getD, List.getElem?_set_ne this, List.getD_eq_getElem?_getD]
theorem cutS_take (l : List Nat) (j : Nat) (h : j ≤ l.length) : cutS (tx l) none (some (j : Int)) = tx (l.take j) := by
  unfold cutS
  rw [HT.sIx_none, HT.sIx_nat, List.drop_zero, Nat.sub_zero]
  show tx (l.take (min j l.length)) = _
  rw [Nat.min_eq_left h]
theorem cutS_drop (l : List Nat) (j : Nat) (h : j ≤ l.length) : cutS (tx l) (some (j : Int)) none = tx (l.drop j) := by
  unfold cutS
  rw [HT.sIx_none, HT.sIx_nat]
  show tx ((l.drop (min j l.length)).take (l.length - min j l.length)) = _
  rw [Nat.min_eq_left h, List.take_of_length_le (by rw [List.length_drop]; exact Nat.le_refl _)]
theorem set_split {α : Type} (l : List α) (i : Nat) (x : α) (h : i < l.length) : l.take i ++ [x] ++ l.drop (i + 1) = l.set i x := by
  rw [List.set_eq_take_append_cons_drop, if_pos h, List.append_assoc]
  rfl
/-- the first n letters set as at the world -/
def setAll (cs : List Nat) (bs : List Bool) (ws : List Wd) : Nat → List Wd
  | 0 => ws
  | n + 1 => setW (cs.getD n 0) (bs.getD n false) (setAll cs bs ws n)
theorem setAll_sy {cs : List Nat} {bs : List Bool} {ws : List Wd} (h : Sy cs ws) : ∀ n, Sy cs (setAll cs bs ws n) ∧ (setAll cs bs ws n).length = ws.length
  | 0 => ⟨h, rfl⟩
  | n + 1 => ⟨(setAll_sy h n).1.set _ _, (setW_len _ _ _).trans (setAll_sy h n).2⟩
def ual (cs : List Nat) (bs : List Bool) : (Nat → Bool) → Nat → Nat → Bool
  | v, 0 => v
  | v, n + 1 => ual cs bs (vset v (cs.getD n 0) (bs.getD n false)) n
theorem setAll_val (cs : List Nat) (bs : List Bool) (ws : List Wd) : ∀ (n : Nat) (v : Nat → Bool), sval v (setAll cs bs ws n) = sval (ual cs bs v n) ws
  | 0, _ => rfl
  | n + 1, v => by
    show sval v (setW (cs.getD n 0) (bs.getD n false) (setAll cs bs ws n)) = _
    rw [sval_set, setAll_val cs bs ws n]
    rfl
theorem ual_out (cs : List Nat) (bs : List Bool) {c : Nat} : ∀ (n : Nat) (v : Nat → Bool), (∀ i, i < n → cs.getD i 0 ≠ c) → ual cs bs v n c = v c
  | 0, _, _ => rfl
  | n + 1, v, h => by
    show ual cs bs (vset v (cs.getD n 0) (bs.getD n false)) n c = v c
    rw [ual_out cs bs n _ fun i hi => h i (by omega)]
    unfold vset
    rw [if_neg (fun e => h n (by omega) e.symm)]
theorem ual_in {cs : List Nat} (bs : List Bool) (nd : cs.Nodup) {c i : Nat} (hc : cs[i]? = some c) : ∀ (n : Nat) (v : Nat → Bool), n ≤ cs.length → i < n → ual cs bs v n c = bs.getD i false
  | 0, _, _, h => absurd h (by omega)
  | n + 1, v, hn, h => by
    show ual cs bs (vset v (cs.getD n 0) (bs.getD n false)) n c = _
    have gc : cs.getD i 0 = c := by rw [List.getD_eq_getElem?_getD, hc]; rfl
    by_cases e : i = n
    · subst e
      rw [ual_out cs bs i _ fun j hj z => ?_]
      · unfold vset
        rw [if_pos gc.symm]
      · have hj2 : j < cs.length := by omega
        have gj : cs[j]? = some c := by
          rw [List.getD_eq_getElem?_getD, List.getElem?_eq_getElem hj2] at z
          rw [List.getElem?_eq_getElem hj2]
          exact congrArg some z
        obtain ⟨a1, b1⟩ := List.getElem?_eq_some_iff.mp gj
        obtain ⟨a2, b2⟩ := List.getElem?_eq_some_iff.mp hc
        have := (List.getElem_inj nd).mp (b1.trans b2.symm)
        omega
    · exact ual_in bs nd hc n _ (by omega) (by omega)
theorem all_set_val {cs : List Nat} {bs : List Bool} {ws : List Wd} (nd : cs.Nodup) (hY : Sy cs ws) (v : Nat → Bool) : sval v (setAll cs bs ws cs.length) = sval (vl cs bs) ws := by
  rw [setAll_val]
  refine sval_eq (fun c hc => ?_) hY
  obtain ⟨i, h1, h2, _, _⟩ := letter_at hc
  rw [ual_in bs nd h2 cs.length v (Nat.le_refl _) (List.getElem?_eq_some_iff.mp h2).1]
  unfold vl
  rw [h1]
theorem rise_nodup {cs : List Nat} (h : cs.Pairwise (· < ·)) : cs.Nodup := h.imp fun {a b} h => Nat.ne_of_lt h
end B
namespace B
open PySem PySem.Spec PyProof.Rows L2
/-! ### sorted texts of a tuple -/
section
variable {prog : Program} {w : World} {A : Around} {E : Value → Shared → Prop} {s : Shared}
theorem collect_tup {l : Addr} {vs : List Value} {Q : List Value → Shared → Prop} (hT : IsTup s.heap l vs.toArray)
    (q : Q vs { s with heap := (s.heap.push (seqObj "list" #[] 0)).update s.heap.objs.size (Obj.mapSeq (· ++ vs.toArray)) }) (hz : vs.length ≤ sizeLine) : wpAny (model prog w) A (collect (.ref l)) Q E s := by
  obtain ⟨ob, g0, g1, n, g2⟩ := id hT
  unfold collect
  refine wpAny_bind (wpAny_runValue (codeAny_builtin entry_proto_collect' ?_))
  refine wpAny_bind (wpAny_newList (wpAny_pure ⟨Code.quiet_builtin _ (by decide +kernel), codeAny_builtin entry_list_iadd' ?_⟩))
  show wpAny _ _ (Builtin.List.listExtendWith (.ref s.heap.objs.size) (.ref l) (.ref s.heap.objs.size)) _ _ { s with heap := s.heap.push (seqObj "list" #[] 0) }
  unfold Builtin.List.listExtendWith
  have g0' : (s.heap.push (seqObj "list" #[] 0)).get? l = some ob := Heap.get?_push_of_some _ g0
  refine wpAny_bind (wpAny_typeOf (T := "tuple") ⟨ob, g0', g1⟩ ?_)
  have tt : (Value.type "tuple" == Value.type "tuple") = true := by rfl
  rw [if_pos (by rw [tt]; simp)]
  refine wpAny_bind (listItems_at g0' g2 ?_)
  refine wpAny_bind (listItems_at (xs := #[]) (n := 0) (Heap.get?_push_size _ rfl) rfl ?_)
  rw [if_neg (by simp)]
  refine wpAny_bind (listUpdate_at (xs := #[]) (n := 0) (Heap.get?_push_size _ rfl) rfl ?_ (Nat.zero_le _) (by show (#[] ++ vs.toArray).size ≤ sizeLine + 1; simp only [Array.size_append, List.size_toArray, List.length_nil]; omega))
  refine wpAny_pure ?_
  refine wpAny_bind (wpAny_load (get?_update_seq (Heap.get?_push_size _ rfl) _) ?_)
  show wpAny _ _ (pure ((#[] : Array Value) ++ vs.toArray).toList) Q E _
  rw [show ((#[] : Array Value) ++ vs.toArray).toList = vs by simp]
  exact wpAny_pure q
/-- sorted(a tuple) -/
theorem sorted_ordT {l : Addr} {vs : List Value} {ltv : Value → Value → Bool} {Q : Value → Shared → Prop} (O : SrtO.Swo ltv) (hT : IsTup s.heap l vs.toArray) (hz : vs.length ≤ sizeLine)
    (hS : 2 ≤ vs.length → ∀ (h₁ : Heap) (a : Addr), h₁.get? a = some (seqObj "list" vs.toArray 0) → (∀ b o, s.heap.get? b = some o → b ≠ a ∧ h₁.get? b = some o) → SrtO.SortableO prog w A.in1.in1 { s with heap := h₁ } a vs ltv)
    (h : ∀ out : List Value, SrtO.Srtd ltv out → SrtO.Stb ltv out vs → Q (.ref (s.heap.objs.size + 1)) { s with heap := sortedAll s.heap vs out.toArray }) :
    wpAny (model prog w) A (call (.builtin "sorted") [.ref l]) Q E s := by
  refine Calls.call_function_entry kind_sorted plain_sorted entry_sorted (args_sorted1 _) ?_
  unfold Builtin.«sorted»
  refine wpAny_bind (m := checkCount "sorted" 1 1 _) (wpAny_pure ?_)
  refine wpAny_bind (collect_tup hT ?_ hz)
  refine wpAny_bind (wpAny_newList ?_ hz)
  have es : ((s.heap.push (seqObj "list" #[] 0)).update s.heap.objs.size (Obj.mapSeq (· ++ vs.toArray))).objs.size = s.heap.objs.size + 1 := by
    rw [Heap.size_update, size_push']
  have eo : (((s.heap.push (seqObj "list" #[] 0)).update s.heap.objs.size (Obj.mapSeq (· ++ vs.toArray))).push (seqObj "list" vs.toArray 0)).get? (s.heap.objs.size + 1) = some (seqObj "list" vs.toArray 0) := by
    rw [← es]; exact Heap.get?_push_size _ rfl
  have ek : ∀ b o, s.heap.get? b = some o → b ≠ s.heap.objs.size + 1 ∧ (((s.heap.push (seqObj "list" #[] 0)).update s.heap.objs.size (Obj.mapSeq (· ++ vs.toArray))).push (seqObj "list" vs.toArray 0)).get? b = some o := fun b o q => by
    have lt : b < s.heap.objs.size := Heap.lt_size q
    refine ⟨Nat.ne_of_lt (Nat.lt_succ_of_lt lt), Heap.get?_push_of_some _ ?_⟩
    rw [Heap.get?_update_ne _ _ _ _ (Nat.ne_of_lt lt)]
    exact Heap.get?_push_of_some _ q
  show wpAny _ _ _ _ _ { s with heap := ((s.heap.push (seqObj "list" #[] 0)).update s.heap.objs.size (Obj.mapSeq (· ++ vs.toArray))).push (seqObj "list" vs.toArray 0) }
  rw [es]
  refine wpAny_bind (wpAny_holding (wpAny_call_entry slot_list_sort ⟨_, eo, rfl⟩ entry_list_sort (SrtO.list_sort_ord O eo hz (fun h2 => hS h2 _ _ eo ek) fun out hs hb => ⟨_, rfl, ?_⟩) (args_list_sort _)))
  exact wpAny_pure ⟨_, rfl, h out hs hb⟩
/-- texts by their code points -/
def svO : Value → Str
  | .str x _ => x
  | _ => Str.empty
def ltSv (v u : Value) : Bool := decide ((svO v).cps.toList < (svO u).cps.toList)
theorem swo_str : SrtO.Swo ltSv := by
  refine ⟨fun x y h => ?_, fun x y z h1 h2 => ?_⟩
  · exact decide_eq_false (List.lt_asymm (of_decide_eq_true h))
  · have a := of_decide_eq_false h1
    have b := of_decide_eq_false h2
    exact decide_eq_false (List.le_trans (List.not_lt.mp a) (List.not_lt.mp b) |> List.not_lt.mpr)
theorem str_cmp {vs : List Value} {ss : List Str} (hS : StrsAre vs ss) : SrtO.Cmp prog w A s oneType' (fun p => p.1 ∈ vs) (SrtO.lt2 ltSv) := by
  intro p q hm hm'
  obtain ⟨a, t, e⟩ := hS.all _ hm
  obtain ⟨b, u, e'⟩ := hS.all _ hm'
  show wpAny (model prog w) A (keyLt' oneType' p.1 q.1) (fun r s' => s' = s ∧ r = ltSv p.1 q.1) (fun _ _ => False) s
  rw [e, e', keyLt'_oneType]
  exact oneLt_str ⟨rfl, rfl⟩
theorem str_sortable {a : Addr} {vs : List Value} {ss : List Str} (hS : StrsAre vs ss) (h2 : 2 ≤ vs.length) : SrtO.SortableO prog w A s a vs ltSv := by
  intro h' _
  refine ⟨oneType', fun Q E hq => ?_, str_cmp hS⟩
  match vs, hS, h2 with
  | v1 :: v2 :: rest, hS, _ =>
    rw [keyKind_strs hS]
    exact wpAny_pure hq
  | [], _, h => exact absurd h (by decide)
  | [v], _, h => exact absurd h (by simp)
theorem vals_strsO : ∀ {out : List Value}, (∀ v ∈ out, ∃ x t, v = Value.str x t) → Vals ((out.map svO).map V.str) out
  | [], _ => .nil
  | v :: r, h => by
    obtain ⟨x, t, rfl⟩ := h v List.mem_cons_self
    exact .cons ⟨t, rfl⟩ (vals_strsO fun u hu => h u (List.mem_cons_of_mem _ hu))
theorem svO_strs : ∀ {vs : List Value} {ss : List Str}, StrsAre vs ss → vs.map svO = ss
  | _, _, .nil => rfl
  | _, _, .cons x t r => congrArg (x :: ·) (svO_strs r)
end
/-- sorted(a tuple of texts), any number of them -/
def rSortedT (K : PySem.W.Frag) : List V → Hp → VK → Prop := fun vs H Q => ∃ (a : Addr) (xs : List Str), vs = [V.ref a] ∧ SqT K H a (xs.map V.str) ∧
  ∀ (ys : List Str) (p : Addr), ys.Perm xs → ys.Pairwise (fun a b => ¬ b.cps.toList < a.cps.toList) → H p = none → Q (.ref p) (upd H p (.lst (ys.map V.str)))
theorem cr_sortedT {X : Cx} : CallR X (.builtin "sorted") (rSortedT X.K) := by
  intro pins s σ H vs us Q I r h
  obtain ⟨a, xs, rfl, hs, q⟩ := h
  obtain ⟨its, rv, hT, hz⟩ := I.tuple hs
  rw [Vals.ref1 r]
  have hS : StrsAre its xs := strs_of_vals rv
  refine sorted_ordT swo_str hT (by rw [← rv.length]; exact hz) (fun h2 h₁ a' _ _ => str_sortable hS h2) fun out h1 h2 => ?_
  have hm : ∀ v ∈ out, ∃ x t, v = Value.str x t := fun v hv => hS.all v (h2.perm.mem_iff.mp hv)
  have hp : (out.map svO).Perm xs := by
    have := h2.perm.map svO
    rw [svO_strs hS] at this
    exact this
  obtain ⟨ep, he⟩ := PyProof.Rows.sortedAll_at s.heap its out.toArray
  have hl : ((out.map svO).map V.str).length ≤ sizeLine := by
    rw [List.length_map, hp.length_eq]
    rw [List.length_map] at hz
    exact hz
  refine ⟨.ref _, upd H (s.heap.objs.size + 1) (.lst ((out.map svO).map V.str)), I.laid (t' := s.toks) (fun _ _ => PyProof.Rows.sortedAll_old) (Nat.le_succ _) ⟨hl, out, ep, vals_strsO hm, he⟩, rfl, q _ _ hp ?_ (I.hok.fresh (Nat.le_succ _))⟩
  exact List.pairwise_map.mpr (h1.imp fun {x y} h => of_decide_eq_false h)
/-- two rows in order, one a rearrangement of the other, the second strictly rising -/
theorem sort_same : ∀ (ys xs : List Str), ys.Perm xs → ys.Pairwise (fun a b => ¬ b.cps.toList < a.cps.toList) → xs.Pairwise (fun a b => a.cps.toList < b.cps.toList) → ys = xs
  | [], xs, h, _, _ => h.nil_eq
  | y :: r, [], h, _, _ => absurd h.length_eq (by simp)
  | y :: r, x :: t, h, hy, hx => by
    have hy' := List.pairwise_cons.mp hy
    have hx' := List.pairwise_cons.mp hx
    have e : y = x := by
      rcases List.mem_cons.mp (h.mem_iff.mp (List.mem_cons_self (a := y) (l := r))) with e | e
      · exact e
      · exfalso
        have l1 := hx'.1 y e
        rcases List.mem_cons.mp (h.mem_iff.mpr (List.mem_cons_self (a := x) (l := t))) with e2 | e2
        · rw [e2] at l1
          exact List.lt_irrefl _ l1
        · exact hy'.1 x e2 l1
    subst e
    rw [sort_same r t (List.perm_cons _ |>.mp h) hy'.2 hx'.2]
/-! ### worlds rise -/
theorem lex_app : ∀ (a b c d : List Nat), a.length = b.length → a < b → a ++ c < b ++ d
  | [], [], _, _, _, h => absurd h (List.lt_irrefl _)
  | [], _ :: _, _, _, hl, _ => absurd hl (by simp)
  | _ :: _, [], _, _, hl, _ => absurd hl (by simp)
  | x :: a, y :: b, c, d, hl, h => by
    rw [List.cons_append, List.cons_append]
    rcases List.cons_lt_cons_iff.mp h with h | ⟨e, h⟩
    · exact List.cons_lt_cons_iff.mpr (.inl h)
    · exact List.cons_lt_cons_iff.mpr (.inr ⟨e, lex_app a b c d (by simpa using hl) h⟩)
theorem lex_last (a : List Nat) (x y : Nat) (h : x < y) : a ++ [x] < a ++ [y] := by
  induction a with
  | nil => exact List.cons_lt_cons_iff.mpr (.inl h)
  | cons z r ih => exact List.cons_lt_cons_iff.mpr (.inr ⟨rfl, ih⟩)
theorem allW_rise : ∀ n, (allW n).Pairwise fun a b => a.map bc < b.map bc
  | 0 => by
    rw [allW_zero]
    exact List.pairwise_singleton _ _
  | n + 1 => by
    rw [allW_succ]
    refine List.pairwise_flatMap.mpr ⟨fun w _ => ?_, ?_⟩
    · show [w ++ [false], w ++ [true]].Pairwise _
      refine List.pairwise_cons.mpr ⟨fun x hx => ?_, List.pairwise_singleton _ _⟩
      rw [List.mem_singleton] at hx
      subst hx
      rw [List.map_append, List.map_append]
      exact lex_last _ _ _ (by decide)
    · have ih := allW_rise n
      have lens : ∀ w ∈ allW n, w.length = n := fun w hw => allW_len hw
      refine List.Pairwise.imp_of_mem (fun {a b} ha hb h x hx y hy => ?_) ih
      have hl : (a.map bc).length = (b.map bc).length := by rw [List.length_map, List.length_map, lens a ha, lens b hb]
      have h1 : ∃ s, x = a ++ [s] := by
        have : x = a ++ [false] ∨ x = a ++ [true] := by simpa [two] using hx
        rcases this with e | e <;> exact ⟨_, e⟩
      have h2 : ∃ s, y = b ++ [s] := by
        have : y = b ++ [false] ∨ y = b ++ [true] := by simpa [two] using hy
        rcases this with e | e <;> exact ⟨_, e⟩
      obtain ⟨s, rfl⟩ := h1
      obtain ⟨t, rfl⟩ := h2
      rw [List.map_append, List.map_append]
      exact lex_app _ _ _ _ hl h
theorem wor_rise (cs : List Nat) (rs : List (List Wd)) : ((wor cs rs).map wtx).Pairwise fun a b => a.cps.toList < b.cps.toList := by
  refine List.pairwise_map.mpr ?_
  exact (List.Pairwise.filter _ (allW_rise cs.length)).imp fun {a b} h => h
/-- texts of worlds in a list, as data -/
def wldat (l : List (List Bool)) : PyData := .list (l.map fun bs => .str (wtx bs))
theorem wldat_shaped (l : List (List Bool)) : SeqAt.shaped (wldat l) = true := by
  obtain ⟨h1, h2⟩ := wsdat_ok l
  unfold SeqAt.shaped
  have e1 : (wldat l).canLay0 = true := h1
  have e2 : (wldat l).depth = 1 := by
    show PyData.depthAll (l.map fun bs => PyData.str (wtx bs)) + 1 = 1
    rw [h2]
  rw [e1, e2]
  rfl
theorem wldp {K : PySem.W.Frag} {H : Hp} {a : Addr} {l : List (List Bool)} (h : SqL K H a (wvs l)) : Dp K H (.ref a) (wldat l) := .lst h (wsdp_all l)
theorem wldat_eqv (l : List (List Bool)) : PyData.eqv (wldat l) (wldat l) = true := SeqAt.eqv_refl _ (wsdat_ok l).1
theorem wsdat_eqv (l : List (List Bool)) : PyData.eqv (wsdat l) (wsdat l) = true := SeqAt.eqv_refl _ (wsdat_ok l).1
end B
namespace B
open PySem PySem.Spec PyProof.Rows L2
/-! ### data that can be shown and held against each other: how deep, how much -/
structure Shw (n m : Nat) (d : PyData) : Prop where
  lay : d.canLay0 = true
  shw : d.showable = true
  dep : d.depth ≤ n
  blk : d.bulk ≤ m
  lvs : d.leavesShort 600 = true
theorem Shw.up {n m n' m' : Nat} {d : PyData} (h : Shw n m d) (a : n ≤ n') (b : m ≤ m') : Shw n' m' d := ⟨h.lay, h.shw, Nat.le_trans h.dep a, Nat.le_trans h.blk b, h.lvs⟩
theorem Shw.none : Shw 0 0 PyData.none := ⟨rfl, rfl, Nat.le_refl _, Nat.le_refl _, rfl⟩
theorem Shw.bool (b : Bool) : Shw 0 0 (.bool b) := ⟨rfl, rfl, Nat.le_refl _, Nat.le_refl _, rfl⟩
theorem log2_lt {i : Int} (h : i.natAbs < 2 ^ 500) : i.natAbs.log2 < 500 := PySem.Flt.log2_lt_of (by decide) h
theorem Shw.int {i : Int} (h : i.natAbs < 2 ^ 500) : Shw 0 0 (.int i) := by
  have l := log2_lt h
  refine ⟨rfl, ?_, Nat.le_refl _, Nat.le_refl _, ?_⟩
  · show decide (i.natAbs.log2 < 1920) = true
    exact decide_eq_true (by omega)
  · show decide ((Str.ofString (toString i)).length ≤ 600) = true
    refine decide_eq_true ?_
    rw [PySem.ofString_length]
    exact Nat.le_trans (int_text_length_le (by decide) l) (by decide)
theorem Shw.str {x : Str} {m : Nat} (h : ∀ c ∈ x.cps.toList, c < 123) (hm : x.cps.size ≤ m) : Shw 0 m (.str x) := by
  refine ⟨?_, rfl, Nat.le_refl _, hm, ?_⟩
  · show x.cps.all _ = true
    rw [← Array.all_toList, List.all_eq_true]
    intro c hc
    exact decide_eq_true (Nat.lt_of_lt_of_le (h c hc) (by decide))
  · show (x.cps.toList.all fun c => decide (c < 16 ^ 8)) = true
    rw [List.all_eq_true]
    intro c hc
    exact decide_eq_true (Nat.lt_of_lt_of_le (h c hc) (by decide))
theorem shw_all {n m : Nat} : ∀ {ds : List PyData}, (∀ d ∈ ds, Shw n m d) → PyData.canLayAll0 ds = true ∧ PyData.showableAll ds = true ∧ PyData.depthAll ds ≤ n ∧ PyData.bulkAll ds ≤ ds.length * (m + 1) ∧ PyData.leavesShortAll 600 ds = true
  | [], _ => ⟨rfl, rfl, Nat.zero_le _, Nat.zero_le _, rfl⟩
  | d :: ds, h => by
    obtain ⟨a, b, c, e, f⟩ := shw_all fun x hx => h x (List.mem_cons_of_mem _ hx)
    have k := h d (List.mem_cons_self ..)
    refine ⟨?_, ?_, ?_, ?_, ?_⟩
    · show (d.canLay0 && PyData.canLayAll0 ds) = true
      rw [k.lay, a]; rfl
    · show (d.showable && PyData.showableAll ds) = true
      rw [k.shw, b]; rfl
    · show max d.depth (PyData.depthAll ds) ≤ n
      exact Nat.max_le.mpr ⟨k.dep, c⟩
    · show d.bulk + 1 + PyData.bulkAll ds ≤ (ds.length + 1) * (m + 1)
      have := k.blk
      rw [Nat.add_mul]
      omega
    · show (d.leavesShort 600 && PyData.leavesShortAll 600 ds) = true
      rw [k.lvs, f]; rfl
theorem Shw.tup {n m k : Nat} {ds : List PyData} (h : ∀ d ∈ ds, Shw n m d) (hk : ds.length ≤ k) : Shw (n + 1) (k * (m + 1)) (.tuple ds) := by
  obtain ⟨a, b, c, e, f⟩ := shw_all h
  exact ⟨a, b, Nat.succ_le_succ c, Nat.le_trans e (Nat.mul_le_mul_right _ hk), f⟩
theorem pair_shw {n m : Nat} {a b : PyData} (h : Shw n m a) (k : Shw n m b) : Shw (n + 1) (2 * (m + 1)) (.tuple [a, b]) := Shw.tup (fun d hd => by
  rcases List.mem_cons.mp hd with rfl | hd
  · exact h
  · rw [List.mem_singleton] at hd
    rw [hd]
    exact k) (Nat.le_refl 2)
theorem triple_shw {n m : Nat} {a b c : PyData} (h : Shw n m a) (k : Shw n m b) (l : Shw n m c) : Shw (n + 1) (3 * (m + 1)) (.tuple [a, b, c]) := Shw.tup (fun d hd => by
  rcases List.mem_cons.mp hd with rfl | hd
  · exact h
  rcases List.mem_cons.mp hd with rfl | hd
  · exact k
  · rw [List.mem_singleton] at hd
    rw [hd]
    exact l) (Nat.le_refl 3)
theorem Shw.lst {n m k : Nat} {ds : List PyData} (h : ∀ d ∈ ds, Shw n m d) (hk : ds.length ≤ k) : Shw (n + 1) (k * (m + 1)) (.list ds) := by
  obtain ⟨a, b, c, e, f⟩ := shw_all h
  exact ⟨a, b, Nat.succ_le_succ c, Nat.le_trans e (Nat.mul_le_mul_right _ hk), f⟩
theorem Shw.shaped {n m : Nat} {d : PyData} (h : Shw n m d) (hn : n ≤ 64) : SeqAt.shaped d = true := by
  unfold SeqAt.shaped
  rw [h.lay, decide_eq_true (Nat.le_trans h.dep hn)]
  rfl
theorem Shw.eqv {n m : Nat} {d : PyData} (h : Shw n m d) : PyData.eqv d d = true := SeqAt.eqv_refl _ h.lay
theorem Shw.nodict {n m : Nat} {d : PyData} (h : Shw n m d) : d.hasDict = false := PyData.hasDict_of_canLay _ h.lay
theorem Shw.len {n m : Nat} {d : PyData} (h : Shw n m d) (hm : m ≤ 27000) : d.shown.length ≤ sizeLine := by
  refine Nat.le_trans (PyData.shown_le_bulk 600 (by decide) d h.lvs) ?_
  have := h.blk
  have e : sizeLine = 16777216 := by decide
  rw [e]
  omega
/-! ### words, sayings, houses as such data -/
theorem wd_signs {cs : List Nat} (hs : ∀ c ∈ cs, c < 123) (w : Wd) (h : ∀ c, w = .lt c → c ∈ cs) : (∀ c ∈ w.s.cps.toList, c < 123) ∧ w.s.cps.size ≤ 4 := by
  cases w with
  | lt c =>
    refine ⟨fun x hx => ?_, by show 1 ≤ 4; decide⟩
    have e : x ∈ [c] := hx
    rw [List.mem_singleton] at e
    rw [e]
    exact hs c (h c rfl)
  | yes => exact ⟨by decide, by decide⟩
  | no => exact ⟨by decide, by decide⟩
  | nt => exact ⟨by decide, by decide⟩
  | an => exact ⟨by decide, by decide⟩
  | orr => exact ⟨by decide, by decide⟩
  | sm => exact ⟨by decide, by decide⟩
theorem wdat_shw {cs : List Nat} (hs : ∀ c ∈ cs, c < 123) {r : List Wd} {k : Nat} (h : ∀ c, Wd.lt c ∈ r → c ∈ cs) (hk : r.length ≤ k) : Shw 1 (k * 5) (wdat r) := by
  refine Shw.tup (fun d hd => ?_) (by rw [List.length_map]; exact hk)
  obtain ⟨w, hw, rfl⟩ := List.mem_map.mp hd
  obtain ⟨a, b⟩ := wd_signs hs w fun c e => h c (by rw [← e]; exact hw)
  exact Shw.str a b
theorem tx_shw {cs : List Nat} (hs : ∀ c ∈ cs, c < 123) {k : Nat} (hk : cs.length ≤ k) : Shw 0 k (.str (tx cs)) := Shw.str hs hk
theorem hdat_shw {cs : List Nat} {rs : List (List Wd)} (h : HsOk cs rs) : Shw 3 8100 (hdat cs rs) := by
  have a : Shw 2 4020 (.tuple (rs.map wdat)) := by
    refine Shw.tup (n := 1) (m := 200) (k := 20) (fun d hd => ?_) (by rw [List.length_map]; exact h.few)
    obtain ⟨r, hr, rfl⟩ := List.mem_map.mp hd
    exact wdat_shw (k := 40) h.sm (h.sy r hr).1.lt (h.sy r hr).2
  exact (pair_shw ((tx_shw h.sm h.c6).up (by decide) (by decide)) a).up (by decide) (by decide)
/-! ### rows of things, one by one -/
inductive F2 {α β : Type} (R : α → β → Prop) : List α → List β → Prop
  | nil : F2 R [] []
  | cons {a : α} {b : β} {as : List α} {bs : List β} : R a b → F2 R as bs → F2 R (a :: as) (b :: bs)
namespace F2
variable {α β : Type} {R S : α → β → Prop}
theorem len {as : List α} {bs : List β} (h : F2 R as bs) : as.length = bs.length := by
  induction h with
  | nil => rfl
  | cons _ _ ih => rw [List.length_cons, List.length_cons, ih]
theorem imp {as : List α} {bs : List β} (h : F2 R as bs) (f : ∀ a b, R a b → S a b) : F2 S as bs := by
  induction h with
  | nil => exact .nil
  | cons x _ ih => exact .cons (f _ _ x) ih
theorem app {as as' : List α} {bs bs' : List β} (h : F2 R as bs) (k : F2 R as' bs') : F2 R (as ++ as') (bs ++ bs') := by
  induction h with
  | nil => exact k
  | cons x _ ih => exact .cons x ih
theorem one {a : α} {b : β} (h : R a b) : F2 R [a] [b] := .cons h .nil
theorem getA {as : List α} {bs : List β} (h : F2 R as bs) : ∀ {j : Nat} {a : α}, as[j]? = some a → ∃ b, bs[j]? = some b ∧ R a b := by
  induction h with
  | nil => intro j a e; simp at e
  | cons x _ ih =>
    intro j a e
    cases j with
    | zero => cases e; exact ⟨_, rfl, x⟩
    | succ j => exact ih e
theorem getB {as : List α} {bs : List β} (h : F2 R as bs) : ∀ {j : Nat} {b : β}, bs[j]? = some b → ∃ a, as[j]? = some a ∧ R a b := by
  induction h with
  | nil => intro j a e; simp at e
  | cons x _ ih =>
    intro j a e
    cases j with
    | zero => cases e; exact ⟨_, rfl, x⟩
    | succ j => exact ih e
theorem map_same {γ : Type} {f : γ → α} {g : γ → β} : ∀ {l : List γ}, (∀ x ∈ l, R (f x) (g x)) → F2 R (l.map f) (l.map g)
  | [], _ => .nil
  | x :: l, h => .cons (h x (List.mem_cons_self ..)) (map_same fun y hy => h y (List.mem_cons_of_mem _ hy))
end F2
theorem take_one {α : Type} (l : List α) (i : Nat) (x : α) (h : l[i]? = some x) : l.take (i + 1) = l.take i ++ [x] := by
  rw [List.take_add_one, h]
  rfl
/-! ### fractions and what bets pay -/
def addF (p q : Int × Nat) : Int × Nat := (addT p.1 p.2 q.1 q.2, addB p.1 p.2 q.1 q.2)
/-- a fraction, its parts below 2 ^ n -/
structure Fok (n : Nat) (p : Int × Nat) : Prop where
  f : IsF p.1 p.2
  z : Fz p.1 p.2 n
theorem Fok.up {n m : Nat} {p : Int × Nat} (h : Fok n p) (e : n ≤ m) : Fok m p := ⟨h.f, h.z.more e⟩
theorem Fok.zero {n : Nat} (h : 1 ≤ n) : Fok n (0, 1) := ⟨⟨by decide, by decide⟩, ⟨Nat.pow_pos (by decide), Nat.lt_of_lt_of_le (by decide : (1 : Nat) < 2 ^ 1) (Nat.pow_le_pow_right (by decide) h)⟩⟩
theorem Fok.add {n m : Nat} {p q : Int × Nat} (a : Fok n p) (b : Fok m q) : Fok (n + m + 1) (addF p q) := ⟨add_isF a.f.pos b.f.pos, add_z a.f.pos b.f.pos a.z b.z⟩
/-- a fraction stands at v -/
def FAt (K : PySem.W.Frag) (H : Hp) (v : V) (p : Int × Nat) : Prop := ∃ a, v = .ref a ∧ SqT K H a [.int p.1, .int p.2]
theorem FAt.mono {K : PySem.W.Frag} {H H' : Hp} {v : V} {p : Int × Nat} (k : ∀ a xs, SqT K H a xs → SqT K H' a xs) (h : FAt K H v p) : FAt K H' v p := by
  obtain ⟨a, e, t⟩ := h
  exact ⟨a, e, k _ _ t⟩
structure Tm where
  a : Int × Nat
  w : List Wd
/-- a term stands at v -/
def TmAt (K : PySem.W.Frag) (H : Hp) (v : V) (x : Tm) : Prop := ∃ p f c : Addr, v = .ref p ∧ SqT K H p [.ref f, .ref c] ∧ SqT K H f [.int x.a.1, .int x.a.2] ∧ SqT K H c (x.w.map wv)
theorem TmAt.mono {K : PySem.W.Frag} {H H' : Hp} {v : V} {x : Tm} (k : ∀ a xs, SqT K H a xs → SqT K H' a xs) (h : TmAt K H v x) : TmAt K H' v x := by
  obtain ⟨p, f, c, e, a, b, d⟩ := h
  exact ⟨p, f, c, e, k _ _ a, k _ _ b, k _ _ d⟩
/-- a bet stands at a: terms, given -/
def BtAt (K : PySem.W.Frag) (H : Hp) (a : Addr) (ts : List Tm) (g : List Wd) : Prop := ∃ (p c : Addr) (vs : List V), SqT K H a [.ref p, .ref c] ∧ SqT K H p vs ∧ F2 (TmAt K H) vs ts ∧ SqT K H c (g.map wv)
theorem BtAt.mono {K : PySem.W.Frag} {H H' : Hp} {a : Addr} {ts : List Tm} {g : List Wd} (k : ∀ a xs, SqT K H a xs → SqT K H' a xs) (h : BtAt K H a ts g) : BtAt K H' a ts g := by
  obtain ⟨p, c, vs, x, y, z, u⟩ := h
  exact ⟨p, c, vs, k _ _ x, k _ _ y, z.imp fun _ _ h => h.mono k, k _ _ u⟩
theorem BtAt.same {K : PySem.W.Frag} {H H' : Hp} {a : Addr} {ts : List Tm} {g : List Wd} (h : BtAt K H a ts g) (e : Same H H') : BtAt K H' a ts g := h.mono fun _ _ q => Same.tup e q
structure TmOk (cs : List Nat) (x : Tm) : Prop where
  a : Fok 240 x.a
  sy : Sy cs x.w
  ln : x.w.length ≤ 50
structure BtOk (cs : List Nat) (ts : List Tm) (g : List Wd) : Prop where
  tm : ∀ x ∈ ts, TmOk cs x
  few : ts.length ≤ 16
  sy : Sy cs g
  ln : g.length ≤ 50
def pay (v : Nat → Bool) (ts : List Tm) : Int × Nat := ts.foldl (fun s x => if sval v x.w then addF s x.a else s) (0, 1)
theorem pay_snoc (v : Nat → Bool) (ts : List Tm) (x : Tm) : pay v (ts ++ [x]) = if sval v x.w then addF (pay v ts) x.a else pay v ts := by
  unfold pay
  rw [List.foldl_append]
  rfl
theorem pay_take (v : Nat → Bool) {ts : List Tm} {i : Nat} {x : Tm} (h : ts[i]? = some x) : pay v (ts.take (i + 1)) = if sval v x.w then addF (pay v (ts.take i)) x.a else pay v (ts.take i) := by
  rw [take_one _ _ _ h, pay_snoc]
theorem pay_ok (v : Nat → Bool) {n : Nat} : ∀ {ts : List Tm}, (∀ x ∈ ts, Fok n x.a) → ∀ i, Fok ((n + 1) * i + 1) (pay v (ts.take i))
  | ts, h, 0 => by
    rw [List.take_zero]
    exact Fok.zero (by omega)
  | ts, h, i + 1 => by
    cases e : ts[i]? with
    | none =>
      have l : ts.length ≤ i := List.getElem?_eq_none_iff.mp e
      rw [List.take_of_length_le (by omega), ← List.take_of_length_le l]
      exact (pay_ok v h i).up (by rw [Nat.mul_add]; omega)
    | some x =>
      rw [pay_take v e]
      have a := h x (List.mem_of_getElem? e)
      split
      · exact ((pay_ok v h i).add a).up (by rw [Nat.mul_add]; omega)
      · exact (pay_ok v h i).up (by rw [Nat.mul_add]; omega)
theorem pay_okB (v : Nat → Bool) {cs : List Nat} {ts : List Tm} {g : List Wd} (h : BtOk cs ts g) (i : Nat) : Fok 3900 (pay v (ts.take i)) := by
  by_cases l : i ≤ 16
  · exact (pay_ok v (fun x hx => (h.tm x hx).a) i).up (by omega)
  · have e : ts.take i = ts.take 16 := by rw [List.take_of_length_le (by have := h.few; omega), List.take_of_length_le h.few]
    rw [e]
    exact (pay_ok v (fun x hx => (h.tm x hx).a) 16).up (by omega)
def payO (v : Nat → Bool) (ts : List Tm) (g : List Wd) : Option (Int × Nat) := if sval v g then some (pay v ts) else none
/-- None or a fraction stands at u -/
def PdAt (K : PySem.W.Frag) (H : Hp) (u : V) : Option (Int × Nat) → Prop
  | none => u = .non
  | some p => FAt K H u p
theorem PdAt.mono {K : PySem.W.Frag} {H H' : Hp} {u : V} (k : ∀ a xs, SqT K H a xs → SqT K H' a xs) : ∀ {o : Option (Int × Nat)}, PdAt K H u o → PdAt K H' u o
  | none, h => h
  | some _, h => FAt.mono k h
def OOk (n : Nat) : Option (Int × Nat) → Prop
  | none => True
  | some p => Fok n p
theorem payO_ok (v : Nat → Bool) {cs : List Nat} {ts : List Tm} {g : List Wd} (h : BtOk cs ts g) : OOk 3900 (payO v ts g) := by
  unfold payO
  split
  · have := pay_okB v h ts.length
    rwa [List.take_length] at this
  · exact trivial
/-! ### bets as data -/
def fdat (p : Int × Nat) : PyData := .tuple [.int p.1, .int p.2]
def tdat (x : Tm) : PyData := .tuple [fdat x.a, wdat x.w]
def bdat (ts : List Tm) (g : List Wd) : PyData := .tuple [.tuple (ts.map tdat), wdat g]
theorem fdat_shw {n : Nat} {p : Int × Nat} (h : Fok n p) (hn : n ≤ 500) : Shw 1 2 (fdat p) :=
  pair_shw (n := 0) (m := 0) (Shw.int (h.z.more hn).t) (Shw.int (by rw [Int.natAbs_natCast]; exact (h.z.more hn).b))
theorem bdat_shw {cs : List Nat} {ts : List Tm} {g : List Wd} (hs : ∀ c ∈ cs, c < 123) (h : BtOk cs ts g) : Shw 4 16100 (bdat ts g) := by
  have a : Shw 3 8048 (.tuple (ts.map tdat)) := by
    refine Shw.tup (n := 2) (m := 502) (k := 16) (fun d hd => ?_) (by rw [List.length_map]; exact h.few)
    obtain ⟨x, hx, rfl⟩ := List.mem_map.mp hd
    have o := h.tm x hx
    exact pair_shw (n := 1) (m := 250) ((fdat_shw o.a (by decide)).up (by decide) (by decide)) ((wdat_shw (k := 50) hs o.sy.lt o.ln).up (by decide) (by decide))
  exact (pair_shw a ((wdat_shw (k := 50) hs h.sy.lt h.ln).up (by decide) (by decide))).up (by decide) (by decide)
theorem FAt.dp {K : PySem.W.Frag} {H : Hp} {v : V} {p : Int × Nat} (h : FAt K H v p) : Dp K H v (fdat p) := by
  obtain ⟨a, rfl, t⟩ := h
  exact dp2 t
theorem F2.dp {K : PySem.W.Frag} {H : Hp} {α : Type} {R : V → α → Prop} {f : α → PyData} (g : ∀ v x, R v x → Dp K H v (f x)) {vs : List V} {xs : List α} (h : F2 R vs xs) : DpAll K H vs (xs.map f) := by
  induction h with
  | nil => exact .nil
  | cons x _ ih => exact .cons (g _ _ x) ih
theorem TmAt.dp {K : PySem.W.Frag} {H : Hp} {v : V} {x : Tm} (h : TmAt K H v x) : Dp K H v (tdat x) := by
  obtain ⟨p, f, c, rfl, a, b, d⟩ := h
  exact .tup a (.cons (dp2 b) (.cons (wdp d) .nil))
theorem bdp {K : PySem.W.Frag} {H : Hp} {a : Addr} {ts : List Tm} {g : List Wd} (h : BtAt K H a ts g) : Dp K H (.ref a) (bdat ts g) := by
  obtain ⟨p, c, vs, x, y, z, u⟩ := h
  exact .tup x (.cons (.tup y (z.dp fun _ _ h => h.dp)) (.cons (wdp u) .nil))
/-- None or a fraction as data -/
def odat : Option (Int × Nat) → PyData
  | none => .none
  | some p => fdat p
theorem PdAt.dp {K : PySem.W.Frag} {H : Hp} {u : V} : ∀ {o : Option (Int × Nat)}, PdAt K H u o → Dp K H u (odat o)
  | none, h => by
    have e : u = .non := h
    rw [e]
    exact .non
  | some _, h => FAt.dp h
theorem fdat_shaped (p : Int × Nat) : SeqAt.shaped (fdat p) = true := rfl
theorem odat_shaped : ∀ o : Option (Int × Nat), SeqAt.shaped (odat o) = true
  | none => rfl
  | some _ => rfl
theorem fdat_eqv (p : Int × Nat) : PyData.eqv (fdat p) (fdat p) = true := SeqAt.eqv_refl _ rfl
theorem odat_eqv : ∀ o : Option (Int × Nat), PyData.eqv (odat o) (odat o) = true
  | none => rfl
  | some p => fdat_eqv p
end B
namespace B
open PySem PySem.Spec PyProof.Rows L2
/-! ### tables -/
def tabO (cs : List Nat) (ts : List Tm) (g : List Wd) (wl : List (List Bool)) : List (Option (Int × Nat)) := wl.map fun bs => payO (vl cs bs) ts g
theorem tabO_take {cs : List Nat} {ts : List Tm} {g : List Wd} {wl : List (List Bool)} {j : Nat} {bs : List Bool} (h : wl[j]? = some bs) : tabO cs ts g (wl.take (j + 1)) = tabO cs ts g (wl.take j) ++ [payO (vl cs bs) ts g] := map_take_one _ _ _ _ h
theorem wvs_get {wl : List (List Bool)} {j : Nat} {x : V} (h : (wvs wl)[j]? = some x) : ∃ bs, wl[j]? = some bs ∧ x = .str (wtx bs) := by
  unfold wvs at h
  rw [List.getElem?_map] at h
  cases e : wl[j]? with
  | none => rw [e] at h; cases h
  | some bs => rw [e] at h; cases h; exact ⟨bs, rfl, rfl⟩
theorem wvs_len (wl : List (List Bool)) : (wvs wl).length = wl.length := List.length_map ..
theorem same_mut {H H' : Hp} {D : Addr} {o : HO} (n : H D = none) (s : Same H H') : Same H (upd H' D o) := fun a x e => by
  rw [upd_ne (ne_of_none e n)]
  exact s _ _ e
theorem kp_mut {d : Dr} {H H' : Hp} {D : Addr} {o : HO} (n : H D = none) (s : Kp d H H') : Kp d H (upd H' D o) := fun a x e n1 n2 => by
  rw [upd_ne (ne_of_none e n)]
  exact s _ _ e n1 n2
/-- a drawn term, a drawn bet -/
structure TmSm (cs : List Nat) (x : Tm) : Prop where
  a : Fok 80 x.a
  sy : Sy cs x.w
  ln : x.w.length ≤ 10
structure BtSm (n : Nat) (ts : List Tm) (g : List Wd) : Prop where
  few : ts.length ≤ n
  tm : ∀ x ∈ ts, Fok 80 x.a ∧ x.w.length ≤ 10
  ln : g.length ≤ 10
end B
namespace B
open PySem PySem.Spec PyProof.Rows L2
theorem OOk.up {n m : Nat} : ∀ {o : Option (Int × Nat)}, OOk n o → n ≤ m → OOk m o
  | none, _, _ => trivial
  | some _, h, e => Fok.up h e
/-- a drawn bet is little as data -/
theorem bdat_shw2 {cs : List Nat} {n : Nat} {ts : List Tm} {g : List Wd} (hs : ∀ c ∈ cs, c < 123) (h : BtOk cs ts g) (k : BtSm n ts g) : Shw 4 3400 (bdat ts g) := by
  have a : Shw 3 1648 (.tuple (ts.map tdat)) := by
    refine Shw.tup (n := 2) (m := 102) (k := 16) (fun d hd => ?_) (by rw [List.length_map]; exact h.few)
    obtain ⟨x, hx, rfl⟩ := List.mem_map.mp hd
    have o := h.tm x hx
    exact pair_shw (n := 1) (m := 50) ((fdat_shw o.a (by decide)).up (by decide) (by decide)) ((wdat_shw (k := 10) hs o.sy.lt (k.tm x hx).2).up (by decide) (by decide))
  exact ((pair_shw (m := 1648) a ((wdat_shw (k := 10) hs h.sy.lt k.ln).up (by decide) (by decide)))).up (by decide) (by decide)
end B
namespace B
open PySem PySem.Spec PyProof.Rows L2
theorem ne_same (v : V) : (!decide (v = v)) = false := by simp
theorem eq_same (v : V) : decide (v = v) = true := by simp
/-! ### bets turned about; bids -/
def negT (x : Tm) : Tm := ⟨(-x.a.1, x.a.2), x.w⟩
theorem negT_neg (x : Tm) : negT (negT x) = x := by
  show (⟨(- -x.a.1, x.a.2), x.w⟩ : Tm) = x
  rw [Int.neg_neg]
theorem negT_map (ts : List Tm) : (ts.map negT).map negT = ts := by
  rw [List.map_map]
  have e : (negT ∘ negT) = id := funext negT_neg
  rw [e, List.map_id]
theorem Fok.neg {n : Nat} {p : Int × Nat} (h : Fok n p) : Fok n (-p.1, p.2) := ⟨h.f.neg, ⟨by show (-p.1).natAbs < 2 ^ n; rw [Int.natAbs_neg]; exact h.z.t, h.z.b⟩⟩
theorem BtOk.neg {cs : List Nat} {ts : List Tm} {g : List Wd} (h : BtOk cs ts g) : BtOk cs (ts.map negT) g := ⟨fun x hx => by
  obtain ⟨y, hy, rfl⟩ := List.mem_map.mp hx
  have o := h.tm y hy
  exact ⟨o.a.neg, o.sy, o.ln⟩, by rw [List.length_map]; exact h.few, h.sy, h.ln⟩
end B
namespace B
open PySem PySem.Spec PyProof.Rows L2
/-! ### sayings joined -/
def jw (k : Nat) (ws us : List Wd) : List Wd := if k = 0 then ws ++ us ++ [.an] else if k = 1 then ws ++ us ++ [.orr] else ws ++ [.nt]
theorem jw_sy {cs : List Nat} {ws us : List Wd} (k : Nat) (h : Sy cs ws) (g : Sy cs us) : Sy cs (jw k ws us) := by
  unfold jw
  split
  · exact h.join g .an
  split
  · exact h.join g .orr
  · exact h.not
theorem jw_le (k : Nat) (ws us : List Wd) : (jw k ws us).length ≤ ws.length + us.length + 1 := by
  unfold jw
  split
  · simp only [List.length_append, List.length_cons, List.length_nil]; omega
  split
  · simp only [List.length_append, List.length_cons, List.length_nil]; omega
  · simp only [List.length_append, List.length_cons, List.length_nil]; omega
end B
namespace B
open PySem PySem.Spec PyProof.Rows L2
/-! ### comprehensions whose turns leave all else as it was -/
/-- tuples stay tuples -/
def Tk (K : PySem.W.Frag) (H H' : Hp) : Prop := ∀ a xs, SqT K H a xs → SqT K H' a xs
theorem Same.tk {K : PySem.W.Frag} {H H' : Hp} (e : Same H H') : Tk K H H' := fun _ _ h => Same.tup e h
/-- what the turns of such a comprehension keep -/
structure LcI {β : Type} (D : Addr) (H1 : Hp) (R : Hp → V → β → Prop) (L : List β) (H : Hp) : Prop where
  ex : ∃ vs, H D = some (.lst vs) ∧ F2 (R H) vs L
  sm : Same H1 H
theorem F2.none {α β : Type} {R : α → β → Prop} : F2 R [] [] := .nil
section
variable {K : PySem.W.Frag} {a : Addr} {xs : List V} {g : TG} {tt : TT} {te : TE} {vs : List Nat} {σ : L2.St} {H1 : Hp} {D : Addr} {Qd : Hp → Prop} {α β : Type} {R : Hp → V → β → Prop} {IR : V → α → Prop}
theorem fm_take {L : List α} {out : α → Option β} {i : Nat} {x : α} (h : L[i]? = some x) : (L.take (i + 1)).filterMap out = (L.take i).filterMap out ++ (match out x with | some z => [z] | none => []) := by
  rw [take_one _ _ _ h, List.filterMap_append]
  cases e : out x with
  | none => simp [List.filterMap_cons, e]
  | some z => simp [List.filterMap_cons, e]
theorem LcI.step {L : List α} {out : α → Option β} {i : Nat} {x : α} {H H4 : Hp} {y : V} {z : β} (mono : ∀ H H' v y, Tk K H H' → R H v y → R H' v y) (nD : H1 D = none) (sz : L.length < sizeLine) (h : L[i]? = some x) (I : LcI D H1 R ((L.take i).filterMap out) H) (s : Same H H4) (e : out x = some z) (r : R H4 y z) :
    ∃ acc, H4 D = some (.lst acc) ∧ acc.length < sizeLine ∧ LcI D H1 R ((L.take (i + 1)).filterMap out) (upd H4 D (.lst (acc ++ [y]))) := by
  obtain ⟨⟨acc, hD, f⟩, sm⟩ := I
  have hD4 := s _ _ hD
  have tk : Tk K H4 (upd H4 D (.lst (acc ++ [y]))) := fun p ps t => tup_upd hD4 t
  refine ⟨acc, hD4, ?_, ⟨acc ++ [y], upd_same, ?_⟩, same_mut nD (sm.trans s)⟩
  · rw [f.len]
    refine Nat.lt_of_le_of_lt (Nat.le_trans (List.length_filterMap_le _ _) ?_) sz
    rw [List.length_take]
    exact Nat.min_le_right _ _
  · rw [fm_take h, e]
    exact (f.imp fun v w q => mono _ _ _ _ tk (mono _ _ _ _ (Same.tk s) q)).app (F2.one (mono _ _ _ _ tk r))
theorem LcI.skip {L : List α} {out : α → Option β} {i : Nat} {x : α} {H H3 : Hp} (mono : ∀ H H' v y, Tk K H H' → R H v y → R H' v y) (h : L[i]? = some x) (I : LcI D H1 R ((L.take i).filterMap out) H) (s : Same H H3) (e : out x = none) : LcI D H1 R ((L.take (i + 1)).filterMap out) H3 := by
  obtain ⟨⟨acc, hD, f⟩, sm⟩ := I
  refine ⟨⟨acc, s _ _ hD, ?_⟩, sm.trans s⟩
  rw [fm_take h, e, List.append_nil]
  exact f.imp fun v w q => mono _ _ _ _ (Same.tk s) q
/-- [e for x in a tuple if c] -/
theorem lcp_tup (L : List α) (out : α → Option β) (mono : ∀ H H' v y, Tk K H H' → R H v y → R H' v y) (hx : F2 IR xs L) (nD : H1 D = none) (tp : SqT K H1 a xs) (sz : xs.length < sizeLine)
    (hs : ∀ v x H, IR v x → x ∈ L → Same H1 H → ∀ (Y : V → Hp → Prop) (N : Hp → Prop), (∀ y H4 z, Same H H4 → out x = some z → R H4 y z → Y y H4) → (∀ H3, Same H H3 → out x = none → N H3) →
      g v (wipe σ vs) H fun σ2 H2 => wipe σ2 vs = wipe σ vs ∧ tt σ2 H2 fun b H3 => if b = true then te σ2 H3 Y else N H3)
    (hd : ∀ H ys, H D = some (.lst ys) → F2 (R H) ys (L.filterMap out) → Same H1 H → Qd H) :
    ∃ W : Nat → Nat → Hp → Prop, (∃ m, W 0 m (upd H1 D (.lst []))) ∧ ∀ i m H, W i m H →
      ((Itt K a).stop i H ∧ Qd H) ∨ ((Itt K a).go i H ∧ ∃ Nx : Hp → Prop, (∀ H', Nx H' → ∃ m', m' < m ∧ W (i + 1) m' H') ∧ ∀ x H', (Itt K a).yld i H x H' → g x (wipe σ vs) H' fun σ2 H2 => wipe σ2 vs = wipe σ vs ∧ tt σ2 H2 fun b H3 =>
        if b = true then te σ2 H3 fun y H4 => ∃ acc, H4 D = some (.lst acc) ∧ acc.length < sizeLine ∧ Nx (upd H4 D (.lst (acc ++ [y]))) else Nx H3) := by
  have el := hx.len
  refine lc_tup (K := K) (a := a) (xs := xs) (fun j H' => LcI D H1 R ((L.take j).filterMap out) H') ⟨⟨[], upd_same, F2.none⟩, same_upd nD⟩ (fun j H' _ I => Same.tup I.sm tp) ?_ ?_
  · intro i v H hv I
    obtain ⟨x, hL, r⟩ := hx.getA hv
    exact hs v x H r (List.mem_of_getElem? hL) I.sm _ _ (fun y H4 z s e q => I.step mono nD (by rw [← el]; exact sz) hL s e q) (fun H3 s e => I.skip mono hL s e)
  · intro H I
    obtain ⟨⟨ys, hD, f⟩, sm⟩ := I
    rw [el, List.take_length] at f
    exact hd H ys hD f sm
/-- [e for x in a list if c] -/
theorem lcp_list (L : List α) (out : α → Option β) (mono : ∀ H H' v y, Tk K H H' → R H v y → R H' v y) (hx : F2 IR xs L) (nD : H1 D = none) (tp : H1 a = some (.lst xs)) (sz : xs.length < sizeLine)
    (hs : ∀ v x H, IR v x → x ∈ L → Same H1 H → ∀ (Y : V → Hp → Prop) (N : Hp → Prop), (∀ y H4 z, Same H H4 → out x = some z → R H4 y z → Y y H4) → (∀ H3, Same H H3 → out x = none → N H3) →
      g v (wipe σ vs) H fun σ2 H2 => wipe σ2 vs = wipe σ vs ∧ tt σ2 H2 fun b H3 => if b = true then te σ2 H3 Y else N H3)
    (hd : ∀ H ys, H D = some (.lst ys) → F2 (R H) ys (L.filterMap out) → Same H1 H → Qd H) :
    ∃ W : Nat → Nat → Hp → Prop, (∃ m, W 0 m (upd H1 D (.lst []))) ∧ ∀ i m H, W i m H →
      ((Itl K a).stop i H ∧ Qd H) ∨ ((Itl K a).go i H ∧ ∃ Nx : Hp → Prop, (∀ H', Nx H' → ∃ m', m' < m ∧ W (i + 1) m' H') ∧ ∀ x H', (Itl K a).yld i H x H' → g x (wipe σ vs) H' fun σ2 H2 => wipe σ2 vs = wipe σ vs ∧ tt σ2 H2 fun b H3 =>
        if b = true then te σ2 H3 fun y H4 => ∃ acc, H4 D = some (.lst acc) ∧ acc.length < sizeLine ∧ Nx (upd H4 D (.lst (acc ++ [y]))) else Nx H3) := by
  have el := hx.len
  refine lc_list (K := K) (a := a) (xs := xs) (fun j H' => LcI D H1 R ((L.take j).filterMap out) H') ⟨⟨[], upd_same, F2.none⟩, same_upd nD⟩ (fun j H' _ I => .inl (.inl (I.sm _ _ tp))) ?_ ?_
  · intro i v H hv I
    obtain ⟨x, hL, r⟩ := hx.getA hv
    exact hs v x H r (List.mem_of_getElem? hL) I.sm _ _ (fun y H4 z s e q => I.step mono nD (by rw [← el]; exact sz) hL s e q) (fun H3 s e => I.skip mono hL s e)
  · intro H I
    obtain ⟨⟨ys, hD, f⟩, sm⟩ := I
    rw [el, List.take_length] at f
    exact hd H ys hD f sm
end
/-- the texts of worlds -/
theorem wvs_f2 : ∀ wl : List (List Bool), F2 (fun v bs => v = V.str (wtx bs)) (wvs wl) wl
  | [] => .nil
  | _ :: r => .cons rfl (wvs_f2 r)
theorem f2_eq {α : Type} {f : α → V} {vs : List V} {L : List α} (h : F2 (fun v x => v = f x) vs L) : vs = L.map f := by
  induction h with
  | nil => rfl
  | cons e _ ih => rw [e, ih]; rfl
theorem fm_some {α β : Type} (f : α → β) (L : List α) : L.filterMap (fun x => some (f x)) = L.map f := by
  induction L with
  | nil => rfl
  | cons x r ih => rw [List.filterMap_cons, ih]; rfl
theorem fm_if {α : Type} (P : α → Bool) (L : List α) : L.filterMap (fun x => if P x then some x else none) = L.filter P := by
  induction L with
  | nil => rfl
  | cons x r ih =>
    rw [List.filterMap_cons, List.filter_cons]
    cases P x <;> simp [ih]
/-- what becomes of a house that hears a saying -/
def anyW (cs : List Nat) (rs : List (List Wd)) (ws : List Wd) : Bool := (wor cs rs).any fun bs => sval (vl cs bs) ws
def dueW (cs : List Nat) (rs : List (List Wd)) (ws : List Wd) : Str := if anyW cs rs ws = false then "world" else if 8 ≤ rs.length then "many" else "none"
theorem rdat_shw {cs : List Nat} {rs : List (List Wd)} (h : HsOk cs rs) : Shw 2 (20 * 201) (.tuple (rs.map wdat)) := Shw.tup (k := 20) (n := 1) (m := 200) (fun d hd => by
  obtain ⟨r, hr, rfl⟩ := List.mem_map.mp hd
  exact wdat_shw (k := 40) h.sm (h.sy r hr).1.lt (h.sy r hr).2) (by rw [List.length_map]; exact h.few)
theorem rep_not (n : Nat) : (List.replicate n [V.str "not"]).flatten = (List.replicate n Wd.nt).map wv := by
  rw [flat_rep, List.map_replicate]
  rfl
theorem HsOk.snoc {cs : List Nat} {rs : List (List Wd)} {ws : List Wd} (h : HsOk cs rs) (y : Sy cs ws) (l : ws.length ≤ 40) (f : rs.length < 20) : HsOk cs (rs ++ [ws]) := ⟨h.c6, h.sm, fun r hr => by
  rcases List.mem_append.mp hr with k | k
  · exact h.sy r k
  · rw [List.mem_singleton] at k
    rw [k]
    exact ⟨y, l⟩, by rw [List.length_append]; exact f⟩
/-! ### which data are equal -/
theorem eqvAll_len : ∀ (xs ys : List PyData), PyData.eqvAll xs ys = true → xs.length = ys.length
  | [], [], _ => rfl
  | x :: xs, y :: ys, h => by
    rw [PyData.eqvAll, Bool.and_eq_true] at h
    rw [List.length_cons, List.length_cons, eqvAll_len xs ys h.2]
  | [], _ :: _, h => by rw [PyData.eqvAll] at h; cases h
  | _ :: _, [], h => by rw [PyData.eqvAll] at h; cases h
theorem eqvAll_map {α : Type} [DecidableEq α] {f : α → PyData} (inj : ∀ x y, PyData.eqv (f x) (f y) = decide (x = y)) : ∀ xs ys : List α, PyData.eqvAll (xs.map f) (ys.map f) = decide (xs = ys)
  | [], [] => rfl
  | x :: xs, y :: ys => by
    rw [List.map_cons, List.map_cons, PyData.eqvAll, inj, eqvAll_map inj xs ys]
    by_cases h : x = y <;> by_cases k : xs = ys <;> simp [h, k]
  | [], _ :: _ => rfl
  | _ :: _, [] => rfl
theorem hdat_snoc_ne (cs : List Nat) (rs : List (List Wd)) (ws : List Wd) : PyData.eqv (hdat cs (rs ++ [ws])) (hdat cs rs) = false := by
  cases e : PyData.eqv (hdat cs (rs ++ [ws])) (hdat cs rs) with
  | false => rfl
  | true =>
    have e : PyData.eqvAll [.str (tx cs), .tuple ((rs ++ [ws]).map wdat)] [.str (tx cs), .tuple (rs.map wdat)] = true := e
    rw [PyData.eqvAll, Bool.and_eq_true, PyData.eqvAll, Bool.and_eq_true] at e
    have h := eqvAll_len _ _ (show PyData.eqvAll ((rs ++ [ws]).map wdat) (rs.map wdat) = true from e.2.1)
    rw [List.length_map, List.length_map, List.length_append] at h
    exact absurd h (by simp)
/-- the sayings that a house hears, one behind another -/
def hearS (cs : List Nat) : List (List Wd) → List (List Wd) → List (List Wd)
  | _, [] => []
  | rs, u :: us => if anyW cs rs u then u :: hearS cs (rs ++ [u]) us else hearS cs rs us
theorem filter_any {α : Type} (f : α → Bool) (l : List α) : (l.filter f).isEmpty = !(l.any f) := by
  induction l with
  | nil => rfl
  | cons x r ih => rw [List.filter_cons, List.any_cons]; cases f x <;> simp [ih]
theorem due_empty (cs : List Nat) (rs : List (List Wd)) (ws : List Wd) : PyData.eqv (wldat ((wor cs rs).filter fun bs => sval (vl cs bs) ws)) (.list []) = !(anyW cs rs ws) := by
  unfold wldat
  rw [eqv_nil, List.isEmpty_map, filter_any]
  rfl
theorem Rws.f2 {K : PySem.W.Frag} {H : Hp} : ∀ {vs : List V} {rs : List (List Wd)}, Rws K H vs rs → F2 (fun v r => ∃ a, v = .ref a ∧ SqT K H a (r.map wv)) vs rs
  | [], [], _ => .nil
  | _ :: _, _ :: _, h => .cons h.1 (Rws.f2 h.2)
end B
namespace B
open PySem PySem.Spec PyProof.Rows L2
/-! ### data are equal just where they were made of the same -/
theorem eqvAll_iff {α : Type} {f : α → PyData} (inj : ∀ x y, PyData.eqv (f x) (f y) = true ↔ x = y) : ∀ xs ys : List α, PyData.eqvAll (xs.map f) (ys.map f) = true ↔ xs = ys
  | [], [] => ⟨fun _ => rfl, fun _ => rfl⟩
  | x :: xs, y :: ys => by
    rw [List.map_cons, List.map_cons, PyData.eqvAll, Bool.and_eq_true, inj, eqvAll_iff inj xs ys, List.cons.injEq]
  | [], _ :: _ => ⟨(fun h => nomatch h), (fun h => nomatch h)⟩
  | _ :: _, [] => ⟨(fun h => nomatch h), (fun h => nomatch h)⟩
theorem sg_inj {a b : Nat} (h : sg a = sg b) : a = b := by
  have := tx_inj (show tx [a] = tx [b] from h)
  exact (List.cons.inj this).1
theorem wds_inj {w u : Wd} (h : w.s = u.s) : w = u := by
  have big : ∀ v : Wd, v.isLt = false → v.s.cps.size ≠ 1 := fun v hv => by
    cases v with
    | lt c => exact Bool.noConfusion (show true = false from hv)
    | _ => decide +kernel
  cases w with
  | lt a =>
    cases u with
    | lt b => rw [sg_inj h]
    | _ => exact absurd h (sg_ne (big _ rfl))
  | _ =>
    cases u with
    | lt b => exact absurd h.symm (sg_ne (big _ rfl))
    | _ => first | rfl | exact absurd h (by decide +kernel)
theorem str_iff (x y : Str) : PyData.eqv (.str x) (.str y) = true ↔ x = y := by
  rw [PyData.eqv]
  exact beq_iff_eq
theorem int_iff (x y : Int) : PyData.eqv (.int x) (.int y) = true ↔ x = y := by
  rw [PyData.eqv]
  exact beq_iff_eq
theorem wdat_iff (r s : List Wd) : PyData.eqv (wdat r) (wdat s) = true ↔ r = s := by
  show PyData.eqvAll (r.map fun w => .str w.s) (s.map fun w => .str w.s) = true ↔ r = s
  exact eqvAll_iff (fun x y => (str_iff _ _).trans ⟨wds_inj, fun e => by rw [e]⟩) r s
theorem two_iff {a b c d : PyData} {P Q : Prop} (h : PyData.eqv a c = true ↔ P) (k : PyData.eqv b d = true ↔ Q) : PyData.eqv (.tuple [a, b]) (.tuple [c, d]) = true ↔ P ∧ Q := by
  show PyData.eqvAll [a, b] [c, d] = true ↔ P ∧ Q
  rw [PyData.eqvAll, PyData.eqvAll, PyData.eqvAll, Bool.and_true, Bool.and_eq_true, h, k]
theorem fdat_iff (p q : Int × Nat) : PyData.eqv (fdat p) (fdat q) = true ↔ p = q := by
  refine (two_iff (int_iff _ _) (int_iff _ _)).trans ⟨fun ⟨h, k⟩ => Prod.ext h (by omega), fun e => by rw [e]; exact ⟨rfl, rfl⟩⟩
theorem tdat_iff (x y : Tm) : PyData.eqv (tdat x) (tdat y) = true ↔ x = y := by
  refine (two_iff (fdat_iff _ _) (wdat_iff _ _)).trans ⟨fun ⟨h, k⟩ => ?_, fun e => by rw [e]; exact ⟨rfl, rfl⟩⟩
  cases x
  cases y
  cases h
  cases k
  rfl
theorem bdat_iff (ts us : List Tm) (g h : List Wd) : PyData.eqv (bdat ts g) (bdat us h) = true ↔ ts = us ∧ g = h :=
  two_iff (show PyData.eqvAll (ts.map tdat) (us.map tdat) = true ↔ ts = us from eqvAll_iff tdat_iff ts us) (wdat_iff _ _)
theorem odat_iff : ∀ x y : Option (Int × Nat), PyData.eqv (odat x) (odat y) = true ↔ x = y
  | none, none => ⟨fun _ => rfl, fun _ => rfl⟩
  | some p, some q => (fdat_iff p q).trans ⟨fun e => by rw [e], fun e => Option.some.inj e⟩
  | none, some _ => ⟨(fun h => nomatch h), (fun h => nomatch h)⟩
  | some _, none => ⟨(fun h => nomatch h), (fun h => nomatch h)⟩
theorem eqv_false {a b : PyData} {P : Prop} (h : PyData.eqv a b = true ↔ P) (n : ¬ P) : PyData.eqv a b = false := Bool.eq_false_iff.mpr fun z => n (h.mp z)
theorem F2.snd {α β : Type} {R : α → β → Prop} {as : List α} {bs : List β} (h : F2 R as bs) {a : α} {b : β} (r : R a b) : F2 R (as ++ [a]) (bs ++ [b]) := h.app (F2.one r)
/-- a bet with the same terms and another given -/
theorem BtAt.parts {K : PySem.W.Frag} {H : Hp} {a : Addr} {ts : List Tm} {g : List Wd} (h : BtAt K H a ts g) : ∃ (p c : Addr) (vs : List V), SqT K H a [.ref p, .ref c] ∧ SqT K H p vs ∧ F2 (TmAt K H) vs ts ∧ SqT K H c (g.map wv) := h
theorem tms_same {K : PySem.W.Frag} {H H' : Hp} {vs : List V} {ts : List Tm} (h : F2 (TmAt K H) vs ts) (e : Same H H') : F2 (TmAt K H') vs ts := h.imp fun _ _ t => t.mono fun _ _ q => Same.tup e q
theorem tms_tk {K : PySem.W.Frag} {H H' : Hp} {vs : List V} {ts : List Tm} (h : F2 (TmAt K H) vs ts) (e : Tk K H H') : F2 (TmAt K H') vs ts := h.imp fun _ _ t => t.mono e
theorem Same.sql {K : PySem.W.Frag} {H H' : Hp} {a : Addr} {xs : List V} (e : Same H H') (h : SqL K H a xs) : SqL K H' a xs := by
  rcases h with (h | ⟨o, h⟩) | h
  · exact .inl (.inl (e _ _ h))
  · exact .inl (.inr ⟨o, e _ _ h⟩)
  · exact .inr h
mutual
theorem dp_same {K : PySem.W.Frag} {H H' : Hp} (e : Same H H') : ∀ {v : V} {d : PyData}, Dp K H v d → Dp K H' v d
  | _, _, .non => .non
  | _, _, .bl b => .bl b
  | _, _, .int i => .int i
  | _, _, .str x => .str x
  | _, _, .lst a b => .lst (Same.sql e a) (dpAll_same e b)
  | _, _, .tup a b => .tup (Same.tup e a) (dpAll_same e b)
theorem dpAll_same {K : PySem.W.Frag} {H H' : Hp} (e : Same H H') : ∀ {vs : List V} {ds : List PyData}, DpAll K H vs ds → DpAll K H' vs ds
  | _, _, .nil => .nil
  | _, _, .cons a b => .cons (dp_same e a) (dpAll_same e b)
end
theorem pair_n {n m : Nat} {d : PyData} (h : Shw n m d) : Shw (n + 1) (2 * (m + 1)) (.tuple [d, .none]) := pair_shw h (Shw.none.up (Nat.zero_le _) (Nat.zero_le _))
theorem none_n (i : Int) (h : i.natAbs < 2 ^ 500) : Shw 2 4 (.tuple [.none, .list [.int i]]) := (pair_shw (n := 1) (m := 1) (Shw.none.up (by decide) (by decide)) (Shw.lst (n := 0) (m := 0) (k := 1) (fun d hd => by
  rw [List.mem_singleton] at hd
  rw [hd]
  exact Shw.int h) (Nat.le_refl _))).up (by decide) (by decide)
/-- the heap that is come to -/
abbrev tgt {H H' : Hp} (_ : Same H H') : Hp := H'
end B
namespace B
open PySem PySem.Spec PyProof.Rows L2
/-! ### bids and books -/
def mulF (p q : Int × Nat) : Int × Nat := (mulT p.1 p.2 q.1 q.2, mulB p.1 p.2 q.1 q.2)
def negF (p : Int × Nat) : Int × Nat := (-p.1, p.2)
def subF (p q : Int × Nat) : Int × Nat := addF p (negF q)
theorem Fok.mul {n m : Nat} {p q : Int × Nat} (a : Fok n p) (b : Fok m q) : Fok (n + m) (mulF p q) := ⟨mul_isF a.f.pos b.f.pos, mul_z a.f.pos b.f.pos a.z b.z⟩
theorem Fok.negF {n : Nat} {p : Int × Nat} (h : Fok n p) : Fok n (negF p) := h.neg
theorem Fok.sub {n m : Nat} {p q : Int × Nat} (a : Fok n p) (b : Fok m q) : Fok (n + m + 1) (subF p q) := a.add b.negF
theorem isF_zero {b : Nat} (h : IsF 0 b) : b = 1 := by
  exact (Nat.gcd_zero_left b).symm.trans h.cop
theorem Fok.zero_iff {n : Nat} {p : Int × Nat} (h : Fok n p) : p = (0, 1) ↔ p.1 = 0 := by
  refine ⟨fun e => by rw [e], fun e => ?_⟩
  obtain ⟨t, b⟩ := p
  have e : t = 0 := e
  subst e
  exact congrArg (fun x => ((0 : Int), x)) (isF_zero h.f)
/-- a bid -/
structure Bd where
  ts : List Tm
  g : List Wd
  p : Int × Nat
def BdAt (K : PySem.W.Frag) (H : Hp) (v : V) (x : Bd) : Prop := ∃ q a f : Addr, v = .ref q ∧ SqT K H q [.ref a, .ref f] ∧ BtAt K H a x.ts x.g ∧ SqT K H f [.int x.p.1, .int x.p.2]
theorem BdAt.mono {K : PySem.W.Frag} {H H' : Hp} {v : V} {x : Bd} (k : ∀ a xs, SqT K H a xs → SqT K H' a xs) (h : BdAt K H v x) : BdAt K H' v x := by
  obtain ⟨q, a, f, e, t, b, c⟩ := h
  exact ⟨q, a, f, e, k _ _ t, b.mono k, k _ _ c⟩
structure BdOk (cs : List Nat) (z zp : Nat) (x : Bd) : Prop where
  bt : BtOk cs x.ts x.g
  pz : ∀ v : Nat → Bool, Fok z (pay v x.ts)
  pp : Fok zp x.p
/-- one bid more with its stake -/
def gstep (v : Nat → Bool) (o : Option (Int × Nat)) (x : Bd × (Int × Nat)) : Option (Int × Nat) :=
  if x.2.1 = 0 then o else match payO v x.1.ts x.1.g with
    | none => o
    | some p => some (addF (o.getD (0, 1)) (mulF x.2 (subF p x.1.p)))
/-- what a book gains -/
def gain (v : Nat → Bool) (l : List (Bd × (Int × Nat))) : Option (Int × Nat) := l.foldl (gstep v) none
theorem gain_take (v : Nat → Bool) {l : List (Bd × (Int × Nat))} {i : Nat} {x : Bd × (Int × Nat)} (h : l[i]? = some x) : gain v (l.take (i + 1)) = gstep v (gain v (l.take i)) x := by
  unfold gain
  rw [take_one _ _ _ h, List.foldl_append]
  rfl
theorem payO_some {v : Nat → Bool} {ts : List Tm} {g : List Wd} {p : Int × Nat} (h : payO v ts g = some p) : p = pay v ts := by
  unfold payO at h
  split at h
  · exact (Option.some.inj h).symm
  · cases h
theorem OOk.getD {n : Nat} {o : Option (Int × Nat)} (h : OOk n o) (hn : 1 ≤ n) : Fok n (o.getD (0, 1)) := by
  cases o with
  | none => exact Fok.zero hn
  | some p => exact h
theorem gain_ok (v : Nat → Bool) {cs : List Nat} {z zp zs : Nat} {l : List (Bd × (Int × Nat))} (h : ∀ x ∈ l, BdOk cs z zp x.1 ∧ Fok zs x.2) : ∀ i, OOk ((z + zp + zs + 2) * i + 1) (gain v (l.take i))
  | 0 => by
    rw [List.take_zero]
    exact trivial
  | i + 1 => by
    have ih := gain_ok v h i
    have e : (z + zp + zs + 2) * (i + 1) + 1 = (z + zp + zs + 2) * i + 1 + (z + zp + zs + 2) := by rw [Nat.mul_succ]; omega
    cases hx : l[i]? with
    | none =>
      have hl : l.length ≤ i := by
        rcases Nat.lt_or_ge i l.length with q | q
        · rw [List.getElem?_eq_getElem q] at hx
          cases hx
        · exact q
      rw [List.take_of_length_le (by omega)]
      rw [List.take_of_length_le hl] at ih
      exact OOk.up ih (by rw [e]; omega)
    | some x =>
      rw [gain_take v hx]
      obtain ⟨b, s⟩ := h x (List.mem_of_getElem? hx)
      unfold gstep
      split
      · exact OOk.up ih (by rw [e]; omega)
      · split
        · exact OOk.up ih (by rw [e]; omega)
        · rename_i p hp
          rw [payO_some hp]
          have k := (ih.getD (by omega)).add (s.mul ((b.pz v).sub b.pp))
          exact k.up (by rw [e]; omega)
theorem pay_all (v : Nat → Bool) {n m : Nat} {ts : List Tm} (h : ∀ x ∈ ts, Fok n x.a) (l : ts.length ≤ m) : Fok ((n + 1) * m + 1) (pay v ts) := by
  have := pay_ok v h ts.length
  rw [List.take_length] at this
  exact this.up (by have := Nat.mul_le_mul_left (n + 1) l; omega)
/-- bids with stakes, as they stand -/
theorem zip_get {α β : Type} {as : List α} {bs : List β} {i : Nat} {a : α} {b : β} (h : as[i]? = some a) (k : bs[i]? = some b) : (as.zip bs)[i]? = some (a, b) := by
  rw [List.getElem?_zip_eq_some]
  exact ⟨h, k⟩
def tabG (cs : List Nat) (l : List (Bd × (Int × Nat))) (wl : List (List Bool)) : List (Option (Int × Nat)) := wl.map fun bs => gain (vl cs bs) l
def kdat (x : Bd) : PyData := .tuple [bdat x.ts x.g, fdat x.p]
theorem BdAt.dp {K : PySem.W.Frag} {H : Hp} {v : V} {x : Bd} (h : BdAt K H v x) : Dp K H v (kdat x) := by
  obtain ⟨q, a, f, rfl, t, b, c⟩ := h
  exact .tup t (.cons (bdp b) (.cons (dp2 c) .nil))
theorem f2_tk {K : PySem.W.Frag} {H H' : Hp} {α : Type} {R : Hp → V → α → Prop} (m : ∀ v x, R H v x → R H' v x) {vs : List V} {xs : List α} (h : F2 (R H) vs xs) : F2 (R H') vs xs := h.imp m
theorem bds_tk {K : PySem.W.Frag} {H H' : Hp} {vs : List V} {xs : List Bd} (h : F2 (BdAt K H) vs xs) (k : Tk K H H') : F2 (BdAt K H') vs xs := h.imp fun _ _ q => q.mono k
theorem fas_tk {K : PySem.W.Frag} {H H' : Hp} {vs : List V} {xs : List (Int × Nat)} (h : F2 (FAt K H) vs xs) (k : Tk K H H') : F2 (FAt K H') vs xs := h.imp fun _ _ q => q.mono k
theorem pds_tk {K : PySem.W.Frag} {H H' : Hp} {vs : List V} {xs : List (Option (Int × Nat))} (h : F2 (PdAt K H) vs xs) (k : Tk K H H') : F2 (PdAt K H') vs xs := h.imp fun _ _ q => PdAt.mono k q
theorem bdat_shw3 {cs : List Nat} {ts : List Tm} {g : List Wd} (hs : ∀ c ∈ cs, c < 123) (h : BtOk cs ts g) (k : BtSm 3 ts g) : Shw 4 620 (bdat ts g) := by
  have a : Shw 3 309 (.tuple (ts.map tdat)) := by
    refine Shw.tup (n := 2) (m := 102) (k := 3) (fun d hd => ?_) (by rw [List.length_map]; exact k.few)
    obtain ⟨x, hx, rfl⟩ := List.mem_map.mp hd
    have o := h.tm x hx
    exact pair_shw (n := 1) (m := 50) ((fdat_shw o.a (by decide)).up (by decide) (by decide)) ((wdat_shw (k := 10) hs o.sy.lt (k.tm x hx).2).up (by decide) (by decide))
  exact ((pair_shw (m := 309) a ((wdat_shw (k := 10) hs h.sy.lt k.ln).up (by decide) (by decide)))).up (by decide) (by decide)
theorem hdat_shw3 {cs : List Nat} {rs : List (List Wd)} (h : HsOk cs rs) (k : rs.length ≤ 3) (l : ∀ r ∈ rs, r.length ≤ 14) : Shw 3 430 (hdat cs rs) := by
  have a : Shw 2 213 (.tuple (rs.map wdat)) := Shw.tup (n := 1) (m := 70) (k := 3) (fun d hd => by
    obtain ⟨r, hr, rfl⟩ := List.mem_map.mp hd
    exact wdat_shw (k := 14) h.sm (h.sy r hr).1.lt (l r hr)) (by rw [List.length_map]; exact k)
  exact (pair_shw (n := 2) (m := 213) ((tx_shw (k := 6) h.sm h.c6).up (by decide) (by decide)) a).up (by decide) (by decide)
/-- what of a table is not None -/
def somes (l : List (Option (Int × Nat))) : List (Int × Nat) := l.filterMap id
theorem odats_shaped (l : List (Int × Nat)) : SeqAt.shaped (.list (l.map fdat)) = true := by
  have a : ∀ l : List (Int × Nat), PyData.canLayAll0 (l.map fdat) = true ∧ PyData.depthAll (l.map fdat) ≤ 1 := by
    intro l
    induction l with
    | nil => exact ⟨rfl, Nat.zero_le _⟩
    | cons x r ih =>
      refine ⟨?_, ?_⟩
      · show (PyData.canLay0 (fdat x) && PyData.canLayAll0 (r.map fdat)) = true
        rw [ih.1]
        rfl
      · show max 1 (PyData.depthAll (r.map fdat)) ≤ 1
        have := ih.2
        omega
  have h := a l
  unfold SeqAt.shaped
  rw [show (PyData.list (l.map fdat)).canLay0 = true from h.1]
  have : (PyData.list (l.map fdat)).depth ≤ 64 := by
    show PyData.depthAll (l.map fdat) + 1 ≤ 64
    have := h.2
    omega
  rw [decide_eq_true this]
  rfl
theorem tabO_len (cs : List Nat) (ts : List Tm) (g : List Wd) (wl : List (List Bool)) : (tabO cs ts g wl).length = wl.length := List.length_map ..
theorem pdAt_notNone {K : PySem.W.Frag} {H : Hp} {v : V} {o : Option (Int × Nat)} (h : PdAt K H v o) : (!decide (v = .non)) = o.isSome := by
  cases o with
  | none =>
    obtain rfl : v = .non := h
    rfl
  | some p =>
    obtain ⟨a, rfl, _⟩ := h
    rfl
theorem somes_yes {cs : List Nat} {rs : List (List Wd)} (ts : List Tm) (h : wor cs rs ≠ []) : somes (tabO cs ts [.yes] (wor cs rs)) ≠ [] := by
  cases e : wor cs rs with
  | nil => exact absurd e h
  | cons b r =>
    intro z
    have : (somes (tabO cs ts [.yes] (b :: r))).length = 0 := by rw [z]; rfl
    exact absurd this (by
      show (List.filterMap id (some (pay (vl cs b) ts) :: _)).length ≠ 0
      rw [List.filterMap_cons]
      simp)
/-- a table stands there -/
def TbAt (K : PySem.W.Frag) (H : Hp) (v : V) (tab : List (Option (Int × Nat))) : Prop := ∃ (p : Addr) (us : List V), v = .ref p ∧ SqT K H p us ∧ F2 (PdAt K H) us tab
theorem TbAt.mono {K : PySem.W.Frag} {H H' : Hp} {v : V} {tab : List (Option (Int × Nat))} (k : Tk K H H') (h : TbAt K H v tab) : TbAt K H' v tab := by
  obtain ⟨p, us, e, t, f⟩ := h
  exact ⟨p, us, e, k _ _ t, pds_tk f k⟩
theorem tbs_tk {K : PySem.W.Frag} {H H' : Hp} {vs : List V} {xs : List (List (Option (Int × Nat)))} (h : F2 (TbAt K H) vs xs) (k : Tk K H H') : F2 (TbAt K H') vs xs := h.imp fun _ _ q => q.mono k
theorem isNone_ix {v : V} {o : Option (Int × Nat)} {K : PySem.W.Frag} {H : Hp} {z : Addr} (h : PdAt K H v o) (tz : SqT K H z [.int 0, .int 1]) : ∃ c : Addr, atI [v, V.ref z] (if decide (v = V.non) = true then (1 : Int) else 0) = some (.ref c) ∧ SqT K H c [.int (o.getD (0, 1)).1, .int (o.getD (0, 1)).2] := by
  cases o with
  | none =>
    obtain rfl : v = .non := h
    exact ⟨z, rfl, tz⟩
  | some p =>
    obtain ⟨a, rfl, ta⟩ := h
    exact ⟨a, rfl, ta⟩
theorem tabG_take {cs : List Nat} {l : List (Bd × (Int × Nat))} {wl : List (List Bool)} {j : Nat} {bs : List Bool} (h : wl[j]? = some bs) : tabG cs l (wl.take (j + 1)) = tabG cs l (wl.take j) ++ [gain (vl cs bs) l] := map_take_one _ _ _ _ h
theorem low_nonneg {t : Int} {b : Nat} (h : 0 ≤ t) (hb : 0 < b) : 0 ≤ lowT t b := by
  have e := low_t t b
  rw [lowN_nat] at e
  have g0 : (0 : Int) < ((Nat.gcd t.natAbs b : Nat) : Int) := by
    have := Nat.gcd_pos_of_pos_right t.natAbs hb
    omega
  rcases Int.lt_or_le (lowT t b) 0 with z | z
  · have := Int.mul_neg_of_pos_of_neg g0 z
    omega
  · exact z
end B
namespace B
open PySem PySem.Spec PyProof.Rows L2
/-! ### things of any kind -/
mutual
inductive Th (K : PySem.W.Frag) (H : Hp) : V → PyData → Prop
  | non : Th K H .non .none
  | bl (b : Bool) : Th K H (.bl b) (.bool b)
  | int (i : Int) : Th K H (.int i) (.int i)
  | str (x : Str) : Th K H (.str x) (.str x)
  | lst {a : Addr} {xs : List V} {ds : List PyData} : SqL K H a xs → ThAll K H xs ds → Th K H (.ref a) (.list ds)
  | tup {a : Addr} {xs : List V} {ds : List PyData} : SqT K H a xs → ThAll K H xs ds → Th K H (.ref a) (.tuple ds)
  | dic {a : Addr} {l : List (PyData × PyData)} : TyX K H (.ref a) (.type "dict") → Th K H (.ref a) (.dict l)
inductive ThAll (K : PySem.W.Frag) (H : Hp) : List V → List PyData → Prop
  | nil : ThAll K H [] []
  | cons {v : V} {vs : List V} {d : PyData} {ds : List PyData} : Th K H v d → ThAll K H vs ds → ThAll K H (v :: vs) (d :: ds)
end
mutual
theorem th_dp {K : PySem.W.Frag} {H : Hp} : ∀ {v : V} {d : PyData}, Dp K H v d → Th K H v d
  | _, _, .non => .non
  | _, _, .bl b => .bl b
  | _, _, .int i => .int i
  | _, _, .str x => .str x
  | _, _, .lst a b => .lst a (thAll_dp b)
  | _, _, .tup a b => .tup a (thAll_dp b)
theorem thAll_dp {K : PySem.W.Frag} {H : Hp} : ∀ {vs : List V} {ds : List PyData}, DpAll K H vs ds → ThAll K H vs ds
  | _, _, .nil => .nil
  | _, _, .cons a b => .cons (th_dp a) (thAll_dp b)
end
theorem ThAll.len {K : PySem.W.Frag} {H : Hp} : ∀ {vs : List V} {ds : List PyData}, ThAll K H vs ds → vs.length = ds.length
  | _, _, .nil => rfl
  | _, _, .cons _ b => by rw [List.length_cons, List.length_cons, ThAll.len b]
theorem ThAll.get {K : PySem.W.Frag} {H : Hp} : ∀ {vs : List V} {ds : List PyData} {i : Nat} {v : V}, ThAll K H vs ds → vs[i]? = some v → ∃ d, ds[i]? = some d ∧ Th K H v d
  | _, _, i, v, .nil, e => by simp at e
  | _, _, 0, v, .cons a b, e => by
    cases e
    exact ⟨_, rfl, a⟩
  | _, _, i + 1, v, .cons a b, e => by
    obtain ⟨d, h, t⟩ := ThAll.get b (i := i) (v := v) (by simpa using e)
    exact ⟨d, by simpa using h, t⟩
/-- the name of its type -/
def tyN : PyData → String
  | .none => "NoneType"
  | .bool _ => "bool"
  | .int _ => "int"
  | .str _ => "str"
  | .list _ => "list"
  | .tuple _ => "tuple"
  | .dict _ => "dict"
theorem ty_lst {K : PySem.W.Frag} {H : Hp} {a : Addr} {xs : List V} (h : SqL K H a xs) : TyX K H (.ref a) (.type "list") := by
  rcases h with (h | ⟨o, h⟩) | ⟨o, its, n, e, c, _⟩
  · exact .base (.lst h)
  · exact .base (.frz h)
  · exact .kList e c
theorem Th.ty {K : PySem.W.Frag} {H : Hp} {v : V} {d : PyData} (h : Th K H v d) : TyX K H v (.type (tyN d)) := by
  cases h with
  | non => exact .base .non
  | bl b => exact .base (.bl b)
  | int i => exact .base (.int i)
  | str x => exact .base (.str x)
  | lst a _ => exact ty_lst a
  | tup a _ => exact ty_tup a
  | dic t => exact t
def isT : PyData → Bool
  | .tuple _ => true
  | _ => false
def isS : PyData → Bool
  | .str _ => true
  | _ => false
theorem kit_tup (d : PyData) : kitB (tyN d) "tuple" = some (isT d) := by
  cases d with
  | none => exact (by decide +kernel : kitB "NoneType" "tuple" = some false)
  | bool _ => exact (by decide +kernel : kitB "bool" "tuple" = some false)
  | int _ => exact (by decide +kernel : kitB "int" "tuple" = some false)
  | str _ => exact (by decide +kernel : kitB "str" "tuple" = some false)
  | list _ => exact (by decide +kernel : kitB "list" "tuple" = some false)
  | tuple _ => exact (by decide +kernel : kitB "tuple" "tuple" = some true)
  | dict _ => exact (by decide +kernel : kitB "dict" "tuple" = some false)
theorem kit_str (d : PyData) : kitB (tyN d) "str" = some (isS d) := by
  cases d with
  | none => exact (by decide +kernel : kitB "NoneType" "str" = some false)
  | bool _ => exact (by decide +kernel : kitB "bool" "str" = some false)
  | int _ => exact (by decide +kernel : kitB "int" "str" = some false)
  | str _ => exact (by decide +kernel : kitB "str" "str" = some true)
  | list _ => exact (by decide +kernel : kitB "list" "str" = some false)
  | tuple _ => exact (by decide +kernel : kitB "tuple" "str" = some false)
  | dict _ => exact (by decide +kernel : kitB "dict" "str" = some false)
/-- is_row -/
def rowD (lo hi : Int) : PyData → Bool
  | .tuple ds => decide (lo ≤ (ds.length : Int)) && decide ((ds.length : Int) ≤ hi)
  | _ => false
/-- how many things a word wants -/
def wantS (cs : List Nat) (x : Str) : Option Nat :=
  if inV (.str x) [.str "and", .str "or", .str "same"] = true then some 2
  else if decide (V.str x = V.str "not") = true then some 1
  else if inV (.str x) [.str "yes", .str "no"] = true then some 0
  else if x.length = 1 ∧ x.cps.toList.headD 0 ∈ cs then some 0 else none
def wantD (cs : List Nat) : PyData → Option Nat
  | .str x => wantS cs x
  | _ => none
def wantV : Option Nat → V
  | some n => .int n
  | none => .non
/-- how high the heap is behind the words -/
def goS (cs : List Nat) : Nat → List PyData → Option Nat
  | h, [] => some h
  | h, d :: r => match wantD cs d with
    | none => none
    | some m => if h < m then none else goS cs (h + 1 - m) r
def isSay (cs : List Nat) : PyData → Bool
  | .tuple ds => decide (1 ≤ ds.length) && decide (ds.length ≤ 40) && decide (goS cs 0 ds = some 1)
  | _ => false
def wantN : Wd → Nat
  | .an | .orr | .sm => 2
  | .nt => 1
  | _ => 0
theorem wantS_wd {cs : List Nat} (w : Wd) (h : ∀ c, w = .lt c → c ∈ cs) : wantS cs w.s = some (wantN w) := by
  unfold wantS
  cases w with
  | lt c =>
    have j := in_join (.lt c)
    rw [show inV (wv (.lt c)) [.str "and", .str "or", .str "same"] = inV (.str (Wd.lt c).s) [.str "and", .str "or", .str "same"] from rfl] at j
    rw [j, if_neg (by simp)]
    have n : decide (V.str (Wd.lt c).s = V.str "not") = false := (wd_eq (.lt c) .nt rfl).trans (decide_eq_false fun z => nomatch z)
    rw [n, if_neg (by decide)]
    have y : inV (.str (Wd.lt c).s) [.str "yes", .str "no"] = false := by
      have h1 : (("yes" : Str) == sg c) = false := beq_eq_false_iff_ne.mpr (sg_ne (c := c) (x := "yes") (by decide +kernel)).symm
      have h2 : (("no" : Str) == sg c) = false := beq_eq_false_iff_ne.mpr (sg_ne (c := c) (x := "no") (by decide +kernel)).symm
      show ((("yes" : Str) == sg c) || ((("no" : Str) == sg c) || false)) = false
      rw [h1, h2]
      rfl
    rw [y, if_neg (by decide), if_pos ⟨rfl, h c rfl⟩]
    rfl
  | an => rw [if_pos (by decide +kernel)]; rfl
  | orr => rw [if_pos (by decide +kernel)]; rfl
  | sm => rw [if_pos (by decide +kernel)]; rfl
  | nt => rw [if_neg (by decide +kernel), if_pos (by decide +kernel)]; rfl
  | yes => rw [if_neg (by decide +kernel), if_neg (by decide +kernel), if_pos (by decide +kernel)]; rfl
  | no => rw [if_neg (by decide +kernel), if_neg (by decide +kernel), if_pos (by decide +kernel)]; rfl
theorem goS_wd {cs : List Nat} : ∀ (ws : List Wd) (h k : Nat), (∀ c, Wd.lt c ∈ ws → c ∈ cs) → ht h ws = some k → goS cs h (ws.map fun w => .str w.s) = some k
  | [], h, k, _, e => e
  | w :: r, h, k, hl, e => by
    have hw : wantD cs (.str w.s) = some (wantN w) := wantS_wd w fun c z => hl c (by rw [z]; exact List.mem_cons_self)
    show (match wantD cs (.str w.s) with | none => none | some m => if h < m then none else goS cs (h + 1 - m) (r.map fun w => .str w.s)) = some k
    rw [hw]
    have hr : ∀ c, Wd.lt c ∈ r → c ∈ cs := fun c hc => hl c (List.mem_cons_of_mem _ hc)
    have key : wantN w ≤ h ∧ ht (h + 1 - wantN w) r = some k := by
      obtain ⟨st, rfl⟩ : ∃ st : List Bool, st.length = h := ⟨List.replicate h true, List.length_replicate⟩
      have e2 := ht_step (fun _ => true) e
      cases w with
      | nt =>
        obtain ⟨a, s, rfl⟩ := ht_nt e
        exact ⟨by show 1 ≤ (a :: s).length; exact Nat.succ_le_succ (Nat.zero_le _), e2⟩
      | an =>
        obtain ⟨b, a, s, rfl⟩ := ht_jn .an e
        exact ⟨by show 2 ≤ (b :: a :: s).length; exact Nat.succ_le_succ (Nat.succ_le_succ (Nat.zero_le _)), e2⟩
      | orr =>
        obtain ⟨b, a, s, rfl⟩ := ht_jn .orr e
        exact ⟨by show 2 ≤ (b :: a :: s).length; exact Nat.succ_le_succ (Nat.succ_le_succ (Nat.zero_le _)), e2⟩
      | sm =>
        obtain ⟨b, a, s, rfl⟩ := ht_jn .sm e
        exact ⟨by show 2 ≤ (b :: a :: s).length; exact Nat.succ_le_succ (Nat.succ_le_succ (Nat.zero_le _)), e2⟩
      | _ => exact ⟨Nat.zero_le _, e2⟩
    show (if h < wantN w then none else goS cs (h + 1 - wantN w) (r.map fun w => .str w.s)) = some k
    rw [if_neg (by omega)]
    exact goS_wd r _ k hr key.2
theorem isSay_wd {cs : List Nat} {ws : List Wd} (h : Sy cs ws) (l : ws.length ≤ 40) : isSay cs (wdat ws) = true := by
  have h1 : 1 ≤ ws.length := List.length_pos_iff.mpr h.ne
  show (decide (1 ≤ (ws.map fun w => PyData.str w.s).length) && decide ((ws.map fun w => PyData.str w.s).length ≤ 40) && decide (goS cs 0 (ws.map fun w => .str w.s) = some 1)) = true
  rw [List.length_map, goS_wd ws 0 1 h.lt h.ht, decide_eq_true h1, decide_eq_true l]
  rfl
theorem Same.ty {K : PySem.W.Frag} {H H' : Hp} {v : V} {n : Value} (e : Same H H') (h : TyX K H v n) : TyX K H' v n := by
  cases h with
  | base b =>
    cases b with
    | non => exact .base .non
    | bl x => exact .base (.bl x)
    | int i => exact .base (.int i)
    | str x => exact .base (.str x)
    | flt x => exact .base (.flt x)
    | lst h => exact .base (.lst (e _ _ h))
    | frz h => exact .base (.frz (e _ _ h))
    | tup h => exact .base (.tup (e _ _ h))
    | dK h => exact .base (.dK (e _ _ h))
    | dT h => exact .base (.dT (e _ _ h))
    | ins h cl ha hn htk hm => exact .base (.ins (e _ _ h) cl ha hn htk hm)
  | byt b => exact .byt b
  | set h => exact .set (e _ _ h)
  | kList h c => exact .kList h c
  | kTuple h c => exact .kTuple h c
  | kDict h c => exact .kDict h c
  | fTuple h => exact .fTuple (e _ _ h)
  | fDict h => exact .fDict (e _ _ h)
mutual
theorem th_same {K : PySem.W.Frag} {H H' : Hp} (e : Same H H') : ∀ {v : V} {d : PyData}, Th K H v d → Th K H' v d
  | _, _, .non => .non
  | _, _, .bl b => .bl b
  | _, _, .int i => .int i
  | _, _, .str x => .str x
  | _, _, .lst a b => .lst (Same.sql e a) (thAll_same e b)
  | _, _, .tup a b => .tup (Same.tup e a) (thAll_same e b)
  | _, _, .dic t => .dic (Same.ty e t)
theorem thAll_same {K : PySem.W.Frag} {H H' : Hp} (e : Same H H') : ∀ {vs : List V} {ds : List PyData}, ThAll K H vs ds → ThAll K H' vs ds
  | _, _, .nil => .nil
  | _, _, .cons a b => .cons (th_same e a) (thAll_same e b)
end
/-! ### letters -/
def areL (l : List Nat) : Bool := decide (1 ≤ l.length) && decide (l.length ≤ 6) && ((l.all fun c => decide (97 ≤ c) && decide (c ≤ 122)) && (l.zip (l.drop 1)).all fun p => decide (p.1 < p.2))
def areLD : PyData → Bool
  | .str z => areL z.cps.toList
  | _ => false
theorem lex_one (a b : Nat) : decide ([a] < [b]) = decide (a < b) := by
  refine decide_eq_decide.mpr ?_
  rw [List.cons_lt_cons_iff]
  exact ⟨fun h => by rcases h with h | ⟨_, h⟩; exact h; exact absurd h (List.lt_irrefl []), fun h => .inl h⟩
theorem sg_list (c : Nat) : (Str.cps ⟨#[c]⟩).toList = [c] := rfl
theorem areL_ls {n : Nat} {cs : List Nat} (h : Ls n cs) (hn : n ≤ 6) : areL cs = true := by
  unfold areL
  have hm := h.most
  rw [decide_eq_true h.pos, decide_eq_true (show cs.length ≤ 6 by omega)]
  have a : (cs.all fun c => decide (97 ≤ c) && decide (c ≤ 122)) = true := List.all_eq_true.mpr fun c hc => by
    have := h.small c hc
    rw [decide_eq_true this.1, decide_eq_true (show c ≤ 122 by omega)]
    rfl
  have b : ((cs.zip (cs.drop 1)).all fun p => decide (p.1 < p.2)) = true := List.all_eq_true.mpr fun p hp => by
    obtain ⟨i, hi, e⟩ := List.getElem_of_mem hp
    rw [List.length_zip, List.length_drop] at hi
    rw [List.getElem_zip] at e
    have h2 : i + 1 < cs.length := by omega
    have r := List.pairwise_iff_getElem.mp h.rise i (i + 1) (by omega) h2 (by omega)
    rw [← e]
    have e1 : (List.drop 1 cs)[i]'(by rw [List.length_drop]; omega) = cs[i + 1] := by
      rw [List.getElem_drop]
      congr 1
      omega
    refine decide_eq_true ?_
    show cs[i] < (List.drop 1 cs)[i]'(by rw [List.length_drop]; omega)
    rw [e1]
    exact r
  rw [a, b]
  rfl
theorem wor_snoc (cs : List Nat) (rs : List (List Wd)) (ws : List Wd) : wor cs (rs ++ [ws]) = (wor cs rs).filter fun bs => sval (vl cs bs) ws := by
  unfold wor
  rw [List.filter_filter]
  congr 1
  funext bs
  rw [List.all_append, Bool.and_comm]
  congr 1
  show (sval (vl cs bs) ws && true) = _
  rw [Bool.and_true]
theorem filter_perm {α : Type} (f : α → Bool) : ∀ l : List α, (l.filter f ++ l.filter fun x => !f x).Perm l
  | [] => .nil
  | x :: r => by
    rw [List.filter_cons, List.filter_cons]
    cases h : f x with
    | true =>
      rw [if_pos rfl, if_neg (by decide)]
      exact (filter_perm f r).cons x
    | false =>
      rw [if_neg (by decide), if_pos (by decide)]
      exact (List.perm_middle).trans ((filter_perm f r).cons x)
theorem all_filter {α : Type} (f : α → Bool) (l : List α) : l.all f = (l.filter fun x => !f x).isEmpty := by
  induction l with
  | nil => rfl
  | cons x r ih => rw [List.all_cons, List.filter_cons, ih]; cases f x <;> simp
theorem all_not_filter {α : Type} (f : α → Bool) (l : List α) : (l.all fun x => !f x) = (l.filter f).isEmpty := by
  induction l with
  | nil => rfl
  | cons x r ih => rw [List.all_cons, List.filter_cons, ih]; cases f x <;> simp
theorem any_or {α : Type} (f g : α → Bool) (l : List α) : (l.any fun x => f x || g x) = (l.any f || l.any g) := by
  induction l with
  | nil => rfl
  | cons x r ih =>
    rw [List.any_cons, List.any_cons, List.any_cons, ih]
    cases f x <;> cases g x <;> cases r.any f <;> cases r.any g <;> rfl
theorem all_and {α : Type} (f g : α → Bool) (l : List α) : (l.all fun x => f x && g x) = (l.all f && l.all g) := by
  induction l with
  | nil => rfl
  | cons x r ih =>
    rw [List.all_cons, List.all_cons, List.all_cons, ih]
    cases f x <;> cases g x <;> cases r.all f <;> cases r.all g <;> rfl
theorem wtx_inj {a b : List Bool} (h : wtx a = wtx b) : a = b := by
  have e := tx_inj h
  have i : ∀ a b : List Bool, a.map bc = b.map bc → a = b := by
    intro a
    induction a with
    | nil => intro b e; cases b with
      | nil => rfl
      | cons _ _ => cases e
    | cons x r ih => intro b e; cases b with
      | nil => cases e
      | cons y s =>
        rw [List.map_cons, List.map_cons, List.cons.injEq] at e
        have e1 : x = y := by
          have z := e.1
          cases x <;> cases y <;> first | rfl | exact absurd z (by decide)
        rw [e1, ih s e.2]
  exact i a b e
theorem in_wvs (bs : List Bool) : ∀ l : List (List Bool), inV (.str (wtx bs)) (wvs l) = decide (bs ∈ l)
  | [] => rfl
  | b :: r => by
    have ih := in_wvs bs r
    unfold inV wvs at ih ⊢
    rw [List.map_cons, List.any_cons, ih]
    show ((wtx b == wtx bs) || decide (bs ∈ r)) = decide (bs ∈ b :: r)
    by_cases e : bs = b
    · rw [e, beq_self_eq_true, decide_eq_true List.mem_cons_self]
      rfl
    · have ne : (wtx b == wtx bs) = false := beq_eq_false_iff_ne.mpr fun z => e (wtx_inj z).symm
      rw [ne, Bool.false_or]
      exact decide_eq_decide.mpr ⟨fun h => List.mem_cons_of_mem _ h, fun h => by rcases List.mem_cons.mp h with z | z; exact absurd z e; exact z⟩
theorem flat_wvs (l : List (List Bool)) : (wvs l).all flatV = true := by
  unfold wvs
  rw [List.all_map, List.all_eq_true]
  intro _ _
  rfl
theorem vset_self (v : Nat → Bool) (c : Nat) : vset v c (v c) = v := by
  funext e
  unfold vset
  split
  · rename_i h
    rw [h]
  · rfl
/-- a saying is either of its two halves by a letter -/
theorem sval_split {cs : List Nat} {ws : List Wd} {c : Nat} (v : Nat → Bool) (h : Sy cs ws) (hc : c ∈ cs) :
    sval v (([.lt c] ++ setW c true ws ++ [.an]) ++ ([.lt c] ++ [.nt] ++ setW c false ws ++ [.an]) ++ [.orr]) = sval v ws := by
  have y1 := Sy.leaf hc
  have a1 : Sy cs ([.lt c] ++ setW c true ws ++ [.an]) := y1.join (h.set c true) .an
  have a2 : Sy cs ([.lt c] ++ [.nt] ++ setW c false ws ++ [.an]) := y1.not.join (h.set c false) .an
  rw [(sval_join v a1 a2).2.1, (sval_join v y1 (h.set c true)).1, (sval_join v y1.not (h.set c false)).1, sval_not v y1, sval_set, sval_set]
  have e : sval v [.lt c] = v c := rfl
  rw [e]
  cases hv : v c with
  | true =>
    have := vset_self v c
    rw [hv] at this
    rw [this]
    cases sval v ws <;> rfl
  | false =>
    have := vset_self v c
    rw [hv] at this
    rw [this]
    cases sval v ws <;> rfl
theorem alphabet : (Str.ofString "abcdefghijklmnopqrstuvwxyz") = tx (List.range' 97 26) := by decide +kernel
theorem abc_mem {cs : List Nat} {n : Nat} (h : Ls n cs) : ∀ c ∈ cs, c ∈ List.range' 97 26 := fun c hc => by
  have := h.small c hc
  rw [List.mem_range'_1]
  omega
theorem Sy.abc {cs : List Nat} {n : Nat} {ws : List Wd} (h : Ls n cs) (k : Sy cs ws) : Sy (List.range' 97 26) ws := ⟨k.ht, fun c hc => abc_mem h c (k.lt c hc)⟩
/-! ### bets so many times as great -/
def mulTm (s : Int × Nat) (x : Tm) : Tm := ⟨mulF x.a s, x.w⟩
theorem mul_neg1 {n : Nat} {p : Int × Nat} (h : Fok n p) : mulF p (-1, 1) = (-p.1, p.2) := by
  have l := low_isN (t := p.1 * -1) (T := -p.1) (b := p.2 * 1) (B := p.2) (by rw [Nat.mul_one]; exact h.f.pos) h.f.neg (by rw [Nat.mul_one]; rw [Int.mul_neg, Int.mul_one])
  refine Prod.ext l.1 ?_
  show lowBn (p.1 * -1) (p.2 * 1) = p.2
  unfold lowBn
  rw [l.2]
  rfl
theorem mulTm_neg {cs : List Nat} {ts : List Tm} (h : ∀ x ∈ ts, TmOk cs x) : ts.map (mulTm (-1, 1)) = ts.map negT := List.map_congr_left fun x hx => by
  show (⟨mulF x.a (-1, 1), x.w⟩ : Tm) = ⟨(-x.a.1, x.a.2), x.w⟩
  rw [mul_neg1 (h x hx).a]
/-- a small bet of the law -/
structure BtL (n : Nat) (cs : List Nat) (z : Nat) (ts : List Tm) (g : List Wd) : Prop where
  tm : ∀ x ∈ ts, Fok z x.a ∧ Sy cs x.w ∧ x.w.length ≤ 40
  few : ts.length ≤ n
  sy : Sy cs g
  ln : g.length ≤ 40
theorem BtL.ok {n z : Nat} {cs : List Nat} {ts : List Tm} {g : List Wd} (h : BtL n cs z ts g) (hz : z ≤ 240) (hn : n ≤ 16) : BtOk cs ts g := ⟨fun x hx => ⟨(h.tm x hx).1.up hz, (h.tm x hx).2.1, by have := (h.tm x hx).2.2; omega⟩, by have := h.few; omega, h.sy, by have := h.ln; omega⟩
theorem BtL.mul {n z zs : Nat} {cs : List Nat} {ts : List Tm} {g : List Wd} {s : Int × Nat} (h : BtL n cs z ts g) (k : Fok zs s) : BtL n cs (z + zs) (ts.map (mulTm s)) g := ⟨fun x hx => by
  obtain ⟨y, hy, rfl⟩ := List.mem_map.mp hx
  exact ⟨(h.tm y hy).1.mul k, (h.tm y hy).2⟩, by rw [List.length_map]; exact h.few, h.sy, h.ln⟩
theorem BtL.neg {n z : Nat} {cs : List Nat} {ts : List Tm} {g : List Wd} (h : BtL n cs z ts g) : BtL n cs z (ts.map negT) g := ⟨fun x hx => by
  obtain ⟨y, hy, rfl⟩ := List.mem_map.mp hx
  exact ⟨(h.tm y hy).1.neg, (h.tm y hy).2⟩, by rw [List.length_map]; exact h.few, h.sy, h.ln⟩
theorem BtL.snoc {n z : Nat} {cs : List Nat} {ts : List Tm} {g : List Wd} {x : Tm} (h : BtL n cs z ts g) (a : Fok z x.a) (y : Sy cs x.w) (l : x.w.length ≤ 40) : BtL (n + 1) cs z (ts ++ [x]) g := ⟨fun u hu => by
  rcases List.mem_append.mp hu with k | k
  · exact h.tm u k
  · rw [List.mem_singleton] at k
    rw [k]
    exact ⟨a, y, l⟩, by rw [List.length_append]; exact Nat.succ_le_succ h.few, h.sy, h.ln⟩
theorem BtL.up {n m z y : Nat} {cs : List Nat} {ts : List Tm} {g : List Wd} (h : BtL n cs z ts g) (a : n ≤ m) (b : z ≤ y) : BtL m cs y ts g := ⟨fun x hx => ⟨(h.tm x hx).1.up b, (h.tm x hx).2⟩, Nat.le_trans h.few a, h.sy, h.ln⟩
theorem F2.take {α β : Type} {R : α → β → Prop} {as : List α} {bs : List β} (h : F2 R as bs) : ∀ n, F2 R (as.take n) (bs.take n) := by
  induction h with
  | nil => intro n; rw [List.take_nil, List.take_nil]; exact .nil
  | cons r _ ih => intro n; cases n with
    | zero => exact .nil
    | succ n => exact .cons r (ih n)
theorem F2.drop {α β : Type} {R : α → β → Prop} {as : List α} {bs : List β} (h : F2 R as bs) : ∀ n, F2 R (as.drop n) (bs.drop n) := by
  induction h with
  | nil => intro n; rw [List.drop_nil, List.drop_nil]; exact .nil
  | cons r t ih => intro n; cases n with
    | zero => exact .cons r t
    | succ n => exact ih n
theorem F2.rep {α β : Type} {R : α → β → Prop} {a : α} {b : β} (r : R a b) : ∀ n, F2 R (List.replicate n a) (List.replicate n b)
  | 0 => .nil
  | n + 1 => .cons r (F2.rep r n)
theorem BtL.fill {z : Nat} {cs : List Nat} {ts : List Tm} {g : List Wd} {x : Tm} (h : BtL 7 cs z ts g) (a : Fok z x.a) (y : Sy cs x.w) (l : x.w.length ≤ 40) : BtL 8 cs z (ts ++ List.replicate (8 - ts.length) x) g := ⟨fun u hu => by
  rcases List.mem_append.mp hu with k | k
  · exact h.tm u k
  · rw [(List.mem_replicate.mp k).2]
    exact ⟨a, y, l⟩, by rw [List.length_append, List.length_replicate]; have := h.few; omega, h.sy, h.ln⟩
theorem BtL.cut {n z : Nat} {cs : List Nat} {ts : List Tm} {g : List Wd} (h : BtL n cs z ts g) (k : Nat) : BtL k cs z (ts.take k) g := ⟨fun x hx => h.tm x (List.mem_of_mem_take hx), by rw [List.length_take]; exact Nat.min_le_left _ _, h.sy, h.ln⟩
end B
namespace B
open PySem PySem.Spec PyProof.Rows L2
/-! ### fractions as numbers -/
def ql (p : Int × Nat) : Rat := mkRat p.1 p.2
theorem ql_inj {p q : Int × Nat} (hp : IsF p.1 p.2) (hq : IsF q.1 q.2) (e : ql p = ql q) : p = q := by
  have h := (Rat.mkRat_eq_iff (Nat.ne_of_gt hp.pos) (Nat.ne_of_gt hq.pos)).mp e
  have c := cop_one (T := p.1) (B := p.2) (T' := q.1) (B' := q.2) (by have := hp.pos; omega) (by have := hq.pos; omega) (by rw [Int.natAbs_natCast]; exact hp.cop) (by rw [Int.natAbs_natCast]; exact hq.cop) h
  exact Prod.ext c.1 (by have := c.2; omega)
theorem ql_low {t : Int} {b : Nat} (hb : 0 < b) : ql (lowT t b, lowBn t b) = mkRat t b := by
  have f := low_isF (t := t) hb
  refine (Rat.mkRat_eq_iff (Nat.ne_of_gt f.pos) (Nat.ne_of_gt hb)).mpr ?_
  show lowT t b * (b : Int) = t * (lowBn t b : Int)
  rw [← lowBn_eq hb]
  exact low_cross t b
theorem ql_add {p q : Int × Nat} (hp : 0 < p.2) (hq : 0 < q.2) : ql (addF p q) = ql p + ql q := by
  unfold ql
  rw [Rat.mkRat_add_mkRat _ _ (Nat.ne_of_gt hp) (Nat.ne_of_gt hq)]
  exact ql_low (Nat.mul_pos hp hq)
theorem ql_mul {p q : Int × Nat} (hp : 0 < p.2) (hq : 0 < q.2) : ql (mulF p q) = ql p * ql q := by
  unfold ql
  rw [Rat.mkRat_mul_mkRat]
  exact ql_low (Nat.mul_pos hp hq)
theorem ql_neg (p : Int × Nat) : ql (negF p) = -ql p := by
  unfold ql
  rw [Rat.neg_mkRat]
  rfl
theorem ql_zero : ql (0, 1) = 0 := by decide
theorem ql_one : ql (1, 1) = 1 := by decide
/-- a right fraction -/
def Fr (p : Int × Nat) : Prop := IsF p.1 p.2
theorem Fok.fr {n : Nat} {p : Int × Nat} (h : Fok n p) : Fr p := h.f
theorem Fr.add {p q : Int × Nat} (h : Fr p) (k : Fr q) : Fr (addF p q) := add_isF h.pos k.pos
theorem Fr.mul {p q : Int × Nat} (h : Fr p) (k : Fr q) : Fr (mulF p q) := mul_isF h.pos k.pos
theorem Fr.neg {p : Int × Nat} (h : Fr p) : Fr (negF p) := IsF.neg h
theorem Fr.zero : Fr (0, 1) := ⟨by decide, by decide⟩
theorem addF_comm {p q : Int × Nat} (h : Fr p) (k : Fr q) : addF p q = addF q p := ql_inj (h.add k) (k.add h) (by rw [ql_add h.pos k.pos, ql_add k.pos h.pos, Rat.add_comm])
theorem addF_assoc {p q r : Int × Nat} (h : Fr p) (k : Fr q) (l : Fr r) : addF (addF p q) r = addF p (addF q r) :=
  ql_inj ((h.add k).add l) (h.add (k.add l)) (by rw [ql_add (h.add k).pos l.pos, ql_add h.pos k.pos, ql_add h.pos (k.add l).pos, ql_add k.pos l.pos, Rat.add_assoc])
theorem addF_zero {p : Int × Nat} (h : Fr p) : addF p (0, 1) = p := ql_inj (h.add Fr.zero) h (by rw [ql_add h.pos Fr.zero.pos, ql_zero, Rat.add_zero])
theorem zero_addF {p : Int × Nat} (h : Fr p) : addF (0, 1) p = p := (addF_comm Fr.zero h).trans (addF_zero h)
theorem addF_mulF {p q s : Int × Nat} (h : Fr p) (k : Fr q) (l : Fr s) : addF (mulF p s) (mulF q s) = mulF (addF p q) s :=
  ql_inj ((h.mul l).add (k.mul l)) ((h.add k).mul l) (by rw [ql_add (h.mul l).pos (k.mul l).pos, ql_mul h.pos l.pos, ql_mul k.pos l.pos, ql_mul (h.add k).pos l.pos, ql_add h.pos k.pos, Rat.add_mul])
theorem mulF_assoc {p q r : Int × Nat} (h : Fr p) (k : Fr q) (l : Fr r) : mulF (mulF p q) r = mulF p (mulF q r) :=
  ql_inj ((h.mul k).mul l) (h.mul (k.mul l)) (by rw [ql_mul (h.mul k).pos l.pos, ql_mul h.pos k.pos, ql_mul h.pos (k.mul l).pos, ql_mul k.pos l.pos, Rat.mul_assoc])
theorem zero_mulF {s : Int × Nat} (l : Fr s) : mulF (0, 1) s = (0, 1) := ql_inj (Fr.zero.mul l) Fr.zero (by rw [ql_mul Fr.zero.pos l.pos, ql_zero, Rat.zero_mul])
theorem addF_neg {p : Int × Nat} (h : Fr p) : addF p (negF p) = (0, 1) := ql_inj (h.add h.neg) Fr.zero (by rw [ql_add h.pos h.neg.pos, ql_neg, ql_zero, Rat.add_neg_cancel])
theorem negF_add {p q : Int × Nat} (h : Fr p) (k : Fr q) : negF (addF p q) = addF (negF p) (negF q) := ql_inj (h.add k).neg (h.neg.add k.neg) (by rw [ql_neg, ql_add h.pos k.pos, ql_add h.neg.pos k.neg.pos, ql_neg, ql_neg, Rat.neg_add])
/-! ### what bets pay -/
theorem pay_fr (v : Nat → Bool) {ts : List Tm} (h : ∀ x ∈ ts, Fr x.a) : Fr (pay v ts) := by
  have : ∀ (ts : List Tm) (s : Int × Nat), Fr s → (∀ x ∈ ts, Fr x.a) → Fr (ts.foldl (fun s x => if sval v x.w then addF s x.a else s) s) := by
    intro ts
    induction ts with
    | nil => exact fun s hs _ => hs
    | cons x r ih =>
      intro s hs hx
      rw [List.foldl_cons]
      refine ih _ ?_ fun y hy => hx y (List.mem_cons_of_mem _ hy)
      split
      · exact hs.add (hx x List.mem_cons_self)
      · exact hs
  exact this ts _ Fr.zero h
theorem snoc_ind {α : Type} {P : List α → Prop} (h0 : P []) (h : ∀ l x, P l → P (l ++ [x])) (l : List α) : P l := by
  have : ∀ l : List α, P l.reverse := by
    intro l
    induction l with
    | nil => exact h0
    | cons x r ih => rw [List.reverse_cons]; exact h _ x ih
  have := this l.reverse
  rwa [List.reverse_reverse] at this
theorem pay_mul (v : Nat → Bool) {s : Int × Nat} (hs : Fr s) (ts : List Tm) : (∀ x ∈ ts, Fr x.a) → pay v (ts.map (mulTm s)) = mulF (pay v ts) s := by
  refine snoc_ind (P := fun ts => (∀ x ∈ ts, Fr x.a) → pay v (ts.map (mulTm s)) = mulF (pay v ts) s) (fun _ => (zero_mulF hs).symm) (fun l x ih hx => ?_) ts
  have hl := fun y hy => hx y (List.mem_append.mpr (.inl hy))
  have hx' := hx x (List.mem_append.mpr (.inr (List.mem_singleton.mpr rfl)))
  rw [List.map_append, List.map_cons, List.map_nil, pay_snoc, pay_snoc, ih hl]
  show (if sval v x.w then addF (mulF (pay v l) s) (mulF x.a s) else mulF (pay v l) s) = _
  split
  · exact addF_mulF (pay_fr v hl) hx' hs
  · rfl
theorem pay_neg (v : Nat → Bool) (ts : List Tm) : (∀ x ∈ ts, Fr x.a) → pay v (ts.map negT) = negF (pay v ts) := by
  refine snoc_ind (P := fun ts => (∀ x ∈ ts, Fr x.a) → pay v (ts.map negT) = negF (pay v ts)) (fun _ => rfl) (fun l x ih hx => ?_) ts
  have hl := fun y hy => hx y (List.mem_append.mpr (.inl hy))
  have hx' := hx x (List.mem_append.mpr (.inr (List.mem_singleton.mpr rfl)))
  rw [List.map_append, List.map_cons, List.map_nil, pay_snoc, pay_snoc, ih hl]
  show (if sval v x.w then addF (negF (pay v l)) (negF x.a) else negF (pay v l)) = _
  split
  · exact (negF_add (pay_fr v hl) hx').symm
  · rfl
theorem pay_app (v : Nat → Bool) {ts : List Tm} (ht : ∀ x ∈ ts, Fr x.a) (us : List Tm) : (∀ x ∈ us, Fr x.a) → pay v (ts ++ us) = addF (pay v ts) (pay v us) := by
  refine snoc_ind (P := fun us => (∀ x ∈ us, Fr x.a) → pay v (ts ++ us) = addF (pay v ts) (pay v us)) (fun _ => by rw [List.append_nil]; exact (addF_zero (pay_fr v ht)).symm) (fun l x ih hx => ?_) us
  have hl := fun y hy => hx y (List.mem_append.mpr (.inl hy))
  have hx' := hx x (List.mem_append.mpr (.inr (List.mem_singleton.mpr rfl)))
  rw [← List.append_assoc, pay_snoc, pay_snoc, ih hl]
  split
  · exact addF_assoc (pay_fr v ht) (pay_fr v hl) hx'
  · rfl
/-- a table of a bet, by the world -/
theorem tabO_congr {cs : List Nat} {ts us : List Tm} {g h : List Wd} {wl : List (List Bool)} (e : ∀ v, payO v ts g = payO v us h) : tabO cs ts g wl = tabO cs us h wl := List.map_congr_left fun bs _ => e _
def mulO (s : Int × Nat) (o : Option (Int × Nat)) : Option (Int × Nat) := o.map fun p => mulF p s
def addO (o r : Option (Int × Nat)) : Option (Int × Nat) := match o, r with
  | some p, some q => some (addF p q)
  | _, _ => none
theorem payO_mul (v : Nat → Bool) {s : Int × Nat} (hs : Fr s) {ts : List Tm} {g : List Wd} (h : ∀ x ∈ ts, Fr x.a) : payO v (ts.map (mulTm s)) g = mulO s (payO v ts g) := by
  unfold payO
  split
  · rw [pay_mul v hs ts h]; rfl
  · rfl
theorem payO_app (v : Nat → Bool) {ts us : List Tm} {g : List Wd} (h : ∀ x ∈ ts, Fr x.a) (k : ∀ x ∈ us, Fr x.a) : payO v (ts ++ us) g = addO (payO v ts g) (payO v us g) := by
  unfold payO
  split
  · rw [pay_app v h us k]; rfl
  · rfl
/-! ### tables as data -/
def tabdat (l : List (Option (Int × Nat))) : PyData := .tuple (l.map odat)
theorem odat_lay : ∀ o : Option (Int × Nat), (odat o).canLay0 = true ∧ (odat o).depth ≤ 1
  | none => ⟨rfl, Nat.zero_le _⟩
  | some _ => ⟨rfl, Nat.le_refl _⟩
theorem tab_shaped (l : List (Option (Int × Nat))) : SeqAt.shaped (tabdat l) = true := by
  have a : ∀ l : List (Option (Int × Nat)), PyData.canLayAll0 (l.map odat) = true ∧ PyData.depthAll (l.map odat) ≤ 1 := by
    intro l
    induction l with
    | nil => exact ⟨rfl, Nat.zero_le _⟩
    | cons x r ih =>
      have o := odat_lay x
      refine ⟨?_, ?_⟩
      · show (PyData.canLay0 (odat x) && PyData.canLayAll0 (r.map odat)) = true
        rw [o.1, ih.1]
        rfl
      · show max (odat x).depth (PyData.depthAll (r.map odat)) ≤ 1
        have := ih.2
        have := o.2
        omega
  have h := a l
  unfold SeqAt.shaped
  rw [show (tabdat l).canLay0 = true from h.1]
  have : (tabdat l).depth ≤ 64 := by
    show PyData.depthAll (l.map odat) + 1 ≤ 64
    have := h.2
    omega
  rw [decide_eq_true this]
  rfl
theorem tab_dp {K : PySem.W.Frag} {H : Hp} {p : Addr} {us : List V} {tab : List (Option (Int × Nat))} (t : SqT K H p us) (f : F2 (PdAt K H) us tab) : Dp K H (.ref p) (tabdat tab) := .tup t (f.dp fun _ _ h => h.dp)
theorem tab_eqv (a b : List (Option (Int × Nat))) : PyData.eqv (tabdat a) (tabdat b) = decide (a = b) := by
  have i : PyData.eqv (tabdat a) (tabdat b) = true ↔ a = b := eqvAll_iff odat_iff a b
  by_cases h : a = b
  · rw [i.mpr h, decide_eq_true h]
  · rw [eqv_false i h, decide_eq_false h]
/-- two tables, world by world -/
def opO (way : Nat) (o r : Option (Int × Nat)) : Option (Int × Nat) := match o, r with
  | some p, some q => some (if way = 0 then addF p q else mulF p q)
  | _, _ => none
theorem zipWith_take {α β γ : Type} {f : α → β → γ} {as : List α} {bs : List β} {i : Nat} {a : α} {b : β} (h : as[i]? = some a) (k : bs[i]? = some b) : (List.zipWith f as bs).take (i + 1) = (List.zipWith f as bs).take i ++ [f a b] := take_one _ _ _ (by rw [List.getElem?_zipWith, h, k])
theorem zipWith_same {α β γ δ : Type} (f : β → γ → δ) (a : α → β) (b : α → γ) : ∀ l : List α, List.zipWith f (l.map a) (l.map b) = l.map fun x => f (a x) (b x)
  | [] => rfl
  | x :: r => by
    rw [List.map_cons, List.map_cons, List.zipWith_cons_cons, zipWith_same f a b r]
    rfl
theorem tab_ok {cs : List Nat} {ts : List Tm} {g : List Wd} {wl : List (List Bool)} (h : BtOk cs ts g) : ∀ o ∈ tabO cs ts g wl, OOk 4000 o := fun o ho => by
  obtain ⟨bs, _, rfl⟩ := List.mem_map.mp ho
  exact OOk.up (payO_ok _ h) (by decide)
theorem BtL.app {n m z : Nat} {cs : List Nat} {ts us : List Tm} {g : List Wd} (h : BtL n cs z ts g) (k : BtL m cs z us g) : BtL (n + m) cs z (ts ++ us) g := ⟨fun u hu => by
  rcases List.mem_append.mp hu with a | a
  · exact h.tm u a
  · exact k.tm u a, by rw [List.length_append]; have := h.few; have := k.few; omega, h.sy, h.ln⟩
theorem nR_of {H : Hp} {R : Addr} (h : H R = none) : H R = none := h
end B
namespace B
open PySem PySem.Spec PyProof.Rows L2
/-! ### an own error made of nothing, held as a value -/
theorem pe_exc0 {X : Cx} {C : Addr} {bm : List Value} {Bn nw ini : String} {x : Str} {p pos : Pos} (F : ExcBaseFacts Bn nw ini bm) (own : PySem.W.excIn X.K C bm nw = true) (at_ : X.mg x = some (.ref C)) (kp : PySem.W.keepIn X.K (.ref C) = true)
    (gl : Gl X x) (nd : (x == ("__debug__" : Str)) = false := by decide) : PE X (.Call (.Name x p) [] [] pos) (fun _ H Q => ∀ a, H a = none → Q (.ref a) (upd H a (ExK (.ref C) a))) := by
  refine ⟨fun pins s σ H Q I want => ?_⟩
  refine wpAny_Call_Name_kw (ld_glob I gl at_ ?_ nd)
  refine PySem.W.callWith_K0 I.kIn kp ?_
  obtain ⟨_, _, _, _, _, _, _, _, _, _, _, _, _, _, _, _, _, c1, c2, c3, c4⟩ := exc_obj I.kIn own
  refine wpAny_call_exc_subT (rest := []) F c4 c1 c2 c3 (fun h' a made => ?_) (Nat.zero_le _)
  have hn : H a = none := I.hok.gone made.new
  obtain ⟨t, ht, _, _⟩ := made.there
  exact ⟨.ref a, upd H a (ExK (.ref C) a), I.laidN made.keeps made.new hn (exK_ok ht ⟨rfl, rfl⟩ rfl), rfl, want a hn⟩
/-- the names of the own errors -/
def errN : List Str := ["Fair", "NoBet", "NoCover", "NoDeed", "NoHolder", "NoSaying", "NoStake", "NoStep", "NoText", "NoTicket", "NoWorld", "NotAlike", "StallError", "TooLong", "TooMany", "Unfair"]
/-- the class of that number -/
def XN (K : PySem.W.Frag) (n : Nat) (C : Addr) : Prop := ∃ x, errN[n]? = some x ∧ XIs K x C
def hit (n j : Nat) : Bool := decide (j = n) || decide (j = 12)
def hits (n : Nat) : List V := (List.range 16).map fun j => V.bl (hit n j)
end B
namespace B
open PySem PySem.Spec PyProof.Rows L2
def topS (i : Nat) : Stmt := PySem.Challenge.pw_betstall_k11_refusals_by_hand.main.body.getD i (.Pass ⟨0, 0, 0, 0⟩)
abbrev s_short_enough : Stmt := topS 19
abbrev N_short_enough : List Str := ["words"]
theorem sc_short_enough : FnScope ["words"] ["words"] (defScope s_short_enough) := ⟨rfl, rfl, rfl, by decide +kernel, rfl, by decide +kernel, by decide +kernel⟩
abbrev s_not_so : Stmt := topS 20
abbrev N_not_so : List Str := ["one"]
theorem sc_not_so : FnScope ["one"] ["one"] (defScope s_not_so) := ⟨rfl, rfl, rfl, by decide +kernel, rfl, by decide +kernel, by decide +kernel⟩
abbrev s_l_draws : Stmt := topS 22
abbrev N_l_draws : List Str := ["_law_script", "_law_cells", "_law_cell"]
theorem sc_l_draws : FnScope ["_law_script", "_law_cells", "_law_cell"] ["_law_script"] (defScope s_l_draws) := ⟨rfl, rfl, rfl, by decide +kernel, rfl, by decide +kernel, by decide +kernel⟩
abbrev s_l_next : Stmt := topS 23
abbrev N_l_next : List Str := ["_law_drawn", "_law_many", "_law_cells", "_law_count", "_law_rests", "_law_at", "_law_digit", "_law_primes", "_law_mixed", "_law_more"]
theorem sc_l_next : FnScope ["_law_drawn", "_law_many", "_law_cells", "_law_count", "_law_rests", "_law_at", "_law_digit", "_law_primes", "_law_mixed", "_law_more"] ["_law_drawn", "_law_many"] (defScope s_l_next) := ⟨rfl, rfl, rfl, by decide +kernel, rfl, by decide +kernel, by decide +kernel⟩
abbrev s_l_made : Stmt := topS 25
abbrev N_l_made : List Str := ["_law_number"]
theorem sc_l_made : FnScope ["_law_number"] ["_law_number"] (defScope s_l_made) := ⟨rfl, rfl, rfl, by decide +kernel, rfl, by decide +kernel, by decide +kernel⟩
abbrev s_l_classes : Stmt := topS 26
abbrev N_l_classes : List Str := ["_law_error", "_law_found"]
theorem sc_l_classes : FnScope ["_law_error", "_law_found"] ["_law_error"] (defScope s_l_classes) := ⟨rfl, rfl, rfl, by decide +kernel, rfl, by decide +kernel, by decide +kernel⟩
abbrev s_l_right : Stmt := topS 27
abbrev N_l_right : List Str := ["_law_number", "_law_error", "_law_at"]
theorem sc_l_right : FnScope ["_law_number", "_law_error", "_law_at"] ["_law_number"] (defScope s_l_right) := ⟨rfl, rfl, rfl, by decide +kernel, rfl, by decide +kernel, by decide +kernel⟩
abbrev s_l_refused : Stmt := topS 28
abbrev N_l_refused : List Str := ["_law_saying", "_law_long", "_law_error"]
theorem sc_l_refused : FnScope ["_law_saying", "_law_long", "_law_error"] ["_law_saying"] (defScope s_l_refused) := ⟨rfl, rfl, rfl, by decide +kernel, rfl, by decide +kernel, by decide +kernel⟩
abbrev s_law : Stmt := topS 29
abbrev N_law : List Str := ["_law_script", "_law_drawn", "_law_letter", "_law_saying", "_law_longer", "_law_k", "_law_number"]
theorem sc_law : FnScope ["_law_script", "_law_drawn", "_law_letter", "_law_saying", "_law_longer", "_law_k", "_law_number"] ["_law_script"] (defScope s_law) := ⟨rfl, rfl, rfl, by decide +kernel, rfl, by decide +kernel, by decide +kernel⟩
structure Tx (K : PySem.W.Frag) (mg : Str → Option Value) where
  short_enough : Df K mg "short_enough" s_short_enough ["words"]
  not_so : Df K mg "not_so" s_not_so ["one"]
  l_draws : Df K mg "_law_draws" s_l_draws ["_law_script"]
  l_next : Df K mg "_law_next" s_l_next ["_law_drawn", "_law_many"]
  l_made : Df K mg "_law_made" s_l_made ["_law_number"]
  l_classes : Df K mg "_law_classes" s_l_classes ["_law_error"]
  l_right : Df K mg "_law_right" s_l_right ["_law_number"]
  l_refused : Df K mg "_law_refused" s_l_refused ["_law_saying"]
  law : Df K mg "law" s_law ["_law_script"]
  m_IndexError : mg "IndexError" = none
  m_KeyError : mg "KeyError" = none
  m_ValueError : mg "ValueError" = none
  m_ZeroDivisionError : mg "ZeroDivisionError" = none
  m_int : mg "int" = none
  m_isinstance : mg "isinstance" = none
  m_len : mg "len" = none
  m_list : mg "list" = none
  m_range : mg "range" = none
  t_MOST_WORDS : Tok
  g_MOST_WORDS : mg "MOST_WORDS" = some (.int 40 t_MOST_WORDS)
  x_StallError : Xc K mg "StallError"
  x_TooLong : Xc K mg "TooLong"
  x_TooMany : Xc K mg "TooMany"
  x_NoWorld : Xc K mg "NoWorld"
  x_NotAlike : Xc K mg "NotAlike"
  x_Unfair : Xc K mg "Unfair"
  x_Fair : Xc K mg "Fair"
  x_NoBet : Xc K mg "NoBet"
  x_NoHolder : Xc K mg "NoHolder"
  x_NoStake : Xc K mg "NoStake"
  x_NoTicket : Xc K mg "NoTicket"
  x_NoCover : Xc K mg "NoCover"
  x_NoSaying : Xc K mg "NoSaying"
  x_NoDeed : Xc K mg "NoDeed"
  x_NoStep : Xc K mg "NoStep"
  x_NoText : Xc K mg "NoText"
  i_Fair_StallError : PySem.W.subIn K (.ref x_Fair.C) (.ref x_StallError.C) = some true
  i_Fair_TooLong : PySem.W.subIn K (.ref x_Fair.C) (.ref x_TooLong.C) = some false
  i_Fair_TooMany : PySem.W.subIn K (.ref x_Fair.C) (.ref x_TooMany.C) = some false
  i_Fair_NoWorld : PySem.W.subIn K (.ref x_Fair.C) (.ref x_NoWorld.C) = some false
  i_Fair_NotAlike : PySem.W.subIn K (.ref x_Fair.C) (.ref x_NotAlike.C) = some false
  i_Fair_Unfair : PySem.W.subIn K (.ref x_Fair.C) (.ref x_Unfair.C) = some false
  i_Fair_Fair : PySem.W.subIn K (.ref x_Fair.C) (.ref x_Fair.C) = some true
  i_Fair_NoBet : PySem.W.subIn K (.ref x_Fair.C) (.ref x_NoBet.C) = some false
  i_Fair_NoHolder : PySem.W.subIn K (.ref x_Fair.C) (.ref x_NoHolder.C) = some false
  i_Fair_NoStake : PySem.W.subIn K (.ref x_Fair.C) (.ref x_NoStake.C) = some false
  i_Fair_NoTicket : PySem.W.subIn K (.ref x_Fair.C) (.ref x_NoTicket.C) = some false
  i_Fair_NoCover : PySem.W.subIn K (.ref x_Fair.C) (.ref x_NoCover.C) = some false
  i_Fair_NoSaying : PySem.W.subIn K (.ref x_Fair.C) (.ref x_NoSaying.C) = some false
  i_Fair_NoDeed : PySem.W.subIn K (.ref x_Fair.C) (.ref x_NoDeed.C) = some false
  i_Fair_NoStep : PySem.W.subIn K (.ref x_Fair.C) (.ref x_NoStep.C) = some false
  i_Fair_NoText : PySem.W.subIn K (.ref x_Fair.C) (.ref x_NoText.C) = some false
  v_Fair : PySem.W.subIn K (.ref x_Fair.C) (.type "ValueError") = some true
  w_Fair_IndexError : PySem.W.subIn K (.ref x_Fair.C) (.type "IndexError") = some false
  w_Fair_KeyError : PySem.W.subIn K (.ref x_Fair.C) (.type "KeyError") = some false
  w_Fair_ZeroDivisionError : PySem.W.subIn K (.ref x_Fair.C) (.type "ZeroDivisionError") = some false
  i_NoBet_StallError : PySem.W.subIn K (.ref x_NoBet.C) (.ref x_StallError.C) = some true
  i_NoBet_TooLong : PySem.W.subIn K (.ref x_NoBet.C) (.ref x_TooLong.C) = some false
  i_NoBet_TooMany : PySem.W.subIn K (.ref x_NoBet.C) (.ref x_TooMany.C) = some false
  i_NoBet_NoWorld : PySem.W.subIn K (.ref x_NoBet.C) (.ref x_NoWorld.C) = some false
  i_NoBet_NotAlike : PySem.W.subIn K (.ref x_NoBet.C) (.ref x_NotAlike.C) = some false
  i_NoBet_Unfair : PySem.W.subIn K (.ref x_NoBet.C) (.ref x_Unfair.C) = some false
  i_NoBet_Fair : PySem.W.subIn K (.ref x_NoBet.C) (.ref x_Fair.C) = some false
  i_NoBet_NoBet : PySem.W.subIn K (.ref x_NoBet.C) (.ref x_NoBet.C) = some true
  i_NoBet_NoHolder : PySem.W.subIn K (.ref x_NoBet.C) (.ref x_NoHolder.C) = some false
  i_NoBet_NoStake : PySem.W.subIn K (.ref x_NoBet.C) (.ref x_NoStake.C) = some false
  i_NoBet_NoTicket : PySem.W.subIn K (.ref x_NoBet.C) (.ref x_NoTicket.C) = some false
  i_NoBet_NoCover : PySem.W.subIn K (.ref x_NoBet.C) (.ref x_NoCover.C) = some false
  i_NoBet_NoSaying : PySem.W.subIn K (.ref x_NoBet.C) (.ref x_NoSaying.C) = some false
  i_NoBet_NoDeed : PySem.W.subIn K (.ref x_NoBet.C) (.ref x_NoDeed.C) = some false
  i_NoBet_NoStep : PySem.W.subIn K (.ref x_NoBet.C) (.ref x_NoStep.C) = some false
  i_NoBet_NoText : PySem.W.subIn K (.ref x_NoBet.C) (.ref x_NoText.C) = some false
  v_NoBet : PySem.W.subIn K (.ref x_NoBet.C) (.type "ValueError") = some true
  w_NoBet_IndexError : PySem.W.subIn K (.ref x_NoBet.C) (.type "IndexError") = some false
  w_NoBet_KeyError : PySem.W.subIn K (.ref x_NoBet.C) (.type "KeyError") = some false
  w_NoBet_ZeroDivisionError : PySem.W.subIn K (.ref x_NoBet.C) (.type "ZeroDivisionError") = some false
  i_NoCover_StallError : PySem.W.subIn K (.ref x_NoCover.C) (.ref x_StallError.C) = some true
  i_NoCover_TooLong : PySem.W.subIn K (.ref x_NoCover.C) (.ref x_TooLong.C) = some false
  i_NoCover_TooMany : PySem.W.subIn K (.ref x_NoCover.C) (.ref x_TooMany.C) = some false
  i_NoCover_NoWorld : PySem.W.subIn K (.ref x_NoCover.C) (.ref x_NoWorld.C) = some false
  i_NoCover_NotAlike : PySem.W.subIn K (.ref x_NoCover.C) (.ref x_NotAlike.C) = some false
  i_NoCover_Unfair : PySem.W.subIn K (.ref x_NoCover.C) (.ref x_Unfair.C) = some false
  i_NoCover_Fair : PySem.W.subIn K (.ref x_NoCover.C) (.ref x_Fair.C) = some false
  i_NoCover_NoBet : PySem.W.subIn K (.ref x_NoCover.C) (.ref x_NoBet.C) = some false
  i_NoCover_NoHolder : PySem.W.subIn K (.ref x_NoCover.C) (.ref x_NoHolder.C) = some false
  i_NoCover_NoStake : PySem.W.subIn K (.ref x_NoCover.C) (.ref x_NoStake.C) = some false
  i_NoCover_NoTicket : PySem.W.subIn K (.ref x_NoCover.C) (.ref x_NoTicket.C) = some false
  i_NoCover_NoCover : PySem.W.subIn K (.ref x_NoCover.C) (.ref x_NoCover.C) = some true
  i_NoCover_NoSaying : PySem.W.subIn K (.ref x_NoCover.C) (.ref x_NoSaying.C) = some false
  i_NoCover_NoDeed : PySem.W.subIn K (.ref x_NoCover.C) (.ref x_NoDeed.C) = some false
  i_NoCover_NoStep : PySem.W.subIn K (.ref x_NoCover.C) (.ref x_NoStep.C) = some false
  i_NoCover_NoText : PySem.W.subIn K (.ref x_NoCover.C) (.ref x_NoText.C) = some false
  v_NoCover : PySem.W.subIn K (.ref x_NoCover.C) (.type "ValueError") = some true
  w_NoCover_IndexError : PySem.W.subIn K (.ref x_NoCover.C) (.type "IndexError") = some false
  w_NoCover_KeyError : PySem.W.subIn K (.ref x_NoCover.C) (.type "KeyError") = some false
  w_NoCover_ZeroDivisionError : PySem.W.subIn K (.ref x_NoCover.C) (.type "ZeroDivisionError") = some false
  i_NoDeed_StallError : PySem.W.subIn K (.ref x_NoDeed.C) (.ref x_StallError.C) = some true
  i_NoDeed_TooLong : PySem.W.subIn K (.ref x_NoDeed.C) (.ref x_TooLong.C) = some false
  i_NoDeed_TooMany : PySem.W.subIn K (.ref x_NoDeed.C) (.ref x_TooMany.C) = some false
  i_NoDeed_NoWorld : PySem.W.subIn K (.ref x_NoDeed.C) (.ref x_NoWorld.C) = some false
  i_NoDeed_NotAlike : PySem.W.subIn K (.ref x_NoDeed.C) (.ref x_NotAlike.C) = some false
  i_NoDeed_Unfair : PySem.W.subIn K (.ref x_NoDeed.C) (.ref x_Unfair.C) = some false
  i_NoDeed_Fair : PySem.W.subIn K (.ref x_NoDeed.C) (.ref x_Fair.C) = some false
  i_NoDeed_NoBet : PySem.W.subIn K (.ref x_NoDeed.C) (.ref x_NoBet.C) = some false
  i_NoDeed_NoHolder : PySem.W.subIn K (.ref x_NoDeed.C) (.ref x_NoHolder.C) = some false
  i_NoDeed_NoStake : PySem.W.subIn K (.ref x_NoDeed.C) (.ref x_NoStake.C) = some false
  i_NoDeed_NoTicket : PySem.W.subIn K (.ref x_NoDeed.C) (.ref x_NoTicket.C) = some false
  i_NoDeed_NoCover : PySem.W.subIn K (.ref x_NoDeed.C) (.ref x_NoCover.C) = some false
  i_NoDeed_NoSaying : PySem.W.subIn K (.ref x_NoDeed.C) (.ref x_NoSaying.C) = some false
  i_NoDeed_NoDeed : PySem.W.subIn K (.ref x_NoDeed.C) (.ref x_NoDeed.C) = some true
  i_NoDeed_NoStep : PySem.W.subIn K (.ref x_NoDeed.C) (.ref x_NoStep.C) = some false
  i_NoDeed_NoText : PySem.W.subIn K (.ref x_NoDeed.C) (.ref x_NoText.C) = some false
  v_NoDeed : PySem.W.subIn K (.ref x_NoDeed.C) (.type "ValueError") = some true
  w_NoDeed_IndexError : PySem.W.subIn K (.ref x_NoDeed.C) (.type "IndexError") = some false
  w_NoDeed_KeyError : PySem.W.subIn K (.ref x_NoDeed.C) (.type "KeyError") = some false
  w_NoDeed_ZeroDivisionError : PySem.W.subIn K (.ref x_NoDeed.C) (.type "ZeroDivisionError") = some false
  i_NoHolder_StallError : PySem.W.subIn K (.ref x_NoHolder.C) (.ref x_StallError.C) = some true
  i_NoHolder_TooLong : PySem.W.subIn K (.ref x_NoHolder.C) (.ref x_TooLong.C) = some false
  i_NoHolder_TooMany : PySem.W.subIn K (.ref x_NoHolder.C) (.ref x_TooMany.C) = some false
  i_NoHolder_NoWorld : PySem.W.subIn K (.ref x_NoHolder.C) (.ref x_NoWorld.C) = some false
  i_NoHolder_NotAlike : PySem.W.subIn K (.ref x_NoHolder.C) (.ref x_NotAlike.C) = some false
  i_NoHolder_Unfair : PySem.W.subIn K (.ref x_NoHolder.C) (.ref x_Unfair.C) = some false
  i_NoHolder_Fair : PySem.W.subIn K (.ref x_NoHolder.C) (.ref x_Fair.C) = some false
  i_NoHolder_NoBet : PySem.W.subIn K (.ref x_NoHolder.C) (.ref x_NoBet.C) = some false
  i_NoHolder_NoHolder : PySem.W.subIn K (.ref x_NoHolder.C) (.ref x_NoHolder.C) = some true
  i_NoHolder_NoStake : PySem.W.subIn K (.ref x_NoHolder.C) (.ref x_NoStake.C) = some false
  i_NoHolder_NoTicket : PySem.W.subIn K (.ref x_NoHolder.C) (.ref x_NoTicket.C) = some false
  i_NoHolder_NoCover : PySem.W.subIn K (.ref x_NoHolder.C) (.ref x_NoCover.C) = some false
  i_NoHolder_NoSaying : PySem.W.subIn K (.ref x_NoHolder.C) (.ref x_NoSaying.C) = some false
  i_NoHolder_NoDeed : PySem.W.subIn K (.ref x_NoHolder.C) (.ref x_NoDeed.C) = some false
  i_NoHolder_NoStep : PySem.W.subIn K (.ref x_NoHolder.C) (.ref x_NoStep.C) = some false
  i_NoHolder_NoText : PySem.W.subIn K (.ref x_NoHolder.C) (.ref x_NoText.C) = some false
  v_NoHolder : PySem.W.subIn K (.ref x_NoHolder.C) (.type "ValueError") = some true
  w_NoHolder_IndexError : PySem.W.subIn K (.ref x_NoHolder.C) (.type "IndexError") = some false
  w_NoHolder_KeyError : PySem.W.subIn K (.ref x_NoHolder.C) (.type "KeyError") = some false
  w_NoHolder_ZeroDivisionError : PySem.W.subIn K (.ref x_NoHolder.C) (.type "ZeroDivisionError") = some false
  i_NoSaying_StallError : PySem.W.subIn K (.ref x_NoSaying.C) (.ref x_StallError.C) = some true
  i_NoSaying_TooLong : PySem.W.subIn K (.ref x_NoSaying.C) (.ref x_TooLong.C) = some false
  i_NoSaying_TooMany : PySem.W.subIn K (.ref x_NoSaying.C) (.ref x_TooMany.C) = some false
  i_NoSaying_NoWorld : PySem.W.subIn K (.ref x_NoSaying.C) (.ref x_NoWorld.C) = some false
  i_NoSaying_NotAlike : PySem.W.subIn K (.ref x_NoSaying.C) (.ref x_NotAlike.C) = some false
  i_NoSaying_Unfair : PySem.W.subIn K (.ref x_NoSaying.C) (.ref x_Unfair.C) = some false
  i_NoSaying_Fair : PySem.W.subIn K (.ref x_NoSaying.C) (.ref x_Fair.C) = some false
  i_NoSaying_NoBet : PySem.W.subIn K (.ref x_NoSaying.C) (.ref x_NoBet.C) = some false
  i_NoSaying_NoHolder : PySem.W.subIn K (.ref x_NoSaying.C) (.ref x_NoHolder.C) = some false
  i_NoSaying_NoStake : PySem.W.subIn K (.ref x_NoSaying.C) (.ref x_NoStake.C) = some false
  i_NoSaying_NoTicket : PySem.W.subIn K (.ref x_NoSaying.C) (.ref x_NoTicket.C) = some false
  i_NoSaying_NoCover : PySem.W.subIn K (.ref x_NoSaying.C) (.ref x_NoCover.C) = some false
  i_NoSaying_NoSaying : PySem.W.subIn K (.ref x_NoSaying.C) (.ref x_NoSaying.C) = some true
  i_NoSaying_NoDeed : PySem.W.subIn K (.ref x_NoSaying.C) (.ref x_NoDeed.C) = some false
  i_NoSaying_NoStep : PySem.W.subIn K (.ref x_NoSaying.C) (.ref x_NoStep.C) = some false
  i_NoSaying_NoText : PySem.W.subIn K (.ref x_NoSaying.C) (.ref x_NoText.C) = some false
  v_NoSaying : PySem.W.subIn K (.ref x_NoSaying.C) (.type "ValueError") = some true
  w_NoSaying_IndexError : PySem.W.subIn K (.ref x_NoSaying.C) (.type "IndexError") = some false
  w_NoSaying_KeyError : PySem.W.subIn K (.ref x_NoSaying.C) (.type "KeyError") = some false
  w_NoSaying_ZeroDivisionError : PySem.W.subIn K (.ref x_NoSaying.C) (.type "ZeroDivisionError") = some false
  i_NoStake_StallError : PySem.W.subIn K (.ref x_NoStake.C) (.ref x_StallError.C) = some true
  i_NoStake_TooLong : PySem.W.subIn K (.ref x_NoStake.C) (.ref x_TooLong.C) = some false
  i_NoStake_TooMany : PySem.W.subIn K (.ref x_NoStake.C) (.ref x_TooMany.C) = some false
  i_NoStake_NoWorld : PySem.W.subIn K (.ref x_NoStake.C) (.ref x_NoWorld.C) = some false
  i_NoStake_NotAlike : PySem.W.subIn K (.ref x_NoStake.C) (.ref x_NotAlike.C) = some false
  i_NoStake_Unfair : PySem.W.subIn K (.ref x_NoStake.C) (.ref x_Unfair.C) = some false
  i_NoStake_Fair : PySem.W.subIn K (.ref x_NoStake.C) (.ref x_Fair.C) = some false
  i_NoStake_NoBet : PySem.W.subIn K (.ref x_NoStake.C) (.ref x_NoBet.C) = some false
  i_NoStake_NoHolder : PySem.W.subIn K (.ref x_NoStake.C) (.ref x_NoHolder.C) = some false
  i_NoStake_NoStake : PySem.W.subIn K (.ref x_NoStake.C) (.ref x_NoStake.C) = some true
  i_NoStake_NoTicket : PySem.W.subIn K (.ref x_NoStake.C) (.ref x_NoTicket.C) = some false
  i_NoStake_NoCover : PySem.W.subIn K (.ref x_NoStake.C) (.ref x_NoCover.C) = some false
  i_NoStake_NoSaying : PySem.W.subIn K (.ref x_NoStake.C) (.ref x_NoSaying.C) = some false
  i_NoStake_NoDeed : PySem.W.subIn K (.ref x_NoStake.C) (.ref x_NoDeed.C) = some false
  i_NoStake_NoStep : PySem.W.subIn K (.ref x_NoStake.C) (.ref x_NoStep.C) = some false
  i_NoStake_NoText : PySem.W.subIn K (.ref x_NoStake.C) (.ref x_NoText.C) = some false
  v_NoStake : PySem.W.subIn K (.ref x_NoStake.C) (.type "ValueError") = some true
  w_NoStake_IndexError : PySem.W.subIn K (.ref x_NoStake.C) (.type "IndexError") = some false
  w_NoStake_KeyError : PySem.W.subIn K (.ref x_NoStake.C) (.type "KeyError") = some false
  w_NoStake_ZeroDivisionError : PySem.W.subIn K (.ref x_NoStake.C) (.type "ZeroDivisionError") = some false
  i_NoStep_StallError : PySem.W.subIn K (.ref x_NoStep.C) (.ref x_StallError.C) = some true
  i_NoStep_TooLong : PySem.W.subIn K (.ref x_NoStep.C) (.ref x_TooLong.C) = some false
  i_NoStep_TooMany : PySem.W.subIn K (.ref x_NoStep.C) (.ref x_TooMany.C) = some false
  i_NoStep_NoWorld : PySem.W.subIn K (.ref x_NoStep.C) (.ref x_NoWorld.C) = some false
  i_NoStep_NotAlike : PySem.W.subIn K (.ref x_NoStep.C) (.ref x_NotAlike.C) = some false
  i_NoStep_Unfair : PySem.W.subIn K (.ref x_NoStep.C) (.ref x_Unfair.C) = some false
  i_NoStep_Fair : PySem.W.subIn K (.ref x_NoStep.C) (.ref x_Fair.C) = some false
  i_NoStep_NoBet : PySem.W.subIn K (.ref x_NoStep.C) (.ref x_NoBet.C) = some false
  i_NoStep_NoHolder : PySem.W.subIn K (.ref x_NoStep.C) (.ref x_NoHolder.C) = some false
  i_NoStep_NoStake : PySem.W.subIn K (.ref x_NoStep.C) (.ref x_NoStake.C) = some false
  i_NoStep_NoTicket : PySem.W.subIn K (.ref x_NoStep.C) (.ref x_NoTicket.C) = some false
  i_NoStep_NoCover : PySem.W.subIn K (.ref x_NoStep.C) (.ref x_NoCover.C) = some false
  i_NoStep_NoSaying : PySem.W.subIn K (.ref x_NoStep.C) (.ref x_NoSaying.C) = some false
  i_NoStep_NoDeed : PySem.W.subIn K (.ref x_NoStep.C) (.ref x_NoDeed.C) = some false
  i_NoStep_NoStep : PySem.W.subIn K (.ref x_NoStep.C) (.ref x_NoStep.C) = some true
  i_NoStep_NoText : PySem.W.subIn K (.ref x_NoStep.C) (.ref x_NoText.C) = some false
  v_NoStep : PySem.W.subIn K (.ref x_NoStep.C) (.type "ValueError") = some true
  w_NoStep_IndexError : PySem.W.subIn K (.ref x_NoStep.C) (.type "IndexError") = some false
  w_NoStep_KeyError : PySem.W.subIn K (.ref x_NoStep.C) (.type "KeyError") = some false
  w_NoStep_ZeroDivisionError : PySem.W.subIn K (.ref x_NoStep.C) (.type "ZeroDivisionError") = some false
  i_NoText_StallError : PySem.W.subIn K (.ref x_NoText.C) (.ref x_StallError.C) = some true
  i_NoText_TooLong : PySem.W.subIn K (.ref x_NoText.C) (.ref x_TooLong.C) = some false
  i_NoText_TooMany : PySem.W.subIn K (.ref x_NoText.C) (.ref x_TooMany.C) = some false
  i_NoText_NoWorld : PySem.W.subIn K (.ref x_NoText.C) (.ref x_NoWorld.C) = some false
  i_NoText_NotAlike : PySem.W.subIn K (.ref x_NoText.C) (.ref x_NotAlike.C) = some false
  i_NoText_Unfair : PySem.W.subIn K (.ref x_NoText.C) (.ref x_Unfair.C) = some false
  i_NoText_Fair : PySem.W.subIn K (.ref x_NoText.C) (.ref x_Fair.C) = some false
  i_NoText_NoBet : PySem.W.subIn K (.ref x_NoText.C) (.ref x_NoBet.C) = some false
  i_NoText_NoHolder : PySem.W.subIn K (.ref x_NoText.C) (.ref x_NoHolder.C) = some false
  i_NoText_NoStake : PySem.W.subIn K (.ref x_NoText.C) (.ref x_NoStake.C) = some false
  i_NoText_NoTicket : PySem.W.subIn K (.ref x_NoText.C) (.ref x_NoTicket.C) = some false
  i_NoText_NoCover : PySem.W.subIn K (.ref x_NoText.C) (.ref x_NoCover.C) = some false
  i_NoText_NoSaying : PySem.W.subIn K (.ref x_NoText.C) (.ref x_NoSaying.C) = some false
  i_NoText_NoDeed : PySem.W.subIn K (.ref x_NoText.C) (.ref x_NoDeed.C) = some false
  i_NoText_NoStep : PySem.W.subIn K (.ref x_NoText.C) (.ref x_NoStep.C) = some false
  i_NoText_NoText : PySem.W.subIn K (.ref x_NoText.C) (.ref x_NoText.C) = some true
  v_NoText : PySem.W.subIn K (.ref x_NoText.C) (.type "ValueError") = some true
  w_NoText_IndexError : PySem.W.subIn K (.ref x_NoText.C) (.type "IndexError") = some false
  w_NoText_KeyError : PySem.W.subIn K (.ref x_NoText.C) (.type "KeyError") = some false
  w_NoText_ZeroDivisionError : PySem.W.subIn K (.ref x_NoText.C) (.type "ZeroDivisionError") = some false
  i_NoTicket_StallError : PySem.W.subIn K (.ref x_NoTicket.C) (.ref x_StallError.C) = some true
  i_NoTicket_TooLong : PySem.W.subIn K (.ref x_NoTicket.C) (.ref x_TooLong.C) = some false
  i_NoTicket_TooMany : PySem.W.subIn K (.ref x_NoTicket.C) (.ref x_TooMany.C) = some false
  i_NoTicket_NoWorld : PySem.W.subIn K (.ref x_NoTicket.C) (.ref x_NoWorld.C) = some false
  i_NoTicket_NotAlike : PySem.W.subIn K (.ref x_NoTicket.C) (.ref x_NotAlike.C) = some false
  i_NoTicket_Unfair : PySem.W.subIn K (.ref x_NoTicket.C) (.ref x_Unfair.C) = some false
  i_NoTicket_Fair : PySem.W.subIn K (.ref x_NoTicket.C) (.ref x_Fair.C) = some false
  i_NoTicket_NoBet : PySem.W.subIn K (.ref x_NoTicket.C) (.ref x_NoBet.C) = some false
  i_NoTicket_NoHolder : PySem.W.subIn K (.ref x_NoTicket.C) (.ref x_NoHolder.C) = some false
  i_NoTicket_NoStake : PySem.W.subIn K (.ref x_NoTicket.C) (.ref x_NoStake.C) = some false
  i_NoTicket_NoTicket : PySem.W.subIn K (.ref x_NoTicket.C) (.ref x_NoTicket.C) = some true
  i_NoTicket_NoCover : PySem.W.subIn K (.ref x_NoTicket.C) (.ref x_NoCover.C) = some false
  i_NoTicket_NoSaying : PySem.W.subIn K (.ref x_NoTicket.C) (.ref x_NoSaying.C) = some false
  i_NoTicket_NoDeed : PySem.W.subIn K (.ref x_NoTicket.C) (.ref x_NoDeed.C) = some false
  i_NoTicket_NoStep : PySem.W.subIn K (.ref x_NoTicket.C) (.ref x_NoStep.C) = some false
  i_NoTicket_NoText : PySem.W.subIn K (.ref x_NoTicket.C) (.ref x_NoText.C) = some false
  v_NoTicket : PySem.W.subIn K (.ref x_NoTicket.C) (.type "ValueError") = some true
  w_NoTicket_IndexError : PySem.W.subIn K (.ref x_NoTicket.C) (.type "IndexError") = some false
  w_NoTicket_KeyError : PySem.W.subIn K (.ref x_NoTicket.C) (.type "KeyError") = some false
  w_NoTicket_ZeroDivisionError : PySem.W.subIn K (.ref x_NoTicket.C) (.type "ZeroDivisionError") = some false
  i_NoWorld_StallError : PySem.W.subIn K (.ref x_NoWorld.C) (.ref x_StallError.C) = some true
  i_NoWorld_TooLong : PySem.W.subIn K (.ref x_NoWorld.C) (.ref x_TooLong.C) = some false
  i_NoWorld_TooMany : PySem.W.subIn K (.ref x_NoWorld.C) (.ref x_TooMany.C) = some false
  i_NoWorld_NoWorld : PySem.W.subIn K (.ref x_NoWorld.C) (.ref x_NoWorld.C) = some true
  i_NoWorld_NotAlike : PySem.W.subIn K (.ref x_NoWorld.C) (.ref x_NotAlike.C) = some false
  i_NoWorld_Unfair : PySem.W.subIn K (.ref x_NoWorld.C) (.ref x_Unfair.C) = some false
  i_NoWorld_Fair : PySem.W.subIn K (.ref x_NoWorld.C) (.ref x_Fair.C) = some false
  i_NoWorld_NoBet : PySem.W.subIn K (.ref x_NoWorld.C) (.ref x_NoBet.C) = some false
  i_NoWorld_NoHolder : PySem.W.subIn K (.ref x_NoWorld.C) (.ref x_NoHolder.C) = some false
  i_NoWorld_NoStake : PySem.W.subIn K (.ref x_NoWorld.C) (.ref x_NoStake.C) = some false
  i_NoWorld_NoTicket : PySem.W.subIn K (.ref x_NoWorld.C) (.ref x_NoTicket.C) = some false
  i_NoWorld_NoCover : PySem.W.subIn K (.ref x_NoWorld.C) (.ref x_NoCover.C) = some false
  i_NoWorld_NoSaying : PySem.W.subIn K (.ref x_NoWorld.C) (.ref x_NoSaying.C) = some false
  i_NoWorld_NoDeed : PySem.W.subIn K (.ref x_NoWorld.C) (.ref x_NoDeed.C) = some false
  i_NoWorld_NoStep : PySem.W.subIn K (.ref x_NoWorld.C) (.ref x_NoStep.C) = some false
  i_NoWorld_NoText : PySem.W.subIn K (.ref x_NoWorld.C) (.ref x_NoText.C) = some false
  v_NoWorld : PySem.W.subIn K (.ref x_NoWorld.C) (.type "ValueError") = some true
  w_NoWorld_IndexError : PySem.W.subIn K (.ref x_NoWorld.C) (.type "IndexError") = some false
  w_NoWorld_KeyError : PySem.W.subIn K (.ref x_NoWorld.C) (.type "KeyError") = some false
  w_NoWorld_ZeroDivisionError : PySem.W.subIn K (.ref x_NoWorld.C) (.type "ZeroDivisionError") = some false
  i_NotAlike_StallError : PySem.W.subIn K (.ref x_NotAlike.C) (.ref x_StallError.C) = some true
  i_NotAlike_TooLong : PySem.W.subIn K (.ref x_NotAlike.C) (.ref x_TooLong.C) = some false
  i_NotAlike_TooMany : PySem.W.subIn K (.ref x_NotAlike.C) (.ref x_TooMany.C) = some false
  i_NotAlike_NoWorld : PySem.W.subIn K (.ref x_NotAlike.C) (.ref x_NoWorld.C) = some false
  i_NotAlike_NotAlike : PySem.W.subIn K (.ref x_NotAlike.C) (.ref x_NotAlike.C) = some true
  i_NotAlike_Unfair : PySem.W.subIn K (.ref x_NotAlike.C) (.ref x_Unfair.C) = some false
  i_NotAlike_Fair : PySem.W.subIn K (.ref x_NotAlike.C) (.ref x_Fair.C) = some false
  i_NotAlike_NoBet : PySem.W.subIn K (.ref x_NotAlike.C) (.ref x_NoBet.C) = some false
  i_NotAlike_NoHolder : PySem.W.subIn K (.ref x_NotAlike.C) (.ref x_NoHolder.C) = some false
  i_NotAlike_NoStake : PySem.W.subIn K (.ref x_NotAlike.C) (.ref x_NoStake.C) = some false
  i_NotAlike_NoTicket : PySem.W.subIn K (.ref x_NotAlike.C) (.ref x_NoTicket.C) = some false
  i_NotAlike_NoCover : PySem.W.subIn K (.ref x_NotAlike.C) (.ref x_NoCover.C) = some false
  i_NotAlike_NoSaying : PySem.W.subIn K (.ref x_NotAlike.C) (.ref x_NoSaying.C) = some false
  i_NotAlike_NoDeed : PySem.W.subIn K (.ref x_NotAlike.C) (.ref x_NoDeed.C) = some false
  i_NotAlike_NoStep : PySem.W.subIn K (.ref x_NotAlike.C) (.ref x_NoStep.C) = some false
  i_NotAlike_NoText : PySem.W.subIn K (.ref x_NotAlike.C) (.ref x_NoText.C) = some false
  v_NotAlike : PySem.W.subIn K (.ref x_NotAlike.C) (.type "ValueError") = some true
  w_NotAlike_IndexError : PySem.W.subIn K (.ref x_NotAlike.C) (.type "IndexError") = some false
  w_NotAlike_KeyError : PySem.W.subIn K (.ref x_NotAlike.C) (.type "KeyError") = some false
  w_NotAlike_ZeroDivisionError : PySem.W.subIn K (.ref x_NotAlike.C) (.type "ZeroDivisionError") = some false
  i_StallError_StallError : PySem.W.subIn K (.ref x_StallError.C) (.ref x_StallError.C) = some true
  i_StallError_TooLong : PySem.W.subIn K (.ref x_StallError.C) (.ref x_TooLong.C) = some false
  i_StallError_TooMany : PySem.W.subIn K (.ref x_StallError.C) (.ref x_TooMany.C) = some false
  i_StallError_NoWorld : PySem.W.subIn K (.ref x_StallError.C) (.ref x_NoWorld.C) = some false
  i_StallError_NotAlike : PySem.W.subIn K (.ref x_StallError.C) (.ref x_NotAlike.C) = some false
  i_StallError_Unfair : PySem.W.subIn K (.ref x_StallError.C) (.ref x_Unfair.C) = some false
  i_StallError_Fair : PySem.W.subIn K (.ref x_StallError.C) (.ref x_Fair.C) = some false
  i_StallError_NoBet : PySem.W.subIn K (.ref x_StallError.C) (.ref x_NoBet.C) = some false
  i_StallError_NoHolder : PySem.W.subIn K (.ref x_StallError.C) (.ref x_NoHolder.C) = some false
  i_StallError_NoStake : PySem.W.subIn K (.ref x_StallError.C) (.ref x_NoStake.C) = some false
  i_StallError_NoTicket : PySem.W.subIn K (.ref x_StallError.C) (.ref x_NoTicket.C) = some false
  i_StallError_NoCover : PySem.W.subIn K (.ref x_StallError.C) (.ref x_NoCover.C) = some false
  i_StallError_NoSaying : PySem.W.subIn K (.ref x_StallError.C) (.ref x_NoSaying.C) = some false
  i_StallError_NoDeed : PySem.W.subIn K (.ref x_StallError.C) (.ref x_NoDeed.C) = some false
  i_StallError_NoStep : PySem.W.subIn K (.ref x_StallError.C) (.ref x_NoStep.C) = some false
  i_StallError_NoText : PySem.W.subIn K (.ref x_StallError.C) (.ref x_NoText.C) = some false
  v_StallError : PySem.W.subIn K (.ref x_StallError.C) (.type "ValueError") = some true
  w_StallError_IndexError : PySem.W.subIn K (.ref x_StallError.C) (.type "IndexError") = some false
  w_StallError_KeyError : PySem.W.subIn K (.ref x_StallError.C) (.type "KeyError") = some false
  w_StallError_ZeroDivisionError : PySem.W.subIn K (.ref x_StallError.C) (.type "ZeroDivisionError") = some false
  i_TooLong_StallError : PySem.W.subIn K (.ref x_TooLong.C) (.ref x_StallError.C) = some true
  i_TooLong_TooLong : PySem.W.subIn K (.ref x_TooLong.C) (.ref x_TooLong.C) = some true
  i_TooLong_TooMany : PySem.W.subIn K (.ref x_TooLong.C) (.ref x_TooMany.C) = some false
  i_TooLong_NoWorld : PySem.W.subIn K (.ref x_TooLong.C) (.ref x_NoWorld.C) = some false
  i_TooLong_NotAlike : PySem.W.subIn K (.ref x_TooLong.C) (.ref x_NotAlike.C) = some false
  i_TooLong_Unfair : PySem.W.subIn K (.ref x_TooLong.C) (.ref x_Unfair.C) = some false
  i_TooLong_Fair : PySem.W.subIn K (.ref x_TooLong.C) (.ref x_Fair.C) = some false
  i_TooLong_NoBet : PySem.W.subIn K (.ref x_TooLong.C) (.ref x_NoBet.C) = some false
  i_TooLong_NoHolder : PySem.W.subIn K (.ref x_TooLong.C) (.ref x_NoHolder.C) = some false
  i_TooLong_NoStake : PySem.W.subIn K (.ref x_TooLong.C) (.ref x_NoStake.C) = some false
  i_TooLong_NoTicket : PySem.W.subIn K (.ref x_TooLong.C) (.ref x_NoTicket.C) = some false
  i_TooLong_NoCover : PySem.W.subIn K (.ref x_TooLong.C) (.ref x_NoCover.C) = some false
  i_TooLong_NoSaying : PySem.W.subIn K (.ref x_TooLong.C) (.ref x_NoSaying.C) = some false
  i_TooLong_NoDeed : PySem.W.subIn K (.ref x_TooLong.C) (.ref x_NoDeed.C) = some false
  i_TooLong_NoStep : PySem.W.subIn K (.ref x_TooLong.C) (.ref x_NoStep.C) = some false
  i_TooLong_NoText : PySem.W.subIn K (.ref x_TooLong.C) (.ref x_NoText.C) = some false
  v_TooLong : PySem.W.subIn K (.ref x_TooLong.C) (.type "ValueError") = some true
  w_TooLong_IndexError : PySem.W.subIn K (.ref x_TooLong.C) (.type "IndexError") = some false
  w_TooLong_KeyError : PySem.W.subIn K (.ref x_TooLong.C) (.type "KeyError") = some false
  w_TooLong_ZeroDivisionError : PySem.W.subIn K (.ref x_TooLong.C) (.type "ZeroDivisionError") = some false
  i_TooMany_StallError : PySem.W.subIn K (.ref x_TooMany.C) (.ref x_StallError.C) = some true
  i_TooMany_TooLong : PySem.W.subIn K (.ref x_TooMany.C) (.ref x_TooLong.C) = some false
  i_TooMany_TooMany : PySem.W.subIn K (.ref x_TooMany.C) (.ref x_TooMany.C) = some true
  i_TooMany_NoWorld : PySem.W.subIn K (.ref x_TooMany.C) (.ref x_NoWorld.C) = some false
  i_TooMany_NotAlike : PySem.W.subIn K (.ref x_TooMany.C) (.ref x_NotAlike.C) = some false
  i_TooMany_Unfair : PySem.W.subIn K (.ref x_TooMany.C) (.ref x_Unfair.C) = some false
  i_TooMany_Fair : PySem.W.subIn K (.ref x_TooMany.C) (.ref x_Fair.C) = some false
  i_TooMany_NoBet : PySem.W.subIn K (.ref x_TooMany.C) (.ref x_NoBet.C) = some false
  i_TooMany_NoHolder : PySem.W.subIn K (.ref x_TooMany.C) (.ref x_NoHolder.C) = some false
  i_TooMany_NoStake : PySem.W.subIn K (.ref x_TooMany.C) (.ref x_NoStake.C) = some false
  i_TooMany_NoTicket : PySem.W.subIn K (.ref x_TooMany.C) (.ref x_NoTicket.C) = some false
  i_TooMany_NoCover : PySem.W.subIn K (.ref x_TooMany.C) (.ref x_NoCover.C) = some false
  i_TooMany_NoSaying : PySem.W.subIn K (.ref x_TooMany.C) (.ref x_NoSaying.C) = some false
  i_TooMany_NoDeed : PySem.W.subIn K (.ref x_TooMany.C) (.ref x_NoDeed.C) = some false
  i_TooMany_NoStep : PySem.W.subIn K (.ref x_TooMany.C) (.ref x_NoStep.C) = some false
  i_TooMany_NoText : PySem.W.subIn K (.ref x_TooMany.C) (.ref x_NoText.C) = some false
  v_TooMany : PySem.W.subIn K (.ref x_TooMany.C) (.type "ValueError") = some true
  w_TooMany_IndexError : PySem.W.subIn K (.ref x_TooMany.C) (.type "IndexError") = some false
  w_TooMany_KeyError : PySem.W.subIn K (.ref x_TooMany.C) (.type "KeyError") = some false
  w_TooMany_ZeroDivisionError : PySem.W.subIn K (.ref x_TooMany.C) (.type "ZeroDivisionError") = some false
  i_Unfair_StallError : PySem.W.subIn K (.ref x_Unfair.C) (.ref x_StallError.C) = some true
  i_Unfair_TooLong : PySem.W.subIn K (.ref x_Unfair.C) (.ref x_TooLong.C) = some false
  i_Unfair_TooMany : PySem.W.subIn K (.ref x_Unfair.C) (.ref x_TooMany.C) = some false
  i_Unfair_NoWorld : PySem.W.subIn K (.ref x_Unfair.C) (.ref x_NoWorld.C) = some false
  i_Unfair_NotAlike : PySem.W.subIn K (.ref x_Unfair.C) (.ref x_NotAlike.C) = some false
  i_Unfair_Unfair : PySem.W.subIn K (.ref x_Unfair.C) (.ref x_Unfair.C) = some true
  i_Unfair_Fair : PySem.W.subIn K (.ref x_Unfair.C) (.ref x_Fair.C) = some false
  i_Unfair_NoBet : PySem.W.subIn K (.ref x_Unfair.C) (.ref x_NoBet.C) = some false
  i_Unfair_NoHolder : PySem.W.subIn K (.ref x_Unfair.C) (.ref x_NoHolder.C) = some false
  i_Unfair_NoStake : PySem.W.subIn K (.ref x_Unfair.C) (.ref x_NoStake.C) = some false
  i_Unfair_NoTicket : PySem.W.subIn K (.ref x_Unfair.C) (.ref x_NoTicket.C) = some false
  i_Unfair_NoCover : PySem.W.subIn K (.ref x_Unfair.C) (.ref x_NoCover.C) = some false
  i_Unfair_NoSaying : PySem.W.subIn K (.ref x_Unfair.C) (.ref x_NoSaying.C) = some false
  i_Unfair_NoDeed : PySem.W.subIn K (.ref x_Unfair.C) (.ref x_NoDeed.C) = some false
  i_Unfair_NoStep : PySem.W.subIn K (.ref x_Unfair.C) (.ref x_NoStep.C) = some false
  i_Unfair_NoText : PySem.W.subIn K (.ref x_Unfair.C) (.ref x_NoText.C) = some false
  v_Unfair : PySem.W.subIn K (.ref x_Unfair.C) (.type "ValueError") = some true
  w_Unfair_IndexError : PySem.W.subIn K (.ref x_Unfair.C) (.type "IndexError") = some false
  w_Unfair_KeyError : PySem.W.subIn K (.ref x_Unfair.C) (.type "KeyError") = some false
  w_Unfair_ZeroDivisionError : PySem.W.subIn K (.ref x_Unfair.C) (.type "ZeroDivisionError") = some false
end B
namespace B
open PySem PySem.Spec PyProof.Rows L2

def sp_short_enough (K : PySem.W.Frag) : Sp := fun vs H Q E => ∃ (a : Addr) (xs : List V), vs = [.ref a] ∧ SqT K H a xs ∧ (40 < xs.length → ∀ C, XIs K "TooLong" C → E (.ref C) none H) ∧ (xs.length ≤ 40 → Q (.ref a) H)

section
variable {P : Program} {w : World} {K : PySem.W.Frag} {mg : Str → Option Value} {base : Heap}
theorem ok_short_enough (T : Tx K mg) : FnOk P w K mg base (L2.CX P w) 1 T.short_enough.f T.short_enough.fd ["words"] (sp_short_enough K) := by
  refine T.short_enough.F.okX sc_short_enough (fun vs H Q E h => ?_) (fun cdv A outer s H vs Q E hr h => ?_)
  · obtain ⟨a, xs, rfl, hA, hE, hQ⟩ := h
    rfl
  · obtain ⟨a, xs, rfl, hA, hE, hQ⟩ := h
    refine ⟨_, (pss_cons (ps_if (pt_cmpR op_gt (pe_callB call_len_seq (by rfl) T.m_len (by decide +kernel) (pa_cons (pv 0) pa_nil)) (pe_glob (v := .int 40) (by rfl) T.g_MOST_WORDS ⟨_, rfl⟩) (nomark _)) (pss_one (ps_raise rfl (takes_of rfl rfl rfl rfl) (pmk_none PySem.F.excBase_ValueError T.x_TooLong.ex T.x_TooLong.g T.x_TooLong.kp (raises_own T.x_TooLong.sb T.x_TooLong.ty) (by rfl)))) pss_nil)
      (pss_one (ps_ret (pv 0)))), ?_⟩
    refine ⟨_, rfl, a, _, rfl, .inr hA, _, _, rfl, rfl, _, rfl, ite2 (fun e => ?_) (fun e => ?_)⟩
    · have e : (40 : Int) < (xs.length : Int) := of_decide_eq_true e
      exact hE (by omega) _ T.x_TooLong.ns
    · have e : ¬ (40 : Int) < (xs.length : Int) := fun z => e (decide_eq_true z)
      exact ⟨_, rfl, hQ (by omega)⟩
end
end B

namespace B
open PySem PySem.Spec PyProof.Rows L2
theorem cut63 {xs : List V} (h : xs.length ≤ 63) : cutV xs none (some 63) = xs := by
  unfold cutV
  rw [HT.sIx_none, show HT.sIx xs.length xs.length (some 63) = min 63 xs.length from HT.sIx_nat xs.length xs.length 63]
  rw [List.drop_zero, List.take_of_length_le (by omega)]

def sp_l_draws (K : PySem.W.Frag) : Sp := fun vs H Q _ => ∃ (a : Addr) (ns : List Int), vs = [.ref a] ∧ SqL K H a (ns.map V.int) ∧ ns.length ≤ 63 ∧ ∀ (H' : Hp) (d : Dr), Drw H' d 900000 → Same H H' → H d.dr = none → H d.rs = none → Q (.ref d.dr) H'

section
variable {P : Program} {w : World} {K : PySem.W.Frag} {mg : Str → Option Value} {base : Heap}
theorem ok_l_draws (T : Tx K mg) : FnOk P w K mg base CX0 1 T.l_draws.f T.l_draws.fd ["_law_script"] (sp_l_draws K) := by
  refine T.l_draws.F.ok sc_l_draws (fun vs H Q E h => ?_) (fun cdv A outer s H vs Q E hr h => ?_)
  · obtain ⟨a, ns, rfl, hS, hlen, q⟩ := h
    rfl
  · obtain ⟨a, ns, rfl, hS, hlen, q⟩ := h
    refine ⟨_, (pss_cons (ps_set (i := 1) sc_l_draws.nd rfl (.inl rfl) (pe_op op_cat (pe_callTy call_list_of (by rfl) T.m_list (by decide +kernel) (pa_cons (pe_slice sl_list (pv 0) po_none (po_some pe_int)) pa_nil)) (pe_op op_rep (pe_lst (pa_cons pe_int pa_nil)) (pe_callTy call_int1 (by rfl) T.m_int (by decide +kernel) (pa_cons (pe_cmpR op_eq (pe_callB call_len_seq (by rfl) T.m_len (by decide +kernel) (pa_cons (pv 0) pa_nil)) pe_int (nomark _)) pa_nil)))))
      (pss_one (ps_ret (pe_lst (pa_cons (pv 1) (pa_cons pe_int (pa_cons (pe_lc (own := [("_law_cell", 2)]) (g := gName 2) (tt := tYes) rfl sc_l_draws.nd (pi_list (pv 1)) (blkOk_by (own := [("_law_cell", 2)]) (N := N_l_draws) (sc := defScope s_l_draws) (by decide +kernel)) (fun _ _ _ _ _ => (pg_name (i := 2) sc_l_draws.nd rfl (.inl rfl))) (fun _ _ _ _ _ => pts_nil) (fun _ _ _ _ _ => (pe_op op_mul (pv 2) (pe_callTy (T := "int") call_int1 (by rfl) T.m_int (by decide +kernel) (pa_cons (pe_cmpR op_ge (pv 2) (pe_op op_pow pe_int pe_int) (nomark _)) pa_nil))))) pa_nil))))))), ?_⟩
    have lns : (ns.map V.int).length = ns.length := List.length_map ..
    refine ⟨_, rfl, 63, rfl, a, _, rfl, hS, fun p1 np1 => ?_⟩
    have s1 := same_upd (o := .lst (cutV (ns.map V.int) none (some 63))) np1
    refine ⟨p1, _, rfl, .inl sql_upd, fun l nl => ?_⟩
    rw [cut63 (by rw [lns]; exact hlen)] at s1 nl ⊢
    have s2 := s1.trans (same_upd (o := .lst (ns.map V.int)) nl)
    refine ⟨by decide, fun z nz => ?_⟩
    have s3 := s2.trans (same_upd (o := .lst [.int 0]) nz)
    refine ⟨_, rfl, a, _, rfl, .inl (s3.seq hS), rfl, .inr ⟨_, rfl, ?_⟩⟩
    have hl3 : (upd (upd (upd H p1 (.lst (ns.map V.int))) l (.lst (ns.map V.int))) z (.lst [.int 0])) l = some (.lst (ns.map V.int)) := by
      rw [upd_ne (ne_of_none upd_same nz), upd_same]
    obtain ⟨k, hk, k2⟩ : ∃ k : Nat, (if decide (V.int ((ns.map V.int).length : Nat) = V.int 0) = true then (1 : Int) else 0) = (k : Int) ∧ ((ns = [] ∧ k = 1) ∨ (ns ≠ [] ∧ k = 0)) := by
      cases ns with
      | nil => exact ⟨1, rfl, .inl ⟨rfl, rfl⟩⟩
      | cons x r =>
        refine ⟨0, ?_, .inr ⟨by simp, rfl⟩⟩
        rw [if_neg]
        · rfl
        · intro e
          have e2 := V.int.inj (of_decide_eq_true e)
          rw [List.length_map, List.length_cons] at e2
          omega
    refine ⟨z, _, _, rfl, rfl, upd_same, ?_, ?_, ?_, fun r nr => ?_⟩
    · rw [hk]
      omega
    · rw [hk]
      omega
    · rw [hk, Int.toNat_natCast]
      show 1 * k ≤ sizeLine
      exact Nat.le_trans (show 1 * k ≤ 1 by omega) (by decide)
    rw [hk, Int.toNat_natCast]
    have s4 := s3.trans (same_upd (o := .lst (List.replicate k [V.int 0]).flatten) nr)
    obtain ⟨cs, ecs, c0, c63⟩ : ∃ cs : List Int, ns.map V.int ++ (List.replicate k [V.int 0]).flatten = cs.map V.int ∧ 0 < cs.length ∧ cs.length ≤ 63 := by
      rcases k2 with ⟨rfl, rfl⟩ | ⟨h, rfl⟩
      · exact ⟨[0], rfl, by decide, by decide⟩
      · refine ⟨ns, by simp, ?_, hlen⟩
        cases ns with
        | nil => exact absurd rfl h
        | cons x r => rw [List.length_cons]; omega
    refine ⟨l, r, ns.map V.int, _, rfl, rfl, ?_, upd_same, ?_, fun c nc => ?_⟩
    · rw [upd_ne (ne_of_none hl3 nr)]
      exact hl3
    · have e := congrArg List.length ecs
      rw [List.length_append, List.length_map] at e
      rw [List.length_map, e, List.length_map]
      exact Nat.le_trans c63 (by decide)
    rw [ecs]
    have s5 := s4.trans (same_upd (o := .lst (cs.map V.int)) nc)
    have hc5 := upd_same (H := upd (upd (upd (upd H p1 (.lst (ns.map V.int))) l (.lst (ns.map V.int))) z (.lst [.int 0])) r (.lst (List.replicate k [V.int 0]).flatten)) (a := c) (o := .lst (cs.map V.int))
    generalize upd (upd (upd (upd (upd H p1 (.lst (ns.map V.int))) l (.lst (ns.map V.int))) z (.lst [.int 0])) r (.lst (List.replicate k [V.int 0]).flatten)) c (.lst (cs.map V.int)) = H5 at s5 hc5 ⊢
    refine ⟨_, rfl, _, rfl, c, rfl, ⟨_, .inl (.inl hc5)⟩, fun D nD => ?_⟩
    refine lc_list (K := K) (a := c) (xs := cs.map V.int) (fun i H' => ∃ acc : List Int, H' D = some (.lst (acc.map V.int)) ∧ acc.length = i ∧ i ≤ cs.length ∧ Same H5 H') ⟨[], upd_same, rfl, by omega, same_upd nD⟩ (fun i H' _ ⟨_, _, _, _, e⟩ => .inl (.inl (e _ _ hc5))) ?_ ?_
    · rintro i x H' hx ⟨acc, h1, h2, h3, h4⟩
      have hi : i < cs.length := by
        have := (List.getElem?_eq_some_iff.mp hx).1
        rw [List.length_map] at this
        exact this
      obtain ⟨y, hy, rfl⟩ : ∃ y, cs[i]? = some y ∧ x = V.int y := by
        rw [List.getElem?_map] at hx
        cases e : cs[i]? with
        | none => rw [e] at hx; cases hx
        | some y => rw [e] at hx; exact ⟨y, rfl, (Option.some.inj hx).symm⟩
      refine ⟨rfl, lc_yes ?_⟩
      refine ⟨_, rfl, _, rfl, _, _, rfl, rfl, ⟨by decide, by decide, by decide⟩, _, _, rfl, rfl, .inr ⟨_, rfl, ?_⟩⟩
      refine ⟨_, _, rfl, rfl, .inr ?_, _, h1, ?_, ?_⟩
      · constructor
        · split <;> decide
        · split <;> decide
      · rw [List.length_map]
        exact Nat.lt_of_le_of_lt (show acc.length ≤ 63 by omega) (by decide)
      · refine ⟨acc ++ [_], by rw [upd_same, List.map_append]; rfl, by rw [List.length_append, h2]; rfl, hi, fun b o e => ?_⟩
        rw [upd_ne (ne_of_none e nD)]
        exact h4 b o e
    · rintro H' ⟨acc, h1, h2, h3, h4⟩
      refine ⟨by show 3 ≤ sizeLine; decide, fun p np => ?_⟩
      rw [List.length_map] at h2
      refine q _ ⟨p, c, D⟩ ⟨⟨cs, acc, 0, upd_same, ?_, ?_, h2.symm, c0, c63, by decide⟩, ?_⟩ ?_ ?_ ?_
      · rw [upd_ne (ne_of_none (h4 _ _ hc5) np)]
        exact h4 _ _ hc5
      · rw [upd_ne (ne_of_none h1 np)]
        exact h1
      · exact ne_of_none hc5 nD
      · exact (s5.trans h4).trans (same_upd np)
      · exact (s5.trans h4).free np
      · exact s5.free nD
end
end B

namespace B
open PySem PySem.Spec PyProof.Rows L2

def sp_l_next (_ : PySem.W.Frag) : Sp := fun vs H Q _ => ∃ (d : Dr) (b : Nat) (many : Int), vs = [.ref d.dr, .int many] ∧ 0 < many ∧ many.natAbs < 2 ^ 64 ∧ Drw H d (b + 1) ∧ ∀ (H' : Hp) (r : Int), 0 ≤ r → r < many → Drw H' d b → Kp d H H' → Q (.int r) H'

section
variable {P : Program} {w : World} {K : PySem.W.Frag} {mg : Str → Option Value} {base : Heap}
theorem ok_l_next (T : Tx K mg) : FnOk P w K mg base CX0 1 T.l_next.f T.l_next.fd ["_law_drawn", "_law_many"] (sp_l_next K) := by
  refine T.l_next.F.ok sc_l_next (fun vs H Q E h => ?_) (fun cdv A outer s H vs Q E hr h => ?_)
  · obtain ⟨d, b, many, rfl, hm0, hm1, ⟨⟨cs, rr, c, h1, h2, h3, hl, hp, h63, hb⟩, ne⟩, q⟩ := h
    rfl
  · obtain ⟨d, b, many, rfl, hm0, hm1, ⟨⟨cs, rr, c, h1, h2, h3, hl, hp, h63, hb⟩, ne⟩, q⟩ := h
    refine ⟨_, (pss_cons (ps_asg (pv 0) (pg_lst rfl (pgs_cons (pg_name (i := 2) sc_l_next.nd rfl (.inl rfl)) (pgs_cons (pg_name (i := 3) sc_l_next.nd rfl (.inl rfl)) (pgs_cons (pg_name (i := 4) sc_l_next.nd rfl (.inl rfl)) pgs_nil)))))
      (pss_cons (ps_set (i := 5) sc_l_next.nd rfl (.inl rfl) (pe_op op_mod (pv 3) (pe_callB call_len_seq (by rfl) T.m_len (by decide +kernel) (pa_cons (pv 2) pa_nil))))
      (pss_cons (ps_asg (pe_op op_add (pv 3) pe_int) (pg_sub (pv 0) pe_int set_list))
      (pss_cons (ps_if (pt_cmpR op_gt (pe_ix ix_list (pv 4) (pv 5) (fun _ _ => rfl)) pe_int (nomark _)) (pss_cons (ps_set (i := 6) sc_l_next.nd rfl (.inl rfl) (pe_op op_mod (pe_ix ix_list (pv 4) (pv 5) (fun _ _ => rfl)) (pv 1)))
      (pss_cons (ps_asg (pe_op op_fdivW (pe_ix ix_list (pv 4) (pv 5) (fun _ _ => rfl)) (pv 1)) (pg_sub (pv 4) (pv 5) set_list))
      (pss_one (ps_ret (pv 6))))) pss_nil)
      (pss_cons (ps_set (i := 7) sc_l_next.nd rfl (.inl rfl) (pe_lst (pa_cons pe_int (pa_cons pe_int (pa_cons pe_int (pa_cons pe_int (pa_cons pe_int (pa_cons pe_int (pa_cons pe_int pa_nil)))))))))
      (pss_cons (ps_set (i := 8) sc_l_next.nd rfl (.inl rfl) (pe_op op_add (pe_op op_add (pe_op op_mod (pe_ix ix_list (pv 2) (pv 5) (fun _ _ => rfl)) pe_int) (pe_op op_mul pe_int (pv 3))) pe_int))
      (pss_cons (ps_set (i := 8) sc_l_next.nd rfl (.inl rfl) (pe_op op_mod (pe_op op_pow (pv 8) pe_int) (pe_ix ix_list (pv 7) (pe_op op_mod (pv 3) pe_int) (fun _ _ => rfl))))
      (pss_cons (ps_set (i := 9) sc_l_next.nd rfl (.inl rfl) (pe_op op_mod (pe_op op_pow (pe_op op_add (pv 8) (pe_op op_mul pe_int (pv 3))) pe_int) pe_int))
      (pss_one (ps_ret (pe_op op_mod (pe_op op_mod (pe_op op_add (pe_op op_mul (pv 9) pe_int) (pv 8)) pe_int) (pv 1)))))))))))), ?_⟩
    have n1 : d.dr ≠ d.cl := ne_of h1 h2 (by intro z; cases cs with | nil => cases z | cons x r => cases z)
    have n2 : d.dr ≠ d.rs := ne_of h1 h3 (by intro z; cases rr with | nil => cases z | cons x r => cases z)
    have lc : (cs.map V.int).length = cs.length := List.length_map ..
    have lr : (rr.map V.int).length = cs.length := by rw [List.length_map, hl]
    have hj : c % (cs.map V.int).length < cs.length := by
      rw [lc]
      exact Nat.mod_lt _ hp
    obtain ⟨x, hx⟩ : ∃ x, cs[c % (cs.map V.int).length]? = some x := ⟨_, List.getElem?_eq_getElem hj⟩
    obtain ⟨y, hy⟩ : ∃ y, rr[c % (cs.map V.int).length]? = some y := ⟨_, List.getElem?_eq_getElem (by rw [← hl]; exact hj)⟩
    refine ⟨_, rfl, d.dr, _, rfl, .inl (.inl h1), rfl, _, _, rfl, _, _, rfl, _, _, rfl, rfl, ?_⟩
    refine ⟨_, rfl, _, rfl, d.cl, _, rfl, .inl (.inl (.inl h2)), _, _, rfl, rfl, (by show (0 : Int) < ((cs.map V.int).length : Int); omega), ?_⟩
    refine ⟨_, rfl, _, _, rfl, rfl, _, rfl, d.dr, _, 1, 1, rfl, rfl, h1, rfl, ?_⟩
    have H1r : (upd H d.dr (.lst ([.ref d.cl, .int c, .ref d.rs].set 1 (.int ((c : Int) + 1))))) d.rs = some (.lst (rr.map V.int)) := by rw [upd_ne n2.symm]; exact h3
    have H1c : (upd H d.dr (.lst ([.ref d.cl, .int c, .ref d.rs].set 1 (.int ((c : Int) + 1))))) d.cl = some (.lst (cs.map V.int)) := by rw [upd_ne n1.symm]; exact h2
    have ary : atI (rr.map V.int) ((c % (cs.map V.int).length : Nat) : Int) = some (.int y) := at_nat (by rw [List.getElem?_map, hy]; rfl)
    have arx : atI (cs.map V.int) ((c % (cs.map V.int).length : Nat) : Int) = some (.int x) := at_nat (by rw [List.getElem?_map, hx]; rfl)
    refine ⟨_, rfl, _, rfl, d.rs, _, ((c % (cs.map V.int).length : Nat) : Int), _, rfl, rfl, .inl (.inl H1r), ary, _, _, rfl, rfl, _, rfl, ite2 (fun e => ?_) (fun e => ?_)⟩
    · refine ⟨_, rfl, _, rfl, d.rs, _, ((c % (cs.map V.int).length : Nat) : Int), _, rfl, rfl, .inl (.inl H1r), ary, _, rfl, _, _, rfl, rfl, hm0, ?_⟩
      refine ⟨_, rfl, _, rfl, d.rs, _, ((c % (cs.map V.int).length : Nat) : Int), _, rfl, rfl, .inl (.inl H1r), ary, _, rfl, _, _, rfl, rfl, wide_div hm0 hm1 (by decide) (by decide), _, rfl, _, rfl, d.rs, _, ((c % (cs.map V.int).length : Nat) : Int), c % (cs.map V.int).length, rfl, rfl, H1r, ?_, ?_⟩
      · unfold ixN
        rw [if_pos (by omega), if_pos (by rw [lr]; omega)]
        rfl
      refine ⟨_, rfl, ?_⟩
      refine q _ _ (Int.emod_nonneg _ (by omega)) (Int.emod_lt_of_pos _ hm0) ⟨⟨cs, rr.set (c % (cs.map V.int).length) (y / many), c + 1, ?_, ?_, ?_, ?_, hp, h63, by omega⟩, ne⟩ ?_
      · rw [upd_ne n2, upd_same]
        rfl
      · rw [upd_ne ne]
        exact H1c
      · rw [upd_same, List.map_set]
      · rw [List.length_set]
        exact hl
      · intro p o hp1 a1 a2
        rw [upd_ne a2, upd_ne a1]
        exact hp1
    · refine ⟨by decide, fun pr npr => ?_⟩
      have npc : d.cl ≠ pr := ne_of_none H1c npr
      refine ⟨_, rfl, _, rfl, d.cl, _, ((c % (cs.map V.int).length : Nat) : Int), _, rfl, rfl, .inl (.inl (by rw [upd_ne npc]; exact H1c)), arx, _, _, rfl, rfl, (by show (0 : Int) < 2147483647; decide), _, rfl, _, _, rfl, rfl, .inl ⟨by decide, by decide⟩, _, _, rfl, rfl, _, _, rfl, rfl, ?_⟩
      have c7 : c % 7 < 7 := Nat.mod_lt _ (by decide)
      obtain ⟨pm, hpm, pm0, pm1⟩ : ∃ pm : Int, ([.int 2147483629, .int 2147483587, .int 2147483579, .int 2147483563, .int 2147483549, .int 2147483543, .int 2147483497] : List V)[c % 7]? = some (.int pm) ∧ 0 < pm ∧ pm < 2147483648 := by
        generalize c % 7 = z at c7
        match z, c7 with
        | 0, _ => exact ⟨_, rfl, by decide, by decide⟩
        | 1, _ => exact ⟨_, rfl, by decide, by decide⟩
        | 2, _ => exact ⟨_, rfl, by decide, by decide⟩
        | 3, _ => exact ⟨_, rfl, by decide, by decide⟩
        | 4, _ => exact ⟨_, rfl, by decide, by decide⟩
        | 5, _ => exact ⟨_, rfl, by decide, by decide⟩
        | 6, _ => exact ⟨_, rfl, by decide, by decide⟩
      refine ⟨_, rfl, _, _, rfl, rfl, ⟨by decide, by decide, by omega⟩, _, rfl, _, rfl, _, _, rfl, rfl, (by show (0 : Int) < 7; decide), pr, _, ((c % 7 : Nat) : Int), _, rfl, rfl, .inl (.inl upd_same), at_nat hpm, _, _, rfl, rfl, pm0, ?_⟩
      have m2 := Int.emod_nonneg ((x % 2147483647 + 48271 * (c : Int) + 104729) ^ (3 : Int).toNat) (show pm ≠ 0 by omega)
      have m2' := Int.emod_lt_of_pos ((x % 2147483647 + 48271 * (c : Int) + 104729) ^ (3 : Int).toNat) pm0
      refine ⟨_, rfl, _, rfl, _, _, rfl, rfl, .inl ⟨by decide, by decide⟩, _, _, rfl, rfl, _, _, rfl, rfl, ⟨by decide, by decide, by omega⟩, _, _, rfl, rfl, (by show (0 : Int) < 2147483477; decide), ?_⟩
      refine ⟨_, rfl, _, _, rfl, rfl, .inr ⟨by decide, by decide⟩, _, rfl, _, _, rfl, rfl, _, _, rfl, rfl, (by show (0 : Int) < 4611686018427387847; decide), _, rfl, _, _, rfl, rfl, hm0, ?_⟩
      refine q _ _ (Int.emod_nonneg _ (by omega)) (Int.emod_lt_of_pos _ hm0) ⟨⟨cs, rr, c + 1, ?_, ?_, ?_, hl, hp, h63, by omega⟩, ne⟩ ?_
      · rw [upd_ne (ne_of_none (upd_same (H := H)) npr), upd_same]
        rfl
      · rw [upd_ne npc]
        exact H1c
      · rw [upd_ne (ne_of_none H1r npr)]
        exact H1r
      · intro p o hp1 a1 a2
        have e1 : (upd H d.dr (.lst ([.ref d.cl, .int c, .ref d.rs].set 1 (.int ((c : Int) + 1))))) p = some o := by rw [upd_ne a1]; exact hp1
        rw [upd_ne (ne_of_none e1 npr)]
        exact e1
end
end B

namespace B
open PySem PySem.Spec PyProof.Rows L2

def sp_l_made (K : PySem.W.Frag) : Sp := fun vs H Q _ => ∃ (n : Nat), vs = [.int n] ∧ n < 16 ∧ ∀ (H' : Hp) (x C : Addr), XN K n C → H' x = some (ExK (.ref C) x) → Same H H' → Q (.ref x) H'

section
variable {P : Program} {w : World} {K : PySem.W.Frag} {mg : Str → Option Value} {base : Heap}
theorem ok_l_made (T : Tx K mg) : FnOk P w K mg base CX0 1 T.l_made.f T.l_made.fd ["_law_number"] (sp_l_made K) := by
  refine T.l_made.F.ok sc_l_made (fun vs H Q E h => ?_) (fun cdv A outer s H vs Q E hr h => ?_)
  · obtain ⟨n, rfl, hn, q⟩ := h
    rfl
  · obtain ⟨n, rfl, hn, q⟩ := h
    refine ⟨_, (pss_cons (ps_if (pt_cmpR op_lt (pv 0) pe_int (nomark _)) (pss_one (ps_ret (pe_ix ix_list (pe_lst (pa_cons (pe_exc0 PySem.F.excBase_ValueError T.x_Fair.ex T.x_Fair.g T.x_Fair.kp (by rfl)) (pa_cons (pe_exc0 PySem.F.excBase_ValueError T.x_NoBet.ex T.x_NoBet.g T.x_NoBet.kp (by rfl)) (pa_cons (pe_exc0 PySem.F.excBase_ValueError T.x_NoCover.ex T.x_NoCover.g T.x_NoCover.kp (by rfl)) (pa_cons (pe_exc0 PySem.F.excBase_ValueError T.x_NoDeed.ex T.x_NoDeed.g T.x_NoDeed.kp (by rfl)) pa_nil))))) (pv 0) (fun _ _ => rfl)))) pss_nil)
      (pss_cons (ps_if (pt_cmpR op_lt (pv 0) pe_int (nomark _)) (pss_one (ps_ret (pe_ix ix_list (pe_lst (pa_cons (pe_exc0 PySem.F.excBase_ValueError T.x_NoHolder.ex T.x_NoHolder.g T.x_NoHolder.kp (by rfl)) (pa_cons (pe_exc0 PySem.F.excBase_ValueError T.x_NoSaying.ex T.x_NoSaying.g T.x_NoSaying.kp (by rfl)) (pa_cons (pe_exc0 PySem.F.excBase_ValueError T.x_NoStake.ex T.x_NoStake.g T.x_NoStake.kp (by rfl)) (pa_cons (pe_exc0 PySem.F.excBase_ValueError T.x_NoStep.ex T.x_NoStep.g T.x_NoStep.kp (by rfl)) pa_nil))))) (pe_op op_sub (pv 0) pe_int) (fun _ _ => rfl)))) pss_nil)
      (pss_cons (ps_if (pt_cmpR op_lt (pv 0) pe_int (nomark _)) (pss_one (ps_ret (pe_ix ix_list (pe_lst (pa_cons (pe_exc0 PySem.F.excBase_ValueError T.x_NoText.ex T.x_NoText.g T.x_NoText.kp (by rfl)) (pa_cons (pe_exc0 PySem.F.excBase_ValueError T.x_NoTicket.ex T.x_NoTicket.g T.x_NoTicket.kp (by rfl)) (pa_cons (pe_exc0 PySem.F.excBase_ValueError T.x_NoWorld.ex T.x_NoWorld.g T.x_NoWorld.kp (by rfl)) (pa_cons (pe_exc0 PySem.F.excBase_ValueError T.x_NotAlike.ex T.x_NotAlike.g T.x_NotAlike.kp (by rfl)) pa_nil))))) (pe_op op_sub (pv 0) pe_int) (fun _ _ => rfl)))) pss_nil)
      (pss_one (ps_ret (pe_ix ix_list (pe_lst (pa_cons (pe_exc0 PySem.F.excBase_ValueError T.x_StallError.ex T.x_StallError.g T.x_StallError.kp (by rfl)) (pa_cons (pe_exc0 PySem.F.excBase_ValueError T.x_TooLong.ex T.x_TooLong.g T.x_TooLong.kp (by rfl)) (pa_cons (pe_exc0 PySem.F.excBase_ValueError T.x_TooMany.ex T.x_TooMany.g T.x_TooMany.kp (by rfl)) (pa_cons (pe_exc0 PySem.F.excBase_ValueError T.x_Unfair.ex T.x_Unfair.g T.x_Unfair.kp (by rfl)) pa_nil))))) (pe_op op_sub (pv 0) pe_int) (fun _ _ => rfl))))))), ?_⟩
    refine ⟨_, rfl, _, _, rfl, rfl, _, rfl, ite2 (fun e => ?_) (fun e0 => ?_)⟩
    · have e : (n : Int) < 4 := of_decide_eq_true e
      intro a0 m0 a1 m1 a2 m2 a3 m3
      have s0 := same_upd (o := ExK (.ref T.x_Fair.C) a0) m0
      have s1 := same_upd (o := ExK (.ref T.x_NoBet.C) a1) m1
      have s2 := same_upd (o := ExK (.ref T.x_NoCover.C) a2) m2
      have s3 := same_upd (o := ExK (.ref T.x_NoDeed.C) a3) m3
      refine ⟨by show 4 ≤ sizeLine; decide, fun p np => ?_⟩
      have s4 := same_upd (o := .lst [.ref a0, .ref a1, .ref a2, .ref a3]) np
      obtain e | e | e | e : n = 0 ∨ n = 1 ∨ n = 2 ∨ n = 3 := by omega
      · subst e
        exact ⟨_, rfl, p, _, 0, .ref a0, rfl, rfl, .inl (.inl upd_same), rfl, q _ a0 T.x_Fair.C ⟨_, rfl, T.x_Fair.ns⟩ (s4 _ _ (s3 _ _ (s2 _ _ (s1 _ _ (upd_same))))) ((((s0.trans s1).trans s2).trans s3).trans s4)⟩
      · subst e
        exact ⟨_, rfl, p, _, 1, .ref a1, rfl, rfl, .inl (.inl upd_same), rfl, q _ a1 T.x_NoBet.C ⟨_, rfl, T.x_NoBet.ns⟩ (s4 _ _ (s3 _ _ (s2 _ _ (upd_same)))) ((((s0.trans s1).trans s2).trans s3).trans s4)⟩
      · subst e
        exact ⟨_, rfl, p, _, 2, .ref a2, rfl, rfl, .inl (.inl upd_same), rfl, q _ a2 T.x_NoCover.C ⟨_, rfl, T.x_NoCover.ns⟩ (s4 _ _ (s3 _ _ (upd_same))) ((((s0.trans s1).trans s2).trans s3).trans s4)⟩
      · subst e
        exact ⟨_, rfl, p, _, 3, .ref a3, rfl, rfl, .inl (.inl upd_same), rfl, q _ a3 T.x_NoDeed.C ⟨_, rfl, T.x_NoDeed.ns⟩ (s4 _ _ (upd_same)) ((((s0.trans s1).trans s2).trans s3).trans s4)⟩
    refine ⟨_, rfl, _, _, rfl, rfl, _, rfl, ite2 (fun e => ?_) (fun e1 => ?_)⟩
    · have e : (n : Int) < 8 := of_decide_eq_true e
      have f : ¬ (n : Int) < 4 := fun z => e0 (decide_eq_true z)
      intro a0 m0 a1 m1 a2 m2 a3 m3
      have s0 := same_upd (o := ExK (.ref T.x_NoHolder.C) a0) m0
      have s1 := same_upd (o := ExK (.ref T.x_NoSaying.C) a1) m1
      have s2 := same_upd (o := ExK (.ref T.x_NoStake.C) a2) m2
      have s3 := same_upd (o := ExK (.ref T.x_NoStep.C) a3) m3
      refine ⟨by show 4 ≤ sizeLine; decide, fun p np => ?_⟩
      have s4 := same_upd (o := .lst [.ref a0, .ref a1, .ref a2, .ref a3]) np
      obtain e | e | e | e : n = 4 ∨ n = 5 ∨ n = 6 ∨ n = 7 := by omega
      · subst e
        exact ⟨_, rfl, _, _, rfl, rfl, p, _, 0, .ref a0, rfl, rfl, .inl (.inl upd_same), rfl, q _ a0 T.x_NoHolder.C ⟨_, rfl, T.x_NoHolder.ns⟩ (s4 _ _ (s3 _ _ (s2 _ _ (s1 _ _ (upd_same))))) ((((s0.trans s1).trans s2).trans s3).trans s4)⟩
      · subst e
        exact ⟨_, rfl, _, _, rfl, rfl, p, _, 1, .ref a1, rfl, rfl, .inl (.inl upd_same), rfl, q _ a1 T.x_NoSaying.C ⟨_, rfl, T.x_NoSaying.ns⟩ (s4 _ _ (s3 _ _ (s2 _ _ (upd_same)))) ((((s0.trans s1).trans s2).trans s3).trans s4)⟩
      · subst e
        exact ⟨_, rfl, _, _, rfl, rfl, p, _, 2, .ref a2, rfl, rfl, .inl (.inl upd_same), rfl, q _ a2 T.x_NoStake.C ⟨_, rfl, T.x_NoStake.ns⟩ (s4 _ _ (s3 _ _ (upd_same))) ((((s0.trans s1).trans s2).trans s3).trans s4)⟩
      · subst e
        exact ⟨_, rfl, _, _, rfl, rfl, p, _, 3, .ref a3, rfl, rfl, .inl (.inl upd_same), rfl, q _ a3 T.x_NoStep.C ⟨_, rfl, T.x_NoStep.ns⟩ (s4 _ _ (upd_same)) ((((s0.trans s1).trans s2).trans s3).trans s4)⟩
    refine ⟨_, rfl, _, _, rfl, rfl, _, rfl, ite2 (fun e => ?_) (fun e2 => ?_)⟩
    · have e : (n : Int) < 12 := of_decide_eq_true e
      have f : ¬ (n : Int) < 8 := fun z => e1 (decide_eq_true z)
      intro a0 m0 a1 m1 a2 m2 a3 m3
      have s0 := same_upd (o := ExK (.ref T.x_NoText.C) a0) m0
      have s1 := same_upd (o := ExK (.ref T.x_NoTicket.C) a1) m1
      have s2 := same_upd (o := ExK (.ref T.x_NoWorld.C) a2) m2
      have s3 := same_upd (o := ExK (.ref T.x_NotAlike.C) a3) m3
      refine ⟨by show 4 ≤ sizeLine; decide, fun p np => ?_⟩
      have s4 := same_upd (o := .lst [.ref a0, .ref a1, .ref a2, .ref a3]) np
      obtain e | e | e | e : n = 8 ∨ n = 9 ∨ n = 10 ∨ n = 11 := by omega
      · subst e
        exact ⟨_, rfl, _, _, rfl, rfl, p, _, 0, .ref a0, rfl, rfl, .inl (.inl upd_same), rfl, q _ a0 T.x_NoText.C ⟨_, rfl, T.x_NoText.ns⟩ (s4 _ _ (s3 _ _ (s2 _ _ (s1 _ _ (upd_same))))) ((((s0.trans s1).trans s2).trans s3).trans s4)⟩
      · subst e
        exact ⟨_, rfl, _, _, rfl, rfl, p, _, 1, .ref a1, rfl, rfl, .inl (.inl upd_same), rfl, q _ a1 T.x_NoTicket.C ⟨_, rfl, T.x_NoTicket.ns⟩ (s4 _ _ (s3 _ _ (s2 _ _ (upd_same)))) ((((s0.trans s1).trans s2).trans s3).trans s4)⟩
      · subst e
        exact ⟨_, rfl, _, _, rfl, rfl, p, _, 2, .ref a2, rfl, rfl, .inl (.inl upd_same), rfl, q _ a2 T.x_NoWorld.C ⟨_, rfl, T.x_NoWorld.ns⟩ (s4 _ _ (s3 _ _ (upd_same))) ((((s0.trans s1).trans s2).trans s3).trans s4)⟩
      · subst e
        exact ⟨_, rfl, _, _, rfl, rfl, p, _, 3, .ref a3, rfl, rfl, .inl (.inl upd_same), rfl, q _ a3 T.x_NotAlike.C ⟨_, rfl, T.x_NotAlike.ns⟩ (s4 _ _ (upd_same)) ((((s0.trans s1).trans s2).trans s3).trans s4)⟩
    have f : ¬ (n : Int) < 12 := fun z => e2 (decide_eq_true z)
    intro a0 m0 a1 m1 a2 m2 a3 m3
    have s0 := same_upd (o := ExK (.ref T.x_StallError.C) a0) m0
    have s1 := same_upd (o := ExK (.ref T.x_TooLong.C) a1) m1
    have s2 := same_upd (o := ExK (.ref T.x_TooMany.C) a2) m2
    have s3 := same_upd (o := ExK (.ref T.x_Unfair.C) a3) m3
    refine ⟨by show 4 ≤ sizeLine; decide, fun p np => ?_⟩
    have s4 := same_upd (o := .lst [.ref a0, .ref a1, .ref a2, .ref a3]) np
    obtain e | e | e | e : n = 12 ∨ n = 13 ∨ n = 14 ∨ n = 15 := by omega
    · subst e
      exact ⟨_, rfl, _, _, rfl, rfl, p, _, 0, .ref a0, rfl, rfl, .inl (.inl upd_same), rfl, q _ a0 T.x_StallError.C ⟨_, rfl, T.x_StallError.ns⟩ (s4 _ _ (s3 _ _ (s2 _ _ (s1 _ _ (upd_same))))) ((((s0.trans s1).trans s2).trans s3).trans s4)⟩
    · subst e
      exact ⟨_, rfl, _, _, rfl, rfl, p, _, 1, .ref a1, rfl, rfl, .inl (.inl upd_same), rfl, q _ a1 T.x_TooLong.C ⟨_, rfl, T.x_TooLong.ns⟩ (s4 _ _ (s3 _ _ (s2 _ _ (upd_same)))) ((((s0.trans s1).trans s2).trans s3).trans s4)⟩
    · subst e
      exact ⟨_, rfl, _, _, rfl, rfl, p, _, 2, .ref a2, rfl, rfl, .inl (.inl upd_same), rfl, q _ a2 T.x_TooMany.C ⟨_, rfl, T.x_TooMany.ns⟩ (s4 _ _ (s3 _ _ (upd_same))) ((((s0.trans s1).trans s2).trans s3).trans s4)⟩
    · subst e
      exact ⟨_, rfl, _, _, rfl, rfl, p, _, 3, .ref a3, rfl, rfl, .inl (.inl upd_same), rfl, q _ a3 T.x_Unfair.C ⟨_, rfl, T.x_Unfair.ns⟩ (s4 _ _ (upd_same)) ((((s0.trans s1).trans s2).trans s3).trans s4)⟩
end
end B

namespace B
open PySem PySem.Spec PyProof.Rows L2
/-- what is known of the class of a number -/
structure CF {K : PySem.W.Frag} {mg : Str → Option Value} (T : Tx K mg) (n : Nat) (C : Addr) : Prop where
  ec : ExcC K C
  me : PySem.W.subIn K (.ref C) (.ref C) = some true
  v : PySem.W.subIn K (.ref C) (.type "ValueError") = some true
  w_IndexError : PySem.W.subIn K (.ref C) (.type "IndexError") = some false
  w_KeyError : PySem.W.subIn K (.ref C) (.type "KeyError") = some false
  w_ZeroDivisionError : PySem.W.subIn K (.ref C) (.type "ZeroDivisionError") = some false
  c0 : PySem.W.subIn K (.ref C) (.ref T.x_Fair.C) = some (hit n 0)
  c1 : PySem.W.subIn K (.ref C) (.ref T.x_NoBet.C) = some (hit n 1)
  c2 : PySem.W.subIn K (.ref C) (.ref T.x_NoCover.C) = some (hit n 2)
  c3 : PySem.W.subIn K (.ref C) (.ref T.x_NoDeed.C) = some (hit n 3)
  c4 : PySem.W.subIn K (.ref C) (.ref T.x_NoHolder.C) = some (hit n 4)
  c5 : PySem.W.subIn K (.ref C) (.ref T.x_NoSaying.C) = some (hit n 5)
  c6 : PySem.W.subIn K (.ref C) (.ref T.x_NoStake.C) = some (hit n 6)
  c7 : PySem.W.subIn K (.ref C) (.ref T.x_NoStep.C) = some (hit n 7)
  c8 : PySem.W.subIn K (.ref C) (.ref T.x_NoText.C) = some (hit n 8)
  c9 : PySem.W.subIn K (.ref C) (.ref T.x_NoTicket.C) = some (hit n 9)
  c10 : PySem.W.subIn K (.ref C) (.ref T.x_NoWorld.C) = some (hit n 10)
  c11 : PySem.W.subIn K (.ref C) (.ref T.x_NotAlike.C) = some (hit n 11)
  c12 : PySem.W.subIn K (.ref C) (.ref T.x_StallError.C) = some (hit n 12)
  c13 : PySem.W.subIn K (.ref C) (.ref T.x_TooLong.C) = some (hit n 13)
  c14 : PySem.W.subIn K (.ref C) (.ref T.x_TooMany.C) = some (hit n 14)
  c15 : PySem.W.subIn K (.ref C) (.ref T.x_Unfair.C) = some (hit n 15)
theorem cf_all {K : PySem.W.Frag} {mg : Str → Option Value} (T : Tx K mg) {n : Nat} {C : Addr} (hn : n < 16) (h : XN K n C) : CF T n C := by
  obtain ⟨x, e, hx⟩ := h
  match n, hn with
  | 0, _ =>
    cases e
    obtain rfl := hx.eq T.x_Fair.ns
    exact ⟨T.x_Fair.ec, T.x_Fair.me, T.v_Fair, T.w_Fair_IndexError, T.w_Fair_KeyError, T.w_Fair_ZeroDivisionError, T.i_Fair_Fair, T.i_Fair_NoBet, T.i_Fair_NoCover, T.i_Fair_NoDeed, T.i_Fair_NoHolder, T.i_Fair_NoSaying, T.i_Fair_NoStake, T.i_Fair_NoStep, T.i_Fair_NoText, T.i_Fair_NoTicket, T.i_Fair_NoWorld, T.i_Fair_NotAlike, T.i_Fair_StallError, T.i_Fair_TooLong, T.i_Fair_TooMany, T.i_Fair_Unfair⟩
  | 1, _ =>
    cases e
    obtain rfl := hx.eq T.x_NoBet.ns
    exact ⟨T.x_NoBet.ec, T.x_NoBet.me, T.v_NoBet, T.w_NoBet_IndexError, T.w_NoBet_KeyError, T.w_NoBet_ZeroDivisionError, T.i_NoBet_Fair, T.i_NoBet_NoBet, T.i_NoBet_NoCover, T.i_NoBet_NoDeed, T.i_NoBet_NoHolder, T.i_NoBet_NoSaying, T.i_NoBet_NoStake, T.i_NoBet_NoStep, T.i_NoBet_NoText, T.i_NoBet_NoTicket, T.i_NoBet_NoWorld, T.i_NoBet_NotAlike, T.i_NoBet_StallError, T.i_NoBet_TooLong, T.i_NoBet_TooMany, T.i_NoBet_Unfair⟩
  | 2, _ =>
    cases e
    obtain rfl := hx.eq T.x_NoCover.ns
    exact ⟨T.x_NoCover.ec, T.x_NoCover.me, T.v_NoCover, T.w_NoCover_IndexError, T.w_NoCover_KeyError, T.w_NoCover_ZeroDivisionError, T.i_NoCover_Fair, T.i_NoCover_NoBet, T.i_NoCover_NoCover, T.i_NoCover_NoDeed, T.i_NoCover_NoHolder, T.i_NoCover_NoSaying, T.i_NoCover_NoStake, T.i_NoCover_NoStep, T.i_NoCover_NoText, T.i_NoCover_NoTicket, T.i_NoCover_NoWorld, T.i_NoCover_NotAlike, T.i_NoCover_StallError, T.i_NoCover_TooLong, T.i_NoCover_TooMany, T.i_NoCover_Unfair⟩
  | 3, _ =>
    cases e
    obtain rfl := hx.eq T.x_NoDeed.ns
    exact ⟨T.x_NoDeed.ec, T.x_NoDeed.me, T.v_NoDeed, T.w_NoDeed_IndexError, T.w_NoDeed_KeyError, T.w_NoDeed_ZeroDivisionError, T.i_NoDeed_Fair, T.i_NoDeed_NoBet, T.i_NoDeed_NoCover, T.i_NoDeed_NoDeed, T.i_NoDeed_NoHolder, T.i_NoDeed_NoSaying, T.i_NoDeed_NoStake, T.i_NoDeed_NoStep, T.i_NoDeed_NoText, T.i_NoDeed_NoTicket, T.i_NoDeed_NoWorld, T.i_NoDeed_NotAlike, T.i_NoDeed_StallError, T.i_NoDeed_TooLong, T.i_NoDeed_TooMany, T.i_NoDeed_Unfair⟩
  | 4, _ =>
    cases e
    obtain rfl := hx.eq T.x_NoHolder.ns
    exact ⟨T.x_NoHolder.ec, T.x_NoHolder.me, T.v_NoHolder, T.w_NoHolder_IndexError, T.w_NoHolder_KeyError, T.w_NoHolder_ZeroDivisionError, T.i_NoHolder_Fair, T.i_NoHolder_NoBet, T.i_NoHolder_NoCover, T.i_NoHolder_NoDeed, T.i_NoHolder_NoHolder, T.i_NoHolder_NoSaying, T.i_NoHolder_NoStake, T.i_NoHolder_NoStep, T.i_NoHolder_NoText, T.i_NoHolder_NoTicket, T.i_NoHolder_NoWorld, T.i_NoHolder_NotAlike, T.i_NoHolder_StallError, T.i_NoHolder_TooLong, T.i_NoHolder_TooMany, T.i_NoHolder_Unfair⟩
  | 5, _ =>
    cases e
    obtain rfl := hx.eq T.x_NoSaying.ns
    exact ⟨T.x_NoSaying.ec, T.x_NoSaying.me, T.v_NoSaying, T.w_NoSaying_IndexError, T.w_NoSaying_KeyError, T.w_NoSaying_ZeroDivisionError, T.i_NoSaying_Fair, T.i_NoSaying_NoBet, T.i_NoSaying_NoCover, T.i_NoSaying_NoDeed, T.i_NoSaying_NoHolder, T.i_NoSaying_NoSaying, T.i_NoSaying_NoStake, T.i_NoSaying_NoStep, T.i_NoSaying_NoText, T.i_NoSaying_NoTicket, T.i_NoSaying_NoWorld, T.i_NoSaying_NotAlike, T.i_NoSaying_StallError, T.i_NoSaying_TooLong, T.i_NoSaying_TooMany, T.i_NoSaying_Unfair⟩
  | 6, _ =>
    cases e
    obtain rfl := hx.eq T.x_NoStake.ns
    exact ⟨T.x_NoStake.ec, T.x_NoStake.me, T.v_NoStake, T.w_NoStake_IndexError, T.w_NoStake_KeyError, T.w_NoStake_ZeroDivisionError, T.i_NoStake_Fair, T.i_NoStake_NoBet, T.i_NoStake_NoCover, T.i_NoStake_NoDeed, T.i_NoStake_NoHolder, T.i_NoStake_NoSaying, T.i_NoStake_NoStake, T.i_NoStake_NoStep, T.i_NoStake_NoText, T.i_NoStake_NoTicket, T.i_NoStake_NoWorld, T.i_NoStake_NotAlike, T.i_NoStake_StallError, T.i_NoStake_TooLong, T.i_NoStake_TooMany, T.i_NoStake_Unfair⟩
  | 7, _ =>
    cases e
    obtain rfl := hx.eq T.x_NoStep.ns
    exact ⟨T.x_NoStep.ec, T.x_NoStep.me, T.v_NoStep, T.w_NoStep_IndexError, T.w_NoStep_KeyError, T.w_NoStep_ZeroDivisionError, T.i_NoStep_Fair, T.i_NoStep_NoBet, T.i_NoStep_NoCover, T.i_NoStep_NoDeed, T.i_NoStep_NoHolder, T.i_NoStep_NoSaying, T.i_NoStep_NoStake, T.i_NoStep_NoStep, T.i_NoStep_NoText, T.i_NoStep_NoTicket, T.i_NoStep_NoWorld, T.i_NoStep_NotAlike, T.i_NoStep_StallError, T.i_NoStep_TooLong, T.i_NoStep_TooMany, T.i_NoStep_Unfair⟩
  | 8, _ =>
    cases e
    obtain rfl := hx.eq T.x_NoText.ns
    exact ⟨T.x_NoText.ec, T.x_NoText.me, T.v_NoText, T.w_NoText_IndexError, T.w_NoText_KeyError, T.w_NoText_ZeroDivisionError, T.i_NoText_Fair, T.i_NoText_NoBet, T.i_NoText_NoCover, T.i_NoText_NoDeed, T.i_NoText_NoHolder, T.i_NoText_NoSaying, T.i_NoText_NoStake, T.i_NoText_NoStep, T.i_NoText_NoText, T.i_NoText_NoTicket, T.i_NoText_NoWorld, T.i_NoText_NotAlike, T.i_NoText_StallError, T.i_NoText_TooLong, T.i_NoText_TooMany, T.i_NoText_Unfair⟩
  | 9, _ =>
    cases e
    obtain rfl := hx.eq T.x_NoTicket.ns
    exact ⟨T.x_NoTicket.ec, T.x_NoTicket.me, T.v_NoTicket, T.w_NoTicket_IndexError, T.w_NoTicket_KeyError, T.w_NoTicket_ZeroDivisionError, T.i_NoTicket_Fair, T.i_NoTicket_NoBet, T.i_NoTicket_NoCover, T.i_NoTicket_NoDeed, T.i_NoTicket_NoHolder, T.i_NoTicket_NoSaying, T.i_NoTicket_NoStake, T.i_NoTicket_NoStep, T.i_NoTicket_NoText, T.i_NoTicket_NoTicket, T.i_NoTicket_NoWorld, T.i_NoTicket_NotAlike, T.i_NoTicket_StallError, T.i_NoTicket_TooLong, T.i_NoTicket_TooMany, T.i_NoTicket_Unfair⟩
  | 10, _ =>
    cases e
    obtain rfl := hx.eq T.x_NoWorld.ns
    exact ⟨T.x_NoWorld.ec, T.x_NoWorld.me, T.v_NoWorld, T.w_NoWorld_IndexError, T.w_NoWorld_KeyError, T.w_NoWorld_ZeroDivisionError, T.i_NoWorld_Fair, T.i_NoWorld_NoBet, T.i_NoWorld_NoCover, T.i_NoWorld_NoDeed, T.i_NoWorld_NoHolder, T.i_NoWorld_NoSaying, T.i_NoWorld_NoStake, T.i_NoWorld_NoStep, T.i_NoWorld_NoText, T.i_NoWorld_NoTicket, T.i_NoWorld_NoWorld, T.i_NoWorld_NotAlike, T.i_NoWorld_StallError, T.i_NoWorld_TooLong, T.i_NoWorld_TooMany, T.i_NoWorld_Unfair⟩
  | 11, _ =>
    cases e
    obtain rfl := hx.eq T.x_NotAlike.ns
    exact ⟨T.x_NotAlike.ec, T.x_NotAlike.me, T.v_NotAlike, T.w_NotAlike_IndexError, T.w_NotAlike_KeyError, T.w_NotAlike_ZeroDivisionError, T.i_NotAlike_Fair, T.i_NotAlike_NoBet, T.i_NotAlike_NoCover, T.i_NotAlike_NoDeed, T.i_NotAlike_NoHolder, T.i_NotAlike_NoSaying, T.i_NotAlike_NoStake, T.i_NotAlike_NoStep, T.i_NotAlike_NoText, T.i_NotAlike_NoTicket, T.i_NotAlike_NoWorld, T.i_NotAlike_NotAlike, T.i_NotAlike_StallError, T.i_NotAlike_TooLong, T.i_NotAlike_TooMany, T.i_NotAlike_Unfair⟩
  | 12, _ =>
    cases e
    obtain rfl := hx.eq T.x_StallError.ns
    exact ⟨T.x_StallError.ec, T.x_StallError.me, T.v_StallError, T.w_StallError_IndexError, T.w_StallError_KeyError, T.w_StallError_ZeroDivisionError, T.i_StallError_Fair, T.i_StallError_NoBet, T.i_StallError_NoCover, T.i_StallError_NoDeed, T.i_StallError_NoHolder, T.i_StallError_NoSaying, T.i_StallError_NoStake, T.i_StallError_NoStep, T.i_StallError_NoText, T.i_StallError_NoTicket, T.i_StallError_NoWorld, T.i_StallError_NotAlike, T.i_StallError_StallError, T.i_StallError_TooLong, T.i_StallError_TooMany, T.i_StallError_Unfair⟩
  | 13, _ =>
    cases e
    obtain rfl := hx.eq T.x_TooLong.ns
    exact ⟨T.x_TooLong.ec, T.x_TooLong.me, T.v_TooLong, T.w_TooLong_IndexError, T.w_TooLong_KeyError, T.w_TooLong_ZeroDivisionError, T.i_TooLong_Fair, T.i_TooLong_NoBet, T.i_TooLong_NoCover, T.i_TooLong_NoDeed, T.i_TooLong_NoHolder, T.i_TooLong_NoSaying, T.i_TooLong_NoStake, T.i_TooLong_NoStep, T.i_TooLong_NoText, T.i_TooLong_NoTicket, T.i_TooLong_NoWorld, T.i_TooLong_NotAlike, T.i_TooLong_StallError, T.i_TooLong_TooLong, T.i_TooLong_TooMany, T.i_TooLong_Unfair⟩
  | 14, _ =>
    cases e
    obtain rfl := hx.eq T.x_TooMany.ns
    exact ⟨T.x_TooMany.ec, T.x_TooMany.me, T.v_TooMany, T.w_TooMany_IndexError, T.w_TooMany_KeyError, T.w_TooMany_ZeroDivisionError, T.i_TooMany_Fair, T.i_TooMany_NoBet, T.i_TooMany_NoCover, T.i_TooMany_NoDeed, T.i_TooMany_NoHolder, T.i_TooMany_NoSaying, T.i_TooMany_NoStake, T.i_TooMany_NoStep, T.i_TooMany_NoText, T.i_TooMany_NoTicket, T.i_TooMany_NoWorld, T.i_TooMany_NotAlike, T.i_TooMany_StallError, T.i_TooMany_TooLong, T.i_TooMany_TooMany, T.i_TooMany_Unfair⟩
  | 15, _ =>
    cases e
    obtain rfl := hx.eq T.x_Unfair.ns
    exact ⟨T.x_Unfair.ec, T.x_Unfair.me, T.v_Unfair, T.w_Unfair_IndexError, T.w_Unfair_KeyError, T.w_Unfair_ZeroDivisionError, T.i_Unfair_Fair, T.i_Unfair_NoBet, T.i_Unfair_NoCover, T.i_Unfair_NoDeed, T.i_Unfair_NoHolder, T.i_Unfair_NoSaying, T.i_Unfair_NoStake, T.i_Unfair_NoStep, T.i_Unfair_NoText, T.i_Unfair_NoTicket, T.i_Unfair_NoWorld, T.i_Unfair_NotAlike, T.i_Unfair_StallError, T.i_Unfair_TooLong, T.i_Unfair_TooMany, T.i_Unfair_Unfair⟩
  | k + 16, z => exact absurd z (by omega)

def sp_l_classes (K : PySem.W.Frag) : Sp := fun vs H Q _ => ∃ (n : Nat) (x C : Addr), vs = [.ref x] ∧ n < 16 ∧ XN K n C ∧ H x = some (ExK (.ref C) x) ∧ ∀ (H' : Hp) (p : Addr), H' p = some (.lst (hits n)) → Same H H' → Q (.ref p) H'

section
variable {P : Program} {w : World} {K : PySem.W.Frag} {mg : Str → Option Value} {base : Heap}
theorem ok_l_classes (T : Tx K mg) : FnOk P w K mg base CX0 1 T.l_classes.f T.l_classes.fd ["_law_error"] (sp_l_classes K) := by
  refine T.l_classes.F.ok sc_l_classes (fun vs H Q E h => ?_) (fun cdv A outer s H vs Q E hr h => ?_)
  · obtain ⟨n, x, C, rfl, hn, hC, hx, q⟩ := h
    rfl
  · obtain ⟨n, x, C, rfl, hn, hC, hx, q⟩ := h
    refine ⟨_, (pss_cons (ps_set (i := 1) sc_l_classes.nd rfl (.inl rfl) (pe_lst (pa_cons (pe_callB call_isK (by rfl) T.m_isinstance (by decide +kernel) (pa_cons (pv 0) (pa_cons (pe_glob (v := .ref T.x_Fair.C) (by rfl) T.x_Fair.g rfl) pa_nil))) (pa_cons (pe_callB call_isK (by rfl) T.m_isinstance (by decide +kernel) (pa_cons (pv 0) (pa_cons (pe_glob (v := .ref T.x_NoBet.C) (by rfl) T.x_NoBet.g rfl) pa_nil))) (pa_cons (pe_callB call_isK (by rfl) T.m_isinstance (by decide +kernel) (pa_cons (pv 0) (pa_cons (pe_glob (v := .ref T.x_NoCover.C) (by rfl) T.x_NoCover.g rfl) pa_nil))) (pa_cons (pe_callB call_isK (by rfl) T.m_isinstance (by decide +kernel) (pa_cons (pv 0) (pa_cons (pe_glob (v := .ref T.x_NoDeed.C) (by rfl) T.x_NoDeed.g rfl) pa_nil))) pa_nil))))))
      (pss_cons (ps_set (i := 1) sc_l_classes.nd rfl (.inl rfl) (pe_op op_cat (pv 1) (pe_lst (pa_cons (pe_callB call_isK (by rfl) T.m_isinstance (by decide +kernel) (pa_cons (pv 0) (pa_cons (pe_glob (v := .ref T.x_NoHolder.C) (by rfl) T.x_NoHolder.g rfl) pa_nil))) (pa_cons (pe_callB call_isK (by rfl) T.m_isinstance (by decide +kernel) (pa_cons (pv 0) (pa_cons (pe_glob (v := .ref T.x_NoSaying.C) (by rfl) T.x_NoSaying.g rfl) pa_nil))) (pa_cons (pe_callB call_isK (by rfl) T.m_isinstance (by decide +kernel) (pa_cons (pv 0) (pa_cons (pe_glob (v := .ref T.x_NoStake.C) (by rfl) T.x_NoStake.g rfl) pa_nil))) pa_nil))))))
      (pss_cons (ps_set (i := 1) sc_l_classes.nd rfl (.inl rfl) (pe_op op_cat (pv 1) (pe_lst (pa_cons (pe_callB call_isK (by rfl) T.m_isinstance (by decide +kernel) (pa_cons (pv 0) (pa_cons (pe_glob (v := .ref T.x_NoStep.C) (by rfl) T.x_NoStep.g rfl) pa_nil))) (pa_cons (pe_callB call_isK (by rfl) T.m_isinstance (by decide +kernel) (pa_cons (pv 0) (pa_cons (pe_glob (v := .ref T.x_NoText.C) (by rfl) T.x_NoText.g rfl) pa_nil))) (pa_cons (pe_callB call_isK (by rfl) T.m_isinstance (by decide +kernel) (pa_cons (pv 0) (pa_cons (pe_glob (v := .ref T.x_NoTicket.C) (by rfl) T.x_NoTicket.g rfl) pa_nil))) pa_nil))))))
      (pss_cons (ps_set (i := 1) sc_l_classes.nd rfl (.inl rfl) (pe_op op_cat (pv 1) (pe_lst (pa_cons (pe_callB call_isK (by rfl) T.m_isinstance (by decide +kernel) (pa_cons (pv 0) (pa_cons (pe_glob (v := .ref T.x_NoWorld.C) (by rfl) T.x_NoWorld.g rfl) pa_nil))) (pa_cons (pe_callB call_isK (by rfl) T.m_isinstance (by decide +kernel) (pa_cons (pv 0) (pa_cons (pe_glob (v := .ref T.x_NotAlike.C) (by rfl) T.x_NotAlike.g rfl) pa_nil))) (pa_cons (pe_callB call_isK (by rfl) T.m_isinstance (by decide +kernel) (pa_cons (pv 0) (pa_cons (pe_glob (v := .ref T.x_StallError.C) (by rfl) T.x_StallError.g rfl) pa_nil))) pa_nil))))))
      (pss_one (ps_ret (pe_op op_cat (pv 1) (pe_lst (pa_cons (pe_callB call_isK (by rfl) T.m_isinstance (by decide +kernel) (pa_cons (pv 0) (pa_cons (pe_glob (v := .ref T.x_TooLong.C) (by rfl) T.x_TooLong.g rfl) pa_nil))) (pa_cons (pe_callB call_isK (by rfl) T.m_isinstance (by decide +kernel) (pa_cons (pv 0) (pa_cons (pe_glob (v := .ref T.x_TooMany.C) (by rfl) T.x_TooMany.g rfl) pa_nil))) (pa_cons (pe_callB call_isK (by rfl) T.m_isinstance (by decide +kernel) (pa_cons (pv 0) (pa_cons (pe_glob (v := .ref T.x_Unfair.C) (by rfl) T.x_Unfair.g rfl) pa_nil))) pa_nil))))))))))), ?_⟩
    have F := cf_all T hn hC
    refine ⟨_, rfl, x, C, _, _, hit n 0, rfl, hx, F.ec, .own _, kit_own T.x_Fair.ic T.x_Fair.ty F.me F.c0, _, rfl, x, C, _, _, hit n 1, rfl, hx, F.ec, .own _, kit_own T.x_NoBet.ic T.x_NoBet.ty F.me F.c1, _, rfl, x, C, _, _, hit n 2, rfl, hx, F.ec, .own _, kit_own T.x_NoCover.ic T.x_NoCover.ty F.me F.c2, _, rfl, x, C, _, _, hit n 3, rfl, hx, F.ec, .own _, kit_own T.x_NoDeed.ic T.x_NoDeed.ty F.me F.c3, by show 4 ≤ sizeLine; decide, fun L0 n0 => ?_⟩
    have S0 := same_upd (o := .lst [.bl (hit n 0), .bl (hit n 1), .bl (hit n 2), .bl (hit n 3)]) n0
    refine ⟨_, rfl, _, rfl, x, C, _, _, hit n 4, rfl, S0 _ _ hx, F.ec, .own _, kit_own T.x_NoHolder.ic T.x_NoHolder.ty F.me F.c4, _, rfl, x, C, _, _, hit n 5, rfl, S0 _ _ hx, F.ec, .own _, kit_own T.x_NoSaying.ic T.x_NoSaying.ty F.me F.c5, _, rfl, x, C, _, _, hit n 6, rfl, S0 _ _ hx, F.ec, .own _, kit_own T.x_NoStake.ic T.x_NoStake.ty F.me F.c6, by show 3 ≤ sizeLine; decide, fun G1 m1 => ?_⟩
    have u1 := same_upd (o := .lst [.bl (hit n 4), .bl (hit n 5), .bl (hit n 6)]) m1
    refine ⟨L0, G1, [.bl (hit n 0), .bl (hit n 1), .bl (hit n 2), .bl (hit n 3)], [.bl (hit n 4), .bl (hit n 5), .bl (hit n 6)], rfl, rfl, u1 _ _ upd_same, upd_same, by show 7 ≤ sizeLine; decide, fun L1 n1 => ?_⟩
    have s1 := same_upd (o := .lst [.bl (hit n 0), .bl (hit n 1), .bl (hit n 2), .bl (hit n 3), .bl (hit n 4), .bl (hit n 5), .bl (hit n 6)]) n1
    have S1 := (S0.trans u1).trans s1
    refine ⟨_, rfl, _, rfl, x, C, _, _, hit n 7, rfl, S1 _ _ hx, F.ec, .own _, kit_own T.x_NoStep.ic T.x_NoStep.ty F.me F.c7, _, rfl, x, C, _, _, hit n 8, rfl, S1 _ _ hx, F.ec, .own _, kit_own T.x_NoText.ic T.x_NoText.ty F.me F.c8, _, rfl, x, C, _, _, hit n 9, rfl, S1 _ _ hx, F.ec, .own _, kit_own T.x_NoTicket.ic T.x_NoTicket.ty F.me F.c9, by show 3 ≤ sizeLine; decide, fun G2 m2 => ?_⟩
    have u2 := same_upd (o := .lst [.bl (hit n 7), .bl (hit n 8), .bl (hit n 9)]) m2
    refine ⟨L1, G2, [.bl (hit n 0), .bl (hit n 1), .bl (hit n 2), .bl (hit n 3), .bl (hit n 4), .bl (hit n 5), .bl (hit n 6)], [.bl (hit n 7), .bl (hit n 8), .bl (hit n 9)], rfl, rfl, u2 _ _ upd_same, upd_same, by show 10 ≤ sizeLine; decide, fun L2 n2 => ?_⟩
    have s2 := same_upd (o := .lst [.bl (hit n 0), .bl (hit n 1), .bl (hit n 2), .bl (hit n 3), .bl (hit n 4), .bl (hit n 5), .bl (hit n 6), .bl (hit n 7), .bl (hit n 8), .bl (hit n 9)]) n2
    have S2 := (S1.trans u2).trans s2
    refine ⟨_, rfl, _, rfl, x, C, _, _, hit n 10, rfl, S2 _ _ hx, F.ec, .own _, kit_own T.x_NoWorld.ic T.x_NoWorld.ty F.me F.c10, _, rfl, x, C, _, _, hit n 11, rfl, S2 _ _ hx, F.ec, .own _, kit_own T.x_NotAlike.ic T.x_NotAlike.ty F.me F.c11, _, rfl, x, C, _, _, hit n 12, rfl, S2 _ _ hx, F.ec, .own _, kit_own T.x_StallError.ic T.x_StallError.ty F.me F.c12, by show 3 ≤ sizeLine; decide, fun G3 m3 => ?_⟩
    have u3 := same_upd (o := .lst [.bl (hit n 10), .bl (hit n 11), .bl (hit n 12)]) m3
    refine ⟨L2, G3, [.bl (hit n 0), .bl (hit n 1), .bl (hit n 2), .bl (hit n 3), .bl (hit n 4), .bl (hit n 5), .bl (hit n 6), .bl (hit n 7), .bl (hit n 8), .bl (hit n 9)], [.bl (hit n 10), .bl (hit n 11), .bl (hit n 12)], rfl, rfl, u3 _ _ upd_same, upd_same, by show 13 ≤ sizeLine; decide, fun L3 n3 => ?_⟩
    have s3 := same_upd (o := .lst [.bl (hit n 0), .bl (hit n 1), .bl (hit n 2), .bl (hit n 3), .bl (hit n 4), .bl (hit n 5), .bl (hit n 6), .bl (hit n 7), .bl (hit n 8), .bl (hit n 9), .bl (hit n 10), .bl (hit n 11), .bl (hit n 12)]) n3
    have S3 := (S2.trans u3).trans s3
    refine ⟨_, rfl, _, rfl, x, C, _, _, hit n 13, rfl, S3 _ _ hx, F.ec, .own _, kit_own T.x_TooLong.ic T.x_TooLong.ty F.me F.c13, _, rfl, x, C, _, _, hit n 14, rfl, S3 _ _ hx, F.ec, .own _, kit_own T.x_TooMany.ic T.x_TooMany.ty F.me F.c14, _, rfl, x, C, _, _, hit n 15, rfl, S3 _ _ hx, F.ec, .own _, kit_own T.x_Unfair.ic T.x_Unfair.ty F.me F.c15, by show 3 ≤ sizeLine; decide, fun G4 m4 => ?_⟩
    have u4 := same_upd (o := .lst [.bl (hit n 13), .bl (hit n 14), .bl (hit n 15)]) m4
    refine ⟨L3, G4, [.bl (hit n 0), .bl (hit n 1), .bl (hit n 2), .bl (hit n 3), .bl (hit n 4), .bl (hit n 5), .bl (hit n 6), .bl (hit n 7), .bl (hit n 8), .bl (hit n 9), .bl (hit n 10), .bl (hit n 11), .bl (hit n 12)], [.bl (hit n 13), .bl (hit n 14), .bl (hit n 15)], rfl, rfl, u4 _ _ upd_same, upd_same, by show 16 ≤ sizeLine; decide, fun L4 n4 => ?_⟩
    have s4 := same_upd (o := .lst [.bl (hit n 0), .bl (hit n 1), .bl (hit n 2), .bl (hit n 3), .bl (hit n 4), .bl (hit n 5), .bl (hit n 6), .bl (hit n 7), .bl (hit n 8), .bl (hit n 9), .bl (hit n 10), .bl (hit n 11), .bl (hit n 12), .bl (hit n 13), .bl (hit n 14), .bl (hit n 15)]) n4
    have S4 := (S3.trans u4).trans s4
    exact q _ L4 upd_same S4
end
end B

namespace B
open PySem PySem.Spec PyProof.Rows L2

def sp_not_so (K : PySem.W.Frag) : Sp := fun vs H Q E => ∃ (a : Addr) (ws : List Wd), vs = [.ref a] ∧ SqT K H a (ws.map wv) ∧ ws.length ≤ 1000 ∧ (40 < ws.length + 1 → ∀ C, XIs K "TooLong" C → ∀ H', Same H H' → E (.ref C) none H') ∧ (ws.length + 1 ≤ 40 → ∀ (H' : Hp) (p : Addr), SqT K H' p ((ws ++ [Wd.nt]).map wv) → Same H H' → Q (.ref p) H')

section
variable {P : Program} {w : World} {K : PySem.W.Frag} {mg : Str → Option Value} {base : Heap}
theorem ok_not_so (T : Tx K mg) : FnOk P w K mg base (L2.CX P w) 2 T.not_so.f T.not_so.fd ["one"] (sp_not_so K) := by
  refine T.not_so.F.okX sc_not_so (fun vs H Q E h => ?_) (fun cdv A outer s H vs Q E hr h => ?_)
  · obtain ⟨a, ws, rfl, hA, hz, hE, hQ⟩ := h
    rfl
  · obtain ⟨a, ws, rfl, hA, hz, hE, hQ⟩ := h
    refine ⟨_, (pss_one (ps_ret (pe_callS (ok_short_enough T) (hr.mono (by decide)) (by rfl) T.short_enough.g T.short_enough.F.kp T.short_enough.b (fun σ => passAt (takes_of rfl rfl rfl rfl) σ) (pa_cons (pe_op op_catS (pv 0) (pe_tup (pa_cons pe_str pa_nil))) pa_nil)))), ?_⟩
    refine ⟨_, rfl, by show 1 ≤ sizeLine; decide, fun p2 n2 => ?_⟩
    have s2 := same_upd (o := .tup [.str "not"]) n2
    refine ⟨a, p2, _, [wv .nt], rfl, rfl, Same.tup s2 hA, sqt_upd, by rw [List.length_map]; show ws.length + 1 ≤ 100000; omega, fun p3 H3 t3 s3 => ?_⟩
    have S := s2.trans s3
    have lx : (ws.map wv ++ [wv .nt]).length = ws.length + 1 := by rw [List.length_append, List.length_map]; rfl
    refine ⟨p3, _, rfl, t3, fun h C hC => hE (by omega) C hC _ S, fun h => hQ (by omega) _ p3 ?_ S⟩
    rw [List.map_append]
    exact t3
end
end B

namespace B
open PySem PySem.Spec PyProof.Rows L2

def sp_l_right (K : PySem.W.Frag) : Sp := fun vs H Q _ => ∃ (n : Nat), vs = [.int n] ∧ n < 16 ∧ ∀ H', Same H H' → Q (.bl true) H'

section
variable {P : Program} {w : World} {K : PySem.W.Frag} {mg : Str → Option Value} {base : Heap}
theorem ok_l_right (T : Tx K mg) : FnOk P w K mg base CX0 2 T.l_right.f T.l_right.fd ["_law_number"] (sp_l_right K) := by
  refine T.l_right.F.ok sc_l_right (fun vs H Q E h => ?_) (fun cdv A outer s H vs Q E hr h => ?_)
  · obtain ⟨n, rfl, hn, q⟩ := h
    rfl
  · obtain ⟨n, rfl, hn, q⟩ := h
    refine ⟨_, (pss_cons (ps_set (i := 1) sc_l_right.nd rfl (.inl rfl) (pe_call (ok_l_made T) (hr.mono (by decide)) (by rfl) T.l_made.g T.l_made.F.kp T.l_made.b .nil pass0 (pa_cons (pv 0) pa_nil)))
      (pss_cons (ps_if (PW.pt (pw_or (pt_not (pt_val (pe_callB call_isK (by rfl) T.m_isinstance (by decide +kernel) (pa_cons (pv 1) (pa_cons (pe_bltn (v := .ty "ValueError") (u := .type "ValueError") (by rfl) T.m_ValueError (by decide +kernel) rfl) pa_nil))))) (pw_or1 (pt_val (pe_callB call_isKT (by rfl) T.m_isinstance (by decide +kernel) (pa_cons (pv 1) (pa_cons (pe_tup (pa_cons (pe_bltn (v := .ty "IndexError") (u := .type "IndexError") (by rfl) T.m_IndexError (by decide +kernel) rfl) (pa_cons (pe_bltn (v := .ty "KeyError") (u := .type "KeyError") (by rfl) T.m_KeyError (by decide +kernel) rfl) (pa_cons (pe_bltn (v := .ty "ZeroDivisionError") (u := .type "ZeroDivisionError") (by rfl) T.m_ZeroDivisionError (by decide +kernel) rfl) pa_nil)))) pa_nil))))))) (pss_one (ps_ret pe_bl)) pss_nil)
      (pss_one (ps_ret (pe_cmpR (op_eqD hr.units) (pe_call (ok_l_classes T) (hr.mono (by decide)) (by rfl) T.l_classes.g T.l_classes.F.kp T.l_classes.b .nil pass0 (pa_cons (pv 1) pa_nil)) (pe_lc (own := [("_law_at", 2)]) (g := gName 2) (tt := tYes) rfl sc_l_right.nd (pi_range1 (by rfl) T.m_range (pa_cons pe_int pa_nil)) (blkOk_by (own := [("_law_at", 2)]) (N := N_l_right) (sc := defScope s_l_right) (by decide +kernel)) (fun _ _ _ _ _ => (pg_name (i := 2) sc_l_right.nd rfl (.inl rfl))) (fun _ _ _ _ _ => pts_nil) (fun _ _ _ _ _ => (pe_or (pe_cmpR op_eq (pv 2) (pv 0) (nomark _)) (pe_one (pe_cmpR op_eq (pv 2) pe_int (nomark _)))))) (nomark _)))))), ?_⟩
    refine ⟨_, rfl, n, rfl, hn, fun H1 x C hC hx s1 => ?_⟩
    have F := cf_all T hn hC
    refine ⟨_, rfl, x, C, _, _, true, rfl, hx, F.ec, .ty _, kit_val (by decide +kernel) F.v, _, rfl, iteF ?_⟩
    refine ⟨_, rfl, by show 3 ≤ sizeLine; decide, fun tp n2 => ?_⟩
    have s2 := same_upd (o := .tup [.ty "IndexError", .ty "KeyError", .ty "ZeroDivisionError"]) n2
    refine ⟨x, C, tp, _, _, false, rfl, s2 _ _ hx, F.ec, upd_same, (.cons (.ty _) (.cons (.ty _) (.cons (.ty _) .nil))), (kn_cons (kit_val (by decide +kernel) F.w_IndexError) (kn_cons (kit_val (by decide +kernel) F.w_KeyError) (kn_cons (kit_val (by decide +kernel) F.w_ZeroDivisionError) kn_nil))), _, rfl, iteF ?_⟩
    refine ⟨_, rfl, n, x, C, rfl, hn, hC, s2 _ _ hx, fun H3 p h3 s3 => ?_⟩
    refine ⟨16, rfl, by decide, by decide, fun D nD => ?_⟩
    refine lc_range (lo := 0) (n := 16) (fun j H' => H' D = some (.lst ((List.range j).map fun i => V.bl (hit n i))) ∧ Same H3 H') ⟨upd_same, same_upd nD⟩ ?_ ?_
    · rintro j H4 hj ⟨h4, s4⟩
      have fin : ∀ b, b = hit n j → (upd H4 D (.lst (((List.range j).map fun i => V.bl (hit n i)) ++ [.bl b]))) D = some (.lst ((List.range (j + 1)).map fun i => V.bl (hit n i))) ∧ Same H3 (upd H4 D (.lst (((List.range j).map fun i => V.bl (hit n i)) ++ [.bl b]))) := fun b e => by
        refine ⟨?_, same_mut nD s4⟩
        rw [upd_same, List.range_succ, List.map_append, e]
        rfl
      have sz : ((List.range j).map fun i => V.bl (hit n i)).length < sizeLine := by rw [List.length_map, List.length_range, sizeLine_eq]; omega
      refine ⟨rfl, _, rfl, _, rfl, rfl, _, rfl, ite2 (fun e => ?_) (fun e => ?_)⟩
      · have e : V.int (0 + (j : Int)) = V.int n := of_decide_eq_true e
        have e : j = n := by injection e; omega
        exact ⟨_, h4, sz, fin true (by unfold hit; rw [decide_eq_true e]; rfl)⟩
      · have e : ¬ j = n := fun z => e (decide_eq_true (by rw [z, Int.zero_add]))
        refine ⟨_, rfl, rfl, _, h4, sz, fin _ ?_⟩
        unfold hit
        rw [decide_eq_false e, Bool.false_or]
        exact decide_eq_decide.mpr ⟨fun z => by injection z; omega, fun z => by rw [z]; rfl⟩
    · rintro H4 ⟨h4, s4⟩
      refine ⟨_, _, .lst (ds := [.bool (hit n 0), .bool (hit n 1), .bool (hit n 2), .bool (hit n 3), .bool (hit n 4), .bool (hit n 5), .bool (hit n 6), .bool (hit n 7), .bool (hit n 8), .bool (hit n 9), .bool (hit n 10), .bool (hit n 11), .bool (hit n 12), .bool (hit n 13), .bool (hit n 14), .bool (hit n 15)]) (.inl (.inl (s4 _ _ h3))) (.cons (.bl _) (.cons (.bl _) (.cons (.bl _) (.cons (.bl _) (.cons (.bl _) (.cons (.bl _) (.cons (.bl _) (.cons (.bl _) (.cons (.bl _) (.cons (.bl _) (.cons (.bl _) (.cons (.bl _) (.cons (.bl _) (.cons (.bl _) (.cons (.bl _) (.cons (.bl _) .nil)))))))))))))))), .lst (ds := [.bool (hit n 0), .bool (hit n 1), .bool (hit n 2), .bool (hit n 3), .bool (hit n 4), .bool (hit n 5), .bool (hit n 6), .bool (hit n 7), .bool (hit n 8), .bool (hit n 9), .bool (hit n 10), .bool (hit n 11), .bool (hit n 12), .bool (hit n 13), .bool (hit n 14), .bool (hit n 15)]) (.inl (.inl h4)) (.cons (.bl _) (.cons (.bl _) (.cons (.bl _) (.cons (.bl _) (.cons (.bl _) (.cons (.bl _) (.cons (.bl _) (.cons (.bl _) (.cons (.bl _) (.cons (.bl _) (.cons (.bl _) (.cons (.bl _) (.cons (.bl _) (.cons (.bl _) (.cons (.bl _) (.cons (.bl _) .nil)))))))))))))))), rfl, rfl, ?_⟩
      have E : ∀ m, m < 16 → (PyData.list [.bool (hit m 0), .bool (hit m 1), .bool (hit m 2), .bool (hit m 3), .bool (hit m 4), .bool (hit m 5), .bool (hit m 6), .bool (hit m 7), .bool (hit m 8), .bool (hit m 9), .bool (hit m 10), .bool (hit m 11), .bool (hit m 12), .bool (hit m 13), .bool (hit m 14), .bool (hit m 15)]).eqv (.list [.bool (hit m 0), .bool (hit m 1), .bool (hit m 2), .bool (hit m 3), .bool (hit m 4), .bool (hit m 5), .bool (hit m 6), .bool (hit m 7), .bool (hit m 8), .bool (hit m 9), .bool (hit m 10), .bool (hit m 11), .bool (hit m 12), .bool (hit m 13), .bool (hit m 14), .bool (hit m 15)]) = true := by decide +kernel
      show Q (.bl _) H4
      rw [E n hn]
      exact q _ (((s1.trans s2).trans s3).trans s4)
end
end B

namespace B
open PySem PySem.Spec PyProof.Rows L2

def sp_l_refused (K : PySem.W.Frag) : Sp := fun vs H Q _ => ∃ (a : Addr) (ws : List Wd), vs = [.ref a] ∧ SqT K H a (ws.map wv) ∧ ws.length = 40 ∧ ∀ H', Same H H' → Q (.bl true) H'

section
variable {P : Program} {w : World} {K : PySem.W.Frag} {mg : Str → Option Value} {base : Heap}
theorem ok_l_refused (T : Tx K mg) : FnOk P w K mg base CX0 3 T.l_refused.f T.l_refused.fd ["_law_saying"] (sp_l_refused K) := by
  refine T.l_refused.F.ok sc_l_refused (fun vs H Q E h => ?_) (fun cdv A outer s H vs Q E hr h => ?_)
  · obtain ⟨a, ws, rfl, hA, h40, q⟩ := h
    rfl
  · obtain ⟨a, ws, rfl, hA, h40, q⟩ := h
    refine ⟨_, (pss_cons (ps_set (i := 1) sc_l_refused.nd rfl (.inl rfl) pe_bl)
      (pss_cons (ps_try_keep (i := 2) rfl rfl rfl sc_l_refused.nd rfl rfl (fun W pn xe tk => (pss_one (ps_expr (by exact (pe_callS (ok_not_so T) (hr.mono (by decide)) (by rfl) T.not_so.g T.not_so.F.kp T.not_so.b (fun σ => passAt tk σ) (pa_cons (pv 0) pa_nil)))))) (.more ⟨rfl, by decide, Or.inl T.x_StallError.g⟩ (fun a cls pn => (pss_one (ps_set (i := 1) sc_l_refused.nd rfl (.inl rfl) (by exact (pe_and (pe_callB (id := "isinstance") (r := rIsK K) call_isK (by rfl) T.m_isinstance (by decide +kernel) (pa_cons (pv 2) (pa_cons (pe_glob (v := .ref T.x_TooLong.C) (by rfl) T.x_TooLong.g rfl) pa_nil))) (pe_one (pe_not (pe_callB (id := "isinstance") (r := rIsKT K) call_isKT (by rfl) T.m_isinstance (by decide +kernel) (pa_cons (pv 2) (pa_cons (pe_tup (pa_cons (pe_glob (v := .ref T.x_NotAlike.C) (by rfl) T.x_NotAlike.g rfl) (pa_cons (pe_glob (v := .ref T.x_TooMany.C) (by rfl) T.x_TooMany.g rfl) pa_nil))) pa_nil)))))))))) .none))
      (pss_one (ps_ret (pv 1))))), ?_⟩
    refine ⟨_, rfl, a, ws, rfl, hA, by omega, fun _ C hX H1 s1 => ?_, fun z => absurd z (by omega)⟩
    obtain rfl := hX.eq T.x_TooLong.ns
    refine ⟨true, exm_own T.x_StallError.sb T.x_StallError.ic T.x_StallError.ty T.i_TooLong_StallError, (fun z => nomatch z), fun _ => ⟨rfl, fun x nx => ?_⟩⟩
    have s2 := same_upd (o := ExK (.ref T.x_TooLong.C) x) nx
    refine ⟨_, rfl, x, T.x_TooLong.C, _, _, true, rfl, upd_same, T.x_TooLong.ec, .own _, kit_own T.x_TooLong.ic T.x_TooLong.ty T.x_TooLong.me T.x_TooLong.me, _, rfl, iteT ⟨_, rfl, by show 2 ≤ sizeLine; decide, fun tp np => ?_⟩⟩
    have s3 := same_upd (o := .tup [.ref T.x_NotAlike.C, .ref T.x_TooMany.C]) np
    refine ⟨x, T.x_TooLong.C, tp, _, _, false, rfl, s3 _ _ upd_same, T.x_TooLong.ec, upd_same, (.cons (.own _) (.cons (.own _) .nil)), (kn_cons (kit_own T.x_NotAlike.ic T.x_NotAlike.ty T.x_TooLong.me T.i_TooLong_NotAlike) (kn_cons (kit_own T.x_TooMany.ic T.x_TooMany.ty T.x_TooLong.me T.i_TooLong_TooMany) kn_nil)), ?_⟩
    refine ⟨_, rfl, _, rfl, ?_⟩
    exact q _ ((s1.trans s2).trans s3)
end
end B

namespace B
open PySem PySem.Spec PyProof.Rows L2

def sp_law (K : PySem.W.Frag) : Sp := fun vs H Q _ => ∃ (a : Addr) (ns : List Int), vs = [.ref a] ∧ SqL K H a (ns.map V.int) ∧ ns.length ≤ 63 ∧ (∀ z ∈ ns, Builtin.Int.intBits z ≤ 1048576) ∧ ∀ H', Q (.bl true) H'

section
variable {P : Program} {w : World} {K : PySem.W.Frag} {mg : Str → Option Value} {base : Heap}
theorem ok_law (T : Tx K mg) : FnOk P w K mg base CX0 4 T.law.f T.law.fd ["_law_script"] (sp_law K) := by
  refine T.law.F.ok sc_law (fun vs H Q E h => ?_) (fun cdv A outer s H vs Q E hr h => ?_)
  · obtain ⟨s0, ns, rfl, hS, hlen, _, q⟩ := h
    rfl
  · obtain ⟨s0, ns, rfl, hS, hlen, _, q⟩ := h
    refine ⟨_, (pss_cons (ps_set (i := 1) sc_law.nd rfl (.inl rfl) (pe_call (ok_l_draws T) (hr.mono (by decide)) (by rfl) T.l_draws.g T.l_draws.F.kp T.l_draws.b .nil pass0 (pa_cons (pv 0) pa_nil)))
      (pss_cons (ps_set (i := 2) sc_law.nd rfl (.inl rfl) (pe_ix ix_str pe_str (pe_call (ok_l_next T) (hr.mono (by decide)) (by rfl) T.l_next.g T.l_next.F.kp T.l_next.b .nil pass0 (pa_cons (pv 1) (pa_cons pe_int pa_nil))) (fun _ _ => rfl)))
      (pss_cons (ps_set (i := 3) sc_law.nd rfl (.inl rfl) (pe_op op_catS (pe_tup (pa_cons (pv 2) pa_nil)) (pe_op op_repN (pe_tup (pa_cons pe_str pa_nil)) pe_int)))
      (pss_cons (ps_set (i := 4) sc_law.nd rfl (.inl rfl) (pe_op op_catS (pv 3) (pe_tup (pa_cons pe_str pa_nil))))
      (pss_cons (ps_if (PW.pt (pw_or (pt_not (pt_val (pe_call (ok_l_refused T) (hr.mono (by decide)) (by rfl) T.l_refused.g T.l_refused.F.kp T.l_refused.b .nil pass0 (pa_cons (pv 4) pa_nil)))) (pw_or (pt_cmpR (op_neD hr.units) (pe_callS (ok_not_so T) (hr.mono (by decide)) (by rfl) T.not_so.g T.not_so.F.kp T.not_so.b (fun σ => passAt takes0 σ) (pa_cons (pv 3) pa_nil)) (pv 4) (nomark _)) (pw_or1 (pt_not (pt_val (pe_call (ok_l_refused T) (hr.mono (by decide)) (by rfl) T.l_refused.g T.l_refused.F.kp T.l_refused.b .nil pass0 (pa_cons (pv 4) pa_nil)))))))) (pss_one (ps_ret pe_bl)) pss_nil)
      (pss_cons (ps_for PassesOwn.never rfl (pi_range1 (by rfl) T.m_range (pa_cons (pe_op op_add pe_int (pe_call (ok_l_next T) (hr.mono (by decide)) (by rfl) T.l_next.g T.l_next.F.kp T.l_next.b .nil pass0 (pa_cons (pv 1) (pa_cons pe_int pa_nil)))) pa_nil)) (pg_name (i := 5) sc_law.nd rfl (.inl rfl))
      (pss_one (ps_if (pt_not (pt_val (pe_call (ok_l_right T) (hr.mono (by decide)) (by rfl) T.l_right.g T.l_right.F.kp T.l_right.b .nil pass0 (pa_cons (pe_call (ok_l_next T) (hr.mono (by decide)) (by rfl) T.l_next.g T.l_next.F.kp T.l_next.b .nil pass0 (pa_cons (pv 1) (pa_cons pe_int pa_nil))) pa_nil)))) (pss_one (ps_ret pe_bl)) pss_nil)))
      (pss_one (ps_ret (pe_cmpR (op_eqD hr.units) (pe_lc (own := [("_law_number", 6)]) (g := gName 6) rfl sc_law.nd (pi_range1 (by rfl) T.m_range (pa_cons pe_int pa_nil)) (blkOk_by (own := [("_law_number", 6)]) (N := N_law) (sc := defScope s_law) (by decide +kernel)) (fun _ _ _ _ _ => (pg_name (i := 6) sc_law.nd rfl (.inl rfl))) (fun _ _ _ _ _ => (pts_one (pt_not (pt_val (pe_call (ok_l_right T) (hr.mono (by decide)) (by rfl) T.l_right.g T.l_right.F.kp T.l_right.b .nil pass0 (pa_cons (pv 6) pa_nil)))))) (fun _ _ _ _ _ => (pv 6))) (pe_lst pa_nil) (nomark _)))))))))), ?_⟩
    refine ⟨_, rfl, s0, ns, rfl, hS, hlen, fun H1 d w1 _ _ _ => ?_⟩
    refine ⟨_, rfl, d, 999, 26, rfl, by decide, by decide, w1.less (by decide), fun H2 r r0 r1 w2 _ => ?_⟩
    obtain ⟨j, rfl⟩ : ∃ j : Nat, r = j := ⟨r.toNat, by omega⟩
    have hj : j < (List.range' 97 26).length := by rw [List.length_range']; omega
    refine ⟨Str.ofString "abcdefghijklmnopqrstuvwxyz", (j : Int), (List.range' 97 26)[j], rfl, rfl, by decide +kernel, (by rw [alphabet]; exact atI_nat (List.getElem?_eq_getElem hj)), ?_⟩
    have hc : (List.range' 97 26)[j] < 123 := by
      have := List.mem_range'_1.mp (List.getElem_mem hj)
      omega
    generalize (List.range' 97 26)[j] = c at hc
    refine ⟨_, rfl, by show 1 ≤ sizeLine; decide, fun P nP => ?_⟩
    have sP := same_upd (o := .tup [.str (sg c)]) nP
    refine ⟨by show 1 ≤ sizeLine; decide, fun P2 n2 => ?_⟩
    have s2 := same_upd (o := .tup [.str "not"]) n2
    refine ⟨P2, 38, [.str "not"], rfl, rfl, sqt_upd, (fun z => nomatch z), by decide, by decide, by decide, fun p4 H4 t4 s4 => ?_⟩
    refine ⟨P, p4, _, _, rfl, rfl, Same.tup s4 (Same.tup s2 sqt_upd), t4, Nat.le_of_ble_eq_true rfl, fun p5 H5 t5 s5 => ?_⟩
    have t5 : SqT K H5 p5 ((Wd.lt c :: List.replicate 38 Wd.nt).map wv) := t5
    have S5 := ((sP.trans s2).trans s4).trans s5
    have e5 : (Wd.lt c :: List.replicate 38 Wd.nt).length = 39 := rfl
    have m5 : ∀ x, Wd.lt x ∈ Wd.lt c :: List.replicate 38 Wd.nt → x ∈ [c] := fun x hx => by
      rcases List.mem_cons.mp hx with z | z
      · cases z
        exact List.mem_cons_self
      · exact nomatch (List.mem_replicate.mp z).2
    generalize Wd.lt c :: List.replicate 38 Wd.nt = ws at t5 e5 m5
    refine ⟨_, rfl, by show 1 ≤ sizeLine; decide, fun P6 n6 => ?_⟩
    have s6 := same_upd (o := .tup [.str "not"]) n6
    refine ⟨p5, P6, _, [wv .nt], rfl, rfl, Same.tup s6 t5, sqt_upd, by rw [List.length_map, e5]; decide, fun p7 H7 t7 s7 => ?_⟩
    have t7 : SqT K H7 p7 ((ws ++ [Wd.nt]).map wv) := by rw [List.map_append]; exact t7
    have e7 : (ws ++ [Wd.nt]).length = 40 := by rw [List.length_append, e5]; rfl
    have m7 : ∀ x, Wd.lt x ∈ ws ++ [Wd.nt] → x ∈ [c] := fun x hx => by
      rcases List.mem_append.mp hx with z | z
      · exact m5 x z
      · exact nomatch List.mem_singleton.mp z
    have hs : ∀ x ∈ [c], x < 123 := fun x hx => by rw [List.mem_singleton.mp hx]; exact hc
    refine ⟨_, rfl, p7, _, rfl, t7, e7, fun H8 s8 => ⟨_, rfl, iteF ?_⟩⟩
    refine ⟨_, rfl, p5, ws, rfl, Same.tup ((s6.trans s7).trans s8) t5, by omega, fun z => absurd z (by omega), fun _ H9 p9 t9 s9 => ?_⟩
    refine ⟨_, rfl, _, _, wdp t9, wdp (Same.tup (s8.trans s9) t7), wdat_shaped hs m7, wdat_shaped hs m7, _, rfl, iteE (by rw [wdat_eqv hs m7]; rfl) ?_⟩
    refine ⟨_, rfl, p7, _, rfl, Same.tup (s8.trans s9) t7, e7, fun H10 s10 => ⟨_, rfl, iteF ?_⟩⟩
    have S10 := ((((S5.trans s6).trans s7).trans s8).trans s9).trans s10
    refine ⟨_, rfl, d, 998, 20, rfl, by decide, by decide, w2.same S10, fun H11 r r0 r1 w11 _ => ?_⟩
    refine ⟨_, _, rfl, rfl, 1 + r, rfl, by omega, by omega, for_range (lo := 0) (n := (1 + r).toNat) (fun i σ H' => ∃ (x5 x6 : Option V), σ = [some (.ref s0), some (.ref d.dr), some (.str (sg c)), some (.ref p5), some (.ref p7), x5, x6] ∧ Drw H' d (900 - i)) ⟨none, none, rfl, w11.less (by decide)⟩ ?_ ?_⟩
    · rintro i σ H12 hi ⟨x5, x6, rfl, w12⟩
      refine ⟨_, rfl, d, 900 - (i + 1), 16, rfl, by decide, by decide, w12.less (by omega), fun H13 z z0 z1 w13 _ => ?_⟩
      obtain ⟨m, rfl⟩ : ∃ m : Nat, z = m := ⟨z.toNat, by omega⟩
      exact ⟨m, rfl, by omega, fun H14 s14 => ⟨_, rfl, iteF ⟨_, _, rfl, w13.same s14⟩⟩⟩
    · rintro σ H12 ⟨x5, x6, rfl, w12⟩
      refine ⟨16, rfl, by decide, by decide, fun D nD => ?_⟩
      refine lc_range (lo := 0) (n := 16) (fun j H' => H' D = some (.lst []) ∧ Same H12 H') ⟨upd_same, same_upd nD⟩ ?_ ?_
      · rintro j H13 hj ⟨h13, s13⟩
        exact ⟨rfl, _, rfl, j, congrArg (fun z => [V.int z]) (Int.zero_add _), hj, fun H14 s14 => ⟨_, rfl, iteF ⟨s14 _ _ h13, s13.trans s14⟩⟩⟩
      · rintro H13 ⟨h13, s13⟩
        refine ⟨by decide, fun e ne => ?_⟩
        have s14 := same_upd (o := .lst []) ne
        refine ⟨_, _, .lst (.inl (.inl (s14 _ _ h13))) .nil, .lst sql_upd .nil, rfl, rfl, ?_⟩
        exact q _
end
end B
namespace B
open PySem PySem.Spec PyProof.Rows L2
theorem all_mk {l : PySem.W.OpenLaw} {w : World} {K : PySem.W.Frag} {h : Heap} {mg : Str → Option Value} {fa : Addr} (X : K.In h) (G : h.Ns mainGlobals mg) (hfa : mg "law" = some (.ref fa))
    {f0 : Addr} {od0 an0 : Option Addr} {sl0 : Array (Option Value)} {oc0 kV0 dc0 pm0 cd0 ct0 : Value} (a0 : PySem.W.nsIn K mainGlobals "short_enough" = some (some (.ref f0))) (l0 : K.lookup f0 = some ⟨oc0, od0, .func (PySem.W.fnOf "short_enough" "short_enough" (defArgs s_short_enough) (defBody s_short_enough) (defScope s_short_enough) .none kV0 dc0 pm0 an0 cd0 ct0), sl0⟩) (c0 : PySem.W.codeIn K cd0 "short_enough" = true) (k0 : PySem.W.keepIn K (.ref f0) = true)
    {f1 : Addr} {od1 an1 : Option Addr} {sl1 : Array (Option Value)} {oc1 kV1 dc1 pm1 cd1 ct1 : Value} (a1 : PySem.W.nsIn K mainGlobals "not_so" = some (some (.ref f1))) (l1 : K.lookup f1 = some ⟨oc1, od1, .func (PySem.W.fnOf "not_so" "not_so" (defArgs s_not_so) (defBody s_not_so) (defScope s_not_so) .none kV1 dc1 pm1 an1 cd1 ct1), sl1⟩) (c1 : PySem.W.codeIn K cd1 "not_so" = true) (k1 : PySem.W.keepIn K (.ref f1) = true)
    {f2 : Addr} {od2 an2 : Option Addr} {sl2 : Array (Option Value)} {oc2 kV2 dc2 pm2 cd2 ct2 : Value} (a2 : PySem.W.nsIn K mainGlobals "_law_draws" = some (some (.ref f2))) (l2 : K.lookup f2 = some ⟨oc2, od2, .func (PySem.W.fnOf "_law_draws" "_law_draws" (defArgs s_l_draws) (defBody s_l_draws) (defScope s_l_draws) .none kV2 dc2 pm2 an2 cd2 ct2), sl2⟩) (c2 : PySem.W.codeIn K cd2 "_law_draws" = true) (k2 : PySem.W.keepIn K (.ref f2) = true)
    {f3 : Addr} {od3 an3 : Option Addr} {sl3 : Array (Option Value)} {oc3 kV3 dc3 pm3 cd3 ct3 : Value} (a3 : PySem.W.nsIn K mainGlobals "_law_next" = some (some (.ref f3))) (l3 : K.lookup f3 = some ⟨oc3, od3, .func (PySem.W.fnOf "_law_next" "_law_next" (defArgs s_l_next) (defBody s_l_next) (defScope s_l_next) .none kV3 dc3 pm3 an3 cd3 ct3), sl3⟩) (c3 : PySem.W.codeIn K cd3 "_law_next" = true) (k3 : PySem.W.keepIn K (.ref f3) = true)
    {f4 : Addr} {od4 an4 : Option Addr} {sl4 : Array (Option Value)} {oc4 kV4 dc4 pm4 cd4 ct4 : Value} (a4 : PySem.W.nsIn K mainGlobals "_law_made" = some (some (.ref f4))) (l4 : K.lookup f4 = some ⟨oc4, od4, .func (PySem.W.fnOf "_law_made" "_law_made" (defArgs s_l_made) (defBody s_l_made) (defScope s_l_made) .none kV4 dc4 pm4 an4 cd4 ct4), sl4⟩) (c4 : PySem.W.codeIn K cd4 "_law_made" = true) (k4 : PySem.W.keepIn K (.ref f4) = true)
    {f5 : Addr} {od5 an5 : Option Addr} {sl5 : Array (Option Value)} {oc5 kV5 dc5 pm5 cd5 ct5 : Value} (a5 : PySem.W.nsIn K mainGlobals "_law_classes" = some (some (.ref f5))) (l5 : K.lookup f5 = some ⟨oc5, od5, .func (PySem.W.fnOf "_law_classes" "_law_classes" (defArgs s_l_classes) (defBody s_l_classes) (defScope s_l_classes) .none kV5 dc5 pm5 an5 cd5 ct5), sl5⟩) (c5 : PySem.W.codeIn K cd5 "_law_classes" = true) (k5 : PySem.W.keepIn K (.ref f5) = true)
    {f6 : Addr} {od6 an6 : Option Addr} {sl6 : Array (Option Value)} {oc6 kV6 dc6 pm6 cd6 ct6 : Value} (a6 : PySem.W.nsIn K mainGlobals "_law_right" = some (some (.ref f6))) (l6 : K.lookup f6 = some ⟨oc6, od6, .func (PySem.W.fnOf "_law_right" "_law_right" (defArgs s_l_right) (defBody s_l_right) (defScope s_l_right) .none kV6 dc6 pm6 an6 cd6 ct6), sl6⟩) (c6 : PySem.W.codeIn K cd6 "_law_right" = true) (k6 : PySem.W.keepIn K (.ref f6) = true)
    {f7 : Addr} {od7 an7 : Option Addr} {sl7 : Array (Option Value)} {oc7 kV7 dc7 pm7 cd7 ct7 : Value} (a7 : PySem.W.nsIn K mainGlobals "_law_refused" = some (some (.ref f7))) (l7 : K.lookup f7 = some ⟨oc7, od7, .func (PySem.W.fnOf "_law_refused" "_law_refused" (defArgs s_l_refused) (defBody s_l_refused) (defScope s_l_refused) .none kV7 dc7 pm7 an7 cd7 ct7), sl7⟩) (c7 : PySem.W.codeIn K cd7 "_law_refused" = true) (k7 : PySem.W.keepIn K (.ref f7) = true)
    {f8 : Addr} {od8 an8 : Option Addr} {sl8 : Array (Option Value)} {oc8 kV8 dc8 pm8 cd8 ct8 : Value} (a8 : PySem.W.nsIn K mainGlobals "law" = some (some (.ref f8))) (l8 : K.lookup f8 = some ⟨oc8, od8, .func (PySem.W.fnOf "law" "law" (defArgs s_law) (defBody s_law) (defScope s_law) .none kV8 dc8 pm8 an8 cd8 ct8), sl8⟩) (c8 : PySem.W.codeIn K cd8 "law" = true) (k8 : PySem.W.keepIn K (.ref f8) = true)
    (z_IndexError : PySem.W.nsIn K mainGlobals "IndexError" = some none)
    (z_KeyError : PySem.W.nsIn K mainGlobals "KeyError" = some none)
    (z_ValueError : PySem.W.nsIn K mainGlobals "ValueError" = some none)
    (z_ZeroDivisionError : PySem.W.nsIn K mainGlobals "ZeroDivisionError" = some none)
    (z_int : PySem.W.nsIn K mainGlobals "int" = some none)
    (z_isinstance : PySem.W.nsIn K mainGlobals "isinstance" = some none)
    (z_len : PySem.W.nsIn K mainGlobals "len" = some none)
    (z_list : PySem.W.nsIn K mainGlobals "list" = some none)
    (z_range : PySem.W.nsIn K mainGlobals "range" = some none)
    {tc0 : Tok} (q0 : PySem.W.nsIn K mainGlobals "MOST_WORDS" = some (some (.int 40 tc0)))
    {y0C : Addr} (y0a : PySem.W.nsIn K mainGlobals "StallError" = some (some (.ref y0C))) (y0e : PySem.W.excIn K y0C veB "ValueError.__new__" = true) (y0k : PySem.W.keepIn K (.ref y0C) = true) (y0b : PySem.W.subIn K (.ref y0C) (.type "BaseException") = some true) (y0t : PySem.W.typeIn K (.ref y0C) = some (.type "type")) (y0i : PySem.W.isClsIn K y0C = true) (y0m : PySem.W.subIn K (.ref y0C) (.ref y0C) = some true)
    (y01 : PySem.W.findIn K (.ref y0C) "__getattribute__" = some (some (.builtin "BaseException.__getattribute__"))) (y02 : PySem.W.findIn K (.ref y0C) "__getattr__" = some none) (y03 : PySem.W.hasDictIn K y0C = true) (y04 : PySem.W.findIn K (.ref y0C) "__class__" = some (some (.builtin "object.__class__"))) (y05 : PySem.W.mroIn K y0C (.type "object") = some true)
    {y1C : Addr} (y1a : PySem.W.nsIn K mainGlobals "TooLong" = some (some (.ref y1C))) (y1e : PySem.W.excIn K y1C veB "ValueError.__new__" = true) (y1k : PySem.W.keepIn K (.ref y1C) = true) (y1b : PySem.W.subIn K (.ref y1C) (.type "BaseException") = some true) (y1t : PySem.W.typeIn K (.ref y1C) = some (.type "type")) (y1i : PySem.W.isClsIn K y1C = true) (y1m : PySem.W.subIn K (.ref y1C) (.ref y1C) = some true)
    (y11 : PySem.W.findIn K (.ref y1C) "__getattribute__" = some (some (.builtin "BaseException.__getattribute__"))) (y12 : PySem.W.findIn K (.ref y1C) "__getattr__" = some none) (y13 : PySem.W.hasDictIn K y1C = true) (y14 : PySem.W.findIn K (.ref y1C) "__class__" = some (some (.builtin "object.__class__"))) (y15 : PySem.W.mroIn K y1C (.type "object") = some true)
    {y2C : Addr} (y2a : PySem.W.nsIn K mainGlobals "TooMany" = some (some (.ref y2C))) (y2e : PySem.W.excIn K y2C veB "ValueError.__new__" = true) (y2k : PySem.W.keepIn K (.ref y2C) = true) (y2b : PySem.W.subIn K (.ref y2C) (.type "BaseException") = some true) (y2t : PySem.W.typeIn K (.ref y2C) = some (.type "type")) (y2i : PySem.W.isClsIn K y2C = true) (y2m : PySem.W.subIn K (.ref y2C) (.ref y2C) = some true)
    (y21 : PySem.W.findIn K (.ref y2C) "__getattribute__" = some (some (.builtin "BaseException.__getattribute__"))) (y22 : PySem.W.findIn K (.ref y2C) "__getattr__" = some none) (y23 : PySem.W.hasDictIn K y2C = true) (y24 : PySem.W.findIn K (.ref y2C) "__class__" = some (some (.builtin "object.__class__"))) (y25 : PySem.W.mroIn K y2C (.type "object") = some true)
    {y3C : Addr} (y3a : PySem.W.nsIn K mainGlobals "NoWorld" = some (some (.ref y3C))) (y3e : PySem.W.excIn K y3C veB "ValueError.__new__" = true) (y3k : PySem.W.keepIn K (.ref y3C) = true) (y3b : PySem.W.subIn K (.ref y3C) (.type "BaseException") = some true) (y3t : PySem.W.typeIn K (.ref y3C) = some (.type "type")) (y3i : PySem.W.isClsIn K y3C = true) (y3m : PySem.W.subIn K (.ref y3C) (.ref y3C) = some true)
    (y31 : PySem.W.findIn K (.ref y3C) "__getattribute__" = some (some (.builtin "BaseException.__getattribute__"))) (y32 : PySem.W.findIn K (.ref y3C) "__getattr__" = some none) (y33 : PySem.W.hasDictIn K y3C = true) (y34 : PySem.W.findIn K (.ref y3C) "__class__" = some (some (.builtin "object.__class__"))) (y35 : PySem.W.mroIn K y3C (.type "object") = some true)
    {y4C : Addr} (y4a : PySem.W.nsIn K mainGlobals "NotAlike" = some (some (.ref y4C))) (y4e : PySem.W.excIn K y4C veB "ValueError.__new__" = true) (y4k : PySem.W.keepIn K (.ref y4C) = true) (y4b : PySem.W.subIn K (.ref y4C) (.type "BaseException") = some true) (y4t : PySem.W.typeIn K (.ref y4C) = some (.type "type")) (y4i : PySem.W.isClsIn K y4C = true) (y4m : PySem.W.subIn K (.ref y4C) (.ref y4C) = some true)
    (y41 : PySem.W.findIn K (.ref y4C) "__getattribute__" = some (some (.builtin "BaseException.__getattribute__"))) (y42 : PySem.W.findIn K (.ref y4C) "__getattr__" = some none) (y43 : PySem.W.hasDictIn K y4C = true) (y44 : PySem.W.findIn K (.ref y4C) "__class__" = some (some (.builtin "object.__class__"))) (y45 : PySem.W.mroIn K y4C (.type "object") = some true)
    {y5C : Addr} (y5a : PySem.W.nsIn K mainGlobals "Unfair" = some (some (.ref y5C))) (y5e : PySem.W.excIn K y5C veB "ValueError.__new__" = true) (y5k : PySem.W.keepIn K (.ref y5C) = true) (y5b : PySem.W.subIn K (.ref y5C) (.type "BaseException") = some true) (y5t : PySem.W.typeIn K (.ref y5C) = some (.type "type")) (y5i : PySem.W.isClsIn K y5C = true) (y5m : PySem.W.subIn K (.ref y5C) (.ref y5C) = some true)
    (y51 : PySem.W.findIn K (.ref y5C) "__getattribute__" = some (some (.builtin "BaseException.__getattribute__"))) (y52 : PySem.W.findIn K (.ref y5C) "__getattr__" = some none) (y53 : PySem.W.hasDictIn K y5C = true) (y54 : PySem.W.findIn K (.ref y5C) "__class__" = some (some (.builtin "object.__class__"))) (y55 : PySem.W.mroIn K y5C (.type "object") = some true)
    {y6C : Addr} (y6a : PySem.W.nsIn K mainGlobals "Fair" = some (some (.ref y6C))) (y6e : PySem.W.excIn K y6C veB "ValueError.__new__" = true) (y6k : PySem.W.keepIn K (.ref y6C) = true) (y6b : PySem.W.subIn K (.ref y6C) (.type "BaseException") = some true) (y6t : PySem.W.typeIn K (.ref y6C) = some (.type "type")) (y6i : PySem.W.isClsIn K y6C = true) (y6m : PySem.W.subIn K (.ref y6C) (.ref y6C) = some true)
    (y61 : PySem.W.findIn K (.ref y6C) "__getattribute__" = some (some (.builtin "BaseException.__getattribute__"))) (y62 : PySem.W.findIn K (.ref y6C) "__getattr__" = some none) (y63 : PySem.W.hasDictIn K y6C = true) (y64 : PySem.W.findIn K (.ref y6C) "__class__" = some (some (.builtin "object.__class__"))) (y65 : PySem.W.mroIn K y6C (.type "object") = some true)
    {y7C : Addr} (y7a : PySem.W.nsIn K mainGlobals "NoBet" = some (some (.ref y7C))) (y7e : PySem.W.excIn K y7C veB "ValueError.__new__" = true) (y7k : PySem.W.keepIn K (.ref y7C) = true) (y7b : PySem.W.subIn K (.ref y7C) (.type "BaseException") = some true) (y7t : PySem.W.typeIn K (.ref y7C) = some (.type "type")) (y7i : PySem.W.isClsIn K y7C = true) (y7m : PySem.W.subIn K (.ref y7C) (.ref y7C) = some true)
    (y71 : PySem.W.findIn K (.ref y7C) "__getattribute__" = some (some (.builtin "BaseException.__getattribute__"))) (y72 : PySem.W.findIn K (.ref y7C) "__getattr__" = some none) (y73 : PySem.W.hasDictIn K y7C = true) (y74 : PySem.W.findIn K (.ref y7C) "__class__" = some (some (.builtin "object.__class__"))) (y75 : PySem.W.mroIn K y7C (.type "object") = some true)
    {y8C : Addr} (y8a : PySem.W.nsIn K mainGlobals "NoHolder" = some (some (.ref y8C))) (y8e : PySem.W.excIn K y8C veB "ValueError.__new__" = true) (y8k : PySem.W.keepIn K (.ref y8C) = true) (y8b : PySem.W.subIn K (.ref y8C) (.type "BaseException") = some true) (y8t : PySem.W.typeIn K (.ref y8C) = some (.type "type")) (y8i : PySem.W.isClsIn K y8C = true) (y8m : PySem.W.subIn K (.ref y8C) (.ref y8C) = some true)
    (y81 : PySem.W.findIn K (.ref y8C) "__getattribute__" = some (some (.builtin "BaseException.__getattribute__"))) (y82 : PySem.W.findIn K (.ref y8C) "__getattr__" = some none) (y83 : PySem.W.hasDictIn K y8C = true) (y84 : PySem.W.findIn K (.ref y8C) "__class__" = some (some (.builtin "object.__class__"))) (y85 : PySem.W.mroIn K y8C (.type "object") = some true)
    {y9C : Addr} (y9a : PySem.W.nsIn K mainGlobals "NoStake" = some (some (.ref y9C))) (y9e : PySem.W.excIn K y9C veB "ValueError.__new__" = true) (y9k : PySem.W.keepIn K (.ref y9C) = true) (y9b : PySem.W.subIn K (.ref y9C) (.type "BaseException") = some true) (y9t : PySem.W.typeIn K (.ref y9C) = some (.type "type")) (y9i : PySem.W.isClsIn K y9C = true) (y9m : PySem.W.subIn K (.ref y9C) (.ref y9C) = some true)
    (y91 : PySem.W.findIn K (.ref y9C) "__getattribute__" = some (some (.builtin "BaseException.__getattribute__"))) (y92 : PySem.W.findIn K (.ref y9C) "__getattr__" = some none) (y93 : PySem.W.hasDictIn K y9C = true) (y94 : PySem.W.findIn K (.ref y9C) "__class__" = some (some (.builtin "object.__class__"))) (y95 : PySem.W.mroIn K y9C (.type "object") = some true)
    {y10C : Addr} (y10a : PySem.W.nsIn K mainGlobals "NoTicket" = some (some (.ref y10C))) (y10e : PySem.W.excIn K y10C veB "ValueError.__new__" = true) (y10k : PySem.W.keepIn K (.ref y10C) = true) (y10b : PySem.W.subIn K (.ref y10C) (.type "BaseException") = some true) (y10t : PySem.W.typeIn K (.ref y10C) = some (.type "type")) (y10i : PySem.W.isClsIn K y10C = true) (y10m : PySem.W.subIn K (.ref y10C) (.ref y10C) = some true)
    (y101 : PySem.W.findIn K (.ref y10C) "__getattribute__" = some (some (.builtin "BaseException.__getattribute__"))) (y102 : PySem.W.findIn K (.ref y10C) "__getattr__" = some none) (y103 : PySem.W.hasDictIn K y10C = true) (y104 : PySem.W.findIn K (.ref y10C) "__class__" = some (some (.builtin "object.__class__"))) (y105 : PySem.W.mroIn K y10C (.type "object") = some true)
    {y11C : Addr} (y11a : PySem.W.nsIn K mainGlobals "NoCover" = some (some (.ref y11C))) (y11e : PySem.W.excIn K y11C veB "ValueError.__new__" = true) (y11k : PySem.W.keepIn K (.ref y11C) = true) (y11b : PySem.W.subIn K (.ref y11C) (.type "BaseException") = some true) (y11t : PySem.W.typeIn K (.ref y11C) = some (.type "type")) (y11i : PySem.W.isClsIn K y11C = true) (y11m : PySem.W.subIn K (.ref y11C) (.ref y11C) = some true)
    (y111 : PySem.W.findIn K (.ref y11C) "__getattribute__" = some (some (.builtin "BaseException.__getattribute__"))) (y112 : PySem.W.findIn K (.ref y11C) "__getattr__" = some none) (y113 : PySem.W.hasDictIn K y11C = true) (y114 : PySem.W.findIn K (.ref y11C) "__class__" = some (some (.builtin "object.__class__"))) (y115 : PySem.W.mroIn K y11C (.type "object") = some true)
    {y12C : Addr} (y12a : PySem.W.nsIn K mainGlobals "NoSaying" = some (some (.ref y12C))) (y12e : PySem.W.excIn K y12C veB "ValueError.__new__" = true) (y12k : PySem.W.keepIn K (.ref y12C) = true) (y12b : PySem.W.subIn K (.ref y12C) (.type "BaseException") = some true) (y12t : PySem.W.typeIn K (.ref y12C) = some (.type "type")) (y12i : PySem.W.isClsIn K y12C = true) (y12m : PySem.W.subIn K (.ref y12C) (.ref y12C) = some true)
    (y121 : PySem.W.findIn K (.ref y12C) "__getattribute__" = some (some (.builtin "BaseException.__getattribute__"))) (y122 : PySem.W.findIn K (.ref y12C) "__getattr__" = some none) (y123 : PySem.W.hasDictIn K y12C = true) (y124 : PySem.W.findIn K (.ref y12C) "__class__" = some (some (.builtin "object.__class__"))) (y125 : PySem.W.mroIn K y12C (.type "object") = some true)
    {y13C : Addr} (y13a : PySem.W.nsIn K mainGlobals "NoDeed" = some (some (.ref y13C))) (y13e : PySem.W.excIn K y13C veB "ValueError.__new__" = true) (y13k : PySem.W.keepIn K (.ref y13C) = true) (y13b : PySem.W.subIn K (.ref y13C) (.type "BaseException") = some true) (y13t : PySem.W.typeIn K (.ref y13C) = some (.type "type")) (y13i : PySem.W.isClsIn K y13C = true) (y13m : PySem.W.subIn K (.ref y13C) (.ref y13C) = some true)
    (y131 : PySem.W.findIn K (.ref y13C) "__getattribute__" = some (some (.builtin "BaseException.__getattribute__"))) (y132 : PySem.W.findIn K (.ref y13C) "__getattr__" = some none) (y133 : PySem.W.hasDictIn K y13C = true) (y134 : PySem.W.findIn K (.ref y13C) "__class__" = some (some (.builtin "object.__class__"))) (y135 : PySem.W.mroIn K y13C (.type "object") = some true)
    {y14C : Addr} (y14a : PySem.W.nsIn K mainGlobals "NoStep" = some (some (.ref y14C))) (y14e : PySem.W.excIn K y14C veB "ValueError.__new__" = true) (y14k : PySem.W.keepIn K (.ref y14C) = true) (y14b : PySem.W.subIn K (.ref y14C) (.type "BaseException") = some true) (y14t : PySem.W.typeIn K (.ref y14C) = some (.type "type")) (y14i : PySem.W.isClsIn K y14C = true) (y14m : PySem.W.subIn K (.ref y14C) (.ref y14C) = some true)
    (y141 : PySem.W.findIn K (.ref y14C) "__getattribute__" = some (some (.builtin "BaseException.__getattribute__"))) (y142 : PySem.W.findIn K (.ref y14C) "__getattr__" = some none) (y143 : PySem.W.hasDictIn K y14C = true) (y144 : PySem.W.findIn K (.ref y14C) "__class__" = some (some (.builtin "object.__class__"))) (y145 : PySem.W.mroIn K y14C (.type "object") = some true)
    {y15C : Addr} (y15a : PySem.W.nsIn K mainGlobals "NoText" = some (some (.ref y15C))) (y15e : PySem.W.excIn K y15C veB "ValueError.__new__" = true) (y15k : PySem.W.keepIn K (.ref y15C) = true) (y15b : PySem.W.subIn K (.ref y15C) (.type "BaseException") = some true) (y15t : PySem.W.typeIn K (.ref y15C) = some (.type "type")) (y15i : PySem.W.isClsIn K y15C = true) (y15m : PySem.W.subIn K (.ref y15C) (.ref y15C) = some true)
    (y151 : PySem.W.findIn K (.ref y15C) "__getattribute__" = some (some (.builtin "BaseException.__getattribute__"))) (y152 : PySem.W.findIn K (.ref y15C) "__getattr__" = some none) (y153 : PySem.W.hasDictIn K y15C = true) (y154 : PySem.W.findIn K (.ref y15C) "__class__" = some (some (.builtin "object.__class__"))) (y155 : PySem.W.mroIn K y15C (.type "object") = some true)
    (yg : PySem.W.specialIn K (.builtin "object.__class__") "__get__" = some (some (.builtin "getset_descriptor.__get__"))) (yt : PySem.W.takesIn K (.builtin "object.__class__") = some true)
    (z0 : PySem.W.subIn K (.ref y6C) (.ref y0C) = some true)
    (z1 : PySem.W.subIn K (.ref y6C) (.ref y1C) = some false)
    (z2 : PySem.W.subIn K (.ref y6C) (.ref y2C) = some false)
    (z3 : PySem.W.subIn K (.ref y6C) (.ref y3C) = some false)
    (z4 : PySem.W.subIn K (.ref y6C) (.ref y4C) = some false)
    (z5 : PySem.W.subIn K (.ref y6C) (.ref y5C) = some false)
    (z6 : PySem.W.subIn K (.ref y6C) (.ref y6C) = some true)
    (z7 : PySem.W.subIn K (.ref y6C) (.ref y7C) = some false)
    (z8 : PySem.W.subIn K (.ref y6C) (.ref y8C) = some false)
    (z9 : PySem.W.subIn K (.ref y6C) (.ref y9C) = some false)
    (z10 : PySem.W.subIn K (.ref y6C) (.ref y10C) = some false)
    (z11 : PySem.W.subIn K (.ref y6C) (.ref y11C) = some false)
    (z12 : PySem.W.subIn K (.ref y6C) (.ref y12C) = some false)
    (z13 : PySem.W.subIn K (.ref y6C) (.ref y13C) = some false)
    (z14 : PySem.W.subIn K (.ref y6C) (.ref y14C) = some false)
    (z15 : PySem.W.subIn K (.ref y6C) (.ref y15C) = some false)
    (z16 : PySem.W.subIn K (.ref y6C) (.type "ValueError") = some true)
    (z17 : PySem.W.subIn K (.ref y6C) (.type "IndexError") = some false)
    (z18 : PySem.W.subIn K (.ref y6C) (.type "KeyError") = some false)
    (z19 : PySem.W.subIn K (.ref y6C) (.type "ZeroDivisionError") = some false)
    (z20 : PySem.W.subIn K (.ref y7C) (.ref y0C) = some true)
    (z21 : PySem.W.subIn K (.ref y7C) (.ref y1C) = some false)
    (z22 : PySem.W.subIn K (.ref y7C) (.ref y2C) = some false)
    (z23 : PySem.W.subIn K (.ref y7C) (.ref y3C) = some false)
    (z24 : PySem.W.subIn K (.ref y7C) (.ref y4C) = some false)
    (z25 : PySem.W.subIn K (.ref y7C) (.ref y5C) = some false)
    (z26 : PySem.W.subIn K (.ref y7C) (.ref y6C) = some false)
    (z27 : PySem.W.subIn K (.ref y7C) (.ref y7C) = some true)
    (z28 : PySem.W.subIn K (.ref y7C) (.ref y8C) = some false)
    (z29 : PySem.W.subIn K (.ref y7C) (.ref y9C) = some false)
    (z30 : PySem.W.subIn K (.ref y7C) (.ref y10C) = some false)
    (z31 : PySem.W.subIn K (.ref y7C) (.ref y11C) = some false)
    (z32 : PySem.W.subIn K (.ref y7C) (.ref y12C) = some false)
    (z33 : PySem.W.subIn K (.ref y7C) (.ref y13C) = some false)
    (z34 : PySem.W.subIn K (.ref y7C) (.ref y14C) = some false)
    (z35 : PySem.W.subIn K (.ref y7C) (.ref y15C) = some false)
    (z36 : PySem.W.subIn K (.ref y7C) (.type "ValueError") = some true)
    (z37 : PySem.W.subIn K (.ref y7C) (.type "IndexError") = some false)
    (z38 : PySem.W.subIn K (.ref y7C) (.type "KeyError") = some false)
    (z39 : PySem.W.subIn K (.ref y7C) (.type "ZeroDivisionError") = some false)
    (z40 : PySem.W.subIn K (.ref y11C) (.ref y0C) = some true)
    (z41 : PySem.W.subIn K (.ref y11C) (.ref y1C) = some false)
    (z42 : PySem.W.subIn K (.ref y11C) (.ref y2C) = some false)
    (z43 : PySem.W.subIn K (.ref y11C) (.ref y3C) = some false)
    (z44 : PySem.W.subIn K (.ref y11C) (.ref y4C) = some false)
    (z45 : PySem.W.subIn K (.ref y11C) (.ref y5C) = some false)
    (z46 : PySem.W.subIn K (.ref y11C) (.ref y6C) = some false)
    (z47 : PySem.W.subIn K (.ref y11C) (.ref y7C) = some false)
    (z48 : PySem.W.subIn K (.ref y11C) (.ref y8C) = some false)
    (z49 : PySem.W.subIn K (.ref y11C) (.ref y9C) = some false)
    (z50 : PySem.W.subIn K (.ref y11C) (.ref y10C) = some false)
    (z51 : PySem.W.subIn K (.ref y11C) (.ref y11C) = some true)
    (z52 : PySem.W.subIn K (.ref y11C) (.ref y12C) = some false)
    (z53 : PySem.W.subIn K (.ref y11C) (.ref y13C) = some false)
    (z54 : PySem.W.subIn K (.ref y11C) (.ref y14C) = some false)
    (z55 : PySem.W.subIn K (.ref y11C) (.ref y15C) = some false)
    (z56 : PySem.W.subIn K (.ref y11C) (.type "ValueError") = some true)
    (z57 : PySem.W.subIn K (.ref y11C) (.type "IndexError") = some false)
    (z58 : PySem.W.subIn K (.ref y11C) (.type "KeyError") = some false)
    (z59 : PySem.W.subIn K (.ref y11C) (.type "ZeroDivisionError") = some false)
    (z60 : PySem.W.subIn K (.ref y13C) (.ref y0C) = some true)
    (z61 : PySem.W.subIn K (.ref y13C) (.ref y1C) = some false)
    (z62 : PySem.W.subIn K (.ref y13C) (.ref y2C) = some false)
    (z63 : PySem.W.subIn K (.ref y13C) (.ref y3C) = some false)
    (z64 : PySem.W.subIn K (.ref y13C) (.ref y4C) = some false)
    (z65 : PySem.W.subIn K (.ref y13C) (.ref y5C) = some false)
    (z66 : PySem.W.subIn K (.ref y13C) (.ref y6C) = some false)
    (z67 : PySem.W.subIn K (.ref y13C) (.ref y7C) = some false)
    (z68 : PySem.W.subIn K (.ref y13C) (.ref y8C) = some false)
    (z69 : PySem.W.subIn K (.ref y13C) (.ref y9C) = some false)
    (z70 : PySem.W.subIn K (.ref y13C) (.ref y10C) = some false)
    (z71 : PySem.W.subIn K (.ref y13C) (.ref y11C) = some false)
    (z72 : PySem.W.subIn K (.ref y13C) (.ref y12C) = some false)
    (z73 : PySem.W.subIn K (.ref y13C) (.ref y13C) = some true)
    (z74 : PySem.W.subIn K (.ref y13C) (.ref y14C) = some false)
    (z75 : PySem.W.subIn K (.ref y13C) (.ref y15C) = some false)
    (z76 : PySem.W.subIn K (.ref y13C) (.type "ValueError") = some true)
    (z77 : PySem.W.subIn K (.ref y13C) (.type "IndexError") = some false)
    (z78 : PySem.W.subIn K (.ref y13C) (.type "KeyError") = some false)
    (z79 : PySem.W.subIn K (.ref y13C) (.type "ZeroDivisionError") = some false)
    (z80 : PySem.W.subIn K (.ref y8C) (.ref y0C) = some true)
    (z81 : PySem.W.subIn K (.ref y8C) (.ref y1C) = some false)
    (z82 : PySem.W.subIn K (.ref y8C) (.ref y2C) = some false)
    (z83 : PySem.W.subIn K (.ref y8C) (.ref y3C) = some false)
    (z84 : PySem.W.subIn K (.ref y8C) (.ref y4C) = some false)
    (z85 : PySem.W.subIn K (.ref y8C) (.ref y5C) = some false)
    (z86 : PySem.W.subIn K (.ref y8C) (.ref y6C) = some false)
    (z87 : PySem.W.subIn K (.ref y8C) (.ref y7C) = some false)
    (z88 : PySem.W.subIn K (.ref y8C) (.ref y8C) = some true)
    (z89 : PySem.W.subIn K (.ref y8C) (.ref y9C) = some false)
    (z90 : PySem.W.subIn K (.ref y8C) (.ref y10C) = some false)
    (z91 : PySem.W.subIn K (.ref y8C) (.ref y11C) = some false)
    (z92 : PySem.W.subIn K (.ref y8C) (.ref y12C) = some false)
    (z93 : PySem.W.subIn K (.ref y8C) (.ref y13C) = some false)
    (z94 : PySem.W.subIn K (.ref y8C) (.ref y14C) = some false)
    (z95 : PySem.W.subIn K (.ref y8C) (.ref y15C) = some false)
    (z96 : PySem.W.subIn K (.ref y8C) (.type "ValueError") = some true)
    (z97 : PySem.W.subIn K (.ref y8C) (.type "IndexError") = some false)
    (z98 : PySem.W.subIn K (.ref y8C) (.type "KeyError") = some false)
    (z99 : PySem.W.subIn K (.ref y8C) (.type "ZeroDivisionError") = some false)
    (z100 : PySem.W.subIn K (.ref y12C) (.ref y0C) = some true)
    (z101 : PySem.W.subIn K (.ref y12C) (.ref y1C) = some false)
    (z102 : PySem.W.subIn K (.ref y12C) (.ref y2C) = some false)
    (z103 : PySem.W.subIn K (.ref y12C) (.ref y3C) = some false)
    (z104 : PySem.W.subIn K (.ref y12C) (.ref y4C) = some false)
    (z105 : PySem.W.subIn K (.ref y12C) (.ref y5C) = some false)
    (z106 : PySem.W.subIn K (.ref y12C) (.ref y6C) = some false)
    (z107 : PySem.W.subIn K (.ref y12C) (.ref y7C) = some false)
    (z108 : PySem.W.subIn K (.ref y12C) (.ref y8C) = some false)
    (z109 : PySem.W.subIn K (.ref y12C) (.ref y9C) = some false)
    (z110 : PySem.W.subIn K (.ref y12C) (.ref y10C) = some false)
    (z111 : PySem.W.subIn K (.ref y12C) (.ref y11C) = some false)
    (z112 : PySem.W.subIn K (.ref y12C) (.ref y12C) = some true)
    (z113 : PySem.W.subIn K (.ref y12C) (.ref y13C) = some false)
    (z114 : PySem.W.subIn K (.ref y12C) (.ref y14C) = some false)
    (z115 : PySem.W.subIn K (.ref y12C) (.ref y15C) = some false)
    (z116 : PySem.W.subIn K (.ref y12C) (.type "ValueError") = some true)
    (z117 : PySem.W.subIn K (.ref y12C) (.type "IndexError") = some false)
    (z118 : PySem.W.subIn K (.ref y12C) (.type "KeyError") = some false)
    (z119 : PySem.W.subIn K (.ref y12C) (.type "ZeroDivisionError") = some false)
    (z120 : PySem.W.subIn K (.ref y9C) (.ref y0C) = some true)
    (z121 : PySem.W.subIn K (.ref y9C) (.ref y1C) = some false)
    (z122 : PySem.W.subIn K (.ref y9C) (.ref y2C) = some false)
    (z123 : PySem.W.subIn K (.ref y9C) (.ref y3C) = some false)
    (z124 : PySem.W.subIn K (.ref y9C) (.ref y4C) = some false)
    (z125 : PySem.W.subIn K (.ref y9C) (.ref y5C) = some false)
    (z126 : PySem.W.subIn K (.ref y9C) (.ref y6C) = some false)
    (z127 : PySem.W.subIn K (.ref y9C) (.ref y7C) = some false)
    (z128 : PySem.W.subIn K (.ref y9C) (.ref y8C) = some false)
    (z129 : PySem.W.subIn K (.ref y9C) (.ref y9C) = some true)
    (z130 : PySem.W.subIn K (.ref y9C) (.ref y10C) = some false)
    (z131 : PySem.W.subIn K (.ref y9C) (.ref y11C) = some false)
    (z132 : PySem.W.subIn K (.ref y9C) (.ref y12C) = some false)
    (z133 : PySem.W.subIn K (.ref y9C) (.ref y13C) = some false)
    (z134 : PySem.W.subIn K (.ref y9C) (.ref y14C) = some false)
    (z135 : PySem.W.subIn K (.ref y9C) (.ref y15C) = some false)
    (z136 : PySem.W.subIn K (.ref y9C) (.type "ValueError") = some true)
    (z137 : PySem.W.subIn K (.ref y9C) (.type "IndexError") = some false)
    (z138 : PySem.W.subIn K (.ref y9C) (.type "KeyError") = some false)
    (z139 : PySem.W.subIn K (.ref y9C) (.type "ZeroDivisionError") = some false)
    (z140 : PySem.W.subIn K (.ref y14C) (.ref y0C) = some true)
    (z141 : PySem.W.subIn K (.ref y14C) (.ref y1C) = some false)
    (z142 : PySem.W.subIn K (.ref y14C) (.ref y2C) = some false)
    (z143 : PySem.W.subIn K (.ref y14C) (.ref y3C) = some false)
    (z144 : PySem.W.subIn K (.ref y14C) (.ref y4C) = some false)
    (z145 : PySem.W.subIn K (.ref y14C) (.ref y5C) = some false)
    (z146 : PySem.W.subIn K (.ref y14C) (.ref y6C) = some false)
    (z147 : PySem.W.subIn K (.ref y14C) (.ref y7C) = some false)
    (z148 : PySem.W.subIn K (.ref y14C) (.ref y8C) = some false)
    (z149 : PySem.W.subIn K (.ref y14C) (.ref y9C) = some false)
    (z150 : PySem.W.subIn K (.ref y14C) (.ref y10C) = some false)
    (z151 : PySem.W.subIn K (.ref y14C) (.ref y11C) = some false)
    (z152 : PySem.W.subIn K (.ref y14C) (.ref y12C) = some false)
    (z153 : PySem.W.subIn K (.ref y14C) (.ref y13C) = some false)
    (z154 : PySem.W.subIn K (.ref y14C) (.ref y14C) = some true)
    (z155 : PySem.W.subIn K (.ref y14C) (.ref y15C) = some false)
    (z156 : PySem.W.subIn K (.ref y14C) (.type "ValueError") = some true)
    (z157 : PySem.W.subIn K (.ref y14C) (.type "IndexError") = some false)
    (z158 : PySem.W.subIn K (.ref y14C) (.type "KeyError") = some false)
    (z159 : PySem.W.subIn K (.ref y14C) (.type "ZeroDivisionError") = some false)
    (z160 : PySem.W.subIn K (.ref y15C) (.ref y0C) = some true)
    (z161 : PySem.W.subIn K (.ref y15C) (.ref y1C) = some false)
    (z162 : PySem.W.subIn K (.ref y15C) (.ref y2C) = some false)
    (z163 : PySem.W.subIn K (.ref y15C) (.ref y3C) = some false)
    (z164 : PySem.W.subIn K (.ref y15C) (.ref y4C) = some false)
    (z165 : PySem.W.subIn K (.ref y15C) (.ref y5C) = some false)
    (z166 : PySem.W.subIn K (.ref y15C) (.ref y6C) = some false)
    (z167 : PySem.W.subIn K (.ref y15C) (.ref y7C) = some false)
    (z168 : PySem.W.subIn K (.ref y15C) (.ref y8C) = some false)
    (z169 : PySem.W.subIn K (.ref y15C) (.ref y9C) = some false)
    (z170 : PySem.W.subIn K (.ref y15C) (.ref y10C) = some false)
    (z171 : PySem.W.subIn K (.ref y15C) (.ref y11C) = some false)
    (z172 : PySem.W.subIn K (.ref y15C) (.ref y12C) = some false)
    (z173 : PySem.W.subIn K (.ref y15C) (.ref y13C) = some false)
    (z174 : PySem.W.subIn K (.ref y15C) (.ref y14C) = some false)
    (z175 : PySem.W.subIn K (.ref y15C) (.ref y15C) = some true)
    (z176 : PySem.W.subIn K (.ref y15C) (.type "ValueError") = some true)
    (z177 : PySem.W.subIn K (.ref y15C) (.type "IndexError") = some false)
    (z178 : PySem.W.subIn K (.ref y15C) (.type "KeyError") = some false)
    (z179 : PySem.W.subIn K (.ref y15C) (.type "ZeroDivisionError") = some false)
    (z180 : PySem.W.subIn K (.ref y10C) (.ref y0C) = some true)
    (z181 : PySem.W.subIn K (.ref y10C) (.ref y1C) = some false)
    (z182 : PySem.W.subIn K (.ref y10C) (.ref y2C) = some false)
    (z183 : PySem.W.subIn K (.ref y10C) (.ref y3C) = some false)
    (z184 : PySem.W.subIn K (.ref y10C) (.ref y4C) = some false)
    (z185 : PySem.W.subIn K (.ref y10C) (.ref y5C) = some false)
    (z186 : PySem.W.subIn K (.ref y10C) (.ref y6C) = some false)
    (z187 : PySem.W.subIn K (.ref y10C) (.ref y7C) = some false)
    (z188 : PySem.W.subIn K (.ref y10C) (.ref y8C) = some false)
    (z189 : PySem.W.subIn K (.ref y10C) (.ref y9C) = some false)
    (z190 : PySem.W.subIn K (.ref y10C) (.ref y10C) = some true)
    (z191 : PySem.W.subIn K (.ref y10C) (.ref y11C) = some false)
    (z192 : PySem.W.subIn K (.ref y10C) (.ref y12C) = some false)
    (z193 : PySem.W.subIn K (.ref y10C) (.ref y13C) = some false)
    (z194 : PySem.W.subIn K (.ref y10C) (.ref y14C) = some false)
    (z195 : PySem.W.subIn K (.ref y10C) (.ref y15C) = some false)
    (z196 : PySem.W.subIn K (.ref y10C) (.type "ValueError") = some true)
    (z197 : PySem.W.subIn K (.ref y10C) (.type "IndexError") = some false)
    (z198 : PySem.W.subIn K (.ref y10C) (.type "KeyError") = some false)
    (z199 : PySem.W.subIn K (.ref y10C) (.type "ZeroDivisionError") = some false)
    (z200 : PySem.W.subIn K (.ref y3C) (.ref y0C) = some true)
    (z201 : PySem.W.subIn K (.ref y3C) (.ref y1C) = some false)
    (z202 : PySem.W.subIn K (.ref y3C) (.ref y2C) = some false)
    (z203 : PySem.W.subIn K (.ref y3C) (.ref y3C) = some true)
    (z204 : PySem.W.subIn K (.ref y3C) (.ref y4C) = some false)
    (z205 : PySem.W.subIn K (.ref y3C) (.ref y5C) = some false)
    (z206 : PySem.W.subIn K (.ref y3C) (.ref y6C) = some false)
    (z207 : PySem.W.subIn K (.ref y3C) (.ref y7C) = some false)
    (z208 : PySem.W.subIn K (.ref y3C) (.ref y8C) = some false)
    (z209 : PySem.W.subIn K (.ref y3C) (.ref y9C) = some false)
    (z210 : PySem.W.subIn K (.ref y3C) (.ref y10C) = some false)
    (z211 : PySem.W.subIn K (.ref y3C) (.ref y11C) = some false)
    (z212 : PySem.W.subIn K (.ref y3C) (.ref y12C) = some false)
    (z213 : PySem.W.subIn K (.ref y3C) (.ref y13C) = some false)
    (z214 : PySem.W.subIn K (.ref y3C) (.ref y14C) = some false)
    (z215 : PySem.W.subIn K (.ref y3C) (.ref y15C) = some false)
    (z216 : PySem.W.subIn K (.ref y3C) (.type "ValueError") = some true)
    (z217 : PySem.W.subIn K (.ref y3C) (.type "IndexError") = some false)
    (z218 : PySem.W.subIn K (.ref y3C) (.type "KeyError") = some false)
    (z219 : PySem.W.subIn K (.ref y3C) (.type "ZeroDivisionError") = some false)
    (z220 : PySem.W.subIn K (.ref y4C) (.ref y0C) = some true)
    (z221 : PySem.W.subIn K (.ref y4C) (.ref y1C) = some false)
    (z222 : PySem.W.subIn K (.ref y4C) (.ref y2C) = some false)
    (z223 : PySem.W.subIn K (.ref y4C) (.ref y3C) = some false)
    (z224 : PySem.W.subIn K (.ref y4C) (.ref y4C) = some true)
    (z225 : PySem.W.subIn K (.ref y4C) (.ref y5C) = some false)
    (z226 : PySem.W.subIn K (.ref y4C) (.ref y6C) = some false)
    (z227 : PySem.W.subIn K (.ref y4C) (.ref y7C) = some false)
    (z228 : PySem.W.subIn K (.ref y4C) (.ref y8C) = some false)
    (z229 : PySem.W.subIn K (.ref y4C) (.ref y9C) = some false)
    (z230 : PySem.W.subIn K (.ref y4C) (.ref y10C) = some false)
    (z231 : PySem.W.subIn K (.ref y4C) (.ref y11C) = some false)
    (z232 : PySem.W.subIn K (.ref y4C) (.ref y12C) = some false)
    (z233 : PySem.W.subIn K (.ref y4C) (.ref y13C) = some false)
    (z234 : PySem.W.subIn K (.ref y4C) (.ref y14C) = some false)
    (z235 : PySem.W.subIn K (.ref y4C) (.ref y15C) = some false)
    (z236 : PySem.W.subIn K (.ref y4C) (.type "ValueError") = some true)
    (z237 : PySem.W.subIn K (.ref y4C) (.type "IndexError") = some false)
    (z238 : PySem.W.subIn K (.ref y4C) (.type "KeyError") = some false)
    (z239 : PySem.W.subIn K (.ref y4C) (.type "ZeroDivisionError") = some false)
    (z240 : PySem.W.subIn K (.ref y0C) (.ref y0C) = some true)
    (z241 : PySem.W.subIn K (.ref y0C) (.ref y1C) = some false)
    (z242 : PySem.W.subIn K (.ref y0C) (.ref y2C) = some false)
    (z243 : PySem.W.subIn K (.ref y0C) (.ref y3C) = some false)
    (z244 : PySem.W.subIn K (.ref y0C) (.ref y4C) = some false)
    (z245 : PySem.W.subIn K (.ref y0C) (.ref y5C) = some false)
    (z246 : PySem.W.subIn K (.ref y0C) (.ref y6C) = some false)
    (z247 : PySem.W.subIn K (.ref y0C) (.ref y7C) = some false)
    (z248 : PySem.W.subIn K (.ref y0C) (.ref y8C) = some false)
    (z249 : PySem.W.subIn K (.ref y0C) (.ref y9C) = some false)
    (z250 : PySem.W.subIn K (.ref y0C) (.ref y10C) = some false)
    (z251 : PySem.W.subIn K (.ref y0C) (.ref y11C) = some false)
    (z252 : PySem.W.subIn K (.ref y0C) (.ref y12C) = some false)
    (z253 : PySem.W.subIn K (.ref y0C) (.ref y13C) = some false)
    (z254 : PySem.W.subIn K (.ref y0C) (.ref y14C) = some false)
    (z255 : PySem.W.subIn K (.ref y0C) (.ref y15C) = some false)
    (z256 : PySem.W.subIn K (.ref y0C) (.type "ValueError") = some true)
    (z257 : PySem.W.subIn K (.ref y0C) (.type "IndexError") = some false)
    (z258 : PySem.W.subIn K (.ref y0C) (.type "KeyError") = some false)
    (z259 : PySem.W.subIn K (.ref y0C) (.type "ZeroDivisionError") = some false)
    (z260 : PySem.W.subIn K (.ref y1C) (.ref y0C) = some true)
    (z261 : PySem.W.subIn K (.ref y1C) (.ref y1C) = some true)
    (z262 : PySem.W.subIn K (.ref y1C) (.ref y2C) = some false)
    (z263 : PySem.W.subIn K (.ref y1C) (.ref y3C) = some false)
    (z264 : PySem.W.subIn K (.ref y1C) (.ref y4C) = some false)
    (z265 : PySem.W.subIn K (.ref y1C) (.ref y5C) = some false)
    (z266 : PySem.W.subIn K (.ref y1C) (.ref y6C) = some false)
    (z267 : PySem.W.subIn K (.ref y1C) (.ref y7C) = some false)
    (z268 : PySem.W.subIn K (.ref y1C) (.ref y8C) = some false)
    (z269 : PySem.W.subIn K (.ref y1C) (.ref y9C) = some false)
    (z270 : PySem.W.subIn K (.ref y1C) (.ref y10C) = some false)
    (z271 : PySem.W.subIn K (.ref y1C) (.ref y11C) = some false)
    (z272 : PySem.W.subIn K (.ref y1C) (.ref y12C) = some false)
    (z273 : PySem.W.subIn K (.ref y1C) (.ref y13C) = some false)
    (z274 : PySem.W.subIn K (.ref y1C) (.ref y14C) = some false)
    (z275 : PySem.W.subIn K (.ref y1C) (.ref y15C) = some false)
    (z276 : PySem.W.subIn K (.ref y1C) (.type "ValueError") = some true)
    (z277 : PySem.W.subIn K (.ref y1C) (.type "IndexError") = some false)
    (z278 : PySem.W.subIn K (.ref y1C) (.type "KeyError") = some false)
    (z279 : PySem.W.subIn K (.ref y1C) (.type "ZeroDivisionError") = some false)
    (z280 : PySem.W.subIn K (.ref y2C) (.ref y0C) = some true)
    (z281 : PySem.W.subIn K (.ref y2C) (.ref y1C) = some false)
    (z282 : PySem.W.subIn K (.ref y2C) (.ref y2C) = some true)
    (z283 : PySem.W.subIn K (.ref y2C) (.ref y3C) = some false)
    (z284 : PySem.W.subIn K (.ref y2C) (.ref y4C) = some false)
    (z285 : PySem.W.subIn K (.ref y2C) (.ref y5C) = some false)
    (z286 : PySem.W.subIn K (.ref y2C) (.ref y6C) = some false)
    (z287 : PySem.W.subIn K (.ref y2C) (.ref y7C) = some false)
    (z288 : PySem.W.subIn K (.ref y2C) (.ref y8C) = some false)
    (z289 : PySem.W.subIn K (.ref y2C) (.ref y9C) = some false)
    (z290 : PySem.W.subIn K (.ref y2C) (.ref y10C) = some false)
    (z291 : PySem.W.subIn K (.ref y2C) (.ref y11C) = some false)
    (z292 : PySem.W.subIn K (.ref y2C) (.ref y12C) = some false)
    (z293 : PySem.W.subIn K (.ref y2C) (.ref y13C) = some false)
    (z294 : PySem.W.subIn K (.ref y2C) (.ref y14C) = some false)
    (z295 : PySem.W.subIn K (.ref y2C) (.ref y15C) = some false)
    (z296 : PySem.W.subIn K (.ref y2C) (.type "ValueError") = some true)
    (z297 : PySem.W.subIn K (.ref y2C) (.type "IndexError") = some false)
    (z298 : PySem.W.subIn K (.ref y2C) (.type "KeyError") = some false)
    (z299 : PySem.W.subIn K (.ref y2C) (.type "ZeroDivisionError") = some false)
    (z300 : PySem.W.subIn K (.ref y5C) (.ref y0C) = some true)
    (z301 : PySem.W.subIn K (.ref y5C) (.ref y1C) = some false)
    (z302 : PySem.W.subIn K (.ref y5C) (.ref y2C) = some false)
    (z303 : PySem.W.subIn K (.ref y5C) (.ref y3C) = some false)
    (z304 : PySem.W.subIn K (.ref y5C) (.ref y4C) = some false)
    (z305 : PySem.W.subIn K (.ref y5C) (.ref y5C) = some true)
    (z306 : PySem.W.subIn K (.ref y5C) (.ref y6C) = some false)
    (z307 : PySem.W.subIn K (.ref y5C) (.ref y7C) = some false)
    (z308 : PySem.W.subIn K (.ref y5C) (.ref y8C) = some false)
    (z309 : PySem.W.subIn K (.ref y5C) (.ref y9C) = some false)
    (z310 : PySem.W.subIn K (.ref y5C) (.ref y10C) = some false)
    (z311 : PySem.W.subIn K (.ref y5C) (.ref y11C) = some false)
    (z312 : PySem.W.subIn K (.ref y5C) (.ref y12C) = some false)
    (z313 : PySem.W.subIn K (.ref y5C) (.ref y13C) = some false)
    (z314 : PySem.W.subIn K (.ref y5C) (.ref y14C) = some false)
    (z315 : PySem.W.subIn K (.ref y5C) (.ref y15C) = some false)
    (z316 : PySem.W.subIn K (.ref y5C) (.type "ValueError") = some true)
    (z317 : PySem.W.subIn K (.ref y5C) (.type "IndexError") = some false)
    (z318 : PySem.W.subIn K (.ref y5C) (.type "KeyError") = some false)
    (z319 : PySem.W.subIn K (.ref y5C) (.type "ZeroDivisionError") = some false)
    : ∃ fd : FuncData, (∀ (s : Shared) (v : Value), BindsTo s fd ⟨[v], []⟩ [("_law_script", v)]) ∧ ∀ base : Heap, K.In base → base.Ns mainGlobals mg → FnOk l.prog w K mg base CX0 4 fa fd ["_law_script"] (sp_law K) := by
  have e := hfa.symm.trans (PySem.W.mg_of X G a8)
  cases e
  have F0 := fun_mk (st := s_short_enough) l0 c0 k0
  have b0 := F0.binds (ps := ["words"]) fun _ _ _ _ _ _ us hl => match us, hl with | [_], _ => rfl
  have F1 := fun_mk (st := s_not_so) l1 c1 k1
  have b1 := F1.binds (ps := ["one"]) fun _ _ _ _ _ _ us hl => match us, hl with | [_], _ => rfl
  have F2 := fun_mk (st := s_l_draws) l2 c2 k2
  have b2 := F2.binds (ps := ["_law_script"]) fun _ _ _ _ _ _ us hl => match us, hl with | [_], _ => rfl
  have F3 := fun_mk (st := s_l_next) l3 c3 k3
  have b3 := F3.binds (ps := ["_law_drawn", "_law_many"]) fun _ _ _ _ _ _ us hl => match us, hl with | [_, _], _ => rfl
  have F4 := fun_mk (st := s_l_made) l4 c4 k4
  have b4 := F4.binds (ps := ["_law_number"]) fun _ _ _ _ _ _ us hl => match us, hl with | [_], _ => rfl
  have F5 := fun_mk (st := s_l_classes) l5 c5 k5
  have b5 := F5.binds (ps := ["_law_error"]) fun _ _ _ _ _ _ us hl => match us, hl with | [_], _ => rfl
  have F6 := fun_mk (st := s_l_right) l6 c6 k6
  have b6 := F6.binds (ps := ["_law_number"]) fun _ _ _ _ _ _ us hl => match us, hl with | [_], _ => rfl
  have F7 := fun_mk (st := s_l_refused) l7 c7 k7
  have b7 := F7.binds (ps := ["_law_saying"]) fun _ _ _ _ _ _ us hl => match us, hl with | [_], _ => rfl
  have F8 := fun_mk (st := s_law) l8 c8 k8
  have b8 := F8.binds (ps := ["_law_script"]) fun _ _ _ _ _ _ us hl => match us, hl with | [_], _ => rfl
  exact ⟨_, fun s v => .of_eq rfl, fun base _ _ => (ok_law ⟨⟨_, _, F0, b0, PySem.W.mg_of X G a0⟩, ⟨_, _, F1, b1, PySem.W.mg_of X G a1⟩, ⟨_, _, F2, b2, PySem.W.mg_of X G a2⟩, ⟨_, _, F3, b3, PySem.W.mg_of X G a3⟩, ⟨_, _, F4, b4, PySem.W.mg_of X G a4⟩, ⟨_, _, F5, b5, PySem.W.mg_of X G a5⟩, ⟨_, _, F6, b6, PySem.W.mg_of X G a6⟩, ⟨_, _, F7, b7, PySem.W.mg_of X G a7⟩, ⟨_, _, F8, b8, PySem.W.mg_of X G a8⟩, PySem.W.mg_none_of X G z_IndexError, PySem.W.mg_none_of X G z_KeyError, PySem.W.mg_none_of X G z_ValueError, PySem.W.mg_none_of X G z_ZeroDivisionError, PySem.W.mg_none_of X G z_int, PySem.W.mg_none_of X G z_isinstance, PySem.W.mg_none_of X G z_len, PySem.W.mg_none_of X G z_list, PySem.W.mg_none_of X G z_range, tc0, PySem.W.mg_of X G q0, ⟨y0C, y0a, PySem.W.mg_of X G y0a, y0e, y0k, y0b, y0t, y0i, y0m, ⟨y01, y02, y0b, y03, y04, yg, yt, y05⟩⟩, ⟨y1C, y1a, PySem.W.mg_of X G y1a, y1e, y1k, y1b, y1t, y1i, y1m, ⟨y11, y12, y1b, y13, y14, yg, yt, y15⟩⟩, ⟨y2C, y2a, PySem.W.mg_of X G y2a, y2e, y2k, y2b, y2t, y2i, y2m, ⟨y21, y22, y2b, y23, y24, yg, yt, y25⟩⟩, ⟨y3C, y3a, PySem.W.mg_of X G y3a, y3e, y3k, y3b, y3t, y3i, y3m, ⟨y31, y32, y3b, y33, y34, yg, yt, y35⟩⟩, ⟨y4C, y4a, PySem.W.mg_of X G y4a, y4e, y4k, y4b, y4t, y4i, y4m, ⟨y41, y42, y4b, y43, y44, yg, yt, y45⟩⟩, ⟨y5C, y5a, PySem.W.mg_of X G y5a, y5e, y5k, y5b, y5t, y5i, y5m, ⟨y51, y52, y5b, y53, y54, yg, yt, y55⟩⟩, ⟨y6C, y6a, PySem.W.mg_of X G y6a, y6e, y6k, y6b, y6t, y6i, y6m, ⟨y61, y62, y6b, y63, y64, yg, yt, y65⟩⟩, ⟨y7C, y7a, PySem.W.mg_of X G y7a, y7e, y7k, y7b, y7t, y7i, y7m, ⟨y71, y72, y7b, y73, y74, yg, yt, y75⟩⟩, ⟨y8C, y8a, PySem.W.mg_of X G y8a, y8e, y8k, y8b, y8t, y8i, y8m, ⟨y81, y82, y8b, y83, y84, yg, yt, y85⟩⟩, ⟨y9C, y9a, PySem.W.mg_of X G y9a, y9e, y9k, y9b, y9t, y9i, y9m, ⟨y91, y92, y9b, y93, y94, yg, yt, y95⟩⟩, ⟨y10C, y10a, PySem.W.mg_of X G y10a, y10e, y10k, y10b, y10t, y10i, y10m, ⟨y101, y102, y10b, y103, y104, yg, yt, y105⟩⟩, ⟨y11C, y11a, PySem.W.mg_of X G y11a, y11e, y11k, y11b, y11t, y11i, y11m, ⟨y111, y112, y11b, y113, y114, yg, yt, y115⟩⟩, ⟨y12C, y12a, PySem.W.mg_of X G y12a, y12e, y12k, y12b, y12t, y12i, y12m, ⟨y121, y122, y12b, y123, y124, yg, yt, y125⟩⟩, ⟨y13C, y13a, PySem.W.mg_of X G y13a, y13e, y13k, y13b, y13t, y13i, y13m, ⟨y131, y132, y13b, y133, y134, yg, yt, y135⟩⟩, ⟨y14C, y14a, PySem.W.mg_of X G y14a, y14e, y14k, y14b, y14t, y14i, y14m, ⟨y141, y142, y14b, y143, y144, yg, yt, y145⟩⟩, ⟨y15C, y15a, PySem.W.mg_of X G y15a, y15e, y15k, y15b, y15t, y15i, y15m, ⟨y151, y152, y15b, y153, y154, yg, yt, y155⟩⟩, z0, z1, z2, z3, z4, z5, z6, z7, z8, z9, z10, z11, z12, z13, z14, z15, z16, z17, z18, z19, z20, z21, z22, z23, z24, z25, z26, z27, z28, z29, z30, z31, z32, z33, z34, z35, z36, z37, z38, z39, z40, z41, z42, z43, z44, z45, z46, z47, z48, z49, z50, z51, z52, z53, z54, z55, z56, z57, z58, z59, z60, z61, z62, z63, z64, z65, z66, z67, z68, z69, z70, z71, z72, z73, z74, z75, z76, z77, z78, z79, z80, z81, z82, z83, z84, z85, z86, z87, z88, z89, z90, z91, z92, z93, z94, z95, z96, z97, z98, z99, z100, z101, z102, z103, z104, z105, z106, z107, z108, z109, z110, z111, z112, z113, z114, z115, z116, z117, z118, z119, z120, z121, z122, z123, z124, z125, z126, z127, z128, z129, z130, z131, z132, z133, z134, z135, z136, z137, z138, z139, z140, z141, z142, z143, z144, z145, z146, z147, z148, z149, z150, z151, z152, z153, z154, z155, z156, z157, z158, z159, z160, z161, z162, z163, z164, z165, z166, z167, z168, z169, z170, z171, z172, z173, z174, z175, z176, z177, z178, z179, z180, z181, z182, z183, z184, z185, z186, z187, z188, z189, z190, z191, z192, z193, z194, z195, z196, z197, z198, z199, z200, z201, z202, z203, z204, z205, z206, z207, z208, z209, z210, z211, z212, z213, z214, z215, z216, z217, z218, z219, z220, z221, z222, z223, z224, z225, z226, z227, z228, z229, z230, z231, z232, z233, z234, z235, z236, z237, z238, z239, z240, z241, z242, z243, z244, z245, z246, z247, z248, z249, z250, z251, z252, z253, z254, z255, z256, z257, z258, z259, z260, z261, z262, z263, z264, z265, z266, z267, z268, z269, z270, z271, z272, z273, z274, z275, z276, z277, z278, z279, z280, z281, z282, z283, z284, z285, z286, z287, z288, z289, z290, z291, z292, z293, z294, z295, z296, z297, z298, z299, z300, z301, z302, z303, z304, z305, z306, z307, z308, z309, z310, z311, z312, z313, z314, z315, z316, z317, z318, z319⟩)⟩
end B
open PySem PySem.W PyProof.Rows
set_option maxRecDepth 100000 in
set_option maxHeartbeats 0 in
theorem PySem.Challenge.cw_betstall_k11_refusals_by_hand_holds : PySem.Challenge.rw_betstall_k11_refusals_by_hand.Holds := by
  w_on; o_law; k_head; (case hw => w_witness2)
  k_fill
  refine L2.walk_ofB (l := PySem.Challenge.rw_betstall_k11_refusals_by_hand) (n := 63) (k := 4) (x := "_law_script") (CX := fun _ => L2.CX0) (sp := fun w => B.sp_law _) rfl (by decide) rfl ⟨rfl, by decide, by decide⟩ (fun w h Y => PySem.W.kIn_of Y) ?F (fun _ _ a ns hl hb _ hS => ⟨a, ns, rfl, hS, hl, hb, fun _ => rfl⟩) (fun _ _ _ _ _ h => h)
  case F =>
    intro w mg fa h KX G hmg
    refine' B.all_mk KX G hmg ?a0 ?l0 ?c0 ?k0 ?a1 ?l1 ?c1 ?k1 ?a2 ?l2 ?c2 ?k2 ?a3 ?l3 ?c3 ?k3 ?a4 ?l4 ?c4 ?k4 ?a5 ?l5 ?c5 ?k5 ?a6 ?l6 ?c6 ?k6 ?a7 ?l7 ?c7 ?k7 ?a8 ?l8 ?c8 ?k8 ?z_IndexError ?z_KeyError ?z_ValueError ?z_ZeroDivisionError ?z_int ?z_isinstance ?z_len ?z_list ?z_range ?q0 ?y0a ?y0e ?y0k ?y0b ?y0t ?y0i ?y0m ?y01 ?y02 ?y03 ?y04 ?y05 ?y1a ?y1e ?y1k ?y1b ?y1t ?y1i ?y1m ?y11 ?y12 ?y13 ?y14 ?y15 ?y2a ?y2e ?y2k ?y2b ?y2t ?y2i ?y2m ?y21 ?y22 ?y23 ?y24 ?y25 ?y3a ?y3e ?y3k ?y3b ?y3t ?y3i ?y3m ?y31 ?y32 ?y33 ?y34 ?y35 ?y4a ?y4e ?y4k ?y4b ?y4t ?y4i ?y4m ?y41 ?y42 ?y43 ?y44 ?y45 ?y5a ?y5e ?y5k ?y5b ?y5t ?y5i ?y5m ?y51 ?y52 ?y53 ?y54 ?y55 ?y6a ?y6e ?y6k ?y6b ?y6t ?y6i ?y6m ?y61 ?y62 ?y63 ?y64 ?y65 ?y7a ?y7e ?y7k ?y7b ?y7t ?y7i ?y7m ?y71 ?y72 ?y73 ?y74 ?y75 ?y8a ?y8e ?y8k ?y8b ?y8t ?y8i ?y8m ?y81 ?y82 ?y83 ?y84 ?y85 ?y9a ?y9e ?y9k ?y9b ?y9t ?y9i ?y9m ?y91 ?y92 ?y93 ?y94 ?y95 ?y10a ?y10e ?y10k ?y10b ?y10t ?y10i ?y10m ?y101 ?y102 ?y103 ?y104 ?y105 ?y11a ?y11e ?y11k ?y11b ?y11t ?y11i ?y11m ?y111 ?y112 ?y113 ?y114 ?y115 ?y12a ?y12e ?y12k ?y12b ?y12t ?y12i ?y12m ?y121 ?y122 ?y123 ?y124 ?y125 ?y13a ?y13e ?y13k ?y13b ?y13t ?y13i ?y13m ?y131 ?y132 ?y133 ?y134 ?y135 ?y14a ?y14e ?y14k ?y14b ?y14t ?y14i ?y14m ?y141 ?y142 ?y143 ?y144 ?y145 ?y15a ?y15e ?y15k ?y15b ?y15t ?y15i ?y15m ?y151 ?y152 ?y153 ?y154 ?y155 ?yg ?yt ?z0 ?z1 ?z2 ?z3 ?z4 ?z5 ?z6 ?z7 ?z8 ?z9 ?z10 ?z11 ?z12 ?z13 ?z14 ?z15 ?z16 ?z17 ?z18 ?z19 ?z20 ?z21 ?z22 ?z23 ?z24 ?z25 ?z26 ?z27 ?z28 ?z29 ?z30 ?z31 ?z32 ?z33 ?z34 ?z35 ?z36 ?z37 ?z38 ?z39 ?z40 ?z41 ?z42 ?z43 ?z44 ?z45 ?z46 ?z47 ?z48 ?z49 ?z50 ?z51 ?z52 ?z53 ?z54 ?z55 ?z56 ?z57 ?z58 ?z59 ?z60 ?z61 ?z62 ?z63 ?z64 ?z65 ?z66 ?z67 ?z68 ?z69 ?z70 ?z71 ?z72 ?z73 ?z74 ?z75 ?z76 ?z77 ?z78 ?z79 ?z80 ?z81 ?z82 ?z83 ?z84 ?z85 ?z86 ?z87 ?z88 ?z89 ?z90 ?z91 ?z92 ?z93 ?z94 ?z95 ?z96 ?z97 ?z98 ?z99 ?z100 ?z101 ?z102 ?z103 ?z104 ?z105 ?z106 ?z107 ?z108 ?z109 ?z110 ?z111 ?z112 ?z113 ?z114 ?z115 ?z116 ?z117 ?z118 ?z119 ?z120 ?z121 ?z122 ?z123 ?z124 ?z125 ?z126 ?z127 ?z128 ?z129 ?z130 ?z131 ?z132 ?z133 ?z134 ?z135 ?z136 ?z137 ?z138 ?z139 ?z140 ?z141 ?z142 ?z143 ?z144 ?z145 ?z146 ?z147 ?z148 ?z149 ?z150 ?z151 ?z152 ?z153 ?z154 ?z155 ?z156 ?z157 ?z158 ?z159 ?z160 ?z161 ?z162 ?z163 ?z164 ?z165 ?z166 ?z167 ?z168 ?z169 ?z170 ?z171 ?z172 ?z173 ?z174 ?z175 ?z176 ?z177 ?z178 ?z179 ?z180 ?z181 ?z182 ?z183 ?z184 ?z185 ?z186 ?z187 ?z188 ?z189 ?z190 ?z191 ?z192 ?z193 ?z194 ?z195 ?z196 ?z197 ?z198 ?z199 ?z200 ?z201 ?z202 ?z203 ?z204 ?z205 ?z206 ?z207 ?z208 ?z209 ?z210 ?z211 ?z212 ?z213 ?z214 ?z215 ?z216 ?z217 ?z218 ?z219 ?z220 ?z221 ?z222 ?z223 ?z224 ?z225 ?z226 ?z227 ?z228 ?z229 ?z230 ?z231 ?z232 ?z233 ?z234 ?z235 ?z236 ?z237 ?z238 ?z239 ?z240 ?z241 ?z242 ?z243 ?z244 ?z245 ?z246 ?z247 ?z248 ?z249 ?z250 ?z251 ?z252 ?z253 ?z254 ?z255 ?z256 ?z257 ?z258 ?z259 ?z260 ?z261 ?z262 ?z263 ?z264 ?z265 ?z266 ?z267 ?z268 ?z269 ?z270 ?z271 ?z272 ?z273 ?z274 ?z275 ?z276 ?z277 ?z278 ?z279 ?z280 ?z281 ?z282 ?z283 ?z284 ?z285 ?z286 ?z287 ?z288 ?z289 ?z290 ?z291 ?z292 ?z293 ?z294 ?z295 ?z296 ?z297 ?z298 ?z299 ?z300 ?z301 ?z302 ?z303 ?z304 ?z305 ?z306 ?z307 ?z308 ?z309 ?z310 ?z311 ?z312 ?z313 ?z314 ?z315 ?z316 ?z317 ?z318 ?z319
    (case a0 => k_is); (case l0 => k_is); (case c0 => k_is); (case k0 => k_is); (case a1 => k_is); (case l1 => k_is); (case c1 => k_is); (case k1 => k_is); (case a2 => k_is); (case l2 => k_is); (case c2 => k_is); (case k2 => k_is); (case a3 => k_is); (case l3 => k_is); (case c3 => k_is); (case k3 => k_is); (case a4 => k_is); (case l4 => k_is); (case c4 => k_is); (case k4 => k_is); (case a5 => k_is); (case l5 => k_is); (case c5 => k_is); (case k5 => k_is); (case a6 => k_is); (case l6 => k_is); (case c6 => k_is); (case k6 => k_is); (case a7 => k_is); (case l7 => k_is); (case c7 => k_is); (case k7 => k_is); (case a8 => k_is); (case l8 => k_is); (case c8 => k_is); (case k8 => k_is); (case z_IndexError => k_is); (case z_KeyError => k_is); (case z_ValueError => k_is); (case z_ZeroDivisionError => k_is); (case z_int => k_is); (case z_isinstance => k_is); (case z_len => k_is); (case z_list => k_is); (case z_range => k_is); (case q0 => k_is); (case y0a => k_is); (case y0e => k_exc); (case y0k => k_is); (case y0b => k_is); (case y0t => k_is); (case y0i => k_is); (case y0m => k_is); (case y01 => k_is); (case y02 => k_is); (case y03 => k_is); (case y04 => k_is); (case y05 => k_is); (case y1a => k_is); (case y1e => k_exc); (case y1k => k_is); (case y1b => k_is); (case y1t => k_is); (case y1i => k_is); (case y1m => k_is); (case y11 => k_is); (case y12 => k_is); (case y13 => k_is); (case y14 => k_is); (case y15 => k_is); (case y2a => k_is); (case y2e => k_exc); (case y2k => k_is); (case y2b => k_is); (case y2t => k_is); (case y2i => k_is); (case y2m => k_is); (case y21 => k_is); (case y22 => k_is); (case y23 => k_is); (case y24 => k_is); (case y25 => k_is); (case y3a => k_is); (case y3e => k_exc); (case y3k => k_is); (case y3b => k_is); (case y3t => k_is); (case y3i => k_is); (case y3m => k_is); (case y31 => k_is); (case y32 => k_is); (case y33 => k_is); (case y34 => k_is); (case y35 => k_is); (case y4a => k_is); (case y4e => k_exc); (case y4k => k_is); (case y4b => k_is); (case y4t => k_is); (case y4i => k_is); (case y4m => k_is); (case y41 => k_is); (case y42 => k_is); (case y43 => k_is); (case y44 => k_is); (case y45 => k_is); (case y5a => k_is); (case y5e => k_exc); (case y5k => k_is); (case y5b => k_is); (case y5t => k_is); (case y5i => k_is); (case y5m => k_is); (case y51 => k_is); (case y52 => k_is); (case y53 => k_is); (case y54 => k_is); (case y55 => k_is); (case y6a => k_is); (case y6e => k_exc); (case y6k => k_is); (case y6b => k_is); (case y6t => k_is); (case y6i => k_is); (case y6m => k_is); (case y61 => k_is); (case y62 => k_is); (case y63 => k_is); (case y64 => k_is); (case y65 => k_is); (case y7a => k_is); (case y7e => k_exc); (case y7k => k_is); (case y7b => k_is); (case y7t => k_is); (case y7i => k_is); (case y7m => k_is); (case y71 => k_is); (case y72 => k_is); (case y73 => k_is); (case y74 => k_is); (case y75 => k_is); (case y8a => k_is); (case y8e => k_exc); (case y8k => k_is); (case y8b => k_is); (case y8t => k_is); (case y8i => k_is); (case y8m => k_is); (case y81 => k_is); (case y82 => k_is); (case y83 => k_is); (case y84 => k_is); (case y85 => k_is); (case y9a => k_is); (case y9e => k_exc); (case y9k => k_is); (case y9b => k_is); (case y9t => k_is); (case y9i => k_is); (case y9m => k_is); (case y91 => k_is); (case y92 => k_is); (case y93 => k_is); (case y94 => k_is); (case y95 => k_is); (case y10a => k_is); (case y10e => k_exc); (case y10k => k_is); (case y10b => k_is); (case y10t => k_is); (case y10i => k_is); (case y10m => k_is); (case y101 => k_is); (case y102 => k_is); (case y103 => k_is); (case y104 => k_is); (case y105 => k_is); (case y11a => k_is); (case y11e => k_exc); (case y11k => k_is); (case y11b => k_is); (case y11t => k_is); (case y11i => k_is); (case y11m => k_is); (case y111 => k_is); (case y112 => k_is); (case y113 => k_is); (case y114 => k_is); (case y115 => k_is); (case y12a => k_is); (case y12e => k_exc); (case y12k => k_is); (case y12b => k_is); (case y12t => k_is); (case y12i => k_is); (case y12m => k_is); (case y121 => k_is); (case y122 => k_is); (case y123 => k_is); (case y124 => k_is); (case y125 => k_is); (case y13a => k_is); (case y13e => k_exc); (case y13k => k_is); (case y13b => k_is); (case y13t => k_is); (case y13i => k_is); (case y13m => k_is); (case y131 => k_is); (case y132 => k_is); (case y133 => k_is); (case y134 => k_is); (case y135 => k_is); (case y14a => k_is); (case y14e => k_exc); (case y14k => k_is); (case y14b => k_is); (case y14t => k_is); (case y14i => k_is); (case y14m => k_is); (case y141 => k_is); (case y142 => k_is); (case y143 => k_is); (case y144 => k_is); (case y145 => k_is); (case y15a => k_is); (case y15e => k_exc); (case y15k => k_is); (case y15b => k_is); (case y15t => k_is); (case y15i => k_is); (case y15m => k_is); (case y151 => k_is); (case y152 => k_is); (case y153 => k_is); (case y154 => k_is); (case y155 => k_is); (case yg => k_is); (case yt => k_is); (case z0 => k_is); (case z1 => k_is); (case z2 => k_is); (case z3 => k_is); (case z4 => k_is); (case z5 => k_is); (case z6 => k_is); (case z7 => k_is); (case z8 => k_is); (case z9 => k_is); (case z10 => k_is); (case z11 => k_is); (case z12 => k_is); (case z13 => k_is); (case z14 => k_is); (case z15 => k_is); (case z16 => k_is); (case z17 => k_is); (case z18 => k_is); (case z19 => k_is); (case z20 => k_is); (case z21 => k_is); (case z22 => k_is); (case z23 => k_is); (case z24 => k_is); (case z25 => k_is); (case z26 => k_is); (case z27 => k_is); (case z28 => k_is); (case z29 => k_is); (case z30 => k_is); (case z31 => k_is); (case z32 => k_is); (case z33 => k_is); (case z34 => k_is); (case z35 => k_is); (case z36 => k_is); (case z37 => k_is); (case z38 => k_is); (case z39 => k_is); (case z40 => k_is); (case z41 => k_is); (case z42 => k_is); (case z43 => k_is); (case z44 => k_is); (case z45 => k_is); (case z46 => k_is); (case z47 => k_is); (case z48 => k_is); (case z49 => k_is); (case z50 => k_is); (case z51 => k_is); (case z52 => k_is); (case z53 => k_is); (case z54 => k_is); (case z55 => k_is); (case z56 => k_is); (case z57 => k_is); (case z58 => k_is); (case z59 => k_is); (case z60 => k_is); (case z61 => k_is); (case z62 => k_is); (case z63 => k_is); (case z64 => k_is); (case z65 => k_is); (case z66 => k_is); (case z67 => k_is); (case z68 => k_is); (case z69 => k_is); (case z70 => k_is); (case z71 => k_is); (case z72 => k_is); (case z73 => k_is); (case z74 => k_is); (case z75 => k_is); (case z76 => k_is); (case z77 => k_is); (case z78 => k_is); (case z79 => k_is); (case z80 => k_is); (case z81 => k_is); (case z82 => k_is); (case z83 => k_is); (case z84 => k_is); (case z85 => k_is); (case z86 => k_is); (case z87 => k_is); (case z88 => k_is); (case z89 => k_is); (case z90 => k_is); (case z91 => k_is); (case z92 => k_is); (case z93 => k_is); (case z94 => k_is); (case z95 => k_is); (case z96 => k_is); (case z97 => k_is); (case z98 => k_is); (case z99 => k_is); (case z100 => k_is); (case z101 => k_is); (case z102 => k_is); (case z103 => k_is); (case z104 => k_is); (case z105 => k_is); (case z106 => k_is); (case z107 => k_is); (case z108 => k_is); (case z109 => k_is); (case z110 => k_is); (case z111 => k_is); (case z112 => k_is); (case z113 => k_is); (case z114 => k_is); (case z115 => k_is); (case z116 => k_is); (case z117 => k_is); (case z118 => k_is); (case z119 => k_is); (case z120 => k_is); (case z121 => k_is); (case z122 => k_is); (case z123 => k_is); (case z124 => k_is); (case z125 => k_is); (case z126 => k_is); (case z127 => k_is); (case z128 => k_is); (case z129 => k_is); (case z130 => k_is); (case z131 => k_is); (case z132 => k_is); (case z133 => k_is); (case z134 => k_is); (case z135 => k_is); (case z136 => k_is); (case z137 => k_is); (case z138 => k_is); (case z139 => k_is); (case z140 => k_is); (case z141 => k_is); (case z142 => k_is); (case z143 => k_is); (case z144 => k_is); (case z145 => k_is); (case z146 => k_is); (case z147 => k_is); (case z148 => k_is); (case z149 => k_is); (case z150 => k_is); (case z151 => k_is); (case z152 => k_is); (case z153 => k_is); (case z154 => k_is); (case z155 => k_is); (case z156 => k_is); (case z157 => k_is); (case z158 => k_is); (case z159 => k_is); (case z160 => k_is); (case z161 => k_is); (case z162 => k_is); (case z163 => k_is); (case z164 => k_is); (case z165 => k_is); (case z166 => k_is); (case z167 => k_is); (case z168 => k_is); (case z169 => k_is); (case z170 => k_is); (case z171 => k_is); (case z172 => k_is); (case z173 => k_is); (case z174 => k_is); (case z175 => k_is); (case z176 => k_is); (case z177 => k_is); (case z178 => k_is); (case z179 => k_is); (case z180 => k_is); (case z181 => k_is); (case z182 => k_is); (case z183 => k_is); (case z184 => k_is); (case z185 => k_is); (case z186 => k_is); (case z187 => k_is); (case z188 => k_is); (case z189 => k_is); (case z190 => k_is); (case z191 => k_is); (case z192 => k_is); (case z193 => k_is); (case z194 => k_is); (case z195 => k_is); (case z196 => k_is); (case z197 => k_is); (case z198 => k_is); (case z199 => k_is); (case z200 => k_is); (case z201 => k_is); (case z202 => k_is); (case z203 => k_is); (case z204 => k_is); (case z205 => k_is); (case z206 => k_is); (case z207 => k_is); (case z208 => k_is); (case z209 => k_is); (case z210 => k_is); (case z211 => k_is); (case z212 => k_is); (case z213 => k_is); (case z214 => k_is); (case z215 => k_is); (case z216 => k_is); (case z217 => k_is); (case z218 => k_is); (case z219 => k_is); (case z220 => k_is); (case z221 => k_is); (case z222 => k_is); (case z223 => k_is); (case z224 => k_is); (case z225 => k_is); (case z226 => k_is); (case z227 => k_is); (case z228 => k_is); (case z229 => k_is); (case z230 => k_is); (case z231 => k_is); (case z232 => k_is); (case z233 => k_is); (case z234 => k_is); (case z235 => k_is); (case z236 => k_is); (case z237 => k_is); (case z238 => k_is); (case z239 => k_is); (case z240 => k_is); (case z241 => k_is); (case z242 => k_is); (case z243 => k_is); (case z244 => k_is); (case z245 => k_is); (case z246 => k_is); (case z247 => k_is); (case z248 => k_is); (case z249 => k_is); (case z250 => k_is); (case z251 => k_is); (case z252 => k_is); (case z253 => k_is); (case z254 => k_is); (case z255 => k_is); (case z256 => k_is); (case z257 => k_is); (case z258 => k_is); (case z259 => k_is); (case z260 => k_is); (case z261 => k_is); (case z262 => k_is); (case z263 => k_is); (case z264 => k_is); (case z265 => k_is); (case z266 => k_is); (case z267 => k_is); (case z268 => k_is); (case z269 => k_is); (case z270 => k_is); (case z271 => k_is); (case z272 => k_is); (case z273 => k_is); (case z274 => k_is); (case z275 => k_is); (case z276 => k_is); (case z277 => k_is); (case z278 => k_is); (case z279 => k_is); (case z280 => k_is); (case z281 => k_is); (case z282 => k_is); (case z283 => k_is); (case z284 => k_is); (case z285 => k_is); (case z286 => k_is); (case z287 => k_is); (case z288 => k_is); (case z289 => k_is); (case z290 => k_is); (case z291 => k_is); (case z292 => k_is); (case z293 => k_is); (case z294 => k_is); (case z295 => k_is); (case z296 => k_is); (case z297 => k_is); (case z298 => k_is); (case z299 => k_is); (case z300 => k_is); (case z301 => k_is); (case z302 => k_is); (case z303 => k_is); (case z304 => k_is); (case z305 => k_is); (case z306 => k_is); (case z307 => k_is); (case z308 => k_is); (case z309 => k_is); (case z310 => k_is); (case z311 => k_is); (case z312 => k_is); (case z313 => k_is); (case z314 => k_is); (case z315 => k_is); (case z316 => k_is); (case z317 => k_is); (case z318 => k_is); (case z319 => k_is)
