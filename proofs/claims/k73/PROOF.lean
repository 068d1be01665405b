import PyProof.Rows.All
import Wide.All
import OpenK.AllK
import Wide.FinOn
import HandS.Base
import HandS.Call
import HandS.List
import HandS.Comp
import HandS.Ends
import HandS.Dict
import HandS.Iter
import HandS.Text
import HandS.Words
import HandS.TryOnly
import HandS.Wide
import HandS.IsInst
import HandS.EndBits
import HandS.TupAny
import HandS.TupMul
import HandS.Replace
import HandS.SortInts
import HandS.Evl
import HandS.Zip
import HandS.Exc
import HandS.ExcOwn
import HandS.ExcValue
import HandS.ExcIs
import HandS.WordsExc
import HandS.TryMany
import HandS.Walk
import HandS.TupLe
import HandS.Defaults
import HandS.CallSlots
import HandS.Conv
import PyProof.TupleOfStr
import HandS.Strs
import HandS.SetFor
import KE.GoesMore
import KE.GoesEnum
import KE.GoesNew
import KE.KExcIs
import KE.KDictZip
import HandS.HotCalls
import KE.KStateDown
import HandS.Head0
import HandS.Head1
import HandS.Head2
import HandS.HeadEnd
import HandS.HeadHook1
import HandS.HeadHook2
import HandS.HeadHook3
import HandS.More
import PySem.Challenge.RW_betstall_k73_parted_and_netted
set_option Elab.async false
set_option linter.all false
set_option maxRecDepth 100000
set_option maxHeartbeats 4000000
namespace B
open PySem PySem.Spec PyProof.Rows L2
structure Df (K : PySem.W.Frag) (mg : Str → Option Value) (x : Str) (st : Stmt) (ps : List Str) where
  f : Addr
  fd : FuncData
  F : Fun K x x st f fd
  b : Binds K fd ps []
  g : mg x = some (.ref f)
theorem same_upd {H : Hp} {p : Addr} {o : HO} (h : H p = none) : Same H (upd H p o) := fun b x e => by
  rw [upd_ne (ne_of_none e h)]
  exact e
theorem Same.tup {K : PySem.W.Frag} {H H' : Hp} {a : Addr} {xs : List V} (e : Same H H') (h : SqT K H a xs) : SqT K H' a xs := by
  rcases h with (h | ⟨o, h⟩) | h
  · exact .inl (.inl (e _ _ h))
  · exact .inl (.inr ⟨o, e _ _ h⟩)
  · exact .inr h
theorem sqt_upd {K : PySem.W.Frag} {H : Hp} {p : Addr} {xs : List V} : SqT K (upd H p (.tup xs)) p xs := .inl (.inl upd_same)
theorem sql_upd {K : PySem.W.Frag} {H : Hp} {p : Addr} {xs : List V} : SqL K (upd H p (.lst xs)) p xs := .inl (.inl upd_same)
/-- the three objects of a row of draws -/
structure Dr where
  dr : Addr
  cl : Addr
  rs : Addr
/-- such a row stands at d, and b further draws may be asked -/
structure Drw (H : Hp) (d : Dr) (b : Nat) : Prop where
  ex : ∃ (cs rr : List Int) (c : Nat), H d.dr = some (.lst [.ref d.cl, .int c, .ref d.rs]) ∧ H d.cl = some (.lst (cs.map V.int)) ∧ H d.rs = some (.lst (rr.map V.int)) ∧ cs.length = rr.length ∧ 0 < cs.length ∧ cs.length ≤ 63 ∧ c + b ≤ 1000000
  ne : d.cl ≠ d.rs
/-- all else that was tracked is as it was -/
def Kp (d : Dr) (H H' : Hp) : Prop := ∀ b o, H b = some o → b ≠ d.dr → b ≠ d.rs → H' b = some o
theorem Kp.refl (d : Dr) (H : Hp) : Kp d H H := fun _ _ h _ _ => h
theorem Kp.trans {d : Dr} {H H1 H2 : Hp} (a : Kp d H H1) (b : Kp d H1 H2) : Kp d H H2 := fun x o h n m => b x o (a x o h n m) n m
theorem Same.kp {d : Dr} {H H' : Hp} (e : Same H H') : Kp d H H' := fun b o h _ _ => e b o h
theorem Drw.less {H : Hp} {d : Dr} {b c : Nat} (h : Drw H d b) (e : c ≤ b) : Drw H d c := by
  obtain ⟨⟨cs, rr, k, h1, h2, h3, h4, h5, h6, h7⟩, ne⟩ := h
  exact ⟨⟨cs, rr, k, h1, h2, h3, h4, h5, h6, by omega⟩, ne⟩
theorem Drw.same {H H' : Hp} {d : Dr} {b : Nat} (h : Drw H d b) (e : Same H H') : Drw H' d b := by
  obtain ⟨⟨cs, rr, k, h1, h2, h3, h4⟩, ne⟩ := h
  exact ⟨⟨cs, rr, k, e _ _ h1, e _ _ h2, e _ _ h3, h4⟩, ne⟩
theorem Drw.dr {H : Hp} {d : Dr} {b : Nat} (h : Drw H d b) : ∃ xs, H d.dr = some (.lst xs) := by
  obtain ⟨⟨cs, rr, k, h1, h2, h3, h4⟩, ne⟩ := h
  exact ⟨_, h1⟩
theorem Drw.rs {H : Hp} {d : Dr} {b : Nat} (h : Drw H d b) : ∃ xs, H d.rs = some (.lst xs) := by
  obtain ⟨⟨cs, rr, k, h1, h2, h3, h4⟩, ne⟩ := h
  exact ⟨_, h3⟩
theorem Drw.no {H : Hp} {d : Dr} {b : Nat} {p : Addr} (h : Drw H d b) (n : H p = none) : p ≠ d.dr ∧ p ≠ d.rs := by
  obtain ⟨x, hx⟩ := h.dr
  obtain ⟨y, hy⟩ := h.rs
  exact ⟨(ne_of_none hx n).symm, (ne_of_none hy n).symm⟩
/-- a tuple stays as it is, whatever is drawn -/
theorem Kp.tup {K : PySem.W.Frag} {d : Dr} {b : Nat} {H H' : Hp} {a : Addr} {xs : List V} (k : Kp d H H') (w : Drw H d b) (h : SqT K H a xs) : SqT K H' a xs := by
  obtain ⟨ys, hy⟩ := w.dr
  obtain ⟨zs, hz⟩ := w.rs
  rcases h with (h | ⟨o, h⟩) | h
  · exact .inl (.inl (k _ _ h (ne_of h hy (by intro q; cases q)) (ne_of h hz (by intro q; cases q))))
  · exact .inl (.inr ⟨o, k _ _ h (ne_of h hy (by intro q; cases q)) (ne_of h hz (by intro q; cases q))⟩)
  · exact .inr h
/-- what a division of any size asks of the run: nothing looks on -/
structure Unl (P : Program) (base : Heap) : Prop where
  tree : P.given.tree = none
  seer : base.NoSeer
/-- // by any divisor but 0, by any divisor above 0 -/
def CDivN (_ j : Int) : Prop := j ≠ 0
def CDivW (_ j : Int) : Prop := 0 < j
section
variable {X : Cx} {env : Env} {l : List Env}
theorem op_fdivNW (U : Unl X.prog X.base) (room : Room 34 X.A) (top : X.stack = env :: l) (ge : env.scope.isGenerator = false) (co : env.scope.isCoroutine = false) (bu : env.builtins = builtinsNs) (gl : env.globals = mainGlobals) : OpR X (binaryOp .FloorDiv) (rI CDivN fun i j => .int (i.fdiv j)) := by
  rintro pins s σ H _ _ _ _ Q I rx ry ⟨i, j, rfl, rfl, nz, q⟩
  obtain ⟨t, rfl⟩ := rx
  obtain ⟨t', rfl⟩ := ry
  have frames : X.A.frames = some (env :: l) := I.ok.frames.trans (congrArg some top)
  have deep : X.A.depth + Builtin.pylongFrames < recursionLimit := by
    have := room.dp
    show X.A.depth + 100 < _
    omega
  exact floordiv_int nz ⟨.int (i.fdiv j), H, I.tok _, ⟨_, rfl⟩, q⟩ (.inr (PySem.PylongRoom.of (I.ok.mod.nolimit.keeps I.bk) deep (PySem.SeerAt.of (U.seer.keeps I.bk) U.tree frames ge co bu gl)))
theorem op_fdivW (U : Unl X.prog X.base) (room : Room 34 X.A) (top : X.stack = env :: l) (ge : env.scope.isGenerator = false) (co : env.scope.isCoroutine = false) (bu : env.builtins = builtinsNs) (gl : env.globals = mainGlobals) : OpR X (binaryOp .FloorDiv) (rI CDivW fun i j => .int (i / j)) := by
  rintro pins s σ H x y v u Q I rx ry ⟨i, j, ex, ey, pos, q⟩
  have pos : 0 < j := pos
  refine op_fdivNW U room top ge co bu gl pins s σ H x y v u Q I rx ry ⟨i, j, ex, ey, by show j ≠ 0; omega, ?_⟩
  show Q (.int (i.fdiv j)) H
  rw [Int.fdiv_eq_ediv_of_nonneg i (by omega)]
  exact q
end
/-- * of two factors of together less than a hundred million bits -/
def CMulW (i j : Int) : Prop := Nat.log2 i.natAbs + Nat.log2 j.natAbs < 100000000
theorem CMulW.fits {i j : Int} (h : CMulW i j) : IntMulOk i j := by
  have len : ∀ k : Int, Builtin.Int.intBits k ≤ Nat.log2 k.natAbs + 1 := by
    intro k
    unfold Builtin.Int.intBits
    split <;> omega
  have li := len i
  have lj := len j
  unfold CMulW at h
  have line : bitsLine = 134217728 := by decide
  intro great
  have great := (Bool.and_eq_true_iff.mp great).2
  unfold Builtin.Int.intTooBig at great
  have great := of_decide_eq_true great
  omega
theorem op_mulW {X : Cx} : OpR X (binaryOp .Mult) (rI CMulW fun i j => .int (i * j)) := opI fun _ _ _ _ _ _ _ c q => mul_int q c.fits
theorem wide_mul {i j : Int} {a b : Nat} (ai : i.natAbs < 2 ^ a) (bj : j.natAbs < 2 ^ b) (a0 : 0 < a) (b0 : 0 < b) (few : a + b ≤ 100000000) : CMulW i j := by
  have u := PySem.Flt.log2_lt_of a0 ai
  have v := PySem.Flt.log2_lt_of b0 bj
  show Nat.log2 i.natAbs + Nat.log2 j.natAbs < 100000000
  omega
theorem wide_div {i j : Int} {b : Nat} (h : 0 < j) (_ : j.natAbs < 2 ^ b) (_ : 0 < b) (_ : b ≤ 900000) : CDivW i j := h
theorem abs_nat (i : Int) : (if i < 0 then -i else i) = (i.natAbs : Int) := by
  split <;> omega
theorem iteE {k : Bool} {A B : Prop} (h : k = false) (q : B) : if k = true then A else B := by
  subst h
  exact iteF q
theorem iteK {k : Bool} {A B : Prop} (h : k = true) (q : A) : if k = true then A else B := by
  subst h
  exact iteT q
theorem lc_yes {σ : L2.St} {H : Hp} {X Y : Hp → Prop} (h : X H) : tYes σ H (fun b H3 => if b = true then X H3 else Y H3) := by
  show if true = true then X H else Y H
  rw [if_pos rfl]
  exact h
theorem ty_tup {K : PySem.W.Frag} {H : Hp} {a : Addr} {xs : List V} (h : SqT K H a xs) : TyX K H (.ref a) (.type "tuple") := by
  rcases h with (h | ⟨o, h⟩) | ⟨o, its, n, e, c, _⟩
  · exact .base (.tup h)
  · exact .fTuple h
  · exact .kTuple e c
theorem dp2 {K : PySem.W.Frag} {H : Hp} {a : Addr} {x y : Int} (h : SqT K H a [.int x, .int y]) : Dp K H (.ref a) (.tuple [.int x, .int y]) := .tup h (.cons (.int x) (.cons (.int y) .nil))
theorem at_nat {xs : List V} {j : Nat} {v : V} (h : xs[j]? = some v) : atI xs (j : Int) = some v := atI_nat h
end B
namespace B
open PySem PySem.Spec PyProof.Rows L2
end B
namespace B
open PySem PySem.Spec PyProof.Rows L2
end B
namespace B
open PySem PySem.Spec PyProof.Rows L2
/-- the text of such a class's maker: one word, told to the new error -/
def eiA (p : Pos) : Arguments := { posonlyargs := [], args := [{ arg := "self", annotation := none, pos := p }], vararg := none, kwonlyargs := [], kw_defaults := [], kwarg := none, defaults := [] }
def eiB (x : Str) (q1 q2 q3 q4 : Pos) : List Stmt := [.Assign [.Attribute (.Name "self" q1) "named" q2] (.Constant (.str x) 0 q3) q4]
def eiS : Scope := { kind := .function, names := [(PySem.Str.ofString "self", .local)], isGenerator := false, isCoroutine := false, more := [] }
/-- what the top says of an own class of errors (of ValueError's) -/
structure Xc (K : PySem.W.Frag) (mg : Str → Option Value) (x : Str) where
  C : Addr
  ns : PySem.W.nsIn K mainGlobals x = some (some (.ref C))
  g : mg x = some (.ref C)
  kp : PySem.W.keepIn K (.ref C) = true
  sb : PySem.W.subIn K (.ref C) (.type "BaseException") = some true
  ty : PySem.W.typeIn K (.ref C) = some (.type "type")
  ic : PySem.W.isClsIn K C = true
  me : PySem.W.subIn K (.ref C) (.ref C) = some true
  ec : ExcC K C
  cls : ∃ nm q N bs bm sn sub ab col dd k0 k1 k2 k3 k5, K.lookup C = some (excClassObj nm q C N bs bm true sn sub ab col dd k0 k1 k2 k3 k5 "ValueError.__new__") ∧ PySem.HandSPX.refsVE bm = true
  sa : PySem.W.findIn K (.ref C) "__setattr__" = some (some (.builtin "object.__setattr__"))
  no : PySem.W.findIn K (.ref C) "named" = some none
  fI : Addr
  iC : PySem.W.findIn K (.ref C) "__init__" = some (some (.ref fI))
  tI : PySem.W.typeIn K (.ref fI) = some (.type "function")
  fn : ∃ (oc : Value) (od : Option Addr) (doc pm : Value) (an : Option Addr) (cdv ct : Value) (osl : Array (Option Value)) (qn : Str) (p q1 q2 q3 q4 : Pos), K.lookup fI = some ⟨oc, od, .func (PySem.W.fnOf "__init__" qn (eiA p) (eiB x q1 q2 q3 q4) eiS .none .none doc pm an cdv ct), osl⟩ ∧ PySem.W.codeIn K cdv qn = true
/-- the class of that name -/
def XIs (K : PySem.W.Frag) (x : Str) (C : Addr) : Prop := PySem.W.nsIn K mainGlobals x = some (some (.ref C))
theorem XIs.eq {K : PySem.W.Frag} {x : Str} {C D : Addr} (h : XIs K x C) (k : PySem.W.nsIn K mainGlobals x = some (some (.ref D))) : C = D := by
  have e := (show PySem.W.nsIn K mainGlobals x = some (some (.ref C)) from h).symm.trans k
  cases e
  rfl
/-- what such a maker leaves of the new error at y: its dict at dx holds the word -/
structure EiEnd (h h' : Heap) (y C dx t1 : Addr) (v : Value) : Prop where
  rest : ∀ b o, b ≠ y → h.get? b = some o → h'.get? b = some o
  err : h'.get? y = some { cls := .ref C, dict := some dx, data := .fields #[.ref t1, .none, .none, .none, .bool false, .none] }
  far : h.objs.size ≤ dx
  two : dx ≠ y
  dct : h'.Ns1 dx (fun z => if z = "named" then some v else none)
section
open PySem.W PySem.Calls PySem.HandSPX
variable {prog : Program} {w : World} {A : Around} {R : Result → Shared → Prop} {s : Shared} {K : Frag} {mg : Str → Option Value} {x : Str}
theorem ei_run (T : Xc K mg x) {y t0 : Addr} (X : K.In s.heap) (hlim : s.heap.NoLimit) (hy : s.heap.get? y = some (excO T.C t0)) (hroom : A.depth < recursionLimit)
    (go : ∀ h' tk dx tv, EiEnd s.heap h' y T.C dx t0 (.str x tv) → R (.ok (.ret .none)) { s with heap := h', toks := tk }) :
    codeAny (model prog w) A (.call (.ref T.fI) ⟨[.ref y], []⟩) R s := by
  obtain ⟨oc, od, doc, pm, an, cdv, ct, osl, qn, p, q1, q2, q3, q4, ho, hcd⟩ := T.fn
  obtain ⟨nm, q, N, bs, bm, sn, sub, ab, col, dd, k0, k1, k2, k3, k5, hC, hbm⟩ := T.cls
  have hcl : clsIn K T.C = some { name := nm, bases := bs, mro := .ref T.C :: bm, ns := N, qualname := q, hasDict := true, slotNames := sn, subclasses := sub, abstract := ab, collection := col, hasDel := false } := by unfold clsIn; rw [hC] <;> rfl
  refine Att.call_fn (binds := [("self", .ref y)]) X hlim ho hcd hroom (BindsTo.of_eq (by first | rfl | with_unfolding_all rfl)) (by first | rfl | decide | with_unfolding_all rfl) (fun s₁ IC => ?_) rfl rfl rfl
  obtain ⟨h₁, tk₁, rfl⟩ := IC.toInCall.same
  have k := IC.toInCall.keep
  have hn := IC.toInCall.ns
  have hx₁ := k _ _ hy
  have X₁ : K.In h₁ := X.keeps k
  show wpAny _ _ (execs _ _) _ _ _
  refine wpAny_execs_cons (plainObj_wpAny_Assign_Attribute (Calls.Constant_str ?_))
  refine wpAny_Name (wpAny_loadName_local (m := bindL (envOfC qn eiS s.heap.objs.size T.fI cdv).kindOf [("self", Value.ref y)] fun _ => none) (v := .ref y) rfl (by first | rfl | with_unfolding_all rfl) hn (by first | rfl | with_unfolding_all rfl | kernel_rfl) ?_) (by decide)
  refine set_plain X₁ (ox := excO T.C t0) (od := none) ⟨hx₁, rfl, rfl, trivial⟩ T.sa ?_
  refine exc_osa X₁ hx₁ hcl (show refsVE (.ref T.C :: bm) = true from hbm) rfl T.no (fun h₃ tk₃ dx k₃ dn dne hx₃ hn₃ => ?_)
  show wpAny _ _ (execs _ _) _ _ _
  have z : s.heap.objs.size < h₁.objs.size := hn.lt
  exact wpAny_execs_nil (go h₃ tk₃ dx _ ⟨fun b o hb e => k₃ b o hb (k b o e), hx₃, Nat.le_of_lt (Nat.lt_of_lt_of_le z dn), dne, hn₃⟩)
/-- a made one -/
structure EiMade (h h' : Heap) (e C d : Addr) (v : Value) : Prop where
  keep : ∀ b o, h.get? b = some o → h'.get? b = some o
  new : h.objs.size ≤ e
  obj : ∃ oe vs, h'.get? e = some oe ∧ oe.cls = .ref C ∧ oe.dict = some d ∧ oe.data = .fields vs ∧ vs[1]? = some .none ∧ vs[2]? = some .none
  far : h.objs.size ≤ d
  two : d ≠ e
  dct : h'.Ns1 d (fun z => if z = "named" then some v else none)
theorem ei_made (T : Xc K mg x) (X : K.In s.heap) (hlim : s.heap.NoLimit) (hroom : A.depth + 1 < recursionLimit)
    (go : ∀ h' tk e d tv, EiMade s.heap h' e T.C d (.str x tv) → R (.ok (.ret (.ref e))) { s with heap := h', toks := tk }) :
    codeAny (model prog w) A (.call (.ref T.C) ⟨[], []⟩) R s := by
  obtain ⟨nm, q, N, bs, bm, sn, sub, ab, col, dd, k0, k1, k2, k3, k5, hC, hbm⟩ := T.cls
  obtain ⟨hp, g, dr, tk, os⟩ := s
  have k : ∀ b o, hp.get? b = some o → ((hp.push (kdv_tup [])).push (excO T.C hp.objs.size)).get? b = some o := fun b o e => Heap.get?_push_of_some _ (Heap.get?_push_of_some _ e)
  have hget : ((hp.push (kdv_tup [])).push (excO T.C hp.objs.size)).get? (hp.objs.size + 1) = some (excO T.C hp.objs.size) := by heap_get
  refine call_own F.excBase_ValueError (fun Y => refsVE_contains Y bm hbm) (X _ _ hC) (looks_findIn X T.iC) (fun self => bind_fn X self T.tI) (Nat.zero_le _) ?_
  refine ei_run (s := ⟨(hp.push (kdv_tup [])).push (excO T.C hp.objs.size), g, dr, tk, os⟩) T (X.keeps k) (hlim.keeps k) hget ?_ fun h' tk' dx tv ⟨k', hx, dn, dne, hns⟩ => ?_
  · show A.depth + 1 < recursionLimit
    exact hroom
  · have old : ∀ b o, hp.get? b = some o → h'.get? b = some o := fun b o e => k' b o (Nat.ne_of_lt (Nat.lt_succ_of_lt (Heap.lt_size e))) (k b o e)
    have z : hp.objs.size + 1 + 1 ≤ dx := by
      have q := dn
      simp only [Heap.size_push] at q
      exact q
    exact ⟨rfl, go h' tk' (hp.objs.size + 1) dx tv ⟨old, Nat.le_succ _, ⟨_, _, hx, rfl, rfl, rfl, rfl, rfl⟩, Nat.le_trans (Nat.le_trans (Nat.le_succ _) (Nat.le_succ _)) z, dne, hns⟩⟩
end
/-- the dict of such an error -/
abbrev wordOf (x : Str) : List (Str × V) := [("named", .str x)]
theorem relO_word {x : Str} {tv : Tok} (f : Str) : RelO (List.lookup f (wordOf x)) (if f = "named" then some (.str x tv) else none) := by
  show RelO (List.lookup f [("named", V.str x)]) _
  by_cases h : f = "named"
  · rw [if_pos h, h]
    have e : List.lookup ("named" : Str) [(("named" : Str), V.str x)] = some (V.str x) := by simp [List.lookup]
    rw [e]
    exact ⟨_, rfl⟩
  · rw [if_neg h]
    have e : (f == ("named" : Str)) = false := by simpa using h
    have e2 : List.lookup f [(("named" : Str), V.str x)] = none := by simp [List.lookup, e]
    rw [e2]
    trivial
section
variable {X : Cx} {x : Str} {pins : List (Addr × Obj)} {σ : L2.St} {H : Hp} {s : Shared}
/-- the heap behind C(): the dict is tracked, the error itself not -/
theorem ei_land {A : Around} {R : Result → Shared → Prop} (T : Xc X.K X.mg x) {k : Nat} (hr : Room k X.A) (I : L2.Inv X pins σ H s)
    (go : ∀ h' tk' e d oe vs (G : Heap), H d = none → H e = none → d ≠ e → h'.get? e = some oe → Zc (.ref T.C) (some d) oe → oe.data = .fields vs → vs[1]? = some .none → vs[2]? = some .none → (∀ b o, G.get? b = some o → h'.get? b = some o) → G.get? e = none →
      (∀ b, b ≠ e → G.get? b = h'.get? b) → L2.Inv X pins σ (upd H d (.xd (wordOf x))) { s with heap := G, toks := tk' } → R (.ok (.ret (.ref e))) { s with heap := h', toks := tk' }) :
    codeAny (model X.prog X.w) X.A (.call (.ref T.C) ⟨[], []⟩) R s := by
  have hlim := I.nolimit
  refine ei_made T I.kIn hlim (by have := hr.dp; omega) fun h' tk' e d tv M => ?_
  obtain ⟨oe, fv, hoe, hc, hd, hdat, h1, h2⟩ := M.obj
  have hns := M.dct
  obtain ⟨G, g1, g2⟩ := restrict h' fun b => decide (b ≠ e)
  have gk : ∀ b, b ≠ e → G.get? b = h'.get? b := fun b hb => g1 b (decide_eq_true hb)
  have ge : G.get? e = none := g2 e (by simp)
  have old : ∀ b o, s.heap.get? b = some o → G.get? b = some o := fun b o q => (gk b (Nat.ne_of_lt (Nat.lt_of_lt_of_le (Heap.lt_size q) M.new))).trans (M.keep b o q)
  have ob : ObjOk X.prog X.w (upd H d (.xd (wordOf x))) G d (.xd (wordOf x)) := ⟨_, hns.at (fun o q => (gk d M.two).trans q), fun f => relO_word f⟩
  refine go h' tk' e d oe fv G (I.hok.fresh M.far) (I.hok.fresh M.new) M.two hoe ⟨hc, hd⟩ hdat h1 h2 (fun b o q => ?_) ge gk (I.laid (t' := tk') old M.far ob)
  by_cases hb : b = e
  · rw [hb, ge] at q; cases q
  · exact (gk b hb).symm.trans q
/-- C() -/
theorem pmk_none {p pos : Pos} {k : Nat} (T : Xc X.K X.mg x) (hr : Room k X.A) (gl : Gl X x) (nd : (x == ("__debug__" : Str)) = false := by decide) :
    PMk X (.Call (.Name x p) [] [] pos) (fun _ H Q => ∀ d, H d = none → Q (.ref T.C) (some d) (upd H d (.xd (wordOf x)))) := by
  intro pins s σ H Q I want
  refine wpAny_Call_Name_kw (ld_glob I gl T.g ?_ nd)
  refine PySem.W.callWith_K0 I.kIn T.kp ?_
  refine wpAny_call (ei_land (A := X.A) T hr I fun h' tk' e d oe vs G nd ne dne hoe hz hdat h1 _ gs ge gk J => ?_)
  refine ⟨e, oe, vs, _, _, .ref T.C, some d, rfl, J, gs, ge, hoe, hz, hdat, h1, ?_, rfl, I.bare, raises_own T.sb T.ty, want d nd⟩
  rw [upd_ne (Ne.symm dne)]
  exact ne
end
/-- such a dict stands there, where the error has one -/
def DOk (H : Hp) : Option Addr → Prop
  | none => True
  | some d => ∃ fs, H d = some (.xd fs)
theorem Same.dok {H H' : Hp} {d : Option Addr} (e : Same H H') (h : DOk H d) : DOk H' d := by
  cases d with
  | none => trivial
  | some d => obtain ⟨fs, h⟩ := h; exact ⟨fs, e _ _ h⟩
theorem dok_upd {H : Hp} {d : Addr} {fs : List (Str × V)} : DOk (upd H d (.xd fs)) (some d) := ⟨fs, upd_same⟩
theorem inst_at {X : Cx} {pins : List (Addr × Obj)} {σ : L2.St} {H : Hp} {s : Shared} {a D : Addr} {d : Option Addr} {oe : Obj} {vs : Array Value} (I : L2.Inv X pins σ H s) (got : s.heap.get? a = some oe) (z : Zc (.ref D) d oe) (fl : oe.data = .fields vs) (h : DOk H d) : ∃ od, PySem.W.InstAt s.heap a oe D od := by
  cases d with
  | none => exact ⟨none, got, z.1, by unfold PySem.W.notCls; rw [fl] <;> rfl, by rw [z.2]; trivial⟩
  | some d =>
    obtain ⟨fs, h⟩ := h
    obtain ⟨mA, hns, _⟩ := (show ObjOk X.prog X.w H s.heap d (.xd fs) from I.hok d _ h)
    obtain ⟨od, ho, _⟩ := lookIn_ns hns
    exact ⟨some od, got, z.1, by unfold PySem.W.notCls; rw [fl] <;> rfl, by rw [z.2]; exact ho⟩
theorem kit_of {K : PySem.W.Frag} {a D : Addr} {oe : Obj} {od : Option Obj} (ec : ExcC K D) : PySem.W.KitX K (.ref a) (.ref D) (fun h => PySem.W.InstAt h a oe D od) :=
  PySem.W.kitx_exc (by obtain ⟨cd, hc, _⟩ := PySem.W.any_some ec.hd; rw [hc]; rfl) ec.hg ec.hk ec.hs ec.ha ec.hn ec.ht ec.hm
section
variable {X : Cx} {a : Addr} {oe : Obj} {pn : List (Addr × Obj)} {cls : Value} {d : Option Addr}
/-- isinstance(e, c), e the error of the suite -/
def rIsX (K : PySem.W.Frag) (a : Addr) (cls : Value) (d : Option Addr) : List V → Hp → VK → Prop := fun xs H Q => ∃ (D : Addr) (c : V) (cv : Value) (b : Bool), cls = .ref D ∧ DOk H d ∧ ExcC K D ∧ xs = [.ref a, c] ∧ ClsV c cv ∧ PySem.W.kitOne K (.ref D) cv = some b ∧ Q (.bl b) H
/-- isinstance(e, (c, ..)) -/
def rIsXT (K : PySem.W.Frag) (a : Addr) (cls : Value) (d : Option Addr) : List V → Hp → VK → Prop := fun xs H Q => ∃ (D tp : Addr) (cs : List V) (us : List Value) (b : Bool), cls = .ref D ∧ DOk H d ∧ ExcC K D ∧ xs = [.ref a, .ref tp] ∧ H tp = some (.tup cs) ∧ Paired ClsV cs us ∧ PySem.W.kitAny K (.ref D) us = some b ∧ Q (.bl b) H
end
theorem kitCls_own {K : PySem.W.Frag} {D : Value} {C : Addr} {b : Bool} (i : PySem.W.isClsIn K C = true) (t : PySem.W.typeIn K (.ref C) = some (.type "type")) (h : PySem.W.subIn K D (.ref C) = some b) : PySem.W.kitCls K D (.ref C) = some b := by
  have e : ((PySem.W.clsIn K C).isSome && PySem.W.typeIn K (.ref C) == some (.type "type")) = true := by
    have i' : (PySem.W.clsIn K C).isSome = true := i
    rw [i', t]
    rfl
  show (if ((PySem.W.clsIn K C).isSome && PySem.W.typeIn K (.ref C) == some (.type "type")) = true then PySem.W.subIn K D (.ref C) else none) = some b
  rw [if_pos e]
  exact h
theorem kit_own {K : PySem.W.Frag} {D C : Addr} {b : Bool} (i : PySem.W.isClsIn K C = true) (t : PySem.W.typeIn K (.ref C) = some (.type "type")) (me : PySem.W.subIn K (.ref D) (.ref D) = some true) (h : PySem.W.subIn K (.ref D) (.ref C) = some b) : PySem.W.kitOne K (.ref D) (.ref C) = some b := by
  unfold PySem.W.kitOne
  by_cases e : (Value.ref D == Value.ref C) = true
  · rw [if_pos e]
    have e2 : Value.ref D = Value.ref C := eq_of_beq e
    cases e2
    rw [me] at h
    exact h
  · rw [if_neg e]
    exact kitCls_own i t h
theorem kit_val {K : PySem.W.Frag} {D : Addr} {n : String} {b : Bool} (m : PySem.W.kitMeta n = true) (h : PySem.W.subIn K (.ref D) (.type n) = some b) : PySem.W.kitOne K (.ref D) (.type n) = some b := by
  have e : ¬ (Value.ref D == Value.type n) = true := by intro z; cases eq_of_beq z
  unfold PySem.W.kitOne
  rw [if_neg e]
  show (if PySem.W.kitMeta n = true then PySem.W.subIn K (.ref D) (.type n) else none) = some b
  rw [if_pos m]
  exact h
theorem kn_nil {K : PySem.W.Frag} {t : Value} : PySem.W.kitAny K t [] = some false := rfl
theorem kn_cons {K : PySem.W.Frag} {t c : Value} {cs : List Value} (h : PySem.W.kitOne K t c = some false) (k : PySem.W.kitAny K t cs = some false) : PySem.W.kitAny K t (c :: cs) = some false := kitAny_cons h (fun _ => k) (fun z => nomatch z)
theorem exm_own {K : PySem.W.Frag} {D C : Addr} {b : Bool} (s : PySem.W.subIn K (.ref C) (.type "BaseException") = some true) (i : PySem.W.isClsIn K C = true) (t : PySem.W.typeIn K (.ref C) = some (.type "type")) (h : PySem.W.subIn K (.ref D) (.ref C) = some b) : PySem.W.exmOne K (.ref D) (.ref C) = some b := by
  have e : (PySem.W.subIn K (.ref C) (.type "BaseException") == some true) = true := by rw [s]; rfl
  unfold PySem.W.exmOne
  rw [if_pos e]
  exact kitCls_own i t h
end B
namespace B
open PySem PySem.Spec PyProof.Rows L2
section
variable {X : Cx} {pins : List (Addr × Obj)} {σ : L2.St} {H : Hp} {s : Shared}
end
section
variable {X : Cx} {n : Str} {i : Nat} {body : List Stmt} {h0 : ExceptHandler} {hds : List ExceptHandler} {l : List (Value × (Addr → Value → TS))} {pos : Pos} {tb : WX → TS}
end
end B
namespace B
open PySem PySem.Spec PyProof.Rows L2
inductive Kd where
  | l
  | t
  | s
/-- the items of v, by its kind -/
def Src (K : PySem.W.Frag) (H : Hp) : Kd → V → List V → Prop
  | .l, v, xs => ∃ a, v = .ref a ∧ SqL K H a xs
  | .t, v, xs => ∃ a, v = .ref a ∧ SqT K H a xs
  | .s, v, xs => ∃ x : Str, v = .str x ∧ xs = x.cps.toList.map fun c => V.str ⟨#[c]⟩
/-- its iterator, at it, ahead of item i -/
def ItSt : Kd → Value → Addr → Nat → Heap → Prop
  | .l, .ref a, it, i, h => h.IsListIter it a i
  | .t, .ref a, it, i, h => h.IsTupleIter it a i
  | .s, .str x t, it, i, h => h.IsStrIter it (strIterType x) x t i
  | _, _, _, _, _ => False
theorem ItSt.keep {k : Kd} {u : Value} {it : Addr} {i : Nat} {h h' : Heap} (st : ItSt k u it i h) (e : ∀ o, h.get? it = some o → h'.get? it = some o) : ItSt k u it i h' := by
  cases k <;> cases u <;> first | exact st.elim | (exact Heap.IsListIter.at st e) | (exact Heap.IsTupleIter.at st e) | (obtain ⟨o, a, b⟩ := st; exact ⟨o, e o a, b⟩)
theorem ItSt.obj {k : Kd} {u : Value} {it : Addr} {i : Nat} {h : Heap} (st : ItSt k u it i h) : ∃ o, h.get? it = some o ∧ ∀ v, o.data ≠ .cell v := by
  cases k <;> cases u <;> first | exact st.elim | (obtain ⟨o, e, c, d⟩ := st; exact ⟨o, e, fun v z => by rw [d] at z; cases z⟩)
section
variable {X : Cx} {pins : List (Addr × Obj)} {σ : L2.St} {H : Hp} {s : Shared}
theorem Src.inj {k : Kd} {v : V} {xs ys : List V} (I : Inv X pins σ H s) (h : Src X.K H k v xs) (h' : Src X.K H k v ys) : xs = ys := by
  cases k with
  | l =>
    obtain ⟨a, rfl, p⟩ := h
    obtain ⟨b, e, p'⟩ := h'
    cases e
    exact I.list_inj p p'
  | t =>
    obtain ⟨a, rfl, p⟩ := h
    obtain ⟨b, e, p'⟩ := h'
    cases e
    exact I.tuple_inj p p'
  | s =>
    obtain ⟨a, rfl, p⟩ := h
    obtain ⟨b, e, p'⟩ := h'
    cases e
    rw [p, p']
/-- what its iterator draws -/
theorem Src.draws {k : Kd} {v : V} {u : Value} {xs : List V} {A : Around} {it : Addr} (I : Inv X pins σ H s) (h : Src X.K H k v xs) (r : RelV v u) (hh : A.handled = none) (ne : ∀ a, u = .ref a → a < it) :
    ∃ (fp : List Addr) (P : Nat → Value → Prop) (St : Nat → Heap → Prop), Draws X.prog X.w A it (it :: fp) xs.length P St ∧ (∀ i x, P i x → ∃ y, xs[i]? = some y ∧ RelV y x) ∧ (∀ i, ItSt k u it i s.heap → St i s.heap) ∧ (∀ i h, St i h → ItSt k u it i h) ∧ (∀ b ∈ fp, u = .ref b) := by
  cases k with
  | l =>
    obtain ⟨a, rfl, p⟩ := h
    cases r
    obtain ⟨its, rv, ht, hz⟩ := I.list p
    have hl := rv.length
    have D := Draws.list (prog := X.prog) (w := X.w) hh it a (Nat.ne_of_lt (ne a rfl)) its.toArray
    rw [List.size_toArray, ← hl] at D
    refine ⟨[a], _, _, D, fun i x hx => ?_, fun i st => ⟨st, ht.isList⟩, fun i h st => st.1, fun b hb => by rw [List.mem_singleton] at hb; rw [hb]⟩
    have hx : its[i]? = some x := by simpa using hx
    have hi : i < xs.length := by rw [hl]; exact (List.getElem?_eq_some_iff.mp hx).1
    obtain ⟨u', hu, ru⟩ := rv.get (List.getElem?_eq_getElem hi)
    rw [hx] at hu
    cases hu
    exact ⟨_, List.getElem?_eq_getElem hi, ru⟩
  | t =>
    obtain ⟨a, rfl, p⟩ := h
    cases r
    obtain ⟨its, rv, ht, hz⟩ := I.tuple p
    have hl := rv.length
    have D := Draws.tuple (prog := X.prog) (w := X.w) hh it a (Nat.ne_of_lt (ne a rfl)) its.toArray
    rw [List.size_toArray, ← hl] at D
    refine ⟨[a], _, _, D, fun i x hx => ?_, fun i st => ⟨st, ht⟩, fun i h st => st.1, fun b hb => by rw [List.mem_singleton] at hb; rw [hb]⟩
    have hx : its[i]? = some x := by simpa using hx
    have hi : i < xs.length := by rw [hl]; exact (List.getElem?_eq_some_iff.mp hx).1
    obtain ⟨u', hu, ru⟩ := rv.get (List.getElem?_eq_getElem hi)
    rw [hx] at hu
    cases hu
    exact ⟨_, List.getElem?_eq_getElem hi, ru⟩
  | s =>
    obtain ⟨x, rfl, p⟩ := h
    obtain ⟨t, rfl⟩ := r
    have D := Draws.text (prog := X.prog) (w := X.w) hh it x t
    have hl : xs.length = x.cps.size := by rw [p, List.length_map, Array.length_toList]
    rw [← hl] at D
    refine ⟨[], _, _, D, fun i v hv => ?_, fun i st => st, fun i h st => st, fun b hb => nomatch hb⟩
    obtain ⟨c, w, hc, rfl⟩ := hv
    refine ⟨.str ⟨#[c]⟩, ?_, ⟨w, rfl⟩⟩
    rw [p, List.getElem?_map, Array.getElem?_toList, hc]
    rfl
/-- how it begins -/
theorem Src.begins {k : Kd} {v : V} {u : Value} {xs : List V} (I : Inv X pins σ H s) (h : Src X.K H k v xs) (r : RelV v u) :
    ∃ (o : Obj) (G : Heap → Prop), Begins u o G ∧ G s.heap ∧ (∀ (h' : Heap) (it : Addr), h'.get? it = some o → ItSt k u it 0 h') ∧ ∀ a, u = .ref a → a < s.heap.objs.size := by
  cases k with
  | l =>
    obtain ⟨a, rfl, p⟩ := h
    cases r
    obtain ⟨its, rv, ht, hz⟩ := I.list p
    exact ⟨_, _, begins_list a its.toArray, ht.isList, fun h' it e => ⟨_, e, rfl, rfl⟩, fun b e => by cases e; exact ht.lt⟩
  | t =>
    obtain ⟨a, rfl, p⟩ := h
    cases r
    obtain ⟨its, rv, ht, hz⟩ := I.tuple p
    exact ⟨_, _, begins_tuple a its.toArray, ht, fun h' it e => ⟨_, e, rfl, rfl⟩, fun b e => by cases e; obtain ⟨o, ho, _⟩ := ht; exact Heap.lt_size ho⟩
  | s =>
    obtain ⟨x, rfl, p⟩ := h
    obtain ⟨t, rfl⟩ := r
    exact ⟨_, _, begins_text x t, trivial, fun h' it e => ⟨_, e, rfl, rfl⟩, fun b e => by cases e⟩
end
/-- the two as they stand at each turn, the items in new pairs -/
def ItG (K : PySem.W.Frag) (k1 k2 : Kd) (v1 v2 : V) : It :=
  ⟨fun i H => ∃ (xs ys : List V) (x y : V), Src K H k1 v1 xs ∧ Src K H k2 v2 ys ∧ xs[i]? = some x ∧ ys[i]? = some y,
    fun i H v H' => ∃ T x y, v = .ref T ∧ H T = none ∧ H' = upd H T (.tup [x, y]) ∧ (∀ xs, Src K H k1 v1 xs → xs[i]? = some x) ∧ ∀ ys, Src K H k2 v2 ys → ys[i]? = some y,
    fun i H => ∃ xs ys : List V, Src K H k1 v1 xs ∧ Src K H k2 v2 ys ∧ i = min xs.length ys.length⟩
theorem turn_zipG {P : Program} {w : World} {K : PySem.W.Frag} {elts : List Expr} {kk : Nat} {tpos : Pos} {k1 k2 : Kd} {v1 v2 : V} {u1 u2 : Value} {N : Nat} (r1 : RelV v1 u1) (r2 : RelV v2 u2) (l1 : ∀ a, u1 = .ref a → a < N) (l2 : ∀ a, u2 = .ref a → a < N) :
    Turn P w K (.Tuple elts kk tpos) (ItG K k1 k2 v1 v2) [N + 4, N + 2, N + 3, N, N + 1] (N + 4) (fun i h => IsZip h (N + 4) (N + 2) (N + 3) .none ∧ IsTupOf2 h (N + 2) (.ref N) (.ref (N + 1)) ∧ (∃ a1 a2, IsTupOf2 h (N + 3) a1 a2) ∧ ItSt k1 u1 N i h ∧ ItSt k2 u2 (N + 1) i h) where
  mem := by simp
  obj := fun i h st c hc => by
    obtain ⟨hz, hTI, ⟨x, y, hTO⟩, s1, s2⟩ := st
    have e' : c = N + 4 ∨ c = N + 2 ∨ c = N + 3 ∨ c = N ∨ c = N + 1 := by simpa using hc
    rcases e' with q | q | q | q | q
    · rw [q]; exact ⟨_, hz, fun v q => nomatch q⟩
    · rw [q]; exact ⟨_, hTI, fun v q => nomatch q⟩
    · rw [q]; exact ⟨_, hTO, fun v q => nomatch q⟩
    · rw [q]; exact s1.obj
    · rw [q]; exact s2.obj
  keep := fun i h h' st k => by
    obtain ⟨hz, hTI, ⟨x, y, hTO⟩, s1, s2⟩ := st
    exact ⟨k (N + 4) (by simp) _ hz, k (N + 2) (by simp) _ hTI, ⟨x, y, k (N + 3) (by simp) _ hTO⟩, s1.keep fun o q => k N (by simp) o q, s2.keep fun o q => k (N + 1) (by simp) o q⟩
  item := by
    intro X hP hw hK hc i pins s σ H E I hf st hg
    subst hP hw hK
    obtain ⟨hz, hTI, hTO, s1, s2⟩ := st
    obtain ⟨xs, ys, x, y, hqx, hqy, hx, hy⟩ := hg
    have hh : X.A.in1.handled = none := I.ok.hd hc
    obtain ⟨fp1, P1, St1, D1, c1, a1, b1, m1⟩ := Src.draws (it := N) I hqx r1 hh l1
    obtain ⟨fp2, P2, St2, D2, c2, a2, b2, m2⟩ := Src.draws (it := N + 1) I hqy r2 hh fun a e => Nat.lt_succ_of_lt (l2 a e)
    have S := zip_sep2 (N := N) (fp1 := fp1) (fp2 := fp2) (fun b hb => l1 b (m1 b hb)) (fun b hb => l2 b (m2 b hb))
    have W := GoesN.zip2 (elts := elts) (x1 := kk) (pos := tpos) S D1 D2
    have hi1 := (List.getElem?_eq_some_iff.mp hx).1
    have hi2 := (List.getElem?_eq_some_iff.mp hy).1
    refine W.goes i s (fun u s2 => ∃ x H', Inv X pins σ H' s2 ∧ RelV x u ∧ (ItG X.K k1 k2 v1 v2).yld i H x H' ∧ _ ∧ ∀ b ∈ [N + 4, N + 2, N + 3, N, N + 1], H' b = none) E (by omega) ⟨hz, hTI, hTO, a1 i s1, a2 i s2⟩ ?_
    rintro v h' tk ⟨T, p, r, rfl, hT, hp, hr, ht⟩ st' hk htk
    obtain ⟨x', hx', rx⟩ := c1 i p hp
    obtain ⟨y', hy', ry⟩ := c2 i r hr
    have new : ObjOk X.prog X.w (upd H T (.tup [x', y'])) h' T (.tup [x', y']) := ⟨by show 2 ≤ sizeLine; decide, [p, r], .cons rx (.cons ry .nil), ht⟩
    have I1 : Inv X pins σ (upd H T (.tup [x', y'])) { s with heap := h', toks := tk } := I.turnedNew (ch := [N + 4, N + 2, N + 3, N, N + 1]) (fun c o hb q => hk c o (fun z => hb (by
      have z : c = N + 4 ∨ c = N + 3 ∨ c = N ∨ c = N + 1 := by simpa using z
      rcases z with z | z | z | z <;> rw [z] <;> simp)) q) hf hT new
    have hTn := I.hok.fresh hT
    refine ⟨.ref T, _, I1, rfl, ⟨T, x', y', rfl, hTn, rfl, fun zs hz' => by rw [Src.inj I hz' hqx]; exact hx', fun zs hz' => by rw [Src.inj I hz' hqy]; exact hy'⟩, ⟨st'.1, st'.2.1, st'.2.2.1, b1 _ _ st'.2.2.2.1, b2 _ _ st'.2.2.2.2⟩, fun c hc' => ?_⟩
    have hlt : c < s.heap.objs.size := by
      have e' : c = N + 4 ∨ c = N + 2 ∨ c = N + 3 ∨ c = N ∨ c = N + 1 := by simpa using hc'
      rcases e' with q | q | q | q | q
      · rw [q]; exact Heap.lt_size hz
      · rw [q]; exact Heap.lt_size hTI
      · rw [q]; obtain ⟨_, _, z⟩ := hTO; exact Heap.lt_size z
      · rw [q]; obtain ⟨_, z, _⟩ := s1.obj; exact Heap.lt_size z
      · rw [q]; obtain ⟨_, z, _⟩ := s2.obj; exact Heap.lt_size z
    rw [upd_ne (Nat.ne_of_lt (Nat.lt_of_lt_of_le hlt hT))]
    exact (hf c hc').1
  done := by
    intro X hP hw hK hc i pins s σ H E I hf st hg
    subst hP hw hK
    obtain ⟨hz, hTI, hTO, s1, s2⟩ := st
    obtain ⟨xs, ys, hqx, hqy, hend⟩ := hg
    have hh : X.A.in1.handled = none := I.ok.hd hc
    obtain ⟨fp1, P1, St1, D1, c1, a1, b1, m1⟩ := Src.draws (it := N) I hqx r1 hh l1
    obtain ⟨fp2, P2, St2, D2, c2, a2, b2, m2⟩ := Src.draws (it := N + 1) I hqy r2 hh fun a e => Nat.lt_succ_of_lt (l2 a e)
    have S := zip_sep2 (N := N) (fp1 := fp1) (fp2 := fp2) (fun b hb => l1 b (m1 b hb)) (fun b hb => l2 b (m2 b hb))
    have W := GoesN.zip2 (elts := elts) (x1 := kk) (pos := tpos) S D1 D2
    subst hend
    refine W.stops s (fun s1 => Inv X pins σ H s1) E ⟨hz, hTI, hTO, a1 _ s1, a2 _ s2⟩ fun h' tk hk htk => ?_
    exact I.turnedL (ch := [N + 4, N + 2, N + 3, N, N + 1]) (fun c o hb q => hk c o (fun z => hb (by
      have z : c = N + 4 ∨ c = N + 3 ∨ c = N ∨ c = N + 1 := by simpa using z
      rcases z with z | z | z | z <;> rw [z] <;> simp)) q) hf
  self := fun A i s Q E st h => wpAny_pyIter_zip st.1 h
def iZipG (K : PySem.W.Frag) (ta : TA) : TI := fun σ H R => ta σ H fun vs H1 => ∃ k1 k2 v1 v2 xs ys, vs = [v1, v2] ∧ Src K H1 k1 v1 xs ∧ Src K H1 k2 v2 ys ∧ R (ItG K k1 k2 v1 v2) H1
theorem pi_zipG {X : Cx} {e e2 : Expr} {ta : TA} {p pos tpos : Pos} {elts : List Expr} {kk : Nat} (hg : Gl X "zip") (hm : X.mg "zip" = none) (ha : PA X [e, e2] ta)
    (hs : starEach [e, e2] X.env = (false, eval e X.env) :: starEach [e2] X.env := by rfl) (hpl : (backTo pos (starEach [e2] X.env)).any (·.1) = false := by rfl) :
    PI X (.Tuple elts kk tpos) (.Call (.Name "zip" p) [e, e2] [] pos) (iZipG X.K ta) := by
  refine ⟨fun pins s σ H R I h => ?_⟩
  refine Call_ (ld_blt I hg hm PyProof.Rows.boot_zip (PyProof.Rows.callWith_type1 (thn (ha.run pos pins s σ H _ I h) fun us s1 ⟨vs, H1, I1, r1, q1⟩ => ?_) hs hpl))
  obtain ⟨k1, k2, v1, v2, xs, ys, ex, hqx, hqy, q⟩ := q1
  subst ex
  cases r1 with
  | cons r rr =>
    rename_i u1 us1
    cases rr with
    | cons r' rr =>
      rename_i u2 us2
      cases rr
      have fresh5 : ∀ c, c ∈ [s1.heap.objs.size + 4, s1.heap.objs.size + 2, s1.heap.objs.size + 3, s1.heap.objs.size, s1.heap.objs.size + 1] → FpOk X pins H1 c := fun c hcm => by
        have e' : c = s1.heap.objs.size + 4 ∨ c = s1.heap.objs.size + 2 ∨ c = s1.heap.objs.size + 3 ∨ c = s1.heap.objs.size ∨ c = s1.heap.objs.size + 1 := by simpa using hcm
        have hle : s1.heap.objs.size ≤ c := by
          rcases e' with z | z | z | z | z
          · rw [z]; exact Nat.le_add_right _ _
          · rw [z]; exact Nat.le_add_right _ _
          · rw [z]; exact Nat.le_add_right _ _
          · rw [z]; exact Nat.le_refl _
          · rw [z]; exact Nat.le_add_right _ _
        exact I1.fpOk hle (I1.hok.fresh hle)
      obtain ⟨o1, G1, B1, g1, b1, l1⟩ := Src.begins I1 hqx r
      obtain ⟨o2, G2, B2, g2, b2, l2⟩ := Src.begins I1 hqy r'
      refine zip_begins2 B1 B2 g1 g2 fun h' hz hTI hTO h1 h2 hsz hk => wpAny_pyIter_zip hz ?_
      have I2 : Inv X pins σ H1 { s1 with heap := h' } := I1.kept (t' := s1.toks) hk
      exact ⟨s1.heap.objs.size + 4, _, _, _, H1, rfl, I2, turn_zipG r r' l1 l2, ⟨hz, hTI, ⟨_, _, hTO⟩, b1 h' _ h1, b2 h' _ h2⟩, fresh5, q⟩
theorem walk_zipG {K : PySem.W.Frag} {k1 k2 : Kd} {v1 v2 : V} {xs ys : List V} : Walk (ItG K k1 k2 v1 v2) (min xs.length ys.length) (fun H => Src K H k1 v1 xs ∧ Src K H k2 v2 ys) (YPair (fun i => xs[i]?) (fun i => ys[i]?)) :=
  ⟨fun i H hi q => ⟨xs, ys, xs[i]'(by omega), ys[i]'(by omega), q.1, q.2, List.getElem?_eq_getElem _, List.getElem?_eq_getElem _⟩, fun H q => ⟨xs, ys, q.1, q.2, rfl⟩,
    fun i H v H' hi q y => by
      obtain ⟨T, x, y', e, n, e2, h1, h2⟩ := y
      exact ⟨T, x, y', e, n, e2, h1 xs q.1, h2 ys q.2⟩⟩
end B
namespace B
open PySem PySem.Spec PyProof.Rows L2
end B
namespace B
open PySem PySem.Spec PyProof.Rows L2
/-- like a def's promise, but asked only where no showing is under way -/
structure FnG (P : Program) (w : World) (K : PySem.W.Frag) (mg : Str → Option Value) (base : Heap) (k : Nat) (f : Addr) (fd : FuncData) (ps : List Str) (sp : Sp) : Prop where
  arity : ∀ vs H Q E, sp vs H Q E → vs.length = ps.length
  go : ∀ (A : Around) (out : List Env) (s : Shared) (H : Hp) (ar : Args) (us : List Value) (vs : List V) (Q : VK) (E : XK), Room k A ∧ A.guards = some [] → Env0 P w K mg base A out s H →
    BindsTo s fd ar (ps.zip us) → Vals vs us → sp vs H Q E → codeAny (model P w) A (.call (.ref f) ar) (CR CX0 out P w H s Q E) s
section
variable {P : Program} {w : World} {K : PySem.W.Frag} {mg : Str → Option Value} {base : Heap}
end
section
variable {X : Cx}
end
end B
namespace B
open PySem PySem.Spec PyProof.Rows L2
/-- a heap in which at most the script is tracked -/
theorem script_heap {P : Program} {w : World} {K : PySem.W.Frag} {h : Heap} {a : Addr} {vs : List Value} {ns : List Int} (inK : K.In h) (ha : h.get? a = some { cls := .type "list", data := .seq vs.toArray }) (hi : IntsAre vs ns)
    (hl : ns.length ≤ sizeLine) : ∃ H : Hp, Only H ∧ SqL K H a (ns.map V.int) ∧ HOk P w H h ∧ ∀ b, H b = none ∨ (b = a ∧ K.lookup a = none) := by
  have rel := vals_ints hi
  have ln := hi.length
  rcases Option.eq_none_or_eq_some (K.lookup a) with no | ⟨o, yes⟩
  · let ob : Obj := { cls := .type "list", data := .seq vs.toArray }
    let H : Hp := fun b => if b = a then some (.frz ob (.lst (ns.map V.int))) else none
    have on : H a = some (.frz ob (.lst (ns.map V.int))) := if_pos rfl
    have off : ∀ b, b ≠ a → H b = none := fun b n => if_neg n
    refine ⟨H, fun b => ?_, .inl (.inr ⟨ob, on⟩), fun b u z => ?_, fun b => ?_⟩
    · rcases Nat.decEq b a with n | y
      · exact .inl (off b n)
      · subst y; exact .inr ⟨_, _, on⟩
    · rcases Nat.decEq b a with n | y
      · rw [off b n] at z; cases z
      · subst y
        rw [on] at z
        cases z
        exact ⟨ha, by rw [List.length_map]; exact hl, vs, _, rel, ha⟩
    · rcases Nat.decEq b a with n | y
      · exact .inl (off b n)
      · exact .inr ⟨y, no⟩
  · have same := inK a o yes
    rw [ha] at same
    cases same
    exact ⟨fun _ => none, fun _ => .inl rfl, .inr ⟨_, vs.toArray, _, yes, rfl, rfl, rfl, by simpa [ln] using hl, by simpa using rel⟩, fun _ _ z => (nomatch z), fun _ => .inl rfl⟩
theorem head_call {P : Program} {w : World} {K : PySem.W.Frag} {mg mb : Str → Option Value} {k : Nat} {fa a : Addr} {fd : FuncData} {x : Str} {sp : Sp} {s : Shared} {vs : List Value} {ns : List Int} (inK : K.In s.heap) (top : s.heap.Ns mainGlobals mg)
    (bu : s.heap.Ns builtinsNs mb) (boot : ∀ x : Str, x ≠ "__name__" → mb x = bootBuiltins x) (lim : s.heap.NoLimit) (noG : s.gens = #[]) (ha : s.heap.get? a = some { cls := .type "list", data := .seq vs.toArray }) (hi : IntsAre vs ns) (hl : ns.length ≤ sizeLine)
    (room : Room k callerA) (seen : s.heap.NoSeer) (F : ∀ base : Heap, K.In base → base.Ns mainGlobals mg → base.NoSeer → FnG P w K mg base k fa fd [x] sp) (bind : ∀ (s : Shared) (u : Value), BindsTo s fd ⟨[u], []⟩ [(x, u)])
    (want : ∀ H : Hp, Only H → SqL K H a (ns.map V.int) → sp [.ref a] H (fun v _ => v = .bl true) E0) :
    codeAny (model P w) callerA (.call (.ref fa) ⟨[.ref a], []⟩) (fun r s' => r = .ok (.ret (.bool true)) ∧ OldK s.heap s'.heap ∧ s'.os = s.os ∧ AllBare s'.gens) s := by
  obtain ⟨H, only, script, hok, free⟩ := script_heap (P := P) (w := w) inK ha hi hl
  have old : ∀ {b : Addr} {o : Obj}, s.heap.get? b = some o → H b = none → (hidT s.heap H).get? b = some o := fun e n => hidT_get e n
  have ns' : ∀ {b : Addr} {m : Str → Option Value}, s.heap.Ns b m → (hidT s.heap H).Ns b m := by
    rintro b m ⟨o, es, ep, e, d, r⟩
    refine ⟨o, es, ep, old e ?_, d, r⟩
    rcases free b with n | ⟨rfl, _⟩
    · exact n
    · rw [ha] at e
      cases e
      cases d
  have inB : K.In (hidT s.heap H) := by
    intro b o e
    refine old (inK b o e) ?_
    rcases free b with n | ⟨rfl, n⟩
    · exact n
    · rw [n] at e
      cases e
  obtain ⟨mc, l1, l2⟩ := lim
  have seen' : (hidT s.heap H).NoSeer := by
    obtain ⟨⟨c, c1, c2⟩, ⟨m, m1, m2⟩, ⟨i, i1, i2⟩, ⟨g, bm, ob, g1, g2, g3, g4, g5⟩⟩ := seen
    refine ⟨⟨c, ns' c1, c2⟩, ⟨m, ns' m1, m2⟩, ⟨i, ns' i1, i2⟩, ⟨g, bm, ob, ns' g1, g2, old g3 ?_, g4, g5⟩⟩
    rcases free bm with n | ⟨rfl, _⟩
    · exact n
    · rw [ha] at g3
      cases g3
      exact absurd g4 fun z => by
        injection z with z
        exact absurd z (by decide)
  have env : Env0 P w K mg (hidT s.heap H) callerA [] s H :=
    ⟨rfl, ⟨inB, ns' top, ⟨mb, ns' bu, boot⟩, ⟨mc, ns' l1, l2⟩⟩, fun _ _ e => of_hidT e, Nat.le_of_eq (hidT_size _ _), trivial, fun _ h => (nomatch h), hok, .of_eq noG⟩
  refine codeAny_mono ((F _ inB (ns' top) seen').go callerA [] s H _ [.ref a] [.ref a] _ _ ⟨room, rfl⟩ env (bind s (.ref a)) (.cons rfl .nil) (want H only script)) ?_
  intro r s2 h2
  match r, h2 with
  | .error _, h2 => exact h2.elim
  | .ok .next, h2 => exact h2.elim
  | .ok .brk, h2 => exact h2.elim
  | .ok .cont, h2 => exact h2.elim
  | .ok (.ret u), h2 =>
    obtain ⟨v, H2, os, bare, un, hok2, rv, q⟩ := h2
    cases (show v = .bl true from q)
    cases (show u = Value.bool true from rv)
    refine ⟨rfl, OldK.of_keep fun b o e => ?_, os, bare⟩
    rcases only b with n | ⟨ob, xs, z⟩
    · exact un.keep b o e n (fun h => (nomatch h)) (fun h => (nomatch h))
    · have e1 := (hok b _ z).1
      rw [e] at e1
      cases e1
      exact (hok2 b _ (un.frzs b _ _ z)).1
/-- a def that shows nothing, too -/
theorem g_of {P : Program} {w : World} {K : PySem.W.Frag} {mg : Str → Option Value} {base : Heap} {k : Nat} {f : Addr} {fd : FuncData} {ps : List Str} {sp : Sp} (F : FnOk P w K mg base CX0 k f fd ps sp) : FnG P w K mg base k f fd ps sp :=
  ⟨F.len, fun A out s H ar us vs Q E room e b r q => F.run A out s H ar us vs Q E room.1 e b r q⟩
end B
namespace B
open PySem PySem.Spec PyProof.Rows L2
def kwNo (K : PySem.W.Frag) (f : Addr) : Bool :=
  match K.lookup f with
  | some o => (match o.data with
    | .func fd => (match fd.kwdefaults with
      | .none => true
      | _ => false)
    | _ => false)
  | none => false
theorem kwNo_ok {K : PySem.W.Frag} {f : Addr} {oc : Value} {od : Option Addr} {fd : FuncData} {osl : Array (Option Value)} (h : kwNo K f = true) (lk : K.lookup f = some ⟨oc, od, .func fd, osl⟩) : fd.kwdefaults = .none := by
  unfold kwNo at h
  rw [lk] at h
  dsimp only at h
  split at h
  · assumption
  · cases h
/-- the object of an own class of errors -/
def errO (K : PySem.W.Frag) (C : Addr) : Bool :=
  match K.lookup C with
  | some o => (match o.cls, o.data, o.slots.toList with
    | .type t, .cls cd, [_, _, _, _, some (.builtin b), _] => (match cd.mro with
      | .ref D :: bm => decide (t = "type") && (decide (b = "ValueError.__new__") && (decide (D = C) && ((cd.hasDel == false) && ((cd.hasDict == true) && PySem.HandSPX.refsVE bm))))
      | _ => false)
    | _, _, _ => false)
  | none => false
theorem errO_ok {K : PySem.W.Frag} {C : Addr} (h : errO K C = true) : ∃ nm q N bs bm sn sub ab col dd k0 k1 k2 k3 k5, K.lookup C = some (excClassObj nm q C N bs bm true sn sub ab col dd k0 k1 k2 k3 k5 "ValueError.__new__") ∧ PySem.HandSPX.refsVE bm = true := by
  unfold errO at h
  split at h
  · rename_i o lk
    obtain ⟨oc, od, dt, sl⟩ := o
    dsimp only at h
    split at h
    · rename_i t cd k0 k1 k2 k3 b k5 hsl
      obtain ⟨nm, bs, mro, ns, qn, hd, sn, sub, ab, col, del⟩ := cd
      dsimp only at h
      split at h
      · rename_i D bm
        simp only [Bool.and_eq_true, decide_eq_true_eq, beq_iff_eq] at h
        obtain ⟨rfl, rfl, rfl, rfl, rfl, hr⟩ := h
        obtain ⟨sll⟩ := sl
        dsimp only at hsl
        subst hsl
        exact ⟨nm, qn, ns, bs, bm, sn, sub, ab, col, od, k0, k1, k2, k3, k5, lk, hr⟩
      · cases h
    · cases h
  · cases h
/-- what is asked of an own class of errors -/
def errB (K : PySem.W.Frag) (x : Str) : Bool :=
  He.eqO (PySem.W.nsIn K mainGlobals x) (some (some (.ref (He.ga K x)))) && (PySem.W.keepIn K (.ref (He.ga K x)) && (decide (PySem.W.subIn K (.ref (He.ga K x)) (.type "BaseException") = some true) && (decide (PySem.W.typeIn K (.ref (He.ga K x)) = some (.type "type")) && (PySem.W.isClsIn K (He.ga K x) &&
  (decide (PySem.W.subIn K (.ref (He.ga K x)) (.ref (He.ga K x)) = some true) && (He.eqO (PySem.W.findIn K (.ref (He.ga K x)) "__getattribute__") (some (some (.builtin "BaseException.__getattribute__"))) && (He.eqO (PySem.W.findIn K (.ref (He.ga K x)) "__getattr__") (some none) && (PySem.W.hasDictIn K (He.ga K x) &&
  (He.eqO (PySem.W.findIn K (.ref (He.ga K x)) "__class__") (some (some (.builtin "object.__class__"))) && (He.eqO (PySem.W.specialIn K (.builtin "object.__class__") "__get__") (some (some (.builtin "getset_descriptor.__get__"))) && (decide (PySem.W.takesIn K (.builtin "object.__class__") = some true) && (decide (PySem.W.mroIn K (He.ga K x) (.type "object") = some true) &&
  (errO K (He.ga K x) && (He.eqO (PySem.W.findIn K (.ref (He.ga K x)) "__setattr__") (some (some (.builtin "object.__setattr__"))) && (He.eqO (PySem.W.findIn K (.ref (He.ga K x)) "named") (some none) && (He.eqO (PySem.W.findIn K (.ref (He.ga K x)) "__init__") (some (some (.ref (He.fAd K (x, some "__init__"))))) &&
  (decide (PySem.W.typeIn K (.ref (He.fAd K (x, some "__init__"))) = some (.type "function")) && kwNo K (He.fAd K (x, some "__init__")))))))))))))))))))
/-- the row of the maker of such a class -/
def errD (x : Str) (qn : Str) (p q1 q2 q3 q4 : Pos) : He.DefD := ⟨(x, some "__init__"), "__init__", qn, eiA p, eiB x q1 q2 q3 q4, eiS, [], []⟩
theorem err_mk {K : PySem.W.Frag} {h : Heap} {mg : Str → Option Value} {x qn : Str} {p q1 q2 q3 q4 : Pos} {fd : FuncData} (X : K.In h) (G : h.Ns mainGlobals mg) (c : errB K x = true)
    (F : FunD K "__init__" qn (eiA p) (eiB x q1 q2 q3 q4) eiS [] [] (He.fAd K (x, some "__init__")) fd) : ∃ T : Xc K mg x, T.C = He.ga K x := by
  unfold errB at c
  simp only [Bool.and_eq_true, decide_eq_true_eq] at c
  obtain ⟨c1, c2, c3, c4, c5, c6, c7, c8, c9, c10, c11, c12, c13, c14, c15, c16, c17, c18, c19⟩ := c
  obtain ⟨oc, od, dV, kV, doc, pm, an, cdv, ct, osl, rfl, lk, hcd, hd, _⟩ := F.ex
  have e1 : dV = .none := by
    rcases hd with ⟨_, e⟩ | ⟨n, _⟩
    · exact e
    · exact absurd rfl n
  have e2 : kV = .none := kwNo_ok c19 lk
  subst e1 e2
  exact ⟨⟨He.ga K x, He.eqO_ok c1, PySem.W.mg_of X G (He.eqO_ok c1), c2, c3, c4, c5, c6, ⟨He.eqO_ok c7, He.eqO_ok c8, c3, c9, He.eqO_ok c10, He.eqO_ok c11, c12, c13⟩, errO_ok c14, He.eqO_ok c15, He.eqO_ok c16, He.fAd K (x, some "__init__"), He.eqO_ok c17, c18, ⟨oc, od, doc, pm, an, cdv, ct, osl, qn, p, q1, q2, q3, q4, lk, hcd⟩⟩, rfl⟩
inductive LtF where
  | err (x : Str)
  | sub (x y : Str) (b : Bool)
  | subT (x : Str) (t : String) (b : Bool)
  | tup (x : Str) (vs : List He.Dv)
  | tab (x : Str) (kvs : List (Str × He.Dv))
def LtF.ok (K : PySem.W.Frag) : LtF → Bool
  | .err x => errB K x
  | .sub x y b => decide (PySem.W.subIn K (.ref (He.ga K x)) (.ref (He.ga K y)) = some b)
  | .subT x t b => decide (PySem.W.subIn K (.ref (He.ga K x)) (.type t) = some b)
  | .tup x vs => He.tupB K x vs
  | .tab x kvs => He.valsB K (He.ga K x) kvs
theorem sub_of {K : PySem.W.Frag} {A C : Addr} {x y : Str} {b : Bool} (e1 : A = He.ga K x) (e2 : C = He.ga K y) (c : (LtF.sub x y b).ok K = true) : PySem.W.subIn K (.ref A) (.ref C) = some b := by
  rw [e1, e2]
  exact of_decide_eq_true c
theorem subT_of {K : PySem.W.Frag} {A : Addr} {x : Str} {t : String} {b : Bool} (e1 : A = He.ga K x) (c : (LtF.subT x t b).ok K = true) : PySem.W.subIn K (.ref A) (.type t) = some b := by
  rw [e1]
  exact of_decide_eq_true c
/-- where to look: the names' objects and what these name; the classes' tables, their methods and what these name -/
def nsOf (g : Addr → Option Obj) (a : Addr) : List Addr :=
  match g a with
  | some o => (match o.data with
    | .cls cd => [cd.ns]
    | _ => [])
  | none => []
def refsAt (g : Addr → Option Obj) (a : Addr) : List Addr :=
  match g a with
  | some o => He.refsD o
  | none => []
def asL (g : Addr → Option Obj) (ns cs : List Str) : List Addr :=
  let K0 := He.frG g [mainGlobals]
  let a1 := ns.map (He.ga K0)
  let c1 := cs.map (He.ga K0)
  let c2 := c1.flatMap (nsOf g)
  let c3 := c2.flatMap (refsAt g)
  mainGlobals :: (c1 ++ (c2 ++ (a1 ++ (c3 ++ (c3.flatMap (refsAt g) ++ a1.flatMap (refsAt g))))))
abbrev AlL : Type := He.AlD × Bool
def obsK (fa : List He.Fa) (fn : List He.DefD) (lf : List LtF) (K : PySem.W.Frag) : AlL := (He.obsD fa fn K, lf.all fun f => f.ok K)
structure SaysL (fa : List He.Fa) (fn : List He.DefD) (lf : List LtF) (K : PySem.W.Frag) : Prop where
  d : He.SaysD fa fn K
  l : (lf.all fun f => f.ok K) = true
theorem SaysL.fact {fa : List He.Fa} {fn : List He.DefD} {lf : List LtF} {K : PySem.W.Frag} (c : SaysL fa fn lf K) (i : Nat) {f : LtF} (h : lf[i]? = some f := by rfl) : f.ok K = true := List.all_eq_true.mp c.l f (List.mem_of_getElem? h)
theorem fun_ofD {K : PySem.W.Frag} {x q : Str} {st : Stmt} {f : Addr} {fd : FuncData} (F : FunD K x q (defArgs st) (defBody st) (defScope st) [] [] f fd) : Fun K x q st f fd := by
  obtain ⟨oc, od, dV, kV, doc, pm, an, cdv, ct, osl, rfl, lk, hcd, hd, _⟩ := F.ex
  have e1 : dV = .none := by
    rcases hd with ⟨_, e⟩ | ⟨n, _⟩
    · exact e
    · exact absurd rfl n
  subst e1
  exact ⟨⟨oc, od, kV, doc, pm, an, cdv, ct, osl, rfl, lk, hcd⟩, F.kp⟩
theorem df_of {K : PySem.W.Frag} {mg : Str → Option Value} {x : Str} {st : Stmt} {ps : List Str} {f : Addr} {fd : FuncData} (F : FunD K x x (defArgs st) (defBody st) (defScope st) [] [] f fd) (g : mg x = some (.ref f))
    (h : ∀ (kV doc pm : Value) (an : Option Addr) (cdv ct : Value) (us : List Value), us.length = ps.length → bindArgs (PySem.W.fnOf x x (defArgs st) (defBody st) (defScope st) .none kV doc pm an cdv ct) ⟨us, []⟩ = pure (ps.zip us)) : ∃ T : Df K mg x st ps, T.f = f ∧ T.fd = fd :=
  ⟨⟨f, fd, fun_ofD F, (fun_ofD F).binds h, g⟩, rfl, rfl⟩
/-- the last step, as walkG, the facts told with their place -/
theorem walkL {l : PySem.W.OpenLaw} {n k : Nat} {q : Program} {loose : List Str} {XP : (Str → Option Value) → Heap → Prop} {YP : World → Heap → Prop} {d : DefRec} {x : Str} (quiet : importsNone q = true) (most : l.most = some n)
    (small : n ≤ sizeLine) (nodef : d.params.defaults = []) (room : Room k callerA)
    (F : ∀ (w : World) (mg : Str → Option Value) (fa : Addr) (h : Heap), YP w h → h.Ns mainGlobals mg → mg d.name = some (.ref fa) → ∃ (K : PySem.W.Frag) (fd : FuncData) (sp : Sp), K.In h ∧ (∀ (s : Shared) (u : Value), BindsTo s fd ⟨[u], []⟩ [(x, u)]) ∧
      (∀ base : Heap, K.In base → base.Ns mainGlobals mg → base.NoSeer → FnG l.prog w K mg base k fa fd [x] sp) ∧
      ∀ (H : Hp) (a : Addr) (ns : List Int), ns.length ≤ n → (∀ z ∈ ns, Builtin.Int.intBits z ≤ 1048576) → Only H → SqL K H a (ns.map V.int) → sp [.ref a] H (fun v _ => v = .bl true) E0) :
    PySem.W.WalkO q loose XP YP l.row.toRowW d [] (fun f vs => PySem.call f vs) := by
  refine Att.attach_callB most nodef ?_
  intro w _ s mg mb fa _ _ _ _ a vs ns G Y _ _ _ at_ obj hin len bits noG
  obtain ⟨K, fd, sp, inK, bd, ok, want⟩ := F w mg fa _ Y G.T.g at_
  exact head_call inK G.T.g G.T.b G.T.builtins G.T.nolimit noG obj hin (Nat.le_trans len small) room (G.T.seer quiet) ok bd fun H o sc => want H a ns len bits o sc
end B
namespace B
open PySem PySem.Spec PyProof.Rows L2
abbrev AlM : Type := AlL × List (Option (List (Option (Str × Int))))
def obsM (ns cs : List Str) (fa : List He.Fa) (fn : List He.DefD) (lf : List LtF) (ts : List (Str × List Str)) (g : Addr → Option Obj) : AlM := (obsK fa fn lf (He.frG g (asL g ns cs)), ts.map fun t : Str × List Str => He.dicW (He.frG g (asL g ns cs)) (He.ga (He.frG g (asL g ns cs)) t.1))
structure SaysM (fa : List He.Fa) (fn : List He.DefD) (lf : List LtF) (ts : List (Str × List Str)) (w : World) (K : PySem.W.Frag) : Prop where
  l : SaysL fa fn lf K
  t : (ts.map fun t : Str × List Str => He.dicW K (He.ga K t.1)) = ts.map fun t : Str × List Str => some (He.keysIn w.params t.2)
theorem SaysM.tab {fa : List He.Fa} {fn : List He.DefD} {lf : List LtF} {ts : List (Str × List Str)} {w : World} {K : PySem.W.Frag} (c : SaysM fa fn lf ts w K) (i : Nat) {t : Str × List Str} (h : ts[i]? = some t := by rfl) : ∃ es n, KDict K w (He.ga K t.1) es n := by
  have e2 : (ts.map fun t : Str × List Str => He.dicW K (He.ga K t.1))[i]? = (ts.map fun t : Str × List Str => some (He.keysIn w.params t.2))[i]? := by rw [c.t]
  rw [List.getElem?_map, List.getElem?_map, h] at e2
  exact He.dicW_ok (Option.some.inj e2)
def hookM (ns cs : List Str) (fa : List He.Fa) (fn : List He.DefD) (lf : List LtF) (ts : List (Str × List Str)) : PySem.W.Hook where
  α := AlM
  obs := fun s => obsM ns cs fa fn lf ts s.heap.get?
  val := fun w => ((He.valD fn, true), ts.map fun t : Str × List Str => some (He.keysIn w.params t.2))
  says := fun w h => ∃ K : PySem.W.Frag, K.In h ∧ SaysM fa fn lf ts w K
  of := fun _ _ e => ⟨_, He.frG_in, ⟨congrArg (fun z : AlM => z.1.1) e, congrArg (fun z : AlM => z.1.2) e⟩, congrArg (fun z : AlM => z.2) e⟩
  keeps := fun _ _ _ ⟨K, hK, c⟩ k => ⟨K, PySem.W.Frag.In.keeps hK k, c⟩
theorem obsM_eq {ns cs : List Str} {fa : List He.Fa} {fn : List He.DefD} {lf : List LtF} {ts : List (Str × List Str)} {g : Addr → Option Obj} {s : Shared} (h : ∀ a, g a = s.heap.get? a) : obsM ns cs fa fn lf ts g = (hookM ns cs fa fn lf ts).obs s := by
  have e : g = s.heap.get? := funext h
  rw [e] <;> rfl
theorem tab_ref {K : PySem.W.Frag} {x k y : Str} {kvs : List (Str × He.Dv)} {f : Addr} (c : (LtF.tab x kvs).ok K = true) (h : (k, He.Dv.glo y) ∈ kvs) (e : f = He.ga K y) : ∃ u, PySem.W.nsIn K (He.ga K x) k = some (some u) ∧ RelV (.ref f) u := by
  subst e
  exact He.valsB_ok c h
theorem tab_int {K : PySem.W.Frag} {x k : Str} {i : Int} {kvs : List (Str × He.Dv)} (c : (LtF.tab x kvs).ok K = true) (h : (k, He.Dv.int i) ∈ kvs) : ∃ u, PySem.W.nsIn K (He.ga K x) k = some (some u) ∧ RelV (.int i) u := He.valsB_ok c h
def fixW (w : World) (row : String) (b : Bool) : World := { w with params := { w.params with followText := fun r => match decide (r = row) with | true => b | false => w.params.followText r } }
theorem fixW_eq {w : World} {row : String} {b : Bool} (h : w.params.followText row = b) : fixW w row b = w := by
  have e : (fun r => match decide (r = row) with | true => b | false => w.params.followText r) = w.params.followText := by
    funext r
    by_cases k : r = row
    · rw [decide_eq_true k, k, h]
    · rw [decide_eq_false k]
  unfold fixW
  rw [e]
theorem join3 {α β γ δ : Type} {o : Option α} {f : α → β} {g : α → γ} {h : α → δ} {x : β} {y : γ} {z : δ} (a : o.map f = some x) (b : o.map g = some y) (c : o.map h = some z) : o.map (fun s => (f s, g s, h s)) = some (x, y, z) := by
  cases o with
  | none => cases a
  | some s =>
    cases a
    cases b
    cases c
    rfl
end B
namespace B
open PySem PySem.Spec PyProof.Rows L2
def topS (i : Nat) : Stmt := PySem.Challenge.pw_betstall_k73_parted_and_netted.main.body.getD i (.Pass ⟨0, 0, 0, 0⟩)
abbrev s_is_number : Stmt := topS 1
abbrev N_is_number : List Str := ["thing"]
theorem sc_is_number : FnScope ["thing"] ["thing"] (defScope s_is_number) := ⟨rfl, rfl, rfl, by decide +kernel, rfl, by decide +kernel, by decide +kernel⟩
abbrev s_is_row : Stmt := topS 2
abbrev N_is_row : List Str := ["thing", "least", "most"]
theorem sc_is_row : FnScope ["thing", "least", "most"] ["thing", "least", "most"] (defScope s_is_row) := ⟨rfl, rfl, rfl, by decide +kernel, rfl, by decide +kernel, by decide +kernel⟩
abbrev s_common : Stmt := topS 6
abbrev N_common : List Str := ["one", "other"]
theorem sc_common : FnScope ["one", "other"] ["one", "other"] (defScope s_common) := ⟨rfl, rfl, rfl, by decide +kernel, rfl, by decide +kernel, by decide +kernel⟩
abbrev s_plus : Stmt := topS 8
abbrev N_plus : List Str := ["one", "other", "top", "bottom", "other_top", "other_bottom", "shared", "rest", "total", "left"]
theorem sc_plus : FnScope ["one", "other", "top", "bottom", "other_top", "other_bottom", "shared", "rest", "total", "left"] ["one", "other"] (defScope s_plus) := ⟨rfl, rfl, rfl, by decide +kernel, rfl, by decide +kernel, by decide +kernel⟩
abbrev s_turned_about : Stmt := topS 10
abbrev N_turned_about : List Str := ["one"]
theorem sc_turned_about : FnScope ["one"] ["one"] (defScope s_turned_about) := ⟨rfl, rfl, rfl, by decide +kernel, rfl, by decide +kernel, by decide +kernel⟩
abbrev s_minus : Stmt := topS 11
abbrev N_minus : List Str := ["one", "other"]
theorem sc_minus : FnScope ["one", "other"] ["one", "other"] (defScope s_minus) := ⟨rfl, rfl, rfl, by decide +kernel, rfl, by decide +kernel, by decide +kernel⟩
abbrev s_less : Stmt := topS 13
abbrev N_less : List Str := ["one", "other"]
theorem sc_less : FnScope ["one", "other"] ["one", "other"] (defScope s_less) := ⟨rfl, rfl, rfl, by decide +kernel, rfl, by decide +kernel, by decide +kernel⟩
abbrev s_is_fraction : Stmt := topS 14
abbrev N_is_fraction : List Str := ["thing", "top", "bottom"]
theorem sc_is_fraction : FnScope ["thing", "top", "bottom"] ["thing"] (defScope s_is_fraction) := ⟨rfl, rfl, rfl, by decide +kernel, rfl, by decide +kernel, by decide +kernel⟩
abbrev s_is_above_zero : Stmt := topS 58
abbrev N_is_above_zero : List Str := ["thing"]
theorem sc_is_above_zero : FnScope ["thing"] ["thing"] (defScope s_is_above_zero) := ⟨rfl, rfl, rfl, by decide +kernel, rfl, by decide +kernel, by decide +kernel⟩
abbrev s_with_stake : Stmt := topS 61
abbrev N_with_stake : List Str := ["ticket", "stake"]
theorem sc_with_stake : FnScope ["ticket", "stake"] ["ticket", "stake"] (defScope s_with_stake) := ⟨rfl, rfl, rfl, by decide +kernel, rfl, by decide +kernel, by decide +kernel⟩
abbrev s_ticket_of : Stmt := topS 62
abbrev N_ticket_of : List Str := ["tickets", "number", "ticket"]
theorem sc_ticket_of : FnScope ["tickets", "number", "ticket"] ["tickets", "number"] (defScope s_ticket_of) := ⟨rfl, rfl, rfl, by decide +kernel, rfl, by decide +kernel, by decide +kernel⟩
abbrev s_without : Stmt := topS 63
abbrev N_without : List Str := ["tickets", "gone", "ticket"]
theorem sc_without : FnScope ["tickets", "gone", "ticket"] ["tickets", "gone"] (defScope s_without) := ⟨rfl, rfl, rfl, by decide +kernel, rfl, by decide +kernel, by decide +kernel⟩
abbrev s_exchanged : Stmt := topS 64
abbrev N_exchanged : List Str := ["tickets", "new", "ticket"]
theorem sc_exchanged : FnScope ["tickets", "new", "ticket"] ["tickets", "new"] (defScope s_exchanged) := ⟨rfl, rfl, rfl, by decide +kernel, rfl, by decide +kernel, by decide +kernel⟩
abbrev s_rest_of : Stmt := topS 66
abbrev N_rest_of : List Str := ["lesser", "greater", "stake", "other"]
theorem sc_rest_of : FnScope ["lesser", "greater", "stake", "other"] ["lesser", "greater"] (defScope s_rest_of) := ⟨rfl, rfl, rfl, by decide +kernel, rfl, by decide +kernel, by decide +kernel⟩
abbrev s_few_enough : Stmt := topS 108
abbrev N_few_enough : List Str := ["tickets"]
theorem sc_few_enough : FnScope ["tickets"] ["tickets"] (defScope s_few_enough) := ⟨rfl, rfl, rfl, by decide +kernel, rfl, by decide +kernel, by decide +kernel⟩
abbrev s_standing : Stmt := topS 109
abbrev N_standing : List Str := ["stand", "number", "ticket"]
theorem sc_standing : FnScope ["stand", "number", "ticket"] ["stand", "number"] (defScope s_standing) := ⟨rfl, rfl, rfl, by decide +kernel, rfl, by decide +kernel, by decide +kernel⟩
abbrev s_dealt : Stmt := topS 112
abbrev N_dealt : List Str := ["stand", "parts", "long", "short", "bet", "price", "stake"]
theorem sc_dealt : FnScope ["stand", "parts", "long", "short", "bet", "price", "stake"] ["stand", "parts"] (defScope s_dealt) := ⟨rfl, rfl, rfl, by decide +kernel, rfl, by decide +kernel, by decide +kernel⟩
abbrev s_parted : Stmt := topS 113
abbrev N_parted : List Str := ["stand", "parts", "number", "stake", "house", "purses", "tickets", "lists", "many", "ticket", "rest", "new"]
theorem sc_parted : FnScope ["stand", "parts", "number", "stake", "house", "purses", "tickets", "lists", "many", "ticket", "rest", "new"] ["stand", "parts"] (defScope s_parted) := ⟨rfl, rfl, rfl, by decide +kernel, rfl, by decide +kernel, by decide +kernel⟩
abbrev s_handed : Stmt := topS 115
abbrev N_handed : List Str := ["stand", "parts", "number", "holder", "to", "fee", "house", "purses", "tickets", "lists", "many", "ticket", "paid"]
theorem sc_handed : FnScope ["stand", "parts", "number", "holder", "to", "fee", "house", "purses", "tickets", "lists", "many", "ticket", "paid"] ["stand", "parts"] (defScope s_handed) := ⟨rfl, rfl, rfl, by decide +kernel, rfl, by decide +kernel, by decide +kernel⟩
abbrev s_netted : Stmt := topS 116
abbrev N_netted : List Str := ["stand", "parts", "one", "other", "house", "purses", "tickets", "lists", "many", "ticket", "further", "left", "rest"]
theorem sc_netted : FnScope ["stand", "parts", "one", "other", "house", "purses", "tickets", "lists", "many", "ticket", "further", "left", "rest"] ["stand", "parts"] (defScope s_netted) := ⟨rfl, rfl, rfl, by decide +kernel, rfl, by decide +kernel, by decide +kernel⟩
abbrev s_cleared : Stmt := topS 117
abbrev N_cleared : List Str := ["stand", "parts", "house", "purses", "tickets", "lists", "many", "bet", "price", "ticket", "gone", "rows", "at", "long", "short", "stake", "new", "left"]
theorem sc_cleared : FnScope ["stand", "parts", "house", "purses", "tickets", "lists", "many", "bet", "price", "ticket", "gone", "rows", "at", "long", "short", "stake", "new", "left"] ["stand", "parts"] (defScope s_cleared) := ⟨rfl, rfl, rfl, by decide +kernel, rfl, by decide +kernel, by decide +kernel⟩
abbrev s_posted : Stmt := topS 118
abbrev N_posted : List Str := ["stand", "parts", "holder", "bids", "house", "purses", "tickets", "lists", "many"]
theorem sc_posted : FnScope ["stand", "parts", "holder", "bids", "house", "purses", "tickets", "lists", "many"] ["stand", "parts"] (defScope s_posted) := ⟨rfl, rfl, rfl, by decide +kernel, rfl, by decide +kernel, by decide +kernel⟩
abbrev s_sold : Stmt := topS 119
abbrev N_sold : List Str := ["stand", "parts", "seller", "holder", "place", "stake", "lists", "bet", "price"]
theorem sc_sold : FnScope ["stand", "parts", "seller", "holder", "place", "stake", "lists", "bet", "price"] ["stand", "parts"] (defScope s_sold) := ⟨rfl, rfl, rfl, by decide +kernel, rfl, by decide +kernel, by decide +kernel⟩
abbrev s_heard : Stmt := topS 121
abbrev N_heard : List Str := ["stand", "parts", "saying", "house", "purses", "tickets", "lists", "many", "bids", "fair", "behind", "gains", "rows", "gone", "left"]
theorem sc_heard : FnScope ["stand", "parts", "saying", "house", "purses", "tickets", "lists", "many", "bids", "fair", "behind", "gains", "rows", "gone", "left"] ["stand", "parts"] (defScope s_heard) := ⟨rfl, rfl, rfl, by decide +kernel, rfl, by decide +kernel, by decide +kernel⟩
abbrev s_is_deed : Stmt := topS 124
abbrev N_is_deed : List Str := ["thing"]
theorem sc_is_deed : FnScope ["thing"] ["thing"] (defScope s_is_deed) := ⟨rfl, rfl, rfl, by decide +kernel, rfl, by decide +kernel, by decide +kernel⟩
abbrev s_done : Stmt := topS 125
abbrev N_done : List Str := ["stand", "deed", "action"]
theorem sc_done : FnScope ["stand", "deed", "action"] ["stand", "deed"] (defScope s_done) := ⟨rfl, rfl, rfl, by decide +kernel, rfl, by decide +kernel, by decide +kernel⟩
abbrev s_l_draws : Stmt := topS 127
abbrev N_l_draws : List Str := ["_law_script", "_law_cells", "_law_cell"]
theorem sc_l_draws : FnScope ["_law_script", "_law_cells", "_law_cell"] ["_law_script"] (defScope s_l_draws) := ⟨rfl, rfl, rfl, by decide +kernel, rfl, by decide +kernel, by decide +kernel⟩
abbrev s_l_next : Stmt := topS 128
abbrev N_l_next : List Str := ["_law_drawn", "_law_many", "_law_cells", "_law_count", "_law_rests", "_law_at", "_law_digit", "_law_primes", "_law_mixed", "_law_more"]
theorem sc_l_next : FnScope ["_law_drawn", "_law_many", "_law_cells", "_law_count", "_law_rests", "_law_at", "_law_digit", "_law_primes", "_law_mixed", "_law_more"] ["_law_drawn", "_law_many"] (defScope s_l_next) := ⟨rfl, rfl, rfl, by decide +kernel, rfl, by decide +kernel, by decide +kernel⟩
abbrev s_l_whole : Stmt := topS 129
abbrev N_l_whole : List Str := ["_law_thing"]
theorem sc_l_whole : FnScope ["_law_thing"] ["_law_thing"] (defScope s_l_whole) := ⟨rfl, rfl, rfl, by decide +kernel, rfl, by decide +kernel, by decide +kernel⟩
abbrev s_l_lowest : Stmt := topS 130
abbrev N_l_lowest : List Str := ["_law_top", "_law_bottom", "_law_one", "_law_other"]
theorem sc_l_lowest : FnScope ["_law_top", "_law_bottom", "_law_one", "_law_other"] ["_law_top", "_law_bottom"] (defScope s_l_lowest) := ⟨rfl, rfl, rfl, by decide +kernel, rfl, by decide +kernel, by decide +kernel⟩
abbrev s_l_plus : Stmt := topS 131
abbrev N_l_plus : List Str := ["_law_one", "_law_other"]
theorem sc_l_plus : FnScope ["_law_one", "_law_other"] ["_law_one", "_law_other"] (defScope s_l_plus) := ⟨rfl, rfl, rfl, by decide +kernel, rfl, by decide +kernel, by decide +kernel⟩
abbrev s_l_times : Stmt := topS 132
abbrev N_l_times : List Str := ["_law_one", "_law_other"]
theorem sc_l_times : FnScope ["_law_one", "_law_other"] ["_law_one", "_law_other"] (defScope s_l_times) := ⟨rfl, rfl, rfl, by decide +kernel, rfl, by decide +kernel, by decide +kernel⟩
abbrev s_l_less : Stmt := topS 133
abbrev N_l_less : List Str := ["_law_one", "_law_other"]
theorem sc_l_less : FnScope ["_law_one", "_law_other"] ["_law_one", "_law_other"] (defScope s_l_less) := ⟨rfl, rfl, rfl, by decide +kernel, rfl, by decide +kernel, by decide +kernel⟩
abbrev s_l_holds : Stmt := topS 134
abbrev N_l_holds : List Str := ["_law_letters", "_law_saying", "_law_world", "_law_heap", "_law_word"]
theorem sc_l_holds : FnScope ["_law_letters", "_law_saying", "_law_world", "_law_heap", "_law_word"] ["_law_letters", "_law_saying", "_law_world"] (defScope s_l_holds) := ⟨rfl, rfl, rfl, by decide +kernel, rfl, by decide +kernel, by decide +kernel⟩
abbrev s_l_worlds : Stmt := topS 135
abbrev N_l_worlds : List Str := ["_law_house", "_law_letters", "_law_rules", "_law_found", "_law_number", "_law_world", "_law_rest", "_law_place_here", "_law_rule"]
theorem sc_l_worlds : FnScope ["_law_house", "_law_letters", "_law_rules", "_law_found", "_law_number", "_law_world", "_law_rest", "_law_place_here", "_law_rule"] ["_law_house"] (defScope s_l_worlds) := ⟨rfl, rfl, rfl, by decide +kernel, rfl, by decide +kernel, by decide +kernel⟩
abbrev s_l_paid : Stmt := topS 136
abbrev N_l_paid : List Str := ["_law_letters", "_law_bet", "_law_world", "_law_total", "_law_amount", "_law_saying"]
theorem sc_l_paid : FnScope ["_law_letters", "_law_bet", "_law_world", "_law_total", "_law_amount", "_law_saying"] ["_law_letters", "_law_bet", "_law_world"] (defScope s_l_paid) := ⟨rfl, rfl, rfl, by decide +kernel, rfl, by decide +kernel, by decide +kernel⟩
abbrev s_l_table : Stmt := topS 137
abbrev N_l_table : List Str := ["_law_house", "_law_bet", "_law_world"]
theorem sc_l_table : FnScope ["_law_house", "_law_bet", "_law_world"] ["_law_house", "_law_bet"] (defScope s_l_table) := ⟨rfl, rfl, rfl, by decide +kernel, rfl, by decide +kernel, by decide +kernel⟩
abbrev s_l_turned : Stmt := topS 138
abbrev N_l_turned : List Str := ["_law_one"]
theorem sc_l_turned : FnScope ["_law_one"] ["_law_one"] (defScope s_l_turned) := ⟨rfl, rfl, rfl, by decide +kernel, rfl, by decide +kernel, by decide +kernel⟩
abbrev s_l_just : Stmt := topS 139
abbrev N_l_just : List Str := ["_law_thing", "_law_due", "_law_one", "_law_other"]
theorem sc_l_just : FnScope ["_law_thing", "_law_due", "_law_one", "_law_other"] ["_law_thing", "_law_due"] (defScope s_l_just) := ⟨rfl, rfl, rfl, by decide +kernel, rfl, by decide +kernel, by decide +kernel⟩
abbrev s_l_brings : Stmt := topS 140
abbrev N_l_brings : List Str := ["_law_house", "_law_ticket_here", "_law_found", "_law_paid_here", "_law_more"]
theorem sc_l_brings : FnScope ["_law_house", "_law_ticket_here", "_law_found", "_law_paid_here", "_law_more"] ["_law_house", "_law_ticket_here"] (defScope s_l_brings) := ⟨rfl, rfl, rfl, by decide +kernel, rfl, by decide +kernel, by decide +kernel⟩
abbrev s_l_worths : Stmt := topS 141
abbrev N_l_worths : List Str := ["_law_stand", "_law_purse", "_law_found", "_law_ticket_here", "_law_at", "_law_more"]
theorem sc_l_worths : FnScope ["_law_stand", "_law_purse", "_law_found", "_law_ticket_here", "_law_at", "_law_more"] ["_law_stand"] (defScope s_l_worths) := ⟨rfl, rfl, rfl, by decide +kernel, rfl, by decide +kernel, by decide +kernel⟩
abbrev s_l_put : Stmt := topS 142
abbrev N_l_put : List Str := ["_law_row", "_law_at", "_law_thing"]
theorem sc_l_put : FnScope ["_law_row", "_law_at", "_law_thing"] ["_law_row", "_law_at", "_law_thing"] (defScope s_l_put) := ⟨rfl, rfl, rfl, by decide +kernel, rfl, by decide +kernel, by decide +kernel⟩
abbrev s_l_least : Stmt := topS 143
abbrev N_l_least : List Str := ["_law_row", "_law_best", "_law_at"]
theorem sc_l_least : FnScope ["_law_row", "_law_best", "_law_at"] ["_law_row"] (defScope s_l_least) := ⟨rfl, rfl, rfl, by decide +kernel, rfl, by decide +kernel, by decide +kernel⟩
abbrev s_l_stake : Stmt := topS 144
abbrev N_l_stake : List Str := ["_law_drawn"]
theorem sc_l_stake : FnScope ["_law_drawn"] ["_law_drawn"] (defScope s_l_stake) := ⟨rfl, rfl, rfl, by decide +kernel, rfl, by decide +kernel, by decide +kernel⟩
abbrev s_l_place : Stmt := topS 145
abbrev N_l_place : List Str := ["_law_drawn", "_law_letters", "_law_rules"]
theorem sc_l_place : FnScope ["_law_drawn", "_law_letters", "_law_rules"] ["_law_drawn"] (defScope s_l_place) := ⟨rfl, rfl, rfl, by decide +kernel, rfl, by decide +kernel, by decide +kernel⟩
abbrev s_l_simple : Stmt := topS 146
abbrev N_l_simple : List Str := ["_law_drawn", "_law_letters", "_law_one", "_law_other", "_law_some"]
theorem sc_l_simple : FnScope ["_law_drawn", "_law_letters", "_law_one", "_law_other", "_law_some"] ["_law_drawn", "_law_letters"] (defScope s_l_simple) := ⟨rfl, rfl, rfl, by decide +kernel, rfl, by decide +kernel, by decide +kernel⟩
abbrev s_l_wager : Stmt := topS 147
abbrev N_l_wager : List Str := ["_law_drawn", "_law_house", "_law_some", "_law_terms", "_law_k", "_law_bet", "_law_paid_here"]
theorem sc_l_wager : FnScope ["_law_drawn", "_law_house", "_law_some", "_law_terms", "_law_k", "_law_bet", "_law_paid_here"] ["_law_drawn", "_law_house"] (defScope s_l_wager) := ⟨rfl, rfl, rfl, by decide +kernel, rfl, by decide +kernel, by decide +kernel⟩
abbrev s_l_cost : Stmt := topS 148
abbrev N_l_cost : List Str := ["_law_drawn", "_law_table_here", "_law_one", "_law_some"]
theorem sc_l_cost : FnScope ["_law_drawn", "_law_table_here", "_law_one", "_law_some"] ["_law_drawn", "_law_table_here"] (defScope s_l_cost) := ⟨rfl, rfl, rfl, by decide +kernel, rfl, by decide +kernel, by decide +kernel⟩
abbrev s_l_offers : Stmt := topS 149
abbrev N_l_offers : List Str := ["_law_drawn", "_law_house", "_law_many", "_law_found", "_law_k", "_law_bet"]
theorem sc_l_offers : FnScope ["_law_drawn", "_law_house", "_law_many", "_law_found", "_law_k", "_law_bet"] ["_law_drawn", "_law_house", "_law_many"] (defScope s_l_offers) := ⟨rfl, rfl, rfl, by decide +kernel, rfl, by decide +kernel, by decide +kernel⟩
abbrev s_l_ticket : Stmt := topS 150
abbrev N_l_ticket : List Str := ["_law_drawn", "_law_house", "_law_holders", "_law_number", "_law_long", "_law_short", "_law_bet"]
theorem sc_l_ticket : FnScope ["_law_drawn", "_law_house", "_law_holders", "_law_number", "_law_long", "_law_short", "_law_bet"] ["_law_drawn", "_law_house", "_law_holders", "_law_number"] (defScope s_l_ticket) := ⟨rfl, rfl, rfl, by decide +kernel, rfl, by decide +kernel, by decide +kernel⟩
abbrev s_l_tickets : Stmt := topS 151
abbrev N_l_tickets : List Str := ["_law_drawn", "_law_house", "_law_holders", "_law_many", "_law_found", "_law_number", "_law_k", "_law_ticket_here"]
theorem sc_l_tickets : FnScope ["_law_drawn", "_law_house", "_law_holders", "_law_many", "_law_found", "_law_number", "_law_k", "_law_ticket_here"] ["_law_drawn", "_law_house", "_law_holders", "_law_many"] (defScope s_l_tickets) := ⟨rfl, rfl, rfl, by decide +kernel, rfl, by decide +kernel, by decide +kernel⟩
abbrev s_l_purses : Stmt := topS 152
abbrev N_l_purses : List Str := ["_law_drawn", "_law_house", "_law_holders", "_law_tickets_here", "_law_purses_here", "_law_row", "_law_more"]
theorem sc_l_purses : FnScope ["_law_drawn", "_law_house", "_law_holders", "_law_tickets_here", "_law_purses_here", "_law_row", "_law_more"] ["_law_drawn", "_law_house", "_law_holders", "_law_tickets_here"] (defScope s_l_purses) := ⟨rfl, rfl, rfl, by decide +kernel, rfl, by decide +kernel, by decide +kernel⟩
abbrev s_l_class : Stmt := topS 153
abbrev N_l_class : List Str := ["_law_error", "_law_kinds", "_law_words"]
theorem sc_l_class : FnScope ["_law_error", "_law_kinds", "_law_words"] ["_law_error"] (defScope s_l_class) := ⟨rfl, rfl, rfl, by decide +kernel, rfl, by decide +kernel, by decide +kernel⟩
abbrev s_l_done : Stmt := topS 154
abbrev N_l_done : List Str := ["_law_stand", "_law_deed", "_law_found", "_law_error"]
theorem sc_l_done : FnScope ["_law_stand", "_law_deed", "_law_found", "_law_error"] ["_law_stand", "_law_deed"] (defScope s_l_done) := ⟨rfl, rfl, rfl, by decide +kernel, rfl, by decide +kernel, by decide +kernel⟩
abbrev s_l_is : Stmt := topS 155
abbrev N_l_is : List Str := ["_law_stand", "_law_deed", "_law_told", "_law_behind", "_law_turn"]
theorem sc_l_is : FnScope ["_law_stand", "_law_deed", "_law_told", "_law_behind", "_law_turn"] ["_law_stand", "_law_deed", "_law_told", "_law_behind"] (defScope s_l_is) := ⟨rfl, rfl, rfl, by decide +kernel, rfl, by decide +kernel, by decide +kernel⟩
abbrev s_l_likes : Stmt := topS 156
abbrev N_l_likes : List Str := ["_law_drawn", "_law_tickets_here", "_law_more", "_law_number", "_law_k", "_law_ticket_here", "_law_own", "_law_long", "_law_short", "_law_bet", "_law_price", "_law_stake_here", "_law_size", "_law_sides"]
theorem sc_l_likes : FnScope ["_law_drawn", "_law_tickets_here", "_law_more", "_law_number", "_law_k", "_law_ticket_here", "_law_own", "_law_long", "_law_short", "_law_bet", "_law_price", "_law_stake_here", "_law_size", "_law_sides"] ["_law_drawn", "_law_tickets_here", "_law_more"] (defScope s_l_likes) := ⟨rfl, rfl, rfl, by decide +kernel, rfl, by decide +kernel, by decide +kernel⟩
abbrev s_l_alike_stand : Stmt := topS 157
abbrev N_l_alike_stand : List Str := ["_law_drawn", "_law_house", "_law_holders", "_law_tickets_here", "_law_more", "_law_lists", "_law_many", "_law_purses_here"]
theorem sc_l_alike_stand : FnScope ["_law_drawn", "_law_house", "_law_holders", "_law_tickets_here", "_law_more", "_law_lists", "_law_many", "_law_purses_here"] ["_law_drawn"] (defScope s_l_alike_stand) := ⟨rfl, rfl, rfl, by decide +kernel, rfl, by decide +kernel, by decide +kernel⟩
abbrev s_l_split : Stmt := topS 158
abbrev N_l_split : List Str := ["_law_drawn", "_law_stand", "_law_house", "_law_purses_here", "_law_tickets_here", "_law_lists", "_law_many", "_law_at", "_law_number", "_law_long", "_law_short", "_law_bet", "_law_price", "_law_own", "_law_way", "_law_part", "_law_rest", "_law_due", "_law_left"]
theorem sc_l_split : FnScope ["_law_drawn", "_law_stand", "_law_house", "_law_purses_here", "_law_tickets_here", "_law_lists", "_law_many", "_law_at", "_law_number", "_law_long", "_law_short", "_law_bet", "_law_price", "_law_own", "_law_way", "_law_part", "_law_rest", "_law_due", "_law_left"] ["_law_drawn", "_law_stand"] (defScope s_l_split) := ⟨rfl, rfl, rfl, by decide +kernel, rfl, by decide +kernel, by decide +kernel⟩
abbrev s_l_netted : Stmt := topS 159
abbrev N_l_netted : List Str := ["_law_first", "_law_second"]
theorem sc_l_netted : FnScope ["_law_first", "_law_second"] ["_law_first", "_law_second"] (defScope s_l_netted) := ⟨rfl, rfl, rfl, by decide +kernel, rfl, by decide +kernel, by decide +kernel⟩
abbrev s_l_net : Stmt := topS 160
abbrev N_l_net : List Str := ["_law_drawn", "_law_stand", "_law_house", "_law_purses_here", "_law_tickets_here", "_law_lists", "_law_many", "_law_one", "_law_other", "_law_first", "_law_second", "_law_due", "_law_some", "_law_left"]
theorem sc_l_net : FnScope ["_law_drawn", "_law_stand", "_law_house", "_law_purses_here", "_law_tickets_here", "_law_lists", "_law_many", "_law_one", "_law_other", "_law_first", "_law_second", "_law_due", "_law_some", "_law_left"] ["_law_drawn", "_law_stand"] (defScope s_l_net) := ⟨rfl, rfl, rfl, by decide +kernel, rfl, by decide +kernel, by decide +kernel⟩
abbrev s_law : Stmt := topS 161
abbrev N_law : List Str := ["_law_script", "_law_drawn", "_law_stand", "_law_k", "_law_due", "_law_right"]
theorem sc_law : FnScope ["_law_script", "_law_drawn", "_law_stand", "_law_k", "_law_due", "_law_right"] ["_law_script"] (defScope s_law) := ⟨rfl, rfl, rfl, by decide +kernel, rfl, by decide +kernel, by decide +kernel⟩
set_option genInjectivity false in
set_option genSizeOf false in
structure Tx (K : PySem.W.Frag) (mg : Str → Option Value) (w : World) where
  is_number : Df K mg "is_number" s_is_number ["thing"]
  is_row : Df K mg "is_row" s_is_row ["thing", "least", "most"]
  common : Df K mg "common" s_common ["one", "other"]
  plus : Df K mg "plus" s_plus ["one", "other"]
  turned_about : Df K mg "turned_about" s_turned_about ["one"]
  minus : Df K mg "minus" s_minus ["one", "other"]
  less : Df K mg "less" s_less ["one", "other"]
  is_fraction : Df K mg "is_fraction" s_is_fraction ["thing"]
  is_above_zero : Df K mg "is_above_zero" s_is_above_zero ["thing"]
  with_stake : Df K mg "with_stake" s_with_stake ["ticket", "stake"]
  ticket_of : Df K mg "ticket_of" s_ticket_of ["tickets", "number"]
  without : Df K mg "without" s_without ["tickets", "gone"]
  exchanged : Df K mg "exchanged" s_exchanged ["tickets", "new"]
  rest_of : Df K mg "rest_of" s_rest_of ["lesser", "greater"]
  few_enough : Df K mg "few_enough" s_few_enough ["tickets"]
  standing : Df K mg "standing" s_standing ["stand", "number"]
  dealt : Df K mg "dealt" s_dealt ["stand", "parts"]
  parted : Df K mg "parted" s_parted ["stand", "parts"]
  handed : Df K mg "handed" s_handed ["stand", "parts"]
  netted : Df K mg "netted" s_netted ["stand", "parts"]
  cleared : Df K mg "cleared" s_cleared ["stand", "parts"]
  posted : Df K mg "posted" s_posted ["stand", "parts"]
  sold : Df K mg "sold" s_sold ["stand", "parts"]
  heard : Df K mg "heard" s_heard ["stand", "parts"]
  is_deed : Df K mg "is_deed" s_is_deed ["thing"]
  done : Df K mg "done" s_done ["stand", "deed"]
  l_draws : Df K mg "_law_draws" s_l_draws ["_law_script"]
  l_next : Df K mg "_law_next" s_l_next ["_law_drawn", "_law_many"]
  l_whole : Df K mg "_law_whole" s_l_whole ["_law_thing"]
  l_lowest : Df K mg "_law_lowest" s_l_lowest ["_law_top", "_law_bottom"]
  l_plus : Df K mg "_law_plus" s_l_plus ["_law_one", "_law_other"]
  l_times : Df K mg "_law_times" s_l_times ["_law_one", "_law_other"]
  l_less : Df K mg "_law_less" s_l_less ["_law_one", "_law_other"]
  l_holds : Df K mg "_law_holds" s_l_holds ["_law_letters", "_law_saying", "_law_world"]
  l_worlds : Df K mg "_law_worlds" s_l_worlds ["_law_house"]
  l_paid : Df K mg "_law_paid" s_l_paid ["_law_letters", "_law_bet", "_law_world"]
  l_table : Df K mg "_law_table" s_l_table ["_law_house", "_law_bet"]
  l_turned : Df K mg "_law_turned" s_l_turned ["_law_one"]
  l_just : Df K mg "_law_just" s_l_just ["_law_thing", "_law_due"]
  l_brings : Df K mg "_law_brings" s_l_brings ["_law_house", "_law_ticket_here"]
  l_worths : Df K mg "_law_worths" s_l_worths ["_law_stand"]
  l_put : Df K mg "_law_put" s_l_put ["_law_row", "_law_at", "_law_thing"]
  l_least : Df K mg "_law_least" s_l_least ["_law_row"]
  l_stake : Df K mg "_law_stake" s_l_stake ["_law_drawn"]
  l_place : Df K mg "_law_place" s_l_place ["_law_drawn"]
  l_simple : Df K mg "_law_simple" s_l_simple ["_law_drawn", "_law_letters"]
  l_wager : Df K mg "_law_wager" s_l_wager ["_law_drawn", "_law_house"]
  l_cost : Df K mg "_law_cost" s_l_cost ["_law_drawn", "_law_table_here"]
  l_offers : Df K mg "_law_offers" s_l_offers ["_law_drawn", "_law_house", "_law_many"]
  l_ticket : Df K mg "_law_ticket" s_l_ticket ["_law_drawn", "_law_house", "_law_holders", "_law_number"]
  l_tickets : Df K mg "_law_tickets" s_l_tickets ["_law_drawn", "_law_house", "_law_holders", "_law_many"]
  l_purses : Df K mg "_law_purses" s_l_purses ["_law_drawn", "_law_house", "_law_holders", "_law_tickets_here"]
  l_class : Df K mg "_law_class" s_l_class ["_law_error"]
  l_done : Df K mg "_law_done" s_l_done ["_law_stand", "_law_deed"]
  l_is : Df K mg "_law_is" s_l_is ["_law_stand", "_law_deed", "_law_told", "_law_behind"]
  l_likes : Df K mg "_law_likes" s_l_likes ["_law_drawn", "_law_tickets_here", "_law_more"]
  l_alike_stand : Df K mg "_law_alike_stand" s_l_alike_stand ["_law_drawn"]
  l_split : Df K mg "_law_split" s_l_split ["_law_drawn", "_law_stand"]
  l_netted : Df K mg "_law_netted" s_l_netted ["_law_first", "_law_second"]
  l_net : Df K mg "_law_net" s_l_net ["_law_drawn", "_law_stand"]
  law : Df K mg "law" s_law ["_law_script"]
  m_ValueError : mg "ValueError" = none
  m_abs : mg "abs" = none
  m_bool : mg "bool" = none
  m_enumerate : mg "enumerate" = none
  m_int : mg "int" = none
  m_isinstance : mg "isinstance" = none
  m_len : mg "len" = none
  m_list : mg "list" = none
  m_max : mg "max" = none
  m_min : mg "min" = none
  m_range : mg "range" = none
  m_sorted : mg "sorted" = none
  m_str : mg "str" = none
  m_tuple : mg "tuple" = none
  m_zip : mg "zip" = none
  t_MOST_TICKETS : Tok
  g_MOST_TICKETS : mg "MOST_TICKETS" = some (.int 12 t_MOST_TICKETS)
  a_PARTS : Addr
  g_PARTS : mg "PARTS" = some (.ref a_PARTS)
  d_PARTS : ∃ es n, KDict K w a_PARTS es n
  v_PARTS : ∀ p ∈ ([("deal", 5), ("split", 2), ("hand", 4), ("net", 2), ("clear", 1), ("post", 2), ("sell", 4), ("hear", 1)] : List (Str × Int)), ∃ u, PySem.W.nsIn K a_PARTS p.1 = some (some u) ∧ RelV (.int p.2) u
  a_ACTIONS : Addr
  g_ACTIONS : mg "ACTIONS" = some (.ref a_ACTIONS)
  d_ACTIONS : ∃ es n, KDict K w a_ACTIONS es n
  v_ACTIONS : ∀ p ∈ ([("deal", dealt.f), ("split", parted.f), ("hand", handed.f), ("net", netted.f), ("clear", cleared.f), ("post", posted.f), ("sell", sold.f), ("hear", heard.f)] : List (Str × Addr)), ∃ u, PySem.W.nsIn K a_ACTIONS p.1 = some (some u) ∧ RelV (.ref p.2) u
  x_StallError : Xc K mg "StallError"
  x_TooLong : Xc K mg "TooLong"
  x_TooMany : Xc K mg "TooMany"
  x_NoWorld : Xc K mg "NoWorld"
  x_NotAlike : Xc K mg "NotAlike"
  x_Unfair : Xc K mg "Unfair"
  x_Fair : Xc K mg "Fair"
  x_NoBet : Xc K mg "NoBet"
  x_NoHolder : Xc K mg "NoHolder"
  x_NoStake : Xc K mg "NoStake"
  x_NoTicket : Xc K mg "NoTicket"
  x_NoCover : Xc K mg "NoCover"
  x_NoSaying : Xc K mg "NoSaying"
  x_NoDeed : Xc K mg "NoDeed"
  x_NoStep : Xc K mg "NoStep"
  x_NoText : Xc K mg "NoText"
  i_NoBet_StallError : PySem.W.subIn K (.ref x_NoBet.C) (.ref x_StallError.C) = some true
  i_NoBet_TooLong : PySem.W.subIn K (.ref x_NoBet.C) (.ref x_TooLong.C) = some false
  i_NoBet_TooMany : PySem.W.subIn K (.ref x_NoBet.C) (.ref x_TooMany.C) = some false
  i_NoBet_NoWorld : PySem.W.subIn K (.ref x_NoBet.C) (.ref x_NoWorld.C) = some false
  i_NoBet_NotAlike : PySem.W.subIn K (.ref x_NoBet.C) (.ref x_NotAlike.C) = some false
  i_NoBet_Unfair : PySem.W.subIn K (.ref x_NoBet.C) (.ref x_Unfair.C) = some false
  i_NoBet_Fair : PySem.W.subIn K (.ref x_NoBet.C) (.ref x_Fair.C) = some false
  i_NoBet_NoBet : PySem.W.subIn K (.ref x_NoBet.C) (.ref x_NoBet.C) = some true
  i_NoBet_NoHolder : PySem.W.subIn K (.ref x_NoBet.C) (.ref x_NoHolder.C) = some false
  i_NoBet_NoStake : PySem.W.subIn K (.ref x_NoBet.C) (.ref x_NoStake.C) = some false
  i_NoBet_NoTicket : PySem.W.subIn K (.ref x_NoBet.C) (.ref x_NoTicket.C) = some false
  i_NoBet_NoCover : PySem.W.subIn K (.ref x_NoBet.C) (.ref x_NoCover.C) = some false
  i_NoBet_NoSaying : PySem.W.subIn K (.ref x_NoBet.C) (.ref x_NoSaying.C) = some false
  i_NoBet_NoDeed : PySem.W.subIn K (.ref x_NoBet.C) (.ref x_NoDeed.C) = some false
  i_NoBet_NoStep : PySem.W.subIn K (.ref x_NoBet.C) (.ref x_NoStep.C) = some false
  i_NoBet_NoText : PySem.W.subIn K (.ref x_NoBet.C) (.ref x_NoText.C) = some false
  v_NoBet : PySem.W.subIn K (.ref x_NoBet.C) (.type "ValueError") = some true
  i_NoDeed_StallError : PySem.W.subIn K (.ref x_NoDeed.C) (.ref x_StallError.C) = some true
  i_NoDeed_TooLong : PySem.W.subIn K (.ref x_NoDeed.C) (.ref x_TooLong.C) = some false
  i_NoDeed_TooMany : PySem.W.subIn K (.ref x_NoDeed.C) (.ref x_TooMany.C) = some false
  i_NoDeed_NoWorld : PySem.W.subIn K (.ref x_NoDeed.C) (.ref x_NoWorld.C) = some false
  i_NoDeed_NotAlike : PySem.W.subIn K (.ref x_NoDeed.C) (.ref x_NotAlike.C) = some false
  i_NoDeed_Unfair : PySem.W.subIn K (.ref x_NoDeed.C) (.ref x_Unfair.C) = some false
  i_NoDeed_Fair : PySem.W.subIn K (.ref x_NoDeed.C) (.ref x_Fair.C) = some false
  i_NoDeed_NoBet : PySem.W.subIn K (.ref x_NoDeed.C) (.ref x_NoBet.C) = some false
  i_NoDeed_NoHolder : PySem.W.subIn K (.ref x_NoDeed.C) (.ref x_NoHolder.C) = some false
  i_NoDeed_NoStake : PySem.W.subIn K (.ref x_NoDeed.C) (.ref x_NoStake.C) = some false
  i_NoDeed_NoTicket : PySem.W.subIn K (.ref x_NoDeed.C) (.ref x_NoTicket.C) = some false
  i_NoDeed_NoCover : PySem.W.subIn K (.ref x_NoDeed.C) (.ref x_NoCover.C) = some false
  i_NoDeed_NoSaying : PySem.W.subIn K (.ref x_NoDeed.C) (.ref x_NoSaying.C) = some false
  i_NoDeed_NoDeed : PySem.W.subIn K (.ref x_NoDeed.C) (.ref x_NoDeed.C) = some true
  i_NoDeed_NoStep : PySem.W.subIn K (.ref x_NoDeed.C) (.ref x_NoStep.C) = some false
  i_NoDeed_NoText : PySem.W.subIn K (.ref x_NoDeed.C) (.ref x_NoText.C) = some false
  v_NoDeed : PySem.W.subIn K (.ref x_NoDeed.C) (.type "ValueError") = some true
  i_NoHolder_StallError : PySem.W.subIn K (.ref x_NoHolder.C) (.ref x_StallError.C) = some true
  i_NoHolder_TooLong : PySem.W.subIn K (.ref x_NoHolder.C) (.ref x_TooLong.C) = some false
  i_NoHolder_TooMany : PySem.W.subIn K (.ref x_NoHolder.C) (.ref x_TooMany.C) = some false
  i_NoHolder_NoWorld : PySem.W.subIn K (.ref x_NoHolder.C) (.ref x_NoWorld.C) = some false
  i_NoHolder_NotAlike : PySem.W.subIn K (.ref x_NoHolder.C) (.ref x_NotAlike.C) = some false
  i_NoHolder_Unfair : PySem.W.subIn K (.ref x_NoHolder.C) (.ref x_Unfair.C) = some false
  i_NoHolder_Fair : PySem.W.subIn K (.ref x_NoHolder.C) (.ref x_Fair.C) = some false
  i_NoHolder_NoBet : PySem.W.subIn K (.ref x_NoHolder.C) (.ref x_NoBet.C) = some false
  i_NoHolder_NoHolder : PySem.W.subIn K (.ref x_NoHolder.C) (.ref x_NoHolder.C) = some true
  i_NoHolder_NoStake : PySem.W.subIn K (.ref x_NoHolder.C) (.ref x_NoStake.C) = some false
  i_NoHolder_NoTicket : PySem.W.subIn K (.ref x_NoHolder.C) (.ref x_NoTicket.C) = some false
  i_NoHolder_NoCover : PySem.W.subIn K (.ref x_NoHolder.C) (.ref x_NoCover.C) = some false
  i_NoHolder_NoSaying : PySem.W.subIn K (.ref x_NoHolder.C) (.ref x_NoSaying.C) = some false
  i_NoHolder_NoDeed : PySem.W.subIn K (.ref x_NoHolder.C) (.ref x_NoDeed.C) = some false
  i_NoHolder_NoStep : PySem.W.subIn K (.ref x_NoHolder.C) (.ref x_NoStep.C) = some false
  i_NoHolder_NoText : PySem.W.subIn K (.ref x_NoHolder.C) (.ref x_NoText.C) = some false
  v_NoHolder : PySem.W.subIn K (.ref x_NoHolder.C) (.type "ValueError") = some true
  i_NoSaying_StallError : PySem.W.subIn K (.ref x_NoSaying.C) (.ref x_StallError.C) = some true
  i_NoSaying_TooLong : PySem.W.subIn K (.ref x_NoSaying.C) (.ref x_TooLong.C) = some false
  i_NoSaying_TooMany : PySem.W.subIn K (.ref x_NoSaying.C) (.ref x_TooMany.C) = some false
  i_NoSaying_NoWorld : PySem.W.subIn K (.ref x_NoSaying.C) (.ref x_NoWorld.C) = some false
  i_NoSaying_NotAlike : PySem.W.subIn K (.ref x_NoSaying.C) (.ref x_NotAlike.C) = some false
  i_NoSaying_Unfair : PySem.W.subIn K (.ref x_NoSaying.C) (.ref x_Unfair.C) = some false
  i_NoSaying_Fair : PySem.W.subIn K (.ref x_NoSaying.C) (.ref x_Fair.C) = some false
  i_NoSaying_NoBet : PySem.W.subIn K (.ref x_NoSaying.C) (.ref x_NoBet.C) = some false
  i_NoSaying_NoHolder : PySem.W.subIn K (.ref x_NoSaying.C) (.ref x_NoHolder.C) = some false
  i_NoSaying_NoStake : PySem.W.subIn K (.ref x_NoSaying.C) (.ref x_NoStake.C) = some false
  i_NoSaying_NoTicket : PySem.W.subIn K (.ref x_NoSaying.C) (.ref x_NoTicket.C) = some false
  i_NoSaying_NoCover : PySem.W.subIn K (.ref x_NoSaying.C) (.ref x_NoCover.C) = some false
  i_NoSaying_NoSaying : PySem.W.subIn K (.ref x_NoSaying.C) (.ref x_NoSaying.C) = some true
  i_NoSaying_NoDeed : PySem.W.subIn K (.ref x_NoSaying.C) (.ref x_NoDeed.C) = some false
  i_NoSaying_NoStep : PySem.W.subIn K (.ref x_NoSaying.C) (.ref x_NoStep.C) = some false
  i_NoSaying_NoText : PySem.W.subIn K (.ref x_NoSaying.C) (.ref x_NoText.C) = some false
  v_NoSaying : PySem.W.subIn K (.ref x_NoSaying.C) (.type "ValueError") = some true
  i_NoStake_StallError : PySem.W.subIn K (.ref x_NoStake.C) (.ref x_StallError.C) = some true
  i_NoStake_TooLong : PySem.W.subIn K (.ref x_NoStake.C) (.ref x_TooLong.C) = some false
  i_NoStake_TooMany : PySem.W.subIn K (.ref x_NoStake.C) (.ref x_TooMany.C) = some false
  i_NoStake_NoWorld : PySem.W.subIn K (.ref x_NoStake.C) (.ref x_NoWorld.C) = some false
  i_NoStake_NotAlike : PySem.W.subIn K (.ref x_NoStake.C) (.ref x_NotAlike.C) = some false
  i_NoStake_Unfair : PySem.W.subIn K (.ref x_NoStake.C) (.ref x_Unfair.C) = some false
  i_NoStake_Fair : PySem.W.subIn K (.ref x_NoStake.C) (.ref x_Fair.C) = some false
  i_NoStake_NoBet : PySem.W.subIn K (.ref x_NoStake.C) (.ref x_NoBet.C) = some false
  i_NoStake_NoHolder : PySem.W.subIn K (.ref x_NoStake.C) (.ref x_NoHolder.C) = some false
  i_NoStake_NoStake : PySem.W.subIn K (.ref x_NoStake.C) (.ref x_NoStake.C) = some true
  i_NoStake_NoTicket : PySem.W.subIn K (.ref x_NoStake.C) (.ref x_NoTicket.C) = some false
  i_NoStake_NoCover : PySem.W.subIn K (.ref x_NoStake.C) (.ref x_NoCover.C) = some false
  i_NoStake_NoSaying : PySem.W.subIn K (.ref x_NoStake.C) (.ref x_NoSaying.C) = some false
  i_NoStake_NoDeed : PySem.W.subIn K (.ref x_NoStake.C) (.ref x_NoDeed.C) = some false
  i_NoStake_NoStep : PySem.W.subIn K (.ref x_NoStake.C) (.ref x_NoStep.C) = some false
  i_NoStake_NoText : PySem.W.subIn K (.ref x_NoStake.C) (.ref x_NoText.C) = some false
  v_NoStake : PySem.W.subIn K (.ref x_NoStake.C) (.type "ValueError") = some true
  i_NoTicket_StallError : PySem.W.subIn K (.ref x_NoTicket.C) (.ref x_StallError.C) = some true
  i_NoTicket_TooLong : PySem.W.subIn K (.ref x_NoTicket.C) (.ref x_TooLong.C) = some false
  i_NoTicket_TooMany : PySem.W.subIn K (.ref x_NoTicket.C) (.ref x_TooMany.C) = some false
  i_NoTicket_NoWorld : PySem.W.subIn K (.ref x_NoTicket.C) (.ref x_NoWorld.C) = some false
  i_NoTicket_NotAlike : PySem.W.subIn K (.ref x_NoTicket.C) (.ref x_NotAlike.C) = some false
  i_NoTicket_Unfair : PySem.W.subIn K (.ref x_NoTicket.C) (.ref x_Unfair.C) = some false
  i_NoTicket_Fair : PySem.W.subIn K (.ref x_NoTicket.C) (.ref x_Fair.C) = some false
  i_NoTicket_NoBet : PySem.W.subIn K (.ref x_NoTicket.C) (.ref x_NoBet.C) = some false
  i_NoTicket_NoHolder : PySem.W.subIn K (.ref x_NoTicket.C) (.ref x_NoHolder.C) = some false
  i_NoTicket_NoStake : PySem.W.subIn K (.ref x_NoTicket.C) (.ref x_NoStake.C) = some false
  i_NoTicket_NoTicket : PySem.W.subIn K (.ref x_NoTicket.C) (.ref x_NoTicket.C) = some true
  i_NoTicket_NoCover : PySem.W.subIn K (.ref x_NoTicket.C) (.ref x_NoCover.C) = some false
  i_NoTicket_NoSaying : PySem.W.subIn K (.ref x_NoTicket.C) (.ref x_NoSaying.C) = some false
  i_NoTicket_NoDeed : PySem.W.subIn K (.ref x_NoTicket.C) (.ref x_NoDeed.C) = some false
  i_NoTicket_NoStep : PySem.W.subIn K (.ref x_NoTicket.C) (.ref x_NoStep.C) = some false
  i_NoTicket_NoText : PySem.W.subIn K (.ref x_NoTicket.C) (.ref x_NoText.C) = some false
  v_NoTicket : PySem.W.subIn K (.ref x_NoTicket.C) (.type "ValueError") = some true
  i_NotAlike_StallError : PySem.W.subIn K (.ref x_NotAlike.C) (.ref x_StallError.C) = some true
  i_NotAlike_TooLong : PySem.W.subIn K (.ref x_NotAlike.C) (.ref x_TooLong.C) = some false
  i_NotAlike_TooMany : PySem.W.subIn K (.ref x_NotAlike.C) (.ref x_TooMany.C) = some false
  i_NotAlike_NoWorld : PySem.W.subIn K (.ref x_NotAlike.C) (.ref x_NoWorld.C) = some false
  i_NotAlike_NotAlike : PySem.W.subIn K (.ref x_NotAlike.C) (.ref x_NotAlike.C) = some true
  i_NotAlike_Unfair : PySem.W.subIn K (.ref x_NotAlike.C) (.ref x_Unfair.C) = some false
  i_NotAlike_Fair : PySem.W.subIn K (.ref x_NotAlike.C) (.ref x_Fair.C) = some false
  i_NotAlike_NoBet : PySem.W.subIn K (.ref x_NotAlike.C) (.ref x_NoBet.C) = some false
  i_NotAlike_NoHolder : PySem.W.subIn K (.ref x_NotAlike.C) (.ref x_NoHolder.C) = some false
  i_NotAlike_NoStake : PySem.W.subIn K (.ref x_NotAlike.C) (.ref x_NoStake.C) = some false
  i_NotAlike_NoTicket : PySem.W.subIn K (.ref x_NotAlike.C) (.ref x_NoTicket.C) = some false
  i_NotAlike_NoCover : PySem.W.subIn K (.ref x_NotAlike.C) (.ref x_NoCover.C) = some false
  i_NotAlike_NoSaying : PySem.W.subIn K (.ref x_NotAlike.C) (.ref x_NoSaying.C) = some false
  i_NotAlike_NoDeed : PySem.W.subIn K (.ref x_NotAlike.C) (.ref x_NoDeed.C) = some false
  i_NotAlike_NoStep : PySem.W.subIn K (.ref x_NotAlike.C) (.ref x_NoStep.C) = some false
  i_NotAlike_NoText : PySem.W.subIn K (.ref x_NotAlike.C) (.ref x_NoText.C) = some false
  v_NotAlike : PySem.W.subIn K (.ref x_NotAlike.C) (.type "ValueError") = some true
  i_TooMany_StallError : PySem.W.subIn K (.ref x_TooMany.C) (.ref x_StallError.C) = some true
  i_TooMany_TooLong : PySem.W.subIn K (.ref x_TooMany.C) (.ref x_TooLong.C) = some false
  i_TooMany_TooMany : PySem.W.subIn K (.ref x_TooMany.C) (.ref x_TooMany.C) = some true
  i_TooMany_NoWorld : PySem.W.subIn K (.ref x_TooMany.C) (.ref x_NoWorld.C) = some false
  i_TooMany_NotAlike : PySem.W.subIn K (.ref x_TooMany.C) (.ref x_NotAlike.C) = some false
  i_TooMany_Unfair : PySem.W.subIn K (.ref x_TooMany.C) (.ref x_Unfair.C) = some false
  i_TooMany_Fair : PySem.W.subIn K (.ref x_TooMany.C) (.ref x_Fair.C) = some false
  i_TooMany_NoBet : PySem.W.subIn K (.ref x_TooMany.C) (.ref x_NoBet.C) = some false
  i_TooMany_NoHolder : PySem.W.subIn K (.ref x_TooMany.C) (.ref x_NoHolder.C) = some false
  i_TooMany_NoStake : PySem.W.subIn K (.ref x_TooMany.C) (.ref x_NoStake.C) = some false
  i_TooMany_NoTicket : PySem.W.subIn K (.ref x_TooMany.C) (.ref x_NoTicket.C) = some false
  i_TooMany_NoCover : PySem.W.subIn K (.ref x_TooMany.C) (.ref x_NoCover.C) = some false
  i_TooMany_NoSaying : PySem.W.subIn K (.ref x_TooMany.C) (.ref x_NoSaying.C) = some false
  i_TooMany_NoDeed : PySem.W.subIn K (.ref x_TooMany.C) (.ref x_NoDeed.C) = some false
  i_TooMany_NoStep : PySem.W.subIn K (.ref x_TooMany.C) (.ref x_NoStep.C) = some false
  i_TooMany_NoText : PySem.W.subIn K (.ref x_TooMany.C) (.ref x_NoText.C) = some false
  v_TooMany : PySem.W.subIn K (.ref x_TooMany.C) (.type "ValueError") = some true
end B
namespace B
open PySem PySem.Spec PyProof.Rows L2
def lt_ns0 : List Str := ["is_number", "is_row", "common", "plus", "turned_about", "minus", "less", "is_fraction", "is_above_zero", "with_stake", "ticket_of", "without"]
def lt_ns1 : List Str := ["exchanged", "rest_of", "few_enough", "standing", "dealt", "parted", "handed", "netted", "cleared", "posted", "sold", "heard"]
def lt_ns2 : List Str := ["is_deed", "done", "_law_draws", "_law_next", "_law_whole", "_law_lowest", "_law_plus", "_law_times", "_law_less", "_law_holds", "_law_worlds", "_law_paid"]
def lt_ns3 : List Str := ["_law_table", "_law_turned", "_law_just", "_law_brings", "_law_worths", "_law_put", "_law_least", "_law_stake", "_law_place", "_law_simple", "_law_wager", "_law_cost"]
def lt_ns4 : List Str := ["_law_offers", "_law_ticket", "_law_tickets", "_law_purses", "_law_class", "_law_done", "_law_is", "_law_likes", "_law_alike_stand", "_law_split", "_law_netted", "_law_net"]
def lt_ns5 : List Str := ["law", "PARTS", "ACTIONS"]
def lt_ns : List Str := lt_ns0 ++ lt_ns1 ++ lt_ns2 ++ lt_ns3 ++ lt_ns4 ++ lt_ns5
def lt_cs0 : List Str := ["StallError", "TooLong", "TooMany", "NoWorld", "NotAlike", "Unfair", "Fair", "NoBet", "NoHolder", "NoStake", "NoTicket", "NoCover"]
def lt_cs1 : List Str := ["NoSaying", "NoDeed", "NoStep", "NoText"]
def lt_cs : List Str := lt_cs0 ++ lt_cs1
def lt_fa0 : List He.Fa := [.glo "is_number", .glo "is_row", .glo "common", .glo "plus", .glo "turned_about", .glo "minus", .glo "less", .glo "is_fraction", .glo "is_above_zero", .glo "with_stake", .glo "ticket_of", .glo "without"]
def lt_fa1 : List He.Fa := [.glo "exchanged", .glo "rest_of", .glo "few_enough", .glo "standing", .glo "dealt", .glo "parted", .glo "handed", .glo "netted", .glo "cleared", .glo "posted", .glo "sold", .glo "heard"]
def lt_fa2 : List He.Fa := [.glo "is_deed", .glo "done", .glo "_law_draws", .glo "_law_next", .glo "_law_whole", .glo "_law_lowest", .glo "_law_plus", .glo "_law_times", .glo "_law_less", .glo "_law_holds", .glo "_law_worlds", .glo "_law_paid"]
def lt_fa3 : List He.Fa := [.glo "_law_table", .glo "_law_turned", .glo "_law_just", .glo "_law_brings", .glo "_law_worths", .glo "_law_put", .glo "_law_least", .glo "_law_stake", .glo "_law_place", .glo "_law_simple", .glo "_law_wager", .glo "_law_cost"]
def lt_fa4 : List He.Fa := [.glo "_law_offers", .glo "_law_ticket", .glo "_law_tickets", .glo "_law_purses", .glo "_law_class", .glo "_law_done", .glo "_law_is", .glo "_law_likes", .glo "_law_alike_stand", .glo "_law_split", .glo "_law_netted", .glo "_law_net"]
def lt_fa5 : List He.Fa := [.glo "law", .free "ValueError", .free "abs", .free "bool", .free "enumerate", .free "int", .free "isinstance", .free "len", .free "list", .free "max", .free "min", .free "range"]
def lt_fa6 : List He.Fa := [.free "sorted", .free "str", .free "tuple", .free "zip", .int "MOST_TICKETS" 12, .glo "PARTS", .glo "ACTIONS"]
def lt_fa : List He.Fa := lt_fa0 ++ lt_fa1 ++ lt_fa2 ++ lt_fa3 ++ lt_fa4 ++ lt_fa5 ++ lt_fa6
def lt_fn0 : List He.DefD := [⟨("is_number", none), "is_number", "is_number", defArgs s_is_number, defBody s_is_number, defScope s_is_number, [], []⟩, ⟨("is_row", none), "is_row", "is_row", defArgs s_is_row, defBody s_is_row, defScope s_is_row, [], []⟩, ⟨("common", none), "common", "common", defArgs s_common, defBody s_common, defScope s_common, [], []⟩, ⟨("plus", none), "plus", "plus", defArgs s_plus, defBody s_plus, defScope s_plus, [], []⟩, ⟨("turned_about", none), "turned_about", "turned_about", defArgs s_turned_about, defBody s_turned_about, defScope s_turned_about, [], []⟩, ⟨("minus", none), "minus", "minus", defArgs s_minus, defBody s_minus, defScope s_minus, [], []⟩, ⟨("less", none), "less", "less", defArgs s_less, defBody s_less, defScope s_less, [], []⟩, ⟨("is_fraction", none), "is_fraction", "is_fraction", defArgs s_is_fraction, defBody s_is_fraction, defScope s_is_fraction, [], []⟩, ⟨("is_above_zero", none), "is_above_zero", "is_above_zero", defArgs s_is_above_zero, defBody s_is_above_zero, defScope s_is_above_zero, [], []⟩, ⟨("with_stake", none), "with_stake", "with_stake", defArgs s_with_stake, defBody s_with_stake, defScope s_with_stake, [], []⟩, ⟨("ticket_of", none), "ticket_of", "ticket_of", defArgs s_ticket_of, defBody s_ticket_of, defScope s_ticket_of, [], []⟩, ⟨("without", none), "without", "without", defArgs s_without, defBody s_without, defScope s_without, [], []⟩]
def lt_fn1 : List He.DefD := [⟨("exchanged", none), "exchanged", "exchanged", defArgs s_exchanged, defBody s_exchanged, defScope s_exchanged, [], []⟩, ⟨("rest_of", none), "rest_of", "rest_of", defArgs s_rest_of, defBody s_rest_of, defScope s_rest_of, [], []⟩, ⟨("few_enough", none), "few_enough", "few_enough", defArgs s_few_enough, defBody s_few_enough, defScope s_few_enough, [], []⟩, ⟨("standing", none), "standing", "standing", defArgs s_standing, defBody s_standing, defScope s_standing, [], []⟩, ⟨("dealt", none), "dealt", "dealt", defArgs s_dealt, defBody s_dealt, defScope s_dealt, [], []⟩, ⟨("parted", none), "parted", "parted", defArgs s_parted, defBody s_parted, defScope s_parted, [], []⟩, ⟨("handed", none), "handed", "handed", defArgs s_handed, defBody s_handed, defScope s_handed, [], []⟩, ⟨("netted", none), "netted", "netted", defArgs s_netted, defBody s_netted, defScope s_netted, [], []⟩, ⟨("cleared", none), "cleared", "cleared", defArgs s_cleared, defBody s_cleared, defScope s_cleared, [], []⟩, ⟨("posted", none), "posted", "posted", defArgs s_posted, defBody s_posted, defScope s_posted, [], []⟩, ⟨("sold", none), "sold", "sold", defArgs s_sold, defBody s_sold, defScope s_sold, [], []⟩, ⟨("heard", none), "heard", "heard", defArgs s_heard, defBody s_heard, defScope s_heard, [], []⟩]
def lt_fn2 : List He.DefD := [⟨("is_deed", none), "is_deed", "is_deed", defArgs s_is_deed, defBody s_is_deed, defScope s_is_deed, [], []⟩, ⟨("done", none), "done", "done", defArgs s_done, defBody s_done, defScope s_done, [], []⟩, ⟨("_law_draws", none), "_law_draws", "_law_draws", defArgs s_l_draws, defBody s_l_draws, defScope s_l_draws, [], []⟩, ⟨("_law_next", none), "_law_next", "_law_next", defArgs s_l_next, defBody s_l_next, defScope s_l_next, [], []⟩, ⟨("_law_whole", none), "_law_whole", "_law_whole", defArgs s_l_whole, defBody s_l_whole, defScope s_l_whole, [], []⟩, ⟨("_law_lowest", none), "_law_lowest", "_law_lowest", defArgs s_l_lowest, defBody s_l_lowest, defScope s_l_lowest, [], []⟩, ⟨("_law_plus", none), "_law_plus", "_law_plus", defArgs s_l_plus, defBody s_l_plus, defScope s_l_plus, [], []⟩, ⟨("_law_times", none), "_law_times", "_law_times", defArgs s_l_times, defBody s_l_times, defScope s_l_times, [], []⟩, ⟨("_law_less", none), "_law_less", "_law_less", defArgs s_l_less, defBody s_l_less, defScope s_l_less, [], []⟩, ⟨("_law_holds", none), "_law_holds", "_law_holds", defArgs s_l_holds, defBody s_l_holds, defScope s_l_holds, [], []⟩, ⟨("_law_worlds", none), "_law_worlds", "_law_worlds", defArgs s_l_worlds, defBody s_l_worlds, defScope s_l_worlds, [], []⟩, ⟨("_law_paid", none), "_law_paid", "_law_paid", defArgs s_l_paid, defBody s_l_paid, defScope s_l_paid, [], []⟩]
def lt_fn3 : List He.DefD := [⟨("_law_table", none), "_law_table", "_law_table", defArgs s_l_table, defBody s_l_table, defScope s_l_table, [], []⟩, ⟨("_law_turned", none), "_law_turned", "_law_turned", defArgs s_l_turned, defBody s_l_turned, defScope s_l_turned, [], []⟩, ⟨("_law_just", none), "_law_just", "_law_just", defArgs s_l_just, defBody s_l_just, defScope s_l_just, [], []⟩, ⟨("_law_brings", none), "_law_brings", "_law_brings", defArgs s_l_brings, defBody s_l_brings, defScope s_l_brings, [], []⟩, ⟨("_law_worths", none), "_law_worths", "_law_worths", defArgs s_l_worths, defBody s_l_worths, defScope s_l_worths, [], []⟩, ⟨("_law_put", none), "_law_put", "_law_put", defArgs s_l_put, defBody s_l_put, defScope s_l_put, [], []⟩, ⟨("_law_least", none), "_law_least", "_law_least", defArgs s_l_least, defBody s_l_least, defScope s_l_least, [], []⟩, ⟨("_law_stake", none), "_law_stake", "_law_stake", defArgs s_l_stake, defBody s_l_stake, defScope s_l_stake, [], []⟩, ⟨("_law_place", none), "_law_place", "_law_place", defArgs s_l_place, defBody s_l_place, defScope s_l_place, [], []⟩, ⟨("_law_simple", none), "_law_simple", "_law_simple", defArgs s_l_simple, defBody s_l_simple, defScope s_l_simple, [], []⟩, ⟨("_law_wager", none), "_law_wager", "_law_wager", defArgs s_l_wager, defBody s_l_wager, defScope s_l_wager, [], []⟩, ⟨("_law_cost", none), "_law_cost", "_law_cost", defArgs s_l_cost, defBody s_l_cost, defScope s_l_cost, [], []⟩]
def lt_fn4 : List He.DefD := [⟨("_law_offers", none), "_law_offers", "_law_offers", defArgs s_l_offers, defBody s_l_offers, defScope s_l_offers, [], []⟩, ⟨("_law_ticket", none), "_law_ticket", "_law_ticket", defArgs s_l_ticket, defBody s_l_ticket, defScope s_l_ticket, [], []⟩, ⟨("_law_tickets", none), "_law_tickets", "_law_tickets", defArgs s_l_tickets, defBody s_l_tickets, defScope s_l_tickets, [], []⟩, ⟨("_law_purses", none), "_law_purses", "_law_purses", defArgs s_l_purses, defBody s_l_purses, defScope s_l_purses, [], []⟩, ⟨("_law_class", none), "_law_class", "_law_class", defArgs s_l_class, defBody s_l_class, defScope s_l_class, [], []⟩, ⟨("_law_done", none), "_law_done", "_law_done", defArgs s_l_done, defBody s_l_done, defScope s_l_done, [], []⟩, ⟨("_law_is", none), "_law_is", "_law_is", defArgs s_l_is, defBody s_l_is, defScope s_l_is, [], []⟩, ⟨("_law_likes", none), "_law_likes", "_law_likes", defArgs s_l_likes, defBody s_l_likes, defScope s_l_likes, [], []⟩, ⟨("_law_alike_stand", none), "_law_alike_stand", "_law_alike_stand", defArgs s_l_alike_stand, defBody s_l_alike_stand, defScope s_l_alike_stand, [], []⟩, ⟨("_law_split", none), "_law_split", "_law_split", defArgs s_l_split, defBody s_l_split, defScope s_l_split, [], []⟩, ⟨("_law_netted", none), "_law_netted", "_law_netted", defArgs s_l_netted, defBody s_l_netted, defScope s_l_netted, [], []⟩, ⟨("_law_net", none), "_law_net", "_law_net", defArgs s_l_net, defBody s_l_net, defScope s_l_net, [], []⟩]
def lt_fn5 : List He.DefD := [⟨("law", none), "law", "law", defArgs s_law, defBody s_law, defScope s_law, [], []⟩, errD "StallError" "StallError.__init__" ⟨50, 17, 50, 21⟩ ⟨51, 8, 51, 12⟩ ⟨51, 8, 51, 18⟩ ⟨51, 21, 51, 33⟩ ⟨51, 8, 51, 33⟩, errD "TooLong" "TooLong.__init__" ⟨54, 17, 54, 21⟩ ⟨55, 8, 55, 12⟩ ⟨55, 8, 55, 18⟩ ⟨55, 21, 55, 30⟩ ⟨55, 8, 55, 30⟩, errD "TooMany" "TooMany.__init__" ⟨58, 17, 58, 21⟩ ⟨59, 8, 59, 12⟩ ⟨59, 8, 59, 18⟩ ⟨59, 21, 59, 30⟩ ⟨59, 8, 59, 30⟩, errD "NoWorld" "NoWorld.__init__" ⟨62, 17, 62, 21⟩ ⟨63, 8, 63, 12⟩ ⟨63, 8, 63, 18⟩ ⟨63, 21, 63, 30⟩ ⟨63, 8, 63, 30⟩, errD "NotAlike" "NotAlike.__init__" ⟨66, 17, 66, 21⟩ ⟨67, 8, 67, 12⟩ ⟨67, 8, 67, 18⟩ ⟨67, 21, 67, 31⟩ ⟨67, 8, 67, 31⟩, errD "Unfair" "Unfair.__init__" ⟨70, 17, 70, 21⟩ ⟨71, 8, 71, 12⟩ ⟨71, 8, 71, 18⟩ ⟨71, 21, 71, 29⟩ ⟨71, 8, 71, 29⟩, errD "Fair" "Fair.__init__" ⟨74, 17, 74, 21⟩ ⟨75, 8, 75, 12⟩ ⟨75, 8, 75, 18⟩ ⟨75, 21, 75, 27⟩ ⟨75, 8, 75, 27⟩, errD "NoBet" "NoBet.__init__" ⟨78, 17, 78, 21⟩ ⟨79, 8, 79, 12⟩ ⟨79, 8, 79, 18⟩ ⟨79, 21, 79, 28⟩ ⟨79, 8, 79, 28⟩, errD "NoHolder" "NoHolder.__init__" ⟨82, 17, 82, 21⟩ ⟨83, 8, 83, 12⟩ ⟨83, 8, 83, 18⟩ ⟨83, 21, 83, 31⟩ ⟨83, 8, 83, 31⟩, errD "NoStake" "NoStake.__init__" ⟨86, 17, 86, 21⟩ ⟨87, 8, 87, 12⟩ ⟨87, 8, 87, 18⟩ ⟨87, 21, 87, 30⟩ ⟨87, 8, 87, 30⟩, errD "NoTicket" "NoTicket.__init__" ⟨90, 17, 90, 21⟩ ⟨91, 8, 91, 12⟩ ⟨91, 8, 91, 18⟩ ⟨91, 21, 91, 31⟩ ⟨91, 8, 91, 31⟩]
def lt_fn6 : List He.DefD := [errD "NoCover" "NoCover.__init__" ⟨94, 17, 94, 21⟩ ⟨95, 8, 95, 12⟩ ⟨95, 8, 95, 18⟩ ⟨95, 21, 95, 30⟩ ⟨95, 8, 95, 30⟩, errD "NoSaying" "NoSaying.__init__" ⟨98, 17, 98, 21⟩ ⟨99, 8, 99, 12⟩ ⟨99, 8, 99, 18⟩ ⟨99, 21, 99, 31⟩ ⟨99, 8, 99, 31⟩, errD "NoDeed" "NoDeed.__init__" ⟨102, 17, 102, 21⟩ ⟨103, 8, 103, 12⟩ ⟨103, 8, 103, 18⟩ ⟨103, 21, 103, 29⟩ ⟨103, 8, 103, 29⟩, errD "NoStep" "NoStep.__init__" ⟨106, 17, 106, 21⟩ ⟨107, 8, 107, 12⟩ ⟨107, 8, 107, 18⟩ ⟨107, 21, 107, 29⟩ ⟨107, 8, 107, 29⟩, errD "NoText" "NoText.__init__" ⟨110, 17, 110, 21⟩ ⟨111, 8, 111, 12⟩ ⟨111, 8, 111, 18⟩ ⟨111, 21, 111, 29⟩ ⟨111, 8, 111, 29⟩]
def lt_fn : List He.DefD := lt_fn0 ++ lt_fn1 ++ lt_fn2 ++ lt_fn3 ++ lt_fn4 ++ lt_fn5 ++ lt_fn6
def lt_lf0 : List LtF := [.tab "PARTS" [("deal", .int 5), ("split", .int 2), ("hand", .int 4), ("net", .int 2), ("clear", .int 1), ("post", .int 2), ("sell", .int 4), ("hear", .int 1)], .tab "ACTIONS" [("deal", .glo "dealt"), ("split", .glo "parted"), ("hand", .glo "handed"), ("net", .glo "netted"), ("clear", .glo "cleared"), ("post", .glo "posted"), ("sell", .glo "sold"), ("hear", .glo "heard")], .err "StallError", .err "TooLong", .err "TooMany", .err "NoWorld", .err "NotAlike", .err "Unfair", .err "Fair", .err "NoBet", .err "NoHolder", .err "NoStake"]
def lt_lf1 : List LtF := [.err "NoTicket", .err "NoCover", .err "NoSaying", .err "NoDeed", .err "NoStep", .err "NoText", .sub "NoBet" "StallError" true, .sub "NoBet" "TooLong" false, .sub "NoBet" "TooMany" false, .sub "NoBet" "NoWorld" false, .sub "NoBet" "NotAlike" false, .sub "NoBet" "Unfair" false]
def lt_lf2 : List LtF := [.sub "NoBet" "Fair" false, .sub "NoBet" "NoBet" true, .sub "NoBet" "NoHolder" false, .sub "NoBet" "NoStake" false, .sub "NoBet" "NoTicket" false, .sub "NoBet" "NoCover" false, .sub "NoBet" "NoSaying" false, .sub "NoBet" "NoDeed" false, .sub "NoBet" "NoStep" false, .sub "NoBet" "NoText" false, .subT "NoBet" "ValueError" true, .sub "NoDeed" "StallError" true]
def lt_lf3 : List LtF := [.sub "NoDeed" "TooLong" false, .sub "NoDeed" "TooMany" false, .sub "NoDeed" "NoWorld" false, .sub "NoDeed" "NotAlike" false, .sub "NoDeed" "Unfair" false, .sub "NoDeed" "Fair" false, .sub "NoDeed" "NoBet" false, .sub "NoDeed" "NoHolder" false, .sub "NoDeed" "NoStake" false, .sub "NoDeed" "NoTicket" false, .sub "NoDeed" "NoCover" false, .sub "NoDeed" "NoSaying" false]
def lt_lf4 : List LtF := [.sub "NoDeed" "NoDeed" true, .sub "NoDeed" "NoStep" false, .sub "NoDeed" "NoText" false, .subT "NoDeed" "ValueError" true, .sub "NoHolder" "StallError" true, .sub "NoHolder" "TooLong" false, .sub "NoHolder" "TooMany" false, .sub "NoHolder" "NoWorld" false, .sub "NoHolder" "NotAlike" false, .sub "NoHolder" "Unfair" false, .sub "NoHolder" "Fair" false, .sub "NoHolder" "NoBet" false]
def lt_lf5 : List LtF := [.sub "NoHolder" "NoHolder" true, .sub "NoHolder" "NoStake" false, .sub "NoHolder" "NoTicket" false, .sub "NoHolder" "NoCover" false, .sub "NoHolder" "NoSaying" false, .sub "NoHolder" "NoDeed" false, .sub "NoHolder" "NoStep" false, .sub "NoHolder" "NoText" false, .subT "NoHolder" "ValueError" true, .sub "NoSaying" "StallError" true, .sub "NoSaying" "TooLong" false, .sub "NoSaying" "TooMany" false]
def lt_lf6 : List LtF := [.sub "NoSaying" "NoWorld" false, .sub "NoSaying" "NotAlike" false, .sub "NoSaying" "Unfair" false, .sub "NoSaying" "Fair" false, .sub "NoSaying" "NoBet" false, .sub "NoSaying" "NoHolder" false, .sub "NoSaying" "NoStake" false, .sub "NoSaying" "NoTicket" false, .sub "NoSaying" "NoCover" false, .sub "NoSaying" "NoSaying" true, .sub "NoSaying" "NoDeed" false, .sub "NoSaying" "NoStep" false]
def lt_lf7 : List LtF := [.sub "NoSaying" "NoText" false, .subT "NoSaying" "ValueError" true, .sub "NoStake" "StallError" true, .sub "NoStake" "TooLong" false, .sub "NoStake" "TooMany" false, .sub "NoStake" "NoWorld" false, .sub "NoStake" "NotAlike" false, .sub "NoStake" "Unfair" false, .sub "NoStake" "Fair" false, .sub "NoStake" "NoBet" false, .sub "NoStake" "NoHolder" false, .sub "NoStake" "NoStake" true]
def lt_lf8 : List LtF := [.sub "NoStake" "NoTicket" false, .sub "NoStake" "NoCover" false, .sub "NoStake" "NoSaying" false, .sub "NoStake" "NoDeed" false, .sub "NoStake" "NoStep" false, .sub "NoStake" "NoText" false, .subT "NoStake" "ValueError" true, .sub "NoTicket" "StallError" true, .sub "NoTicket" "TooLong" false, .sub "NoTicket" "TooMany" false, .sub "NoTicket" "NoWorld" false, .sub "NoTicket" "NotAlike" false]
def lt_lf9 : List LtF := [.sub "NoTicket" "Unfair" false, .sub "NoTicket" "Fair" false, .sub "NoTicket" "NoBet" false, .sub "NoTicket" "NoHolder" false, .sub "NoTicket" "NoStake" false, .sub "NoTicket" "NoTicket" true, .sub "NoTicket" "NoCover" false, .sub "NoTicket" "NoSaying" false, .sub "NoTicket" "NoDeed" false, .sub "NoTicket" "NoStep" false, .sub "NoTicket" "NoText" false, .subT "NoTicket" "ValueError" true]
def lt_lf10 : List LtF := [.sub "NotAlike" "StallError" true, .sub "NotAlike" "TooLong" false, .sub "NotAlike" "TooMany" false, .sub "NotAlike" "NoWorld" false, .sub "NotAlike" "NotAlike" true, .sub "NotAlike" "Unfair" false, .sub "NotAlike" "Fair" false, .sub "NotAlike" "NoBet" false, .sub "NotAlike" "NoHolder" false, .sub "NotAlike" "NoStake" false, .sub "NotAlike" "NoTicket" false, .sub "NotAlike" "NoCover" false]
def lt_lf11 : List LtF := [.sub "NotAlike" "NoSaying" false, .sub "NotAlike" "NoDeed" false, .sub "NotAlike" "NoStep" false, .sub "NotAlike" "NoText" false, .subT "NotAlike" "ValueError" true, .sub "TooMany" "StallError" true, .sub "TooMany" "TooLong" false, .sub "TooMany" "TooMany" true, .sub "TooMany" "NoWorld" false, .sub "TooMany" "NotAlike" false, .sub "TooMany" "Unfair" false, .sub "TooMany" "Fair" false]
def lt_lf12 : List LtF := [.sub "TooMany" "NoBet" false, .sub "TooMany" "NoHolder" false, .sub "TooMany" "NoStake" false, .sub "TooMany" "NoTicket" false, .sub "TooMany" "NoCover" false, .sub "TooMany" "NoSaying" false, .sub "TooMany" "NoDeed" false, .sub "TooMany" "NoStep" false, .sub "TooMany" "NoText" false, .subT "TooMany" "ValueError" true]
def lt_lf : List LtF := lt_lf0 ++ lt_lf1 ++ lt_lf2 ++ lt_lf3 ++ lt_lf4 ++ lt_lf5 ++ lt_lf6 ++ lt_lf7 ++ lt_lf8 ++ lt_lf9 ++ lt_lf10 ++ lt_lf11 ++ lt_lf12
def lt_nm0 : List PySem.Str := ["__name__", "is_number", "is_row", "ZERO", "ONE", "common", "lowest", "plus", "times", "turned_about", "minus", "divided"]
def lt_nm1 : List PySem.Str := ["less", "is_fraction", "StallError", "TooLong", "TooMany", "NoWorld", "NotAlike", "Unfair", "Fair", "NoBet", "NoHolder", "NoStake"]
def lt_nm2 : List PySem.Str := ["NoTicket", "NoCover", "NoSaying", "NoDeed", "NoStep", "NoText", "MOST_WORDS", "JOINING", "wanted", "is_saying", "laid", "joint"]
def lt_nm3 : List PySem.Str := ["holds", "short_enough", "both", "MOST_TERMS", "is_term", "is_bet", "pays", "called_off", "MOST_RULES", "worlds_over", "keeps", "worlds_of"]
def lt_nm4 : List PySem.Str := ["may_be", "narrowed", "is_place", "are_two", "is_above_zero", "lives", "brought", "with_stake", "ticket_of", "without", "exchanged", "rest_of"]
def lt_nm5 : List PySem.Str := ["balances_of", "least_holder", "matched", "Board", "most_of", "weighing_of", "stakes_of", "borne_or_losing", "freed", "table_at", "table_of", "whole"]
def lt_nm6 : List PySem.Str := ["lowered", "Gains", "judged_part", "judged_gains", "fair_gains", "least_paid", "places_where", "least_mean", "low_price", "TOO_GREAT", "is_too_great", "carried_on"]
def lt_nm7 : List PySem.Str := ["is_bid", "MOST_TICKETS", "MOST_POSTED", "is_list", "worths_at", "covered", "sure", "few_enough", "standing", "moved", "with_ticket", "dealt"]
def lt_nm8 : List PySem.Str := ["parted", "passed_on", "handed", "netted", "cleared", "posted", "sold", "settled", "heard", "PARTS", "ACTIONS", "is_deed"]
def lt_nm9 : List PySem.Str := ["done", "_law_draws", "_law_next", "_law_whole", "_law_lowest", "_law_plus", "_law_times", "_law_less", "_law_holds", "_law_worlds", "_law_paid", "_law_table"]
def lt_nm10 : List PySem.Str := ["_law_turned", "_law_just", "_law_brings", "_law_worths", "_law_put", "_law_least", "_law_stake", "_law_place", "_law_simple", "_law_wager", "_law_cost", "_law_offers"]
def lt_nm11 : List PySem.Str := ["_law_ticket", "_law_tickets", "_law_purses", "_law_class", "_law_done", "_law_is", "_law_likes", "_law_alike_stand", "_law_split", "_law_netted", "_law_net"]
def lt_nm : List PySem.Str := lt_nm0 ++ lt_nm1 ++ lt_nm2 ++ lt_nm3 ++ lt_nm4 ++ lt_nm5 ++ lt_nm6 ++ lt_nm7 ++ lt_nm8 ++ lt_nm9 ++ lt_nm10 ++ lt_nm11
abbrev lt_R : PySem.W.OpenRow := PySem.W.OpenLaw.row PySem.Challenge.rw_betstall_k73_parted_and_netted
def lt_ts : List (Str × List Str) := [("PARTS", ["deal", "split", "hand", "net", "clear", "post", "sell", "hear"]), ("ACTIONS", ["deal", "split", "hand", "net", "clear", "post", "sell", "hear"])]
abbrev lt_hk : PySem.W.Hook := hookM lt_ns lt_cs lt_fa lt_fn lt_lf lt_ts
def lt_ob (s : PySem.W.SharedT) : AlM := obsM lt_ns lt_cs lt_fa lt_fn lt_lf lt_ts (HandSHeadRun.getT s)
theorem lt_ob_eq (s : PySem.W.SharedT) : lt_ob s = lt_hk.obs s.abs := obsM_eq (HandSHeadRun.getT_eq s)
open PySem.W PySem.Calls in
noncomputable abbrev lt_E (w : World) (os : OsState) := HandSHeadRun.endF (HandSHeadRun.stepQ (HandSHeadRun.denQ HandSHeadRun.tabQ) lt_R.prog w) 200000 lt_R.prog w os
open PySem.W PySem.Calls in
set_option maxRecDepth 100000 in
set_option maxHeartbeats 0 in
theorem lt_Lt (w : World) (os : OsState) : (lt_E (fixW w "special-get-raises" true) os).map (fun s => HandSHeadRun.looksF lt_R.prog (boot_heap (fixW w "special-get-raises" true).params) s.abs) = some true := by kernel_rfl
open PySem.W PySem.Calls in
set_option maxRecDepth 100000 in
set_option maxHeartbeats 0 in
theorem lt_St (w : World) (os : OsState) : (lt_E (fixW w "special-get-raises" true) os).map (fun s => HandSHeadRun.seenQ (PySem.W.view lt_R.prog [161]) lt_nm (importedModules lt_R.prog.main.body) (fun s => PySem.W.xlAt (PySem.W.view lt_R.prog [161]) [] s && PySem.W.recOk lt_R.toRowW.records s) s.abs) = some (PySem.W.openGood (PySem.W.view lt_R.prog [161]) lt_nm) := by kernel_rfl
open PySem.W PySem.Calls in
set_option maxRecDepth 100000 in
set_option maxHeartbeats 0 in
theorem lt_Ot (w : World) (os : OsState) : (lt_E (fixW w "special-get-raises" true) os).map (fun s => lt_ob s) = some (lt_hk.val (fixW w "special-get-raises" true)) := by kernel_rfl
open PySem.W PySem.Calls in
set_option maxRecDepth 100000 in
set_option maxHeartbeats 0 in
theorem lt_Lf (w : World) (os : OsState) : (lt_E (fixW w "special-get-raises" false) os).map (fun s => HandSHeadRun.looksF lt_R.prog (boot_heap (fixW w "special-get-raises" false).params) s.abs) = some true := by kernel_rfl
open PySem.W PySem.Calls in
set_option maxRecDepth 100000 in
set_option maxHeartbeats 0 in
theorem lt_Sf (w : World) (os : OsState) : (lt_E (fixW w "special-get-raises" false) os).map (fun s => HandSHeadRun.seenQ (PySem.W.view lt_R.prog [161]) lt_nm (importedModules lt_R.prog.main.body) (fun s => PySem.W.xlAt (PySem.W.view lt_R.prog [161]) [] s && PySem.W.recOk lt_R.toRowW.records s) s.abs) = some (PySem.W.openGood (PySem.W.view lt_R.prog [161]) lt_nm) := by kernel_rfl
open PySem.W PySem.Calls in
set_option maxRecDepth 100000 in
set_option maxHeartbeats 0 in
theorem lt_Of (w : World) (os : OsState) : (lt_E (fixW w "special-get-raises" false) os).map (fun s => lt_ob s) = some (lt_hk.val (fixW w "special-get-raises" false)) := by kernel_rfl
theorem lt_run (w : World) : HandSHeadRun.RunEq lt_R (PySem.W.view lt_R.prog [161]) lt_hk lt_ob 200000 lt_nm w := by
  intro os
  cases hb : w.params.followText "special-get-raises" with
  | true =>
    have a := lt_Lt w os
    have b := lt_St w os
    have c := lt_Ot w os
    rw [fixW_eq hb] at a b c
    exact join3 a b c
  | false =>
    have a := lt_Lf w os
    have b := lt_Sf w os
    have c := lt_Of w os
    rw [fixW_eq hb] at a b c
    exact join3 a b c
end B
namespace B
open PySem PySem.Spec PyProof.Rows L2
/-- what lowest divides by -/
def lowN (t b : Int) : Int := if b < 0 then -((Nat.gcd t.natAbs b.natAbs : Nat) : Int) else ((Nat.gcd t.natAbs b.natAbs : Nat) : Int)
def lowT (t b : Int) : Int := t.fdiv (lowN t b)
def lowB (t b : Int) : Int := b.fdiv (lowN t b)
theorem lowN_abs (t b : Int) : (lowN t b).natAbs = Nat.gcd t.natAbs b.natAbs := by
  unfold lowN
  split <;> omega
theorem lowN_dvd_t (t b : Int) : lowN t b ∣ t := by
  rw [← Int.natAbs_dvd_natAbs, lowN_abs]
  exact Nat.gcd_dvd_left _ _
theorem lowN_dvd_b (t b : Int) : lowN t b ∣ b := by
  rw [← Int.natAbs_dvd_natAbs, lowN_abs]
  exact Nat.gcd_dvd_right _ _
theorem low_t (t b : Int) : lowN t b * lowT t b = t := by
  unfold lowT
  rw [Int.fdiv_eq_ediv_of_dvd (lowN_dvd_t t b)]
  exact Int.mul_ediv_cancel' (lowN_dvd_t t b)
theorem low_b (t b : Int) : lowN t b * lowB t b = b := by
  unfold lowB
  rw [Int.fdiv_eq_ediv_of_dvd (lowN_dvd_b t b)]
  exact Int.mul_ediv_cancel' (lowN_dvd_b t b)
theorem lowN_pos {t b : Int} (h : b ≠ 0) : 0 < Nat.gcd t.natAbs b.natAbs := Nat.gcd_pos_of_pos_right _ (by omega)
theorem lowB_pos {t b : Int} (h : b ≠ 0) : 1 ≤ lowB t b := by
  have e := low_b t b
  have g := lowN_pos (t := t) h
  rcases Int.lt_or_le (lowB t b) 1 with z | z
  · exfalso
    by_cases hb : b < 0
    · have n : lowN t b ≤ 0 := by unfold lowN; rw [if_pos hb]; omega
      have := Int.mul_nonneg_of_nonpos_of_nonpos n (show lowB t b ≤ 0 by omega)
      omega
    · have n : 0 ≤ lowN t b := by unfold lowN; rw [if_neg hb]; omega
      have := Int.mul_nonpos_of_nonneg_of_nonpos n (show lowB t b ≤ 0 by omega)
      omega
  · exact z
theorem low_cop {t b : Int} (h : b ≠ 0) : Nat.gcd (lowT t b).natAbs (lowB t b).natAbs = 1 := by
  have g := lowN_pos (t := t) h
  have e1 : t.natAbs = Nat.gcd t.natAbs b.natAbs * (lowT t b).natAbs := by
    rw [← lowN_abs, ← Int.natAbs_mul, low_t]
  have e2 : b.natAbs = Nat.gcd t.natAbs b.natAbs * (lowB t b).natAbs := by
    rw [← lowN_abs, ← Int.natAbs_mul, low_b]
  have e3 : Nat.gcd t.natAbs b.natAbs = Nat.gcd t.natAbs b.natAbs * Nat.gcd (lowT t b).natAbs (lowB t b).natAbs := by
    rw [← Nat.gcd_mul_left, ← e1, ← e2]
  exact (Nat.eq_of_mul_eq_mul_left g (by rw [Nat.mul_one]; exact e3)).symm
theorem cop_dvd {a b c : Nat} (h : Nat.gcd b a = 1) (d : b ∣ a * c) : b ∣ c := by
  have e : Nat.gcd (b * c) (a * c) = c := by rw [Nat.gcd_mul_right, h, Nat.one_mul]
  rw [← e]
  exact Nat.dvd_gcd (Nat.dvd_mul_right _ _) d
/-- two fractions in lowest terms of one worth are one -/
theorem cop_one {T B T' B' : Int} (h : 1 ≤ B) (h' : 1 ≤ B') (g : Nat.gcd T.natAbs B.natAbs = 1) (g' : Nat.gcd T'.natAbs B'.natAbs = 1) (e : T * B' = T' * B) : T = T' ∧ B = B' := by
  have e1 : T.natAbs * B'.natAbs = T'.natAbs * B.natAbs := by rw [← Int.natAbs_mul, ← Int.natAbs_mul, e]
  have d1 : B.natAbs ∣ B'.natAbs := cop_dvd (a := T.natAbs) (by rw [Nat.gcd_comm]; exact g) ⟨T'.natAbs, by rw [e1, Nat.mul_comm]⟩
  have d2 : B'.natAbs ∣ B.natAbs := cop_dvd (a := T'.natAbs) (by rw [Nat.gcd_comm]; exact g') ⟨T.natAbs, by rw [← e1, Nat.mul_comm]⟩
  have e2 : B = B' := by
    have := Nat.dvd_antisymm d1 d2
    omega
  subst e2
  exact ⟨Int.eq_of_mul_eq_mul_right (by omega) e, rfl⟩
/-- t, b and what is in lowest terms of the same worth -/
theorem low_cross (t b : Int) : lowT t b * b = t * lowB t b := by
  have e1 := low_t t b
  have e2 := low_b t b
  calc lowT t b * b = lowT t b * (lowN t b * lowB t b) := by rw [e2]
    _ = (lowN t b * lowT t b) * lowB t b := by rw [← Int.mul_assoc, Int.mul_comm (lowT t b)]
    _ = t * lowB t b := by rw [e1]
theorem low_is {t b T B : Int} (hb : b ≠ 0) (h : 1 ≤ B) (g : Nat.gcd T.natAbs B.natAbs = 1) (e : T * b = t * B) : lowT t b = T ∧ lowB t b = B := by
  refine cop_one (lowB_pos hb) h (low_cop hb) g ?_
  have c := low_cross t b
  refine Int.eq_of_mul_eq_mul_right hb ?_
  calc lowT t b * B * b = (lowT t b * b) * B := by rw [Int.mul_assoc, Int.mul_comm B, ← Int.mul_assoc]
    _ = t * lowB t b * B := by rw [c]
    _ = (t * B) * lowB t b := by rw [Int.mul_assoc, Int.mul_comm (lowB t b), ← Int.mul_assoc]
    _ = T * b * lowB t b := by rw [e]
    _ = T * lowB t b * b := by rw [Int.mul_assoc, Int.mul_comm b, ← Int.mul_assoc]
theorem lowT_abs {t b : Int} (h : b ≠ 0) : (lowT t b).natAbs ≤ t.natAbs := by
  have e := low_t t b
  have g := lowN_pos (t := t) h
  rw [← lowN_abs] at g
  have : t.natAbs = (lowN t b).natAbs * (lowT t b).natAbs := by rw [← Int.natAbs_mul, e]
  rw [this]
  exact Nat.le_mul_of_pos_left _ g
theorem lowB_abs {t b : Int} (h : b ≠ 0) : (lowB t b).natAbs ≤ b.natAbs := by
  have e := low_b t b
  have g := lowN_pos (t := t) h
  rw [← lowN_abs] at g
  have : b.natAbs = (lowN t b).natAbs * (lowB t b).natAbs := by rw [← Int.natAbs_mul, e]
  rw [this]
  exact Nat.le_mul_of_pos_left _ g
end B
namespace B
open PySem PySem.Spec PyProof.Rows L2
/-- a fraction: top, bottom -/
structure IsF (t : Int) (b : Nat) : Prop where
  pos : 0 < b
  cop : Nat.Coprime t.natAbs b
theorem low_isN {t T : Int} {b B : Nat} (hb : 0 < b) (h : IsF T B) (e : T * (b : Int) = t * (B : Int)) : lowT t b = T ∧ lowB t b = (B : Int) :=
  low_is (by omega) (by have := h.pos; omega) (by rw [Int.natAbs_natCast]; exact h.cop) e
/-- the bottom as a number -/
def lowBn (t : Int) (b : Nat) : Nat := (lowB t b).natAbs
theorem lowBn_eq {t : Int} {b : Nat} (hb : 0 < b) : lowB t b = (lowBn t b : Int) := by
  have := lowB_pos (t := t) (b := (b : Int)) (by omega)
  unfold lowBn
  omega
theorem low_isF {t : Int} {b : Nat} (hb : 0 < b) : IsF (lowT t b) (lowBn t b) := by
  have h := lowB_pos (t := t) (b := (b : Int)) (by omega)
  refine ⟨by unfold lowBn; omega, ?_⟩
  exact low_cop (t := t) (b := (b : Int)) (by omega)
/-- what lowest divides by, the bottom above 0 -/
theorem lowN_nat (t : Int) (b : Nat) : lowN t b = ((Nat.gcd t.natAbs b : Nat) : Int) := by
  unfold lowN
  rw [if_neg (by omega), Int.natAbs_natCast]
theorem lowT_nat {t : Int} {b : Nat} : lowT t b = t / ((Nat.gcd t.natAbs b : Nat) : Int) := by
  unfold lowT
  rw [lowN_nat, Int.fdiv_eq_ediv_of_nonneg _ (by omega)]
theorem lowB_nat {t : Int} {b : Nat} : lowB t b = (b : Int) / ((Nat.gcd t.natAbs b : Nat) : Int) := by
  unfold lowB
  rw [lowN_nat, Int.fdiv_eq_ediv_of_nonneg _ (by omega)]
theorem natAbs_div {a : Int} {d : Nat} (h : d ∣ a.natAbs) : (a / (d : Int)).natAbs = a.natAbs / d := by
  rw [Int.natAbs_ediv_of_dvd (by exact Int.ofNat_dvd_left.mpr h), Int.natAbs_natCast]
theorem div_mul {a : Int} {d : Nat} (h : d ∣ a.natAbs) : a / (d : Int) * d = a := Int.ediv_mul_cancel (by exact Int.ofNat_dvd_left.mpr h)
def addX (t1 : Int) (b1 : Nat) (t2 : Int) (b2 : Nat) : Int := t1 * b2 + t2 * b1
def addT (t1 : Int) (b1 : Nat) (t2 : Int) (b2 : Nat) : Int := lowT (addX t1 b1 t2 b2) (b1 * b2 : Nat)
def addB (t1 : Int) (b1 : Nat) (t2 : Int) (b2 : Nat) : Nat := lowBn (addX t1 b1 t2 b2) (b1 * b2)
def mulT (t1 : Int) (b1 : Nat) (t2 : Int) (b2 : Nat) : Int := lowT (t1 * t2) (b1 * b2 : Nat)
def mulB (t1 : Int) (b1 : Nat) (t2 : Int) (b2 : Nat) : Nat := lowBn (t1 * t2) (b1 * b2)
/-- what plus reckons -/
def plG (b1 b2 : Nat) : Nat := Nat.gcd b1 b2
def plS (t1 : Int) (b1 : Nat) (t2 : Int) (b2 : Nat) : Int := t1 * ((b2 / plG b1 b2 : Nat) : Int) + t2 * ((b1 / plG b1 b2 : Nat) : Int)
def plD (t1 : Int) (b1 : Nat) (t2 : Int) (b2 : Nat) : Nat := Nat.gcd (plS t1 b1 t2 b2).natAbs (plG b1 b2)
theorem plus_math {t1 t2 : Int} {b1 b2 : Nat} (h1 : IsF t1 b1) (h2 : IsF t2 b2) :
    plS t1 b1 t2 b2 / (plD t1 b1 t2 b2 : Int) = addT t1 b1 t2 b2 ∧ b1 / plG b1 b2 * (b2 / plD t1 b1 t2 b2) = addB t1 b1 t2 b2 ∧ 0 < plG b1 b2 ∧ 0 < plD t1 b1 t2 b2 := by
  have g0 : 0 < plG b1 b2 := Nat.gcd_pos_of_pos_left _ h1.pos
  have d0 : 0 < plD t1 b1 t2 b2 := Nat.gcd_pos_of_pos_right _ g0
  obtain ⟨r, er⟩ : plG b1 b2 ∣ b1 := Nat.gcd_dvd_left _ _
  obtain ⟨s, es⟩ : plG b1 b2 ∣ b2 := Nat.gcd_dvd_right _ _
  have er2 : b1 / plG b1 b2 = r := Nat.div_eq_of_eq_mul_right g0 er
  have es2 : b2 / plG b1 b2 = s := Nat.div_eq_of_eq_mul_right g0 es
  have crs : Nat.Coprime r s := by
    have := Nat.coprime_div_gcd_div_gcd (m := b1) (n := b2) g0
    rw [show Nat.gcd b1 b2 = plG b1 b2 from rfl, er2, es2] at this
    exact this
  have eS : plS t1 b1 t2 b2 = t1 * (s : Int) + t2 * (r : Int) := by unfold plS; rw [er2, es2]
  have ct1r : Nat.Coprime t1.natAbs r := Nat.Coprime.coprime_dvd_right ⟨plG b1 b2, by rw [Nat.mul_comm]; exact er⟩ h1.cop
  have ct2s : Nat.Coprime t2.natAbs s := Nat.Coprime.coprime_dvd_right ⟨plG b1 b2, by rw [Nat.mul_comm]; exact es⟩ h2.cop
  have cSr : Nat.Coprime (plS t1 b1 t2 b2).natAbs r := by
    show Int.gcd (plS t1 b1 t2 b2) (r : Int) = 1
    rw [eS, Int.gcd_add_mul_right_left]
    show Nat.gcd (t1 * (s : Int)).natAbs (r : Int).natAbs = 1
    rw [Int.natAbs_mul, Int.natAbs_natCast, Int.natAbs_natCast]
    exact Nat.Coprime.mul_left ct1r crs.symm
  have cSs : Nat.Coprime (plS t1 b1 t2 b2).natAbs s := by
    show Int.gcd (plS t1 b1 t2 b2) (s : Int) = 1
    rw [eS, Int.add_comm, Int.gcd_add_mul_right_left]
    show Nat.gcd (t2 * (r : Int)).natAbs (s : Int).natAbs = 1
    rw [Int.natAbs_mul, Int.natAbs_natCast, Int.natAbs_natCast]
    exact Nat.Coprime.mul_left ct2s crs
  have dS : plD t1 b1 t2 b2 ∣ (plS t1 b1 t2 b2).natAbs := Nat.gcd_dvd_left _ _
  have dG : plD t1 b1 t2 b2 ∣ plG b1 b2 := Nat.gcd_dvd_right _ _
  obtain ⟨e, ee⟩ := dG
  have ee2 : plG b1 b2 / plD t1 b1 t2 b2 = e := Nat.div_eq_of_eq_mul_right d0 ee
  have eb : b2 / plD t1 b1 t2 b2 = e * s := Nat.div_eq_of_eq_mul_right d0 (by rw [← Nat.mul_assoc, ← ee]; exact es)
  have aT : (plS t1 b1 t2 b2 / (plD t1 b1 t2 b2 : Int)).natAbs = (plS t1 b1 t2 b2).natAbs / plD t1 b1 t2 b2 := natAbs_div dS
  have cT : ∀ {x : Nat}, Nat.Coprime (plS t1 b1 t2 b2).natAbs x → Nat.Coprime (plS t1 b1 t2 b2 / (plD t1 b1 t2 b2 : Int)).natAbs x := fun h => by
    rw [aT]
    exact Nat.Coprime.coprime_dvd_left (Nat.div_dvd_of_dvd dS) h
  have cTe : Nat.Coprime (plS t1 b1 t2 b2 / (plD t1 b1 t2 b2 : Int)).natAbs e := by
    have := Nat.coprime_div_gcd_div_gcd (m := (plS t1 b1 t2 b2).natAbs) (n := plG b1 b2) d0
    rw [show Nat.gcd (plS t1 b1 t2 b2).natAbs (plG b1 b2) = plD t1 b1 t2 b2 from rfl, ee2, ← aT] at this
    exact this
  have r0 : 0 < r := by
    rcases Nat.eq_zero_or_pos r with z | z
    · rw [z, Nat.mul_zero] at er
      have := h1.pos
      omega
    · exact z
  have s0 : 0 < s := by
    rcases Nat.eq_zero_or_pos s with z | z
    · rw [z, Nat.mul_zero] at es
      have := h2.pos
      omega
    · exact z
  have e0 : 0 < e := by
    rcases Nat.eq_zero_or_pos e with z | z
    · rw [z, Nat.mul_zero] at ee
      omega
    · exact z
  have F : IsF (plS t1 b1 t2 b2 / (plD t1 b1 t2 b2 : Int)) (r * (e * s)) := ⟨Nat.mul_pos r0 (Nat.mul_pos e0 s0), Nat.Coprime.mul_right (cT cSr) (Nat.Coprime.mul_right cTe (cT cSs))⟩
  have X := low_isN (t := addX t1 b1 t2 b2) (b := b1 * b2) (Nat.mul_pos h1.pos h2.pos) F (by
    have hd := div_mul dS
    generalize plS t1 b1 t2 b2 / (plD t1 b1 t2 b2 : Int) = T at hd
    generalize plD t1 b1 t2 b2 = d at hd ee
    rw [eS] at hd
    generalize plG b1 b2 = g at er es ee
    unfold addX
    subst ee
    rw [er, es]
    simp only [Int.natCast_mul]
    have : T * ((d : Int) * e * r * (d * e * s)) = (T * d) * ((e : Int) * r * (d * e * s)) := by
      simp only [Int.mul_assoc]
    rw [this, hd]
    have a1 : ∀ u v x y z : Int, (u * v + x * y) * z = u * v * z + x * y * z := fun u v x y z => Int.add_mul _ _ _
    rw [a1, a1]
    congr 1
    · simp only [Int.mul_assoc, Int.mul_left_comm, Int.mul_comm]
    · simp only [Int.mul_assoc, Int.mul_left_comm, Int.mul_comm])
  refine ⟨X.1.symm, ?_, g0, d0⟩
  rw [er2, eb]
  unfold addB lowBn
  rw [X.2, Int.natAbs_natCast]
/-- how great -/
structure Fz (t : Int) (b n : Nat) : Prop where
  t : t.natAbs < 2 ^ n
  b : b < 2 ^ n
theorem Fz.more {t : Int} {b n m : Nat} (h : Fz t b n) (e : n ≤ m) : Fz t b m := ⟨Nat.lt_of_lt_of_le h.t (Nat.pow_le_pow_right (by decide) e), Nat.lt_of_lt_of_le h.b (Nat.pow_le_pow_right (by decide) e)⟩
theorem low_z {t : Int} {b n : Nat} (hb : 0 < b) (ht : t.natAbs < 2 ^ n) (hz : b < 2 ^ n) : Fz (lowT t b) (lowBn t b) n := by
  refine ⟨Nat.lt_of_le_of_lt (lowT_abs (by omega)) ht, ?_⟩
  have := lowB_abs (t := t) (b := (b : Int)) (by omega)
  rw [Int.natAbs_natCast] at this
  exact Nat.lt_of_le_of_lt this hz
theorem addX_z {t1 t2 : Int} {b1 b2 n m : Nat} (h1 : Fz t1 b1 n) (h2 : Fz t2 b2 m) : (addX t1 b1 t2 b2).natAbs < 2 ^ (n + m + 1) := by
  unfold addX
  have a : (t1 * (b2 : Int)).natAbs < 2 ^ (n + m) := by rw [Int.natAbs_mul, Int.natAbs_natCast, Nat.pow_add]; exact Nat.mul_lt_mul'' h1.t h2.b
  have c : (t2 * (b1 : Int)).natAbs < 2 ^ (n + m) := by rw [Int.natAbs_mul, Int.natAbs_natCast, Nat.pow_add, Nat.mul_comm]; exact Nat.mul_lt_mul'' h1.b h2.t
  rw [Nat.pow_succ]
  omega
theorem mulB_z {b1 b2 n m : Nat} {t1 t2 : Int} (h1 : Fz t1 b1 n) (h2 : Fz t2 b2 m) : b1 * b2 < 2 ^ (n + m) := by
  rw [Nat.pow_add]
  exact Nat.mul_lt_mul'' h1.b h2.b
theorem add_z {t1 t2 : Int} {b1 b2 n m : Nat} (p1 : 0 < b1) (p2 : 0 < b2) (h1 : Fz t1 b1 n) (h2 : Fz t2 b2 m) : Fz (addT t1 b1 t2 b2) (addB t1 b1 t2 b2) (n + m + 1) :=
  low_z (Nat.mul_pos p1 p2) (addX_z h1 h2) (Nat.lt_of_lt_of_le (mulB_z h1 h2) (Nat.pow_le_pow_right (by decide) (by omega)))
theorem mul_z {t1 t2 : Int} {b1 b2 n m : Nat} (p1 : 0 < b1) (p2 : 0 < b2) (h1 : Fz t1 b1 n) (h2 : Fz t2 b2 m) : Fz (mulT t1 b1 t2 b2) (mulB t1 b1 t2 b2) (n + m) :=
  low_z (Nat.mul_pos p1 p2) (by rw [Int.natAbs_mul, Nat.pow_add]; exact Nat.mul_lt_mul'' h1.t h2.t) (mulB_z h1 h2)
theorem add_isF {t1 t2 : Int} {b1 b2 : Nat} (p1 : 0 < b1) (p2 : 0 < b2) : IsF (addT t1 b1 t2 b2) (addB t1 b1 t2 b2) := low_isF (Nat.mul_pos p1 p2)
theorem mul_isF {t1 t2 : Int} {b1 b2 : Nat} (p1 : 0 < b1) (p2 : 0 < b2) : IsF (mulT t1 b1 t2 b2) (mulB t1 b1 t2 b2) := low_isF (Nat.mul_pos p1 p2)
theorem IsF.neg {t : Int} {b : Nat} (h : IsF t b) : IsF (-t) b := ⟨h.pos, by rw [Int.natAbs_neg]; exact h.cop⟩
end B
namespace B
open PySem PySem.Spec PyProof.Rows L2
/-- the text of these signs, the text of one sign -/
def tx (cs : List Nat) : Str := ⟨cs.toArray⟩
def sg (c : Nat) : Str := ⟨#[c]⟩
theorem tx_len (cs : List Nat) : (tx cs).length = cs.length := rfl
theorem tx_list (cs : List Nat) : (tx cs).cps.toList = cs := rfl
theorem tx_inj {a b : List Nat} (h : tx a = tx b) : a = b := by
  have := congrArg (fun z : Str => z.cps.toList) h
  exact this
section
open PySem.Builtin PySem.Builtin.Str PySem.StrLaws
theorem occ_done (s sub : Str) (hi : Nat) : ∀ (m cur : Nat) (st : Array Nat × Nat), st.1.size = 1 → (forIn (List.range' cur m) st (occBody s sub hi 1)).run.1 = st.1
  | 0, _, _, _ => rfl
  | m + 1, cur, st, h => by
    rw [List.range'_succ, List.forIn_cons]
    unfold occBody
    split
    · rename_i hc
      exact absurd hc.1.1.1 (by omega)
    · exact occ_done s sub hi m (cur + 1) st h
def occR (s sub : Str) (hi f cur m : Nat) : List Nat := (forIn (List.range' cur m) ((#[] : Array Nat), f) (occBody s sub hi 1)).run.1.toList
theorem occR_hit {s sub : Str} {hi f cur m : Nat} (hf : f ≤ cur) (hA : At s sub hi cur) : occR s sub hi f cur (m + 1) = [cur] := by
  unfold occR
  rw [List.range'_succ, List.forIn_cons]
  unfold occBody
  rw [if_pos ⟨⟨⟨by show (0 : Nat) < 1; decide, hf⟩, hA.1⟩, hA.2⟩]
  show (forIn (List.range' (cur + 1) m) ((#[] : Array Nat).push cur, cur + sub.length) (occBody s sub hi 1)).run.1.toList = [cur]
  rw [occ_done s sub hi m (cur + 1) _ rfl]
  rfl
theorem occR_miss {s sub : Str} {hi f cur m : Nat} (hA : ¬ At s sub hi cur) : occR s sub hi f cur (m + 1) = occR s sub hi f (cur + 1) m := by
  unfold occR
  rw [List.range'_succ, List.forIn_cons]
  unfold occBody
  rw [if_neg (fun hc => hA ⟨hc.1.2, hc.2⟩)]
  rfl
theorem occ_run1 (s sub : Str) (hi f : Nat) : ∀ (m cur : Nat), f ≤ cur → (∃ i, cur ≤ i ∧ i < cur + m ∧ At s sub hi i ∧ (∀ k, cur ≤ k → k < i → ¬ At s sub hi k) ∧ occR s sub hi f cur m = [i]) ∨
    ((∀ k, cur ≤ k → k < cur + m → ¬ At s sub hi k) ∧ occR s sub hi f cur m = [])
  | 0, cur, _ => .inr ⟨fun k h1 h2 => by omega, rfl⟩
  | m + 1, cur, hf => by
    by_cases hA : At s sub hi cur
    · exact .inl ⟨cur, Nat.le_refl _, by omega, hA, fun k h1 h2 => by omega, occR_hit hf hA⟩
    · rw [occR_miss hA]
      rcases occ_run1 s sub hi f m (cur + 1) (by omega) with ⟨i, h1, h2, h3, h4, h5⟩ | ⟨h1, h2⟩
      · refine .inl ⟨i, by omega, by omega, h3, fun k k1 k2 => ?_, h5⟩
        by_cases hk : k = cur
        · subst hk
          exact hA
        · exact h4 k (by omega) k2
      · refine .inr ⟨fun k k1 k2 => ?_, h2⟩
        by_cases hk : k = cur
        · subst hk
          exact hA
        · exact h1 k (by omega) (by omega)
theorem at_sign (cs : List Nat) (c i : Nat) : At (tx cs) (sg c) (tx cs).length i ↔ cs[i]? = some c := subAt_one (tx cs) c i
/-- where a sign first stands -/
theorem occ_sign {cs : List Nat} {c : Nat} (h : c ∈ cs) : ∃ i : Nat, occurrences (tx cs) (sg c) 0 (tx cs).length 1 = [i] ∧ cs[i]? = some c ∧ ∀ k, k < i → cs[k]? ≠ some c := by
  rw [occ_eq]
  rcases occ_run1 (tx cs) (sg c) (tx cs).length 0 ((tx cs).length + 1 - 0) 0 (Nat.le_refl _) with ⟨i, _, _, h3, h4, h5⟩ | ⟨h1, _⟩
  · exact ⟨i, h5, (at_sign cs c i).mp h3, fun k hk e => h4 k (by omega) hk ((at_sign cs c k).mpr e)⟩
  · exfalso
    obtain ⟨j, hj⟩ := List.getElem?_of_mem h
    have hlt := (List.getElem?_eq_some_iff.mp hj).1
    exact h1 j (by omega) (by rw [tx_len]; omega) ((at_sign cs c j).mpr hj)
theorem find_sign {cs : List Nat} {c : Nat} (h : c ∈ cs) : ∃ i : Nat, Txt.find (tx cs) (sg c) = (i : Int) ∧ occurrences (tx cs) (sg c) 0 (tx cs).length 1 = [i] ∧ cs[i]? = some c ∧ (∀ k, k < i → cs[k]? ≠ some c) := by
  obtain ⟨i, h1, h2, h3⟩ := occ_sign h
  refine ⟨i, ?_, h1, h2, h3⟩
  unfold Txt.find
  rw [h1]
end
section
variable {X : Cx}
/-- max(a tuple of ints) -/
theorem cr_maxT (hc : X.calm = true) : CallR X (.builtin "max") (fun vs H Q => ∃ (a : Addr) (ns : List Int), vs = [V.ref a] ∧ SqT X.K H a (ns.map V.int) ∧ 0 < ns.length ∧ ∀ m, m ∈ ns → (∀ y, y ∈ ns → y ≤ m) → Q (.int m) H) := by
  intro pins s σ H vs us Q I r h
  obtain ⟨a, ns, rfl, hs, hne, q⟩ := h
  obtain ⟨its, rv, hT, _⟩ := I.tuple hs
  rw [Vals.ref1 r]
  have hi := rv.ints
  obtain ⟨xs, e⟩ := hi.allInts.items
  have hn : numsOf (intItems xs).toList = ns := by rw [← e]; exact hi.numsOf
  rw [nums_intItems] at hn
  subst hn
  rw [e] at hT
  have hsz : 0 < xs.size := by simpa using hne
  have hlt : a < s.heap.objs.size := by obtain ⟨_, z, _⟩ := hT; exact Heap.lt_size z
  refine PySem.call_max_walk (PyProof.Rows.iter_tuple hT ?_)
  refine ⟨_, _, _, _, _, _, _, rfl, Walks.tuple (A := X.A.in1) (I.ok.hd hc) s.heap.objs.size a (Nat.ne_of_lt hlt) (intItems xs), ⟨⟨_, Heap.get?_push_size _ rfl, rfl, rfl⟩, ?_⟩, ?_, by simpa [intItems] using hsz, CmpOf.ints_gt (numAt xs) (fun _ _ => intItems_at), fun v h' tk hP hk => ?_⟩
  · obtain ⟨o, z, z2⟩ := hT
    exact ⟨o, Heap.get?_push_of_some _ z, z2⟩
  · intro b hb
    show b < (s.heap.push _).objs.size
    rw [Heap.size_push]
    rcases List.mem_cons.mp hb with rfl | hb
    · exact Nat.lt_succ_self _
    · rcases List.mem_cons.mp hb with rfl | hb
      · exact Nat.lt_succ_of_lt hlt
      · cases hb
  · obtain ⟨t, rfl⟩ := intItems_at (by simpa [intItems] using hP)
    obtain ⟨h1, h2⟩ := argBest_gt (numAt xs) (xs.size - 1)
    simp only [gt_iff_lt] at h1 h2
    have kp : ∀ b o, s.heap.get? b = some o → h'.get? b = some o := fun b o z => by
      refine hk b o (fun hm => ?_) (Heap.get?_push_of_some _ z)
      rcases List.mem_cons.mp hm with e1 | hm
      · exact absurd (e1 ▸ Heap.lt_size z) (Nat.lt_irrefl _)
      · cases hm
    refine ⟨.int _, H, I.kept kp, ⟨_, rfl⟩, q _ ?_ fun y hy => ?_⟩
    · rw [numAt_eq]
      exact PySem.getD_mem (by rw [List.length_map, Array.length_toList]; omega)
    · obtain ⟨j, hj, rfl⟩ := mem_getD hy
      rw [List.length_map, Array.length_toList] at hj
      rw [← numAt_eq]
      exact h2 j (by omega)
end
end B
namespace B
open PySem PySem.Spec PyProof.Rows L2
theorem OpR.weak {X : Cx} {f : Value → Value → Sem Value} {r r' : R2} (o : OpR X f r) (h : ∀ x y H Q, r' x y H Q → r x y H Q) : OpR X f r' := fun pins s σ H x y v u Q I rx ry q => o pins s σ H x y v u Q I rx ry (h x y H Q q)
theorem SlR.weak {X : Cx} {r r' : V → Option Int → Option Int → Hp → VK → Prop} (o : SlR X r) (h : ∀ x lo hi H Q, r' x lo hi H Q → r x lo hi H Q) : SlR X r' := by
  intro pins s σ H x v vl vu lo hi sl Q I rx hs pl pu q
  exact o pins s σ H x v vl vu lo hi sl Q I rx hs pl pu (h x lo hi H Q q)
def rCatS (K : PySem.W.Frag) : R2 := fun x y H Q => ∃ a b xs ys, x = .ref a ∧ y = .ref b ∧ SqT K H a xs ∧ SqT K H b ys ∧ xs.length + ys.length ≤ 100000 ∧ ∀ p H', SqT K H' p (xs ++ ys) → Same H H' → Q (.ref p) H'
theorem op_catS {X : Cx} : OpR X (binaryOp .Add) (rCatS X.K) := OpR.weak op_catA fun x y H Q h => by
  obtain ⟨a, b, xs, ys, rfl, rfl, ha, hb, hl, q⟩ := h
  refine ⟨a, b, xs, ys, rfl, rfl, ha, hb, Nat.le_trans hl (by decide), fun e => ?_, fun _ e => ?_, fun _ _ p np => ?_⟩
  · subst e
    exact q b H hb (Same.refl H)
  · subst e
    exact q a H (by rw [List.append_nil]; exact ha) (Same.refl H)
  · exact q p _ sqt_upd (same_upd np)
def rSlS (K : PySem.W.Frag) : V → Option Int → Option Int → Hp → VK → Prop := fun x lo hi H Q => ∃ a xs, x = .ref a ∧ SqT K H a xs ∧ ∀ p H', SqT K H' p (cutV xs lo hi) → Same H H' → Q (.ref p) H'
theorem cutV_whole {xs : List V} {lo hi : Option Int} (h : HT.sIx xs.length 0 lo = 0 ∧ HT.sIx xs.length xs.length hi = xs.length) : cutV xs lo hi = xs := by
  unfold cutV
  rw [h.1, h.2, List.drop_zero, Nat.sub_zero, List.take_length]
theorem sl_tupS {X : Cx} : SlR X (rSlS X.K) := SlR.weak sl_tupA fun x lo hi H Q h => by
  obtain ⟨a, xs, rfl, ha, q⟩ := h
  refine ⟨a, xs, rfl, ha, fun e => ?_, fun _ p np => ?_⟩
  · exact q a H (by rw [cutV_whole e]; exact ha) (Same.refl H)
  · exact q p _ sqt_upd (same_upd np)
theorem tuple_mul1 (l : Addr) (items : Array Value) (n : Nat) (dd : Option Addr) (sl : Array (Option Value)) (u : Tok) :
    Meets (Builtin.«tuple.__mul__» ⟨[.ref l, .int 1 u], []⟩) (fun _ R s => s.heap.get? l = some { cls := .type "tuple", dict := dd, data := .seq items n, slots := sl } ∧ R (.ok (.ret (Value.ref l))) s) :=
  .of_wp fun prog w A R s h => by
    obtain ⟨hp, g, d, tk, os⟩ := s
    obtain ⟨hl, h⟩ := h
    have f1 := AutoSeq1.idx_int
    wp_walk using wpAny_loadPart' hl
    exact ⟨_, rfl, h⟩
theorem tuple_mul0 (l : Addr) (items : Array Value) (n : Nat) (dd : Option Addr) (sl : Array (Option Value)) (x : Int) (u : Tok) (c0 : (decide (x < -(2 ^ 63)) || decide (x ≥ 2 ^ 63)) = false) (c1 : (items.isEmpty || x == 1) = false) (c2 : (decide (x ≤ 0) || items.isEmpty) = true) :
    Meets (Builtin.«tuple.__mul__» ⟨[.ref l, .int x u], []⟩) (fun _ R s => s.heap.get? l = some { cls := .type "tuple", dict := dd, data := .seq items n, slots := sl } ∧
      R (.ok (.ret (Value.ref s.heap.objs.size))) { s with heap := s.heap.push { cls := Value.type "tuple", data := Data.seq #[] }, toks := s.toks }) :=
  .of_wp fun prog w A R s h => by
    obtain ⟨hp, g, d, tk, os⟩ := s
    obtain ⟨hl, h⟩ := h
    have f1 := AutoSeq1.idx_int
    wp_walk using wpAny_loadPart' hl
    repeat (first
      | (refine wpAny_ite_false (decide_eq_false (by rw [c0]; decide)) ?_; wp_walk using wpAny_loadPart' hl)
      | (refine wpAny_ite_false (decide_eq_false (by rw [c1]; decide)) ?_; wp_walk using wpAny_loadPart' hl)
      | (refine wpAny_ite_true (decide_eq_true c2) ?_; wp_walk using wpAny_loadPart' hl))
    exact ⟨_, rfl, h⟩
/-- a tuple so often, also once or not at all -/
def rRepN (K : PySem.W.Frag) : R2 := fun x y H Q => ∃ l k xs, x = .ref l ∧ y = .int k ∧ SqT K H l xs ∧ xs ≠ [] ∧ -1000 ≤ k ∧ k ≤ 1000 ∧ xs.length ≤ 1000 ∧ ∀ p H', SqT K H' p (List.replicate k.toNat xs).flatten → Same H H' → Q (.ref p) H'
theorem op_repN {X : Cx} : OpR X (binaryOp .Mult) (rRepN X.K) := by
  intro pins s σ H x y v u Q I rx ry h
  obtain ⟨l, k, xs, rfl, rfl, hT, hne, h0, h1, hz, q⟩ := h
  by_cases hk : 2 ≤ k
  · exact op_repT pins s σ H _ _ v u Q I rx ry ⟨l, k, xs, rfl, rfl, hT, hne, hk, h1, hz, fun p np => q p _ sqt_upd (same_upd np)⟩
  cases rx
  obtain ⟨t, rfl⟩ := ry
  obtain ⟨its, r, ⟨⟨cls, dd, data, sl⟩, ho, hc, n, hd⟩, hs⟩ := I.tuple hT
  simp only at hc hd
  subst hc hd
  by_cases h1' : k = 1
  · subst h1'
    refine wpAny_binaryOp_repeat_ref (T := "tuple") (U := "int") (by decide) ⟨_, ho, rfl⟩ (fun s' => typeIs_int s' 1 t) noFill_tuple_mul F.fills_int_mul F.slot_int_rmul repeat_tuple F.slot_int_index.lookup
      (call_meets F.slot_int_rmul (typeIs_int s 1 t) F.entry_int_rmul (F.args_int_rmul_2 _ _) (int_rmul_tuple 1 t l its.toArray n dd sl)
        ⟨ho, rfl, ⟨_, ho, rfl⟩, call_meets F.slot_tuple_mul ⟨_, ho, rfl⟩ F.entry_tuple_mul (F.args_tuple_mul_2 _ _) (tuple_mul1 l its.toArray n dd sl t) ⟨ho, ?_⟩⟩)
    exact ⟨.ref l, H, I, rfl, q l H (by show SqT X.K H l (xs ++ []); rw [List.append_nil]; exact hT) (Same.refl H)⟩
  · have hle : its.length = xs.length := r.length.symm
    have hi : its.toArray.isEmpty = false := by
      cases its with
      | nil => exact absurd (List.eq_nil_of_length_eq_zero hle.symm) hne
      | cons a b => rfl
    have c0 : (decide (k < -(2 ^ 63)) || decide (k ≥ 2 ^ 63)) = false := by
      rw [decide_eq_false (by omega), decide_eq_false (by omega)]; rfl
    have c1 : (its.toArray.isEmpty || k == 1) = false := by
      rw [hi, Bool.false_or]
      exact beq_eq_false_iff_ne.mpr h1'
    have c2 : (decide (k ≤ 0) || its.toArray.isEmpty) = true := by
      rw [decide_eq_true (by omega)]; rfl
    refine wpAny_binaryOp_repeat_ref (T := "tuple") (U := "int") (by decide) ⟨_, ho, rfl⟩ (fun s' => typeIs_int s' k t) noFill_tuple_mul F.fills_int_mul F.slot_int_rmul repeat_tuple F.slot_int_index.lookup
      (call_meets F.slot_int_rmul (typeIs_int s k t) F.entry_int_rmul (F.args_int_rmul_2 _ _) (int_rmul_tuple k t l its.toArray n dd sl)
        ⟨ho, rfl, ⟨_, ho, rfl⟩, call_meets F.slot_tuple_mul ⟨_, ho, rfl⟩ F.entry_tuple_mul (F.args_tuple_mul_2 _ _) (tuple_mul0 l its.toArray n dd sl k t c0 c1 c2) ⟨ho, ?_⟩⟩)
    have ek : k.toNat = 0 := by omega
    refine ⟨.ref s.heap.objs.size, _, I.laid (t' := s.toks) (o := .tup []) (fun b ob q => Heap.get?_push_of_some _ q) (Nat.le_refl _) ?_, rfl, q _ _ (by rw [ek]; exact sqt_upd) (same_upd (I.hok.fresh (Nat.le_refl _)))⟩
    exact ⟨Nat.zero_le _, [], .nil, IsTup.new _ _⟩
theorem cut_last (xs : List V) (h : xs ≠ []) : cutV xs none (some (-1)) = xs.dropLast := by
  have hl : 0 < xs.length := by
    cases xs with
    | nil => exact absurd rfl h
    | cons a b => simp
  unfold cutV
  rw [HT.sIx_none, List.drop_zero, Nat.sub_zero, List.dropLast_eq_take]
  congr 1
  show (if (-1 : Int) < 0 then ((-1 : Int) + (xs.length : Int)).toNat else min (-1 : Int).toNat xs.length) = xs.length - 1
  rw [if_pos (by decide)]
  omega
theorem cut_last2 (xs : List V) : cutV xs none (some (-2)) = xs.take (xs.length - 2) := by
  unfold cutV
  rw [HT.sIx_none, List.drop_zero, Nat.sub_zero]
  congr 1
  show (if (-2 : Int) < 0 then ((-2 : Int) + (xs.length : Int)).toNat else min (-2 : Int).toNat xs.length) = xs.length - 2
  rw [if_pos (by decide)]
  omega
theorem cut_end2 (xs : List V) : cutV xs (some (-2)) none = xs.drop (xs.length - 2) := by
  unfold cutV
  rw [HT.sIx_none]
  have e : HT.sIx xs.length 0 (some (-2)) = xs.length - 2 := by
    show (if (-2 : Int) < 0 then ((-2 : Int) + (xs.length : Int)).toNat else min (-2 : Int).toNat xs.length) = xs.length - 2
    rw [if_pos (by decide)]
    omega
  rw [e, List.take_of_length_le (by rw [List.length_drop]; omega)]
inductive Wd where
  | lt (c : Nat) | yes | no | nt | an | orr | sm
  deriving DecidableEq
def Wd.s : Wd → Str
  | .lt c => sg c
  | .yes => "yes" | .no => "no" | .nt => "not" | .an => "and" | .orr => "or" | .sm => "same"
def wv (w : Wd) : V := .str w.s
/-- how high the heap is behind the words -/
def ht : Nat → List Wd → Option Nat
  | h, [] => some h
  | h, .lt _ :: r => ht (h + 1) r
  | h, .yes :: r => ht (h + 1) r
  | h, .no :: r => ht (h + 1) r
  | h, .nt :: r => if 1 ≤ h then ht h r else none
  | h, .an :: r => if 2 ≤ h then ht (h - 1) r else none
  | h, .orr :: r => if 2 ≤ h then ht (h - 1) r else none
  | h, .sm :: r => if 2 ≤ h then ht (h - 1) r else none
theorem ht_add : ∀ (ws : List Wd) (h k d : Nat), ht h ws = some k → ht (h + d) ws = some (k + d)
  | [], h, k, d, e => by
    have e : h = k := Option.some.inj e
    subst e
    rfl
  | w :: r, h, k, d, e => by
    cases w with
    | lt c => have := ht_add r (h + 1) k d e; rw [Nat.add_right_comm] at this; exact this
    | yes => have := ht_add r (h + 1) k d e; rw [Nat.add_right_comm] at this; exact this
    | no => have := ht_add r (h + 1) k d e; rw [Nat.add_right_comm] at this; exact this
    | nt =>
      unfold ht at e ⊢
      by_cases h1 : 1 ≤ h
      · rw [if_pos h1] at e
        rw [if_pos (by omega)]
        exact ht_add r h k d e
      · rw [if_neg h1] at e
        cases e
    | an =>
      unfold ht at e ⊢
      by_cases h1 : 2 ≤ h
      · rw [if_pos h1] at e
        rw [if_pos (by omega), show h + d - 1 = h - 1 + d by omega]
        exact ht_add r (h - 1) k d e
      · rw [if_neg h1] at e
        cases e
    | orr =>
      unfold ht at e ⊢
      by_cases h1 : 2 ≤ h
      · rw [if_pos h1] at e
        rw [if_pos (by omega), show h + d - 1 = h - 1 + d by omega]
        exact ht_add r (h - 1) k d e
      · rw [if_neg h1] at e
        cases e
    | sm =>
      unfold ht at e ⊢
      by_cases h1 : 2 ≤ h
      · rw [if_pos h1] at e
        rw [if_pos (by omega), show h + d - 1 = h - 1 + d by omega]
        exact ht_add r (h - 1) k d e
      · rw [if_neg h1] at e
        cases e
theorem ht_app : ∀ (a b : List Wd) (h k : Nat), ht h a = some k → ht h (a ++ b) = ht k b
  | [], b, h, k, e => by
    have e : h = k := Option.some.inj e
    subst e
    rfl
  | w :: r, b, h, k, e => by
    rw [List.cons_append]
    cases w with
    | lt c => exact ht_app r b (h + 1) k e
    | yes => exact ht_app r b (h + 1) k e
    | no => exact ht_app r b (h + 1) k e
    | nt =>
      simp only [ht] at e ⊢
      by_cases h1 : 1 ≤ h
      · rw [if_pos h1] at e ⊢
        exact ht_app r b h k e
      · rw [if_neg h1] at e
        cases e
    | an =>
      simp only [ht] at e ⊢
      by_cases h1 : 2 ≤ h
      · rw [if_pos h1] at e ⊢
        exact ht_app r b (h - 1) k e
      · rw [if_neg h1] at e
        cases e
    | orr =>
      simp only [ht] at e ⊢
      by_cases h1 : 2 ≤ h
      · rw [if_pos h1] at e ⊢
        exact ht_app r b (h - 1) k e
      · rw [if_neg h1] at e
        cases e
    | sm =>
      simp only [ht] at e ⊢
      by_cases h1 : 2 ≤ h
      · rw [if_pos h1] at e ⊢
        exact ht_app r b (h - 1) k e
      · rw [if_neg h1] at e
        cases e
/-- a saying over the letters cs -/
structure Sy (cs : List Nat) (ws : List Wd) : Prop where
  ht : ht 0 ws = some 1
  lt : ∀ c, Wd.lt c ∈ ws → c ∈ cs
theorem Sy.not {cs : List Nat} {ws : List Wd} (h : Sy cs ws) : Sy cs (ws ++ [.nt]) := by
  refine ⟨by rw [ht_app _ _ _ _ h.ht]; rfl, fun c hc => ?_⟩
  rcases List.mem_append.mp hc with z | z
  · exact h.lt c z
  · simp at z
inductive Jn : Wd → Prop
  | an : Jn .an
  | orr : Jn .orr
  | sm : Jn .sm
theorem Sy.join {cs : List Nat} {a b : List Wd} {w : Wd} (ha : Sy cs a) (hb : Sy cs b) (hw : Jn w) : Sy cs (a ++ b ++ [w]) := by
  refine ⟨?_, fun c hc => ?_⟩
  · rw [List.append_assoc, ht_app _ _ _ _ ha.ht]
    have := ht_add b 0 1 1 hb.ht
    rw [ht_app _ _ _ _ this]
    cases hw <;> rfl
  · rcases List.mem_append.mp hc with z | z
    · rcases List.mem_append.mp z with z | z
      · exact ha.lt c z
      · exact hb.lt c z
    · rw [List.mem_singleton] at z
      subst z
      cases hw
theorem Sy.leaf {cs : List Nat} {c : Nat} (h : c ∈ cs) : Sy cs [.lt c] := ⟨rfl, fun d hd => by
  rw [List.mem_singleton] at hd
  cases hd
  exact h⟩
theorem Sy.yes {cs : List Nat} : Sy cs [.yes] := ⟨rfl, fun d hd => by simp at hd⟩
/-- what a word makes of the heap, its top ahead -/
def stp (v : Nat → Bool) : List Bool → Wd → List Bool
  | st, .lt c => v c :: st
  | st, .yes => true :: st
  | st, .no => false :: st
  | a :: st, .nt => (!a) :: st
  | b :: a :: st, .an => (a && b) :: st
  | b :: a :: st, .orr => (a || b) :: st
  | b :: a :: st, .sm => (a == b) :: st
  | st, _ => st
def run (v : Nat → Bool) (st : List Bool) (ws : List Wd) : List Bool := ws.foldl (stp v) st
/-- whether a saying holds -/
def sval (v : Nat → Bool) (ws : List Wd) : Bool := (run v [] ws).headD false
/-- one step: the word fits the heap -/
theorem ht_step {st : List Bool} {w : Wd} {r : List Wd} {k : Nat} (v : Nat → Bool) (h : ht st.length (w :: r) = some k) : ht (stp v st w).length r = some k := by
  cases w with
  | lt c => exact h
  | yes => exact h
  | no => exact h
  | nt =>
    unfold ht at h
    match st, h with
    | [], h => cases h
    | a :: st, h => exact h
  | an =>
    unfold ht at h
    match st, h with
    | [], h => cases h
    | [a], h => cases h
    | b :: a :: st, h => exact h
  | orr =>
    unfold ht at h
    match st, h with
    | [], h => cases h
    | [a], h => cases h
    | b :: a :: st, h => exact h
  | sm =>
    unfold ht at h
    match st, h with
    | [], h => cases h
    | [a], h => cases h
    | b :: a :: st, h => exact h
theorem ht_nt {st : List Bool} {r : List Wd} {k : Nat} (h : ht st.length (.nt :: r) = some k) : ∃ a s, st = a :: s := by
  unfold ht at h
  match st, h with
  | [], h => cases h
  | a :: s, _ => exact ⟨a, s, rfl⟩
theorem ht_jn {st : List Bool} {w : Wd} {r : List Wd} {k : Nat} (hw : Jn w) (h : ht st.length (w :: r) = some k) : ∃ b a s, st = b :: a :: s := by
  cases hw <;>
  · unfold ht at h
    match st, h with
    | [], h => cases h
    | [a], h => cases h
    | b :: a :: s, _ => exact ⟨b, a, s, rfl⟩
theorem run_cons (v : Nat → Bool) (st : List Bool) (w : Wd) (r : List Wd) : run v st (w :: r) = run v (stp v st w) r := rfl
theorem run_len (v : Nat → Bool) : ∀ (ws : List Wd) (st : List Bool) (k : Nat), ht st.length ws = some k → (run v st ws).length = k
  | [], st, k, h => Option.some.inj h
  | w :: r, st, k, h => run_len v r (stp v st w) k (ht_step v h)
theorem run_sy {cs : List Nat} {ws : List Wd} (v : Nat → Bool) (h : Sy cs ws) : run v [] ws = [sval v ws] := by
  have := run_len v ws [] 1 h.ht
  unfold sval
  match run v [] ws, this with
  | [b], _ => rfl
theorem sg_ne {c : Nat} {x : Str} (h : x.cps.size ≠ 1) : sg c ≠ x := by
  intro e
  rw [← e] at h
  exact h rfl
def Wd.isLt : Wd → Bool
  | .lt _ => true
  | _ => false
/-- a word is this one, by its text -/
theorem wd_eq (w u : Wd) (hu : u.isLt = false) : decide (wv w = wv u) = decide (w = u) := by
  cases w with
  | lt c =>
    have : sg c ≠ u.s := by
      cases u <;> first | (exact absurd (show true = false from hu) (by decide)) | exact sg_ne (by decide +kernel)
    have e : decide (wv (.lt c) = wv u) = false := decide_eq_false (fun e => this (V.str.inj e))
    rw [e]
    cases u <;> first | (exact absurd (show true = false from hu) (by decide)) | rfl
  | _ => cases u <;> first | (exact absurd (show true = false from hu) (by decide)) | decide +kernel
end B
namespace B
open PySem PySem.Spec PyProof.Rows L2
def bc (b : Bool) : Nat := if b then 49 else 48
/-- a world's text -/
def wtx (bs : List Bool) : Str := tx (bs.map bc)
/-- the letter c at the world bs over the letters cs -/
def vl (cs : List Nat) (bs : List Bool) (c : Nat) : Bool := bs.getD (cs.idxOf c) false
theorem idx_first : ∀ {cs : List Nat} {c i : Nat}, cs[i]? = some c → (∀ k, k < i → cs[k]? ≠ some c) → cs.idxOf c = i
  | [], c, i, h, _ => by simp at h
  | a :: r, c, 0, h, _ => by
    have e : a = c := Option.some.inj h
    subst e
    simp
  | a :: r, c, i + 1, h, n => by
    have h0 : a ≠ c := fun e => n 0 (by omega) (by rw [e]; rfl)
    have ih := idx_first (cs := r) (c := c) (i := i) h fun k hk e => n (k + 1) (by omega) e
    rw [List.idxOf_cons, ih]
    have hb : (a == c) = false := beq_eq_false_iff_ne.mpr h0
    rw [hb]
    rfl
theorem letter_at {cs : List Nat} {c : Nat} (h : c ∈ cs) : ∃ i : Nat, cs.idxOf c = i ∧ cs[i]? = some c ∧ Txt.find (tx cs) (sg c) = (i : Int) ∧ Builtin.Str.occurrences (tx cs) (sg c) 0 (tx cs).length 1 = [i] := by
  obtain ⟨i, h1, h2, h3, h4⟩ := find_sign h
  exact ⟨i, idx_first h3 h4, h3, h1, h2⟩
theorem bc_int (b : Bool) : PySem.intText? (sg (bc b)) = some (if b then 1 else 0) := by
  cases b <;> decide +kernel
/-- the world with this number over n letters -/
def bitsN : Nat → Nat → List Bool
  | 0, _ => []
  | n + 1, k => decide (k / 2 ^ n % 2 = 1) :: bitsN n k
theorem bitsN_len : ∀ n k, (bitsN n k).length = n
  | 0, _ => rfl
  | n + 1, k => by
    rw [bitsN, List.length_cons, bitsN_len n k]
/-- all worlds over n letters, rising -/
def allW (n : Nat) : List (List Bool) := (List.range (2 ^ n)).map (bitsN n)
theorem allW_len {n : Nat} {bs : List Bool} (h : bs ∈ allW n) : bs.length = n := by
  obtain ⟨k, _, rfl⟩ := List.mem_map.mp h
  exact bitsN_len n k
/-- the values are these sayings -/
def Rws (K : PySem.W.Frag) (H : Hp) : List V → List (List Wd) → Prop
  | [], [] => True
  | v :: vs, r :: rs => (∃ a, v = .ref a ∧ SqT K H a (r.map wv)) ∧ Rws K H vs rs
  | _, _ => False
theorem Rws.len {K : PySem.W.Frag} {H : Hp} : ∀ {vs : List V} {rs : List (List Wd)}, Rws K H vs rs → vs.length = rs.length
  | [], [], _ => rfl
  | _ :: vs, _ :: rs, h => by rw [List.length_cons, List.length_cons, Rws.len h.2]
theorem Rws.mono {K : PySem.W.Frag} {H H' : Hp} (k : ∀ a xs, SqT K H a xs → SqT K H' a xs) : ∀ {vs : List V} {rs : List (List Wd)}, Rws K H vs rs → Rws K H' vs rs
  | [], [], _ => trivial
  | _ :: _, _ :: _, h => ⟨by obtain ⟨a, e, q⟩ := h.1; exact ⟨a, e, k _ _ q⟩, Rws.mono k h.2⟩
theorem Rws.getV {K : PySem.W.Frag} {H : Hp} : ∀ {vs : List V} {rs : List (List Wd)} {j : Nat} {v : V}, Rws K H vs rs → vs[j]? = some v → ∃ a r, v = .ref a ∧ rs[j]? = some r ∧ SqT K H a (r.map wv)
  | [], [], j, r, _, e => by simp at e
  | v :: vs, q :: rs, 0, r, h, e => by
    obtain ⟨a, e1, z⟩ := h.1
    have e : v = r := Option.some.inj e
    subst e
    exact ⟨a, q, e1, rfl, z⟩
  | _ :: vs, _ :: rs, j + 1, r, h, e => Rws.getV (vs := vs) (rs := rs) (j := j) h.2 (by simpa using e)
theorem Rws.app {K : PySem.W.Frag} {H : Hp} : ∀ {vs us : List V} {rs ss : List (List Wd)}, Rws K H vs rs → Rws K H us ss → Rws K H (vs ++ us) (rs ++ ss)
  | [], _, [], _, _, h => h
  | _ :: _, _, _ :: _, _, h, h2 => ⟨h.1, Rws.app h.2 h2⟩
theorem Rws.one {K : PySem.W.Frag} {H : Hp} {a : Addr} {r : List Wd} (h : SqT K H a (r.map wv)) : Rws K H [.ref a] [r] := ⟨⟨a, rfl, h⟩, trivial⟩
theorem Rws.same {K : PySem.W.Frag} {H H' : Hp} {vs : List V} {rs : List (List Wd)} (h : Rws K H vs rs) (e : Same H H') : Rws K H' vs rs := h.mono fun _ _ q => Same.tup e q
/-- changes of one list alone leave tuples as they are -/
theorem tup_upd {K : PySem.W.Frag} {H : Hp} {l a : Addr} {xs ys : List V} {zs : List V} (hl : H l = some (.lst xs)) (h : SqT K H a ys) : SqT K (upd H l (.lst zs)) a ys := by
  rcases h with (h | ⟨o, h⟩) | h
  · exact .inl (.inl (by rw [upd_ne (ne_of h hl (by intro q; cases q))]; exact h))
  · exact .inl (.inr ⟨o, by rw [upd_ne (ne_of h hl (by intro q; cases q))]; exact h⟩)
  · exact .inr h
theorem Drw.mut {H : Hp} {d : Dr} {b : Nat} {p : Addr} {o : HO} (h : Drw H d b) (n1 : p ≠ d.dr) (n2 : p ≠ d.cl) (n3 : p ≠ d.rs) : Drw (L2.upd H p o) d b := by
  obtain ⟨⟨cs, rr, k, h1, h2, h3, h4⟩, ne⟩ := h
  exact ⟨⟨cs, rr, k, by rw [upd_ne n1.symm]; exact h1, by rw [upd_ne n2.symm]; exact h2, by rw [upd_ne n3.symm]; exact h3, h4⟩, ne⟩
theorem Drw.nc {H : Hp} {d : Dr} {b : Nat} {p : Addr} (h : Drw H d b) (n : H p = none) : p ≠ d.cl := by
  obtain ⟨⟨cs, rr, k, h1, h2, h3, h4⟩, ne⟩ := h
  exact (ne_of_none h2 n).symm
theorem iteW {w u : Wd} {A B : Prop} (hu : u.isLt = false) (h1 : w = u → A) (h2 : w ≠ u → B) : if decide (wv w = wv u) = true then A else B := by
  rw [wd_eq w u hu]
  exact ite2 (fun e => h1 (of_decide_eq_true e)) (fun e => h2 fun z => e (decide_eq_true z))
/-- what a word that wants nothing lays upon the heap -/
def lv (v : Nat → Bool) : Wd → Bool
  | .lt c => v c
  | .yes => true
  | _ => false
inductive Lf (cs : List Nat) : Wd → Prop
  | lt {c : Nat} (h : c ∈ cs) : Lf cs (.lt c)
  | yes : Lf cs .yes
  | no : Lf cs .no
def hp (st : List Bool) : List V := st.reverse.map V.bl
def bi (b : Bool) : Int := if b then 1 else 0
def hq (st : List Bool) : List V := st.reverse.map fun b => V.int (bi b)
theorem hq_cons (b : Bool) (st : List Bool) : hq (b :: st) = hq st ++ [.int (bi b)] := by
  unfold hq
  rw [List.reverse_cons, List.map_append]
  rfl
theorem hq_len (st : List Bool) : (hq st).length = st.length := by
  unfold hq
  rw [List.length_map, List.length_reverse]
theorem at_last2 {xs : List V} {y z : V} : atI (xs ++ [y] ++ [z]) (-2) = some y := by
  unfold atI ixN
  rw [List.length_append, List.length_append]
  show (if (0 : Int) ≤ -2 then _ else if -((xs.length + 1 + 1 : Nat) : Int) ≤ -2 then some (-2 + ((xs.length + 1 + 1 : Nat) : Int)).toNat else none).bind _ = _
  rw [if_neg (by decide), if_pos (by omega)]
  have e : (-2 + ((xs.length + 1 + 1 : Nat) : Int)).toNat = xs.length := by omega
  rw [e]
  show (xs ++ [y] ++ [z])[xs.length]? = _
  rw [List.append_assoc, List.getElem?_append_right (Nat.le_refl _), Nat.sub_self]
  rfl
theorem cut2 {xs : List V} {y z : V} : cutV (xs ++ [y] ++ [z]) none (some (-2)) = xs ∧ cutV (xs ++ [y] ++ [z]) (some (-2)) none = [y, z] := by
  rw [cut_last2, cut_end2, List.append_assoc, List.length_append]
  show (xs ++ [y, z]).take (xs.length + 2 - 2) = xs ∧ (xs ++ [y, z]).drop (xs.length + 2 - 2) = [y, z]
  rw [Nat.add_sub_cancel]
  exact ⟨List.take_left, List.drop_left⟩
/-- letters: a rising row of small letters -/
structure Ls (n : Nat) (cs : List Nat) : Prop where
  pos : 1 ≤ cs.length
  most : cs.length ≤ n
  rise : cs.Pairwise (· < ·)
  small : ∀ c ∈ cs, 97 ≤ c ∧ c < 123
theorem cut_take (xs : List V) (j : Nat) : cutV xs none (some (j : Int)) = xs.take j := by
  unfold cutV
  rw [HT.sIx_none, HT.sIx_nat, List.drop_zero, Nat.sub_zero]
  rcases Nat.le_total j xs.length with h | h
  · rw [Nat.min_eq_left h]
  · rw [Nat.min_eq_right h, List.take_length, List.take_of_length_le h]
theorem cut_drop (xs : List V) (j : Nat) : cutV xs (some (j : Int)) none = xs.drop j := by
  unfold cutV
  rw [HT.sIx_none, HT.sIx_nat]
  rcases Nat.le_total j xs.length with h | h
  · rw [Nat.min_eq_left h, List.take_of_length_le (by rw [List.length_drop]; omega)]
  · rw [Nat.min_eq_right h, List.drop_length, List.take_nil, List.drop_of_length_le h]
theorem flat_rep {α : Type} (x : α) : ∀ n : Nat, (List.replicate n [x]).flatten = List.replicate n x
  | 0 => rfl
  | n + 1 => by
    rw [List.replicate_succ, List.flatten_cons, flat_rep x n, List.replicate_succ]
    rfl
def wdat (r : List Wd) : PyData := .tuple (r.map fun w => .str w.s)
theorem wd_ok {cs : List Nat} (hs : ∀ c ∈ cs, c < 123) (w : Wd) (h : ∀ c, w = .lt c → c ∈ cs) : PyData.strOk w.s = true := by
  cases w with
  | lt c =>
    have := hs c (h c rfl)
    show (#[c] : Array Nat).all _ = true
    simp
    omega
  | _ => decide +kernel
theorem wdat_ok {cs : List Nat} (hs : ∀ c ∈ cs, c < 123) : ∀ (r : List Wd), (∀ c, Wd.lt c ∈ r → c ∈ cs) → PyData.canLayAll0 (r.map fun w => .str w.s) = true
  | [], _ => rfl
  | w :: r, h => by
    show (PyData.strOk w.s && PyData.canLayAll0 (r.map fun w => .str w.s)) = true
    rw [wd_ok hs w (fun c e => h c (by rw [e]; exact List.mem_cons_self ..)), wdat_ok hs r fun c hc => h c (List.mem_cons_of_mem _ hc)]
    rfl
theorem wdat_depth : ∀ r : List Wd, PyData.depthAll (r.map fun w => PyData.str w.s) = 0
  | [] => rfl
  | w :: r => by
    show max 0 (PyData.depthAll (r.map fun w => PyData.str w.s)) = 0
    rw [wdat_depth r]
    rfl
theorem wdp_all {K : PySem.W.Frag} {H : Hp} : ∀ r : List Wd, DpAll K H (r.map wv) (r.map fun w => .str w.s)
  | [] => .nil
  | w :: r => .cons (.str w.s) (wdp_all r)
theorem wdp {K : PySem.W.Frag} {H : Hp} {a : Addr} {r : List Wd} (h : SqT K H a (r.map wv)) : Dp K H (.ref a) (wdat r) := .tup h (wdp_all r)
theorem Rws.dp {K : PySem.W.Frag} {H : Hp} : ∀ {vs : List V} {rs : List (List Wd)}, Rws K H vs rs → DpAll K H vs (rs.map wdat)
  | [], [], _ => .nil
  | _ :: _, _ :: _, h => by
    obtain ⟨a, rfl, q⟩ := h.1
    exact .cons (wdp q) (Rws.dp h.2)
theorem rows_ok {cs : List Nat} (hs : ∀ c ∈ cs, c < 123) : ∀ (rs : List (List Wd)), (∀ r ∈ rs, ∀ c, Wd.lt c ∈ r → c ∈ cs) → PyData.canLayAll0 (rs.map wdat) = true ∧ PyData.depthAll (rs.map wdat) ≤ 1
  | [], _ => ⟨rfl, by decide⟩
  | r :: rs, h => by
    have ih := rows_ok hs rs fun x hx => h x (List.mem_cons_of_mem _ hx)
    have e1 : (wdat r).canLay0 = true := wdat_ok hs r (h r (List.mem_cons_self ..))
    have e2 : (wdat r).depth = 1 := by
      show PyData.depthAll (r.map fun w => PyData.str w.s) + 1 = 1
      rw [wdat_depth]
    refine ⟨?_, ?_⟩
    · show ((wdat r).canLay0 && PyData.canLayAll0 (rs.map wdat)) = true
      rw [e1, ih.1]
      rfl
    · show max (wdat r).depth (PyData.depthAll (rs.map wdat)) ≤ 1
      rw [e2]
      omega
theorem rows_shaped {cs : List Nat} (hs : ∀ c ∈ cs, c < 123) {rs : List (List Wd)} (h : ∀ r ∈ rs, ∀ c, Wd.lt c ∈ r → c ∈ cs) : SeqAt.shaped (.list (rs.map wdat)) = true := by
  obtain ⟨a, b⟩ := rows_ok hs rs h
  unfold SeqAt.shaped
  have e1 : (PyData.list (rs.map wdat)).canLay0 = true := a
  have e2 : (PyData.list (rs.map wdat)).depth ≤ 64 := by
    show PyData.depthAll (rs.map wdat) + 1 ≤ 64
    omega
  rw [e1, decide_eq_true e2]
  rfl
theorem eqv_nil (ds : List PyData) : PyData.eqv (.list ds) (.list []) = ds.isEmpty := by
  cases ds <;> rfl
theorem pow_at {n : Nat} (h : n ≤ 6) : atI [V.int 1, V.int 2, V.int 4, V.int 8, V.int 16, V.int 32, V.int 64] (n : Int) = some (.int ((2 ^ n : Nat) : Int)) := by
  have : n = 0 ∨ n = 1 ∨ n = 2 ∨ n = 3 ∨ n = 4 ∨ n = 5 ∨ n = 6 := by omega
  rcases this with rfl | rfl | rfl | rfl | rfl | rfl | rfl <;> rfl
theorem tx_app (a b : List Nat) : tx a ++ tx b = tx (a ++ b) := TL.ext_tl (by rw [TL.tl_append]; rfl)
theorem digit_cons (k : Nat) (bs : List Bool) : (Str.ofString (toString ((k : Int) % 2)) : Str) ++ wtx bs = wtx (decide (k % 2 = 1) :: bs) := by
  have h : k % 2 = 0 ∨ k % 2 = 1 := by omega
  have e : ((k : Int) % 2) = ((k % 2 : Nat) : Int) := rfl
  rw [e]
  rcases h with h | h
  · rw [h]
    show (Str.ofString (toString ((0 : Nat) : Int)) : Str) ++ tx (bs.map bc) = tx (48 :: bs.map bc)
    rw [show (Str.ofString (toString ((0 : Nat) : Int)) : Str) = tx [48] by decide +kernel, tx_app]
    rfl
  · rw [h]
    show (Str.ofString (toString ((1 : Nat) : Int)) : Str) ++ tx (bs.map bc) = tx (49 :: bs.map bc)
    rw [show (Str.ofString (toString ((1 : Nat) : Int)) : Str) = tx [49] by decide +kernel, tx_app]
    rfl
theorem digit_len (k : Nat) : (Str.ofString (toString ((k : Int) % 2)) : Str).length = 1 := by
  have h : k % 2 = 0 ∨ k % 2 = 1 := by omega
  have e : ((k : Int) % 2) = ((k % 2 : Nat) : Int) := rfl
  rw [e]
  rcases h with h | h <;> rw [h] <;> decide +kernel
theorem take_filter {α : Type} (P : α → Bool) (l : List α) (i : Nat) (x : α) (h : l[i]? = some x) : (l.take (i + 1)).filter P = (l.take i).filter P ++ (if P x then [x] else []) := by
  rw [List.take_add_one, h, List.filter_append]
  congr 1
  show (List.filter P [x]) = _
  cases e : P x <;> simp [e]
theorem allW_get {n i : Nat} (h : i < 2 ^ n) : (allW n)[i]? = some (bitsN n i) := by
  unfold allW
  rw [List.getElem?_map, List.getElem?_range h]
  rfl
theorem allW_length (n : Nat) : (allW n).length = 2 ^ n := by
  unfold allW
  rw [List.length_map, List.length_range]
/-- the worlds at which all rules hold -/
def wor (cs : List Nat) (rs : List (List Wd)) : List (List Bool) := (allW cs.length).filter fun bs => rs.all fun r => sval (vl cs bs) r
def wvs (l : List (List Bool)) : List V := l.map fun bs => V.str (wtx bs)
theorem all_take {α : Type} (P : α → Bool) (l : List α) (i : Nat) (x : α) (h : l[i]? = some x) : (l.take (i + 1)).all P = ((l.take i).all P && P x) := by
  rw [List.take_add_one, h, List.all_append]
  show (_ && (P x && true)) = _
  rw [Bool.and_true]
end B
namespace B
open PySem PySem.Spec PyProof.Rows L2
def two (w : List Bool) : List (List Bool) := [w ++ [false], w ++ [true]]
/-- a house stands at p: letters cs, rules rs -/
structure HsAt (K : PySem.W.Frag) (H : Hp) (p : Addr) (cs : List Nat) (rs : List (List Wd)) : Prop where
  ex : ∃ (ra : Addr) (rvs : List V), SqT K H p [.str (tx cs), .ref ra] ∧ SqT K H ra rvs ∧ Rws K H rvs rs
theorem HsAt.mono {K : PySem.W.Frag} {H H' : Hp} {p : Addr} {cs : List Nat} {rs : List (List Wd)} (k : ∀ a xs, SqT K H a xs → SqT K H' a xs) (h : HsAt K H p cs rs) : HsAt K H' p cs rs := by
  obtain ⟨ra, rvs, a, b, c⟩ := h
  exact ⟨ra, rvs, k _ _ a, k _ _ b, c.mono k⟩
theorem HsAt.same {K : PySem.W.Frag} {H H' : Hp} {p : Addr} {cs : List Nat} {rs : List (List Wd)} (h : HsAt K H p cs rs) (e : Same H H') : HsAt K H' p cs rs := h.mono fun _ _ q => Same.tup e q
/-- what holds of letters and rules of a house -/
structure HsOk (cs : List Nat) (rs : List (List Wd)) : Prop where
  c6 : cs.length ≤ 6
  sm : ∀ c ∈ cs, c < 123
  sy : ∀ r ∈ rs, Sy cs r ∧ r.length ≤ 40
  few : rs.length ≤ 20
theorem wor_len {cs : List Nat} {rs : List (List Wd)} {bs : List Bool} (h : bs ∈ wor cs rs) : bs.length = cs.length := allW_len (List.mem_filter.mp h).1
theorem wor_le {cs : List Nat} {rs : List (List Wd)} (h : cs.length ≤ 6) : (wor cs rs).length ≤ 64 := by
  unfold wor
  refine Nat.le_trans (List.length_filter_le _ _) ?_
  rw [allW_length]
  exact Nat.le_trans (Nat.pow_le_pow_right (by decide) h) (by decide)
theorem map_take_one {α β : Type} (f : α → β) (l : List α) (i : Nat) (x : α) (h : l[i]? = some x) : (l.take (i + 1)).map f = (l.take i).map f ++ [f x] := by
  rw [List.take_add_one, h, List.map_append]
  rfl
theorem eqv_nilT (ds : List PyData) : PyData.eqv (.tuple ds) (.tuple []) = ds.isEmpty := by
  cases ds <;> rfl
def hdat (cs : List Nat) (rs : List (List Wd)) : PyData := .tuple [.str (tx cs), .tuple (rs.map wdat)]
theorem hdp {K : PySem.W.Frag} {H : Hp} {p : Addr} {cs : List Nat} {rs : List (List Wd)} (h : HsAt K H p cs rs) : Dp K H (.ref p) (hdat cs rs) := by
  obtain ⟨ra, rvs, a, b, c⟩ := h
  exact .tup a (.cons (.str _) (.cons (.tup b c.dp) .nil))
end B
namespace B
open PySem PySem.Spec PyProof.Rows L2
section
variable {prog : Program} {w : World} {A : Around} {E : Value → Shared → Prop} {s : Shared}
theorem collect_tup {l : Addr} {vs : List Value} {Q : List Value → Shared → Prop} (hT : IsTup s.heap l vs.toArray)
    (q : Q vs { s with heap := (s.heap.push (seqObj "list" #[] 0)).update s.heap.objs.size (Obj.mapSeq (· ++ vs.toArray)) }) (hz : vs.length ≤ sizeLine) : wpAny (model prog w) A (collect (.ref l)) Q E s := by
  obtain ⟨ob, g0, g1, n, g2⟩ := id hT
  unfold collect
  refine wpAny_bind (wpAny_runValue (codeAny_builtin entry_proto_collect' ?_))
  refine wpAny_bind (wpAny_newList (wpAny_pure ⟨Code.quiet_builtin _ (by decide +kernel), codeAny_builtin entry_list_iadd' ?_⟩))
  show wpAny _ _ (Builtin.List.listExtendWith (.ref s.heap.objs.size) (.ref l) (.ref s.heap.objs.size)) _ _ { s with heap := s.heap.push (seqObj "list" #[] 0) }
  unfold Builtin.List.listExtendWith
  have g0' : (s.heap.push (seqObj "list" #[] 0)).get? l = some ob := Heap.get?_push_of_some _ g0
  refine wpAny_bind (wpAny_typeOf (T := "tuple") ⟨ob, g0', g1⟩ ?_)
  have tt : (Value.type "tuple" == Value.type "tuple") = true := by rfl
  rw [if_pos (by rw [tt]; simp)]
  refine wpAny_bind (listItems_at g0' g2 ?_)
  refine wpAny_bind (listItems_at (xs := #[]) (n := 0) (Heap.get?_push_size _ rfl) rfl ?_)
  rw [if_neg (by simp)]
  refine wpAny_bind (listUpdate_at (xs := #[]) (n := 0) (Heap.get?_push_size _ rfl) rfl ?_ (Nat.zero_le _) (by show (#[] ++ vs.toArray).size ≤ sizeLine + 1; simp only [Array.size_append, List.size_toArray, List.length_nil]; omega))
  refine wpAny_pure ?_
  refine wpAny_bind (wpAny_load (get?_update_seq (Heap.get?_push_size _ rfl) _) ?_)
  show wpAny _ _ (pure ((#[] : Array Value) ++ vs.toArray).toList) Q E _
  rw [show ((#[] : Array Value) ++ vs.toArray).toList = vs by simp]
  exact wpAny_pure q
/-- sorted(a tuple) -/
theorem sorted_ordT {l : Addr} {vs : List Value} {ltv : Value → Value → Bool} {Q : Value → Shared → Prop} (O : SrtO.Swo ltv) (hT : IsTup s.heap l vs.toArray) (hz : vs.length ≤ sizeLine)
    (hS : 2 ≤ vs.length → ∀ (h₁ : Heap) (a : Addr), h₁.get? a = some (seqObj "list" vs.toArray 0) → (∀ b o, s.heap.get? b = some o → b ≠ a ∧ h₁.get? b = some o) → SrtO.SortableO prog w A.in1.in1 { s with heap := h₁ } a vs ltv)
    (h : ∀ out : List Value, SrtO.Srtd ltv out → SrtO.Stb ltv out vs → Q (.ref (s.heap.objs.size + 1)) { s with heap := sortedAll s.heap vs out.toArray }) :
    wpAny (model prog w) A (call (.builtin "sorted") [.ref l]) Q E s := by
  refine Calls.call_function_entry kind_sorted plain_sorted entry_sorted (args_sorted1 _) ?_
  unfold Builtin.«sorted»
  refine wpAny_bind (m := checkCount "sorted" 1 1 _) (wpAny_pure ?_)
  refine wpAny_bind (collect_tup hT ?_ hz)
  refine wpAny_bind (wpAny_newList ?_ hz)
  have es : ((s.heap.push (seqObj "list" #[] 0)).update s.heap.objs.size (Obj.mapSeq (· ++ vs.toArray))).objs.size = s.heap.objs.size + 1 := by
    rw [Heap.size_update, size_push']
  have eo : (((s.heap.push (seqObj "list" #[] 0)).update s.heap.objs.size (Obj.mapSeq (· ++ vs.toArray))).push (seqObj "list" vs.toArray 0)).get? (s.heap.objs.size + 1) = some (seqObj "list" vs.toArray 0) := by
    rw [← es]; exact Heap.get?_push_size _ rfl
  have ek : ∀ b o, s.heap.get? b = some o → b ≠ s.heap.objs.size + 1 ∧ (((s.heap.push (seqObj "list" #[] 0)).update s.heap.objs.size (Obj.mapSeq (· ++ vs.toArray))).push (seqObj "list" vs.toArray 0)).get? b = some o := fun b o q => by
    have lt : b < s.heap.objs.size := Heap.lt_size q
    refine ⟨Nat.ne_of_lt (Nat.lt_succ_of_lt lt), Heap.get?_push_of_some _ ?_⟩
    rw [Heap.get?_update_ne _ _ _ _ (Nat.ne_of_lt lt)]
    exact Heap.get?_push_of_some _ q
  show wpAny _ _ _ _ _ { s with heap := ((s.heap.push (seqObj "list" #[] 0)).update s.heap.objs.size (Obj.mapSeq (· ++ vs.toArray))).push (seqObj "list" vs.toArray 0) }
  rw [es]
  refine wpAny_bind (wpAny_holding (wpAny_call_entry slot_list_sort ⟨_, eo, rfl⟩ entry_list_sort (SrtO.list_sort_ord O eo hz (fun h2 => hS h2 _ _ eo ek) fun out hs hb => ⟨_, rfl, ?_⟩) (args_list_sort _)))
  exact wpAny_pure ⟨_, rfl, h out hs hb⟩
end
end B
namespace B
open PySem PySem.Spec PyProof.Rows L2
structure Shw (n m : Nat) (d : PyData) : Prop where
  lay : d.canLay0 = true
  shw : d.showable = true
  dep : d.depth ≤ n
  blk : d.bulk ≤ m
  lvs : d.leavesShort 600 = true
theorem Shw.up {n m n' m' : Nat} {d : PyData} (h : Shw n m d) (a : n ≤ n') (b : m ≤ m') : Shw n' m' d := ⟨h.lay, h.shw, Nat.le_trans h.dep a, Nat.le_trans h.blk b, h.lvs⟩
theorem log2_lt {i : Int} (h : i.natAbs < 2 ^ 500) : i.natAbs.log2 < 500 := PySem.Flt.log2_lt_of (by decide) h
theorem Shw.int {i : Int} (h : i.natAbs < 2 ^ 500) : Shw 0 0 (.int i) := by
  have l := log2_lt h
  refine ⟨rfl, ?_, Nat.le_refl _, Nat.le_refl _, ?_⟩
  · show decide (i.natAbs.log2 < 1920) = true
    exact decide_eq_true (by omega)
  · show decide ((Str.ofString (toString i)).length ≤ 600) = true
    refine decide_eq_true ?_
    rw [PySem.ofString_length]
    exact Nat.le_trans (int_text_length_le (by decide) l) (by decide)
theorem Shw.str {x : Str} {m : Nat} (h : ∀ c ∈ x.cps.toList, c < 123) (hm : x.cps.size ≤ m) : Shw 0 m (.str x) := by
  refine ⟨?_, rfl, Nat.le_refl _, hm, ?_⟩
  · show x.cps.all _ = true
    rw [← Array.all_toList, List.all_eq_true]
    intro c hc
    exact decide_eq_true (Nat.lt_of_lt_of_le (h c hc) (by decide))
  · show (x.cps.toList.all fun c => decide (c < 16 ^ 8)) = true
    rw [List.all_eq_true]
    intro c hc
    exact decide_eq_true (Nat.lt_of_lt_of_le (h c hc) (by decide))
theorem shw_all {n m : Nat} : ∀ {ds : List PyData}, (∀ d ∈ ds, Shw n m d) → PyData.canLayAll0 ds = true ∧ PyData.showableAll ds = true ∧ PyData.depthAll ds ≤ n ∧ PyData.bulkAll ds ≤ ds.length * (m + 1) ∧ PyData.leavesShortAll 600 ds = true
  | [], _ => ⟨rfl, rfl, Nat.zero_le _, Nat.zero_le _, rfl⟩
  | d :: ds, h => by
    obtain ⟨a, b, c, e, f⟩ := shw_all fun x hx => h x (List.mem_cons_of_mem _ hx)
    have k := h d (List.mem_cons_self ..)
    refine ⟨?_, ?_, ?_, ?_, ?_⟩
    · show (d.canLay0 && PyData.canLayAll0 ds) = true
      rw [k.lay, a]; rfl
    · show (d.showable && PyData.showableAll ds) = true
      rw [k.shw, b]; rfl
    · show max d.depth (PyData.depthAll ds) ≤ n
      exact Nat.max_le.mpr ⟨k.dep, c⟩
    · show d.bulk + 1 + PyData.bulkAll ds ≤ (ds.length + 1) * (m + 1)
      have := k.blk
      rw [Nat.add_mul]
      omega
    · show (d.leavesShort 600 && PyData.leavesShortAll 600 ds) = true
      rw [k.lvs, f]; rfl
theorem Shw.tup {n m k : Nat} {ds : List PyData} (h : ∀ d ∈ ds, Shw n m d) (hk : ds.length ≤ k) : Shw (n + 1) (k * (m + 1)) (.tuple ds) := by
  obtain ⟨a, b, c, e, f⟩ := shw_all h
  exact ⟨a, b, Nat.succ_le_succ c, Nat.le_trans e (Nat.mul_le_mul_right _ hk), f⟩
theorem pair_shw {n m : Nat} {a b : PyData} (h : Shw n m a) (k : Shw n m b) : Shw (n + 1) (2 * (m + 1)) (.tuple [a, b]) := Shw.tup (fun d hd => by
  rcases List.mem_cons.mp hd with rfl | hd
  · exact h
  · rw [List.mem_singleton] at hd
    rw [hd]
    exact k) (Nat.le_refl 2)
theorem Shw.shaped {n m : Nat} {d : PyData} (h : Shw n m d) (hn : n ≤ 64) : SeqAt.shaped d = true := by
  unfold SeqAt.shaped
  rw [h.lay, decide_eq_true (Nat.le_trans h.dep hn)]
  rfl
theorem wd_signs {cs : List Nat} (hs : ∀ c ∈ cs, c < 123) (w : Wd) (h : ∀ c, w = .lt c → c ∈ cs) : (∀ c ∈ w.s.cps.toList, c < 123) ∧ w.s.cps.size ≤ 4 := by
  cases w with
  | lt c =>
    refine ⟨fun x hx => ?_, by show 1 ≤ 4; decide⟩
    have e : x ∈ [c] := hx
    rw [List.mem_singleton] at e
    rw [e]
    exact hs c (h c rfl)
  | yes => exact ⟨by decide, by decide⟩
  | no => exact ⟨by decide, by decide⟩
  | nt => exact ⟨by decide, by decide⟩
  | an => exact ⟨by decide, by decide⟩
  | orr => exact ⟨by decide, by decide⟩
  | sm => exact ⟨by decide, by decide⟩
theorem wdat_shw {cs : List Nat} (hs : ∀ c ∈ cs, c < 123) {r : List Wd} {k : Nat} (h : ∀ c, Wd.lt c ∈ r → c ∈ cs) (hk : r.length ≤ k) : Shw 1 (k * 5) (wdat r) := by
  refine Shw.tup (fun d hd => ?_) (by rw [List.length_map]; exact hk)
  obtain ⟨w, hw, rfl⟩ := List.mem_map.mp hd
  obtain ⟨a, b⟩ := wd_signs hs w fun c e => h c (by rw [← e]; exact hw)
  exact Shw.str a b
inductive F2 {α β : Type} (R : α → β → Prop) : List α → List β → Prop
  | nil : F2 R [] []
  | cons {a : α} {b : β} {as : List α} {bs : List β} : R a b → F2 R as bs → F2 R (a :: as) (b :: bs)
namespace F2
variable {α β : Type} {R S : α → β → Prop}
theorem len {as : List α} {bs : List β} (h : F2 R as bs) : as.length = bs.length := by
  induction h with
  | nil => rfl
  | cons _ _ ih => rw [List.length_cons, List.length_cons, ih]
theorem imp {as : List α} {bs : List β} (h : F2 R as bs) (f : ∀ a b, R a b → S a b) : F2 S as bs := by
  induction h with
  | nil => exact .nil
  | cons x _ ih => exact .cons (f _ _ x) ih
theorem app {as as' : List α} {bs bs' : List β} (h : F2 R as bs) (k : F2 R as' bs') : F2 R (as ++ as') (bs ++ bs') := by
  induction h with
  | nil => exact k
  | cons x _ ih => exact .cons x ih
theorem one {a : α} {b : β} (h : R a b) : F2 R [a] [b] := .cons h .nil
theorem getA {as : List α} {bs : List β} (h : F2 R as bs) : ∀ {j : Nat} {a : α}, as[j]? = some a → ∃ b, bs[j]? = some b ∧ R a b := by
  induction h with
  | nil => intro j a e; simp at e
  | cons x _ ih =>
    intro j a e
    cases j with
    | zero => cases e; exact ⟨_, rfl, x⟩
    | succ j => exact ih e
theorem getB {as : List α} {bs : List β} (h : F2 R as bs) : ∀ {j : Nat} {b : β}, bs[j]? = some b → ∃ a, as[j]? = some a ∧ R a b := by
  induction h with
  | nil => intro j a e; simp at e
  | cons x _ ih =>
    intro j a e
    cases j with
    | zero => cases e; exact ⟨_, rfl, x⟩
    | succ j => exact ih e
end F2
theorem take_one {α : Type} (l : List α) (i : Nat) (x : α) (h : l[i]? = some x) : l.take (i + 1) = l.take i ++ [x] := by
  rw [List.take_add_one, h]
  rfl
def addF (p q : Int × Nat) : Int × Nat := (addT p.1 p.2 q.1 q.2, addB p.1 p.2 q.1 q.2)
/-- a fraction, its parts below 2 ^ n -/
structure Fok (n : Nat) (p : Int × Nat) : Prop where
  f : IsF p.1 p.2
  z : Fz p.1 p.2 n
theorem Fok.up {n m : Nat} {p : Int × Nat} (h : Fok n p) (e : n ≤ m) : Fok m p := ⟨h.f, h.z.more e⟩
theorem Fok.zero {n : Nat} (h : 1 ≤ n) : Fok n (0, 1) := ⟨⟨by decide, by decide⟩, ⟨Nat.pow_pos (by decide), Nat.lt_of_lt_of_le (by decide : (1 : Nat) < 2 ^ 1) (Nat.pow_le_pow_right (by decide) h)⟩⟩
theorem Fok.add {n m : Nat} {p q : Int × Nat} (a : Fok n p) (b : Fok m q) : Fok (n + m + 1) (addF p q) := ⟨add_isF a.f.pos b.f.pos, add_z a.f.pos b.f.pos a.z b.z⟩
/-- a fraction stands at v -/
def FAt (K : PySem.W.Frag) (H : Hp) (v : V) (p : Int × Nat) : Prop := ∃ a, v = .ref a ∧ SqT K H a [.int p.1, .int p.2]
theorem FAt.mono {K : PySem.W.Frag} {H H' : Hp} {v : V} {p : Int × Nat} (k : ∀ a xs, SqT K H a xs → SqT K H' a xs) (h : FAt K H v p) : FAt K H' v p := by
  obtain ⟨a, e, t⟩ := h
  exact ⟨a, e, k _ _ t⟩
structure Tm where
  a : Int × Nat
  w : List Wd
/-- a term stands at v -/
def TmAt (K : PySem.W.Frag) (H : Hp) (v : V) (x : Tm) : Prop := ∃ p f c : Addr, v = .ref p ∧ SqT K H p [.ref f, .ref c] ∧ SqT K H f [.int x.a.1, .int x.a.2] ∧ SqT K H c (x.w.map wv)
theorem TmAt.mono {K : PySem.W.Frag} {H H' : Hp} {v : V} {x : Tm} (k : ∀ a xs, SqT K H a xs → SqT K H' a xs) (h : TmAt K H v x) : TmAt K H' v x := by
  obtain ⟨p, f, c, e, a, b, d⟩ := h
  exact ⟨p, f, c, e, k _ _ a, k _ _ b, k _ _ d⟩
/-- a bet stands at a: terms, given -/
def BtAt (K : PySem.W.Frag) (H : Hp) (a : Addr) (ts : List Tm) (g : List Wd) : Prop := ∃ (p c : Addr) (vs : List V), SqT K H a [.ref p, .ref c] ∧ SqT K H p vs ∧ F2 (TmAt K H) vs ts ∧ SqT K H c (g.map wv)
theorem BtAt.mono {K : PySem.W.Frag} {H H' : Hp} {a : Addr} {ts : List Tm} {g : List Wd} (k : ∀ a xs, SqT K H a xs → SqT K H' a xs) (h : BtAt K H a ts g) : BtAt K H' a ts g := by
  obtain ⟨p, c, vs, x, y, z, u⟩ := h
  exact ⟨p, c, vs, k _ _ x, k _ _ y, z.imp fun _ _ h => h.mono k, k _ _ u⟩
theorem BtAt.same {K : PySem.W.Frag} {H H' : Hp} {a : Addr} {ts : List Tm} {g : List Wd} (h : BtAt K H a ts g) (e : Same H H') : BtAt K H' a ts g := h.mono fun _ _ q => Same.tup e q
structure TmOk (cs : List Nat) (x : Tm) : Prop where
  a : Fok 240 x.a
  sy : Sy cs x.w
  ln : x.w.length ≤ 50
structure BtOk (cs : List Nat) (ts : List Tm) (g : List Wd) : Prop where
  tm : ∀ x ∈ ts, TmOk cs x
  few : ts.length ≤ 16
  sy : Sy cs g
  ln : g.length ≤ 50
def pay (v : Nat → Bool) (ts : List Tm) : Int × Nat := ts.foldl (fun s x => if sval v x.w then addF s x.a else s) (0, 1)
theorem pay_snoc (v : Nat → Bool) (ts : List Tm) (x : Tm) : pay v (ts ++ [x]) = if sval v x.w then addF (pay v ts) x.a else pay v ts := by
  unfold pay
  rw [List.foldl_append]
  rfl
theorem pay_take (v : Nat → Bool) {ts : List Tm} {i : Nat} {x : Tm} (h : ts[i]? = some x) : pay v (ts.take (i + 1)) = if sval v x.w then addF (pay v (ts.take i)) x.a else pay v (ts.take i) := by
  rw [take_one _ _ _ h, pay_snoc]
theorem pay_ok (v : Nat → Bool) {n : Nat} : ∀ {ts : List Tm}, (∀ x ∈ ts, Fok n x.a) → ∀ i, Fok ((n + 1) * i + 1) (pay v (ts.take i))
  | ts, h, 0 => by
    rw [List.take_zero]
    exact Fok.zero (by omega)
  | ts, h, i + 1 => by
    cases e : ts[i]? with
    | none =>
      have l : ts.length ≤ i := List.getElem?_eq_none_iff.mp e
      rw [List.take_of_length_le (by omega), ← List.take_of_length_le l]
      exact (pay_ok v h i).up (by rw [Nat.mul_add]; omega)
    | some x =>
      rw [pay_take v e]
      have a := h x (List.mem_of_getElem? e)
      split
      · exact ((pay_ok v h i).add a).up (by rw [Nat.mul_add]; omega)
      · exact (pay_ok v h i).up (by rw [Nat.mul_add]; omega)
theorem pay_okB (v : Nat → Bool) {cs : List Nat} {ts : List Tm} {g : List Wd} (h : BtOk cs ts g) (i : Nat) : Fok 390000 (pay v (ts.take i)) := by
  by_cases l : i ≤ 16
  · exact (pay_ok v (fun x hx => (h.tm x hx).a) i).up (by omega)
  · have e : ts.take i = ts.take 16 := by rw [List.take_of_length_le (by have := h.few; omega), List.take_of_length_le h.few]
    rw [e]
    exact (pay_ok v (fun x hx => (h.tm x hx).a) 16).up (by omega)
def payO (v : Nat → Bool) (ts : List Tm) (g : List Wd) : Option (Int × Nat) := if sval v g then some (pay v ts) else none
/-- None or a fraction stands at u -/
def PdAt (K : PySem.W.Frag) (H : Hp) (u : V) : Option (Int × Nat) → Prop
  | none => u = .non
  | some p => FAt K H u p
theorem PdAt.mono {K : PySem.W.Frag} {H H' : Hp} {u : V} (k : ∀ a xs, SqT K H a xs → SqT K H' a xs) : ∀ {o : Option (Int × Nat)}, PdAt K H u o → PdAt K H' u o
  | none, h => h
  | some _, h => FAt.mono k h
def fdat (p : Int × Nat) : PyData := .tuple [.int p.1, .int p.2]
def tdat (x : Tm) : PyData := .tuple [fdat x.a, wdat x.w]
def bdat (ts : List Tm) (g : List Wd) : PyData := .tuple [.tuple (ts.map tdat), wdat g]
theorem fdat_shw {n : Nat} {p : Int × Nat} (h : Fok n p) (hn : n ≤ 500) : Shw 1 2 (fdat p) :=
  pair_shw (n := 0) (m := 0) (Shw.int (h.z.more hn).t) (Shw.int (by rw [Int.natAbs_natCast]; exact (h.z.more hn).b))
theorem bdat_shw {cs : List Nat} {ts : List Tm} {g : List Wd} (hs : ∀ c ∈ cs, c < 123) (h : BtOk cs ts g) : Shw 4 16100 (bdat ts g) := by
  have a : Shw 3 8048 (.tuple (ts.map tdat)) := by
    refine Shw.tup (n := 2) (m := 502) (k := 16) (fun d hd => ?_) (by rw [List.length_map]; exact h.few)
    obtain ⟨x, hx, rfl⟩ := List.mem_map.mp hd
    have o := h.tm x hx
    exact pair_shw (n := 1) (m := 250) ((fdat_shw o.a (by decide)).up (by decide) (by decide)) ((wdat_shw (k := 50) hs o.sy.lt o.ln).up (by decide) (by decide))
  exact (pair_shw a ((wdat_shw (k := 50) hs h.sy.lt h.ln).up (by decide) (by decide))).up (by decide) (by decide)
theorem FAt.dp {K : PySem.W.Frag} {H : Hp} {v : V} {p : Int × Nat} (h : FAt K H v p) : Dp K H v (fdat p) := by
  obtain ⟨a, rfl, t⟩ := h
  exact dp2 t
theorem F2.dp {K : PySem.W.Frag} {H : Hp} {α : Type} {R : V → α → Prop} {f : α → PyData} (g : ∀ v x, R v x → Dp K H v (f x)) {vs : List V} {xs : List α} (h : F2 R vs xs) : DpAll K H vs (xs.map f) := by
  induction h with
  | nil => exact .nil
  | cons x _ ih => exact .cons (g _ _ x) ih
theorem TmAt.dp {K : PySem.W.Frag} {H : Hp} {v : V} {x : Tm} (h : TmAt K H v x) : Dp K H v (tdat x) := by
  obtain ⟨p, f, c, rfl, a, b, d⟩ := h
  exact .tup a (.cons (dp2 b) (.cons (wdp d) .nil))
theorem bdp {K : PySem.W.Frag} {H : Hp} {a : Addr} {ts : List Tm} {g : List Wd} (h : BtAt K H a ts g) : Dp K H (.ref a) (bdat ts g) := by
  obtain ⟨p, c, vs, x, y, z, u⟩ := h
  exact .tup x (.cons (.tup y (z.dp fun _ _ h => h.dp)) (.cons (wdp u) .nil))
end B
namespace B
open PySem PySem.Spec PyProof.Rows L2
def tabO (cs : List Nat) (ts : List Tm) (g : List Wd) (wl : List (List Bool)) : List (Option (Int × Nat)) := wl.map fun bs => payO (vl cs bs) ts g
theorem tabO_take {cs : List Nat} {ts : List Tm} {g : List Wd} {wl : List (List Bool)} {j : Nat} {bs : List Bool} (h : wl[j]? = some bs) : tabO cs ts g (wl.take (j + 1)) = tabO cs ts g (wl.take j) ++ [payO (vl cs bs) ts g] := map_take_one _ _ _ _ h
theorem wvs_get {wl : List (List Bool)} {j : Nat} {x : V} (h : (wvs wl)[j]? = some x) : ∃ bs, wl[j]? = some bs ∧ x = .str (wtx bs) := by
  unfold wvs at h
  rw [List.getElem?_map] at h
  cases e : wl[j]? with
  | none => rw [e] at h; cases h
  | some bs => rw [e] at h; cases h; exact ⟨bs, rfl, rfl⟩
theorem wvs_len (wl : List (List Bool)) : (wvs wl).length = wl.length := List.length_map ..
theorem same_mut {H H' : Hp} {D : Addr} {o : HO} (n : H D = none) (s : Same H H') : Same H (upd H' D o) := fun a x e => by
  rw [upd_ne (ne_of_none e n)]
  exact s _ _ e
theorem kp_mut {d : Dr} {H H' : Hp} {D : Addr} {o : HO} (n : H D = none) (s : Kp d H H') : Kp d H (upd H' D o) := fun a x e n1 n2 => by
  rw [upd_ne (ne_of_none e n)]
  exact s _ _ e n1 n2
structure BtSm (n : Nat) (ts : List Tm) (g : List Wd) : Prop where
  few : ts.length ≤ n
  tm : ∀ x ∈ ts, Fok 80 x.a ∧ x.w.length ≤ 10
  ln : g.length ≤ 10
end B
namespace B
open PySem PySem.Spec PyProof.Rows L2
end B
namespace B
open PySem PySem.Spec PyProof.Rows L2
theorem eq_same (v : V) : decide (v = v) = true := by simp
theorem Fok.neg {n : Nat} {p : Int × Nat} (h : Fok n p) : Fok n (-p.1, p.2) := ⟨h.f.neg, ⟨by show (-p.1).natAbs < 2 ^ n; rw [Int.natAbs_neg]; exact h.z.t, h.z.b⟩⟩
end B
namespace B
open PySem PySem.Spec PyProof.Rows L2
end B
namespace B
open PySem PySem.Spec PyProof.Rows L2
/-- tuples stay tuples -/
def Tk (K : PySem.W.Frag) (H H' : Hp) : Prop := ∀ a xs, SqT K H a xs → SqT K H' a xs
theorem Same.tk {K : PySem.W.Frag} {H H' : Hp} (e : Same H H') : Tk K H H' := fun _ _ h => Same.tup e h
/-- what the turns of such a comprehension keep -/
structure LcI {β : Type} (D : Addr) (H1 : Hp) (R : Hp → V → β → Prop) (L : List β) (H : Hp) : Prop where
  ex : ∃ vs, H D = some (.lst vs) ∧ F2 (R H) vs L
  sm : Same H1 H
theorem F2.none {α β : Type} {R : α → β → Prop} : F2 R [] [] := .nil
section
variable {K : PySem.W.Frag} {a : Addr} {xs : List V} {g : TG} {tt : TT} {te : TE} {vs : List Nat} {σ : L2.St} {H1 : Hp} {D : Addr} {Qd : Hp → Prop} {α β : Type} {R : Hp → V → β → Prop} {IR : V → α → Prop}
theorem fm_take {L : List α} {out : α → Option β} {i : Nat} {x : α} (h : L[i]? = some x) : (L.take (i + 1)).filterMap out = (L.take i).filterMap out ++ (match out x with | some z => [z] | none => []) := by
  rw [take_one _ _ _ h, List.filterMap_append]
  cases e : out x with
  | none => simp [List.filterMap_cons, e]
  | some z => simp [List.filterMap_cons, e]
theorem LcI.step {L : List α} {out : α → Option β} {i : Nat} {x : α} {H H4 : Hp} {y : V} {z : β} (mono : ∀ H H' v y, Tk K H H' → R H v y → R H' v y) (nD : H1 D = none) (sz : L.length < sizeLine) (h : L[i]? = some x) (I : LcI D H1 R ((L.take i).filterMap out) H) (s : Same H H4) (e : out x = some z) (r : R H4 y z) :
    ∃ acc, H4 D = some (.lst acc) ∧ acc.length < sizeLine ∧ LcI D H1 R ((L.take (i + 1)).filterMap out) (upd H4 D (.lst (acc ++ [y]))) := by
  obtain ⟨⟨acc, hD, f⟩, sm⟩ := I
  have hD4 := s _ _ hD
  have tk : Tk K H4 (upd H4 D (.lst (acc ++ [y]))) := fun p ps t => tup_upd hD4 t
  refine ⟨acc, hD4, ?_, ⟨acc ++ [y], upd_same, ?_⟩, same_mut nD (sm.trans s)⟩
  · rw [f.len]
    refine Nat.lt_of_le_of_lt (Nat.le_trans (List.length_filterMap_le _ _) ?_) sz
    rw [List.length_take]
    exact Nat.min_le_right _ _
  · rw [fm_take h, e]
    exact (f.imp fun v w q => mono _ _ _ _ tk (mono _ _ _ _ (Same.tk s) q)).app (F2.one (mono _ _ _ _ tk r))
theorem LcI.skip {L : List α} {out : α → Option β} {i : Nat} {x : α} {H H3 : Hp} (mono : ∀ H H' v y, Tk K H H' → R H v y → R H' v y) (h : L[i]? = some x) (I : LcI D H1 R ((L.take i).filterMap out) H) (s : Same H H3) (e : out x = none) : LcI D H1 R ((L.take (i + 1)).filterMap out) H3 := by
  obtain ⟨⟨acc, hD, f⟩, sm⟩ := I
  refine ⟨⟨acc, s _ _ hD, ?_⟩, sm.trans s⟩
  rw [fm_take h, e, List.append_nil]
  exact f.imp fun v w q => mono _ _ _ _ (Same.tk s) q
/-- [e for x in a tuple if c] -/
theorem lcp_tup (L : List α) (out : α → Option β) (mono : ∀ H H' v y, Tk K H H' → R H v y → R H' v y) (hx : F2 IR xs L) (nD : H1 D = none) (tp : SqT K H1 a xs) (sz : xs.length < sizeLine)
    (hs : ∀ v x H, IR v x → x ∈ L → Same H1 H → ∀ (Y : V → Hp → Prop) (N : Hp → Prop), (∀ y H4 z, Same H H4 → out x = some z → R H4 y z → Y y H4) → (∀ H3, Same H H3 → out x = none → N H3) →
      g v (wipe σ vs) H fun σ2 H2 => wipe σ2 vs = wipe σ vs ∧ tt σ2 H2 fun b H3 => if b = true then te σ2 H3 Y else N H3)
    (hd : ∀ H ys, H D = some (.lst ys) → F2 (R H) ys (L.filterMap out) → Same H1 H → Qd H) :
    ∃ W : Nat → Nat → Hp → Prop, (∃ m, W 0 m (upd H1 D (.lst []))) ∧ ∀ i m H, W i m H →
      ((Itt K a).stop i H ∧ Qd H) ∨ ((Itt K a).go i H ∧ ∃ Nx : Hp → Prop, (∀ H', Nx H' → ∃ m', m' < m ∧ W (i + 1) m' H') ∧ ∀ x H', (Itt K a).yld i H x H' → g x (wipe σ vs) H' fun σ2 H2 => wipe σ2 vs = wipe σ vs ∧ tt σ2 H2 fun b H3 =>
        if b = true then te σ2 H3 fun y H4 => ∃ acc, H4 D = some (.lst acc) ∧ acc.length < sizeLine ∧ Nx (upd H4 D (.lst (acc ++ [y]))) else Nx H3) := by
  have el := hx.len
  refine lc_tup (K := K) (a := a) (xs := xs) (fun j H' => LcI D H1 R ((L.take j).filterMap out) H') ⟨⟨[], upd_same, F2.none⟩, same_upd nD⟩ (fun j H' _ I => Same.tup I.sm tp) ?_ ?_
  · intro i v H hv I
    obtain ⟨x, hL, r⟩ := hx.getA hv
    exact hs v x H r (List.mem_of_getElem? hL) I.sm _ _ (fun y H4 z s e q => I.step mono nD (by rw [← el]; exact sz) hL s e q) (fun H3 s e => I.skip mono hL s e)
  · intro H I
    obtain ⟨⟨ys, hD, f⟩, sm⟩ := I
    rw [el, List.take_length] at f
    exact hd H ys hD f sm
end
theorem fm_some {α β : Type} (f : α → β) (L : List α) : L.filterMap (fun x => some (f x)) = L.map f := by
  induction L with
  | nil => rfl
  | cons x r ih => rw [List.filterMap_cons, ih]; rfl
end B
namespace B
open PySem PySem.Spec PyProof.Rows L2
theorem eqvAll_iff {α : Type} {f : α → PyData} (inj : ∀ x y, PyData.eqv (f x) (f y) = true ↔ x = y) : ∀ xs ys : List α, PyData.eqvAll (xs.map f) (ys.map f) = true ↔ xs = ys
  | [], [] => ⟨fun _ => rfl, fun _ => rfl⟩
  | x :: xs, y :: ys => by
    rw [List.map_cons, List.map_cons, PyData.eqvAll, Bool.and_eq_true, inj, eqvAll_iff inj xs ys, List.cons.injEq]
  | [], _ :: _ => ⟨(fun h => nomatch h), (fun h => nomatch h)⟩
  | _ :: _, [] => ⟨(fun h => nomatch h), (fun h => nomatch h)⟩
theorem sg_inj {a b : Nat} (h : sg a = sg b) : a = b := by
  have := tx_inj (show tx [a] = tx [b] from h)
  exact (List.cons.inj this).1
theorem wds_inj {w u : Wd} (h : w.s = u.s) : w = u := by
  have big : ∀ v : Wd, v.isLt = false → v.s.cps.size ≠ 1 := fun v hv => by
    cases v with
    | lt c => exact Bool.noConfusion (show true = false from hv)
    | _ => decide +kernel
  cases w with
  | lt a =>
    cases u with
    | lt b => rw [sg_inj h]
    | _ => exact absurd h (sg_ne (big _ rfl))
  | _ =>
    cases u with
    | lt b => exact absurd h.symm (sg_ne (big _ rfl))
    | _ => first | rfl | exact absurd h (by decide +kernel)
theorem str_iff (x y : Str) : PyData.eqv (.str x) (.str y) = true ↔ x = y := by
  rw [PyData.eqv]
  exact beq_iff_eq
theorem int_iff (x y : Int) : PyData.eqv (.int x) (.int y) = true ↔ x = y := by
  rw [PyData.eqv]
  exact beq_iff_eq
theorem wdat_iff (r s : List Wd) : PyData.eqv (wdat r) (wdat s) = true ↔ r = s := by
  show PyData.eqvAll (r.map fun w => .str w.s) (s.map fun w => .str w.s) = true ↔ r = s
  exact eqvAll_iff (fun x y => (str_iff _ _).trans ⟨wds_inj, fun e => by rw [e]⟩) r s
theorem two_iff {a b c d : PyData} {P Q : Prop} (h : PyData.eqv a c = true ↔ P) (k : PyData.eqv b d = true ↔ Q) : PyData.eqv (.tuple [a, b]) (.tuple [c, d]) = true ↔ P ∧ Q := by
  show PyData.eqvAll [a, b] [c, d] = true ↔ P ∧ Q
  rw [PyData.eqvAll, PyData.eqvAll, PyData.eqvAll, Bool.and_true, Bool.and_eq_true, h, k]
theorem fdat_iff (p q : Int × Nat) : PyData.eqv (fdat p) (fdat q) = true ↔ p = q := by
  refine (two_iff (int_iff _ _) (int_iff _ _)).trans ⟨fun ⟨h, k⟩ => Prod.ext h (by omega), fun e => by rw [e]; exact ⟨rfl, rfl⟩⟩
theorem tdat_iff (x y : Tm) : PyData.eqv (tdat x) (tdat y) = true ↔ x = y := by
  refine (two_iff (fdat_iff _ _) (wdat_iff _ _)).trans ⟨fun ⟨h, k⟩ => ?_, fun e => by rw [e]; exact ⟨rfl, rfl⟩⟩
  cases x
  cases y
  cases h
  cases k
  rfl
theorem bdat_iff (ts us : List Tm) (g h : List Wd) : PyData.eqv (bdat ts g) (bdat us h) = true ↔ ts = us ∧ g = h :=
  two_iff (show PyData.eqvAll (ts.map tdat) (us.map tdat) = true ↔ ts = us from eqvAll_iff tdat_iff ts us) (wdat_iff _ _)
theorem eqv_false {a b : PyData} {P : Prop} (h : PyData.eqv a b = true ↔ P) (n : ¬ P) : PyData.eqv a b = false := Bool.eq_false_iff.mpr fun z => n (h.mp z)
theorem tms_tk {K : PySem.W.Frag} {H H' : Hp} {vs : List V} {ts : List Tm} (h : F2 (TmAt K H) vs ts) (e : Tk K H H') : F2 (TmAt K H') vs ts := h.imp fun _ _ t => t.mono e
theorem Same.sql {K : PySem.W.Frag} {H H' : Hp} {a : Addr} {xs : List V} (e : Same H H') (h : SqL K H a xs) : SqL K H' a xs := by
  rcases h with (h | ⟨o, h⟩) | h
  · exact .inl (.inl (e _ _ h))
  · exact .inl (.inr ⟨o, e _ _ h⟩)
  · exact .inr h
/-- the heap that is come to -/
abbrev tgt {H H' : Hp} (_ : Same H H') : Hp := H'
end B
namespace B
open PySem PySem.Spec PyProof.Rows L2
def mulF (p q : Int × Nat) : Int × Nat := (mulT p.1 p.2 q.1 q.2, mulB p.1 p.2 q.1 q.2)
def negF (p : Int × Nat) : Int × Nat := (-p.1, p.2)
def subF (p q : Int × Nat) : Int × Nat := addF p (negF q)
theorem Fok.mul {n m : Nat} {p q : Int × Nat} (a : Fok n p) (b : Fok m q) : Fok (n + m) (mulF p q) := ⟨mul_isF a.f.pos b.f.pos, mul_z a.f.pos b.f.pos a.z b.z⟩
theorem Fok.negF {n : Nat} {p : Int × Nat} (h : Fok n p) : Fok n (negF p) := h.neg
theorem Fok.sub {n m : Nat} {p q : Int × Nat} (a : Fok n p) (b : Fok m q) : Fok (n + m + 1) (subF p q) := a.add b.negF
/-- a bid -/
structure Bd where
  ts : List Tm
  g : List Wd
  p : Int × Nat
def BdAt (K : PySem.W.Frag) (H : Hp) (v : V) (x : Bd) : Prop := ∃ q a f : Addr, v = .ref q ∧ SqT K H q [.ref a, .ref f] ∧ BtAt K H a x.ts x.g ∧ SqT K H f [.int x.p.1, .int x.p.2]
theorem BdAt.mono {K : PySem.W.Frag} {H H' : Hp} {v : V} {x : Bd} (k : ∀ a xs, SqT K H a xs → SqT K H' a xs) (h : BdAt K H v x) : BdAt K H' v x := by
  obtain ⟨q, a, f, e, t, b, c⟩ := h
  exact ⟨q, a, f, e, k _ _ t, b.mono k, k _ _ c⟩
structure BdOk (cs : List Nat) (z zp : Nat) (x : Bd) : Prop where
  bt : BtOk cs x.ts x.g
  pz : ∀ v : Nat → Bool, Fok z (pay v x.ts)
  pp : Fok zp x.p
theorem payO_some {v : Nat → Bool} {ts : List Tm} {g : List Wd} {p : Int × Nat} (h : payO v ts g = some p) : p = pay v ts := by
  unfold payO at h
  split at h
  · exact (Option.some.inj h).symm
  · cases h
def kdat (x : Bd) : PyData := .tuple [bdat x.ts x.g, fdat x.p]
theorem BdAt.dp {K : PySem.W.Frag} {H : Hp} {v : V} {x : Bd} (h : BdAt K H v x) : Dp K H v (kdat x) := by
  obtain ⟨q, a, f, rfl, t, b, c⟩ := h
  exact .tup t (.cons (bdp b) (.cons (dp2 c) .nil))
theorem bds_tk {K : PySem.W.Frag} {H H' : Hp} {vs : List V} {xs : List Bd} (h : F2 (BdAt K H) vs xs) (k : Tk K H H') : F2 (BdAt K H') vs xs := h.imp fun _ _ q => q.mono k
theorem fas_tk {K : PySem.W.Frag} {H H' : Hp} {vs : List V} {xs : List (Int × Nat)} (h : F2 (FAt K H) vs xs) (k : Tk K H H') : F2 (FAt K H') vs xs := h.imp fun _ _ q => q.mono k
theorem pds_tk {K : PySem.W.Frag} {H H' : Hp} {vs : List V} {xs : List (Option (Int × Nat))} (h : F2 (PdAt K H) vs xs) (k : Tk K H H') : F2 (PdAt K H') vs xs := h.imp fun _ _ q => PdAt.mono k q
theorem bdat_shw3 {cs : List Nat} {ts : List Tm} {g : List Wd} (hs : ∀ c ∈ cs, c < 123) (h : BtOk cs ts g) (k : BtSm 3 ts g) : Shw 4 620 (bdat ts g) := by
  have a : Shw 3 309 (.tuple (ts.map tdat)) := by
    refine Shw.tup (n := 2) (m := 102) (k := 3) (fun d hd => ?_) (by rw [List.length_map]; exact k.few)
    obtain ⟨x, hx, rfl⟩ := List.mem_map.mp hd
    have o := h.tm x hx
    exact pair_shw (n := 1) (m := 50) ((fdat_shw o.a (by decide)).up (by decide) (by decide)) ((wdat_shw (k := 10) hs o.sy.lt (k.tm x hx).2).up (by decide) (by decide))
  exact ((pair_shw (m := 309) a ((wdat_shw (k := 10) hs h.sy.lt k.ln).up (by decide) (by decide)))).up (by decide) (by decide)
/-- what of a table is not None -/
def somes (l : List (Option (Int × Nat))) : List (Int × Nat) := l.filterMap id
theorem odats_shaped (l : List (Int × Nat)) : SeqAt.shaped (.list (l.map fdat)) = true := by
  have a : ∀ l : List (Int × Nat), PyData.canLayAll0 (l.map fdat) = true ∧ PyData.depthAll (l.map fdat) ≤ 1 := by
    intro l
    induction l with
    | nil => exact ⟨rfl, Nat.zero_le _⟩
    | cons x r ih =>
      refine ⟨?_, ?_⟩
      · show (PyData.canLay0 (fdat x) && PyData.canLayAll0 (r.map fdat)) = true
        rw [ih.1]
        rfl
      · show max 1 (PyData.depthAll (r.map fdat)) ≤ 1
        have := ih.2
        omega
  have h := a l
  unfold SeqAt.shaped
  rw [show (PyData.list (l.map fdat)).canLay0 = true from h.1]
  have : (PyData.list (l.map fdat)).depth ≤ 64 := by
    show PyData.depthAll (l.map fdat) + 1 ≤ 64
    have := h.2
    omega
  rw [decide_eq_true this]
  rfl
theorem tabO_len (cs : List Nat) (ts : List Tm) (g : List Wd) (wl : List (List Bool)) : (tabO cs ts g wl).length = wl.length := List.length_map ..
theorem pdAt_notNone {K : PySem.W.Frag} {H : Hp} {v : V} {o : Option (Int × Nat)} (h : PdAt K H v o) : (!decide (v = .non)) = o.isSome := by
  cases o with
  | none =>
    obtain rfl : v = .non := h
    rfl
  | some p =>
    obtain ⟨a, rfl, _⟩ := h
    rfl
theorem somes_yes {cs : List Nat} {rs : List (List Wd)} (ts : List Tm) (h : wor cs rs ≠ []) : somes (tabO cs ts [.yes] (wor cs rs)) ≠ [] := by
  cases e : wor cs rs with
  | nil => exact absurd e h
  | cons b r =>
    intro z
    have : (somes (tabO cs ts [.yes] (b :: r))).length = 0 := by rw [z]; rfl
    exact absurd this (by
      show (List.filterMap id (some (pay (vl cs b) ts) :: _)).length ≠ 0
      rw [List.filterMap_cons]
      simp)
theorem low_nonneg {t : Int} {b : Nat} (h : 0 ≤ t) (hb : 0 < b) : 0 ≤ lowT t b := by
  have e := low_t t b
  rw [lowN_nat] at e
  have g0 : (0 : Int) < ((Nat.gcd t.natAbs b : Nat) : Int) := by
    have := Nat.gcd_pos_of_pos_right t.natAbs hb
    omega
  rcases Int.lt_or_le (lowT t b) 0 with z | z
  · have := Int.mul_neg_of_pos_of_neg g0 z
    omega
  · exact z
end B
namespace B
open PySem PySem.Spec PyProof.Rows L2
mutual
inductive Th (K : PySem.W.Frag) (H : Hp) : V → PyData → Prop
  | non : Th K H .non .none
  | bl (b : Bool) : Th K H (.bl b) (.bool b)
  | int (i : Int) : Th K H (.int i) (.int i)
  | str (x : Str) : Th K H (.str x) (.str x)
  | lst {a : Addr} {xs : List V} {ds : List PyData} : SqL K H a xs → ThAll K H xs ds → Th K H (.ref a) (.list ds)
  | tup {a : Addr} {xs : List V} {ds : List PyData} : SqT K H a xs → ThAll K H xs ds → Th K H (.ref a) (.tuple ds)
  | dic {a : Addr} {l : List (PyData × PyData)} : TyX K H (.ref a) (.type "dict") → Th K H (.ref a) (.dict l)
inductive ThAll (K : PySem.W.Frag) (H : Hp) : List V → List PyData → Prop
  | nil : ThAll K H [] []
  | cons {v : V} {vs : List V} {d : PyData} {ds : List PyData} : Th K H v d → ThAll K H vs ds → ThAll K H (v :: vs) (d :: ds)
end
theorem ThAll.len {K : PySem.W.Frag} {H : Hp} : ∀ {vs : List V} {ds : List PyData}, ThAll K H vs ds → vs.length = ds.length
  | _, _, .nil => rfl
  | _, _, .cons _ b => by rw [List.length_cons, List.length_cons, ThAll.len b]
/-- the name of its type -/
def tyN : PyData → String
  | .none => "NoneType"
  | .bool _ => "bool"
  | .int _ => "int"
  | .str _ => "str"
  | .list _ => "list"
  | .tuple _ => "tuple"
  | .dict _ => "dict"
theorem ty_lst {K : PySem.W.Frag} {H : Hp} {a : Addr} {xs : List V} (h : SqL K H a xs) : TyX K H (.ref a) (.type "list") := by
  rcases h with (h | ⟨o, h⟩) | ⟨o, its, n, e, c, _⟩
  · exact .base (.lst h)
  · exact .base (.frz h)
  · exact .kList e c
theorem Th.ty {K : PySem.W.Frag} {H : Hp} {v : V} {d : PyData} (h : Th K H v d) : TyX K H v (.type (tyN d)) := by
  cases h with
  | non => exact .base .non
  | bl b => exact .base (.bl b)
  | int i => exact .base (.int i)
  | str x => exact .base (.str x)
  | lst a _ => exact ty_lst a
  | tup a _ => exact ty_tup a
  | dic t => exact t
def isT : PyData → Bool
  | .tuple _ => true
  | _ => false
def isS : PyData → Bool
  | .str _ => true
  | _ => false
theorem kit_tup (d : PyData) : kitB (tyN d) "tuple" = some (isT d) := by
  cases d with
  | none => exact (by decide +kernel : kitB "NoneType" "tuple" = some false)
  | bool _ => exact (by decide +kernel : kitB "bool" "tuple" = some false)
  | int _ => exact (by decide +kernel : kitB "int" "tuple" = some false)
  | str _ => exact (by decide +kernel : kitB "str" "tuple" = some false)
  | list _ => exact (by decide +kernel : kitB "list" "tuple" = some false)
  | tuple _ => exact (by decide +kernel : kitB "tuple" "tuple" = some true)
  | dict _ => exact (by decide +kernel : kitB "dict" "tuple" = some false)
theorem kit_str (d : PyData) : kitB (tyN d) "str" = some (isS d) := by
  cases d with
  | none => exact (by decide +kernel : kitB "NoneType" "str" = some false)
  | bool _ => exact (by decide +kernel : kitB "bool" "str" = some false)
  | int _ => exact (by decide +kernel : kitB "int" "str" = some false)
  | str _ => exact (by decide +kernel : kitB "str" "str" = some true)
  | list _ => exact (by decide +kernel : kitB "list" "str" = some false)
  | tuple _ => exact (by decide +kernel : kitB "tuple" "str" = some false)
  | dict _ => exact (by decide +kernel : kitB "dict" "str" = some false)
/-- is_row -/
def rowD (lo hi : Int) : PyData → Bool
  | .tuple ds => decide (lo ≤ (ds.length : Int)) && decide ((ds.length : Int) ≤ hi)
  | _ => false
theorem F2.take {α β : Type} {R : α → β → Prop} {as : List α} {bs : List β} (h : F2 R as bs) : ∀ n, F2 R (as.take n) (bs.take n) := by
  induction h with
  | nil => intro n; rw [List.take_nil, List.take_nil]; exact .nil
  | cons r _ ih => intro n; cases n with
    | zero => exact .nil
    | succ n => exact .cons r (ih n)
theorem F2.drop {α β : Type} {R : α → β → Prop} {as : List α} {bs : List β} (h : F2 R as bs) : ∀ n, F2 R (as.drop n) (bs.drop n) := by
  induction h with
  | nil => intro n; rw [List.drop_nil, List.drop_nil]; exact .nil
  | cons r t ih => intro n; cases n with
    | zero => exact .cons r t
    | succ n => exact ih n
end B
namespace B
open PySem PySem.Spec PyProof.Rows L2
def ql (p : Int × Nat) : Rat := mkRat p.1 p.2
theorem ql_inj {p q : Int × Nat} (hp : IsF p.1 p.2) (hq : IsF q.1 q.2) (e : ql p = ql q) : p = q := by
  have h := (Rat.mkRat_eq_iff (Nat.ne_of_gt hp.pos) (Nat.ne_of_gt hq.pos)).mp e
  have c := cop_one (T := p.1) (B := p.2) (T' := q.1) (B' := q.2) (by have := hp.pos; omega) (by have := hq.pos; omega) (by rw [Int.natAbs_natCast]; exact hp.cop) (by rw [Int.natAbs_natCast]; exact hq.cop) h
  exact Prod.ext c.1 (by have := c.2; omega)
theorem ql_low {t : Int} {b : Nat} (hb : 0 < b) : ql (lowT t b, lowBn t b) = mkRat t b := by
  have f := low_isF (t := t) hb
  refine (Rat.mkRat_eq_iff (Nat.ne_of_gt f.pos) (Nat.ne_of_gt hb)).mpr ?_
  show lowT t b * (b : Int) = t * (lowBn t b : Int)
  rw [← lowBn_eq hb]
  exact low_cross t b
theorem ql_add {p q : Int × Nat} (hp : 0 < p.2) (hq : 0 < q.2) : ql (addF p q) = ql p + ql q := by
  unfold ql
  rw [Rat.mkRat_add_mkRat _ _ (Nat.ne_of_gt hp) (Nat.ne_of_gt hq)]
  exact ql_low (Nat.mul_pos hp hq)
theorem ql_mul {p q : Int × Nat} (hp : 0 < p.2) (hq : 0 < q.2) : ql (mulF p q) = ql p * ql q := by
  unfold ql
  rw [Rat.mkRat_mul_mkRat]
  exact ql_low (Nat.mul_pos hp hq)
theorem ql_neg (p : Int × Nat) : ql (negF p) = -ql p := by
  unfold ql
  rw [Rat.neg_mkRat]
  rfl
theorem ql_zero : ql (0, 1) = 0 := by decide
/-- a right fraction -/
def Fr (p : Int × Nat) : Prop := IsF p.1 p.2
theorem Fr.add {p q : Int × Nat} (h : Fr p) (k : Fr q) : Fr (addF p q) := add_isF h.pos k.pos
theorem Fr.mul {p q : Int × Nat} (h : Fr p) (k : Fr q) : Fr (mulF p q) := mul_isF h.pos k.pos
theorem Fr.neg {p : Int × Nat} (h : Fr p) : Fr (negF p) := IsF.neg h
theorem Fr.zero : Fr (0, 1) := ⟨by decide, by decide⟩
theorem snoc_ind {α : Type} {P : List α → Prop} (h0 : P []) (h : ∀ l x, P l → P (l ++ [x])) (l : List α) : P l := by
  have : ∀ l : List α, P l.reverse := by
    intro l
    induction l with
    | nil => exact h0
    | cons x r ih => rw [List.reverse_cons]; exact h _ x ih
  have := this l.reverse
  rwa [List.reverse_reverse] at this
end B
namespace B
open PySem PySem.Spec PyProof.Rows L2
end B
namespace B
open PySem PySem.Spec PyProof.Rows L2
structure Fb (D M : Nat) (p : Int × Nat) : Prop where
  f : Fr p
  d : p.2 ∣ D
  m : p.1.natAbs ≤ M * p.2
theorem Fb.up {D E M N : Nat} {p : Int × Nat} (h : Fb D M p) (a : D ∣ E) (b : M ≤ N) : Fb E N p := ⟨h.f, Nat.dvd_trans h.d a, Nat.le_trans h.m (Nat.mul_le_mul_right _ b)⟩
theorem Fb.zero {D M : Nat} : Fb D M (0, 1) := ⟨Fr.zero, Nat.one_dvd _, Nat.zero_le _⟩
theorem Fb.fok {D M a c : Nat} {p : Int × Nat} (h : Fb D M p) (h0 : 0 < D) (hD : D < 2 ^ a) (hM : M ≤ 2 ^ c) : Fok (c + a) p := by
  have hb : p.2 < 2 ^ a := Nat.lt_of_le_of_lt (Nat.le_of_dvd h0 h.d) hD
  refine ⟨h.f, ?_, Nat.lt_of_lt_of_le hb (Nat.pow_le_pow_right (by decide) (by omega))⟩
  rw [Nat.pow_add]
  exact Nat.lt_of_le_of_lt h.m (Nat.lt_of_le_of_lt (Nat.mul_le_mul_right _ hM) (Nat.mul_lt_mul_of_pos_left hb (Nat.pow_pos (by decide))))
theorem low_cross2 {t : Int} {b : Nat} (hb : 0 < b) : lowT t b * (b : Int) = t * (lowBn t b : Int) := by
  rw [← lowBn_eq hb]
  exact low_cross t b
theorem lowBn_dvd {t : Int} {b : Nat} (hb : 0 < b) : lowBn t b ∣ b := by
  have e := low_b t b
  have : (lowN t b).natAbs * (lowB t b).natAbs = b := by rw [← Int.natAbs_mul, e, Int.natAbs_natCast]
  exact ⟨_, by rw [Nat.mul_comm]; exact this.symm⟩
theorem cop_dvdI {T c : Int} {B D : Nat} (h : IsF T B) (e : T * (D : Int) = c * (B : Int)) : B ∣ D := by
  have e1 : T.natAbs * D = c.natAbs * B := by
    have := congrArg Int.natAbs e
    rw [Int.natAbs_mul, Int.natAbs_mul, Int.natAbs_natCast, Int.natAbs_natCast] at this
    exact this
  exact cop_dvd (a := T.natAbs) (by rw [Nat.gcd_comm]; exact h.cop) ⟨c.natAbs, by rw [e1, Nat.mul_comm]⟩
theorem Fb.add {D M N : Nat} {p q : Int × Nat} (h : Fb D M p) (k : Fb D N q) (h0 : 0 < D) : Fb D (M + N) (addF p q) := by
  have hp := h.f.pos
  have hq := k.f.pos
  have hpq := Nat.mul_pos hp hq
  have F := h.f.add k.f
  have e := low_cross2 (t := addX p.1 p.2 q.1 q.2) hpq
  obtain ⟨u, hu⟩ := h.d
  obtain ⟨v, hv⟩ := k.d
  refine ⟨F, ?_, ?_⟩
  · refine cop_dvdI (c := p.1 * u + q.1 * v) F ?_
    show lowT _ _ * (D : Int) = _ * (lowBn _ _ : Int)
    have hD : (D : Int) ≠ 0 := by omega
    refine Int.eq_of_mul_eq_mul_right hD ?_
    generalize lowT (addX p.1 p.2 q.1 q.2) (p.2 * q.2 : Nat) = T at *
    generalize lowBn (addX p.1 p.2 q.1 q.2) (p.2 * q.2) = B at *
    unfold addX at e
    have hu' : (D : Int) = p.2 * u := by rw [hu]; exact Int.natCast_mul _ _
    have hv' : (D : Int) = q.2 * v := by rw [hv]; exact Int.natCast_mul _ _
    rw [Int.natCast_mul] at e
    have : T * (D : Int) * D = T * ((p.2 : Int) * q.2) * (u * v) := by
      rw [show T * (D : Int) * D = T * ((p.2 : Int) * u) * (q.2 * v) by rw [← hu', ← hv']]
      grind
    rw [this, e]
    grind
  · show (lowT _ _).natAbs ≤ (M + N) * lowBn _ _
    have e2 := congrArg Int.natAbs e
    rw [Int.natAbs_mul, Int.natAbs_mul, Int.natAbs_natCast, Int.natAbs_natCast] at e2
    refine Nat.le_of_mul_le_mul_right ?_ hpq
    rw [e2]
    have ax : (addX p.1 p.2 q.1 q.2).natAbs ≤ (M + N) * (p.2 * q.2) := by
      unfold addX
      refine Nat.le_trans (Int.natAbs_add_le _ _) ?_
      rw [Int.natAbs_mul, Int.natAbs_mul, Int.natAbs_natCast, Int.natAbs_natCast]
      have a1 := Nat.mul_le_mul_right q.2 h.m
      have a2 := Nat.mul_le_mul_right p.2 k.m
      have : (M + N) * (p.2 * q.2) = M * p.2 * q.2 + N * q.2 * p.2 := by grind
      omega
    have := Nat.mul_le_mul_right (lowBn (addX p.1 p.2 q.1 q.2) (p.2 * q.2)) ax
    refine Nat.le_trans this (Nat.le_of_eq ?_)
    grind
theorem Fb.mul {D E M N : Nat} {p q : Int × Nat} (h : Fb D M p) (k : Fb E N q) : Fb (D * E) (M * N) (mulF p q) := by
  have hp := h.f.pos
  have hq := k.f.pos
  have hpq := Nat.mul_pos hp hq
  have e := low_cross2 (t := p.1 * q.1) hpq
  refine ⟨h.f.mul k.f, Nat.dvd_trans (lowBn_dvd hpq) (Nat.mul_dvd_mul h.d k.d), ?_⟩
  show (lowT _ _).natAbs ≤ M * N * lowBn _ _
  have e2 := congrArg Int.natAbs e
  rw [Int.natAbs_mul, Int.natAbs_mul, Int.natAbs_mul, Int.natAbs_natCast, Int.natAbs_natCast] at e2
  refine Nat.le_of_mul_le_mul_right ?_ hpq
  rw [e2]
  have ax : p.1.natAbs * q.1.natAbs ≤ M * N * (p.2 * q.2) := Nat.le_trans (Nat.mul_le_mul h.m k.m) (Nat.le_of_eq (by grind))
  refine Nat.le_trans (Nat.mul_le_mul_right _ ax) (Nat.le_of_eq ?_)
  grind
theorem Fb.neg {D M : Nat} {p : Int × Nat} (h : Fb D M p) : Fb D M (negF p) := ⟨h.f.neg, h.d, by show (-p.1).natAbs ≤ _; rw [Int.natAbs_neg]; exact h.m⟩
theorem pay_fb (v : Nat → Bool) {D M : Nat} (h0 : 0 < D) (ts : List Tm) : (∀ x ∈ ts, Fb D M x.a) → Fb D (ts.length * M) (pay v ts) := by
  refine snoc_ind (P := fun ts => (∀ x ∈ ts, Fb D M x.a) → Fb D (ts.length * M) (pay v ts)) (fun _ => Fb.zero) (fun l x ih h => ?_) ts
  have ih := ih fun y hy => h y (List.mem_append_left _ hy)
  have hx := h x (by simp)
  rw [pay_snoc, List.length_append, List.length_singleton, Nat.add_mul, Nat.one_mul]
  split
  · exact ih.add hx h0
  · exact ih.up (Nat.dvd_refl _) (by omega)
def iv (k : Nat) : V := .int (k : Int)
end B
namespace B
open PySem PySem.Spec PyProof.Rows L2
end B
namespace B
open PySem PySem.Spec PyProof.Rows L2
section
variable {prog : Program} {w : World} {A : Around} {E : Value → Shared → Prop} {s : Shared}
end
end B
namespace B
open PySem PySem.Spec PyProof.Rows L2
section
open AutoSeq1 (wpAny_loadPart')
set_option maxHeartbeats 1000000 in
theorem meets_enum1 {v : Value} {o : Obj} {H : Heap → Prop} (B : Begins v o H) :
    Meets (Builtin.«enumerate.__new__» ⟨[.type "enumerate", v], []⟩) (fun _ R s => H s.heap ∧
      R (.ok (.ret (.ref (s.heap.push o).objs.size))) { s with heap := (s.heap.push o).push { cls := .type "enumerate", data := .fields #[.none, .bool false, .ref s.heap.objs.size, rawInt 0, .none, .none] } }) :=
  .of_wp fun prog w A R s h => by
    obtain ⟨hp, g, d, tk, os⟩ := s; obtain ⟨h1, h⟩ := h
    have hsub := sub_enumerate
    have q1 : ∀ {A' : Around} {E : Value → Shared → Prop} {Q : Value → Shared → Prop}, Q (.ref hp.objs.size) ⟨hp.push o, g, d, tk, os⟩ → wpAny (model prog w) A' (pyIter v) Q E ⟨hp, g, d, tk, os⟩ :=
      fun q => B.iter prog w _ _ ⟨hp, g, d, tk, os⟩ _ h1 q
    wp_walk using q1
    refine wpAny_stack_any fun st => wpAny_pure ?_
    split
    · rename_i c _ _ _ _ _
      cases (c == Value.type "enumerate")
      · wp_walk using q1
        exact ⟨_, rfl, h⟩
      · wp_walk using q1
        exact ⟨_, rfl, h⟩
    · wp_walk using q1
      exact ⟨_, rfl, h⟩
end
section
variable {prog : Program} {w : World} {A : Around} {E : Value → Shared → Prop} {s : Shared}
theorem enum_begins1 {v : Value} {o : Obj} {H : Heap → Prop} {Q : Value → Shared → Prop} (B : Begins v o H) (h1 : H s.heap)
    (h : ∀ h', IsEnum h' (s.heap.objs.size + 1) s.heap.objs.size 0 .none → h'.get? s.heap.objs.size = some o → h'.objs.size = s.heap.objs.size + 2 →
      (∀ b o, s.heap.get? b = some o → h'.get? b = some o) → Q (.ref (s.heap.objs.size + 1)) { s with heap := h' }) :
    wpAny (model prog w) A (call (.type "enumerate") [v]) Q E s := by
  refine callType_new F.called_enumerate (by decide) (F.typeCall_enumerate_1 _) (F.newCall_enumerate_1 _) (fun obj => F.args_object_init_2 obj _) F.entry_enumerate_new
    (meets_enum1 B) ⟨h1, ?_⟩
  have hz : (s.heap.push o).objs.size = s.heap.objs.size + 1 := Heap.size_push ..
  show _ ∧ _
  rw [hz]
  have he : IsEnum ((s.heap.push o).push { cls := .type "enumerate", data := .fields #[.none, .bool false, .ref s.heap.objs.size, rawInt 0, .none, .none] }) (s.heap.objs.size + 1) s.heap.objs.size 0 .none := by
    have := Heap.get?_push_size (s.heap.push o) (o := { cls := .type "enumerate", data := .fields #[.none, .bool false, .ref s.heap.objs.size, rawInt 0, .none, .none] }) rfl
    rw [hz] at this; exact this
  exact ⟨⟨_, he, rfl⟩, h _ he (Heap.get?_push_of_some _ (Heap.get?_push_size _ B.free)) (by rw [Heap.size_push, hz]) fun b o x => Heap.get?_push_of_some _ (Heap.get?_push_of_some _ x)⟩
end
def ItE (K : PySem.W.Frag) (k1 : Kd) (v1 : V) : It :=
  ⟨fun i H => ∃ (xs : List V) (x : V), Src K H k1 v1 xs ∧ xs[i]? = some x,
    fun i H v H' => ∃ T x, v = .ref T ∧ H T = none ∧ H' = upd H T (.tup [.int (i : Nat), x]) ∧ (∀ xs, Src K H k1 v1 xs → xs[i]? = some x),
    fun i H => ∃ xs : List V, Src K H k1 v1 xs ∧ i = xs.length⟩
theorem turn_enumG {P : Program} {w : World} {K : PySem.W.Frag} {elts : List Expr} {kk : Nat} {tpos : Pos} {k1 : Kd} {v1 : V} {u1 : Value} {N : Nat} (r1 : RelV v1 u1) (l1 : ∀ a, u1 = .ref a → a < N) :
    Turn P w K (.Tuple elts kk tpos) (ItE K k1 v1) [N + 1, N] (N + 1) (fun i h => (∃ old, IsEnum h (N + 1) N (0 + (i : Int)) old) ∧ ItSt k1 u1 N i h) where
  mem := by simp
  obj := fun i h st c hc => by
    obtain ⟨⟨old, he⟩, s1⟩ := st
    have e' : c = N + 1 ∨ c = N := by simpa using hc
    rcases e' with q | q
    · rw [q]; exact ⟨_, he, fun v q => nomatch q⟩
    · rw [q]; exact s1.obj
  keep := fun i h h' st k => by
    obtain ⟨⟨old, he⟩, s1⟩ := st
    exact ⟨⟨old, k (N + 1) (by simp) _ he⟩, s1.keep fun o q => k N (by simp) o q⟩
  item := by
    intro X hP hw hK hc i pins s σ H E I hf st hg
    subst hP hw hK
    obtain ⟨he, s1⟩ := st
    obtain ⟨xs, x, hqx, hx⟩ := hg
    have hh : X.A.in1.handled = none := I.ok.hd hc
    obtain ⟨fp1, P1, St1, D1, c1, a1, b1, m1⟩ := Src.draws (it := N) I hqx r1 hh l1
    have W := GoesN.enumFrom (elts := elts) (x1 := kk) (pos := tpos) 0 D1 (N + 1) (Nat.succ_ne_self _) (notIn_new (j := 1) (i := 0) (fun b hb => l1 b (m1 b hb)) (by decide)) (List.mem_cons_self ..)
    have hi1 := (List.getElem?_eq_some_iff.mp hx).1
    refine W.goes i s (fun u s2 => ∃ x H', Inv X pins σ H' s2 ∧ RelV x u ∧ (ItE X.K k1 v1).yld i H x H' ∧ _ ∧ ∀ b ∈ [N + 1, N], H' b = none) E hi1 ⟨he, a1 i s1⟩ ?_
    rintro v h' tk ⟨T, t, p, rfl, hT, hp, ht⟩ st' hk htk
    obtain ⟨x', hx', rx⟩ := c1 i p hp
    have new : ObjOk X.prog X.w (upd H T (.tup [.int (i : Nat), x'])) h' T (.tup [.int (i : Nat), x']) := ⟨by show 2 ≤ sizeLine; decide, [.int (0 + (i : Int)) t, p], .cons ⟨t, by rw [Int.zero_add]⟩ (.cons rx .nil), ht⟩
    have I1 : Inv X pins σ (upd H T (.tup [.int (i : Nat), x'])) { s with heap := h', toks := tk } := I.turnedNew (ch := [N + 1, N]) (fun c o hb q => hk c o hb q) hf hT new
    have hTn := I.hok.fresh hT
    refine ⟨.ref T, _, I1, rfl, ⟨T, x', rfl, hTn, rfl, fun zs hz' => by rw [Src.inj I hz' hqx]; exact hx'⟩, ⟨?_, b1 _ _ st'.2⟩, fun c hc' => ?_⟩
    · obtain ⟨old, ho⟩ := st'.1
      exact ⟨old, ho⟩
    have hlt : c < s.heap.objs.size := by
      have e' : c = N + 1 ∨ c = N := by simpa using hc'
      rcases e' with q | q
      · rw [q]; obtain ⟨_, z⟩ := he; exact Heap.lt_size z
      · rw [q]; obtain ⟨_, z, _⟩ := s1.obj; exact Heap.lt_size z
    rw [upd_ne (Nat.ne_of_lt (Nat.lt_of_lt_of_le hlt hT))]
    exact (hf c hc').1
  done := by
    intro X hP hw hK hc i pins s σ H E I hf st hg
    subst hP hw hK
    obtain ⟨he, s1⟩ := st
    obtain ⟨xs, hqx, hend⟩ := hg
    have hh : X.A.in1.handled = none := I.ok.hd hc
    obtain ⟨fp1, P1, St1, D1, c1, a1, b1, m1⟩ := Src.draws (it := N) I hqx r1 hh l1
    have W := GoesN.enumFrom (elts := elts) (x1 := kk) (pos := tpos) 0 D1 (N + 1) (Nat.succ_ne_self _) (notIn_new (j := 1) (i := 0) (fun b hb => l1 b (m1 b hb)) (by decide)) (List.mem_cons_self ..)
    subst hend
    refine W.stops s (fun s1 => Inv X pins σ H s1) E ⟨he, a1 _ s1⟩ fun h' tk hk htk => ?_
    exact I.turnedL (ch := [N + 1, N]) (fun c o hb q => hk c o hb q) hf
  self := fun A i s Q E st h => let ⟨⟨_, he⟩, _⟩ := st; wpAny_pyIter_enum he h
def iEnumG (K : PySem.W.Frag) (ta : TA) : TI := fun σ H R => ta σ H fun vs H1 => ∃ k1 v1 xs, vs = [v1] ∧ Src K H1 k1 v1 xs ∧ R (ItE K k1 v1) H1
theorem pi_enumG {X : Cx} {e : Expr} {ta : TA} {p pos tpos : Pos} {elts : List Expr} {kk : Nat} (hg : Gl X "enumerate") (hm : X.mg "enumerate" = none) (ha : PA X [e] ta) (hs : starEach [e] X.env = [(false, eval e X.env)] := by rfl) :
    PI X (.Tuple elts kk tpos) (.Call (.Name "enumerate" p) [e] [] pos) (iEnumG X.K ta) := by
  refine ⟨fun pins s σ H R I h => ?_⟩
  refine Call_ (ld_blt I hg hm boot_enumerate (PyProof.Rows.callWith_type1 (thn (ha.run pos pins s σ H _ I h) fun us s1 ⟨vs, H1, I1, r1, q1⟩ => ?_) hs rfl))
  obtain ⟨k1, v1, xs, ex, hqx, q⟩ := q1
  subst ex
  cases r1 with
  | cons r rr =>
    cases rr
    obtain ⟨o1, G1, B1, g1, b1, l1⟩ := Src.begins I1 hqx r
    refine enum_begins1 B1 g1 fun h' he hit hsz hk => wpAny_pyIter_enum he ?_
    have I2 : Inv X pins σ H1 { s1 with heap := h' } := I1.kept (t' := s1.toks) hk
    refine ⟨s1.heap.objs.size + 1, [s1.heap.objs.size + 1, s1.heap.objs.size], _, _, H1, rfl, I2, turn_enumG r l1, ⟨⟨.none, he⟩, b1 h' _ hit⟩, fun b hb => ?_, q⟩
    have e' : b = s1.heap.objs.size + 1 ∨ b = s1.heap.objs.size := by simpa using hb
    have hle : s1.heap.objs.size ≤ b := by
      rcases e' with z | z
      · rw [z]; exact Nat.le_add_right _ _
      · rw [z]; exact Nat.le_refl _
    exact I1.fpOk hle (I1.hok.fresh hle)
theorem walk_enumG {K : PySem.W.Frag} {k1 : Kd} {v1 : V} {xs : List V} : Walk (ItE K k1 v1) xs.length (fun H => Src K H k1 v1 xs) (fun i H v H' => ∃ T x, v = .ref T ∧ H T = none ∧ H' = upd H T (.tup [.int (i : Nat), x]) ∧ xs[i]? = some x) :=
  ⟨fun i H hi q => ⟨xs, xs[i], q, List.getElem?_eq_getElem _⟩, fun H q => ⟨xs, q, rfl⟩,
    fun i H v H' hi q y => by
      obtain ⟨T, x, e, n, e2, h1⟩ := y
      exact ⟨T, x, e, n, e2, h1 xs q⟩⟩
end B
namespace B
open PySem PySem.Spec PyProof.Rows L2
section
variable {β : Type} {J : It} {n : Nat} {G : Hp → Prop} {Y : Nat → Hp → V → Hp → Prop} {K : PySem.W.Frag}
end
section
variable {β : Type} {J : It} {n : Nat} {G : Hp → Prop} {Y : Nat → Hp → V → Hp → Prop} {K : PySem.W.Frag}
theorem lcp_it (w : Walk J n G Y) {g : TG} {tt : TT} {te : TE} {vs : List Nat} {σ : L2.St} {H1 : Hp} {D : Addr} {Qd : Hp → Prop} (out : Nat → Option β) (R : Hp → V → β → Prop) (mono : ∀ H H' v y, Tk K H H' → R H v y → R H' v y) (nD : H1 D = none) (sz : n < sizeLine)
    (hG : ∀ H, Same H1 H → G H)
    (hs : ∀ i x H H', i < n → Same H1 H → Y i H x H' → ∀ (Y' : V → Hp → Prop) (N : Hp → Prop), (∀ y H4 z, Same H H4 → out i = some z → R H4 y z → Y' y H4) → (∀ H3, Same H H3 → out i = none → N H3) →
      g x (wipe σ vs) H' fun σ2 H2 => wipe σ2 vs = wipe σ vs ∧ tt σ2 H2 fun b H3 => if b = true then te σ2 H3 Y' else N H3)
    (hd : ∀ H ys, H D = some (.lst ys) → F2 (R H) ys ((List.range n).filterMap out) → Same H1 H → Qd H) :
    ∃ W : Nat → Nat → Hp → Prop, (∃ m, W 0 m (upd H1 D (.lst []))) ∧ ∀ i m H, W i m H →
      (J.stop i H ∧ Qd H) ∨ (J.go i H ∧ ∃ Nx : Hp → Prop, (∀ H', Nx H' → ∃ m', m' < m ∧ W (i + 1) m' H') ∧ ∀ x H', J.yld i H x H' → g x (wipe σ vs) H' fun σ2 H2 => wipe σ2 vs = wipe σ vs ∧ tt σ2 H2 fun b H3 =>
        if b = true then te σ2 H3 fun y H4 => ∃ acc, H4 D = some (.lst acc) ∧ acc.length < sizeLine ∧ Nx (upd H4 D (.lst (acc ++ [y]))) else Nx H3) := by
  refine lc_it w (fun i H => ∃ (ys : List V), H D = some (.lst ys) ∧ F2 (R H) ys ((List.range i).filterMap out) ∧ Same H1 H) ⟨[], upd_same, .nil, same_upd nD⟩ (fun i H _ ⟨_, _, _, k⟩ => hG H k) ?_ ?_
  · rintro i x H H' hi ⟨ys, hD, f, k⟩ y
    have fl := f.len
    have ll : ((List.range i).filterMap out).length ≤ i := Nat.le_trans (List.length_filterMap_le _ _) (Nat.le_of_eq List.length_range)
    have es : (List.range (i + 1)).filterMap out = (List.range i).filterMap out ++ (match out i with | some z => [z] | none => []) := by
      rw [List.range_succ, List.filterMap_append, List.filterMap_cons, List.filterMap_nil]
      cases out i <;> rfl
    refine hs i x H H' hi k y _ _ (fun v H4 z k4 e r => ?_) (fun H3 k3 e => ?_)
    · have hD4 := k4 _ _ hD
      have U := fun a xs h => tup_upd (K := K) (a := a) (ys := xs) (zs := ys ++ [v]) hD4 h
      rw [e] at es
      refine ⟨ys, hD4, by omega, ys ++ [v], upd_same, ?_, same_mut nD (k.trans k4)⟩
      rw [es]
      exact ((f.imp fun _ _ h => mono _ _ _ _ (Same.tk k4) h).app (F2.one r)).imp fun _ _ h => mono _ _ _ _ U h
    · rw [e] at es
      refine ⟨ys, k3 _ _ hD, ?_, k.trans k3⟩
      rw [es, List.append_nil]
      exact f.imp fun _ _ h => mono _ _ _ _ (Same.tk k3) h
  · rintro H ⟨ys, hD, f, k⟩
    exact hd H ys hD f k
end
def ivdat (ks : List Nat) : PyData := .list (ks.map fun k : Nat => .int (k : Int))
theorem iv_lay : ∀ ks : List Nat, PyData.canLayAll0 (ks.map fun k : Nat => .int (k : Int)) = true ∧ PyData.depthAll (ks.map fun k : Nat => PyData.int (k : Int)) = 0
  | [] => ⟨rfl, rfl⟩
  | k :: r => by
    obtain ⟨a, b⟩ := iv_lay r
    refine ⟨?_, ?_⟩
    · rw [List.map_cons, PyData.canLayAll0, a]
      rfl
    · rw [List.map_cons, PyData.depthAll, b]
      rfl
theorem iv_shaped (ks : List Nat) : SeqAt.shaped (ivdat ks) = true := by
  obtain ⟨a, b⟩ := iv_lay ks
  unfold SeqAt.shaped ivdat
  rw [PyData.canLay0, PyData.depth, a, b]
  rfl
theorem iv_dpa {K : PySem.W.Frag} {H : Hp} : ∀ ks : List Nat, DpAll K H (ks.map iv) (ks.map fun k : Nat => .int (k : Int))
  | [] => .nil
  | k :: r => .cons (.int (k : Int)) (iv_dpa r)
theorem iv_dp {K : PySem.W.Frag} {H : Hp} {a : Addr} {ks : List Nat} (h : SqL K H a (ks.map iv)) : Dp K H (.ref a) (ivdat ks) := .lst h (iv_dpa ks)
end B
namespace B
open PySem PySem.Spec PyProof.Rows L2
def isN : PyData → Bool
  | .int _ => true
  | _ => false
def isB : PyData → Bool
  | .bool _ => true
  | _ => false
theorem kit_int (d : PyData) : kitB (tyN d) "int" = some (isN d || isB d) := by
  cases d with
  | none => exact (by decide +kernel : kitB "NoneType" "int" = some false)
  | bool _ => exact (by decide +kernel : kitB "bool" "int" = some true)
  | int _ => exact (by decide +kernel : kitB "int" "int" = some true)
  | str _ => exact (by decide +kernel : kitB "str" "int" = some false)
  | list _ => exact (by decide +kernel : kitB "list" "int" = some false)
  | tuple _ => exact (by decide +kernel : kitB "tuple" "int" = some false)
  | dict _ => exact (by decide +kernel : kitB "dict" "int" = some false)
theorem kit_bool (d : PyData) : kitB (tyN d) "bool" = some (isB d) := by
  cases d with
  | none => exact (by decide +kernel : kitB "NoneType" "bool" = some false)
  | bool _ => exact (by decide +kernel : kitB "bool" "bool" = some true)
  | int _ => exact (by decide +kernel : kitB "int" "bool" = some false)
  | str _ => exact (by decide +kernel : kitB "str" "bool" = some false)
  | list _ => exact (by decide +kernel : kitB "list" "bool" = some false)
  | tuple _ => exact (by decide +kernel : kitB "tuple" "bool" = some false)
  | dict _ => exact (by decide +kernel : kitB "dict" "bool" = some false)
/-- is_fraction -/
def isFr : PyData → Bool
  | .tuple [.int t, .int b] => decide (1 ≤ b) && decide (Nat.gcd t.natAbs b.natAbs = 1)
  | _ => false
theorem isFr_iff {d : PyData} : isFr d = true ↔ ∃ p : Int × Nat, Fr p ∧ d = fdat p := by
  constructor
  · intro h
    match d, h with
    | .tuple [.int t, .int b], h =>
      have h : (decide (1 ≤ b) && decide (Nat.gcd t.natAbs b.natAbs = 1)) = true := h
      rw [Bool.and_eq_true, decide_eq_true_eq, decide_eq_true_eq] at h
      refine ⟨(t, b.toNat), ⟨by show 0 < b.toNat; omega, ?_⟩, ?_⟩
      · show Nat.gcd t.natAbs b.toNat = 1
        rw [show b.toNat = b.natAbs by omega]
        exact h.2
      · show PyData.tuple [.int t, .int b] = .tuple [.int t, .int ((b.toNat : Nat) : Int)]
        rw [Int.toNat_of_nonneg (by omega)]
  · rintro ⟨p, f, rfl⟩
    show (decide (1 ≤ (p.2 : Int)) && decide (Nat.gcd p.1.natAbs (p.2 : Int).natAbs = 1)) = true
    rw [Bool.and_eq_true, decide_eq_true_eq, decide_eq_true_eq, Int.natAbs_natCast]
    have := f.pos
    exact ⟨by omega, f.cop⟩
theorem rowD_two {d : PyData} (h : rowD 2 2 d = true) : ∃ a b, d = .tuple [a, b] := by
  match d, h with
  | .tuple ds, h =>
    have h : (decide ((2 : Int) ≤ (ds.length : Int)) && decide ((ds.length : Int) ≤ 2)) = true := h
    rw [Bool.and_eq_true, decide_eq_true_eq, decide_eq_true_eq] at h
    match ds, h with
    | [], h => exact absurd h.1 (by show ¬ ((2 : Int) ≤ 0); decide)
    | [a], h => exact absurd h.1 (by show ¬ ((2 : Int) ≤ 1); decide)
    | [a, b], _ => exact ⟨a, b, rfl⟩
    | a :: b :: c :: r, h => exact absurd h.2 (by rw [List.length_cons, List.length_cons, List.length_cons]; omega)
end B
namespace B
open PySem PySem.Spec PyProof.Rows L2
end B
namespace B
open PySem PySem.Spec PyProof.Rows L2
theorem ql_nd {p : Int × Nat} (h : Fr p) : (ql p).num = p.1 ∧ (ql p).den = p.2 := by
  have hp := h.pos
  have c : Nat.gcd p.1.natAbs p.2 = 1 := h.cop
  unfold ql
  rw [Rat.num_mkRat, Rat.den_mkRat, if_neg (Nat.ne_of_gt hp), if_neg (Nat.ne_of_gt hp), Nat.gcd_comm p.2, c]
  exact ⟨Int.ediv_one _, Nat.div_one _⟩
theorem ql_lt {p q : Int × Nat} (h : Fr p) (k : Fr q) : ql p < ql q ↔ p.1 * (q.2 : Int) < q.1 * (p.2 : Int) := by
  rw [Rat.lt_iff, (ql_nd h).1, (ql_nd h).2, (ql_nd k).1, (ql_nd k).2]
theorem ql_pos {p : Int × Nat} (h : Fr p) : 0 < ql p ↔ 0 < p.1 := by
  rw [← ql_zero, ql_lt Fr.zero h]
  show 0 * (p.2 : Int) < p.1 * 1 ↔ _
  omega
theorem ql_sub {p q : Int × Nat} (h : Fr p) (k : Fr q) : ql (subF p q) = ql p - ql q := by
  unfold subF
  rw [ql_add h.pos k.neg.pos, ql_neg, Rat.sub_eq_add_neg]
/-- what a thing is as a fraction -/
def frD : PyData → Int × Nat
  | .tuple [.int t, .int b] => (t, b.toNat)
  | _ => (0, 1)
theorem frD_fdat (p : Int × Nat) : frD (fdat p) = p := rfl
theorem fdat_dec (p q : Int × Nat) : PyData.eqv (fdat p) (fdat q) = decide (p = q) := by
  by_cases h : p = q
  · rw [(fdat_iff p q).mpr h, decide_eq_true h]
  · rw [eqv_false (fdat_iff p q) h, decide_eq_false h]
end B
namespace B
open PySem PySem.Spec PyProof.Rows L2
end B
namespace B
open PySem PySem.Spec PyProof.Rows L2
end B
namespace B
open PySem PySem.Spec PyProof.Rows L2
section
variable {cs : List Nat} {wl : List (List Bool)} {bds : List Bd} {ss : List (Int × Nat)} {pr own : Int × Nat} {ts : List Tm} {bits : List (Int × Nat)}
end
section
variable {cs : List Nat} {wl : List (List Bool)} {bds : List Bd} {ss : List (Int × Nat)} {pr own : Int × Nat} {ts : List Tm} {bits : List (Int × Nat)}
end
end B
namespace B
open PySem PySem.Spec PyProof.Rows L2
def tMid (t u : TS) : TS := fun D σ H => ∃ Mid : L2.St → Hp → Prop, t { D with nx := Mid } σ H ∧ ∀ σ' H', Mid σ' H' → u D σ' H'
theorem pss_mid {X : Cx} {st : Stmt} {rest : List Stmt} {t u : TS} (h1 : PS X st t) (h2 : PSs X rest u) : PSs X (st :: rest) (tMid t u) := by
  refine ⟨fun pins s σ H D I h => ?_⟩
  obtain ⟨Mid, hm, hu⟩ := h
  refine wpAny_execs_cons (thn (h1.run pins s σ H { D with nx := Mid } I hm) fun f s1 q => ?_)
  cases f with
  | next =>
    obtain ⟨σ', H', I', q⟩ := q
    exact h2.run pins s1 σ' H' D I' (hu σ' H' q)
  | ret v => exact q
  | brk => exact q
  | cont => exact q
end B
namespace B
open PySem PySem.Spec PyProof.Rows L2
end B
namespace B
open PySem PySem.Spec PyProof.Rows L2
end B
namespace B
open PySem PySem.Spec PyProof.Rows L2
def kD : Key → PyData
  | .inl i => .int i
  | .inr x => .str x
mutual
inductive Dq (K : PySem.W.Frag) (H : Hp) : V → PyData → Prop
  | non : Dq K H .non .none
  | bl (b : Bool) : Dq K H (.bl b) (.bool b)
  | int (i : Int) : Dq K H (.int i) (.int i)
  | str (x : Str) : Dq K H (.str x) (.str x)
  | lst {a : Addr} {xs : List V} {ds : List PyData} : SqL K H a xs → DqAll K H xs ds → Dq K H (.ref a) (.list ds)
  | tup {a : Addr} {xs : List V} {ds : List PyData} : SqT K H a xs → DqAll K H xs ds → Dq K H (.ref a) (.tuple ds)
  | dic {a : Addr} {kvs : List (Key × V)} {xs : List V} {l : List (PyData × PyData)} : H a = some (.dK kvs) → kvs.map (·.2) = xs → l.map (·.1) = kvs.map (fun p => kD p.1) → DqAll K H xs (l.map (·.2)) → Dq K H (.ref a) (.dict l)
inductive DqAll (K : PySem.W.Frag) (H : Hp) : List V → List PyData → Prop
  | nil : DqAll K H [] []
  | cons {v : V} {vs : List V} {d : PyData} {ds : List PyData} : Dq K H v d → DqAll K H vs ds → DqAll K H (v :: vs) (d :: ds)
end
mutual
theorem dq_dp {K : PySem.W.Frag} {H : Hp} : ∀ {v : V} {d : PyData}, Dp K H v d → Dq K H v d
  | _, _, .non => .non
  | _, _, .bl b => .bl b
  | _, _, .int i => .int i
  | _, _, .str x => .str x
  | _, _, .lst a b => .lst a (dqAll_dp b)
  | _, _, .tup a b => .tup a (dqAll_dp b)
theorem dqAll_dp {K : PySem.W.Frag} {H : Hp} : ∀ {vs : List V} {ds : List PyData}, DpAll K H vs ds → DqAll K H vs ds
  | _, _, .nil => .nil
  | _, _, .cons a b => .cons (dq_dp a) (dqAll_dp b)
end
mutual
theorem dq_th {K : PySem.W.Frag} {H : Hp} : ∀ {v : V} {d : PyData}, Dq K H v d → Th K H v d
  | _, _, .non => .non
  | _, _, .bl b => .bl b
  | _, _, .int i => .int i
  | _, _, .str x => .str x
  | _, _, .lst a b => .lst a (dqAll_th b)
  | _, _, .tup a b => .tup a (dqAll_th b)
  | _, _, .dic a _ _ _ => .dic (.base (.dK a))
theorem dqAll_th {K : PySem.W.Frag} {H : Hp} : ∀ {vs : List V} {ds : List PyData}, DqAll K H vs ds → ThAll K H vs ds
  | _, _, .nil => .nil
  | _, _, .cons a b => .cons (dq_th a) (dqAll_th b)
end
mutual
theorem dq_same {K : PySem.W.Frag} {H H' : Hp} (s : Same H H') : ∀ {v : V} {d : PyData}, Dq K H v d → Dq K H' v d
  | _, _, .non => .non
  | _, _, .bl b => .bl b
  | _, _, .int i => .int i
  | _, _, .str x => .str x
  | _, _, .lst a b => .lst (Same.sql s a) (dqAll_same s b)
  | _, _, .tup a b => .tup (Same.tup s a) (dqAll_same s b)
  | _, _, .dic a e f b => .dic (s _ _ a) e f (dqAll_same s b)
theorem dqAll_same {K : PySem.W.Frag} {H H' : Hp} (s : Same H H') : ∀ {vs : List V} {ds : List PyData}, DqAll K H vs ds → DqAll K H' vs ds
  | _, _, .nil => .nil
  | _, _, .cons a b => .cons (dq_same s a) (dqAll_same s b)
end
section
variable {X : Cx} {pins : List (Addr × Obj)} {σ : L2.St} {H : Hp} {s : Shared}
end
section
variable {X : Cx}
end
end B
namespace B
open PySem PySem.Spec PyProof.Rows L2
end B
namespace B
open PySem PySem.Spec PyProof.Rows L2
theorem fas_dq {K : PySem.W.Frag} {H : Hp} : ∀ {xs : List V} {l : List (Int × Nat)}, F2 (FAt K H) xs l → DqAll K H xs (l.map fdat)
  | _, _, .nil => .nil
  | _, _, .cons ⟨a, e, t⟩ r => by
    subst e
    exact .cons (.tup t (.cons (.int _) (.cons (.int _) .nil))) (fas_dq r)
theorem DqAll.len {K : PySem.W.Frag} {H : Hp} : ∀ {xs : List V} {ds : List PyData}, DqAll K H xs ds → xs.length = ds.length
  | _, _, .nil => rfl
  | _, _, .cons _ b => by rw [List.length_cons, List.length_cons, DqAll.len b]
end B
namespace B
open PySem PySem.Spec PyProof.Rows L2
theorem dq2 {K : PySem.W.Frag} {H : Hp} {p : Addr} {t b : Int} (h : SqT K H p [.int t, .int b]) : Dq K H (.ref p) (.tuple [.int t, .int b]) := .tup h (.cons (.int t) (.cons (.int b) .nil))
theorem ixn {n j : Nat} (h : j < n) : ixN n (j : Int) = some j := by
  unfold ixN
  rw [if_pos (by omega), if_pos (by omega)]
  simp
end B
namespace B
open PySem PySem.Spec PyProof.Rows L2
end B
namespace B
open PySem PySem.Spec PyProof.Rows L2
end B
namespace B
open PySem PySem.Spec PyProof.Rows L2
theorem bds_dq {K : PySem.W.Frag} {H : Hp} : ∀ {vs : List V} {l : List Bd}, F2 (BdAt K H) vs l → DqAll K H vs (l.map kdat)
  | _, _, .nil => .nil
  | _, _, .cons h r => .cons (dq_dp h.dp) (bds_dq r)
end B
namespace B
open PySem PySem.Spec PyProof.Rows L2
end B
namespace B
open PySem PySem.Spec PyProof.Rows L2
end B
namespace B
open PySem PySem.Spec PyProof.Rows L2
def rEqL0 (K : PySem.W.Frag) : R2 := fun x y H Q => ∃ a b xs, x = .ref a ∧ y = .ref b ∧ SqL K H a xs ∧ SqL K H b [] ∧ Q (.bl xs.isEmpty) H
theorem op_eqL0 {X : Cx} (hu : X.A.units + 64 < cLine) : OpR X (compareOp .Eq) (rEqL0 X.K) := by
  intro pins s σ H x y v u Q I rx ry h
  obtain ⟨a, b, xs, rfl, rfl, ha, hb, q⟩ := h
  cases xs with
  | nil =>
    exact op_eqD hu pins s σ H (.ref a) (.ref b) v u Q I rx ry ⟨.list [], .list [], .lst ha .nil, .lst hb .nil, rfl, rfl, q⟩
  | cons x xs =>
    obtain rfl : v = Value.ref a := rx
    obtain rfl : u = Value.ref b := ry
    obtain ⟨its, rv, hA, _⟩ := I.list ha
    obtain ⟨its2, rv2, hB, _⟩ := I.list hb
    have e1 := rv.length
    have e2 := rv2.length
    obtain ⟨⟨cls, dd, data, sl⟩, n, ho, hc, _, hd⟩ := hA
    obtain ⟨⟨cls2, dd2, data2, sl2⟩, n2, ho2, hc2, _, hd2⟩ := hB
    simp only at hc hd hc2 hd2
    subst hc hd hc2 hd2
    have ta : s.TypeIs (.ref a) "list" := ⟨_, ho, rfl⟩
    have tb : s.TypeIs (.ref b) "list" := ⟨_, ho2, rfl⟩
    have ne : (its.toArray.size != its2.toArray.size) = true := by
      simp only [List.size_toArray, ← e1, ← e2, List.length_cons, List.length_nil]
      rfl
    show wpAny (model X.prog X.w) X.A (richCompare .Eq (.ref a) (.ref b)) _ _ s
    exact wpAny_richCompare_same_room (op := .Eq) ta tb F.slot_list_eq (call_meets F.slot_list_eq ta F.entry_list_eq (F.args_list_eq_2 _ _) (PySem.SeqAt.list_eq_lengthsAt a b its.toArray its2.toArray n n2 dd dd2 sl sl2 ne)
      ⟨ho, ho2, show Value.bool false ≠ Value.notImplemented ∧ _ from ⟨(fun x => nomatch x), ⟨.bl false, H, I, rfl, q⟩⟩⟩) (by omega)
end B
namespace B
open PySem PySem.Spec PyProof.Rows L2
end B
namespace B
open PySem PySem.Spec PyProof.Rows L2
def gone (cs : List Nat) : List Nat := (List.range' 97 26).filter fun c => !decide (c ∈ cs)
end B
namespace B
open PySem PySem.Spec PyProof.Rows L2
end B
namespace B
open PySem PySem.Spec PyProof.Rows L2
end B
namespace B
open PySem PySem.Spec PyProof.Rows L2
end B
namespace B
open PySem PySem.Spec PyProof.Rows L2
end B
namespace B
open PySem PySem.Spec PyProof.Rows L2
theorem dqAll_f2 {K : PySem.W.Frag} {H : Hp} : ∀ {vs : List V} {ds : List PyData}, DqAll K H vs ds → F2 (Dq K H) vs ds
  | _, _, .nil => .nil
  | _, _, .cons a b => .cons a (dqAll_f2 b)
theorem ints_lay : ∀ a : List Int, PyData.canLayAll0 (a.map .int) = true
  | [] => rfl
  | x :: a => by
    show (true && PyData.canLayAll0 (a.map .int)) = true
    rw [ints_lay a]
    rfl
theorem ints_deep : ∀ a : List Int, PyData.depthAll (a.map .int) = 0
  | [] => rfl
  | x :: a => by
    show max 0 (PyData.depthAll (a.map .int)) = 0
    rw [ints_deep a]
    rfl
theorem ints_shaped (a : List Int) : SeqAt.shaped (.list (a.map .int)) = true := by
  unfold SeqAt.shaped
  have e1 : (PyData.list (a.map .int)).canLay0 = true := ints_lay a
  have e2 : (PyData.list (a.map .int)).depth = 1 := by
    show PyData.depthAll (a.map .int) + 1 = 1
    rw [ints_deep]
  rw [e1, e2]
  rfl
end B
namespace B
open PySem PySem.Spec PyProof.Rows L2
end B
namespace B
open PySem PySem.Spec PyProof.Rows L2
end B
namespace B
open PySem PySem.Spec PyProof.Rows L2
end B
namespace B
open PySem PySem.Spec PyProof.Rows L2
end B
namespace B
open PySem PySem.Spec PyProof.Rows L2
end B
namespace B
open PySem PySem.Spec PyProof.Rows L2
theorem f2_rep {α β : Type} {R : α → β → Prop} {a : α} {b : β} (h : R a b) : ∀ {n : Nat}, F2 R (List.replicate n a) (List.replicate n b)
  | 0 => .nil
  | _ + 1 => .cons h (f2_rep h)
end B
namespace B
open PySem PySem.Spec PyProof.Rows L2
def isAb (d : PyData) : Bool := isFr d && decide (0 < (frD d).1)
structure Tkt where
  n : Nat
  l : Nat
  s : Nat
  b : Bd
  k : Int × Nat
/-- a ticket stands at v -/
def TkAt (K : PySem.W.Frag) (H : Hp) (v : V) (t : Tkt) : Prop := ∃ q a p k : Addr, v = .ref q ∧ SqT K H q [.int t.n, .int t.l, .int t.s, .ref a, .ref p, .ref k] ∧ BtAt K H a t.b.ts t.b.g ∧ SqT K H p [.int t.b.p.1, .int t.b.p.2] ∧ SqT K H k [.int t.k.1, .int t.k.2]
theorem TkAt.mono {K : PySem.W.Frag} {H H' : Hp} {v : V} {t : Tkt} (k : Tk K H H') (h : TkAt K H v t) : TkAt K H' v t := by
  obtain ⟨q, a, p, c, e, t1, t2, t3, t4⟩ := h
  exact ⟨q, a, p, c, e, k _ _ t1, t2.mono k, k _ _ t3, k _ _ t4⟩
theorem tks_tk {K : PySem.W.Frag} {H H' : Hp} {vs : List V} {ts : List Tkt} (h : F2 (TkAt K H) vs ts) (k : Tk K H H') : F2 (TkAt K H') vs ts := h.imp fun _ _ q => q.mono k
/-- what a ticket brings its long -/
def brF (v : Nat → Bool) (t : Tkt) : Int × Nat := match payO v t.b.ts t.b.g with
  | none => (0, 1)
  | some p => mulF t.k (subF p t.b.p)
structure TkOk (cs : List Nat) (t : Tkt) : Prop where
  b : BdOk cs 300 300 t.b
  k : Fok 6000 t.k
theorem TkOk.br {cs : List Nat} {t : Tkt} (h : TkOk cs t) (v : Nat → Bool) : Fok 7000 (brF v t) := by
  unfold brF
  cases e : payO v t.b.ts t.b.g with
  | none => exact Fok.zero (by decide)
  | some p =>
    have pk : Fok 300 p := by rw [payO_some e]; exact h.b.pz _
    exact (h.k.mul (pk.sub h.b.pp)).up (by decide)
/-- one ticket more -/
def wStep (v : Nat → Bool) (l : List (Int × Nat)) (t : Tkt) : List (Int × Nat) :=
  let a := l.set t.l (addF (l.getD t.l (0, 1)) (brF v t))
  a.set t.s (addF (a.getD t.s (0, 1)) (negF (brF v t)))
/-- what all holders have -/
def worthsF (v : Nat → Bool) (ps : List (Int × Nat)) (tks : List Tkt) : List (Int × Nat) := tks.foldl (wStep v) ps
theorem wStep_len (v : Nat → Bool) (l : List (Int × Nat)) (t : Tkt) : (wStep v l t).length = l.length := by
  unfold wStep
  rw [List.length_set, List.length_set]
theorem worthsF_snoc (v : Nat → Bool) (ps : List (Int × Nat)) (tks : List Tkt) (t : Tkt) : worthsF v ps (tks ++ [t]) = wStep v (worthsF v ps tks) t := by
  unfold worthsF
  rw [List.foldl_append]
  rfl
theorem worthsF_len (v : Nat → Bool) (ps : List (Int × Nat)) (tks : List Tkt) : (worthsF v ps tks).length = ps.length := by
  refine snoc_ind (P := fun tks => (worthsF v ps tks).length = ps.length) rfl (fun l x ih => ?_) tks
  rw [worthsF_snoc, wStep_len, ih]
/-- tickets and purses that add up without growing great -/
structure WzOk (D M : Nat) (v : Nat → Bool) (ps : List (Int × Nat)) (tks : List Tkt) : Prop where
  t : ∀ t ∈ tks, Fb D M (brF v t)
  p : ∀ p ∈ ps, Fb D M p
  d0 : 0 < D
  d : D < 2 ^ 1000
  m : (2 * tks.length + 1) * M ≤ 2 ^ 1000
theorem mem_set_or {l : List (Int × Nat)} {i : Nat} {a x : Int × Nat} (h : x ∈ l.set i a) : x ∈ l ∨ x = a := List.mem_or_eq_of_mem_set h
theorem getD_mem {l : List (Int × Nat)} {i : Nat} {P : Int × Nat → Prop} (h : ∀ x ∈ l, P x) (h0 : P (0, 1)) : P (l.getD i (0, 1)) := by
  rw [List.getD_eq_getElem?_getD]
  cases e : l[i]? with
  | none => exact h0
  | some x => exact h x (List.mem_of_getElem? e)
theorem wStep_fb {D M N : Nat} {v : Nat → Bool} {l : List (Int × Nat)} {t : Tkt} (d0 : 0 < D) (hl : ∀ x ∈ l, Fb D N x) (ht : Fb D M (brF v t)) : (∀ x ∈ l.set t.l (addF (l.getD t.l (0, 1)) (brF v t)), Fb D (N + M) x) ∧ ∀ x ∈ wStep v l t, Fb D (N + 2 * M) x := by
  have h1 : ∀ x ∈ l.set t.l (addF (l.getD t.l (0, 1)) (brF v t)), Fb D (N + M) x := fun x hx => by
    rcases mem_set_or hx with z | z
    · exact (hl x z).up (Nat.dvd_refl _) (by omega)
    · rw [z]
      exact (getD_mem (P := Fb D N) hl Fb.zero).add ht d0
  refine ⟨h1, fun x hx => ?_⟩
  rcases mem_set_or (show x ∈ (l.set t.l (addF (l.getD t.l (0, 1)) (brF v t))).set t.s _ from hx) with z | z
  · exact (h1 x z).up (Nat.dvd_refl _) (by omega)
  · rw [z]
    exact ((getD_mem (P := Fb D (N + M)) h1 Fb.zero).add ht.neg d0).up (Nat.dvd_refl _) (by omega)
theorem worths_fb {D M : Nat} {v : Nat → Bool} {ps : List (Int × Nat)} (d0 : 0 < D) (hp : ∀ p ∈ ps, Fb D M p) (tks : List Tkt) : (∀ t ∈ tks, Fb D M (brF v t)) → ∀ x ∈ worthsF v ps tks, Fb D ((2 * tks.length + 1) * M) x := by
  refine snoc_ind (P := fun tks => (∀ t ∈ tks, Fb D M (brF v t)) → ∀ x ∈ worthsF v ps tks, Fb D ((2 * tks.length + 1) * M) x) (fun _ x hx => (hp x hx).up (Nat.dvd_refl _) (by show M ≤ (2 * 0 + 1) * M; omega)) (fun l t ih h x hx => ?_) tks
  rw [worthsF_snoc] at hx
  refine ((wStep_fb d0 (ih fun y hy => h y (List.mem_append_left _ hy)) (h t (by simp))).2 x hx).up (Nat.dvd_refl _) ?_
  rw [List.length_append, List.length_singleton]
  generalize l.length = n
  have : (2 * (n + 1) + 1) * M = (2 * n + 1) * M + 2 * M := by rw [show 2 * (n + 1) + 1 = (2 * n + 1) + 2 by omega, Nat.add_mul]
  omega
/-- in the middle of one ticket -/
theorem WzOk.mid {D M : Nat} {v : Nat → Bool} {ps : List (Int × Nat)} {tks : List Tkt} {i : Nat} {t : Tkt} (h : WzOk D M v ps tks) (ht : tks[i]? = some t) : ∀ x ∈ (worthsF v ps (tks.take i)).set t.l (addF ((worthsF v ps (tks.take i)).getD t.l (0, 1)) (brF v t)), Fok 2000 x := fun x hx => by
  have hm := h.t t (List.mem_of_getElem? ht)
  have hi := (List.getElem?_eq_some_iff.mp ht).1
  have := (wStep_fb (v := v) (t := t) h.d0 (worths_fb h.d0 h.p (tks.take i) fun t ht => h.t t (List.mem_of_mem_take ht)) hm).1 x hx
  refine this.fok (a := 1000) (c := 1000) h.d0 h.d (Nat.le_trans ?_ h.m)
  rw [List.length_take, Nat.min_eq_left (by omega), ← Nat.succ_mul]
  exact Nat.mul_le_mul_right _ (by omega)
/-- what one holder has -/
def oneF (v : Nat → Bool) (h : Nat) (p : Int × Nat) (tks : List Tkt) : Int × Nat := tks.foldl (fun x t => let y := if t.l = h then addF x (brF v t) else x; if t.s = h then addF y (negF (brF v t)) else y) p
theorem wStep_at (v : Nat → Bool) (l : List (Int × Nat)) (t : Tkt) (h : Nat) (hl : t.l < l.length) (hs : t.s < l.length) : (wStep v l t)[h]? = l[h]?.map fun x => (let y := if t.l = h then addF x (brF v t) else x; if t.s = h then addF y (negF (brF v t)) else y) := by
  unfold wStep
  have g1 : ∀ (a : List (Int × Nat)) (i : Nat) (y : Int × Nat), i < a.length → (a.set i y)[h]? = if i = h then some y else a[h]? := fun a i y hi => by
    rw [List.getElem?_set]
    by_cases e : i = h
    · rw [if_pos e, if_pos e, if_pos hi]
    · rw [if_neg e, if_neg e]
  rw [g1 _ _ _ (by rw [List.length_set]; exact hs), g1 _ _ _ hl]
  by_cases e2 : t.s = h
  · by_cases e1 : t.l = h
    · rw [if_pos e2, e1, e2]
      have hh : h < l.length := by omega
      rw [List.getElem?_eq_getElem hh]
      simp only [Option.map_some, if_pos, List.getD_eq_getElem?_getD, List.getElem?_eq_getElem hh, Option.getD_some, List.getElem?_set_self hh]
    · rw [if_pos e2]
      have hh : h < l.length := by omega
      have : (l.set t.l (addF (l.getD t.l (0, 1)) (brF v t))).getD t.s (0, 1) = l[h] := by
        rw [List.getD_eq_getElem?_getD, e2, g1 _ _ _ hl, if_neg e1, List.getElem?_eq_getElem hh]
        rfl
      rw [this, List.getElem?_eq_getElem hh]
      simp only [Option.map_some, if_neg e1, if_pos e2]
  · rw [if_neg e2]
    by_cases e1 : t.l = h
    · rw [if_pos e1]
      have hh : h < l.length := by omega
      rw [List.getElem?_eq_getElem hh]
      simp only [Option.map_some, if_pos e1, if_neg e2, List.getD_eq_getElem?_getD, e1, List.getElem?_eq_getElem hh, Option.getD_some, if_true]
    · rw [if_neg e1]
      cases l[h]? with
      | none => rfl
      | some x => simp only [Option.map_some, if_neg e1, if_neg e2]
theorem worths_at (v : Nat → Bool) (ps : List (Int × Nat)) (h : Nat) (tks : List Tkt) : (∀ t ∈ tks, t.l < ps.length ∧ t.s < ps.length) → (worthsF v ps tks)[h]? = ps[h]?.map fun p => oneF v h p tks := by
  refine snoc_ind (P := fun tks => (∀ t ∈ tks, t.l < ps.length ∧ t.s < ps.length) → (worthsF v ps tks)[h]? = ps[h]?.map fun p => oneF v h p tks) (fun _ => by show ps[h]? = ps[h]?.map fun p => p; cases ps[h]? <;> rfl) (fun l t ih k => ?_) tks
  have i1 := ih fun y hy => k y (List.mem_append_left _ hy)
  obtain ⟨k1, k2⟩ := k t (by simp)
  rw [worthsF_snoc, wStep_at v _ t h (by rw [worthsF_len]; exact k1) (by rw [worthsF_len]; exact k2), i1, Option.map_map]
  congr 1
  funext p
  show _ = oneF v h p (l ++ [t])
  unfold oneF
  rw [List.foldl_append]
  rfl
end B
namespace B
open PySem PySem.Spec PyProof.Rows L2
/-- a row of bids -/
def BsAt (K : PySem.W.Frag) (H : Hp) (v : V) (bds : List Bd) : Prop := ∃ (q : Addr) (vs : List V), v = .ref q ∧ SqT K H q vs ∧ F2 (BdAt K H) vs bds
theorem BsAt.mono {K : PySem.W.Frag} {H H' : Hp} {v : V} {bds : List Bd} (k : Tk K H H') (h : BsAt K H v bds) : BsAt K H' v bds := by
  obtain ⟨q, vs, e, t, f⟩ := h
  exact ⟨q, vs, e, k _ _ t, bds_tk f k⟩
structure Std where
  cs : List Nat
  rs : List (List Wd)
  ps : List (Int × Nat)
  ts : List Tkt
  bs : List (List Bd)
  m : Nat
/-- a stand stands at a -/
def StdAt (K : PySem.W.Frag) (H : Hp) (a : Addr) (S : Std) : Prop := ∃ (h p t l : Addr) (pvs tvs lvs : List V), SqT K H a [.ref h, .ref p, .ref t, .ref l, .int S.m] ∧ HsAt K H h S.cs S.rs ∧ SqT K H p pvs ∧ F2 (FAt K H) pvs S.ps ∧ SqT K H t tvs ∧ F2 (TkAt K H) tvs S.ts ∧ SqT K H l lvs ∧ F2 (BsAt K H) lvs S.bs
theorem StdAt.mono {K : PySem.W.Frag} {H H' : Hp} {a : Addr} {S : Std} (k : Tk K H H') (h : StdAt K H a S) : StdAt K H' a S := by
  obtain ⟨h, p, t, l, pvs, tvs, lvs, t1, t2, t3, t4, t5, t6, t7, t8⟩ := h
  exact ⟨h, p, t, l, pvs, tvs, lvs, k _ _ t1, t2.mono k, k _ _ t3, fas_tk t4 k, k _ _ t5, tks_tk t6 k, k _ _ t7, t8.imp fun _ _ q => q.mono k⟩
structure StdOk (D M : Nat) (S : Std) : Prop where
  h : HsOk S.cs S.rs
  p2 : 2 ≤ S.ps.length
  p6 : S.ps.length ≤ 6
  t : ∀ t ∈ S.ts, TkOk S.cs t ∧ t.l < S.ps.length ∧ t.s < S.ps.length
  z : ∀ bs ∈ wor S.cs S.rs, WzOk D M (vl S.cs bs) S.ps S.ts
  n : S.ts.length ≤ 100
/-- which is the first of the least -/
def ltF (a b : Int × Nat) : Bool := decide (a.1 * (b.2 : Int) < b.1 * (a.2 : Int))
def bestI (l : List (Int × Nat)) (n : Nat) : Nat := (List.range n).foldl (fun b i => if ltF (l.getD i (0, 1)) (l.getD b (0, 1)) then i else b) 0
theorem bestI_succ (l : List (Int × Nat)) (n : Nat) : bestI l (n + 1) = if ltF (l.getD n (0, 1)) (l.getD (bestI l n) (0, 1)) then n else bestI l n := by
  unfold bestI
  rw [List.range_succ, List.foldl_append]
  rfl
theorem bestI_le (l : List (Int × Nat)) : ∀ n, bestI l n ≤ n - 1
  | 0 => Nat.le_refl _
  | n + 1 => by
    rw [bestI_succ]
    have := bestI_le l n
    split <;> omega
theorem bestI_least (l : List (Int × Nat)) (hf : ∀ x ∈ l, Fr x) : ∀ n i, i < n → n ≤ l.length → ql (l.getD (bestI l n) (0, 1)) ≤ ql (l.getD i (0, 1))
  | n + 1, i, hi, hn => by
    have fr : ∀ j, Fr (l.getD j (0, 1)) := fun j => getD_mem (P := Fr) hf Fr.zero
    have e : ∀ a b : Int × Nat, Fr a → Fr b → (ltF a b = true ↔ ql a < ql b) := fun a b ha hb => by
      unfold ltF
      rw [decide_eq_true_eq, ql_lt ha hb]
    rw [bestI_succ]
    by_cases hl : ltF (l.getD n (0, 1)) (l.getD (bestI l n) (0, 1)) = true
    · rw [if_pos hl]
      have h1 := (e _ _ (fr n) (fr _)).mp hl
      by_cases z : i = n
      · rw [z]; exact Rat.le_refl
      · have h2 := bestI_least l hf n i (by omega) (by omega)
        grind
    · rw [if_neg hl]
      by_cases z : i = n
      · rw [z]
        have h1 : ¬ ql (l.getD n (0, 1)) < ql (l.getD (bestI l n) (0, 1)) := fun h => hl ((e _ _ (fr n) (fr _)).mpr h)
        grind
      · exact bestI_least l hf n i (by omega) (by omega)
end B
namespace B
open PySem PySem.Spec PyProof.Rows L2
end B
namespace B
open PySem PySem.Spec PyProof.Rows L2
structure Grid (K : PySem.W.Frag) (G0 H : Hp) (L : Addr) (n m : Nat) (f : Nat → Nat → Int × Nat) : Prop where
  ex : ∃ as : List Addr, as.length = n ∧ as.Nodup ∧ L ∉ as ∧ G0 L = none ∧ (∀ a ∈ as, G0 a = none) ∧ H L = some (.lst (as.map V.ref)) ∧ ∀ (i : Nat) (a : Addr), as[i]? = some a → ∃ us, H a = some (.lst us) ∧ us.length = m ∧ ∀ (j : Nat) (u : V), us[j]? = some u → FAt K H u (f i j)
theorem Grid.same {K : PySem.W.Frag} {G0 H H' : Hp} {L : Addr} {n m : Nat} {f : Nat → Nat → Int × Nat} (g : Grid K G0 H L n m f) (s : Same H H') : Grid K G0 H' L n m f := by
  obtain ⟨as, h1, h2, h3, h4, h5, h6, h7⟩ := g
  refine ⟨as, h1, h2, h3, h4, h5, s _ _ h6, fun i a ha => ?_⟩
  obtain ⟨us, k1, k2, k3⟩ := h7 i a ha
  exact ⟨us, s _ _ k1, k2, fun j u hu => (k3 j u hu).mono (Same.tk s)⟩
theorem Grid.congr {K : PySem.W.Frag} {G0 H : Hp} {L : Addr} {n m : Nat} {f g : Nat → Nat → Int × Nat} (h : Grid K G0 H L n m f) (e : ∀ i j, i < n → j < m → f i j = g i j) : Grid K G0 H L n m g := by
  obtain ⟨as, h1, h2, h3, h4, h5, h6, h7⟩ := h
  refine ⟨as, h1, h2, h3, h4, h5, h6, fun i a ha => ?_⟩
  obtain ⟨us, k1, k2, k3⟩ := h7 i a ha
  refine ⟨us, k1, k2, fun j u hu => ?_⟩
  rw [← e i j (by have := (List.getElem?_eq_some_iff.mp ha).1; omega) (by have := (List.getElem?_eq_some_iff.mp hu).1; omega)]
  exact k3 j u hu
/-- a cell read -/
theorem Grid.get {K : PySem.W.Frag} {G0 H : Hp} {L : Addr} {n m : Nat} {f : Nat → Nat → Int × Nat} (g : Grid K G0 H L n m f) {i j : Nat} (hi : i < n) (hj : j < m) : ∃ (rows : List V) (a : Addr) (us : List V) (c : Addr), H L = some (.lst rows) ∧ rows.length = n ∧ rows[i]? = some (.ref a) ∧ H a = some (.lst us) ∧ us.length = m ∧ us[j]? = some (.ref c) ∧ SqT K H c [.int (f i j).1, .int (f i j).2] ∧
    (∀ (r : Addr) (x : Int × Nat), SqT K H r [.int x.1, .int x.2] → Grid K G0 (upd H a (.lst (us.set j (.ref r)))) L n m (fun i' j' => if i' = i ∧ j' = j then x else f i' j') ∧ (∀ p xs, SqT K H p xs → SqT K (upd H a (.lst (us.set j (.ref r)))) p xs)) ∧ G0 a = none ∧ a ≠ L := by
  obtain ⟨as, h1, h2, h3, h4, h5, h6, h7⟩ := id g
  have ga := List.getElem?_eq_getElem (l := as) (i := i) (by omega)
  generalize as[i] = a at ga
  obtain ⟨us, k1, k2, k3⟩ := h7 i a ga
  have gu := List.getElem?_eq_getElem (l := us) (i := j) (by omega)
  generalize us[j] = u at gu
  obtain ⟨c, rfl, tc⟩ := k3 j u gu
  have ma := List.mem_of_getElem? ga
  have aL : a ≠ L := fun e => h3 (e ▸ ma)
  refine ⟨as.map V.ref, a, us, c, h6, by rw [List.length_map]; exact h1, by rw [List.getElem?_map, ga]; rfl, k1, k2, gu, tc, fun r x tr => ?_, h5 a ma, aL⟩
  have U := fun p xs t => tup_upd (K := K) (a := p) (ys := xs) (zs := us.set j (.ref r)) k1 t
  refine ⟨⟨as, h1, h2, h3, h4, h5, by rw [upd_ne aL.symm]; exact h6, fun i' a' ha' => ?_⟩, U⟩
  by_cases e : a' = a
  · subst e
    have ei : i' = i := by
      have l1 := (List.getElem?_eq_some_iff.mp ha').1
      have l2 := (List.getElem?_eq_some_iff.mp ga).1
      have e1 := (List.getElem?_eq_some_iff.mp ha').2
      have e2 := (List.getElem?_eq_some_iff.mp ga).2
      have pw := List.pairwise_iff_getElem.mp h2
      rcases Nat.lt_trichotomy i' i with z | z | z
      · exact absurd (e1.trans e2.symm) (pw i' i l1 l2 z)
      · exact z
      · exact absurd (e2.trans e1.symm) (pw i i' l2 l1 z)
    subst ei
    refine ⟨_, upd_same, by rw [List.length_set]; exact k2, fun j' u hu => ?_⟩
    rw [List.getElem?_set] at hu
    by_cases ej : j = j'
    · rw [if_pos ej, if_pos (by have := (List.getElem?_eq_some_iff.mp gu).1; omega)] at hu
      cases hu
      rw [if_pos ⟨rfl, ej.symm⟩]
      exact ⟨r, rfl, U _ _ tr⟩
    · rw [if_neg ej] at hu
      rw [if_neg (fun z => ej z.2.symm)]
      exact (k3 j' u hu).mono U
  · obtain ⟨us', q1, q2, q3⟩ := h7 i' a' ha'
    refine ⟨us', by rw [upd_ne e]; exact q1, q2, fun j' u hu => ?_⟩
    have ei : i' ≠ i := fun z => by
      rw [z, ga] at ha'
      exact e (Option.some.inj ha').symm
    rw [if_neg (fun z => ei z.1)]
    exact (q3 j' u hu).mono U
theorem f2_of_get {K : PySem.W.Frag} {H : Hp} {f : Nat → Int × Nat} : ∀ {us : List V} {k : Nat}, (∀ (j : Nat) (u : V), us[j]? = some u → FAt K H u (f (k + j))) → F2 (FAt K H) us ((List.range us.length).map fun j => f (k + j))
  | [], _, _ => .nil
  | u :: r, k, h => by
    rw [List.length_cons, List.range_succ_eq_map, List.map_cons, List.map_map]
    refine .cons (h 0 u rfl) ?_
    have := f2_of_get (us := r) (k := k + 1) (f := f) fun j u hu => by
      have := h (j + 1) u (by simpa using hu)
      rwa [show k + (j + 1) = k + 1 + j by omega] at this
    have e : ((fun j => f (k + j)) ∘ Nat.succ) = fun j => f (k + 1 + j) := funext fun j => by
      show f (k + (j + 1)) = _
      rw [show k + (j + 1) = k + 1 + j by omega]
    rw [e]
    exact this
/-- a row read -/
theorem Grid.row {K : PySem.W.Frag} {G0 H : Hp} {L : Addr} {n m : Nat} {f : Nat → Nat → Int × Nat} (g : Grid K G0 H L n m f) : ∃ rows : List V, H L = some (.lst rows) ∧ rows.length = n ∧ ∀ (i : Nat) (v : V), rows[i]? = some v → ∃ (a : Addr) (us : List V), v = .ref a ∧ H a = some (.lst us) ∧ us.length = m ∧ F2 (FAt K H) us ((List.range m).map (f i)) := by
  obtain ⟨as, h1, h2, h3, h4, h5, h6, h7⟩ := g
  refine ⟨as.map V.ref, h6, by rw [List.length_map]; exact h1, fun i v hv => ?_⟩
  rw [List.getElem?_map] at hv
  cases e : as[i]? with
  | none => rw [e] at hv; cases hv
  | some a =>
    rw [e] at hv
    cases hv
    obtain ⟨us, k1, k2, k3⟩ := h7 i a e
    refine ⟨a, us, rfl, k1, k2, ?_⟩
    have := f2_of_get (us := us) (k := 0) (f := f i) fun j u hu => by rw [Nat.zero_add]; exact k3 j u hu
    rw [k2] at this
    rw [show (fun j => f i (0 + j)) = f i from funext fun j => by rw [Nat.zero_add]] at this
    exact this
/-- what one holder has, bounded -/
theorem one_fb {D M : Nat} {v : Nat → Bool} {i : Nat} {p : Int × Nat} (d0 : 0 < D) (hp : Fb D M p) (tks : List Tkt) : (∀ t ∈ tks, Fb D M (brF v t)) → Fb D ((2 * tks.length + 1) * M) (oneF v i p tks) := by
  refine snoc_ind (P := fun tks => (∀ t ∈ tks, Fb D M (brF v t)) → Fb D ((2 * tks.length + 1) * M) (oneF v i p tks)) (fun _ => hp.up (Nat.dvd_refl _) (by show M ≤ (2 * 0 + 1) * M; omega)) (fun l t ih h => ?_) tks
  have i1 := ih fun y hy => h y (List.mem_append_left _ hy)
  have ht := h t (by simp)
  have e : oneF v i p (l ++ [t]) = (let y := if t.l = i then addF (oneF v i p l) (brF v t) else oneF v i p l; if t.s = i then addF y (negF (brF v t)) else y) := by
    unfold oneF
    rw [List.foldl_append]
    rfl
  have em : (2 * (l ++ [t]).length + 1) * M = (2 * l.length + 1) * M + M + M := by
    rw [List.length_append, List.length_singleton, show 2 * (l.length + 1) + 1 = (2 * l.length + 1) + 1 + 1 by omega, Nat.add_mul, Nat.add_mul, Nat.one_mul]
  rw [e, em]
  have hy : Fb D ((2 * l.length + 1) * M + M) (if t.l = i then addF (oneF v i p l) (brF v t) else oneF v i p l) := by
    split
    · exact i1.add ht d0
    · exact i1.up (Nat.dvd_refl _) (by omega)
  show Fb D _ (if t.s = i then addF (if t.l = i then addF (oneF v i p l) (brF v t) else oneF v i p l) (negF (brF v t)) else (if t.l = i then addF (oneF v i p l) (brF v t) else oneF v i p l))
  by_cases z : t.s = i
  · rw [if_pos z]
    exact hy.add ht.neg d0
  · rw [if_neg z]
    exact hy.up (Nat.dvd_refl _) (by omega)
theorem WzOk.step {D M : Nat} {v : Nat → Bool} {ps : List (Int × Nat)} {tks : List Tkt} (h : WzOk D M v ps tks) {k : Nat} {t : Tkt} (ht : tks[k]? = some t) {i : Nat} {p : Int × Nat} (hp : Fb D M p) : Fok 2000 (oneF v i p (tks.take k)) ∧ Fok 2000 (addF (oneF v i p (tks.take k)) (brF v t)) := by
  have hk := (List.getElem?_eq_some_iff.mp ht).1
  have a := one_fb (v := v) (i := i) h.d0 hp (tks.take k) fun t ht => h.t t (List.mem_of_mem_take ht)
  rw [List.length_take, Nat.min_eq_left (by omega)] at a
  have b := a.add (h.t t (List.mem_of_getElem? ht)) h.d0
  have e1 : (2 * k + 1) * M + M ≤ 2 ^ 1000 := by
    refine Nat.le_trans ?_ h.m
    rw [← Nat.succ_mul]
    exact Nat.mul_le_mul_right _ (by omega)
  exact ⟨a.fok (a := 1000) (c := 1000) h.d0 h.d (Nat.le_trans (Nat.le_add_right _ _) e1), b.fok (a := 1000) (c := 1000) h.d0 h.d e1⟩
theorem one_take (v : Nat → Bool) (i : Nat) (p : Int × Nat) {tks : List Tkt} {k : Nat} {t : Tkt} (h : tks[k]? = some t) : oneF v i p (tks.take (k + 1)) = if t.s = i then addF (if t.l = i then addF (oneF v i p (tks.take k)) (brF v t) else oneF v i p (tks.take k)) (negF (brF v t)) else (if t.l = i then addF (oneF v i p (tks.take k)) (brF v t) else oneF v i p (tks.take k)) := by
  rw [take_one tks k t h]
  unfold oneF
  rw [List.foldl_append]
  rfl
end B
namespace B
open PySem PySem.Spec PyProof.Rows L2
/-- letters of a drawn place, first and last -/
def plcB (cs : List Nat) (c0 cl : Nat) : Bool := decide (cs.length ≤ 3) && decide (1 ≤ cs.length) && cs.all (fun c => decide (97 ≤ c) && decide (c < 123)) && cs.contains c0 && cs.contains cl && decide (atI cs 0 = some c0) && decide (atI cs (-1) = some cl) && decide (cs.Pairwise (· < ·)) && !(wor cs []).isEmpty && !(wor cs [[.yes]]).isEmpty && !(wor cs [[.lt c0, .nt]]).isEmpty && !(wor cs [[.lt c0, .lt cl, .orr]]).isEmpty
structure Plc (cs : List Nat) (c0 cl : Nat) : Prop where
  l3 : cs.length ≤ 3
  ls : Ls 6 cs
  m0 : c0 ∈ cs
  ml : cl ∈ cs
  a0 : atI cs 0 = some c0
  al : atI cs (-1) = some cl
  w : wor cs [] ≠ [] ∧ wor cs [[.yes]] ≠ [] ∧ wor cs [[.lt c0, .nt]] ≠ [] ∧ wor cs [[.lt c0, .lt cl, .orr]] ≠ []
theorem plc_of {cs : List Nat} {c0 cl : Nat} (h : plcB cs c0 cl = true) : Plc cs c0 cl := by
  unfold plcB at h
  simp only [Bool.and_eq_true, decide_eq_true_eq, List.all_eq_true, List.contains_iff_mem, Bool.not_eq_true', List.isEmpty_eq_false_iff] at h
  obtain ⟨⟨⟨⟨⟨⟨⟨⟨⟨⟨⟨h1, h2⟩, h3⟩, h4⟩, h5⟩, h6⟩, h7⟩, h8⟩, h9⟩, h10⟩, h11⟩, h12⟩ := h
  exact ⟨h1, ⟨h2, by omega, h8, h3⟩, h4, h5, h6, h7, h9, h10, h11, h12⟩
/-- a drawn bet -/
structure BwOk (cs : List Nat) (ts : List Tm) (g : List Wd) : Prop where
  ok : BtOk cs ts g
  a : ∀ x ∈ ts, Fb 7000000 (2 ^ 44) x.a
  sm : BtSm 2 ts g
theorem BwOk.of {cs : List Nat} {ts : List Tm} {g : List Wd} (ht : ∀ x ∈ ts, Fb 7000000 (2 ^ 44) x.a ∧ Sy cs x.w ∧ x.w.length ≤ 10) (hl : ts.length ≤ 2) (yg : Sy cs g) (lg : g.length ≤ 10) : BwOk cs ts g := by
  have z : ∀ x ∈ ts, Fok 67 x.a := fun x hx => ((ht x hx).1.fok (a := 23) (c := 44) (by decide) (by decide) (by decide))
  exact ⟨⟨fun x hx => ⟨(z x hx).up (by decide), (ht x hx).2.1, by have := (ht x hx).2.2; omega⟩, by omega, yg, by omega⟩, fun x hx => (ht x hx).1, ⟨hl, fun x hx => ⟨(z x hx).up (by decide), (ht x hx).2.2⟩, lg⟩⟩
theorem BwOk.pay {cs : List Nat} {ts : List Tm} {g : List Wd} (h : BwOk cs ts g) (v : Nat → Bool) : Fb 7000000 (2 ^ 45) (pay v ts) := (pay_fb v (by decide) ts h.a).up (Nat.dvd_refl _) (by
  have := h.sm.few
  rw [show (2 : Nat) ^ 45 = 2 * 2 ^ 44 by decide]
  exact Nat.mul_le_mul_right _ this)
/-- a drawn ticket -/
structure TkW (cs : List Nat) (t : Tkt) : Prop where
  b : BwOk cs t.b.ts t.b.g
  p : Fb 42000000 (2 ^ 46) t.b.p
  k : Fb 60 10 t.k
  k0 : 0 < t.k.1
theorem TkW.fp {cs : List Nat} {t : Tkt} (h : TkW cs t) : Fok 80 t.b.p := (h.p.fok (a := 26) (c := 46) (by decide) (by decide) (by decide)).up (by decide)
theorem TkW.fk {cs : List Nat} {t : Tkt} (h : TkW cs t) : Fok 10 t.k := (h.k.fok (a := 6) (c := 4) (by decide) (by decide) (by decide)).up (by decide)
def tkdat (t : Tkt) : PyData := .tuple [.int t.n, .int t.l, .int t.s, bdat t.b.ts t.b.g, fdat t.b.p, fdat t.k]
theorem TkAt.dp {K : PySem.W.Frag} {H : Hp} {v : V} {t : Tkt} (h : TkAt K H v t) : Dp K H v (tkdat t) := by
  obtain ⟨q, a, p, k, rfl, t1, t2, t3, t4⟩ := h
  exact .tup t1 (.cons (.int _) (.cons (.int _) (.cons (.int _) (.cons (bdp t2) (.cons (dp2 t3) (.cons (dp2 t4) .nil))))))
theorem tkt_shw {cs : List Nat} {t : Tkt} (hs : ∀ c ∈ cs, c < 123) (h : TkW cs t) (hn : t.n < 2 ^ 400) (hl : t.l < 2 ^ 400) (hs' : t.s < 2 ^ 400) : Shw 5 3726 (tkdat t) := by
  have sm3 : BtSm 3 t.b.ts t.b.g := ⟨Nat.le_trans h.b.sm.few (by decide), h.b.sm.tm, h.b.sm.ln⟩
  have i : ∀ n : Nat, n < 2 ^ 400 → Shw 4 620 (.int (n : Int)) := fun n hn => (Shw.int (by rw [Int.natAbs_natCast]; exact Nat.lt_of_lt_of_le hn (Nat.pow_le_pow_right (by decide) (by decide)))).up (by decide) (by decide)
  exact Shw.tup (n := 4) (m := 620) (k := 6) (fun d hd => by
    simp only [List.mem_cons, List.not_mem_nil, or_false] at hd
    rcases hd with rfl | rfl | rfl | rfl | rfl | rfl
    · exact i _ hn
    · exact i _ hl
    · exact i _ hs'
    · exact bdat_shw3 hs h.b.ok sm3
    · exact (fdat_shw h.fp (by decide)).up (by decide) (by decide)
    · exact (fdat_shw h.fk (by decide)).up (by decide) (by decide)) (by show 6 ≤ 6; decide)
/-- the fraction of one out of a constant list of fractions -/
theorem fb_dec {D M : Nat} {p : Int × Nat} (h : (decide (0 < p.2) && decide (Nat.gcd p.1.natAbs p.2 = 1) && decide (D % p.2 = 0) && decide (p.1.natAbs ≤ M * p.2)) = true) : Fb D M p := by
  simp only [Bool.and_eq_true, decide_eq_true_eq] at h
  exact ⟨⟨h.1.1.1, h.1.1.2⟩, Nat.dvd_of_mod_eq_zero h.1.2, h.2⟩
end B
namespace B
open PySem PySem.Spec PyProof.Rows L2
/-- drawn tickets -/
structure TksW (cs : List Nat) (rs : List (List Wd)) (n m : Nat) (tks : List Tkt) : Prop where
  w : ∀ t ∈ tks, TkW cs t ∧ t.l < n ∧ t.s < n ∧ t.l ≠ t.s ∧ t.n < m ∧ somes (tabO cs t.b.ts t.b.g (wor cs rs)) ≠ []
  r : tks.Pairwise (fun a b => a.n < b.n)
/-- what is fresh stays -/
def Fk (G0 H H' : Hp) : Prop := ∀ b o, H b = some o → G0 b = none → H' b = some o
theorem Fk.refl (G0 H : Hp) : Fk G0 H H := fun _ _ h _ => h
theorem Fk.trans {G0 H H1 H2 : Hp} (a : Fk G0 H H1) (b : Fk G0 H1 H2) : Fk G0 H H2 := fun x o h n => b x o (a x o h n) n
theorem Fk.kp {G0 H H' : Hp} {d : Dr} {c : Nat} (w : Drw G0 d c) (k : Kp d H H') : Fk G0 H H' := fun b o h n => k b o h (w.no n).1 (w.no n).2
theorem Fk.mut {G0 H : Hp} {R : Addr} {o : HO} (h : ∃ o, G0 R = some o) : Fk G0 H (upd H R o) := fun b x e n => by
  rw [upd_ne (fun z => by obtain ⟨y, hy⟩ := h; rw [z, hy] at n; cases n)]
  exact e
theorem range_getD {α : Type} {f : List Bool → α} (l : List (List Bool)) : (List.range l.length).map (fun j => f (l.getD j [])) = l.map f := by
  induction l with
  | nil => rfl
  | cons x r ih =>
    rw [List.length_cons, List.range_succ_eq_map, List.map_cons, List.map_map, List.map_cons, ← ih]
    rfl
end B
namespace B
open PySem PySem.Spec PyProof.Rows L2
/-- plain things, not too deep -/
def plJ : Nat → PyData → Bool
  | 0, _ => false
  | _ + 1, .none => true
  | _ + 1, .int _ => true
  | _ + 1, .str _ => true
  | n + 1, .tuple ds => decide (ds.length ≤ 1000) && ds.all (plJ n)
  | _ + 1, _ => false
theorem plJ_tup {n : Nat} {ds : List PyData} (hl : ds.length ≤ 1000) (h : ∀ d ∈ ds, plJ n d = true) : plJ (n + 1) (.tuple ds) = true := by
  show (decide (ds.length ≤ 1000) && ds.all (plJ n)) = true
  rw [decide_eq_true hl, List.all_eq_true.mpr h]
  rfl
theorem plJ_fdat (n : Nat) (p : Int × Nat) : plJ (n + 2) (fdat p) = true := plJ_tup (by show 2 ≤ 1000; decide) fun d hd => by
  simp only [List.mem_cons, List.not_mem_nil, or_false] at hd
  rcases hd with rfl | rfl <;> rfl
theorem plJ_hdat {cs : List Nat} {rs : List (List Wd)} (h : HsOk cs rs) (n : Nat) : plJ (n + 4) (hdat cs rs) = true := plJ_tup (by show 2 ≤ 1000; decide) fun d hd => by
  simp only [List.mem_cons, List.not_mem_nil, or_false] at hd
  rcases hd with rfl | rfl
  · rfl
  · refine plJ_tup (by rw [List.length_map]; have := h.few; omega) fun d hd => ?_
    obtain ⟨r, hr, rfl⟩ := List.mem_map.mp hd
    refine plJ_tup (by rw [List.length_map]; have := (h.sy r hr).2; omega) fun d hd => ?_
    obtain ⟨w, _, rfl⟩ := List.mem_map.mp hd
    rfl
end B
namespace B
open PySem PySem.Spec PyProof.Rows L2
theorem bss_dq {K : PySem.W.Frag} {H : Hp} : ∀ {vs : List V} {l : List (List Bd)}, F2 (BsAt K H) vs l → DqAll K H vs (l.map fun b => .tuple (b.map kdat))
  | _, _, .nil => .nil
  | _, _, .cons ⟨q, us, e, t, f⟩ r => by
    subst e
    exact .cons (.tup t (bds_dq f)) (bss_dq r)
end B
namespace B
open PySem PySem.Spec PyProof.Rows L2
end B
namespace B
open PySem PySem.Spec PyProof.Rows L2
end B
namespace B
open PySem PySem.Spec PyProof.Rows L2
end B
namespace B
open PySem PySem.Spec PyProof.Rows L2
section
variable {prog : Program} {w : World} {A : Around} {E : Value → Shared → Prop} {s : Shared}
end
end B
namespace B
open PySem PySem.Spec PyProof.Rows L2
end B
namespace B
end B
namespace B
end B
namespace B
section
variable {n m : Nat} {col : Nat → Col} {rhs : Col} {T T' : Nat → Nat → Int} {D D' : Int} {R R' Bn Bn' : Nat → Nat} {st st' : Bool} {r c : Nat}
end
section
variable {n m : Nat} {col : Nat → Col} {rhs : Col} {T : Nat → Nat → Nat → Int} {D : Nat → Int} {R Bn : Nat → Nat → Nat} {st : Nat → Bool} {r c : Nat → Nat}
end
end B
namespace B
section
variable {n m : Nat} {b : Bo} {r c : Nat}
end
end B
namespace B
section
variable {n m : Nat} {rows : List (List Int)} {bounds wants : List Int}
end
section
variable {n : Nat} {f : Nat → Int} {g : Nat → Nat}
end
section
variable {n m : Nat} {A : Nat → Nat → Int} {w bb : Nat → Int} {b : Bo}
end
end B
namespace B
section
variable {n m : Nat} {A : Nat → Nat → Int} {w bb : Nat → Int} {b : Bo}
end
end B
namespace B
open PySem PySem.Spec PyProof.Rows L2
section
variable (ra rr sr : Addr) (d : Int) (n : Nat)
end
theorem atI_end {xs : List V} {k : Nat} {v : V} (l : xs.length = k + 1) (h : xs[k]? = some v) : atI xs (-1) = some v := by
  unfold atI ixN
  rw [if_neg (by decide), if_pos (by omega), l, show ((-1 : Int) + ((k + 1 : Nat) : Int)).toNat = k by omega]
  exact h
section
variable {w : Nat → Int} {R : Nat → Nat} {k j : Nat}
end
section
variable {a b : Nat → Int} {Bn : Nat → Nat} {k j : Nat}
end
end B
namespace B
open PySem PySem.Spec PyProof.Rows L2
end B
namespace B
open PySem PySem.Spec PyProof.Rows L2
section
variable (m : Nat) (ta ra fa : Addr)
end
end B
namespace B
open PySem PySem.Spec PyProof.Rows L2
def lowF (t : Int) (b : Nat) : Int × Nat := (lowT t b, lowBn t b)
end B
namespace B
open PySem PySem.Spec PyProof.Rows L2
section
variable {α β : Type} {f : Nat × β → α}
end
theorem low_pos {t : Int} {b : Nat} (ht : 0 < t) (hb : 0 < b) : 0 < (lowF t b).1 := by
  have e := low_cross2 (t := t) hb
  have := low_nonneg (t := t) (b := b) (by omega) hb
  have b0 := (low_isF (t := t) hb).pos
  show 0 < lowT t b
  rcases Int.lt_or_eq_of_le this with y | y
  · exact y
  · rw [← y, Int.zero_mul] at e
    have := Int.mul_pos ht (show (0 : Int) < lowBn t b by omega)
    omega
end B
namespace B
open PySem PySem.Spec PyProof.Rows L2
def rs : List Nat → (Nat → Rat) → Rat
  | [], _ => 0
  | c :: r, F => F c + rs r F
end B
namespace B
open PySem PySem.Spec PyProof.Rows L2
end B
namespace B
open PySem PySem.Spec PyProof.Rows L2
end B
namespace B
open PySem PySem.Spec PyProof.Rows L2
end B
namespace B
open PySem PySem.Spec PyProof.Rows L2
section
variable {n m : Nat} {A : Nat → Nat → Int} {w bb : Nat → Int} {b : Bo}
end
end B
namespace B
open PySem PySem.Spec PyProof.Rows L2
section
variable {cs : List Nat} {wl : List (List Bool)} {bds : List Bd} {r : Nat} {x : Bd}
end
end B
namespace B
open PySem PySem.Spec PyProof.Rows L2
section
variable {cs : List Nat} {wl : List (List Bool)} {bds : List Bd} {e B : Nat}
end
end B
namespace B
open PySem PySem.Spec PyProof.Rows L2
section
variable {cs : List Nat} {wl : List (List Bool)} {bds : List Bd} {e B : Nat}
end
section
variable {cs : List Nat} {wl : List (List Bool)} {bds : List Bd} {e B : Nat}
end
end B
namespace B
open PySem PySem.Spec PyProof.Rows L2
end B
namespace B
open PySem PySem.Spec PyProof.Rows L2
end B
namespace B
open PySem PySem.Spec PyProof.Rows L2
end B
namespace B
open PySem PySem.Spec PyProof.Rows L2
end B
namespace B
open PySem PySem.Spec PyProof.Rows L2
section
variable {cs : List Nat} {wl : List (List Bool)} {L : List (List (Int × Nat))} {D M : Nat}
end
section
variable {cs : List Nat} {wl : List (List Bool)} {L : List (List (Int × Nat))} {bds : List Bd}
end
section
variable {cs : List Nat} {wl : List (List Bool)} {L : List (List (Int × Nat))} {D M : Nat}
end
end B
namespace B
open PySem PySem.Spec PyProof.Rows L2
end B
namespace B
open PySem PySem.Spec PyProof.Rows L2
section
variable {prog : Program} {w : World} {A : Around} {E : Value → Shared → Prop} {s : Shared} {q ti tt j1 j2 j3 : Addr} {f1 f2 f3 : List Addr} {n1 n2 n3 i : Nat} {P1 P2 P3 : Nat → Value → Prop} {S1 S2 S3 : Nat → Heap → Prop}
end
section
variable {X : Cx} {pins : List (Addr × Obj)} {σ : L2.St} {H : Hp} {s : Shared} {k1 k2 k3 : Kd} {v1 v2 v3 : V} {u1 u2 u3 : Value} {N i : Nat} {xs ys zs : List V}
end
end B
namespace B
open PySem PySem.Spec PyProof.Rows L2
section
variable {β : Type} {J : It} {n : Nat} {G : Hp → Prop} {Y : Nat → Hp → V → Hp → Prop} {K : PySem.W.Frag}
end
end B
namespace B
open PySem PySem.Spec PyProof.Rows L2
section
variable {prog : Program} {w : World} {A : Around} {E : Value → Shared → Prop} {s : Shared} {q ti tt j1 j2 : Addr} {f1 f2 : List Addr} {n1 n2 i : Nat} {P1 P2 : Nat → Value → Prop} {S1 S2 : Nat → Heap → Prop}
end
section
variable {X : Cx} {pins : List (Addr × Obj)} {σ : L2.St} {H : Hp} {s : Shared} {k1 k2 : Kd} {v1 v2 : V} {u1 u2 : Value} {N i : Nat} {xs ys : List V}
end
end B
namespace B
open PySem PySem.Spec PyProof.Rows L2
end B
namespace B
open PySem PySem.Spec PyProof.Rows L2
section
variable {G : Gn} {left : List Nat} {tab : List (Option (Int × Nat))}
end
end B
namespace B
open PySem PySem.Spec PyProof.Rows L2
section
variable {G : Gn} {ps mo : List (Int × Nat)} {tab : List (Option (Int × Nat))} {left all : List Nat} {L : List (List (Int × Nat))}
end
end B
namespace B
open PySem PySem.Spec PyProof.Rows L2
section
variable {G : Gn} {ps : List (Int × Nat)} {tab : List (Option (Int × Nat))} {ns : List Nat} {L : List (List (Int × Nat))}
end
end B
namespace B
open PySem PySem.Spec PyProof.Rows L2
section
variable {n m : Nat} {A : Nat → Nat → Int} {w bb : Nat → Int} {b : Bo}
end
section
variable {G : Gn} {ps mo : List (Int × Nat)} {tab : List (Option (Int × Nat))} {left all : List Nat} {L : List (List (Int × Nat))} {B : Nat}
end
end B
namespace B
open PySem PySem.Spec PyProof.Rows L2
section
variable {G : Gn} {ps : List (Int × Nat)} {ns : List Nat} {tab : List (Option (Int × Nat))} {D M B k : Nat}
end
section
variable {cs : List Nat} {wl : List (List Bool)} {bds : List Bd} {ts : List Tm} {g : List Wd} {e h z B : Nat}
end
section
variable {cs : List Nat} {wl : List (List Bool)} {bds : List Bd} {e B : Nat}
end
end B
namespace B
open PySem PySem.Spec PyProof.Rows L2
section
variable {cs : List Nat} {wl : List (List Bool)} {bds : List Bd} {ts : List Tm} {g : List Wd} {e h z B : Nat}
variable {x : (Int × Nat) × List (List (Int × Nat)) × List (Int × Nat) × List (Int × Nat)}
end
end B
namespace B
open PySem PySem.Spec PyProof.Rows L2
def rEqT0 (K : PySem.W.Frag) : R2 := fun x y H Q => ∃ a b xs, x = .ref a ∧ y = .ref b ∧ SqT K H a xs ∧ SqT K H b [] ∧ Q (.bl xs.isEmpty) H
def rNeT0 (K : PySem.W.Frag) : R2 := fun x y H Q => ∃ a b xs, x = .ref a ∧ y = .ref b ∧ SqT K H a xs ∧ SqT K H b [] ∧ Q (.bl !xs.isEmpty) H
theorem zero_same {α β : Type} {xs : List α} {its : Array β} (h : xs.length = its.size) : ((List.range (min its.size 0)).all (fun _ => true) && its.size == 0) = xs.isEmpty := by
  rw [Nat.min_zero, ← h]
  cases xs <;> rfl
theorem op_eqT0 {X : Cx} (hu : X.A.units + 64 < cLine) : OpR X (compareOp .Eq) (rEqT0 X.K) := by
  intro pins s σ H x y v u Q I rx ry h
  obtain ⟨a, b, xs, rfl, rfl, ha, hb, q⟩ := h
  obtain rfl : v = Value.ref a := rx
  obtain rfl : u = Value.ref b := ry
  obtain ⟨its, rv, hA, _⟩ := I.tuple ha
  obtain ⟨its2, rv2, hB, _⟩ := I.tuple hb
  have e1 := rv.length
  have e2 := rv2.length
  have z : its2.toArray.size = 0 := by rw [List.size_toArray, ← e2]; rfl
  show wpAny (model X.prog X.w) X.A (richCompare .Eq (.ref a) (.ref b)) _ _ s
  refine PySem.SeqAt.RcAt.tuples (e := fun _ => true) hA hB (by omega) (fun j h1 h2 => by omega) X.prog X.w _ _ ?_
  rw [z, zero_same (xs := xs) (by rw [List.size_toArray]; exact e1)]
  exact ⟨.bl xs.isEmpty, H, I, rfl, q⟩
theorem op_neT0 {X : Cx} (hu : X.A.units + 64 < cLine) : OpR X (compareOp .NotEq) (rNeT0 X.K) := by
  intro pins s σ H x y v u Q I rx ry h
  obtain ⟨a, b, xs, rfl, rfl, ha, hb, q⟩ := h
  obtain rfl : v = Value.ref a := rx
  obtain rfl : u = Value.ref b := ry
  obtain ⟨its, rv, hA, _⟩ := I.tuple ha
  obtain ⟨its2, rv2, hB, _⟩ := I.tuple hb
  have e1 := rv.length
  have e2 := rv2.length
  have z : its2.toArray.size = 0 := by rw [List.size_toArray, ← e2]; rfl
  show wpAny (model X.prog X.w) X.A (richCompare .NotEq (.ref a) (.ref b)) _ _ s
  refine PySem.SeqAt.RcNeAt.tuples (e := fun _ => true) hA hB (by omega) (fun j h1 h2 => by omega) X.prog X.w _ _ ?_
  rw [z, zero_same (xs := xs) (by rw [List.size_toArray]; exact e1)]
  exact ⟨.bl !xs.isEmpty, H, I, rfl, q⟩
end B
namespace B
open PySem PySem.Spec PyProof.Rows L2
section
variable {cs : List Nat} {wl : List (List Bool)} {L : List (List (Int × Nat))} {D M : Nat}
end
section
variable {cs : List Nat} {wl : List (List Bool)} {L : List (List (Int × Nat))} {G : Nat} {bds : List Bd} {x : Bd}
end
section
variable {cs : List Nat} {wl : List (List Bool)} {bds bds' : List Bd} {ts : List Tm} {g : List Wd} {e h z B e' h' z' B' : Nat} {x y : (Int × Nat) × List (List (Int × Nat)) × List (Int × Nat) × List (Int × Nat)}
end
end B
namespace B
open PySem PySem.Spec PyProof.Rows L2
end B
namespace B
open PySem PySem.Spec PyProof.Rows L2
structure Lyd (n : Nat) (d : PyData) : Prop where
  lay : d.canLay0 = true
  dep : d.depth ≤ n
theorem lyd_all {n : Nat} : ∀ {ds : List PyData}, (∀ d ∈ ds, Lyd n d) → PyData.canLayAll0 ds = true ∧ PyData.depthAll ds ≤ n
  | [], _ => ⟨rfl, Nat.zero_le _⟩
  | d :: ds, h => by
    obtain ⟨a, b⟩ := lyd_all fun x hx => h x (List.mem_cons_of_mem _ hx)
    have k := h d List.mem_cons_self
    refine ⟨?_, ?_⟩
    · show (d.canLay0 && PyData.canLayAll0 ds) = true
      rw [k.lay, a]; rfl
    · show max d.depth (PyData.depthAll ds) ≤ n
      exact Nat.max_le.mpr ⟨k.dep, b⟩
theorem Lyd.tup {n : Nat} {ds : List PyData} (h : ∀ d ∈ ds, Lyd n d) : Lyd (n + 1) (.tuple ds) := by
  obtain ⟨a, b⟩ := lyd_all h
  exact ⟨a, Nat.succ_le_succ b⟩
theorem Lyd.lst {n : Nat} {ds : List PyData} (h : ∀ d ∈ ds, Lyd n d) : Lyd (n + 1) (.list ds) := by
  obtain ⟨a, b⟩ := lyd_all h
  exact ⟨a, Nat.succ_le_succ b⟩
theorem Lyd.up {n m : Nat} {d : PyData} (h : Lyd n d) (e : n ≤ m) : Lyd m d := ⟨h.lay, Nat.le_trans h.dep e⟩
theorem Lyd.shaped {n : Nat} {d : PyData} (h : Lyd n d) (hn : n ≤ 64) : SeqAt.shaped d = true := by
  unfold SeqAt.shaped
  rw [h.lay, decide_eq_true (Nat.le_trans h.dep hn)]
  rfl
theorem Lyd.eqv {n : Nat} {d : PyData} (h : Lyd n d) : PyData.eqv d d = true := SeqAt.eqv_refl _ h.lay
theorem fdat_lyd (p : Int × Nat) : Lyd 1 (fdat p) := ⟨rfl, Nat.le_refl _⟩
end B
namespace B
open PySem PySem.Spec PyProof.Rows L2
theorem room65 {k : Nat} {A : Around} (r : Room k A) : A.units + 65 < cLine := by have := r.un; omega
section
variable {cs : List Nat} {wl : List (List Bool)} {bds : List Bd} {e B : Nat}
end
section
variable {cs : List Nat} {wl : List (List Bool)} {bds : List Bd} {ts : List Tm} {g : List Wd} {e h z B : Nat} {x : (Int × Nat) × List (List (Int × Nat)) × List (Int × Nat) × List (Int × Nat)}
end
section
variable {cs : List Nat} {wl : List (List Bool)} {L : List (List (Int × Nat))} {bds : List Bd}
end
end B
namespace B
open PySem PySem.Spec PyProof.Rows L2
section
variable {cs : List Nat} {wl : List (List Bool)} {L : List (List (Int × Nat))} {A X S : Nat} {bds : List Bd} {x : Bd}
end
section
variable {cs : List Nat} {wl : List (List Bool)} {bds bds' : List Bd} {ts : List Tm} {g : List Wd} {e h z B e' h' z' B' : Nat}
end
end B
namespace B
open PySem PySem.Spec PyProof.Rows L2
section
variable {cs : List Nat} {wl : List (List Bool)} {bds : List Bd} {L : List (List (Int × Nat))}
end
end B
namespace B
open PySem PySem.Spec PyProof.Rows L2
section
variable {cs : List Nat} {wl : List (List Bool)} {bds : List Bd} {L : List (List (Int × Nat))}
end
end B
namespace B
open PySem PySem.Spec PyProof.Rows L2
section
variable {cs : List Nat} {wl : List (List Bool)} {bds bds' : List Bd} {ts : List Tm} {g : List Wd} {e h z B e' h' z' B' : Nat} {L : List (List (Int × Nat))}
end
section
variable {cs : List Nat} {wl : List (List Bool)} {bds : List Bd} {ts : List Tm} {g g0 : List Wd} {p : Int × Nat} {n m : Nat} {L : List (List (Int × Nat))}
variable {z : Nat}
end
theorem bdat_lyd {cs : List Nat} (hs : ∀ c ∈ cs, c < 123) {ts : List Tm} {g : List Wd} (h : BtOk cs ts g) : Lyd 4 (bdat ts g) := ⟨(bdat_shw hs h).lay, (bdat_shw hs h).dep⟩
theorem kdat_lyd {cs : List Nat} (hs : ∀ c ∈ cs, c < 123) {x : Bd} (h : BtOk cs x.ts x.g) : Lyd 5 (kdat x) := Lyd.tup fun d hd => by
  rcases List.mem_cons.mp hd with rfl | hd
  · exact bdat_lyd hs h
  rw [List.mem_singleton.mp hd]
  exact (fdat_lyd _).up (by decide)
end B
namespace B
open PySem PySem.Spec PyProof.Rows L2
theorem kdat_iff (x y : Bd) : PyData.eqv (kdat x) (kdat y) = true ↔ x = y := by
  refine (two_iff (bdat_iff _ _ _ _) (fdat_iff _ _)).trans ⟨fun ⟨⟨a, b⟩, c⟩ => ?_, fun e => by rw [e]; exact ⟨⟨rfl, rfl⟩, rfl⟩⟩
  cases x
  cases y
  cases a
  cases b
  cases c
  rfl
section
variable {cs : List Nat} {wl : List (List Bool)} {bds : List Bd}
end
end B
namespace B
open PySem PySem.Spec PyProof.Rows L2
section
variable {cs : List Nat} {wl : List (List Bool)} {ts : List Tm} {g : List Wd} {p lo hi : Int × Nat} {e h z B e' h' z' B' : Nat} {x y : (Int × Nat) × List (List (Int × Nat)) × List (Int × Nat) × List (Int × Nat)}
end
end B
namespace B
open PySem PySem.Spec PyProof.Rows L2
/-- a contract that speaks of the error: its address, its class, its dict -/
abbrev SpE := Addr → Value → Option Addr → Sp
/-- such a def's promise -/
structure FnE (P : Program) (w : World) (K : PySem.W.Frag) (mg : Str → Option Value) (base : Heap) (k : Nat) (f : Addr) (fd : FuncData) (ps : List Str) (sp : SpE) : Prop where
  arity : ∀ a cls d vs H Q E, sp a cls d vs H Q E → vs.length = ps.length
  go : ∀ (A : Around) (out : List Env) (s : Shared) (H : Hp) (ar : Args) (us : List Value) (vs : List V) (Q : VK) (E : XK) (a : Addr) (oe : Obj) (cls : Value) (d : Option Addr), L2H.RoomH k A → Zc cls d oe → (∃ fs, oe.data = .fields fs) → L2H.PinOk out H s (a, oe) →
    Env0 P w K mg base A out s H → BindsTo s fd ar (ps.zip us) → Vals vs us → sp a cls d vs H Q E → codeAny (model P w) A (.call (.ref f) ar) (CR CX0 out P w H s Q E) s
section
variable {P : Program} {w : World} {K : PySem.W.Frag} {mg : Str → Option Value} {base : Heap}
/-- by its body, in which the error is pinned -/
theorem fun_okE {x qual : Str} {st : Stmt} {f : Addr} {fd : FuncData} {N ps : List Str} {k : Nat} {sp : SpE} (F : Fun K x qual st f fd) (S : FnScope N ps (defScope st)) (ln : ∀ a cls d vs H Q E, sp a cls d vs H Q E → vs.length = ps.length)
    (body : ∀ (cdv : Value) (A : Around) (outer : List Env) (s : Shared) (H : Hp) (vs : List V) (Q : VK) (E : XK) (a : Addr) (oe : Obj) (cls : Value) (d : Option Addr), L2H.RoomH k (A.deeper (envOfC qual (defScope st) s.heap.objs.size f cdv)) → Zc cls d oe → (∃ fs, oe.data = .fields fs) → sp a cls d vs H Q E →
      ∃ t, PSs (L2H.cxH CX0 P w K mg base N qual (defScope st) f cdv A outer s H E (a, oe)).nox (defBody st) t ∧ t { nx := fun _ H' => Q .non H', rt := Q } (start N vs) H) :
    FnE P w K mg base (k + 1) f fd ps sp := by
  obtain ⟨oc, od, kV, doc, pm, an, cv, ct, sl, rfl, look, code⟩ := F.ex
  constructor
  · exact ln
  intro A out s H ar us vs Q E a oe cls d room hz hf pin e0 hb rel want
  have up : ∀ b o, base.get? b = some o → s.heap.get? b = some o := fun b o q => (e0.bs b o q).1
  have inK := e0.mod.kin.keeps up
  refine codeAny_call_function room.depth (inK _ _ look) rfl S.co S.gen rfl (PySem.W.codeRec_of inK code) (hb _ _ _ _ ?_)
  have kinds : ∀ y ∈ ps.zip us, (defScope st).names.lookup y.1 = some .local ∨
      ((defScope st).names.lookup y.1 = some .cell ∧ ((cellsFrom (s.heap.objs.size + 1) (defScope st).names []).lookup y.1).isSome = true) := by
    intro y hy
    have par := S.par y.1 (List.of_mem_zip (a := y.1) (b := y.2) hy).1
    exact par.imp id fun c => ⟨c, PySem.W.cellsFrom_some _ _ _ (.inl c)⟩
  refine wpAny_newFunctionEnv_cells S.kind kinds fun env same s1 inC => ?_
  cases same
  refine ⟨(e0.mod.nolimit.keeps up).keeps inC.toInCall.keep, codeAny_func ?_⟩
  obtain ⟨t, tb, tq⟩ := body cv A out s H vs Q E a oe cls d (room.deeper _) hz hf want
  have J0 := L2H.inv_startH (CX := CX0) (E := E) S pin e0 (ln _ _ _ _ _ _ _ want) rel inC
  refine wpAny_mono (tb.nox.run [] s1 (start N vs) H _ J0 tq) ?_ fun _ _ h => h
  intro fl s2 h2
  cases fl
  case ret u => obtain ⟨v, _, H2, J, rv, q⟩ := h2; exact ⟨v, H2, J.os, J.bare, J.base, J.hok, rv, q⟩
  case next => obtain ⟨_, H2, J, q⟩ := h2; exact ⟨V.non, H2, J.os, J.bare, J.base, J.hok, rfl, q⟩
  case brk => exact h2.elim fun _ a => a.elim fun _ b => b.2.elim
  case cont => exact h2.elim fun _ a => a.elim fun _ b => b.2.elim
end
section
variable {X : Cx} {a : Addr} {oe : Obj} {cls : Value} {d : Option Addr} {pn : List (Addr × Obj)}
/-- f(e, ..) within the suite, f such a def -/
theorem pe_callE {k : Nat} {f : Addr} {fd : FuncData} {ps : List Str} {sp : SpE} {x : Str} {p pos : Pos} {e : Expr} {es : List Expr} {t : TA} (hz : Zc cls d oe) (hf : ∃ fs, oe.data = .fields fs) (F : FnE X.prog X.w X.K X.mg X.base k f fd ps sp) (room : L2H.RoomH k X.A) (gl : Gl (X.suite a ((a, oe) :: pn)) x)
    (at_ : X.mg x = some (.ref f)) (kp : PySem.W.keepIn X.K (.ref f) = true) (bd : Binds X.K fd ps []) (ha : PA (X.suite a ((a, oe) :: pn)) (e :: es) t)
    (nd : (x == ("__debug__" : Str)) = false := by decide) (st : starEach (e :: es) X.env = (false, eval e X.env) :: starEach es X.env := by rfl) (nst : (backTo pos (starEach es X.env)).any (·.1) = false := by rfl) :
    PE (X.suite a ((a, oe) :: pn)) (.Call (.Name x p) (e :: es) [] pos) (tCall (sp a cls d) [] E0 t) := by
  constructor
  intro pins s σ H Q I want
  refine wpAny_Call_Name_kw (ld_glob I gl at_ ?_ nd)
  refine PySem.W.callWith_K (h₀ := X.base) I.ok.mod.kin kp ?_ st nst
  refine thn (ha.run pos pins s σ H _ I want) ?_
  rintro us s1 ⟨vs, H1, J, rel, q⟩
  rw [List.append_nil] at q
  have hl : us.length = ps.length := rel.length.symm.trans (F.arity _ _ _ _ _ _ _ q)
  have bind := bd s1 us J.kIn (by simpa using hl)
  rw [List.append_nil] at bind
  have here := J.pin (a, oe) (List.mem_append.mpr (.inl List.mem_cons_self))
  have pin : L2H.PinOk (X.suite a ((a, oe) :: pn)).stack H1 s1 (a, oe) := ⟨here.1, here.2.1, fun m => (List.mem_cons.mp (J.stkSub a m)).elim here.2.2.1 here.2.2.2.1, here.2.2.2.2⟩
  refine ⟨J.kIn, wpAny_call (codeAny_mono (F.go (X.suite a ((a, oe) :: pn)).A (X.suite a ((a, oe) :: pn)).stack s1 H1 ⟨us, []⟩ us vs Q E0 a oe cls d ⟨room.dp, room.un⟩ hz hf pin J.env0 bind rel q) ?_)⟩
  intro r s2 h2
  match r, h2 with
  | .error _, h2 => exact h2.elim
  | .ok .next, h2 => exact h2.elim
  | .ok .brk, h2 => exact h2.elim
  | .ok .cont, h2 => exact h2.elim
  | .ok (.ret u), h2 =>
    obtain ⟨v, H2, os, bare, un, hok, rv, q2⟩ := h2
    exact ⟨v, H2, J.call' os un hok bare (fun _ h => absurd h (by simp)), rv, q2⟩
/-- isinstance(e, c), e the error that is pinned -/
theorem call_isE (hm : (a, oe) ∈ X.pn) (hz : Zc cls d oe) (hf : ∃ vs, oe.data = .fields vs) : CallR X (.builtin "isinstance") (rIsX X.K a cls d) := by
  rintro pins s σ H xs us Q I r ⟨D, c, cv, b, rfl, dok, ec, rfl, hc, e, q⟩
  obtain ⟨u1, u2, rfl, r1, r2⟩ := vals2 r
  cases (show u1 = Value.ref a from r1)
  cases ClsV.eq hc r2
  have got := (I.pin (a, oe) (List.mem_append.mpr (.inl hm))).1
  obtain ⟨vs, hv⟩ := hf
  obtain ⟨od, J⟩ := inst_at I got hz hv dok
  exact PySem.W.kia_one (kit_of ec) I.kIn J e (fun z => nomatch z) fun tk => ⟨.bl b, H, I.kept (t' := tk) fun _ _ z => z, rfl, q⟩
theorem call_isET (hm : (a, oe) ∈ X.pn) (hz : Zc cls d oe) (hf : ∃ vs, oe.data = .fields vs) : CallR X (.builtin "isinstance") (rIsXT X.K a cls d) := by
  rintro pins s σ H xs us Q I r ⟨D, tp, cs, ws, b, rfl, dok, ec, rfl, ht, hp, e, q⟩
  obtain ⟨u1, u2, rfl, r1, r2⟩ := vals2 r
  cases (show u1 = Value.ref a from r1)
  cases (show u2 = Value.ref tp from r2)
  have got := (I.pin (a, oe) (List.mem_append.mpr (.inl hm))).1
  obtain ⟨vs, hv⟩ := hf
  obtain ⟨od, J⟩ := inst_at I got hz hv dok
  obtain ⟨_, its, rv, o, h1, h2, n, h3⟩ := (show ObjOk X.prog X.w H s.heap tp (.tup cs) from I.hok tp _ ht)
  cases ClsV.all hp rv
  obtain ⟨oc, ods, dt, sl⟩ := o
  cases (show oc = Value.type "tuple" from h2)
  cases (show dt = _ from h3)
  exact PySem.W.kia_tup (kit_of ec) I.kIn J h1 e (fun z => nomatch z) fun tk => ⟨.bl b, H, I.kept (t' := tk) fun _ _ z => z, rfl, q⟩
/-- l.count(k), a list of truths -/
def rCountB (K : PySem.W.Frag) : V → List V → Hp → VK → Prop := fun x xs H Q => ∃ (l : Addr) (bs : List Bool) (k : Bool), x = .ref l ∧ xs = [.bl k] ∧ SqL K H l (bs.map V.bl) ∧ Q (.int (countIn (.bool k) (bs.map PyData.bool))) H
theorem bools_read {h : Heap} : ∀ {bs : List Bool} {its : List Value}, Vals (bs.map V.bl) its → ReadsAll h its (bs.map PyData.bool) []
  | [], _, r => by cases r; exact .nil
  | b :: r, _, rel => by
    cases rel with
    | cons r1 r2 =>
      rename_i u us
      cases (show u = Value.bool b from r1)
      exact ReadsAll.cons (as := []) (bs := []) (.bool b) (bools_read r2)
theorem mt_countB : MtR X "list.count" (rCountB X.K) := by
  rintro pins s σ H _ _ _ _ Q I rx rxs ⟨l, bs, k, rfl, rfl, hl, q⟩
  cases rx
  cases rxs with
  | cons r1 r2 =>
    cases r2
    rename_i u
    cases (show u = Value.bool k from r1)
    obtain ⟨its, rel, pl, _⟩ := I.list hl
    exact count_list_bools pl.isList (bools_read (h := s.heap) rel) (by simp [List.all_eq_true, Shape.has]) ⟨.int _, H, I.tok _, ⟨_, rfl⟩, q⟩
end
/-- an error of the class of this name, and of none of the other fifteen but the class of all -/
def KindOf (K : PySem.W.Frag) (D : Addr) (nm : Str) : Prop := ∀ x ∈ (["TooLong", "TooMany", "NoWorld", "NotAlike", "Unfair", "Fair", "NoBet", "NoHolder", "NoStake", "NoTicket", "NoCover", "NoSaying", "NoDeed", "NoStep", "NoText"] : List Str), ∀ C, XIs K x C → PySem.W.kitOne K (.ref D) (.ref C) = some (x == nm)
end B
namespace B
open PySem PySem.Spec PyProof.Rows L2
section
variable {prog : Program} {w : World} {A : Around} {E : Value → Shared → Prop} {s : Shared}
end
section
variable {X : Cx} {q : Addr × Obj} {elt tg iter : Expr} {ifs : List Expr} {scope : Scope} {own : List (Str × Nat)} {pos : Pos} {g : TG} {tt : TT} {te : TE}
end
section
variable {P : Program} {w : World} {K : PySem.W.Frag} {mg : Str → Option Value} {base : Heap}
end
section
variable {X : Cx} {a : Addr} {oe : Obj} {cls : Value} {d : Option Addr} {pn : List (Addr × Obj)}
end
end B
namespace B
open PySem PySem.Spec PyProof.Rows L2
section
variable {m : Nat} {tab : List (Option (Int × Nat))}
end
end B
namespace B
open PySem PySem.Spec PyProof.Rows L2
section
variable {m : Nat} {tab tab' tab2 : List (Option (Int × Nat))} {w : List (Int × Nat)} {L : List (List (Int × Nat))} {R : Rat → Rat → Prop}
end
section
variable {cs : List Nat} {wl : List (List Bool)} {bds : List Bd} {tab tab' tab2 : List (Option (Int × Nat))} {lo hi lo' hi' lo2 hi2 : Int × Nat}
end
section
variable {cs : List Nat} {wl : List (List Bool)} {ts us : List Tm} {g h : List Wd} {R : Rat → Rat → Prop}
end
end B
namespace B
open PySem PySem.Spec PyProof.Rows L2
section
variable {cs ps : List Nat} {k : Nat} {x : Bd}
end
section
variable {cs ps : List Nat} {bds : List Bd} {ts : List Tm} {lo hi low high : Int × Nat}
end
section
variable {cs ps : List Nat} {bds : List Bd} {ts : List Tm} {lo hi low high : Int × Nat} {L : List (List (Int × Nat))}
end
def rNotInDL (K : PySem.W.Frag) : R2 := fun x y H Q => ∃ d ds, Dp K H x d ∧ Dp K H y (.list ds) ∧ SeqAt.shaped d = true ∧ SeqAt.shaped (.list ds) = true ∧ Q (.bl (!ds.any fun z => PyData.eqv z d)) H
theorem op_notInDL {X : Cx} (hu : X.A.units + 65 < cLine) : OpR X (compareOp .NotIn) (rNotInDL X.K) := by
  intro pins s σ H x y v u Q I rx ry h
  obtain ⟨d, ds, hd, he, sd, se, q⟩ := h
  obtain ⟨as, r1⟩ := Dp.reads I d x v hd rx
  obtain ⟨bs, r2⟩ := Dp.reads I (.list ds) y u he ry
  exact SeqAt.notIn_list_reads r2 r1 (SeqAt.canLay_of_shaped se) (SeqAt.canLay_of_shaped sd) (room_in_shaped sd hu) ⟨.bl _, H, I, rfl, q⟩
end B
namespace B
open PySem PySem.Spec PyProof.Rows L2
end B
namespace B
open PySem PySem.Spec PyProof.Rows L2
end B
namespace B
open PySem PySem.Spec PyProof.Rows L2
end B
namespace B
open PySem PySem.Spec PyProof.Rows L2
section
variable {P : List Bool → Bool} {f : List Bool → Option (Int × Nat)}
end
section
variable {cs : List Nat} {rs : List (List Wd)} {ws : List Wd} {L : List (List (Int × Nat))}
end
end B
namespace B
open PySem PySem.Spec PyProof.Rows L2
section
variable {cs : List Nat} {rs : List (List Wd)} {bds : List Bd} {ws : List Wd} {L M : List (List (Int × Nat))}
end
end B
namespace B
open PySem PySem.Spec PyProof.Rows L2
end B
namespace B
open PySem PySem.Spec PyProof.Rows L2
section
variable {cs : List Nat} {rs : List (List Wd)} {L : List (List (Int × Nat))} {kss : List (List Nat)} {bds : List Bd} {ws : List Wd}
end
end B
namespace B
open PySem PySem.Spec PyProof.Rows L2
section
variable {cs : List Nat} {wl : List (List Bool)} {bds : List Bd} {L : List (List (Int × Nat))} {st : List (Int × Nat)} {z : Nat}
end
end B
namespace B
open PySem PySem.Spec PyProof.Rows L2
end B
namespace B
open PySem PySem.Spec PyProof.Rows L2
end B
namespace B
open PySem PySem.Spec PyProof.Rows L2
end B
namespace B
open PySem PySem.Spec PyProof.Rows L2
def HeldX (X : Cx) (f : Addr) (sp : Sp) : Prop := ∃ (k : Nat) (fd : FuncData) (ps : List Str), FnOk X.prog X.w X.K X.mg X.base (L2.CX X.prog X.w) k f fd ps sp ∧ Room k X.A ∧ PySem.W.keepIn X.K (.ref f) = true ∧ Binds X.K fd ps []
def tCallV (i : Nat) (Hd : Addr → Sp → Prop) (E : L2.St → XK) (t : TA) : TE := fun σ H Q => ∃ f sp, σ[i]? = some (some (.ref f)) ∧ Hd f sp ∧ t σ H fun vs H1 => sp vs H1 Q (E σ)
theorem pe_callV {X : Cx} {i : Nat} {E : L2.St → XK} {x : Str} {p pos : Pos} {e : Expr} {es : List Expr} {t : TA} (hN : X.N[i]? = some x) (hv : Vis X.env.scope x) (hx : ∀ σ, PassesAt (L2.CX X.prog X.w) X σ (E σ)) (ha : PA X (e :: es) t)
    (hdb : (x == ("__debug__" : Str)) = false := by decide) (hcd : (x == ("__classdict__" : Str)) = false := by decide)
    (he : starEach (e :: es) X.env = (false, eval e X.env) :: starEach es X.env := by rfl) (hpl : (backTo pos (starEach es X.env)).any (·.1) = false := by rfl) : PE X (.Call (.Name x p) (e :: es) [] pos) (tCallV i (HeldX X) E t) := by
  refine ⟨fun pins s σ H Q I h => ?_⟩
  obtain ⟨f, sp, hs, ⟨k, fd, ps, F, hr, hk, hb⟩, ht⟩ := h
  refine wpAny_Call_Name_kw (thn ((pe_var (pos := p) hN hv hdb hcd).run pins s σ H (fun v H1 => v = .ref f ∧ H1 = H) I ⟨.ref f, hs, rfl, rfl⟩) fun u s1 ⟨v, H1, I1, r1, q1⟩ => ?_)
  obtain ⟨rfl, rfl⟩ := q1
  cases r1
  refine PySem.W.callWith_K (h₀ := X.base) I1.ok.mod.kin hk (thn (ha.run pos pins s1 σ _ _ I1 ht) fun us s2 ⟨vs, H2, I2, r, q⟩ => ⟨I2.kIn, ?_⟩) he hpl
  exact run_fnS F hr hb (hx σ) I2 r q
/-- d.get(key) of such a table -/
def tKGet (K : PySem.W.Frag) (d : Addr) (td ty : TE) : TE := fun σ H Q => td σ H fun x H1 => x = .ref d ∧ ty σ H1 fun y H2 => ∃ z, y = .str z ∧ ((∃ u v, PySem.W.nsIn K d z = some (some u) ∧ RelV v u ∧ Q v H2) ∨ (PySem.W.nsIn K d z = some none ∧ Q .non H2))
theorem pe_kget1 {X : Cx} {o e : Expr} {apos cpos : Pos} {td ty : TE} {d : Addr} {es : Array DictEntry} {n : Nat} (D : KDict X.K X.w d es n) (ho : PE X o td) (he : PE X e ty) (m : M1 X o "get" apos e cpos) : PE X (.Call (.Attribute o "get" apos) [e] [] cpos) (tKGet X.K d td ty) := by
  refine ⟨fun pins s σ H Q I h => ?_⟩
  refine wpAny_Call_method m.base m.few m.line PySem.F.plainAttrs_dict PySem.F.slot_dict_get PySem.F.type_dict_get (thn (ho.run pins s σ H _ I h) fun u s1 ⟨x, H1, I1, rx, ex, q1⟩ => ?_)
  subst ex
  obtain rfl : u = Value.ref d := rx
  refine ⟨kd_type D I1, fun b q => ?_, ?_⟩
  · cases q
    exact ⟨_, I1.kIn _ _ D.at_, rfl⟩
  rw [m.trees]
  refine Calls.callWith_builtin rfl (Calls.evalArgs_plain (Calls.spliced_cons (thn (he.run pins s1 σ H1 _ I1 q1) fun iv s2 ⟨y, H2, I2, ry, z, ey, q2⟩ => Calls.spliced_nil ?_)))
  subst ey
  obtain ⟨t, rfl⟩ := ry
  refine call_meetsIn PySem.F.slot_dict_get (kd_type D I2) PySem.F.entry_dict_get (PySem.F.args_dict_get_2 _ _) (meets_dict_get (strKind X.prog X.w) d (PySem.strKind_is X.prog X.w z t) D.low) ⟨_, PySem.W.mapOf_K (prog := X.prog) I2.kIn D.at_ D.lit, ?_⟩
  rcases q2 with ⟨u, v, e, r, q⟩ | ⟨e, q⟩
  · rw [PySem.W.find_K D.at_ e]
    exact ⟨v, H2, I2.tok _, r, q⟩
  · rw [PySem.W.find_K D.at_ e]
    exact ⟨.non, H2, I2.tok _, rfl, q⟩
end B
namespace B
open PySem PySem.Spec PyProof.Rows L2
end B
namespace B
open PySem PySem.Spec PyProof.Rows L2
end B
namespace B
open PySem PySem.Spec PyProof.Rows L2
end B
namespace B
open PySem PySem.Spec PyProof.Rows L2
def stdD (S : Std) : PyData := .tuple [hdat S.cs S.rs, .tuple (S.ps.map fdat), .tuple (S.ts.map tkdat), .tuple (S.bs.map fun b => .tuple (b.map kdat)), .int S.m]
theorem StdAt.dq {K : PySem.W.Frag} {H : Hp} {a : Addr} {S : Std} (h : StdAt K H a S) : Dq K H (.ref a) (stdD S) := by
  obtain ⟨h, p, t, l, pvs, tvs, lvs, t1, t2, t3, t4, t5, t6, t7, t8⟩ := h
  exact .tup t1 (.cons (dq_dp (hdp t2)) (.cons (.tup t3 (fas_dq t4)) (.cons (.tup t5 (dqAll_dp (t6.dp fun _ _ q => q.dp))) (.cons (.tup t7 (bss_dq t8)) (.cons (.int _) .nil)))))
theorem plJ_wdat (n : Nat) {ws : List Wd} (h : ws.length ≤ 1000) : plJ (n + 2) (wdat ws) = true := plJ_tup (by rw [List.length_map]; exact h) fun d hd => by
  obtain ⟨w, _, rfl⟩ := List.mem_map.mp hd
  rfl
theorem plJ_bdat (n : Nat) {cs : List Nat} {ts : List Tm} {g : List Wd} (h : BtOk cs ts g) : plJ (n + 5) (bdat ts g) = true := plJ_tup (by show 2 ≤ 1000; decide) fun d hd => by
  simp only [List.mem_cons, List.not_mem_nil, or_false] at hd
  have hf := h.few
  have hl := h.ln
  rcases hd with rfl | rfl
  · refine plJ_tup (by rw [List.length_map]; omega) fun d hd => ?_
    obtain ⟨x, hx, rfl⟩ := List.mem_map.mp hd
    refine plJ_tup (by show 2 ≤ 1000; decide) fun d hd => ?_
    simp only [List.mem_cons, List.not_mem_nil, or_false] at hd
    have hx' := (h.tm x hx).ln
    rcases hd with rfl | rfl
    · exact plJ_fdat n _
    · exact plJ_wdat n (by omega)
  · exact plJ_wdat (n + 2) (by omega)
theorem plJ_tkdat (n : Nat) {cs : List Nat} {t : Tkt} (h : BtOk cs t.b.ts t.b.g) : plJ (n + 6) (tkdat t) = true := plJ_tup (by show 6 ≤ 1000; decide) fun d hd => by
  simp only [List.mem_cons, List.not_mem_nil, or_false] at hd
  rcases hd with rfl | rfl | rfl | rfl | rfl | rfl
  · rfl
  · rfl
  · rfl
  · exact plJ_bdat n h
  · exact plJ_fdat (n + 3) _
  · exact plJ_fdat (n + 3) _
theorem plJ_kdat (n : Nat) {cs : List Nat} {x : Bd} (h : BtOk cs x.ts x.g) : plJ (n + 6) (kdat x) = true := plJ_tup (by show 2 ≤ 1000; decide) fun d hd => by
  simp only [List.mem_cons, List.not_mem_nil, or_false] at hd
  rcases hd with rfl | rfl
  · exact plJ_bdat n h
  · exact plJ_fdat (n + 3) _
theorem plJ_std {S : Std} (h : HsOk S.cs S.rs) (p6 : S.ps.length ≤ 6) (ht : ∀ t ∈ S.ts, BtOk S.cs t.b.ts t.b.g) (n : S.ts.length ≤ 100) (b : S.bs.length ≤ 6) (bl : ∀ bds ∈ S.bs, bds.length ≤ 6 ∧ ∀ x ∈ bds, BtOk S.cs x.ts x.g) : plJ 9 (stdD S) = true := plJ_tup (by show 5 ≤ 1000; decide) fun d hd => by
  simp only [List.mem_cons, List.not_mem_nil, or_false] at hd
  rcases hd with rfl | rfl | rfl | rfl | rfl
  · exact plJ_hdat h 4
  · refine plJ_tup (by rw [List.length_map]; omega) fun d hd => ?_
    obtain ⟨x, _, rfl⟩ := List.mem_map.mp hd
    exact plJ_fdat 5 x
  · refine plJ_tup (by rw [List.length_map]; omega) fun d hd => ?_
    obtain ⟨x, hx, rfl⟩ := List.mem_map.mp hd
    exact plJ_tkdat 1 (ht x hx)
  · refine plJ_tup (by rw [List.length_map]; omega) fun d hd => ?_
    obtain ⟨x, hx, rfl⟩ := List.mem_map.mp hd
    obtain ⟨y1, y2⟩ := bl x hx
    refine plJ_tup (by rw [List.length_map]; omega) fun d hd => ?_
    obtain ⟨z, hz, rfl⟩ := List.mem_map.mp hd
    exact plJ_kdat 0 (y2 z hz)
  · rfl
end B
namespace B
open PySem PySem.Spec PyProof.Rows L2
/-- what a bid brings, staked once -/
theorem unit_fb {cs : List Nat} {x : Bd} {n l s : Nat} (hb : BwOk cs x.ts x.g) (hp : Fb 42000000 (2 ^ 46) x.p) (v : Nat → Bool) {p : Int × Nat} (e : payO v x.ts x.g = some p) : Fb 42000000 (2 ^ 47) (subF p x.p) := by
  have h : Fb 42000000 (2 ^ 45) p := by rw [payO_some e]; exact (hb.pay v).up (by decide) (Nat.le_refl _)
  exact (h.add hp.neg (by decide)).up (Nat.dvd_refl _) (by decide)
theorem stk_br {cs : List Nat} {D E N : Nat} {t : Tkt} (hb : BwOk cs t.b.ts t.b.g) (hp : Fb 42000000 (2 ^ 46) t.b.p) (hk : Fb E N t.k) (v : Nat → Bool) : Fb (E * 42000000) (N * 2 ^ 47) (brF v t) := by
  unfold brF
  cases e : payO v t.b.ts t.b.g with
  | none => exact Fb.zero
  | some p => exact hk.mul (unit_fb (n := 0) (l := 0) (s := 0) hb hp v e)
end B
namespace B
open PySem PySem.Spec PyProof.Rows L2
end B
namespace B
open PySem PySem.Spec PyProof.Rows L2
theorem th_pair {K : PySem.W.Frag} {H : Hp} {v : V} {p : Int × Nat} (h : Th K H v (fdat p)) : ∃ a : Addr, v = .ref a ∧ SqT K H a [.int p.1, .int p.2] := by
  cases h with
  | tup tA al =>
  cases al with
  | cons u1 al =>
  cases al with
  | cons u2 al =>
  cases al
  cases u1
  cases u2
  exact ⟨_, rfl, tA⟩
end B
namespace B
open PySem PySem.Spec PyProof.Rows L2
end B
namespace B
open PySem PySem.Spec PyProof.Rows L2
end B
namespace B
open PySem PySem.Spec PyProof.Rows L2
end B
namespace B
open PySem PySem.Spec PyProof.Rows L2
abbrev Wh := Str ⊕ (PyData × Std)
def OutG (K : PySem.W.Frag) (o : Wh) (H : Hp) (Q : VK) (E : XK) : Prop := match o with
  | .inl nm => ∀ C, XIs K nm C → ∀ d H', DOk H' d → Same H H' → E (.ref C) d H'
  | .inr x => ∀ (H' : Hp) (r sp : Addr) (u : V), SqT K H' r [u, .ref sp] → Dq K H' u x.1 → StdAt K H' sp x.2 → Same H H' → Q (.ref r) H'
theorem OutG.same {K : PySem.W.Frag} {o : Wh} {H H1 : Hp} {Q : VK} {E : XK} (h : OutG K o H Q E) (s : Same H H1) : OutG K o H1 Q E := by
  unfold OutG at h ⊢
  cases o with
  | inl nm => exact fun C c d H' dk s' => h C c d H' dk (s.trans s')
  | inr x => exact fun H' r sp u a b c s' => h H' r sp u a b c (s.trans s')
def OutGV (K : PySem.W.Frag) (H : Hp) (r : Addr) (o : Wh) : Prop := match o with
  | .inl nm => SqT K H r [.str nm, .non]
  | .inr x => ∃ (u : V) (sp : Addr), SqT K H r [u, .ref sp] ∧ Dq K H u x.1 ∧ StdAt K H sp x.2
def og1 : Wh → PyData
  | .inl nm => .str nm
  | .inr x => x.1
def og2 : Wh → PyData
  | .inl _ => .none
  | .inr x => stdD x.2
def ogD (o : Wh) : PyData := .tuple [og1 o, og2 o]
theorem OutGV.dq {K : PySem.W.Frag} {H : Hp} {r : Addr} : ∀ {o : Wh}, OutGV K H r o → Dq K H (.ref r) (ogD o)
  | .inl _, h => .tup h (.cons (.str _) (.cons .non .nil))
  | .inr _, ⟨_, _, h, u, k⟩ => .tup h (.cons u (.cons k.dq .nil))
theorem plJ_og {o : Wh} (h : ∀ x, o = .inr x → plJ 9 x.1 = true ∧ plJ 9 (stdD x.2) = true) : plJ 10 (ogD o) = true := plJ_tup (by show 2 ≤ 1000; decide) fun d hd => by
  simp only [List.mem_cons, List.not_mem_nil, or_false] at hd
  rcases hd with rfl | rfl
  · cases o with
    | inl _ => rfl
    | inr x => exact (h x rfl).1
  · cases o with
    | inl _ => rfl
    | inr x => exact (h x rfl).2
/-- numbers rise, and holders are two -/
structure StdN (S : Std) : Prop where
  r : S.ts.Pairwise (fun a b => a.n < b.n)
  t : ∀ t ∈ S.ts, t.n < S.m ∧ t.l ≠ t.s
theorem StdN.uq {S : Std} (h : StdN S) : ∀ x ∈ S.ts, ∀ y ∈ S.ts, x.n = y.n → x = y := by
  intro x hx y hy e
  obtain ⟨i, hi, rfl⟩ := List.mem_iff_getElem.mp hx
  obtain ⟨j, hj, rfl⟩ := List.mem_iff_getElem.mp hy
  have hr := List.pairwise_iff_getElem.mp h.r
  rcases Nat.lt_trichotomy i j with c | c | c
  · have := hr i j hi hj c
    omega
  · subst c
    rfl
  · have := hr j i hj hi c
    omega
end B
namespace B
open PySem PySem.Spec PyProof.Rows L2
end B
namespace B
open PySem PySem.Spec PyProof.Rows L2
end B
namespace B
open PySem PySem.Spec PyProof.Rows L2
end B
namespace B
open PySem PySem.Spec PyProof.Rows L2
end B
namespace B
open PySem PySem.Spec PyProof.Rows L2
end B
namespace B
open PySem PySem.Spec PyProof.Rows L2
end B
namespace B
open PySem PySem.Spec PyProof.Rows L2
end B
namespace B
open PySem PySem.Spec PyProof.Rows L2
end B
namespace B
open PySem PySem.Spec PyProof.Rows L2
end B
namespace B
open PySem PySem.Spec PyProof.Rows L2
end B
namespace B
open PySem PySem.Spec PyProof.Rows L2
def ivO : Value → Int
  | .int x _ => x
  | _ => 0
def ltIv (v u : Value) : Bool := decide (ivO v < ivO u)
theorem swo_int : SrtO.Swo ltIv := by
  refine ⟨fun x y h => ?_, fun x y z h1 h2 => ?_⟩
  · have := of_decide_eq_true h
    exact decide_eq_false (by omega)
  · have a := of_decide_eq_false h1
    have b := of_decide_eq_false h2
    exact decide_eq_false (by omega)
section
variable {prog : Program} {w : World} {A : Around} {s : Shared}
theorem int_cmp {vs : List Value} {ss : List Int} (hS : IntsAre vs ss) : SrtO.Cmp prog w A s oneType' (fun p => p.1 ∈ vs) (SrtO.lt2 ltIv) := by
  intro p q hm hm'
  obtain ⟨a, t, e⟩ := hS.all _ hm
  obtain ⟨b, u, e'⟩ := hS.all _ hm'
  show wpAny (model prog w) A (keyLt' oneType' p.1 q.1) (fun r s' => s' = s ∧ r = ltIv p.1 q.1) (fun _ _ => False) s
  rw [e, e', keyLt'_oneType]
  exact oneLt_int ⟨rfl, rfl⟩
theorem int_sortable {a : Addr} {vs : List Value} {ss : List Int} (hS : IntsAre vs ss) (h2 : 2 ≤ vs.length) : SrtO.SortableO prog w A s a vs ltIv := by
  intro h' _
  refine ⟨oneType', fun Q E hq => ?_, int_cmp hS⟩
  match vs, hS, h2 with
  | v1 :: v2 :: rest, hS, _ =>
    rw [keyKind_ints hS]
    exact wpAny_pure hq
  | [], _, h => exact absurd h (by decide)
  | [v], _, h => exact absurd h (by simp)
end
theorem vals_intsO : ∀ {out : List Value}, (∀ v ∈ out, ∃ x t, v = Value.int x t) → Vals ((out.map ivO).map V.int) out
  | [], _ => .nil
  | v :: r, h => by
    obtain ⟨x, t, rfl⟩ := h v List.mem_cons_self
    exact .cons ⟨t, rfl⟩ (vals_intsO fun u hu => h u (List.mem_cons_of_mem _ hu))
theorem ivO_ints : ∀ {vs : List Value} {ss : List Int}, IntsAre vs ss → vs.map ivO = ss
  | _, _, .nil => rfl
  | _, _, .cons x t r => congrArg (x :: ·) (ivO_ints r)
def rSortedI (K : PySem.W.Frag) : List V → Hp → VK → Prop := fun vs H Q => ∃ (a : Addr) (xs : List Int), vs = [V.ref a] ∧ SqT K H a (xs.map V.int) ∧
  ∀ (ys : List Int) (p : Addr), ys.Perm xs → ys.Pairwise (fun a b => a ≤ b) → H p = none → Q (.ref p) (upd H p (.lst (ys.map V.int)))
theorem cr_sortedI {X : Cx} : CallR X (.builtin "sorted") (rSortedI X.K) := by
  intro pins s σ H vs us Q I r h
  obtain ⟨a, xs, rfl, hs, q⟩ := h
  obtain ⟨its, rv, hT, hz⟩ := I.tuple hs
  rw [Vals.ref1 r]
  have hS : IntsAre its xs := ints_of_vals rv
  refine sorted_ordT swo_int hT (by rw [← rv.length]; exact hz) (fun h2 h₁ a' _ _ => int_sortable hS h2) fun out h1 h2 => ?_
  have hm : ∀ v ∈ out, ∃ x t, v = Value.int x t := fun v hv => hS.all v (h2.perm.mem_iff.mp hv)
  have hp : (out.map ivO).Perm xs := by
    have := h2.perm.map ivO
    rw [ivO_ints hS] at this
    exact this
  obtain ⟨ep, he⟩ := PyProof.Rows.sortedAll_at s.heap its out.toArray
  have hl : ((out.map ivO).map V.int).length ≤ sizeLine := by
    rw [List.length_map, hp.length_eq]
    rw [List.length_map] at hz
    exact hz
  refine ⟨.ref _, upd H (s.heap.objs.size + 1) (.lst ((out.map ivO).map V.int)), I.laid (t' := s.toks) (fun _ _ => PyProof.Rows.sortedAll_old) (Nat.le_succ _) ⟨hl, out, ep, vals_intsO hm, he⟩, rfl, q _ _ hp ?_ (I.hok.fresh (Nat.le_succ _))⟩
  exact List.pairwise_map.mpr (h1.imp fun {x y} h => by have := of_decide_eq_false h; omega)
end B
namespace B
open PySem PySem.Spec PyProof.Rows L2
def Std.split (S : Std) (t : Tkt) (x : Int × Nat) : Std := ⟨S.cs, S.rs, S.ps, (S.ts.map fun y => if y.n = t.n then (⟨t.n, t.l, t.s, t.b, subF t.k x⟩ : Tkt) else y) ++ [⟨S.m, t.l, t.s, t.b, x⟩], S.bs, S.m + 1⟩
def splO (S : Std) (t : Tkt) (x : Int × Nat) : Wh := if 12 < S.ts.length + 1 then .inl "TooMany" else .inr (.int S.m, S.split t x)
/-- what stays of two tickets -/
def restF (t u : Tkt) : Option Tkt := if t.l = u.l then some ⟨t.n, t.l, t.s, t.b, addF t.k u.k⟩ else if t.k = u.k then none else if ltF u.k t.k = true then some ⟨t.n, t.l, t.s, t.b, subF t.k u.k⟩ else some ⟨t.n, u.l, u.s, u.b, subF u.k t.k⟩
def netL (ts : List Tkt) (t u : Tkt) : Option Tkt → List Tkt
  | none => ts.filter fun x => !decide (x.n ∈ [t.n, u.n])
  | some r => (ts.filter fun x => !decide (x.n ∈ [u.n])).map fun x => if x.n = r.n then r else x
def netT : Option Tkt → PyData
  | none => .none
  | some r => .int (r.n : Int)
def Std.net (S : Std) (t u : Tkt) : Std := ⟨S.cs, S.rs, S.ps, netL S.ts t u (restF t u), S.bs, S.m⟩
def LikeT (t u : Tkt) : Prop := t.b = u.b ∧ ((t.l = u.l ∧ t.s = u.s) ∨ (t.l = u.s ∧ t.s = u.l))
theorem rest_n {t u r : Tkt} (h : restF t u = some r) : r.n = t.n := by
  unfold restF at h
  split at h
  · injection h with h; rw [← h]
  split at h
  · cases h
  split at h
  · injection h with h; rw [← h]
  · injection h with h; rw [← h]
inductive SplitR (S : Std) : PyData → PyData → Wh → Prop
  | tick {d1 d2 : PyData} : (∀ t ∈ S.ts, d1 ≠ .int (t.n : Int)) → SplitR S d1 d2 (.inl "NoTicket")
  | stake {t : Tkt} {x : Int × Nat} : t ∈ S.ts → Fok 100000 x → (0 < x.1 → ltF x t.k = false) → SplitR S (.int (t.n : Int)) (fdat x) (.inl "NoStake")
  | ok {t : Tkt} {x : Int × Nat} : t ∈ S.ts → Fok 100000 x → 0 < x.1 → ltF x t.k = true → SplitR S (.int (t.n : Int)) (fdat x) (splO S t x)
inductive NetR (S : Std) : PyData → PyData → Wh → Prop
  | tick1 {d1 d2 : PyData} : (∀ t ∈ S.ts, d1 ≠ .int (t.n : Int)) → NetR S d1 d2 (.inl "NoTicket")
  | tick2 {t : Tkt} {d2 : PyData} : t ∈ S.ts → (∀ t ∈ S.ts, d2 ≠ .int (t.n : Int)) → NetR S (.int (t.n : Int)) d2 (.inl "NoTicket")
  | same {t : Tkt} : t ∈ S.ts → NetR S (.int (t.n : Int)) (.int (t.n : Int)) (.inl "NoTicket")
  | alike {t u : Tkt} : t ∈ S.ts → u ∈ S.ts → t.n ≠ u.n → ¬ LikeT t u → NetR S (.int (t.n : Int)) (.int (u.n : Int)) (.inl "NotAlike")
  | low {t u : Tkt} : t ∈ S.ts → u ∈ S.ts → t.n < u.n → LikeT t u → NetR S (.int (t.n : Int)) (.int (u.n : Int)) (.inr (netT (restF t u), S.net t u))
  | high {t u : Tkt} : t ∈ S.ts → u ∈ S.ts → u.n < t.n → LikeT t u → NetR S (.int (t.n : Int)) (.int (u.n : Int)) (.inr (netT (restF u t), S.net u t))
theorem splO_name {S : Std} {t : Tkt} {x : Int × Nat} {nm : Str} (e : splO S t x = .inl nm) : nm = "TooMany" := by
  unfold splO at e
  split at e
  · injection e with e; exact e.symm
  · cases e
theorem SplitR.name {S : Std} {d1 d2 : PyData} {o : Wh} (h : SplitR S d1 d2 o) {nm : Str} (e : o = .inl nm) : nm = "NoTicket" ∨ nm = "NoStake" ∨ nm = "NotAlike" ∨ nm = "TooMany" := by
  cases h with
  | tick a => injection e with e; exact .inl e.symm
  | stake a b c => injection e with e; exact .inr (.inl e.symm)
  | ok a b c d => exact .inr (.inr (.inr (splO_name e)))
theorem NetR.name {S : Std} {d1 d2 : PyData} {o : Wh} (h : NetR S d1 d2 o) {nm : Str} (e : o = .inl nm) : nm = "NoTicket" ∨ nm = "NoStake" ∨ nm = "NotAlike" ∨ nm = "TooMany" := by
  cases h with
  | tick1 a => injection e with e; exact .inl e.symm
  | tick2 a b => injection e with e; exact .inl e.symm
  | same a => injection e with e; exact .inl e.symm
  | alike a b c d => injection e with e; exact .inr (.inr (.inl e.symm))
  | low a b c d => cases e
  | high a b c d => cases e
def cvF (v : Nat → Bool) (b : Bd) : Rat := match payO v b.ts b.g with
  | none => 0
  | some p => ql p - ql b.p
def wzF (v : Nat → Bool) (h : Nat) (t : Tkt) : Rat := ql t.k * (cvF v t.b * ((if t.l = h then 1 else 0) - (if t.s = h then 1 else 0)))
/-- amounts of which all parts are fractions -/
def TkFr (v : Nat → Bool) (t : Tkt) : Prop := Fr t.k ∧ Fr t.b.p ∧ ∀ p, payO v t.b.ts t.b.g = some p → Fr p
theorem br_fr {v : Nat → Bool} {t : Tkt} (h : TkFr v t) : Fr (brF v t) ∧ ql (brF v t) = ql t.k * cvF v t.b := by
  unfold brF cvF
  obtain ⟨a, b, c⟩ := h
  cases e : payO v t.b.ts t.b.g with
  | none => exact ⟨Fr.zero, by rw [ql_zero]; show (0 : Rat) = ql t.k * 0; rw [Rat.mul_zero]⟩
  | some p =>
    have fs : Fr (subF p t.b.p) := (c p e).add b.neg
    exact ⟨a.mul fs, by show ql (mulF t.k (subF p t.b.p)) = _; rw [ql_mul a.pos fs.pos, ql_sub (c p e) b]⟩
theorem one_qs (v : Nat → Bool) (h : Nat) : ∀ (ts : List Tkt) (p : Int × Nat), Fr p → (∀ t ∈ ts, TkFr v t) → Fr (oneF v h p ts) ∧ ql (oneF v h p ts) = ql p + (ts.map (wzF v h)).sum
  | [], p, fp, _ => ⟨fp, by show ql p = ql p + 0; rw [Rat.add_zero]⟩
  | t :: r, p, fp, ht => by
    obtain ⟨fb, eb⟩ := br_fr (ht t (List.mem_cons_self ..))
    have step : ∃ q, Fr q ∧ ql q = ql p + wzF v h t ∧ oneF v h p (t :: r) = oneF v h q r := by
      refine ⟨(let y := if t.l = h then addF p (brF v t) else p; if t.s = h then addF y (negF (brF v t)) else y), ?_, ?_, rfl⟩
      · by_cases c1 : t.l = h <;> by_cases c2 : t.s = h
        · simp only [c1, c2, if_true]; exact (fp.add fb).add fb.neg
        · simp only [c1, c2, if_true, if_false]; exact fp.add fb
        · simp only [c1, c2, if_true, if_false]; exact fp.add fb.neg
        · simp only [c1, c2, if_false]; exact fp
      · unfold wzF
        by_cases c1 : t.l = h <;> by_cases c2 : t.s = h
        · simp only [c1, c2, if_true]
          rw [ql_add (fp.add fb).pos fb.neg.pos, ql_add fp.pos fb.pos, ql_neg, eb]
          grind
        · simp only [c1, c2, if_true, if_false]
          rw [ql_add fp.pos fb.pos, eb]
          grind
        · simp only [c1, c2, if_true, if_false]
          rw [ql_add fp.pos fb.neg.pos, ql_neg, eb]
          grind
        · simp only [c1, c2, if_false]
          grind
    obtain ⟨q, fq, eq, es⟩ := step
    obtain ⟨i1, i2⟩ := one_qs v h r q fq fun y hy => ht y (List.mem_cons_of_mem _ hy)
    rw [es]
    refine ⟨i1, ?_⟩
    rw [i2, eq, List.map_cons, List.sum_cons]
    grind
theorem one_same {v : Nat → Bool} {h : Nat} {p : Int × Nat} {ts us : List Tkt} (fp : Fr p) (ht : ∀ t ∈ ts, TkFr v t) (hu : ∀ t ∈ us, TkFr v t) (e : (ts.map (wzF v h)).sum = (us.map (wzF v h)).sum) : oneF v h p ts = oneF v h p us := by
  obtain ⟨a, b⟩ := one_qs v h ts p fp ht
  obtain ⟨c, d⟩ := one_qs v h us p fp hu
  exact ql_inj a c (by rw [b, d, e])
theorem cut_at {tks : List Tkt} {i : Nat} {t : Tkt} (h : tks[i]? = some t) : tks = tks.take i ++ t :: tks.drop (i + 1) := by
  obtain ⟨hi, e⟩ := List.getElem?_eq_some_iff.mp h
  rw [← e, List.getElem_cons_drop, List.take_append_drop]
theorem near_at {tks : List Tkt} {i : Nat} {t : Tkt} (h : tks[i]? = some t) (r : tks.Pairwise (fun a b => a.n < b.n)) : (∀ x ∈ tks.take i, x.n < t.n) ∧ ∀ x ∈ tks.drop (i + 1), t.n < x.n := by
  have e := cut_at h
  rw [e] at r
  obtain ⟨_, r2, r3⟩ := List.pairwise_append.mp r
  exact ⟨fun x hx => r3 x hx t (List.mem_cons_self ..), fun x hx => (List.pairwise_cons.mp r2).1 x hx⟩
theorem rep_at {tks : List Tkt} {i : Nat} {t r : Tkt} (h : tks[i]? = some t) (p : tks.Pairwise (fun a b => a.n < b.n)) (en : r.n = t.n) : (tks.map fun x => if x.n = r.n then r else x) = tks.take i ++ [r] ++ tks.drop (i + 1) := by
  obtain ⟨a, c⟩ := near_at h p
  have e := cut_at h
  have id1 : ∀ {X : List Tkt}, (∀ x ∈ X, x.n ≠ r.n) → X.map (fun x => if x.n = r.n then r else x) = X := fun {X} hX => by
    have e : X.map (fun x => if x.n = r.n then r else x) = X.map id := List.map_congr_left fun x hx => if_neg (hX x hx)
    rw [e, List.map_id]
  have : (tks.map fun x => if x.n = r.n then r else x) = (tks.take i).map (fun x => if x.n = r.n then r else x) ++ (if t.n = r.n then r else t) :: (tks.drop (i + 1)).map fun x => if x.n = r.n then r else x := by
    rw [← List.map_cons (f := fun x : Tkt => if x.n = r.n then r else x), ← List.map_append, ← e]
  rw [this, id1 fun x hx => by have := a x hx; omega, id1 fun x hx => by have := c x hx; omega, if_pos en.symm, List.append_assoc]
  rfl
theorem out_at {tks : List Tkt} {i : Nat} {t : Tkt} (h : tks[i]? = some t) (p : tks.Pairwise (fun a b => a.n < b.n)) : (tks.filter fun x => !decide (x.n ∈ [t.n])) = tks.take i ++ tks.drop (i + 1) := by
  obtain ⟨a, c⟩ := near_at h p
  have e := cut_at h
  have : (tks.filter fun x => !decide (x.n ∈ [t.n])) = (tks.take i).filter (fun x => !decide (x.n ∈ [t.n])) ++ (t :: tks.drop (i + 1)).filter (fun x => !decide (x.n ∈ [t.n])) := by
    rw [← List.filter_append, ← e]
  rw [this, List.filter_cons_of_neg (by simp), List.filter_eq_self.mpr fun x hx => by have := a x hx; simp; omega, List.filter_eq_self.mpr fun x hx => by have := c x hx; simp; omega]
end B
namespace B
open PySem PySem.Spec PyProof.Rows L2
theorem ints_dp {K : PySem.W.Frag} {H : Hp} : ∀ ys : List Int, DpAll K H (ys.map V.int) (ys.map PyData.int)
  | [] => .nil
  | y :: r => .cons (.int y) (ints_dp r)
theorem ints_eqd (a b : List Int) : PyData.eqv (.list (a.map .int)) (.list (b.map .int)) = decide (a = b) := by
  have i : PyData.eqv (.list (a.map .int)) (.list (b.map .int)) = true ↔ a = b := show PyData.eqvAll (a.map .int) (b.map .int) = true ↔ a = b from eqvAll_iff int_iff a b
  by_cases h : a = b
  · rw [i.mpr h, decide_eq_true h]
  · rw [eqv_false i h, decide_eq_false h]
theorem sort2 {ys : List Int} {a b : Int} (p : ys.Perm [a, b]) (s : ys.Pairwise (fun x y => x ≤ y)) : ys = if a ≤ b then [a, b] else [b, a] := by
  have l := p.length_eq
  match ys, l with
  | [x, y], _ =>
    have hx : x = a ∨ x = b := by
      have := p.mem_iff.mp (List.mem_cons_self (a := x) (l := [y]))
      simpa using this
    have hs : x ≤ y := by
      have := (List.pairwise_cons.mp s).1 y (by simp)
      exact this
    have one : ∀ {c e : Int}, [c].Perm [e] → c = e := fun h => by
      have := h.mem_iff.mp (List.mem_cons_self ..)
      simpa using this
    rcases hx with rfl | rfl
    · have : y = b := one ((List.perm_cons _).mp p)
      subst this
      rw [if_pos hs]
    · have : y = a := one ((List.perm_cons _).mp (p.trans (List.Perm.swap _ _ _)))
      subst this
      by_cases c : y ≤ x
      · have : x = y := by omega
        subst this
        rw [if_pos c]
      · rw [if_neg c]
theorem like_iff {t u : Tkt} {ys zs : List Int} (p1 : ys.Perm [(t.l : Int), (t.s : Int)]) (s1 : ys.Pairwise (fun x y => x ≤ y)) (p2 : zs.Perm [(u.l : Int), (u.s : Int)]) (s2 : zs.Pairwise (fun x y => x ≤ y)) : (t.b = u.b ∧ ys = zs) ↔ LikeT t u := by
  rw [sort2 p1 s1, sort2 p2 s2]
  unfold LikeT
  refine and_congr_right fun _ => ?_
  constructor
  · intro h
    by_cases c1 : (t.l : Int) ≤ t.s <;> by_cases c2 : (u.l : Int) ≤ u.s
    all_goals
      simp only [c1, c2, if_true, if_false] at h
      injection h with h1 h2
      injection h2 with h2 h3
      omega
  · intro h
    by_cases c1 : (t.l : Int) ≤ t.s <;> by_cases c2 : (u.l : Int) ≤ u.s
    all_goals
      simp only [c1, c2, if_true, if_false]
      rcases h with ⟨h1, h2⟩ | ⟨h1, h2⟩
      · congr 1
        · omega
        · congr 1
          omega
      · congr 1
        · omega
        · congr 1
          omega
end B
namespace B
open PySem PySem.Spec PyProof.Rows L2
structure TkK (cs : List Nat) (D N : Nat) (t : Tkt) : Prop where
  b : BwOk cs t.b.ts t.b.g
  p : Fb 42000000 (2 ^ 46) t.b.p
  k : Fb D N t.k
  k0 : 0 < t.k.1
theorem TkK.up {cs : List Nat} {D N D' N' : Nat} {t : Tkt} (h : TkK cs D N t) (a : D ∣ D') (b : N ≤ N') : TkK cs D' N' t := ⟨h.b, h.p, h.k.up a b, h.k0⟩
theorem TkK.fk {cs : List Nat} {D N a c : Nat} {t : Tkt} (h : TkK cs D N t) (d0 : 0 < D) (hD : D < 2 ^ a) (hN : N ≤ 2 ^ c) (ac : c + a ≤ 6000) : Fok 6000 t.k := (h.k.fok d0 hD hN).up ac
theorem TkK.ok {cs : List Nat} {D N a c : Nat} {t : Tkt} (h : TkK cs D N t) (d0 : 0 < D) (hD : D < 2 ^ a) (hN : N ≤ 2 ^ c) (ac : c + a ≤ 6000) : TkOk cs t := ⟨⟨h.b.ok, fun v => ((h.b.pay v).fok (a := 23) (c := 45) (by decide) (by decide) (by decide)).up (by decide), (h.p.fok (a := 26) (c := 46) (by decide) (by decide) (by decide)).up (by decide)⟩, h.fk d0 hD hN ac⟩
theorem TkK.fr {cs : List Nat} {D N : Nat} {t : Tkt} (h : TkK cs D N t) (v : Nat → Bool) : TkFr v t := ⟨h.k.f, h.p.f, fun p e => by rw [payO_some e]; exact (h.b.pay v).f⟩
theorem TkK.br {cs : List Nat} {D N : Nat} {t : Tkt} (h : TkK cs D N t) (v : Nat → Bool) : Fb (D * 42000000) (N * 2 ^ 47) (brF v t) := stk_br (D := 1) h.b h.p h.k v
structure StdK (S : Std) (D DP j : Nat) : Prop where
  h : HsOk S.cs S.rs
  ls : Ls 6 S.cs
  w : wor S.cs S.rs ≠ []
  p2 : 2 ≤ S.ps.length
  p6 : S.ps.length ≤ 6
  t : ∀ t ∈ S.ts, TkK S.cs D (2 ^ (20 + j)) t ∧ t.l < S.ps.length ∧ t.s < S.ps.length
  nn : StdN S
  d0 : 0 < D
  d : D < 2 ^ (60 + 40 * j)
  dp0 : 0 < DP
  dp : DP < 2 ^ 60
  pz : ∀ p ∈ S.ps, Fb DP (2 ^ 90) p
  n : S.ts.length ≤ 12
  b : S.bs.length = S.ps.length
  bl : ∀ bds ∈ S.bs, bds.length ≤ 6 ∧ ∀ x ∈ bds, BtOk S.cs x.ts x.g
theorem StdK.wz {S : Std} {D DP j : Nat} (h : StdK S D DP j) (j6 : j ≤ 6) (v : Nat → Bool) : WzOk (D * 42000000 * DP) (2 ^ (100 + j)) v S.ps S.ts := ⟨fun t ht => ((h.t t ht).1.br v).up (Nat.dvd_mul_right ..) (by rw [← Nat.pow_add]; exact Nat.pow_le_pow_right (by decide) (by omega)), fun p hp => (h.pz p hp).up (Nat.dvd_mul_left ..) (Nat.pow_le_pow_right (by decide) (by omega)), Nat.mul_pos (Nat.mul_pos h.d0 (by decide)) h.dp0, by
  refine Nat.lt_of_lt_of_le (Nat.mul_lt_mul'' (Nat.mul_lt_mul'' h.d (show 42000000 < 2 ^ 26 by decide)) h.dp) ?_
  rw [← Nat.pow_add, ← Nat.pow_add]
  exact Nat.pow_le_pow_right (by decide) (by omega), by
  have n := h.n
  refine Nat.le_trans (Nat.mul_le_mul_right _ (show 2 * S.ts.length + 1 ≤ 2 ^ 5 by omega)) ?_
  rw [← Nat.pow_add]
  exact Nat.pow_le_pow_right (by decide) (by omega)⟩
theorem StdK.fk {S : Std} {D DP j : Nat} (h : StdK S D DP j) (j6 : j ≤ 6) : ∀ t ∈ S.ts, Fok 6000 t.k := fun t ht => (h.t t ht).1.fk (a := 60 + 40 * j) (c := 20 + j) h.d0 h.d (Nat.le_refl _) (by omega)
theorem StdK.ok {S : Std} {D DP j : Nat} (h : StdK S D DP j) (j6 : j ≤ 6) : StdOk (D * 42000000 * DP) (2 ^ (100 + j)) S := ⟨h.h, h.p2, h.p6, fun t ht => ⟨(h.t t ht).1.ok (a := 60 + 40 * j) (c := 20 + j) h.d0 h.d (Nat.le_refl _) (by omega), (h.t t ht).2⟩, fun _ _ => h.wz j6 _, by have := h.n; omega⟩
theorem StdK.pl {S : Std} {D DP j : Nat} (h : StdK S D DP j) : plJ 9 (stdD S) = true := plJ_std h.h h.p6 (fun t ht => (h.t t ht).1.b.ok) (by have := h.n; omega) (by rw [h.b]; exact h.p6) h.bl
theorem StdK.up {S : Std} {D DP j : Nat} (h : StdK S D DP j) : StdK S D DP (j + 1) := ⟨h.h, h.ls, h.w, h.p2, h.p6, fun t ht => ⟨(h.t t ht).1.up (Nat.dvd_refl _) (Nat.pow_le_pow_right (by decide) (by omega)), (h.t t ht).2⟩, h.nn, h.d0, Nat.lt_of_lt_of_le h.d (Nat.pow_le_pow_right (by decide) (by omega)), h.dp0, h.dp, h.pz, h.n, h.b, h.bl⟩
/-- other tickets, with numbers below the next one -/
theorem StdK.with_ts {S : Std} {D DP j E m : Nat} {us : List Tkt} (h : StdK S D DP j) (e0 : 0 < E) (e1 : E ≤ 2 ^ 40) (hu : ∀ t ∈ us, TkK S.cs (D * E) (2 ^ (20 + (j + 1))) t ∧ t.l < S.ps.length ∧ t.s < S.ps.length) (nn : StdN ⟨S.cs, S.rs, S.ps, us, S.bs, m⟩) (n : us.length ≤ 12) : StdK ⟨S.cs, S.rs, S.ps, us, S.bs, m⟩ (D * E) DP (j + 1) := ⟨h.h, h.ls, h.w, h.p2, h.p6, hu, nn, Nat.mul_pos h.d0 e0, by
  refine Nat.lt_of_lt_of_le (Nat.mul_lt_mul_of_lt_of_le h.d e1 (by decide)) ?_
  rw [← Nat.pow_add]
  exact Nat.pow_le_pow_right (by decide) (by omega), h.dp0, h.dp, h.pz, n, h.b, h.bl⟩
theorem lt_part {k c : Int × Nat} (hk : Fr k) (hc : Fr c) (k0 : 0 < k.1) : ltF (mulF k c) k = decide (c.1 < (c.2 : Int)) := by
  have f1 : Fr ((1, 1) : Int × Nat) := ⟨by decide, by decide⟩
  have fm : Fr (mulF k c) := hk.mul hc
  have e1 : ltF (mulF k c) k = true ↔ ql (mulF k c) < ql k := by
    unfold ltF
    rw [decide_eq_true_eq]
    exact (ql_lt fm hk).symm
  have e2 : (c.1 < (c.2 : Int)) ↔ ql c < ql (1, 1) := by
    rw [ql_lt hc f1]
    show _ ↔ c.1 * ((1 : Nat) : Int) < 1 * (c.2 : Int)
    omega
  have k1 : 0 < ql k := (ql_pos hk).mpr k0
  have q1 : ql ((1, 1) : Int × Nat) = 1 := by
    unfold ql
    decide +kernel
  rw [q1] at e2
  rw [ql_mul hk.pos hc.pos] at e1
  by_cases h : c.1 < (c.2 : Int)
  · rw [decide_eq_true h, e1]
    have := e2.mp h
    have : 0 < ql k * (1 - ql c) := Rat.mul_pos k1 (by grind)
    grind
  · rw [decide_eq_false h, Bool.eq_false_iff, Ne, e1]
    have : ¬ ql c < 1 := fun z => h (e2.mpr z)
    have : 0 ≤ ql k * (ql c - 1) := Rat.mul_nonneg (Rat.le_of_lt k1) (by grind)
    grind
theorem sub_pos {x k : Int × Nat} (fx : Fr x) (fk : Fr k) (h : ltF x k = true) : 0 < (subF k x).1 := by
  have : ql x < ql k := (ql_lt fx fk).mpr (of_decide_eq_true h)
  have f : Fr (subF k x) := fk.add fx.neg
  refine (ql_pos f).mp ?_
  rw [ql_sub fk fx]
  grind
theorem add_pos {x k : Int × Nat} (fx : Fr x) (fk : Fr k) (h : 0 < x.1) (h' : 0 < k.1) : 0 < (addF x k).1 := by
  have a := (ql_pos fx).mpr h
  have b := (ql_pos fk).mpr h'
  refine (ql_pos (fx.add fk)).mp ?_
  rw [ql_add fx.pos fk.pos]
  grind
theorem wz_split {v : Nat → Bool} {h : Nat} {t : Tkt} {x : Int × Nat} {m : Nat} (fk : Fr t.k) (fx : Fr x) : wzF v h ⟨t.n, t.l, t.s, t.b, subF t.k x⟩ + wzF v h ⟨m, t.l, t.s, t.b, x⟩ = wzF v h t := by
  unfold wzF
  rw [ql_sub fk fx]
  grind
theorem StdK.split {S : Std} {D DP j i : Nat} {t : Tkt} {x : Int × Nat} {E : Nat} (h : StdK S D DP j) (ht : S.ts[i]? = some t) (e0 : 0 < E) (e1 : E ≤ 2 ^ 40) (fx : Fb (D * E) (2 ^ (20 + j)) x) (x0 : 0 < x.1) (lt : ltF x t.k = true) (n : S.ts.length + 1 ≤ 12) : StdK (S.split t x) (D * E) DP (j + 1) ∧ ∀ v h p, Fr p → oneF v h p (S.split t x).ts = oneF v h p S.ts := by
  have hm := List.mem_of_getElem? ht
  obtain ⟨tk, tl, tsd⟩ := h.t t hm
  have ft := tk.k.up (E := D * E) (Nat.dvd_mul_right ..) (Nat.le_refl _)
  have lg : 2 ^ (20 + j) + 2 ^ (20 + j) = 2 ^ (20 + (j + 1)) := by rw [show 20 + (j + 1) = 20 + j + 1 by omega, Nat.pow_succ]; omega
  have rest : Fb (D * E) (2 ^ (20 + (j + 1))) (subF t.k x) := (ft.add fx.neg (Nat.mul_pos h.d0 e0)).up (Nat.dvd_refl _) (Nat.le_of_eq lg)
  have all : ∀ y ∈ (S.split t x).ts, TkK S.cs (D * E) (2 ^ (20 + (j + 1))) y ∧ y.l < S.ps.length ∧ y.s < S.ps.length := fun y hy => by
    rcases List.mem_append.mp (show y ∈ (S.ts.map fun y => if y.n = t.n then (⟨t.n, t.l, t.s, t.b, subF t.k x⟩ : Tkt) else y) ++ [⟨S.m, t.l, t.s, t.b, x⟩] from hy) with z | z
    · obtain ⟨y', hy', e⟩ := List.mem_map.mp z
      split at e
      · rw [← e]
        exact ⟨⟨tk.b, tk.p, rest, sub_pos fx.f tk.k.f lt⟩, tl, tsd⟩
      · rw [← e]
        exact ⟨(h.t y' hy').1.up (Nat.dvd_mul_right ..) (Nat.pow_le_pow_right (by decide) (by omega)), (h.t y' hy').2⟩
    · rw [List.mem_singleton.mp z]
      exact ⟨⟨tk.b, tk.p, fx.up (Nat.dvd_refl _) (Nat.pow_le_pow_right (by decide) (by omega)), x0⟩, tl, tsd⟩
  have nn : StdN (S.split t x) := by
    have nm : ∀ y : Tkt, (if y.n = t.n then (⟨t.n, t.l, t.s, t.b, subF t.k x⟩ : Tkt) else y).n = y.n := fun y => by
      split
      · rename_i e
        exact e.symm
      · rfl
    refine ⟨List.pairwise_append.mpr ⟨List.pairwise_map.mpr (h.nn.r.imp fun {a b} r => by rw [nm, nm]; exact r), List.pairwise_singleton _ _, fun y hy z hz => ?_⟩, fun y hy => ?_⟩
    · obtain ⟨y', hy', e⟩ := List.mem_map.mp hy
      rw [← e, nm, List.mem_singleton.mp hz]
      exact (h.nn.t y' hy').1
    · show y.n < S.m + 1 ∧ _
      rcases List.mem_append.mp (show y ∈ (S.ts.map fun y => if y.n = t.n then (⟨t.n, t.l, t.s, t.b, subF t.k x⟩ : Tkt) else y) ++ [⟨S.m, t.l, t.s, t.b, x⟩] from hy) with z | z
      · obtain ⟨y', hy', e⟩ := List.mem_map.mp z
        have := (h.nn.t y' hy')
        split at e
        · rw [← e]
          have := h.nn.t t hm
          exact ⟨by show t.n < _; omega, this.2⟩
        · rw [← e]
          exact ⟨by omega, this.2⟩
      · rw [List.mem_singleton.mp z]
        exact ⟨by show S.m < _; omega, (h.nn.t t hm).2⟩
  refine ⟨h.with_ts e0 e1 all nn (by rw [List.length_append, List.length_map]; exact n), fun v hh p fp => ?_⟩
  refine one_same fp (fun y hy => (all y hy).1.fr v) (fun y hy => (h.t y hy).1.fr v) ?_
  have ec := cut_at ht
  show (((S.ts.map fun y : Tkt => if y.n = t.n then (⟨t.n, t.l, t.s, t.b, subF t.k x⟩ : Tkt) else y) ++ [(⟨S.m, t.l, t.s, t.b, x⟩ : Tkt)]).map (wzF v hh)).sum = _
  rw [rep_at (r := ⟨t.n, t.l, t.s, t.b, subF t.k x⟩) ht h.nn.r rfl]
  have e2 : (S.ts.map (wzF v hh)).sum = ((S.ts.take i).map (wzF v hh)).sum + (wzF v hh t + ((S.ts.drop (i + 1)).map (wzF v hh)).sum) := by
    rw [← List.sum_cons, ← List.map_cons, ← List.sum_append, ← List.map_append, ← ec]
  rw [e2, ← wz_split (m := S.m) tk.k.f fx.f]
  simp only [List.map_append, List.sum_append, List.map_cons, List.map_nil, List.sum_cons, List.sum_nil]
  grind
end B
namespace B
open PySem PySem.Spec PyProof.Rows L2
theorem net_at {ts : List Tkt} {i j : Nat} {t u : Tkt} {o : Option Tkt} (hi : ts[i]? = some t) (hj : ts[j]? = some u) (lt : i < j) (p : ts.Pairwise (fun a b => a.n < b.n)) (ho : ∀ r, o = some r → r.n = t.n) : netL ts t u o = (ts.take j ++ ts.drop (j + 1)).take i ++ o.toList ++ (ts.take j ++ ts.drop (j + 1)).drop (i + 1) ∧ (ts.take j ++ ts.drop (j + 1))[i]? = some t ∧ (ts.take j ++ ts.drop (j + 1)).Pairwise (fun a b => a.n < b.n) := by
  have lj := (List.getElem?_eq_some_iff.mp hj).1
  have hL : (ts.take j ++ ts.drop (j + 1))[i]? = some t := by
    rw [List.getElem?_append_left (by rw [List.length_take]; omega), List.getElem?_take_of_lt lt]
    exact hi
  have eo := out_at hj p
  have pL : (ts.take j ++ ts.drop (j + 1)).Pairwise (fun a b => a.n < b.n) := by
    rw [← eo]
    exact p.sublist List.filter_sublist
  refine ⟨?_, hL, pL⟩
  cases o with
  | none =>
    show (ts.filter fun x => !decide (x.n ∈ [t.n, u.n])) = _
    have : (ts.filter fun x => !decide (x.n ∈ [t.n, u.n])) = (ts.filter fun x => !decide (x.n ∈ [u.n])).filter fun x => !decide (x.n ∈ [t.n]) := by
      rw [List.filter_filter]
      refine List.filter_congr fun x _ => ?_
      simp only [List.mem_cons, List.not_mem_nil, or_false]
      by_cases a : x.n = t.n <;> by_cases b : x.n = u.n <;> simp [a, b]
    rw [this, eo, out_at hL pL, Option.toList_none, List.append_nil]
  | some r =>
    show ((ts.filter fun x => !decide (x.n ∈ [u.n])).map fun x => if x.n = r.n then r else x) = _
    rw [eo, rep_at hL pL (ho r rfl)]
    rfl
theorem wz_rest {v : Nat → Bool} {h : Nat} {t u : Tkt} (lk : LikeT t u) (ft : Fr t.k) (fu : Fr u.k) (nl : t.l ≠ t.s) : ((restF t u).toList.map (wzF v h)).sum = wzF v h t + wzF v h u := by
  obtain ⟨eb, sd⟩ := lk
  unfold restF
  by_cases c1 : t.l = u.l
  · rw [if_pos c1]
    have e2 : u.s = t.s := by omega
    show wzF v h _ + 0 = _
    unfold wzF
    rw [ql_add ft.pos fu.pos, ← eb, ← c1, e2]
    grind
  · rw [if_neg c1]
    have e1 : u.l = t.s := by omega
    have e2 : u.s = t.l := by omega
    by_cases c2 : t.k = u.k
    · rw [if_pos c2]
      show (0 : Rat) = _
      unfold wzF
      rw [← eb, e1, e2, ← c2]
      grind
    · rw [if_neg c2]
      by_cases c3 : ltF u.k t.k = true
      · rw [if_pos c3]
        show wzF v h _ + 0 = _
        unfold wzF
        rw [ql_sub ft fu, ← eb, e1, e2]
        grind
      · rw [if_neg c3]
        show wzF v h _ + 0 = _
        unfold wzF
        rw [ql_sub fu ft, ← eb, e1, e2]
        grind
theorem rest_k {cs : List Nat} {D N n : Nat} {t u r : Tkt} (d0 : 0 < D) (ht : TkK cs D N t ∧ t.l < n ∧ t.s < n) (hu : TkK cs D N u ∧ u.l < n ∧ u.s < n) (h : restF t u = some r) : TkK cs D (N + N) r ∧ r.l < n ∧ r.s < n := by
  obtain ⟨tk, tl, ts⟩ := ht
  obtain ⟨uk, ul, us⟩ := hu
  unfold restF at h
  split at h
  · injection h with h
    rw [← h]
    exact ⟨⟨tk.b, tk.p, tk.k.add uk.k d0, add_pos tk.k.f uk.k.f tk.k0 uk.k0⟩, tl, ts⟩
  · split at h
    · cases h
    · rename_i ne
      split at h
      · rename_i c3
        injection h with h
        rw [← h]
        exact ⟨⟨tk.b, tk.p, tk.k.add uk.k.neg d0, sub_pos uk.k.f tk.k.f c3⟩, tl, ts⟩
      · rename_i c3
        injection h with h
        rw [← h]
        refine ⟨⟨uk.b, uk.p, uk.k.add tk.k.neg d0, sub_pos tk.k.f uk.k.f ?_⟩, ul, us⟩
        have n1 : ¬ ql u.k < ql t.k := fun z => c3 (decide_eq_true ((ql_lt uk.k.f tk.k.f).mp z))
        have n2 : ql t.k ≠ ql u.k := fun z => ne (ql_inj tk.k.f uk.k.f z)
        exact decide_eq_true ((ql_lt tk.k.f uk.k.f).mp (by grind))
theorem rest_s {t u r : Tkt} (nt : t.l ≠ t.s) (nu : u.l ≠ u.s) (h : restF t u = some r) : r.l ≠ r.s := by
  unfold restF at h
  split at h
  · injection h with h; rw [← h]; exact nt
  split at h
  · cases h
  split at h
  · injection h with h; rw [← h]; exact nt
  · injection h with h; rw [← h]; exact nu
theorem StdK.net {S : Std} {D DP k i j : Nat} {t u : Tkt} (h : StdK S D DP k) (hi : S.ts[i]? = some t) (hj : S.ts[j]? = some u) (lt : i < j) (lk : LikeT t u) : StdK (S.net t u) D DP (k + 1) ∧ (∀ v h p, Fr p → oneF v h p (S.net t u).ts = oneF v h p S.ts) ∧ (S.net t u).ts = (S.ts.take j ++ S.ts.drop (j + 1)).take i ++ (restF t u).toList ++ (S.ts.take j ++ S.ts.drop (j + 1)).drop (i + 1) := by
  have hm := List.mem_of_getElem? hi
  have hm2 := List.mem_of_getElem? hj
  obtain ⟨en, hL, pL⟩ := net_at (o := restF t u) hi hj lt h.nn.r fun r e => rest_n e
  have en : (S.net t u).ts = _ := en
  have lg : 2 ^ (20 + k) + 2 ^ (20 + k) = 2 ^ (20 + (k + 1)) := by rw [show 20 + (k + 1) = 20 + k + 1 by omega, Nat.pow_succ]; omega
  have lj := (List.getElem?_eq_some_iff.mp hj).1
  have memL : ∀ x ∈ S.ts.take j ++ S.ts.drop (j + 1), x ∈ S.ts := fun x hx => by
    rcases List.mem_append.mp hx with z | z
    · exact List.mem_of_mem_take z
    · exact List.mem_of_mem_drop z
  have cas : ∀ y ∈ (S.net t u).ts, y ∈ S.ts ∨ restF t u = some y := fun y hy => by
    rw [en] at hy
    rcases List.mem_append.mp hy with z | z
    · rcases List.mem_append.mp z with z | z
      · exact .inl (memL y (List.mem_of_mem_take z))
      · exact .inr (by simpa using z)
    · exact .inl (memL y (List.mem_of_mem_drop z))
  have all : ∀ y ∈ (S.net t u).ts, TkK S.cs (D * 1) (2 ^ (20 + (k + 1))) y ∧ y.l < S.ps.length ∧ y.s < S.ps.length := fun y hy => by
    rw [Nat.mul_one]
    rcases cas y hy with z | z
    · exact ⟨(h.t y z).1.up (Nat.dvd_refl _) (Nat.pow_le_pow_right (by decide) (by omega)), (h.t y z).2⟩
    · rw [← lg]
      exact rest_k h.d0 (h.t t hm) (h.t u hm2) z
  have nn : StdN (S.net t u) := by
    refine ⟨?_, fun y hy => ?_⟩
    · show (netL S.ts t u (restF t u)).Pairwise _
      cases e : restF t u with
      | none => exact h.nn.r.sublist List.filter_sublist
      | some r =>
        have nm : ∀ y : Tkt, (if y.n = r.n then r else y).n = y.n := fun y => by
          split
          · rename_i e
            exact e.symm
          · rfl
        exact List.pairwise_map.mpr ((h.nn.r.sublist List.filter_sublist).imp fun {a b} z => by rw [nm, nm]; exact z)
    · show y.n < S.m ∧ _
      rcases cas y hy with z | z
      · exact h.nn.t y z
      · refine ⟨by rw [rest_n z]; exact (h.nn.t t hm).1, rest_s (h.nn.t t hm).2 (h.nn.t u hm2).2 z⟩
  have ln : (S.net t u).ts.length ≤ 12 := by
    have n := h.n
    show (netL S.ts t u (restF t u)).length ≤ 12
    cases e : restF t u with
    | none => exact Nat.le_trans (List.length_filter_le ..) n
    | some r =>
      show (List.map _ _).length ≤ 12
      rw [List.length_map]
      exact Nat.le_trans (List.length_filter_le ..) n
  have st := h.with_ts (E := 1) (m := S.m) (by decide) (by decide) all nn ln
  rw [Nat.mul_one] at st
  refine ⟨st, fun v hh p fp => one_same fp (fun y hy => (all y hy).1.fr v) (fun y hy => (h.t y hy).1.fr v) ?_, en⟩
  have sum2 : ∀ {X : List Tkt} {a : Nat} {w : Tkt}, X[a]? = some w → (X.map (wzF v hh)).sum = ((X.take a).map (wzF v hh)).sum + (wzF v hh w + ((X.drop (a + 1)).map (wzF v hh)).sum) := fun {X a w} e => by
    rw [← List.sum_cons, ← List.map_cons, ← List.sum_append, ← List.map_append, ← cut_at e]
  have e1 := sum2 hj
  have e2 := sum2 hL
  have e3 : ((S.ts.take j ++ S.ts.drop (j + 1)).map (wzF v hh)).sum = ((S.ts.take j).map (wzF v hh)).sum + ((S.ts.drop (j + 1)).map (wzF v hh)).sum := by rw [List.map_append, List.sum_append]
  have e4 := wz_rest (v := v) (h := hh) lk (h.t t hm).1.k.f (h.t u hm2).1.k.f (h.nn.t t hm).2
  rw [en]
  rw [List.map_append, List.map_append, List.sum_append, List.sum_append, e4]
  grind
end B
namespace B
open PySem PySem.Spec PyProof.Rows L2
/-- another stand in which all have the same -/
def SameW (S S' : Std) : Prop := S'.cs = S.cs ∧ S'.rs = S.rs ∧ S'.ps = S.ps ∧ ∀ v h p, Fr p → oneF v h p S'.ts = oneF v h p S.ts
/-- what is due: told, and the stand behind -/
def DueV (K : PySem.W.Frag) (H : Hp) (S : Std) (DP j : Nat) (v2 : V) : Prop := v2 = .non ∨ ∃ (sp : Addr) (S' : Std) (D' : Nat), v2 = .ref sp ∧ StdAt K H sp S' ∧ StdK S' D' DP (j + 1) ∧ SameW S S'
theorem DueV.mono {K : PySem.W.Frag} {H H' : Hp} {S : Std} {DP j : Nat} {v2 : V} (k : Tk K H H') (h : DueV K H S DP j v2) : DueV K H' S DP j v2 := by
  rcases h with h | ⟨sp, S', D', e, a, b, c⟩
  · exact .inl h
  · exact .inr ⟨sp, S', D', e, a.mono k, b, c⟩
end B
namespace B
open PySem PySem.Spec PyProof.Rows L2
theorem dpAll_off {K : PySem.W.Frag} {H : Hp} {g : Nat → PyData} : ∀ (xs : List V) (k : Nat), (∀ i v, xs[i]? = some v → Dp K H v (g (k + i))) → DpAll K H xs ((List.range' k xs.length).map g)
  | [], _, _ => .nil
  | x :: r, k, h => by
    show DpAll K H (x :: r) ((List.range' k (r.length + 1)).map g)
    rw [List.range'_succ, List.map_cons]
    exact .cons (h 0 x rfl) (dpAll_off r (k + 1) fun i v e => by
      have := h (i + 1) v e
      rw [show k + (i + 1) = k + 1 + i by omega] at this
      exact this)
def gdD (n m : Nat) (f : Nat → Nat → Int × Nat) : PyData := .list ((List.range n).map fun i => .list (((List.range m).map (f i)).map fdat))
theorem grid_dp {K : PySem.W.Frag} {G0 H : Hp} {L : Addr} {n m : Nat} {f : Nat → Nat → Int × Nat} (g : Grid K G0 H L n m f) : Dp K H (.ref L) (gdD n m f) := by
  obtain ⟨rows, hL, hn, hr⟩ := g.row
  have := dpAll_off (K := K) (H := H) (g := fun i => PyData.list (((List.range m).map (f i)).map fdat)) rows 0 fun i v e => by
    obtain ⟨a, us, rfl, ha, _, fu⟩ := hr i v e
    rw [Nat.zero_add]
    exact .lst (.inl (.inl ha)) (F2.dp (fun _ _ z => z.dp) fu)
  rw [hn, ← List.range_eq_range'] at this
  exact .lst (.inl (.inl hL)) this
theorem gd_lyd (n m : Nat) (f : Nat → Nat → Int × Nat) : Lyd 3 (gdD n m f) := Lyd.lst fun d hd => by
  obtain ⟨i, _, rfl⟩ := List.mem_map.mp hd
  refine Lyd.lst fun d hd => ?_
  obtain ⟨p, _, rfl⟩ := List.mem_map.mp hd
  exact fdat_lyd p
theorem gd_congr {n m : Nat} {f f' : Nat → Nat → Int × Nat} (h : ∀ i j, f i j = f' i j) : gdD n m f = gdD n m f' := by
  have : f = f' := funext fun i => funext fun j => h i j
  rw [this]
end B
namespace B
open PySem PySem.Spec PyProof.Rows L2
end B
namespace B
open PySem PySem.Spec PyProof.Rows L2

def sp_is_number (K : PySem.W.Frag) : Sp := fun vs H Q _ => ∃ (v : V) (d : PyData), vs = [v] ∧ Th K H v d ∧ Q (.bl (isN d)) H

section
variable {P : Program} {w : World} {K : PySem.W.Frag} {mg : Str → Option Value} {base : Heap}
theorem ok_is_number (T : Tx K mg w) (U : Unl P base) : FnOk P w K mg base CX0 35 T.is_number.f T.is_number.fd ["thing"] (sp_is_number K) := by
  refine T.is_number.F.ok sc_is_number (fun vs H Q E h => ?_) (fun cdv A outer s H vs Q E hr h => ?_)
  · obtain ⟨v, d, rfl, hT, q⟩ := h
    rfl
  · obtain ⟨v, d, rfl, hT, q⟩ := h
    refine ⟨_, (pss_one (ps_ret (pe_and (pe_callB call_isi (by rfl) T.m_isinstance (by decide +kernel) (pa_cons (pv 0) (pa_cons (pe_bltn (v := .ty "int") (u := .type "int") (by rfl) T.m_int (by decide +kernel) rfl) pa_nil))) (pe_one (pe_not (pe_callB call_isi (by rfl) T.m_isinstance (by decide +kernel) (pa_cons (pv 0) (pa_cons (pe_bltn (v := .ty "bool") (u := .type "bool") (by rfl) T.m_bool (by decide +kernel) rfl) pa_nil)))))))), ?_⟩
    refine ⟨_, rfl, _, .ty "int", .type (tyN d), .type "int", isN d || isB d, rfl, .ty _, hT.ty, kit_ty (kit_int d), _, rfl, ?_⟩
    cases e : (isN d || isB d) with
    | false =>
      have e1 : isN d = false := (Bool.or_eq_false_iff.mp e).1
      rw [e1] at q
      exact iteF q
    | true =>
      refine iteT ⟨_, rfl, _, .ty "bool", .type (tyN d), .type "bool", isB d, rfl, .ty _, hT.ty, kit_ty (kit_bool d), _, rfl, ?_⟩
      have : (!isB d) = isN d := by
        cases d <;> first | rfl | cases e
      rw [this]
      exact q
end
end B

namespace B
open PySem PySem.Spec PyProof.Rows L2

def sp_is_row (K : PySem.W.Frag) : Sp := fun vs H Q _ => ∃ (v : V) (d : PyData) (lo hi : Int), vs = [v, .int lo, .int hi] ∧ Th K H v d ∧ Q (.bl (rowD lo hi d)) H

section
variable {P : Program} {w : World} {K : PySem.W.Frag} {mg : Str → Option Value} {base : Heap}
theorem ok_is_row (T : Tx K mg w) (U : Unl P base) : FnOk P w K mg base CX0 35 T.is_row.f T.is_row.fd ["thing", "least", "most"] (sp_is_row K) := by
  refine T.is_row.F.ok sc_is_row (fun vs H Q E h => ?_) (fun cdv A outer s H vs Q E hr h => ?_)
  · obtain ⟨v, d, lo, hi, rfl, hT, q⟩ := h
    rfl
  · obtain ⟨v, d, lo, hi, rfl, hT, q⟩ := h
    refine ⟨_, (pss_one (ps_ret (pe_and (pe_callB call_isi (by rfl) T.m_isinstance (by decide +kernel) (pa_cons (pv 0) (pa_cons (pe_bltn (v := .ty "tuple") (u := .type "tuple") (by rfl) T.m_tuple (by decide +kernel) rfl) pa_nil))) (pe_one (pe_chain op_le op_le (pv 1) (pe_callB call_len_seq (by rfl) T.m_len (by decide +kernel) (pa_cons (pv 0) pa_nil)) (pv 2)))))), ?_⟩
    refine ⟨_, rfl, _, .ty "tuple", .type (tyN d), .type "tuple", isT d, rfl, .ty _, hT.ty, kit_ty (kit_tup d), _, rfl, ?_⟩
    cases hT with
    | tup tA al =>
      rename_i a xs ds
      have el := al.len
      refine iteT ⟨_, rfl, _, rfl, a, xs, rfl, .inr tA, _, _, rfl, rfl, _, rfl, ?_⟩
      have q : Q (.bl (decide (lo ≤ (ds.length : Int)) && decide ((ds.length : Int) ≤ hi))) H := q
      rw [← el] at q
      cases e : decide (lo ≤ (xs.length : Int)) with
      | true =>
        rw [e, Bool.true_and] at q
        exact iteT ⟨_, rfl, _, _, rfl, rfl, q⟩
      | false =>
        rw [e, Bool.false_and] at q
        exact iteF q
    | _ => exact iteF q
end
end B

namespace B
open PySem PySem.Spec PyProof.Rows L2

/-- common(a, b) of numbers from 0 on -/
def sp_common (_ : PySem.W.Frag) : Sp := fun vs H Q _ => ∃ (a b : Nat), vs = [.int a, .int b] ∧ Q (.int (Nat.gcd a b : Nat)) H

section
variable {P : Program} {w : World} {K : PySem.W.Frag} {mg : Str → Option Value} {base : Heap}
theorem ok_common (T : Tx K mg w) (U : Unl P base) : FnOk P w K mg base CX0 35 T.common.f T.common.fd ["one", "other"] (sp_common K) := by
  refine T.common.F.ok sc_common (fun vs H Q E h => ?_) (fun cdv A outer s H vs Q E hr h => ?_)
  · obtain ⟨a, b, rfl, q⟩ := h
    rfl
  · obtain ⟨a, b, rfl, q⟩ := h
    refine ⟨_, (pss_cons (ps_while PassesOwn.never (pt_cmpR op_gt (pv 1) pe_int (nomark _)) (pss_one (ps_par (i := 0) (j := 1) (by rfl) sc_common.nd rfl rfl (by decide) rfl rfl (pa_cons (pv 1) (pa_cons (pe_op op_mod (pv 0) (pv 1)) pa_nil)) (by rfl))))
      (pss_one (ps_ret (pv 0)))), ?_⟩
    refine ⟨fun m σ H' => ∃ x y : Nat, σ = [some (.int x), some (.int y)] ∧ Nat.gcd x y = Nat.gcd a b ∧ H' = H ∧ m = y, ⟨b, a, b, rfl, rfl, rfl, rfl⟩, fun m σ H' hW => ?_⟩
    obtain ⟨x, y, rfl, eg, rfl, rfl⟩ := hW
    refine ⟨_, rfl, _, _, rfl, rfl, _, rfl, ite2 (fun e => ?_) (fun e => ?_)⟩
    · have hy : 0 < m := by
        have := of_decide_eq_true e
        omega
      refine ⟨fun σ' H2 => σ' = [some (.int m), some (.int (x % m : Nat))] ∧ H2 = H', fun σ' H2 hN => ?_, ?_⟩
      · obtain ⟨rfl, rfl⟩ := hN
        exact ⟨x % m, Nat.mod_lt _ hy, m, x % m, rfl, by rw [← eg, Nat.gcd_comm m, ← Nat.gcd_rec, Nat.gcd_comm], rfl, rfl⟩
      · refine ⟨_, rfl, _, rfl, _, rfl, _, _, rfl, rfl, (by show (0 : Int) < m; omega), _, _, rfl, ?_⟩
        exact ⟨rfl, rfl⟩
    · have hy : m = 0 := by
        have : ¬ (0 : Int) < m := fun z => e (decide_eq_true z)
        omega
      subst hy
      refine ⟨_, rfl, ?_⟩
      rw [Nat.gcd_zero_right] at eg
      rw [eg]
      exact q
end
end B

namespace B
open PySem PySem.Spec PyProof.Rows L2

def sp_turned_about (K : PySem.W.Frag) : Sp := fun vs H Q _ => ∃ (a : Addr) (t : Int) (b : Nat), vs = [.ref a] ∧ SqT K H a [.int t, .int b] ∧ ∀ p, H p = none → Q (.ref p) (upd H p (.tup [.int (-t), .int b]))

section
variable {P : Program} {w : World} {K : PySem.W.Frag} {mg : Str → Option Value} {base : Heap}
theorem ok_turned_about (T : Tx K mg w) (U : Unl P base) : FnOk P w K mg base CX0 35 T.turned_about.f T.turned_about.fd ["one"] (sp_turned_about K) := by
  refine T.turned_about.F.ok sc_turned_about (fun vs H Q E h => ?_) (fun cdv A outer s H vs Q E hr h => ?_)
  · obtain ⟨a, t, b, rfl, hA, q⟩ := h
    rfl
  · obtain ⟨a, t, b, rfl, hA, q⟩ := h
    refine ⟨_, (pss_one (ps_ret (pe_tup (pa_cons (pe_un un_neg (pe_ix ix_tup (pv 0) pe_int (fun _ _ => rfl))) (pa_cons (pe_ix ix_tup (pv 0) pe_int (fun _ _ => rfl)) pa_nil))))), ?_⟩
    exact ⟨_, rfl, a, _, 0, .int t, rfl, rfl, hA, rfl, _, rfl, _, rfl, a, _, 1, .int b, rfl, rfl, hA, rfl, by show 2 ≤ sizeLine; decide, q⟩
end
end B

namespace B
open PySem PySem.Spec PyProof.Rows L2

def sp_less (K : PySem.W.Frag) : Sp := fun vs H Q _ => ∃ (a c : Addr) (t1 t2 : Int) (b1 b2 : Nat), vs = [.ref a, .ref c] ∧ SqT K H a [.int t1, .int b1] ∧ SqT K H c [.int t2, .int b2] ∧ Fz t1 b1 400000 ∧ Fz t2 b2 400000 ∧ Q (.bl (decide (t1 * (b2 : Int) < t2 * (b1 : Int)))) H

section
variable {P : Program} {w : World} {K : PySem.W.Frag} {mg : Str → Option Value} {base : Heap}
theorem ok_less (T : Tx K mg w) (U : Unl P base) : FnOk P w K mg base CX0 35 T.less.f T.less.fd ["one", "other"] (sp_less K) := by
  refine T.less.F.ok sc_less (fun vs H Q E h => ?_) (fun cdv A outer s H vs Q E hr h => ?_)
  · obtain ⟨a, c, t1, t2, b1, b2, rfl, hA, hC, z1, z2, q⟩ := h
    rfl
  · obtain ⟨a, c, t1, t2, b1, b2, rfl, hA, hC, z1, z2, q⟩ := h
    refine ⟨_, (pss_one (ps_ret (pe_cmpR op_lt (pe_op op_mulW (pe_ix ix_tup (pv 0) pe_int (fun _ _ => rfl)) (pe_ix ix_tup (pv 1) pe_int (fun _ _ => rfl))) (pe_op op_mulW (pe_ix ix_tup (pv 1) pe_int (fun _ _ => rfl)) (pe_ix ix_tup (pv 0) pe_int (fun _ _ => rfl))) (nomark _)))), ?_⟩
    have W : ∀ {x : Nat}, x < 2 ^ 400000 → (x : Int).natAbs < 2 ^ 400000 := fun h => by
      rw [Int.natAbs_natCast]
      exact h
    exact ⟨_, rfl, a, _, 0, .int t1, rfl, rfl, hA, rfl, _, rfl, c, _, 1, .int b2, rfl, rfl, hC, rfl, _, _, rfl, rfl, wide_mul z1.t (W z2.b) (by decide) (by decide) (by decide), _, rfl, c, _, 0, .int t2, rfl, rfl, hC, rfl, _, rfl, a, _, 1, .int b1, rfl, rfl, hA, rfl, _, _, rfl, rfl, wide_mul z2.t (W z1.b) (by decide) (by decide) (by decide), _, _, rfl, rfl, q⟩
end
end B

namespace B
open PySem PySem.Spec PyProof.Rows L2

def sp_with_stake (K : PySem.W.Frag) : Sp := fun vs H Q _ => ∃ (a : Addr) (v0 v1 v2 v3 v4 v5 v : V), vs = [.ref a, v] ∧ SqT K H a [v0, v1, v2, v3, v4, v5] ∧ ∀ (H' : Hp) (r : Addr), SqT K H' r [v0, v1, v2, v3, v4, v] → Same H H' → Q (.ref r) H'

section
variable {P : Program} {w : World} {K : PySem.W.Frag} {mg : Str → Option Value} {base : Heap}
theorem ok_with_stake (T : Tx K mg w) (U : Unl P base) : FnOk P w K mg base CX0 35 T.with_stake.f T.with_stake.fd ["ticket", "stake"] (sp_with_stake K) := by
  refine T.with_stake.F.ok sc_with_stake (fun vs H Q E h => ?_) (fun cdv A outer s H vs Q E hr h => ?_)
  · obtain ⟨a, v0, v1, v2, v3, v4, v5, v, rfl, tA, q⟩ := h
    rfl
  · obtain ⟨a, v0, v1, v2, v3, v4, v5, v, rfl, tA, q⟩ := h
    refine ⟨_, (pss_one (ps_ret (pe_op op_catS (pe_slice sl_tupS (pv 0) po_none (po_some pe_int)) (pe_tup (pa_cons (pv 1) pa_nil))))), ?_⟩
    refine ⟨_, rfl, 5, rfl, a, _, rfl, tA, fun c1 H1 t1 s1 => ?_⟩
    have t1 : SqT K H1 c1 [v0, v1, v2, v3, v4] := t1
    refine ⟨_, rfl, by show 1 ≤ sizeLine; decide, fun c2 n2 => ?_⟩
    have s2 := same_upd (o := .tup [v]) n2
    exact ⟨c1, c2, _, _, rfl, rfl, Same.tup s2 t1, sqt_upd, by show 6 ≤ 100000; decide, fun c3 H3 t3 s3 => q _ c3 t3 (s1.trans (s2.trans s3))⟩
end
end B

namespace B
open PySem PySem.Spec PyProof.Rows L2
theorem any_iv (n : Nat) : ∀ ns : List Nat, ((ns.map fun k : Nat => PyData.int (k : Int)).any fun z => PyData.eqv z (.int (n : Int))) = decide (n ∈ ns)
  | [] => by simp
  | k :: r => by
    rw [List.map_cons, List.any_cons, any_iv n r]
    have e : PyData.eqv (.int (k : Int)) (.int (n : Int)) = decide (k = n) := by
      have e1 : PyData.eqv (.int (k : Int)) (.int (n : Int)) = decide ((k : Int) = (n : Int)) := by
        first
          | rfl
          | simp [PyData.eqv]
      rw [e1]
      exact decide_eq_decide.mpr (by omega)
    rw [e]
    by_cases c : k = n
    · subst c
      simp
    · rw [decide_eq_false c, Bool.false_or]
      exact decide_eq_decide.mpr ⟨fun h => List.mem_cons_of_mem _ h, fun h => (List.mem_cons.mp h).resolve_left fun z => c z.symm⟩
theorem fmf (p : Tkt → Bool) : ∀ l : List Tkt, (l.filterMap fun x => if p x = true then some x else none) = l.filter p
  | [] => rfl
  | x :: r => by
    rw [List.filterMap_cons, List.filter_cons, fmf p r]
    by_cases e : p x = true
    · rw [if_pos e, if_pos e]
    · rw [if_neg e, if_neg e]

def sp_without (K : PySem.W.Frag) : Sp := fun vs H Q _ => ∃ (a b : Addr) (tvs : List V) (tks : List Tkt) (ns : List Nat), vs = [.ref a, .ref b] ∧ SqT K H a tvs ∧ F2 (TkAt K H) tvs tks ∧ tks.length ≤ 100 ∧ H b = some (.lst (ns.map iv)) ∧ ∀ (H' : Hp) (p : Addr) (us : List V), SqT K H' p us → F2 (TkAt K H') us (tks.filter fun x => !decide (x.n ∈ ns)) → Same H H' → Q (.ref p) H'

section
variable {P : Program} {w : World} {K : PySem.W.Frag} {mg : Str → Option Value} {base : Heap}
theorem ok_without (T : Tx K mg w) (U : Unl P base) : FnOk P w K mg base CX0 35 T.without.f T.without.fd ["tickets", "gone"] (sp_without K) := by
  refine T.without.F.ok sc_without (fun vs H Q E h => ?_) (fun cdv A outer s H vs Q E hr h => ?_)
  · obtain ⟨a, b, tvs, tks, ns, rfl, tA, fA, l100, hB, q⟩ := h
    rfl
  · obtain ⟨a, b, tvs, tks, ns, rfl, tA, fA, l100, hB, q⟩ := h
    refine ⟨_, (pss_one (ps_ret (pe_callTy call_tuple_of (by rfl) T.m_tuple (by decide +kernel) (pa_cons (pe_lc (own := [("ticket", 2)]) (g := gName 2) rfl sc_without.nd (pi_tup (pv 0)) (blkOk_by (own := [("ticket", 2)]) (N := N_without) (sc := defScope s_without) (by decide +kernel)) (fun _ _ _ _ _ => (pg_name (i := 2) sc_without.nd rfl (.inl rfl))) (fun _ _ _ _ _ => (pts_one (pt_cmpR (r := rNotInDL K) (op_notInDL (room65 hr)) (pe_ix (r := rIxT K) ix_tup (pv 2) pe_int (fun _ _ => rfl)) (pv 1) (by rfl)))) (fun _ _ _ _ _ => (pv 2))) pa_nil)))), ?_⟩
    have lA := fA.len
    refine ⟨_, rfl, a, rfl, ⟨_, tA⟩, fun D nD => ?_⟩
    refine lcp_tup (K := K) (xs := tvs) (R := TkAt K) (IR := TkAt K H) tks (fun x => if (!decide (x.n ∈ ns)) = true then some x else none) (fun _ _ _ _ k h => h.mono k) fA nD tA (Nat.lt_of_le_of_lt (show tvs.length ≤ 100 by omega) (by decide)) ?_ ?_
    · rintro v x H2 hx _ s2 Y N hY hN
      obtain ⟨tq, a1, c1, e1, rfl, t1, _⟩ := id hx
      refine ⟨rfl, _, rfl, tq, _, 0, .int x.n, rfl, rfl, Same.tup s2 t1, rfl, _, rfl, ?_⟩
      refine ⟨.int (x.n : Int), _, .int _, iv_dp (.inl (.inl (s2 _ _ hB))), rfl, iv_shaped ns, _, rfl, ?_⟩
      rw [show (ns.map fun k : Nat => PyData.int (k : Int)).any (fun z => PyData.eqv z (.int (x.n : Int))) = decide (x.n ∈ ns) from any_iv _ _]
      refine ite2 (fun e => ?_) (fun e => ?_)
      · exact ⟨_, rfl, hY _ _ _ (Same.refl _) (if_pos e) (hx.mono (Same.tk s2))⟩
      · exact hN _ (Same.refl _) (if_neg e)
    intro H2 ys h2 f2 s2
    refine ⟨D, ys, rfl, .inl ⟨.inl (.inl h2), fun p np => ?_⟩⟩
    have s3 := same_upd (o := .tup ys) np
    rw [fmf (fun x => !decide (x.n ∈ ns))] at f2
    exact q _ p ys sqt_upd (f2.imp fun _ _ h => h.mono (Same.tk s3)) (s2.trans s3)
end
end B

namespace B
open PySem PySem.Spec PyProof.Rows L2

def sp_exchanged (K : PySem.W.Frag) : Sp := fun vs H Q _ => ∃ (a b : Addr) (tvs : List V) (tks : List Tkt) (t : Tkt), vs = [.ref a, .ref b] ∧ SqT K H a tvs ∧ F2 (TkAt K H) tvs tks ∧ tks.length ≤ 100 ∧ TkAt K H (.ref b) t ∧ ∀ (H' : Hp) (p : Addr) (us : List V), SqT K H' p us → F2 (TkAt K H') us (tks.map fun x => if x.n = t.n then t else x) → Same H H' → Q (.ref p) H'

section
variable {P : Program} {w : World} {K : PySem.W.Frag} {mg : Str → Option Value} {base : Heap}
theorem ok_exchanged (T : Tx K mg w) (U : Unl P base) : FnOk P w K mg base CX0 35 T.exchanged.f T.exchanged.fd ["tickets", "new"] (sp_exchanged K) := by
  refine T.exchanged.F.ok sc_exchanged (fun vs H Q E h => ?_) (fun cdv A outer s H vs Q E hr h => ?_)
  · obtain ⟨a, b, tvs, tks, t, rfl, tA, fA, l100, hT, q⟩ := h
    rfl
  · obtain ⟨a, b, tvs, tks, t, rfl, tA, fA, l100, hT, q⟩ := h
    refine ⟨_, (pss_one (ps_ret (pe_callTy call_tuple_of (by rfl) T.m_tuple (by decide +kernel) (pa_cons (pe_lc (own := [("ticket", 2)]) (g := gName 2) (tt := tYes) rfl sc_exchanged.nd (pi_tup (pv 0)) (blkOk_by (own := [("ticket", 2)]) (N := N_exchanged) (sc := defScope s_exchanged) (by decide +kernel)) (fun _ _ _ _ _ => (pg_name (i := 2) sc_exchanged.nd rfl (.inl rfl))) (fun _ _ _ _ _ => pts_nil) (fun _ _ _ _ _ => (pe_ifExp (pt_cmpR op_eq (pe_ix (r := rIxT K) ix_tup (pv 2) pe_int (fun _ _ => rfl)) (pe_ix (r := rIxT K) ix_tup (pv 1) pe_int (fun _ _ => rfl)) (nomark _)) (pv 1) (pv 2)))) pa_nil)))), ?_⟩
    have lA := fA.len
    refine ⟨_, rfl, a, rfl, ⟨_, tA⟩, fun D nD => ?_⟩
    refine lcp_tup (K := K) (xs := tvs) (R := TkAt K) (IR := TkAt K H) tks (fun x => some (if x.n = t.n then t else x)) (fun _ _ _ _ k h => h.mono k) fA nD tA (Nat.lt_of_le_of_lt (show tvs.length ≤ 100 by omega) (by decide)) ?_ ?_
    · rintro v x H2 hx _ s2 Y N hY _
      obtain ⟨tq, a1, c1, e1, rfl, t1, _⟩ := id hx
      obtain ⟨tb, a2, c2, e2, eb, t2, _⟩ := id hT
      injection eb with eb
      subst eb
      refine ⟨rfl, lc_yes ?_⟩
      refine ⟨_, rfl, tq, _, 0, .int x.n, rfl, rfl, Same.tup s2 t1, rfl, _, rfl, b, _, 0, .int t.n, rfl, rfl, Same.tup s2 t2, rfl, rfl, _, rfl, ?_⟩
      by_cases e : x.n = t.n
      · refine iteK (decide_eq_true (by rw [e])) ⟨_, rfl, hY _ _ _ (Same.refl _) (congrArg some (if_pos e)) (hT.mono (Same.tk s2))⟩
      · refine iteE (decide_eq_false fun z => e (by injection z with z; omega)) ⟨_, rfl, hY _ _ _ (Same.refl _) (congrArg some (if_neg e)) (hx.mono (Same.tk s2))⟩
    intro H2 ys h2 f2 s2
    rw [fm_some] at f2
    refine ⟨D, ys, rfl, .inl ⟨.inl (.inl h2), fun p np => ?_⟩⟩
    have s3 := same_upd (o := .tup ys) np
    exact q _ p ys sqt_upd (f2.imp fun _ _ h => h.mono (Same.tk s3)) (s2.trans s3)
end
end B

namespace B
open PySem PySem.Spec PyProof.Rows L2

def sp_few_enough (K : PySem.W.Frag) : Sp := fun vs H Q E => ∃ (a : Addr) (xs : List V), vs = [.ref a] ∧ SqT K H a xs ∧ (12 < xs.length → ∀ C, XIs K "TooMany" C → ∀ d H', DOk H' d → Same H H' → E (.ref C) d H') ∧ (xs.length ≤ 12 → Q (.ref a) H)

section
variable {P : Program} {w : World} {K : PySem.W.Frag} {mg : Str → Option Value} {base : Heap}
theorem ok_few_enough (T : Tx K mg w) (U : Unl P base) : FnOk P w K mg base (L2.CX P w) 35 T.few_enough.f T.few_enough.fd ["tickets"] (sp_few_enough K) := by
  refine T.few_enough.F.okX sc_few_enough (fun vs H Q E h => ?_) (fun cdv A outer s H vs Q E hr h => ?_)
  · obtain ⟨a, xs, rfl, hA, hE, hQ⟩ := h
    rfl
  · obtain ⟨a, xs, rfl, hA, hE, hQ⟩ := h
    refine ⟨_, (pss_cons (ps_if (pt_cmpR op_gt (pe_callB call_len_seq (by rfl) T.m_len (by decide +kernel) (pa_cons (pv 0) pa_nil)) (pe_glob (v := .int 12) (by rfl) T.g_MOST_TICKETS ⟨_, rfl⟩) (nomark _)) (pss_one (ps_raise rfl (takes_of rfl rfl rfl rfl) (pmk_none T.x_TooMany hr (by rfl)))) pss_nil)
      (pss_one (ps_ret (pv 0)))), ?_⟩
    refine ⟨_, rfl, a, xs, rfl, .inr hA, _, _, rfl, rfl, _, rfl, ?_⟩
    by_cases l : 12 < xs.length
    · exact iteK (decide_eq_true (by omega)) fun d nd => hE l _ T.x_TooMany.ns _ _ dok_upd (same_upd nd)
    · exact iteE (decide_eq_false (by omega)) ⟨_, rfl, hQ (by omega)⟩
end
end B

namespace B
open PySem PySem.Spec PyProof.Rows L2
def sp_dealt (_ : PySem.W.Frag) : Sp := fun _ _ _ _ => False
section
variable {P : Program} {w : World} {K : PySem.W.Frag} {mg : Str → Option Value} {base : Heap}
theorem ok_dealt (T : Tx K mg w) (U : Unl P base) : FnOk P w K mg base CX0 35 T.dealt.f T.dealt.fd ["stand", "parts"] (sp_dealt K) := T.dealt.F.ok sc_dealt (fun vs H Q E h => h.elim) (fun cdv A outer s H vs Q E hr h => h.elim)
end
end B

namespace B
open PySem PySem.Spec PyProof.Rows L2
def sp_handed (_ : PySem.W.Frag) : Sp := fun _ _ _ _ => False
section
variable {P : Program} {w : World} {K : PySem.W.Frag} {mg : Str → Option Value} {base : Heap}
theorem ok_handed (T : Tx K mg w) (U : Unl P base) : FnOk P w K mg base CX0 35 T.handed.f T.handed.fd ["stand", "parts"] (sp_handed K) := T.handed.F.ok sc_handed (fun vs H Q E h => h.elim) (fun cdv A outer s H vs Q E hr h => h.elim)
end
end B

namespace B
open PySem PySem.Spec PyProof.Rows L2
def sp_cleared (_ : PySem.W.Frag) : Sp := fun _ _ _ _ => False
section
variable {P : Program} {w : World} {K : PySem.W.Frag} {mg : Str → Option Value} {base : Heap}
theorem ok_cleared (T : Tx K mg w) (U : Unl P base) : FnOk P w K mg base CX0 35 T.cleared.f T.cleared.fd ["stand", "parts"] (sp_cleared K) := T.cleared.F.ok sc_cleared (fun vs H Q E h => h.elim) (fun cdv A outer s H vs Q E hr h => h.elim)
end
end B

namespace B
open PySem PySem.Spec PyProof.Rows L2
def sp_posted (_ : PySem.W.Frag) : Sp := fun _ _ _ _ => False
section
variable {P : Program} {w : World} {K : PySem.W.Frag} {mg : Str → Option Value} {base : Heap}
theorem ok_posted (T : Tx K mg w) (U : Unl P base) : FnOk P w K mg base CX0 35 T.posted.f T.posted.fd ["stand", "parts"] (sp_posted K) := T.posted.F.ok sc_posted (fun vs H Q E h => h.elim) (fun cdv A outer s H vs Q E hr h => h.elim)
end
end B

namespace B
open PySem PySem.Spec PyProof.Rows L2
def sp_sold (_ : PySem.W.Frag) : Sp := fun _ _ _ _ => False
section
variable {P : Program} {w : World} {K : PySem.W.Frag} {mg : Str → Option Value} {base : Heap}
theorem ok_sold (T : Tx K mg w) (U : Unl P base) : FnOk P w K mg base CX0 35 T.sold.f T.sold.fd ["stand", "parts"] (sp_sold K) := T.sold.F.ok sc_sold (fun vs H Q E h => h.elim) (fun cdv A outer s H vs Q E hr h => h.elim)
end
end B

namespace B
open PySem PySem.Spec PyProof.Rows L2
def sp_heard (_ : PySem.W.Frag) : Sp := fun _ _ _ _ => False
section
variable {P : Program} {w : World} {K : PySem.W.Frag} {mg : Str → Option Value} {base : Heap}
theorem ok_heard (T : Tx K mg w) (U : Unl P base) : FnOk P w K mg base CX0 35 T.heard.f T.heard.fd ["stand", "parts"] (sp_heard K) := T.heard.F.ok sc_heard (fun vs H Q E h => h.elim) (fun cdv A outer s H vs Q E hr h => h.elim)
end
end B

namespace B
open PySem PySem.Spec PyProof.Rows L2

def sp_is_deed (K : PySem.W.Frag) : Sp := fun vs H Q _ => ∃ (dq : Addr) (nm : Str) (ps : List V), vs = [.ref dq] ∧ SqT K H dq (.str nm :: ps) ∧ (nm, (ps.length : Int)) ∈ ([("deal", 5), ("split", 2), ("hand", 4), ("net", 2), ("clear", 1), ("post", 2), ("sell", 4), ("hear", 1)] : List (Str × Int)) ∧ Q (.bl true) H

section
variable {P : Program} {w : World} {K : PySem.W.Frag} {mg : Str → Option Value} {base : Heap}
theorem ok_is_deed (T : Tx K mg w) (U : Unl P base) : FnOk P w K mg base CX0 35 T.is_deed.f T.is_deed.fd ["thing"] (sp_is_deed K) := by
  refine T.is_deed.F.ok sc_is_deed (fun vs H Q E h => ?_) (fun cdv A outer s H vs Q E hr h => ?_)
  · obtain ⟨dq, nm, ps, rfl, tD, hm, q⟩ := h
    rfl
  · obtain ⟨dq, nm, ps, rfl, tD, hm, q⟩ := h
    refine ⟨_, (pss_cons (ps_if (PW.pt (pw_or (pt_not (pt_val (pe_callB call_isi (by rfl) T.m_isinstance (by decide +kernel) (pa_cons (pv 0) (pa_cons (pe_bltn (v := .ty "tuple") (u := .type "tuple") (by rfl) T.m_tuple (by decide +kernel) rfl) pa_nil))))) (pw_or (pt_cmpR op_eq (pe_callB call_len_seq (by rfl) T.m_len (by decide +kernel) (pa_cons (pv 0) pa_nil)) pe_int (nomark _)) (pw_or1 (pt_not (pt_val (pe_callB call_isi (by rfl) T.m_isinstance (by decide +kernel) (pa_cons (pe_ix ix_tup (pv 0) pe_int (fun _ _ => rfl)) (pa_cons (pe_bltn (v := .ty "str") (u := .type "str") (by rfl) T.m_str (by decide +kernel) rfl) pa_nil))))))))) (pss_one (ps_ret pe_bl)) pss_nil)
      (pss_one (ps_ret (pe_cmpR op_eq (pe_kget1 T.d_PARTS.choose_spec.choose_spec (pe_glob (v := .ref T.a_PARTS) (by rfl) T.g_PARTS rfl) (pe_ix ix_tup (pv 0) pe_int (fun _ _ => rfl)) ⟨rfl, rfl, rfl, rfl⟩) (pe_op op_sub (pe_callB call_len_seq (by rfl) T.m_len (by decide +kernel) (pa_cons (pv 0) pa_nil)) pe_int) (nomark _))))), ?_⟩
    have lt : (V.str nm :: ps).length = ps.length + 1 := rfl
    have a0 : atI (V.str nm :: ps) 0 = some (.str nm) := atI_nat (show (V.str nm :: ps)[0]? = some (V.str nm) from rfl)
    obtain ⟨u, e, r⟩ := T.v_PARTS _ hm
    refine ⟨_, rfl, _, .ty "tuple", .type "tuple", .type "tuple", true, rfl, .ty _, ty_tup tD, kit_ty (by decide +kernel), _, rfl, iteF ?_⟩
    refine ⟨_, rfl, dq, _, rfl, .inr tD, rfl, _, rfl, iteE (decide_eq_false fun z => ?_) ?_⟩
    · injection z with z
      rw [lt] at z
      omega
    refine ⟨_, rfl, dq, _, 0, .str nm, rfl, rfl, tD, a0, _, .ty "str", .type "str", .type "str", true, rfl, .ty _, .base (.str _), kit_ty (by decide +kernel), _, rfl, iteF ?_⟩
    refine ⟨rfl, _, rfl, dq, _, 0, .str nm, rfl, rfl, tD, a0, nm, rfl, .inl ⟨u, .int (ps.length : Int), e, r, ?_⟩⟩
    refine ⟨_, rfl, dq, _, rfl, .inr tD, _, _, rfl, rfl, ?_⟩
    refine ⟨rfl, ?_⟩
    have e1 : V.int ((↑(V.str nm :: ps).length : Int) - 1) = V.int (ps.length : Int) := by
      rw [lt]
      congr 1
      omega
    show Q (.bl (decide (V.int (ps.length : Int) = V.int ((↑(V.str nm :: ps).length : Int) - 1)))) H
    rw [e1, decide_eq_true rfl]
    exact q
end
end B

namespace B
open PySem PySem.Spec PyProof.Rows L2
theorem cut63 {xs : List V} (h : xs.length ≤ 63) : cutV xs none (some 63) = xs := by
  unfold cutV
  rw [HT.sIx_none, show HT.sIx xs.length xs.length (some 63) = min 63 xs.length from HT.sIx_nat xs.length xs.length 63]
  rw [List.drop_zero, List.take_of_length_le (by omega)]

def sp_l_draws (K : PySem.W.Frag) : Sp := fun vs H Q _ => ∃ (a : Addr) (ns : List Int), vs = [.ref a] ∧ SqL K H a (ns.map V.int) ∧ ns.length ≤ 63 ∧ ∀ (H' : Hp) (d : Dr), Drw H' d 900000 → Same H H' → H d.dr = none → H d.rs = none → Q (.ref d.dr) H'

section
variable {P : Program} {w : World} {K : PySem.W.Frag} {mg : Str → Option Value} {base : Heap}
theorem ok_l_draws (T : Tx K mg w) (U : Unl P base) : FnOk P w K mg base CX0 35 T.l_draws.f T.l_draws.fd ["_law_script"] (sp_l_draws K) := by
  refine T.l_draws.F.ok sc_l_draws (fun vs H Q E h => ?_) (fun cdv A outer s H vs Q E hr h => ?_)
  · obtain ⟨a, ns, rfl, hS, hlen, q⟩ := h
    rfl
  · obtain ⟨a, ns, rfl, hS, hlen, q⟩ := h
    refine ⟨_, (pss_cons (ps_set (i := 1) sc_l_draws.nd rfl (.inl rfl) (pe_op op_cat (pe_callTy call_list_of (by rfl) T.m_list (by decide +kernel) (pa_cons (pe_slice sl_list (pv 0) po_none (po_some pe_int)) pa_nil)) (pe_op op_rep (pe_lst (pa_cons pe_int pa_nil)) (pe_callTy call_int1 (by rfl) T.m_int (by decide +kernel) (pa_cons (pe_cmpR op_eq (pe_callB call_len_seq (by rfl) T.m_len (by decide +kernel) (pa_cons (pv 0) pa_nil)) pe_int (nomark _)) pa_nil)))))
      (pss_one (ps_ret (pe_lst (pa_cons (pv 1) (pa_cons pe_int (pa_cons (pe_lc (own := [("_law_cell", 2)]) (g := gName 2) (tt := tYes) rfl sc_l_draws.nd (pi_list (pv 1)) (blkOk_by (own := [("_law_cell", 2)]) (N := N_l_draws) (sc := defScope s_l_draws) (by decide +kernel)) (fun _ _ _ _ _ => (pg_name (i := 2) sc_l_draws.nd rfl (.inl rfl))) (fun _ _ _ _ _ => pts_nil) (fun _ _ _ _ _ => (pe_op op_mul (pv 2) (pe_callTy (T := "int") call_int1 (by rfl) T.m_int (by decide +kernel) (pa_cons (pe_cmpR op_ge (pv 2) (pe_op op_pow pe_int pe_int) (nomark _)) pa_nil))))) pa_nil))))))), ?_⟩
    have lns : (ns.map V.int).length = ns.length := List.length_map ..
    refine ⟨_, rfl, 63, rfl, a, _, rfl, hS, fun p1 np1 => ?_⟩
    have s1 := same_upd (o := .lst (cutV (ns.map V.int) none (some 63))) np1
    refine ⟨p1, _, rfl, .inl sql_upd, fun l nl => ?_⟩
    rw [cut63 (by rw [lns]; exact hlen)] at s1 nl ⊢
    have s2 := s1.trans (same_upd (o := .lst (ns.map V.int)) nl)
    refine ⟨by decide, fun z nz => ?_⟩
    have s3 := s2.trans (same_upd (o := .lst [.int 0]) nz)
    refine ⟨_, rfl, a, _, rfl, .inl (s3.seq hS), rfl, .inr ⟨_, rfl, ?_⟩⟩
    have hl3 : (upd (upd (upd H p1 (.lst (ns.map V.int))) l (.lst (ns.map V.int))) z (.lst [.int 0])) l = some (.lst (ns.map V.int)) := by
      rw [upd_ne (ne_of_none upd_same nz), upd_same]
    obtain ⟨k, hk, k2⟩ : ∃ k : Nat, (if decide (V.int ((ns.map V.int).length : Nat) = V.int 0) = true then (1 : Int) else 0) = (k : Int) ∧ ((ns = [] ∧ k = 1) ∨ (ns ≠ [] ∧ k = 0)) := by
      cases ns with
      | nil => exact ⟨1, rfl, .inl ⟨rfl, rfl⟩⟩
      | cons x r =>
        refine ⟨0, ?_, .inr ⟨by simp, rfl⟩⟩
        rw [if_neg]
        · rfl
        · intro e
          have e2 := V.int.inj (of_decide_eq_true e)
          rw [List.length_map, List.length_cons] at e2
          omega
    refine ⟨z, _, _, rfl, rfl, upd_same, ?_, ?_, ?_, fun r nr => ?_⟩
    · rw [hk]
      omega
    · rw [hk]
      omega
    · rw [hk, Int.toNat_natCast]
      show 1 * k ≤ sizeLine
      exact Nat.le_trans (show 1 * k ≤ 1 by omega) (by decide)
    rw [hk, Int.toNat_natCast]
    have s4 := s3.trans (same_upd (o := .lst (List.replicate k [V.int 0]).flatten) nr)
    obtain ⟨cs, ecs, c0, c63⟩ : ∃ cs : List Int, ns.map V.int ++ (List.replicate k [V.int 0]).flatten = cs.map V.int ∧ 0 < cs.length ∧ cs.length ≤ 63 := by
      rcases k2 with ⟨rfl, rfl⟩ | ⟨h, rfl⟩
      · exact ⟨[0], rfl, by decide, by decide⟩
      · refine ⟨ns, by simp, ?_, hlen⟩
        cases ns with
        | nil => exact absurd rfl h
        | cons x r => rw [List.length_cons]; omega
    refine ⟨l, r, ns.map V.int, _, rfl, rfl, ?_, upd_same, ?_, fun c nc => ?_⟩
    · rw [upd_ne (ne_of_none hl3 nr)]
      exact hl3
    · have e := congrArg List.length ecs
      rw [List.length_append, List.length_map] at e
      rw [List.length_map, e, List.length_map]
      exact Nat.le_trans c63 (by decide)
    rw [ecs]
    have s5 := s4.trans (same_upd (o := .lst (cs.map V.int)) nc)
    have hc5 := upd_same (H := upd (upd (upd (upd H p1 (.lst (ns.map V.int))) l (.lst (ns.map V.int))) z (.lst [.int 0])) r (.lst (List.replicate k [V.int 0]).flatten)) (a := c) (o := .lst (cs.map V.int))
    generalize upd (upd (upd (upd (upd H p1 (.lst (ns.map V.int))) l (.lst (ns.map V.int))) z (.lst [.int 0])) r (.lst (List.replicate k [V.int 0]).flatten)) c (.lst (cs.map V.int)) = H5 at s5 hc5 ⊢
    refine ⟨_, rfl, _, rfl, c, rfl, ⟨_, .inl (.inl hc5)⟩, fun D nD => ?_⟩
    refine lc_list (K := K) (a := c) (xs := cs.map V.int) (fun i H' => ∃ acc : List Int, H' D = some (.lst (acc.map V.int)) ∧ acc.length = i ∧ i ≤ cs.length ∧ Same H5 H') ⟨[], upd_same, rfl, by omega, same_upd nD⟩ (fun i H' _ ⟨_, _, _, _, e⟩ => .inl (.inl (e _ _ hc5))) ?_ ?_
    · rintro i x H' hx ⟨acc, h1, h2, h3, h4⟩
      have hi : i < cs.length := by
        have := (List.getElem?_eq_some_iff.mp hx).1
        rw [List.length_map] at this
        exact this
      obtain ⟨y, hy, rfl⟩ : ∃ y, cs[i]? = some y ∧ x = V.int y := by
        rw [List.getElem?_map] at hx
        cases e : cs[i]? with
        | none => rw [e] at hx; cases hx
        | some y => rw [e] at hx; exact ⟨y, rfl, (Option.some.inj hx).symm⟩
      refine ⟨rfl, lc_yes ?_⟩
      refine ⟨_, rfl, _, rfl, _, _, rfl, rfl, ⟨by decide, by decide, by decide⟩, _, _, rfl, rfl, .inr ⟨_, rfl, ?_⟩⟩
      refine ⟨_, _, rfl, rfl, .inr ?_, _, h1, ?_, ?_⟩
      · constructor
        · split <;> decide
        · split <;> decide
      · rw [List.length_map]
        exact Nat.lt_of_le_of_lt (show acc.length ≤ 63 by omega) (by decide)
      · refine ⟨acc ++ [_], by rw [upd_same, List.map_append]; rfl, by rw [List.length_append, h2]; rfl, hi, fun b o e => ?_⟩
        rw [upd_ne (ne_of_none e nD)]
        exact h4 b o e
    · rintro H' ⟨acc, h1, h2, h3, h4⟩
      refine ⟨by show 3 ≤ sizeLine; decide, fun p np => ?_⟩
      rw [List.length_map] at h2
      refine q _ ⟨p, c, D⟩ ⟨⟨cs, acc, 0, upd_same, ?_, ?_, h2.symm, c0, c63, by decide⟩, ?_⟩ ?_ ?_ ?_
      · rw [upd_ne (ne_of_none (h4 _ _ hc5) np)]
        exact h4 _ _ hc5
      · rw [upd_ne (ne_of_none h1 np)]
        exact h1
      · exact ne_of_none hc5 nD
      · exact (s5.trans h4).trans (same_upd np)
      · exact (s5.trans h4).free np
      · exact s5.free nD
end
end B

namespace B
open PySem PySem.Spec PyProof.Rows L2

def sp_l_next (_ : PySem.W.Frag) : Sp := fun vs H Q _ => ∃ (d : Dr) (b : Nat) (many : Int), vs = [.ref d.dr, .int many] ∧ 0 < many ∧ many.natAbs < 2 ^ 70 ∧ Drw H d (b + 1) ∧ ∀ (H' : Hp) (r : Int), 0 ≤ r → r < many → Drw H' d b → Kp d H H' → Q (.int r) H'

section
variable {P : Program} {w : World} {K : PySem.W.Frag} {mg : Str → Option Value} {base : Heap}
theorem ok_l_next (T : Tx K mg w) (U : Unl P base) : FnOk P w K mg base CX0 35 T.l_next.f T.l_next.fd ["_law_drawn", "_law_many"] (sp_l_next K) := by
  refine T.l_next.F.ok sc_l_next (fun vs H Q E h => ?_) (fun cdv A outer s H vs Q E hr h => ?_)
  · obtain ⟨d, b, many, rfl, hm0, hm1, ⟨⟨cs, rr, c, h1, h2, h3, hl, hp, h63, hb⟩, ne⟩, q⟩ := h
    rfl
  · obtain ⟨d, b, many, rfl, hm0, hm1, ⟨⟨cs, rr, c, h1, h2, h3, hl, hp, h63, hb⟩, ne⟩, q⟩ := h
    refine ⟨_, (pss_cons (ps_asg (pv 0) (pg_lst rfl (pgs_cons (pg_name (i := 2) sc_l_next.nd rfl (.inl rfl)) (pgs_cons (pg_name (i := 3) sc_l_next.nd rfl (.inl rfl)) (pgs_cons (pg_name (i := 4) sc_l_next.nd rfl (.inl rfl)) pgs_nil)))))
      (pss_cons (ps_set (i := 5) sc_l_next.nd rfl (.inl rfl) (pe_op op_mod (pv 3) (pe_callB call_len_seq (by rfl) T.m_len (by decide +kernel) (pa_cons (pv 2) pa_nil))))
      (pss_cons (ps_asg (pe_op op_add (pv 3) pe_int) (pg_sub (pv 0) pe_int set_list))
      (pss_cons (ps_if (pt_cmpR op_gt (pe_ix ix_list (pv 4) (pv 5) (fun _ _ => rfl)) pe_int (nomark _)) (pss_cons (ps_set (i := 6) sc_l_next.nd rfl (.inl rfl) (pe_op op_mod (pe_ix ix_list (pv 4) (pv 5) (fun _ _ => rfl)) (pv 1)))
      (pss_cons (ps_asg (pe_op (op_fdivW U (hr.mono (by decide)) rfl sc_l_next.gen sc_l_next.co rfl rfl) (pe_ix ix_list (pv 4) (pv 5) (fun _ _ => rfl)) (pv 1)) (pg_sub (pv 4) (pv 5) set_list))
      (pss_one (ps_ret (pv 6))))) pss_nil)
      (pss_cons (ps_set (i := 7) sc_l_next.nd rfl (.inl rfl) (pe_lst (pa_cons pe_int (pa_cons pe_int (pa_cons pe_int (pa_cons pe_int (pa_cons pe_int (pa_cons pe_int (pa_cons pe_int pa_nil)))))))))
      (pss_cons (ps_set (i := 8) sc_l_next.nd rfl (.inl rfl) (pe_op op_add (pe_op op_add (pe_op op_mod (pe_ix ix_list (pv 2) (pv 5) (fun _ _ => rfl)) pe_int) (pe_op op_mul pe_int (pv 3))) pe_int))
      (pss_cons (ps_set (i := 8) sc_l_next.nd rfl (.inl rfl) (pe_op op_mod (pe_op op_pow (pv 8) pe_int) (pe_ix ix_list (pv 7) (pe_op op_mod (pv 3) pe_int) (fun _ _ => rfl))))
      (pss_cons (ps_set (i := 9) sc_l_next.nd rfl (.inl rfl) (pe_op op_mod (pe_op op_pow (pe_op op_add (pv 8) (pe_op op_mul pe_int (pv 3))) pe_int) pe_int))
      (pss_one (ps_ret (pe_op op_mod (pe_op op_mod (pe_op op_add (pe_op op_mul (pv 9) pe_int) (pv 8)) pe_int) (pv 1)))))))))))), ?_⟩
    have n1 : d.dr ≠ d.cl := ne_of h1 h2 (by intro z; cases cs with | nil => cases z | cons x r => cases z)
    have n2 : d.dr ≠ d.rs := ne_of h1 h3 (by intro z; cases rr with | nil => cases z | cons x r => cases z)
    have lc : (cs.map V.int).length = cs.length := List.length_map ..
    have lr : (rr.map V.int).length = cs.length := by rw [List.length_map, hl]
    have hj : c % (cs.map V.int).length < cs.length := by
      rw [lc]
      exact Nat.mod_lt _ hp
    obtain ⟨x, hx⟩ : ∃ x, cs[c % (cs.map V.int).length]? = some x := ⟨_, List.getElem?_eq_getElem hj⟩
    obtain ⟨y, hy⟩ : ∃ y, rr[c % (cs.map V.int).length]? = some y := ⟨_, List.getElem?_eq_getElem (by rw [← hl]; exact hj)⟩
    refine ⟨_, rfl, d.dr, _, rfl, .inl (.inl h1), rfl, _, _, rfl, _, _, rfl, _, _, rfl, rfl, ?_⟩
    refine ⟨_, rfl, _, rfl, d.cl, _, rfl, .inl (.inl (.inl h2)), _, _, rfl, rfl, (by show (0 : Int) < ((cs.map V.int).length : Int); omega), ?_⟩
    refine ⟨_, rfl, _, _, rfl, rfl, _, rfl, d.dr, _, 1, 1, rfl, rfl, h1, rfl, ?_⟩
    have H1r : (upd H d.dr (.lst ([.ref d.cl, .int c, .ref d.rs].set 1 (.int ((c : Int) + 1))))) d.rs = some (.lst (rr.map V.int)) := by rw [upd_ne n2.symm]; exact h3
    have H1c : (upd H d.dr (.lst ([.ref d.cl, .int c, .ref d.rs].set 1 (.int ((c : Int) + 1))))) d.cl = some (.lst (cs.map V.int)) := by rw [upd_ne n1.symm]; exact h2
    have ary : atI (rr.map V.int) ((c % (cs.map V.int).length : Nat) : Int) = some (.int y) := at_nat (by rw [List.getElem?_map, hy]; rfl)
    have arx : atI (cs.map V.int) ((c % (cs.map V.int).length : Nat) : Int) = some (.int x) := at_nat (by rw [List.getElem?_map, hx]; rfl)
    refine ⟨_, rfl, _, rfl, d.rs, _, ((c % (cs.map V.int).length : Nat) : Int), _, rfl, rfl, .inl (.inl H1r), ary, _, _, rfl, rfl, _, rfl, ite2 (fun e => ?_) (fun e => ?_)⟩
    · refine ⟨_, rfl, _, rfl, d.rs, _, ((c % (cs.map V.int).length : Nat) : Int), _, rfl, rfl, .inl (.inl H1r), ary, _, rfl, _, _, rfl, rfl, hm0, ?_⟩
      refine ⟨_, rfl, _, rfl, d.rs, _, ((c % (cs.map V.int).length : Nat) : Int), _, rfl, rfl, .inl (.inl H1r), ary, _, rfl, _, _, rfl, rfl, wide_div hm0 hm1 (by decide) (by decide), _, rfl, _, rfl, d.rs, _, ((c % (cs.map V.int).length : Nat) : Int), c % (cs.map V.int).length, rfl, rfl, H1r, ?_, ?_⟩
      · unfold ixN
        rw [if_pos (by omega), if_pos (by rw [lr]; omega)]
        rfl
      refine ⟨_, rfl, ?_⟩
      refine q _ _ (Int.emod_nonneg _ (by omega)) (Int.emod_lt_of_pos _ hm0) ⟨⟨cs, rr.set (c % (cs.map V.int).length) (y / many), c + 1, ?_, ?_, ?_, ?_, hp, h63, by omega⟩, ne⟩ ?_
      · rw [upd_ne n2, upd_same]
        rfl
      · rw [upd_ne ne]
        exact H1c
      · rw [upd_same, List.map_set]
      · rw [List.length_set]
        exact hl
      · intro p o hp1 a1 a2
        rw [upd_ne a2, upd_ne a1]
        exact hp1
    · refine ⟨by decide, fun pr npr => ?_⟩
      have npc : d.cl ≠ pr := ne_of_none H1c npr
      refine ⟨_, rfl, _, rfl, d.cl, _, ((c % (cs.map V.int).length : Nat) : Int), _, rfl, rfl, .inl (.inl (by rw [upd_ne npc]; exact H1c)), arx, _, _, rfl, rfl, (by show (0 : Int) < 2147483647; decide), _, rfl, _, _, rfl, rfl, .inl ⟨by decide, by decide⟩, _, _, rfl, rfl, _, _, rfl, rfl, ?_⟩
      have c7 : c % 7 < 7 := Nat.mod_lt _ (by decide)
      obtain ⟨pm, hpm, pm0, pm1⟩ : ∃ pm : Int, ([.int 2147483629, .int 2147483587, .int 2147483579, .int 2147483563, .int 2147483549, .int 2147483543, .int 2147483497] : List V)[c % 7]? = some (.int pm) ∧ 0 < pm ∧ pm < 2147483648 := by
        generalize c % 7 = z at c7
        match z, c7 with
        | 0, _ => exact ⟨_, rfl, by decide, by decide⟩
        | 1, _ => exact ⟨_, rfl, by decide, by decide⟩
        | 2, _ => exact ⟨_, rfl, by decide, by decide⟩
        | 3, _ => exact ⟨_, rfl, by decide, by decide⟩
        | 4, _ => exact ⟨_, rfl, by decide, by decide⟩
        | 5, _ => exact ⟨_, rfl, by decide, by decide⟩
        | 6, _ => exact ⟨_, rfl, by decide, by decide⟩
      refine ⟨_, rfl, _, _, rfl, rfl, ⟨by decide, by decide, by omega⟩, _, rfl, _, rfl, _, _, rfl, rfl, (by show (0 : Int) < 7; decide), pr, _, ((c % 7 : Nat) : Int), _, rfl, rfl, .inl (.inl upd_same), at_nat hpm, _, _, rfl, rfl, pm0, ?_⟩
      have m2 := Int.emod_nonneg ((x % 2147483647 + 48271 * (c : Int) + 104729) ^ (3 : Int).toNat) (show pm ≠ 0 by omega)
      have m2' := Int.emod_lt_of_pos ((x % 2147483647 + 48271 * (c : Int) + 104729) ^ (3 : Int).toNat) pm0
      refine ⟨_, rfl, _, rfl, _, _, rfl, rfl, .inl ⟨by decide, by decide⟩, _, _, rfl, rfl, _, _, rfl, rfl, ⟨by decide, by decide, by omega⟩, _, _, rfl, rfl, (by show (0 : Int) < 2147483477; decide), ?_⟩
      refine ⟨_, rfl, _, _, rfl, rfl, .inr ⟨by decide, by decide⟩, _, rfl, _, _, rfl, rfl, _, _, rfl, rfl, (by show (0 : Int) < 4611686018427387847; decide), _, rfl, _, _, rfl, rfl, hm0, ?_⟩
      refine q _ _ (Int.emod_nonneg _ (by omega)) (Int.emod_lt_of_pos _ hm0) ⟨⟨cs, rr, c + 1, ?_, ?_, ?_, hl, hp, h63, by omega⟩, ne⟩ ?_
      · rw [upd_ne (ne_of_none (upd_same (H := H)) npr), upd_same]
        rfl
      · rw [upd_ne npc]
        exact H1c
      · rw [upd_ne (ne_of_none H1r npr)]
        exact H1r
      · intro p o hp1 a1 a2
        have e1 : (upd H d.dr (.lst ([.ref d.cl, .int c, .ref d.rs].set 1 (.int ((c : Int) + 1))))) p = some o := by rw [upd_ne a1]; exact hp1
        rw [upd_ne (ne_of_none e1 npr)]
        exact e1
end
end B

namespace B
open PySem PySem.Spec PyProof.Rows L2

def sp_l_whole (_ : PySem.W.Frag) : Sp := fun vs H Q _ => ∃ (i : Int), vs = [.int i] ∧ Q (.bl true) H

section
variable {P : Program} {w : World} {K : PySem.W.Frag} {mg : Str → Option Value} {base : Heap}
theorem ok_l_whole (T : Tx K mg w) (U : Unl P base) : FnOk P w K mg base CX0 35 T.l_whole.f T.l_whole.fd ["_law_thing"] (sp_l_whole K) := by
  refine T.l_whole.F.ok sc_l_whole (fun vs H Q E h => ?_) (fun cdv A outer s H vs Q E hr h => ?_)
  · obtain ⟨i, rfl, q⟩ := h
    rfl
  · obtain ⟨i, rfl, q⟩ := h
    refine ⟨_, (pss_one (ps_ret (pe_and (pe_callB call_isi (by rfl) T.m_isinstance (by decide +kernel) (pa_cons (pv 0) (pa_cons (pe_bltn (v := .ty "int") (u := .type "int") (by rfl) T.m_int (by decide +kernel) rfl) pa_nil))) (pe_one (pe_not (pe_callB call_isi (by rfl) T.m_isinstance (by decide +kernel) (pa_cons (pv 0) (pa_cons (pe_bltn (v := .ty "bool") (u := .type "bool") (by rfl) T.m_bool (by decide +kernel) rfl) pa_nil)))))))), ?_⟩
    refine ⟨_, rfl, _, .ty "int", .type "int", .type "int", true, rfl, .ty _, .base (.int i), kit_ty (by decide +kernel), true, rfl, iteT ?_⟩
    exact ⟨_, rfl, _, .ty "bool", .type "int", .type "bool", false, rfl, .ty _, .base (.int i), kit_ty (by decide +kernel), false, rfl, q⟩
end
end B

namespace B
open PySem PySem.Spec PyProof.Rows L2

def sp_l_lowest (_ : PySem.W.Frag) : Sp := fun vs H Q _ => ∃ (t : Int) (b : Nat), vs = [.int t, .int b] ∧ 0 < b ∧ b < 2 ^ 900000 ∧ ∀ p, H p = none → Q (.ref p) (upd H p (.tup [.int (lowT t b), .int (lowBn t b)]))

section
variable {P : Program} {w : World} {K : PySem.W.Frag} {mg : Str → Option Value} {base : Heap}
theorem ok_l_lowest (T : Tx K mg w) (U : Unl P base) : FnOk P w K mg base CX0 35 T.l_lowest.f T.l_lowest.fd ["_law_top", "_law_bottom"] (sp_l_lowest K) := by
  refine T.l_lowest.F.ok sc_l_lowest (fun vs H Q E h => ?_) (fun cdv A outer s H vs Q E hr h => ?_)
  · obtain ⟨t, b, rfl, hb, hz, q⟩ := h
    rfl
  · obtain ⟨t, b, rfl, hb, hz, q⟩ := h
    refine ⟨_, (pss_cons (ps_par (i := 2) (j := 3) (by rfl) sc_l_lowest.nd rfl rfl (by decide) rfl rfl (pa_cons (pe_callB call_abs (by rfl) T.m_abs (by decide +kernel) (pa_cons (pv 0) pa_nil)) (pa_cons (pv 1) pa_nil)) (by rfl))
      (pss_cons (ps_while PassesOwn.never (pt_cmpR op_gt (pv 3) pe_int (nomark _)) (pss_one (ps_par (i := 2) (j := 3) (by rfl) sc_l_lowest.nd rfl rfl (by decide) rfl rfl (pa_cons (pv 3) (pa_cons (pe_op op_mod (pv 2) (pv 3)) pa_nil)) (by rfl))))
      (pss_one (ps_ret (pe_tup (pa_cons (pe_op (op_fdivW U (hr.mono (by decide)) rfl sc_l_lowest.gen sc_l_lowest.co rfl rfl) (pv 0) (pv 2)) (pa_cons (pe_op (op_fdivW U (hr.mono (by decide)) rfl sc_l_lowest.gen sc_l_lowest.co rfl rfl) (pv 1) (pv 2)) pa_nil))))))), ?_⟩
    have g0 : 0 < Nat.gcd t.natAbs b := Nat.gcd_pos_of_pos_right _ hb
    have gz : ((Nat.gcd t.natAbs b : Nat) : Int).natAbs < 2 ^ 900000 := by
      rw [Int.natAbs_natCast]
      exact Nat.lt_of_le_of_lt (Nat.gcd_le_right _ hb) hz
    have q' : ∀ p, H p = none → Q (.ref p) (upd H p (.tup [.int (t / ((Nat.gcd t.natAbs b : Nat) : Int)), .int ((b : Int) / ((Nat.gcd t.natAbs b : Nat) : Int))])) := by
      rw [← lowT_nat, ← lowB_nat, lowBn_eq hb]
      exact q
    refine ⟨_, rfl, t, rfl, _, rfl, _, _, rfl, ?_⟩
    refine ⟨fun m σ H' => ∃ x y : Nat, σ = [some (.int t), some (.int b), some (.int x), some (.int y)] ∧ Nat.gcd x y = Nat.gcd t.natAbs b ∧ H' = H ∧ m = y, ⟨b, t.natAbs, b, ?_, rfl, rfl, rfl⟩, fun m σ H' hW => ?_⟩
    · rw [abs_nat]
      rfl
    obtain ⟨x, y, rfl, eg, rfl, rfl⟩ := hW
    refine ⟨_, rfl, _, _, rfl, rfl, _, rfl, ite2 (fun e => ?_) (fun e => ?_)⟩
    · have hy : 0 < m := by
        have := of_decide_eq_true e
        omega
      refine ⟨fun σ' H2 => σ' = [some (.int t), some (.int b), some (.int m), some (.int (x % m : Nat))] ∧ H2 = H', fun σ' H2 hN => ?_, ?_⟩
      · obtain ⟨rfl, rfl⟩ := hN
        exact ⟨x % m, Nat.mod_lt _ hy, m, x % m, rfl, by rw [← eg, Nat.gcd_comm m, ← Nat.gcd_rec, Nat.gcd_comm], rfl, rfl⟩
      · refine ⟨_, rfl, _, rfl, _, rfl, _, _, rfl, rfl, (by show (0 : Int) < m; omega), _, _, rfl, ?_⟩
        exact ⟨rfl, rfl⟩
    · have hy : m = 0 := by
        have : ¬ (0 : Int) < m := fun z => e (decide_eq_true z)
        omega
      subst hy
      rw [Nat.gcd_zero_right] at eg
      subst eg
      exact ⟨_, rfl, _, rfl, _, _, rfl, rfl, wide_div (by omega) gz (by decide) (by decide), _, rfl, _, rfl, _, _, rfl, rfl, wide_div (by omega) gz (by decide) (by decide), by show 2 ≤ sizeLine; decide, q'⟩
end
end B

namespace B
open PySem PySem.Spec PyProof.Rows L2

def sp_l_less (K : PySem.W.Frag) : Sp := fun vs H Q _ => ∃ (a c : Addr) (t1 t2 : Int) (b1 b2 : Nat), vs = [.ref a, .ref c] ∧ SqT K H a [.int t1, .int b1] ∧ SqT K H c [.int t2, .int b2] ∧ Fz t1 b1 400000 ∧ Fz t2 b2 400000 ∧ Q (.bl (decide (t1 * (b2 : Int) < t2 * (b1 : Int)))) H

section
variable {P : Program} {w : World} {K : PySem.W.Frag} {mg : Str → Option Value} {base : Heap}
theorem ok_l_less (T : Tx K mg w) (U : Unl P base) : FnOk P w K mg base CX0 35 T.l_less.f T.l_less.fd ["_law_one", "_law_other"] (sp_l_less K) := by
  refine T.l_less.F.ok sc_l_less (fun vs H Q E h => ?_) (fun cdv A outer s H vs Q E hr h => ?_)
  · obtain ⟨a, c, t1, t2, b1, b2, rfl, hA, hC, z1, z2, q⟩ := h
    rfl
  · obtain ⟨a, c, t1, t2, b1, b2, rfl, hA, hC, z1, z2, q⟩ := h
    refine ⟨_, (pss_one (ps_ret (pe_cmpR op_lt (pe_op op_mulW (pe_ix ix_tup (pv 0) pe_int (fun _ _ => rfl)) (pe_ix ix_tup (pv 1) pe_int (fun _ _ => rfl))) (pe_op op_mulW (pe_ix ix_tup (pv 1) pe_int (fun _ _ => rfl)) (pe_ix ix_tup (pv 0) pe_int (fun _ _ => rfl))) (nomark _)))), ?_⟩
    have W : ∀ {x : Nat}, x < 2 ^ 400000 → (x : Int).natAbs < 2 ^ 400000 := fun h => by
      rw [Int.natAbs_natCast]
      exact h
    exact ⟨_, rfl, a, _, 0, .int t1, rfl, rfl, hA, rfl, _, rfl, c, _, 1, .int b2, rfl, rfl, hC, rfl, _, _, rfl, rfl, wide_mul z1.t (W z2.b) (by decide) (by decide) (by decide), _, rfl, c, _, 0, .int t2, rfl, rfl, hC, rfl, _, rfl, a, _, 1, .int b1, rfl, rfl, hA, rfl, _, _, rfl, rfl, wide_mul z2.t (W z1.b) (by decide) (by decide) (by decide), _, _, rfl, rfl, q⟩
end
end B

namespace B
open PySem PySem.Spec PyProof.Rows L2

def sp_l_holds (K : PySem.W.Frag) : Sp := fun vs H Q _ => ∃ (cs : List Nat) (a : Addr) (ws : List Wd) (bs : List Bool), vs = [.str (tx cs), .ref a, .str (wtx bs)] ∧ SqT K H a (ws.map wv) ∧ Sy cs ws ∧ cs.length = bs.length ∧ bs.length ≤ 100 ∧ ws.length ≤ 10000 ∧ ∀ H', Same H H' → Q (.bl (sval (vl cs bs) ws)) H'

section
variable {P : Program} {w : World} {K : PySem.W.Frag} {mg : Str → Option Value} {base : Heap}
theorem ok_l_holds (T : Tx K mg w) (U : Unl P base) : FnOk P w K mg base CX0 35 T.l_holds.f T.l_holds.fd ["_law_letters", "_law_saying", "_law_world"] (sp_l_holds K) := by
  refine T.l_holds.F.ok sc_l_holds (fun vs H Q E h => ?_) (fun cdv A outer s H vs Q E hr h => ?_)
  · obtain ⟨cs, a, ws, bs, rfl, hA, hY, hl, h100, hz, q⟩ := h
    rfl
  · obtain ⟨cs, a, ws, bs, rfl, hA, hY, hl, h100, hz, q⟩ := h
    refine ⟨_, (pss_cons (ps_set (i := 3) sc_l_holds.nd rfl (.inl rfl) (pe_tup pa_nil))
      (pss_cons (ps_for PassesOwn.never rfl (pi_tup (pv 1)) (pg_name (i := 4) sc_l_holds.nd rfl (.inl rfl))
      (pss_one (ps_if (pt_cmpR op_eq (pv 4) pe_str (nomark _)) (pss_one (ps_set (i := 3) sc_l_holds.nd rfl (.inl rfl) (pe_op op_catS (pe_slice sl_tupS (pv 3) po_none (po_some (pe_un un_neg pe_int))) (pe_tup (pa_cons (pe_op op_sub pe_int (pe_ix ix_tup (pv 3) (pe_un un_neg pe_int) (fun _ _ => rfl))) pa_nil))))) (pss_one (ps_if (pt_cmpR op_eq (pv 4) pe_str (nomark _)) (pss_one (ps_set (i := 3) sc_l_holds.nd rfl (.inl rfl) (pe_op op_catS (pe_slice sl_tupS (pv 3) po_none (po_some (pe_un un_neg pe_int))) (pe_tup (pa_cons (pe_op op_mul (pe_ix ix_tup (pv 3) (pe_un un_neg pe_int) (fun _ _ => rfl)) (pe_ix ix_tup (pv 3) (pe_un un_neg pe_int) (fun _ _ => rfl))) pa_nil))))) (pss_one (ps_if (pt_cmpR op_eq (pv 4) pe_str (nomark _)) (pss_one (ps_set (i := 3) sc_l_holds.nd rfl (.inl rfl) (pe_op op_catS (pe_slice sl_tupS (pv 3) po_none (po_some (pe_un un_neg pe_int))) (pe_tup (pa_cons (pe_callB (cr_maxT rfl) (by rfl) T.m_max (by decide +kernel) (pa_cons (pe_slice sl_tupS (pv 3) (po_some (pe_un un_neg pe_int)) po_none) pa_nil)) pa_nil))))) (pss_one (ps_if (pt_cmpR op_eq (pv 4) pe_str (nomark _)) (pss_one (ps_set (i := 3) sc_l_holds.nd rfl (.inl rfl) (pe_op op_catS (pe_slice sl_tupS (pv 3) po_none (po_some (pe_un un_neg pe_int))) (pe_tup (pa_cons (pe_callTy call_int1 (by rfl) T.m_int (by decide +kernel) (pa_cons (pe_cmpR op_eq (pe_ix ix_tup (pv 3) (pe_un un_neg pe_int) (fun _ _ => rfl)) (pe_ix ix_tup (pv 3) (pe_un un_neg pe_int) (fun _ _ => rfl)) (nomark _)) pa_nil)) pa_nil))))) (pss_one (ps_if (PW.pt (pw_or (pt_cmpR op_eq (pv 4) pe_str (nomark _)) (pw_or1 (pt_cmpR op_eq (pv 4) pe_str (nomark _))))) (pss_one (ps_set (i := 3) sc_l_holds.nd rfl (.inl rfl) (pe_op op_catS (pv 3) (pe_tup (pa_cons (pe_callTy call_int1 (by rfl) T.m_int (by decide +kernel) (pa_cons (pe_cmpR op_eq (pv 4) pe_str (nomark _)) pa_nil)) pa_nil))))) (pss_one (ps_set (i := 3) sc_l_holds.nd rfl (.inl rfl) (pe_op op_catS (pv 3) (pe_tup (pa_cons (pe_callTy call_int_str (by rfl) T.m_int (by decide +kernel) (pa_cons (pe_ix ix_str (pv 2) (pe_bm PySem.F.plainAttrs_str PySem.F.slot_str_find PySem.F.type_str_find mt_find (pv 0) (pa_cons (pv 4) pa_nil)) (fun _ _ => rfl)) pa_nil)) pa_nil))))))))))))))))
      (pss_one (ps_ret (pe_cmpR op_eq (pe_ix ix_tup (pv 3) pe_int (fun _ _ => rfl)) pe_int (nomark _)))))), ?_⟩
    refine ⟨by decide, fun l nl => ?_⟩
    have S0 := same_upd (o := .tup []) nl
    refine ⟨_, rfl, a, rfl, ⟨_, Same.tup S0 hA⟩, for_tup (K := K) (a := a) (xs := ws.map wv) (fun i σ H' => ∃ (l : Addr) (x4 : Option V) (st : List Bool), σ = [some (.str (tx cs)), some (.ref a), some (.str (wtx bs)), some (.ref l), x4] ∧ SqT K H' l (hq st) ∧ ht st.length (ws.drop i) = some 1 ∧ run (vl cs bs) st (ws.drop i) = [sval (vl cs bs) ws] ∧ st.length ≤ i ∧ Same H H') ⟨l, none, [], rfl, sqt_upd, hY.ht, run_sy _ hY, Nat.le_refl _, S0⟩ (fun i σ H' _ ⟨_, _, _, _, _, _, _, _, e⟩ => Same.tup e hA) ?_ ?_⟩
    · rintro i x σ H1 hx ⟨l, x4, st, rfl, h1, h2, h3, h4, s1⟩
      have hi : i < ws.length := by
        have := (List.getElem?_eq_some_iff.mp hx).1
        rw [List.length_map] at this
        exact this
      obtain ⟨w, hw, rfl⟩ : ∃ w, ws[i]? = some w ∧ x = wv w := by
        rw [List.getElem?_map, List.getElem?_eq_getElem hi] at hx
        exact ⟨_, List.getElem?_eq_getElem hi, (Option.some.inj hx).symm⟩
      have ed : ws.drop i = w :: ws.drop (i + 1) := by
        rw [List.drop_eq_getElem_cons hi]
        rw [List.getElem?_eq_getElem hi] at hw
        rw [Option.some.inj hw]
      rw [ed] at h2 h3
      have h2' := ht_step (vl cs bs) h2
      rw [run_cons] at h3
      have sz : ∀ {n : Nat}, n ≤ i → n ≤ 10000 := fun h => by omega
      refine ⟨_, rfl, rfl, _, rfl, iteW (w := w) (u := .nt) rfl (fun e => ?_) (fun e => ?_)⟩
      · have e : w = .nt := e
        subst e
        obtain ⟨b, s, rfl⟩ := ht_nt h2
        rw [hq_cons] at h1
        refine ⟨_, rfl, 1, rfl, _, rfl, l, _, rfl, h1, fun p1 H2 t2 s2 => ?_⟩
        rw [cut_last _ (by simp), List.dropLast_concat] at t2
        have h1' := Same.tup s2 h1
        refine ⟨_, rfl, 1, rfl, l, _, -1, .int (bi b), rfl, rfl, h1', atI_last _ _, _, _, rfl, rfl, by show 1 ≤ sizeLine; decide, fun p3 n3 => ?_⟩
        have s3 := same_upd (o := .tup [.int (1 - bi b)]) n3
        refine ⟨p1, p3, _, _, rfl, rfl, Same.tup s3 t2, sqt_upd, ?_, fun p4 H4 t4 s4 => ?_⟩
        · rw [hq_len]
          simp only [List.length_cons, List.length_nil] at h4 ⊢
          omega
        · have eb : 1 - bi b = bi (!b) := by cases b <;> rfl
          have t4 : SqT K H4 p4 (hq s ++ [.int (1 - bi b)]) := t4
          rw [eb, ← hq_cons] at t4
          exact ⟨p4, _, (!b) :: s, rfl, t4, h2', h3, by simp only [List.length_cons] at h4 ⊢; omega, ((s1.trans s2).trans s3).trans s4⟩
      refine ⟨_, rfl, rfl, _, rfl, iteW (w := w) (u := .an) rfl (fun e1 => ?_) (fun e1 => ?_)⟩
      · have e : w = .an := e1
        subst e
        obtain ⟨b, c, s, rfl⟩ := ht_jn .an h2
        rw [hq_cons, hq_cons] at h1
        refine ⟨_, rfl, 2, rfl, _, rfl, l, _, rfl, h1, fun p1 H2 t2 s2 => ?_⟩
        rw [cut2.1] at t2
        have h1' := Same.tup s2 h1
        refine ⟨_, rfl, 2, rfl, l, _, -2, .int (bi c), rfl, rfl, h1', at_last2, _, rfl, 1, rfl, l, _, -1, .int (bi b), rfl, rfl, h1', atI_last _ _, _, _, rfl, rfl, .inl (by cases c <;> exact ⟨by decide, by decide⟩), by show 1 ≤ sizeLine; decide, fun p3 n3 => ?_⟩
        have s3 := same_upd (o := .tup [.int (bi c * bi b)]) n3
        refine ⟨p1, p3, _, _, rfl, rfl, Same.tup s3 t2, sqt_upd, ?_, fun p4 H4 t4 s4 => ?_⟩
        · rw [hq_len]
          simp only [List.length_cons, List.length_nil] at h4 ⊢
          omega
        · have eb : bi c * bi b = bi (c && b) := by cases b <;> cases c <;> rfl
          have t4 : SqT K H4 p4 (hq s ++ [.int (bi c * bi b)]) := t4
          rw [eb, ← hq_cons] at t4
          exact ⟨p4, _, (c && b) :: s, rfl, t4, h2', h3, by simp only [List.length_cons] at h4 ⊢; omega, ((s1.trans s2).trans s3).trans s4⟩
      refine ⟨_, rfl, rfl, _, rfl, iteW (w := w) (u := .orr) rfl (fun e2 => ?_) (fun e2 => ?_)⟩
      · have e : w = .orr := e2
        subst e
        obtain ⟨b, c, s, rfl⟩ := ht_jn .orr h2
        rw [hq_cons, hq_cons] at h1
        refine ⟨_, rfl, 2, rfl, _, rfl, l, _, rfl, h1, fun p1 H2 t2 s2 => ?_⟩
        rw [cut2.1] at t2
        have h1' := Same.tup s2 h1
        refine ⟨_, rfl, 2, rfl, _, rfl, l, _, rfl, h1', fun p3 H3 t3 s3 => ?_⟩
        rw [cut2.2] at t3
        refine ⟨p3, [bi c, bi b], rfl, t3, by show 0 < 2; decide, fun m m1 m2 => ?_⟩
        refine ⟨by show 1 ≤ sizeLine; decide, fun p5 n5 => ?_⟩
        have s5 := same_upd (o := .tup [.int m]) n5
        refine ⟨p1, p5, _, _, rfl, rfl, Same.tup (s3.trans s5) t2, sqt_upd, ?_, fun p4 H4 t4 s4 => ?_⟩
        · rw [hq_len]
          simp only [List.length_cons, List.length_nil] at h4 ⊢
          omega
        · have eb : m = bi (c || b) := by
            have a1 := m2 (bi c) (by simp)
            have a2 := m2 (bi b) (by simp)
            have a3 : m = bi c ∨ m = bi b := by simpa using m1
            cases b <;> cases c <;> simp [bi] at a1 a2 a3 ⊢ <;> omega
          have t4 : SqT K H4 p4 (hq s ++ [.int (m)]) := t4
          rw [eb, ← hq_cons] at t4
          exact ⟨p4, _, (c || b) :: s, rfl, t4, h2', h3, by simp only [List.length_cons] at h4 ⊢; omega, (((s1.trans s2).trans s3).trans s5).trans s4⟩
      refine ⟨_, rfl, rfl, _, rfl, iteW (w := w) (u := .sm) rfl (fun e3 => ?_) (fun e3 => ?_)⟩
      · have e : w = .sm := e3
        subst e
        obtain ⟨b, c, s, rfl⟩ := ht_jn .sm h2
        rw [hq_cons, hq_cons] at h1
        refine ⟨_, rfl, 2, rfl, _, rfl, l, _, rfl, h1, fun p1 H2 t2 s2 => ?_⟩
        rw [cut2.1] at t2
        have h1' := Same.tup s2 h1
        refine ⟨_, rfl, 2, rfl, l, _, -2, .int (bi c), rfl, rfl, h1', at_last2, _, rfl, 1, rfl, l, _, -1, .int (bi b), rfl, rfl, h1', atI_last _ _, rfl, .inr ⟨_, rfl, by show 1 ≤ sizeLine; decide, fun p3 n3 => ?_⟩⟩
        have s3 := same_upd (o := .tup [.int (if decide (V.int (bi c) = V.int (bi b)) = true then 1 else 0)]) n3
        refine ⟨p1, p3, _, _, rfl, rfl, Same.tup s3 t2, sqt_upd, ?_, fun p4 H4 t4 s4 => ?_⟩
        · rw [hq_len]
          simp only [List.length_cons, List.length_nil] at h4 ⊢
          omega
        · have eb : (if decide (V.int (bi c) = V.int (bi b)) = true then (1 : Int) else 0) = bi (c == b) := by cases b <;> cases c <;> rfl
          have t4 : SqT K H4 p4 (hq s ++ [.int (if decide (V.int (bi c) = V.int (bi b)) = true then 1 else 0)]) := t4
          rw [eb, ← hq_cons] at t4
          exact ⟨p4, _, (c == b) :: s, rfl, t4, h2', h3, by simp only [List.length_cons] at h4 ⊢; omega, ((s1.trans s2).trans s3).trans s4⟩
      have hf : Lf cs w := by
        cases w with
        | lt c => exact .lt (hY.lt c (List.mem_of_getElem? hw))
        | yes => exact .yes
        | no => exact .no
        | nt => exact absurd rfl e
        | an => exact absurd rfl e1
        | orr => exact absurd rfl e2
        | sm => exact absurd rfl e3
      have es : stp (vl cs bs) st w = lv (vl cs bs) w :: st := by cases hf <;> rfl
      rw [es] at h2' h3
      have fin : ∀ (H2 : Hp) (p : Addr) (z : Int), z = bi (lv (vl cs bs) w) → Same H1 H2 → SqT K H2 p [.int z] → rCatS K (.ref l) (.ref p) H2 (fun x H3 => ∃ (l : Addr) (x4 : Option V) (st : List Bool), [some (.str (tx cs)), some (.ref a), some (.str (wtx bs)), some x, some (wv w)] = [some (.str (tx cs)), some (.ref a), some (.str (wtx bs)), some (.ref l), x4] ∧ SqT K H3 l (hq st) ∧ ht st.length (ws.drop (i + 1)) = some 1 ∧ run (vl cs bs) st (ws.drop (i + 1)) = [sval (vl cs bs) ws] ∧ st.length ≤ i + 1 ∧ Same H H3) := by
        intro H2 p z ez s2 hp
        subst ez
        refine ⟨l, p, _, _, rfl, rfl, Same.tup s2 h1, hp, ?_, fun p4 H4 t4 s4 => ?_⟩
        · rw [hq_len]
          show st.length + 1 ≤ 100000
          omega
        · rw [← hq_cons] at t4
          exact ⟨p4, _, lv (vl cs bs) w :: st, rfl, t4, h2', h3, by rw [List.length_cons]; omega, (s1.trans s2).trans s4⟩
      have yn : ∀ (k : Bool), (k = decide (w = .yes)) → w = .yes ∨ w = .no → (if k = true then (1 : Int) else 0) = bi (lv (vl cs bs) w) := by
        intro k hk h
        rcases h with rfl | rfl <;> rw [hk] <;> rfl
      refine ⟨_, rfl, rfl, _, rfl, iteW (w := w) (u := .yes) rfl (fun e4 => ?_) (fun e4 => ?_)⟩
      · have e : w = .yes := e4
        refine ⟨_, rfl, _, rfl, rfl, .inr ⟨_, rfl, by show 1 ≤ sizeLine; decide, fun p n => ?_⟩⟩
        exact fin _ p _ (yn _ (wd_eq w .yes rfl) (.inl e)) (same_upd n) sqt_upd
      refine ⟨_, rfl, rfl, _, rfl, iteW (w := w) (u := .no) rfl (fun e5 => ?_) (fun e5 => ?_)⟩
      · have e : w = .no := e5
        refine ⟨_, rfl, _, rfl, rfl, .inr ⟨_, rfl, by show 1 ≤ sizeLine; decide, fun p n => ?_⟩⟩
        exact fin _ p _ (yn _ (wd_eq w .yes rfl) (.inr e)) (same_upd n) sqt_upd
      cases hf with
      | yes => exact absurd rfl e4
      | no => exact absurd rfl e5
      | @lt c hc =>
        obtain ⟨j, g1, g2, g3, g4⟩ := letter_at hc
        have hj : j < bs.length := by
          rw [← hl]
          exact (List.getElem?_eq_some_iff.mp g2).1
        have hb : bs[j]? = some (vl cs bs c) := by
          unfold vl
          rw [g1, List.getD_eq_getElem?_getD, List.getElem?_eq_getElem hj]
          rfl
        refine ⟨_, rfl, _, rfl, _, rfl, rfl, _, rfl, tx cs, sg c, rfl, rfl, wtx bs, (j : Int), bc (vl cs bs c), rfl, ?_, ?_, ?_, sg (bc (vl cs bs c)), bi (vl cs bs c), rfl, bc_int _, by show 1 ≤ 640; decide, by show 1 ≤ sizeLine; decide, fun p n => fin _ p _ rfl (same_upd n) sqt_upd⟩
        · rw [g3]
        · show (bs.map bc).length ≤ sizeLine
          rw [List.length_map]
          exact Nat.le_trans h100 (by decide)
        · refine atI_nat ?_
          show (bs.map bc)[j]? = _
          rw [List.getElem?_map, hb]
          rfl
    · rintro σ H1 ⟨l, x4, st, rfl, h1, h2, h3, h4, s1⟩
      rw [List.length_map, List.drop_length] at h2 h3
      have h3 : st = [sval (vl cs bs) ws] := h3
      subst h3
      refine ⟨_, rfl, l, _, 0, .int (bi (sval (vl cs bs) ws)), rfl, rfl, h1, rfl, rfl, ?_⟩
      have : decide (V.int (bi (sval (vl cs bs) ws)) = V.int 1) = sval (vl cs bs) ws := by cases sval (vl cs bs) ws <;> rfl
      rw [this]
      exact q _ s1
end
end B

namespace B
open PySem PySem.Spec PyProof.Rows L2

def sp_l_turned (K : PySem.W.Frag) : Sp := fun vs H Q _ => ∃ (a : Addr) (p : Int × Nat), vs = [.ref a] ∧ SqT K H a [.int p.1, .int p.2] ∧ ∀ (H' : Hp) (r : Addr), SqT K H' r [.int (negF p).1, .int (negF p).2] → H r = none → Same H H' → Q (.ref r) H'

section
variable {P : Program} {w : World} {K : PySem.W.Frag} {mg : Str → Option Value} {base : Heap}
theorem ok_l_turned (T : Tx K mg w) (U : Unl P base) : FnOk P w K mg base CX0 35 T.l_turned.f T.l_turned.fd ["_law_one"] (sp_l_turned K) := by
  refine T.l_turned.F.ok sc_l_turned (fun vs H Q E h => ?_) (fun cdv A outer s H vs Q E hr h => ?_)
  · obtain ⟨a, p, rfl, tA, q⟩ := h
    rfl
  · obtain ⟨a, p, rfl, tA, q⟩ := h
    refine ⟨_, (pss_one (ps_ret (pe_tup (pa_cons (pe_op op_sub pe_int (pe_ix ix_tup (pv 0) pe_int (fun _ _ => rfl))) (pa_cons (pe_ix ix_tup (pv 0) pe_int (fun _ _ => rfl)) pa_nil))))), ?_⟩
    refine ⟨_, rfl, a, _, 0, .int p.1, rfl, rfl, tA, rfl, _, _, rfl, rfl, _, rfl, a, _, 1, .int p.2, rfl, rfl, tA, rfl, by show 2 ≤ sizeLine; decide, fun r nr => ?_⟩
    have s1 := same_upd (o := .tup [.int (0 - p.1), .int p.2]) nr
    refine q _ r ?_ nr s1
    have e : (negF p).1 = 0 - p.1 := (Int.zero_sub p.1).symm
    rw [e]
    exact sqt_upd
end
end B

namespace B
open PySem PySem.Spec PyProof.Rows L2

def sp_l_put (K : PySem.W.Frag) : Sp := fun vs H Q _ => ∃ (a : Addr) (j : Nat) (v : V) (xs : List V), vs = [.ref a, .int j, v] ∧ SqT K H a xs ∧ xs.length ≤ 1000 ∧ ∀ (H' : Hp) (p : Addr), SqT K H' p (xs.take j ++ [v] ++ xs.drop (j + 1)) → Same H H' → Q (.ref p) H'

section
variable {P : Program} {w : World} {K : PySem.W.Frag} {mg : Str → Option Value} {base : Heap}
theorem ok_l_put (T : Tx K mg w) (U : Unl P base) : FnOk P w K mg base CX0 35 T.l_put.f T.l_put.fd ["_law_row", "_law_at", "_law_thing"] (sp_l_put K) := by
  refine T.l_put.F.ok sc_l_put (fun vs H Q E h => ?_) (fun cdv A outer s H vs Q E hr h => ?_)
  · obtain ⟨a, j, v, xs, rfl, tA, hl, q⟩ := h
    rfl
  · obtain ⟨a, j, v, xs, rfl, tA, hl, q⟩ := h
    refine ⟨_, (pss_one (ps_ret (pe_op op_catS (pe_op op_catS (pe_slice sl_tupS (pv 0) po_none (po_some (pv 1))) (pe_tup (pa_cons (pv 2) pa_nil))) (pe_slice sl_tupS (pv 0) (po_some (pe_op op_add (pv 1) pe_int)) po_none)))), ?_⟩
    refine ⟨_, rfl, _, rfl, (j : Int), rfl, a, xs, rfl, tA, fun c1 H3 t3 s3 => ?_⟩
    refine ⟨_, rfl, by show 1 ≤ sizeLine; decide, fun c2 n2 => ?_⟩
    have s4 := same_upd (o := .tup [v]) n2
    refine ⟨c1, c2, _, [v], rfl, rfl, Same.tup s4 t3, sqt_upd, by rw [cut_take, List.length_take]; show min j xs.length + 1 ≤ 100000; omega, fun c3 H5 t5 s5 => ?_⟩
    refine ⟨_, rfl, _, rfl, _, _, rfl, rfl, ((j + 1 : Nat) : Int), rfl, a, xs, rfl, Same.tup (s3.trans (s4.trans s5)) tA, fun c4 H6 t6 s6 => ?_⟩
    refine ⟨c3, c4, _, _, rfl, rfl, Same.tup s6 t5, t6, by rw [cut_take, cut_drop, List.length_append, List.length_take, List.length_drop]; show min j xs.length + 1 + (xs.length - (j + 1)) ≤ 100000; omega, fun c5 H7 t7 s7 => ?_⟩
    rw [cut_take, cut_drop] at t7
    exact q _ c5 t7 (s3.trans (s4.trans (s5.trans (s6.trans s7))))
end
end B

namespace B
open PySem PySem.Spec PyProof.Rows L2

def sp_l_class (K : PySem.W.Frag) : SpE := fun a cls d vs H Q _ => ∃ (D : Addr) (nm : Str), cls = .ref D ∧ vs = [.ref a] ∧ DOk H d ∧ ExcC K D ∧ PySem.W.kitOne K (.ref D) (.type "ValueError") = some true ∧ KindOf K D nm ∧ (nm = "NoDeed" ∨ nm = "NoHolder" ∨ nm = "NoBet" ∨ nm = "NoStake" ∨ nm = "NoTicket" ∨ nm = "NoCover" ∨ nm = "NoSaying" ∨ nm = "NotAlike" ∨ nm = "NoWorld" ∨ nm = "NoStep" ∨ nm = "TooLong" ∨ nm = "TooMany" ∨ nm = "Unfair") ∧ ∀ H', Same H H' → Q (.str nm) H'

section
variable {P : Program} {w : World} {K : PySem.W.Frag} {mg : Str → Option Value} {base : Heap}
theorem ok_l_class (T : Tx K mg w) (U : Unl P base) : FnE P w K mg base 35 T.l_class.f T.l_class.fd ["_law_error"] (sp_l_class K) := by
  refine fun_okE T.l_class.F sc_l_class (fun ea cls d vs H Q E h => ?_) (fun cdv A outer s H vs Q E ea eo cls d hr hz hf h => ?_)
  · obtain ⟨D, nm, rfl, rfl, dk, ec, kv, hK, hn, q⟩ := h
    rfl
  · obtain ⟨D, nm, rfl, rfl, dk, ec, kv, hK, hn, q⟩ := h
    refine ⟨_, (pss_cons (ps_set (i := 1) sc_l_class.nd rfl (.inl rfl) (pe_lst (pa_cons (pe_callB (call_isE (a := ea) (List.mem_singleton.mpr rfl) hz hf) (by rfl) T.m_isinstance (by decide +kernel) (pa_cons (pv 0) (pa_cons (pe_glob (v := .ref T.x_NoDeed.C) (by rfl) T.x_NoDeed.g rfl) pa_nil))) (pa_cons (pe_callB (call_isE (a := ea) (List.mem_singleton.mpr rfl) hz hf) (by rfl) T.m_isinstance (by decide +kernel) (pa_cons (pv 0) (pa_cons (pe_glob (v := .ref T.x_NoHolder.C) (by rfl) T.x_NoHolder.g rfl) pa_nil))) (pa_cons (pe_callB (call_isE (a := ea) (List.mem_singleton.mpr rfl) hz hf) (by rfl) T.m_isinstance (by decide +kernel) (pa_cons (pv 0) (pa_cons (pe_glob (v := .ref T.x_NoBet.C) (by rfl) T.x_NoBet.g rfl) pa_nil))) pa_nil)))))
      (pss_cons (ps_set (i := 1) sc_l_class.nd rfl (.inl rfl) (pe_op op_cat (pv 1) (pe_lst (pa_cons (pe_callB (call_isE (a := ea) (List.mem_singleton.mpr rfl) hz hf) (by rfl) T.m_isinstance (by decide +kernel) (pa_cons (pv 0) (pa_cons (pe_glob (v := .ref T.x_NoStake.C) (by rfl) T.x_NoStake.g rfl) pa_nil))) (pa_cons (pe_callB (call_isE (a := ea) (List.mem_singleton.mpr rfl) hz hf) (by rfl) T.m_isinstance (by decide +kernel) (pa_cons (pv 0) (pa_cons (pe_glob (v := .ref T.x_NoTicket.C) (by rfl) T.x_NoTicket.g rfl) pa_nil))) (pa_cons (pe_callB (call_isE (a := ea) (List.mem_singleton.mpr rfl) hz hf) (by rfl) T.m_isinstance (by decide +kernel) (pa_cons (pv 0) (pa_cons (pe_glob (v := .ref T.x_NoCover.C) (by rfl) T.x_NoCover.g rfl) pa_nil))) pa_nil))))))
      (pss_cons (ps_set (i := 1) sc_l_class.nd rfl (.inl rfl) (pe_op op_cat (pv 1) (pe_lst (pa_cons (pe_callB (call_isE (a := ea) (List.mem_singleton.mpr rfl) hz hf) (by rfl) T.m_isinstance (by decide +kernel) (pa_cons (pv 0) (pa_cons (pe_glob (v := .ref T.x_NoSaying.C) (by rfl) T.x_NoSaying.g rfl) pa_nil))) (pa_cons (pe_callB (call_isE (a := ea) (List.mem_singleton.mpr rfl) hz hf) (by rfl) T.m_isinstance (by decide +kernel) (pa_cons (pv 0) (pa_cons (pe_glob (v := .ref T.x_NotAlike.C) (by rfl) T.x_NotAlike.g rfl) pa_nil))) (pa_cons (pe_callB (call_isE (a := ea) (List.mem_singleton.mpr rfl) hz hf) (by rfl) T.m_isinstance (by decide +kernel) (pa_cons (pv 0) (pa_cons (pe_glob (v := .ref T.x_NoWorld.C) (by rfl) T.x_NoWorld.g rfl) pa_nil))) pa_nil))))))
      (pss_cons (ps_set (i := 1) sc_l_class.nd rfl (.inl rfl) (pe_op op_cat (pv 1) (pe_lst (pa_cons (pe_callB (call_isE (a := ea) (List.mem_singleton.mpr rfl) hz hf) (by rfl) T.m_isinstance (by decide +kernel) (pa_cons (pv 0) (pa_cons (pe_glob (v := .ref T.x_NoStep.C) (by rfl) T.x_NoStep.g rfl) pa_nil))) (pa_cons (pe_callB (call_isE (a := ea) (List.mem_singleton.mpr rfl) hz hf) (by rfl) T.m_isinstance (by decide +kernel) (pa_cons (pv 0) (pa_cons (pe_glob (v := .ref T.x_TooLong.C) (by rfl) T.x_TooLong.g rfl) pa_nil))) (pa_cons (pe_callB (call_isE (a := ea) (List.mem_singleton.mpr rfl) hz hf) (by rfl) T.m_isinstance (by decide +kernel) (pa_cons (pv 0) (pa_cons (pe_glob (v := .ref T.x_TooMany.C) (by rfl) T.x_TooMany.g rfl) pa_nil))) pa_nil))))))
      (pss_cons (ps_expr (pe_bm PySem.F.plainAttrs_list PySem.F.slot_list_append PySem.F.type_list_append mt_append (pv 1) (pa_cons (pe_callB (call_isE (a := ea) (List.mem_singleton.mpr rfl) hz hf) (by rfl) T.m_isinstance (by decide +kernel) (pa_cons (pv 0) (pa_cons (pe_glob (v := .ref T.x_Unfair.C) (by rfl) T.x_Unfair.g rfl) pa_nil))) pa_nil)))
      (pss_cons (ps_set (i := 2) sc_l_class.nd rfl (.inl rfl) (pe_lst (pa_cons pe_str (pa_cons pe_str (pa_cons pe_str (pa_cons pe_str (pa_cons pe_str (pa_cons pe_str (pa_cons pe_str (pa_cons pe_str (pa_cons pe_str pa_nil)))))))))))
      (pss_cons (ps_set (i := 2) sc_l_class.nd rfl (.inl rfl) (pe_op op_cat (pv 2) (pe_lst (pa_cons pe_str (pa_cons pe_str (pa_cons pe_str (pa_cons pe_str pa_nil)))))))
      (pss_cons (ps_if (PW.pt (pw_or (pt_not (pt_val (pe_callB (call_isE (a := ea) (List.mem_singleton.mpr rfl) hz hf) (by rfl) T.m_isinstance (by decide +kernel) (pa_cons (pv 0) (pa_cons (pe_bltn (v := .ty "ValueError") (u := .type "ValueError") (by rfl) T.m_ValueError (by decide +kernel) rfl) pa_nil))))) (pw_or (pt_val (pe_callB (call_isET (a := ea) (List.mem_singleton.mpr rfl) hz hf) (by rfl) T.m_isinstance (by decide +kernel) (pa_cons (pv 0) (pa_cons (pe_tup (pa_cons (pe_glob (v := .ref T.x_Fair.C) (by rfl) T.x_Fair.g rfl) (pa_cons (pe_glob (v := .ref T.x_NoText.C) (by rfl) T.x_NoText.g rfl) pa_nil))) pa_nil)))) (pw_or1 (pt_cmpR op_ne (pe_bm PySem.F.plainAttrs_list PySem.F.slot_list_count PySem.F.type_list_count mt_countB (pv 1) (pa_cons pe_bl pa_nil)) pe_int (nomark _)))))) (pss_one (ps_ret pe_str)) pss_nil)
      (pss_one (ps_ret (pe_ix ix_list (pv 2) (pe_bm PySem.F.plainAttrs_list PySem.F.slot_list_index PySem.F.type_list_index mt_index (pv 1) (pa_cons pe_bl pa_nil)) (fun _ _ => rfl)))))))))))), ?_⟩
    have no : ∀ x ∈ (["Fair", "NoText"] : List Str), ∀ C, XIs K x C → PySem.W.kitOne K (.ref D) (.ref C) = some false := fun x hx C hC => by
      rw [hK x (by
        simp only [List.mem_cons, List.not_mem_nil, or_false] at hx ⊢
        rcases hx with h | h <;> simp [h]) C hC]
      congr 1
      simp only [List.mem_cons, List.not_mem_nil, or_false] at hx
      rcases hn with rfl | rfl | rfl | rfl | rfl | rfl | rfl | rfl | rfl | rfl | rfl | rfl | rfl <;> rcases hx with rfl | rfl <;> decide +kernel
    refine ⟨_, rfl, D, _, _, "NoDeed" == nm, rfl, Same.dok (Same.refl _) dk, ec, rfl, .own _, hK "NoDeed" (by simp) _ T.x_NoDeed.ns, ?_⟩
    refine ⟨_, rfl, D, _, _, "NoHolder" == nm, rfl, Same.dok (Same.refl _) dk, ec, rfl, .own _, hK "NoHolder" (by simp) _ T.x_NoHolder.ns, ?_⟩
    refine ⟨_, rfl, D, _, _, "NoBet" == nm, rfl, Same.dok (Same.refl _) dk, ec, rfl, .own _, hK "NoBet" (by simp) _ T.x_NoBet.ns, by show 3 ≤ sizeLine; decide, fun A0 nA0 => ?_⟩
    have a0 := same_upd (o := .lst [.bl ("NoDeed" == nm), .bl ("NoHolder" == nm), .bl ("NoBet" == nm)]) nA0
    have hR0 : tgt a0 A0 = some (.lst [.bl ("NoDeed" == nm), .bl ("NoHolder" == nm), .bl ("NoBet" == nm)]) := upd_same
    refine ⟨_, rfl, ?_⟩
    refine ⟨_, rfl, D, _, _, "NoStake" == nm, rfl, Same.dok a0 dk, ec, rfl, .own _, hK "NoStake" (by simp) _ T.x_NoStake.ns, ?_⟩
    refine ⟨_, rfl, D, _, _, "NoTicket" == nm, rfl, Same.dok a0 dk, ec, rfl, .own _, hK "NoTicket" (by simp) _ T.x_NoTicket.ns, ?_⟩
    refine ⟨_, rfl, D, _, _, "NoCover" == nm, rfl, Same.dok a0 dk, ec, rfl, .own _, hK "NoCover" (by simp) _ T.x_NoCover.ns, by show 3 ≤ sizeLine; decide, fun A1 nA1 => ?_⟩
    have a1 := same_upd (o := .lst [.bl ("NoStake" == nm), .bl ("NoTicket" == nm), .bl ("NoCover" == nm)]) nA1
    have S1 := a0.trans a1
    refine ⟨A0, A1, [.bl ("NoDeed" == nm), .bl ("NoHolder" == nm), .bl ("NoBet" == nm)], [.bl ("NoStake" == nm), .bl ("NoTicket" == nm), .bl ("NoCover" == nm)], rfl, rfl, a1 _ _ hR0, upd_same, by show 6 ≤ sizeLine; decide, fun R1 nR1 => ?_⟩
    have r1 := same_upd (o := .lst ([.bl ("NoDeed" == nm), .bl ("NoHolder" == nm), .bl ("NoBet" == nm)] ++ [.bl ("NoStake" == nm), .bl ("NoTicket" == nm), .bl ("NoCover" == nm)])) nR1
    have hR1 : tgt r1 R1 = some (.lst [.bl ("NoDeed" == nm), .bl ("NoHolder" == nm), .bl ("NoBet" == nm), .bl ("NoStake" == nm), .bl ("NoTicket" == nm), .bl ("NoCover" == nm)]) := upd_same
    have T1 := S1.trans r1
    refine ⟨_, rfl, ?_⟩
    refine ⟨_, rfl, D, _, _, "NoSaying" == nm, rfl, Same.dok T1 dk, ec, rfl, .own _, hK "NoSaying" (by simp) _ T.x_NoSaying.ns, ?_⟩
    refine ⟨_, rfl, D, _, _, "NotAlike" == nm, rfl, Same.dok T1 dk, ec, rfl, .own _, hK "NotAlike" (by simp) _ T.x_NotAlike.ns, ?_⟩
    refine ⟨_, rfl, D, _, _, "NoWorld" == nm, rfl, Same.dok T1 dk, ec, rfl, .own _, hK "NoWorld" (by simp) _ T.x_NoWorld.ns, by show 3 ≤ sizeLine; decide, fun A2 nA2 => ?_⟩
    have a2 := same_upd (o := .lst [.bl ("NoSaying" == nm), .bl ("NotAlike" == nm), .bl ("NoWorld" == nm)]) nA2
    have S2 := T1.trans a2
    refine ⟨R1, A2, [.bl ("NoDeed" == nm), .bl ("NoHolder" == nm), .bl ("NoBet" == nm), .bl ("NoStake" == nm), .bl ("NoTicket" == nm), .bl ("NoCover" == nm)], [.bl ("NoSaying" == nm), .bl ("NotAlike" == nm), .bl ("NoWorld" == nm)], rfl, rfl, a2 _ _ hR1, upd_same, by show 9 ≤ sizeLine; decide, fun R2 nR2 => ?_⟩
    have r2 := same_upd (o := .lst ([.bl ("NoDeed" == nm), .bl ("NoHolder" == nm), .bl ("NoBet" == nm), .bl ("NoStake" == nm), .bl ("NoTicket" == nm), .bl ("NoCover" == nm)] ++ [.bl ("NoSaying" == nm), .bl ("NotAlike" == nm), .bl ("NoWorld" == nm)])) nR2
    have hR2 : tgt r2 R2 = some (.lst [.bl ("NoDeed" == nm), .bl ("NoHolder" == nm), .bl ("NoBet" == nm), .bl ("NoStake" == nm), .bl ("NoTicket" == nm), .bl ("NoCover" == nm), .bl ("NoSaying" == nm), .bl ("NotAlike" == nm), .bl ("NoWorld" == nm)]) := upd_same
    have T2 := S2.trans r2
    refine ⟨_, rfl, ?_⟩
    refine ⟨_, rfl, D, _, _, "NoStep" == nm, rfl, Same.dok T2 dk, ec, rfl, .own _, hK "NoStep" (by simp) _ T.x_NoStep.ns, ?_⟩
    refine ⟨_, rfl, D, _, _, "TooLong" == nm, rfl, Same.dok T2 dk, ec, rfl, .own _, hK "TooLong" (by simp) _ T.x_TooLong.ns, ?_⟩
    refine ⟨_, rfl, D, _, _, "TooMany" == nm, rfl, Same.dok T2 dk, ec, rfl, .own _, hK "TooMany" (by simp) _ T.x_TooMany.ns, by show 3 ≤ sizeLine; decide, fun A3 nA3 => ?_⟩
    have a3 := same_upd (o := .lst [.bl ("NoStep" == nm), .bl ("TooLong" == nm), .bl ("TooMany" == nm)]) nA3
    have S3 := T2.trans a3
    refine ⟨R2, A3, [.bl ("NoDeed" == nm), .bl ("NoHolder" == nm), .bl ("NoBet" == nm), .bl ("NoStake" == nm), .bl ("NoTicket" == nm), .bl ("NoCover" == nm), .bl ("NoSaying" == nm), .bl ("NotAlike" == nm), .bl ("NoWorld" == nm)], [.bl ("NoStep" == nm), .bl ("TooLong" == nm), .bl ("TooMany" == nm)], rfl, rfl, a3 _ _ hR2, upd_same, by show 12 ≤ sizeLine; decide, fun R3 nR3 => ?_⟩
    have r3 := same_upd (o := .lst ([.bl ("NoDeed" == nm), .bl ("NoHolder" == nm), .bl ("NoBet" == nm), .bl ("NoStake" == nm), .bl ("NoTicket" == nm), .bl ("NoCover" == nm), .bl ("NoSaying" == nm), .bl ("NotAlike" == nm), .bl ("NoWorld" == nm)] ++ [.bl ("NoStep" == nm), .bl ("TooLong" == nm), .bl ("TooMany" == nm)])) nR3
    have hR3 : tgt r3 R3 = some (.lst [.bl ("NoDeed" == nm), .bl ("NoHolder" == nm), .bl ("NoBet" == nm), .bl ("NoStake" == nm), .bl ("NoTicket" == nm), .bl ("NoCover" == nm), .bl ("NoSaying" == nm), .bl ("NotAlike" == nm), .bl ("NoWorld" == nm), .bl ("NoStep" == nm), .bl ("TooLong" == nm), .bl ("TooMany" == nm)]) := upd_same
    have T3 := S3.trans r3
    refine ⟨_, rfl, .inl ⟨rfl, _, .inl (.inl hR3)⟩, ?_⟩
    refine ⟨_, rfl, D, _, _, "Unfair" == nm, rfl, Same.dok T3 dk, ec, rfl, .own _, hK "Unfair" (by simp) _ T.x_Unfair.ns, ?_⟩
    refine ⟨R3, [.bl ("NoDeed" == nm), .bl ("NoHolder" == nm), .bl ("NoBet" == nm), .bl ("NoStake" == nm), .bl ("NoTicket" == nm), .bl ("NoCover" == nm), .bl ("NoSaying" == nm), .bl ("NotAlike" == nm), .bl ("NoWorld" == nm), .bl ("NoStep" == nm), .bl ("TooLong" == nm), .bl ("TooMany" == nm)], _, rfl, rfl, hR3, by show 12 < sizeLine; decide, ?_⟩
    have m1 := same_mut (o := .lst ([.bl ("NoDeed" == nm), .bl ("NoHolder" == nm), .bl ("NoBet" == nm), .bl ("NoStake" == nm), .bl ("NoTicket" == nm), .bl ("NoCover" == nm), .bl ("NoSaying" == nm), .bl ("NotAlike" == nm), .bl ("NoWorld" == nm), .bl ("NoStep" == nm), .bl ("TooLong" == nm), .bl ("TooMany" == nm)] ++ [.bl ("Unfair" == nm)])) nR3 r3
    have T4 := S3.trans m1
    have hB : tgt m1 R3 = some (.lst [.bl ("NoDeed" == nm), .bl ("NoHolder" == nm), .bl ("NoBet" == nm), .bl ("NoStake" == nm), .bl ("NoTicket" == nm), .bl ("NoCover" == nm), .bl ("NoSaying" == nm), .bl ("NotAlike" == nm), .bl ("NoWorld" == nm), .bl ("NoStep" == nm), .bl ("TooLong" == nm), .bl ("TooMany" == nm), .bl ("Unfair" == nm)]) := upd_same
    refine ⟨by show 9 ≤ sizeLine; decide, fun W nW => ?_⟩
    have w1 := same_upd (o := .lst [.str "NoDeed", .str "NoHolder", .str "NoBet", .str "NoStake", .str "NoTicket", .str "NoCover", .str "NoSaying", .str "NotAlike", .str "NoWorld"]) nW
    refine ⟨_, rfl, by show 4 ≤ sizeLine; decide, fun W2 nW2 => ?_⟩
    have w2 := same_upd (o := .lst [.str "NoStep", .str "TooLong", .str "TooMany", .str "Unfair"]) nW2
    refine ⟨W, W2, [.str "NoDeed", .str "NoHolder", .str "NoBet", .str "NoStake", .str "NoTicket", .str "NoCover", .str "NoSaying", .str "NotAlike", .str "NoWorld"], [.str "NoStep", .str "TooLong", .str "TooMany", .str "Unfair"], rfl, rfl, w2 _ _ upd_same, upd_same, by show 13 ≤ sizeLine; decide, fun W3 nW3 => ?_⟩
    have w3 := same_upd (o := .lst ([.str "NoDeed", .str "NoHolder", .str "NoBet", .str "NoStake", .str "NoTicket", .str "NoCover", .str "NoSaying", .str "NotAlike", .str "NoWorld"] ++ [.str "NoStep", .str "TooLong", .str "TooMany", .str "Unfair"])) nW3
    have hW : tgt w3 W3 = some (.lst [.str "NoDeed", .str "NoHolder", .str "NoBet", .str "NoStake", .str "NoTicket", .str "NoCover", .str "NoSaying", .str "NotAlike", .str "NoWorld", .str "NoStep", .str "TooLong", .str "TooMany", .str "Unfair"]) := upd_same
    have U := T4.trans (w1.trans (w2.trans w3))
    have hB := (w1.trans (w2.trans w3)) _ _ hB
    refine ⟨_, rfl, D, _, _, true, rfl, Same.dok U dk, ec, rfl, .ty _, kv, _, rfl, iteF ?_⟩
    refine ⟨_, rfl, by show 2 ≤ sizeLine; decide, fun tp n2 => ?_⟩
    have u2 := same_upd (o := .tup [.ref T.x_Fair.C, .ref T.x_NoText.C]) n2
    refine ⟨D, tp, _, _, false, rfl, Same.dok (U.trans u2) dk, ec, rfl, upd_same, (.cons (.own _) (.cons (.own _) .nil)), (kn_cons (no "Fair" (by simp) _ T.x_Fair.ns) (kn_cons (no "NoText" (by simp) _ T.x_NoText.ns) kn_nil)), _, rfl, iteF ?_⟩
    have hB := u2 _ _ hB
    have hW := u2 _ _ hW
    rcases hn with rfl | rfl | rfl | rfl | rfl | rfl | rfl | rfl | rfl | rfl | rfl | rfl | rfl
    · have hB : tgt u2 R3 = some (.lst (([true, false, false, false, false, false, false, false, false, false, false, false, false] : List Bool).map V.bl)) := hB
      have fl : ∀ m, m < 0 → ([true, false, false, false, false, false, false, false, false, false, false, false, false] : List Bool)[m]? = some false := by decide
      refine ⟨_, rfl, .inl ⟨rfl, _, .inl (.inl hB)⟩, R3, [true, false, false, false, false, false, false, false, false, false, false, false, false], true, rfl, rfl, .inl (.inl hB), rfl, _, rfl, iteF ?_⟩
      refine ⟨_, rfl, _, rfl, .inl ⟨rfl, _, .inl (.inl hB)⟩, R3, _, _, 0, .bl true, rfl, rfl, .inl (.inl hB), rfl, rfl, rfl, rfl, (fun m z h e => ?_), W3, _, _, .str "NoDeed", rfl, rfl, .inl (.inl hW), rfl, q _ (U.trans u2)⟩
      rw [List.getElem?_map, fl m h] at e
      cases e
      rfl
    · have hB : tgt u2 R3 = some (.lst (([false, true, false, false, false, false, false, false, false, false, false, false, false] : List Bool).map V.bl)) := hB
      have fl : ∀ m, m < 1 → ([false, true, false, false, false, false, false, false, false, false, false, false, false] : List Bool)[m]? = some false := by decide
      refine ⟨_, rfl, .inl ⟨rfl, _, .inl (.inl hB)⟩, R3, [false, true, false, false, false, false, false, false, false, false, false, false, false], true, rfl, rfl, .inl (.inl hB), rfl, _, rfl, iteF ?_⟩
      refine ⟨_, rfl, _, rfl, .inl ⟨rfl, _, .inl (.inl hB)⟩, R3, _, _, 1, .bl true, rfl, rfl, .inl (.inl hB), rfl, rfl, rfl, rfl, (fun m z h e => ?_), W3, _, _, .str "NoHolder", rfl, rfl, .inl (.inl hW), rfl, q _ (U.trans u2)⟩
      rw [List.getElem?_map, fl m h] at e
      cases e
      rfl
    · have hB : tgt u2 R3 = some (.lst (([false, false, true, false, false, false, false, false, false, false, false, false, false] : List Bool).map V.bl)) := hB
      have fl : ∀ m, m < 2 → ([false, false, true, false, false, false, false, false, false, false, false, false, false] : List Bool)[m]? = some false := by decide
      refine ⟨_, rfl, .inl ⟨rfl, _, .inl (.inl hB)⟩, R3, [false, false, true, false, false, false, false, false, false, false, false, false, false], true, rfl, rfl, .inl (.inl hB), rfl, _, rfl, iteF ?_⟩
      refine ⟨_, rfl, _, rfl, .inl ⟨rfl, _, .inl (.inl hB)⟩, R3, _, _, 2, .bl true, rfl, rfl, .inl (.inl hB), rfl, rfl, rfl, rfl, (fun m z h e => ?_), W3, _, _, .str "NoBet", rfl, rfl, .inl (.inl hW), rfl, q _ (U.trans u2)⟩
      rw [List.getElem?_map, fl m h] at e
      cases e
      rfl
    · have hB : tgt u2 R3 = some (.lst (([false, false, false, true, false, false, false, false, false, false, false, false, false] : List Bool).map V.bl)) := hB
      have fl : ∀ m, m < 3 → ([false, false, false, true, false, false, false, false, false, false, false, false, false] : List Bool)[m]? = some false := by decide
      refine ⟨_, rfl, .inl ⟨rfl, _, .inl (.inl hB)⟩, R3, [false, false, false, true, false, false, false, false, false, false, false, false, false], true, rfl, rfl, .inl (.inl hB), rfl, _, rfl, iteF ?_⟩
      refine ⟨_, rfl, _, rfl, .inl ⟨rfl, _, .inl (.inl hB)⟩, R3, _, _, 3, .bl true, rfl, rfl, .inl (.inl hB), rfl, rfl, rfl, rfl, (fun m z h e => ?_), W3, _, _, .str "NoStake", rfl, rfl, .inl (.inl hW), rfl, q _ (U.trans u2)⟩
      rw [List.getElem?_map, fl m h] at e
      cases e
      rfl
    · have hB : tgt u2 R3 = some (.lst (([false, false, false, false, true, false, false, false, false, false, false, false, false] : List Bool).map V.bl)) := hB
      have fl : ∀ m, m < 4 → ([false, false, false, false, true, false, false, false, false, false, false, false, false] : List Bool)[m]? = some false := by decide
      refine ⟨_, rfl, .inl ⟨rfl, _, .inl (.inl hB)⟩, R3, [false, false, false, false, true, false, false, false, false, false, false, false, false], true, rfl, rfl, .inl (.inl hB), rfl, _, rfl, iteF ?_⟩
      refine ⟨_, rfl, _, rfl, .inl ⟨rfl, _, .inl (.inl hB)⟩, R3, _, _, 4, .bl true, rfl, rfl, .inl (.inl hB), rfl, rfl, rfl, rfl, (fun m z h e => ?_), W3, _, _, .str "NoTicket", rfl, rfl, .inl (.inl hW), rfl, q _ (U.trans u2)⟩
      rw [List.getElem?_map, fl m h] at e
      cases e
      rfl
    · have hB : tgt u2 R3 = some (.lst (([false, false, false, false, false, true, false, false, false, false, false, false, false] : List Bool).map V.bl)) := hB
      have fl : ∀ m, m < 5 → ([false, false, false, false, false, true, false, false, false, false, false, false, false] : List Bool)[m]? = some false := by decide
      refine ⟨_, rfl, .inl ⟨rfl, _, .inl (.inl hB)⟩, R3, [false, false, false, false, false, true, false, false, false, false, false, false, false], true, rfl, rfl, .inl (.inl hB), rfl, _, rfl, iteF ?_⟩
      refine ⟨_, rfl, _, rfl, .inl ⟨rfl, _, .inl (.inl hB)⟩, R3, _, _, 5, .bl true, rfl, rfl, .inl (.inl hB), rfl, rfl, rfl, rfl, (fun m z h e => ?_), W3, _, _, .str "NoCover", rfl, rfl, .inl (.inl hW), rfl, q _ (U.trans u2)⟩
      rw [List.getElem?_map, fl m h] at e
      cases e
      rfl
    · have hB : tgt u2 R3 = some (.lst (([false, false, false, false, false, false, true, false, false, false, false, false, false] : List Bool).map V.bl)) := hB
      have fl : ∀ m, m < 6 → ([false, false, false, false, false, false, true, false, false, false, false, false, false] : List Bool)[m]? = some false := by decide
      refine ⟨_, rfl, .inl ⟨rfl, _, .inl (.inl hB)⟩, R3, [false, false, false, false, false, false, true, false, false, false, false, false, false], true, rfl, rfl, .inl (.inl hB), rfl, _, rfl, iteF ?_⟩
      refine ⟨_, rfl, _, rfl, .inl ⟨rfl, _, .inl (.inl hB)⟩, R3, _, _, 6, .bl true, rfl, rfl, .inl (.inl hB), rfl, rfl, rfl, rfl, (fun m z h e => ?_), W3, _, _, .str "NoSaying", rfl, rfl, .inl (.inl hW), rfl, q _ (U.trans u2)⟩
      rw [List.getElem?_map, fl m h] at e
      cases e
      rfl
    · have hB : tgt u2 R3 = some (.lst (([false, false, false, false, false, false, false, true, false, false, false, false, false] : List Bool).map V.bl)) := hB
      have fl : ∀ m, m < 7 → ([false, false, false, false, false, false, false, true, false, false, false, false, false] : List Bool)[m]? = some false := by decide
      refine ⟨_, rfl, .inl ⟨rfl, _, .inl (.inl hB)⟩, R3, [false, false, false, false, false, false, false, true, false, false, false, false, false], true, rfl, rfl, .inl (.inl hB), rfl, _, rfl, iteF ?_⟩
      refine ⟨_, rfl, _, rfl, .inl ⟨rfl, _, .inl (.inl hB)⟩, R3, _, _, 7, .bl true, rfl, rfl, .inl (.inl hB), rfl, rfl, rfl, rfl, (fun m z h e => ?_), W3, _, _, .str "NotAlike", rfl, rfl, .inl (.inl hW), rfl, q _ (U.trans u2)⟩
      rw [List.getElem?_map, fl m h] at e
      cases e
      rfl
    · have hB : tgt u2 R3 = some (.lst (([false, false, false, false, false, false, false, false, true, false, false, false, false] : List Bool).map V.bl)) := hB
      have fl : ∀ m, m < 8 → ([false, false, false, false, false, false, false, false, true, false, false, false, false] : List Bool)[m]? = some false := by decide
      refine ⟨_, rfl, .inl ⟨rfl, _, .inl (.inl hB)⟩, R3, [false, false, false, false, false, false, false, false, true, false, false, false, false], true, rfl, rfl, .inl (.inl hB), rfl, _, rfl, iteF ?_⟩
      refine ⟨_, rfl, _, rfl, .inl ⟨rfl, _, .inl (.inl hB)⟩, R3, _, _, 8, .bl true, rfl, rfl, .inl (.inl hB), rfl, rfl, rfl, rfl, (fun m z h e => ?_), W3, _, _, .str "NoWorld", rfl, rfl, .inl (.inl hW), rfl, q _ (U.trans u2)⟩
      rw [List.getElem?_map, fl m h] at e
      cases e
      rfl
    · have hB : tgt u2 R3 = some (.lst (([false, false, false, false, false, false, false, false, false, true, false, false, false] : List Bool).map V.bl)) := hB
      have fl : ∀ m, m < 9 → ([false, false, false, false, false, false, false, false, false, true, false, false, false] : List Bool)[m]? = some false := by decide
      refine ⟨_, rfl, .inl ⟨rfl, _, .inl (.inl hB)⟩, R3, [false, false, false, false, false, false, false, false, false, true, false, false, false], true, rfl, rfl, .inl (.inl hB), rfl, _, rfl, iteF ?_⟩
      refine ⟨_, rfl, _, rfl, .inl ⟨rfl, _, .inl (.inl hB)⟩, R3, _, _, 9, .bl true, rfl, rfl, .inl (.inl hB), rfl, rfl, rfl, rfl, (fun m z h e => ?_), W3, _, _, .str "NoStep", rfl, rfl, .inl (.inl hW), rfl, q _ (U.trans u2)⟩
      rw [List.getElem?_map, fl m h] at e
      cases e
      rfl
    · have hB : tgt u2 R3 = some (.lst (([false, false, false, false, false, false, false, false, false, false, true, false, false] : List Bool).map V.bl)) := hB
      have fl : ∀ m, m < 10 → ([false, false, false, false, false, false, false, false, false, false, true, false, false] : List Bool)[m]? = some false := by decide
      refine ⟨_, rfl, .inl ⟨rfl, _, .inl (.inl hB)⟩, R3, [false, false, false, false, false, false, false, false, false, false, true, false, false], true, rfl, rfl, .inl (.inl hB), rfl, _, rfl, iteF ?_⟩
      refine ⟨_, rfl, _, rfl, .inl ⟨rfl, _, .inl (.inl hB)⟩, R3, _, _, 10, .bl true, rfl, rfl, .inl (.inl hB), rfl, rfl, rfl, rfl, (fun m z h e => ?_), W3, _, _, .str "TooLong", rfl, rfl, .inl (.inl hW), rfl, q _ (U.trans u2)⟩
      rw [List.getElem?_map, fl m h] at e
      cases e
      rfl
    · have hB : tgt u2 R3 = some (.lst (([false, false, false, false, false, false, false, false, false, false, false, true, false] : List Bool).map V.bl)) := hB
      have fl : ∀ m, m < 11 → ([false, false, false, false, false, false, false, false, false, false, false, true, false] : List Bool)[m]? = some false := by decide
      refine ⟨_, rfl, .inl ⟨rfl, _, .inl (.inl hB)⟩, R3, [false, false, false, false, false, false, false, false, false, false, false, true, false], true, rfl, rfl, .inl (.inl hB), rfl, _, rfl, iteF ?_⟩
      refine ⟨_, rfl, _, rfl, .inl ⟨rfl, _, .inl (.inl hB)⟩, R3, _, _, 11, .bl true, rfl, rfl, .inl (.inl hB), rfl, rfl, rfl, rfl, (fun m z h e => ?_), W3, _, _, .str "TooMany", rfl, rfl, .inl (.inl hW), rfl, q _ (U.trans u2)⟩
      rw [List.getElem?_map, fl m h] at e
      cases e
      rfl
    · have hB : tgt u2 R3 = some (.lst (([false, false, false, false, false, false, false, false, false, false, false, false, true] : List Bool).map V.bl)) := hB
      have fl : ∀ m, m < 12 → ([false, false, false, false, false, false, false, false, false, false, false, false, true] : List Bool)[m]? = some false := by decide
      refine ⟨_, rfl, .inl ⟨rfl, _, .inl (.inl hB)⟩, R3, [false, false, false, false, false, false, false, false, false, false, false, false, true], true, rfl, rfl, .inl (.inl hB), rfl, _, rfl, iteF ?_⟩
      refine ⟨_, rfl, _, rfl, .inl ⟨rfl, _, .inl (.inl hB)⟩, R3, _, _, 12, .bl true, rfl, rfl, .inl (.inl hB), rfl, rfl, rfl, rfl, (fun m z h e => ?_), W3, _, _, .str "Unfair", rfl, rfl, .inl (.inl hW), rfl, q _ (U.trans u2)⟩
      rw [List.getElem?_map, fl m h] at e
      cases e
      rfl
end
end B

namespace B
open PySem PySem.Spec PyProof.Rows L2

def sp_plus (K : PySem.W.Frag) : Sp := fun vs H Q _ => ∃ (a c : Addr) (t1 t2 : Int) (b1 b2 : Nat), vs = [.ref a, .ref c] ∧ SqT K H a [.int t1, .int b1] ∧ SqT K H c [.int t2, .int b2] ∧ IsF t1 b1 ∧ IsF t2 b2 ∧ Fz t1 b1 400000 ∧ Fz t2 b2 400000 ∧
  ∀ p, H p = none → Q (.ref p) (upd H p (.tup [.int (addT t1 b1 t2 b2), .int (addB t1 b1 t2 b2)]))

section
variable {P : Program} {w : World} {K : PySem.W.Frag} {mg : Str → Option Value} {base : Heap}
theorem ok_plus (T : Tx K mg w) (U : Unl P base) : FnOk P w K mg base CX0 36 T.plus.f T.plus.fd ["one", "other"] (sp_plus K) := by
  refine T.plus.F.ok sc_plus (fun vs H Q E h => ?_) (fun cdv A outer s H vs Q E hr h => ?_)
  · obtain ⟨a, c, t1, t2, b1, b2, rfl, hA, hC, f1, f2, z1, z2, q⟩ := h
    rfl
  · obtain ⟨a, c, t1, t2, b1, b2, rfl, hA, hC, f1, f2, z1, z2, q⟩ := h
    refine ⟨_, (pss_cons (ps_asg (pv 0) (pg_tup rfl (pgs_cons (pg_name (i := 2) sc_plus.nd rfl (.inl rfl)) (pgs_cons (pg_name (i := 3) sc_plus.nd rfl (.inl rfl)) pgs_nil))))
      (pss_cons (ps_asg (pv 1) (pg_tup rfl (pgs_cons (pg_name (i := 4) sc_plus.nd rfl (.inl rfl)) (pgs_cons (pg_name (i := 5) sc_plus.nd rfl (.inl rfl)) pgs_nil))))
      (pss_cons (ps_set (i := 6) sc_plus.nd rfl (.inl rfl) (pe_call (ok_common T U) (hr.mono (by decide)) (by rfl) T.common.g T.common.F.kp T.common.b .nil pass0 (pa_cons (pv 3) (pa_cons (pv 5) pa_nil))))
      (pss_cons (ps_set (i := 7) sc_plus.nd rfl (.inl rfl) (pe_op (op_fdivW U (hr.mono (by decide)) rfl sc_plus.gen sc_plus.co rfl rfl) (pv 3) (pv 6)))
      (pss_cons (ps_set (i := 8) sc_plus.nd rfl (.inl rfl) (pe_op op_add (pe_op op_mulW (pv 2) (pe_op (op_fdivW U (hr.mono (by decide)) rfl sc_plus.gen sc_plus.co rfl rfl) (pv 5) (pv 6))) (pe_op op_mulW (pv 4) (pv 7))))
      (pss_cons (ps_set (i := 9) sc_plus.nd rfl (.inl rfl) (pe_call (ok_common T U) (hr.mono (by decide)) (by rfl) T.common.g T.common.F.kp T.common.b .nil pass0 (pa_cons (pe_callB call_abs (by rfl) T.m_abs (by decide +kernel) (pa_cons (pv 8) pa_nil)) (pa_cons (pv 6) pa_nil))))
      (pss_one (ps_ret (pe_tup (pa_cons (pe_op (op_fdivW U (hr.mono (by decide)) rfl sc_plus.gen sc_plus.co rfl rfl) (pv 8) (pv 9)) (pa_cons (pe_op op_mulW (pv 7) (pe_op (op_fdivW U (hr.mono (by decide)) rfl sc_plus.gen sc_plus.co rfl rfl) (pv 5) (pv 9))) pa_nil))))))))))), ?_⟩
    obtain ⟨m1, m2, g0, d0⟩ := plus_math f1 f2
    have q' : ∀ p, H p = none → Q (.ref p) (upd H p (.tup [.int (plS t1 b1 t2 b2 / (plD t1 b1 t2 b2 : Int)), .int (((b1 / plG b1 b2 : Nat) : Int) * ((b2 / plD t1 b1 t2 b2 : Nat) : Int))])) := by
      rw [m1, ← Int.natCast_mul, m2]
      exact q
    have zG : plG b1 b2 < 2 ^ 400000 := Nat.lt_of_le_of_lt (Nat.gcd_le_left _ f1.pos) z1.b
    have zD : plD t1 b1 t2 b2 < 2 ^ 400000 := Nat.lt_of_le_of_lt (Nat.gcd_le_right _ g0) zG
    have zr : b1 / plG b1 b2 < 2 ^ 400000 := Nat.lt_of_le_of_lt (Nat.div_le_self _ _) z1.b
    have zs : b2 / plG b1 b2 < 2 ^ 400000 := Nat.lt_of_le_of_lt (Nat.div_le_self _ _) z2.b
    have ze : b2 / plD t1 b1 t2 b2 < 2 ^ 400000 := Nat.lt_of_le_of_lt (Nat.div_le_self _ _) z2.b
    have W : ∀ {x : Nat}, x < 2 ^ 400000 → (x : Int).natAbs < 2 ^ 400000 := fun h => by
      rw [Int.natAbs_natCast]
      exact h
    refine ⟨_, rfl, a, _, rfl, hA, rfl, _, _, rfl, _, _, rfl, rfl, ?_⟩
    refine ⟨_, rfl, c, _, rfl, hC, rfl, _, _, rfl, _, _, rfl, rfl, ?_⟩
    refine ⟨_, rfl, _, rfl, b1, b2, rfl, ?_⟩
    refine ⟨_, rfl, _, rfl, _, _, rfl, rfl, wide_div (show (0 : Int) < (plG b1 b2 : Nat) by omega) (W zG) (by decide) (by decide), ?_⟩
    refine ⟨_, rfl, _, rfl, _, rfl, _, _, rfl, rfl, wide_div (show (0 : Int) < (plG b1 b2 : Nat) by omega) (W zG) (by decide) (by decide), _, _, rfl, rfl, wide_mul z1.t (W zs) (by decide) (by decide) (by decide), _, rfl, _, rfl, _, _, rfl, rfl, wide_mul z2.t (W zr) (by decide) (by decide) (by decide), _, _, rfl, rfl, ?_⟩
    refine ⟨_, rfl, plS t1 b1 t2 b2, rfl, _, rfl, (plS t1 b1 t2 b2).natAbs, plG b1 b2, ?_, ?_⟩
    · rw [abs_nat]
      rfl
    exact ⟨_, rfl, _, rfl, plS t1 b1 t2 b2, (plD t1 b1 t2 b2 : Int), rfl, rfl, wide_div (show (0 : Int) < (plD t1 b1 t2 b2 : Nat) by omega) (W zD) (by decide) (by decide), _, rfl, _, rfl, _, rfl, (b2 : Int), (plD t1 b1 t2 b2 : Int), rfl, rfl, wide_div (show (0 : Int) < (plD t1 b1 t2 b2 : Nat) by omega) (W zD) (by decide) (by decide), ((b1 / plG b1 b2 : Nat) : Int), ((b2 / plD t1 b1 t2 b2 : Nat) : Int), rfl, rfl, wide_mul (W zr) (W ze) (by decide) (by decide) (by decide), by show 2 ≤ sizeLine; decide, q'⟩
end
end B

namespace B
open PySem PySem.Spec PyProof.Rows L2

def sp_is_fraction (K : PySem.W.Frag) : Sp := fun vs H Q _ => ∃ (v : V) (d : PyData), vs = [v] ∧ Th K H v d ∧ Q (.bl (isFr d)) H

section
variable {P : Program} {w : World} {K : PySem.W.Frag} {mg : Str → Option Value} {base : Heap}
theorem ok_is_fraction (T : Tx K mg w) (U : Unl P base) : FnOk P w K mg base CX0 36 T.is_fraction.f T.is_fraction.fd ["thing"] (sp_is_fraction K) := by
  refine T.is_fraction.F.ok sc_is_fraction (fun vs H Q E h => ?_) (fun cdv A outer s H vs Q E hr h => ?_)
  · obtain ⟨v, d, rfl, hT, q⟩ := h
    rfl
  · obtain ⟨v, d, rfl, hT, q⟩ := h
    refine ⟨_, (pss_cons (ps_if (pt_not (pt_val (pe_call (ok_is_row T U) (hr.mono (by decide)) (by rfl) T.is_row.g T.is_row.F.kp T.is_row.b .nil pass0 (pa_cons (pv 0) (pa_cons pe_int (pa_cons pe_int pa_nil)))))) (pss_one (ps_ret pe_bl)) pss_nil)
      (pss_cons (ps_asg (pv 0) (pg_tup rfl (pgs_cons (pg_name (i := 1) sc_is_fraction.nd rfl (.inl rfl)) (pgs_cons (pg_name (i := 2) sc_is_fraction.nd rfl (.inl rfl)) pgs_nil))))
      (pss_cons (ps_if (PW.pt (pw_or (pt_not (pt_val (pe_call (ok_is_number T U) (hr.mono (by decide)) (by rfl) T.is_number.g T.is_number.F.kp T.is_number.b .nil pass0 (pa_cons (pv 1) pa_nil)))) (pw_or (pt_not (pt_val (pe_call (ok_is_number T U) (hr.mono (by decide)) (by rfl) T.is_number.g T.is_number.F.kp T.is_number.b .nil pass0 (pa_cons (pv 2) pa_nil)))) (pw_or1 (pt_cmpR op_lt (pv 2) pe_int (nomark _)))))) (pss_one (ps_ret pe_bl)) pss_nil)
      (pss_one (ps_ret (pe_cmpR op_eq (pe_call (ok_common T U) (hr.mono (by decide)) (by rfl) T.common.g T.common.F.kp T.common.b .nil pass0 (pa_cons (pe_callB call_abs (by rfl) T.m_abs (by decide +kernel) (pa_cons (pv 1) pa_nil)) (pa_cons (pv 2) pa_nil))) pe_int (nomark _))))))), ?_⟩
    refine ⟨_, rfl, v, d, 2, 2, rfl, hT, _, rfl, ?_⟩
    cases e : rowD 2 2 d with
    | false =>
      have : isFr d = false := by
        rw [Bool.eq_false_iff]
        intro z
        obtain ⟨p, f, rfl⟩ := isFr_iff.mp z
        exact absurd (show true = false from e) (by decide)
      rw [this] at q
      exact iteT q
    | true =>
      obtain ⟨d1, d2, rfl⟩ := rowD_two e
      cases hT with
      | tup tA al =>
      rename_i a xs
      cases al with
      | cons t1 al =>
      cases al with
      | cons t2 al =>
      cases al
      rename_i v1 v2
      refine iteF ⟨_, rfl, a, _, rfl, tA, rfl, _, _, rfl, _, _, rfl, rfl, ?_⟩
      refine ⟨_, rfl, v1, d1, rfl, t1, _, rfl, ?_⟩
      cases d1 with
      | int t =>
        refine iteF ⟨_, rfl, v2, d2, rfl, t2, _, rfl, ?_⟩
        cases d2 with
        | int b =>
          cases t1
          cases t2
          have q : Q (.bl (decide (1 ≤ b) && decide (Nat.gcd t.natAbs b.natAbs = 1))) H := q
          refine iteF ⟨_, rfl, _, _, rfl, rfl, _, rfl, ?_⟩
          by_cases hb : b < 1
          · rw [decide_eq_false (show ¬ (1 ≤ b) by omega), Bool.false_and] at q
            exact iteK (decide_eq_true hb) q
          · rw [decide_eq_true (show 1 ≤ b by omega), Bool.true_and] at q
            refine iteE (decide_eq_false hb) ⟨_, rfl, t, rfl, _, rfl, t.natAbs, b.natAbs, ?_, ?_⟩
            · rw [abs_nat, show ((b.natAbs : Nat) : Int) = b by omega]
              rfl
            · refine ⟨rfl, ?_⟩
              have : decide (V.int ((Nat.gcd t.natAbs b.natAbs : Nat) : Int) = V.int 1) = decide (Nat.gcd t.natAbs b.natAbs = 1) := decide_eq_decide.mpr ⟨fun z => by have := V.int.inj z; omega, fun z => by rw [z]; rfl⟩
              rw [this]
              exact q
        | _ => exact iteT q
      | _ => exact iteT (iteT q)
end
end B

namespace B
open PySem PySem.Spec PyProof.Rows L2

def sp_ticket_of (K : PySem.W.Frag) : Sp := fun vs H Q _ => ∃ (a : Addr) (v : V) (d : PyData) (tvs : List V) (tks : List Tkt), vs = [.ref a, v] ∧ SqT K H a tvs ∧ F2 (TkAt K H) tvs tks ∧ Th K H v d ∧ ((∀ t ∈ tks, d ≠ .int (t.n : Int)) → Q .non H) ∧ ∀ (i : Nat) (u : V) (t : Tkt), tvs[i]? = some u → tks[i]? = some t → TkAt K H u t → d = .int (t.n : Int) → Q u H

section
variable {P : Program} {w : World} {K : PySem.W.Frag} {mg : Str → Option Value} {base : Heap}
theorem ok_ticket_of (T : Tx K mg w) (U : Unl P base) : FnOk P w K mg base CX0 36 T.ticket_of.f T.ticket_of.fd ["tickets", "number"] (sp_ticket_of K) := by
  refine T.ticket_of.F.ok sc_ticket_of (fun vs H Q E h => ?_) (fun cdv A outer s H vs Q E hr h => ?_)
  · obtain ⟨a, v, d, tvs, tks, rfl, tA, fA, hd, q0, q1⟩ := h
    rfl
  · obtain ⟨a, v, d, tvs, tks, rfl, tA, fA, hd, q0, q1⟩ := h
    refine ⟨_, (pss_cons (ps_if (pt_val (pe_call (ok_is_number T U) (hr.mono (by decide)) (by rfl) T.is_number.g T.is_number.F.kp T.is_number.b .nil pass0 (pa_cons (pv 1) pa_nil))) (pss_one (ps_for PassesOwn.never rfl (pi_tup (pv 0)) (pg_name (i := 2) sc_ticket_of.nd rfl (.inl rfl))
      (pss_one (ps_if (pt_cmpR op_eq (pe_ix ix_tup (pv 2) pe_int (fun _ _ => rfl)) (pv 1) (nomark _)) (pss_one (ps_ret (pv 2))) pss_nil)))) pss_nil)
      (pss_one (ps_ret pe_non))), ?_⟩
    refine ⟨_, rfl, v, d, rfl, hd, _, rfl, ?_⟩
    cases e : isN d with
    | false =>
      refine iteF (q0 fun t _ z => ?_)
      rw [z] at e
      cases e
    | true =>
    obtain ⟨k, rfl⟩ : ∃ k : Int, d = .int k := by
      cases d with
      | int k => exact ⟨k, rfl⟩
      | _ => cases e
    cases hd
    refine iteT ⟨_, rfl, a, rfl, ⟨_, tA⟩, for_it (walk_tup (K := K) (a := a) (xs := tvs)) (fun i σ H' => ∃ (x2 : Option V), σ = [some (.ref a), some (.int k), x2] ∧ H' = H ∧ ∀ j, j < i → ∀ t, tks[j]? = some t → k ≠ (t.n : Int)) ⟨none, rfl, rfl, nofun⟩ (fun i σ H' _ ⟨_, _, e, _⟩ => by rw [e]; exact tA) ?_ ?_⟩
    · rintro i x σ H2 _ hi ⟨x2, rfl, rfl, hn⟩ ⟨rfl, hx⟩
      obtain ⟨t, ht, hT⟩ := fA.getA hx
      obtain ⟨tq, a1, c1, e1, rfl, t1, _⟩ := id hT
      refine ⟨_, rfl, tq, _, 0, .int t.n, rfl, rfl, t1, rfl, _, rfl, rfl, _, rfl, ?_⟩
      by_cases e : (t.n : Int) = k
      · exact iteK (decide_eq_true (by rw [e])) ⟨_, rfl, q1 i _ t hx ht hT (by rw [e])⟩
      · refine iteE (decide_eq_false fun z => e (by injection z with z)) ⟨_, rfl, rfl, fun j hj y hy => ?_⟩
        by_cases c : j = i
        · subst c
          rw [ht] at hy
          cases hy
          exact fun z => e z.symm
        · exact hn j (by omega) y hy
    · rintro σ H2 ⟨x2, rfl, rfl, hn⟩
      refine q0 fun t ht z => ?_
      obtain ⟨j, hj⟩ := List.getElem?_of_mem ht
      injection z with z
      exact hn j (by have := (List.getElem?_eq_some_iff.mp hj).1; have := fA.len; omega) t hj z
end
end B

namespace B
open PySem PySem.Spec PyProof.Rows L2

def sp_l_plus (K : PySem.W.Frag) : Sp := fun vs H Q _ => ∃ (a c : Addr) (t1 t2 : Int) (b1 b2 : Nat), vs = [.ref a, .ref c] ∧ SqT K H a [.int t1, .int b1] ∧ SqT K H c [.int t2, .int b2] ∧ IsF t1 b1 ∧ IsF t2 b2 ∧ Fz t1 b1 400000 ∧ Fz t2 b2 400000 ∧
  ∀ p, H p = none → Q (.ref p) (upd H p (.tup [.int (addT t1 b1 t2 b2), .int (addB t1 b1 t2 b2)]))

section
variable {P : Program} {w : World} {K : PySem.W.Frag} {mg : Str → Option Value} {base : Heap}
theorem ok_l_plus (T : Tx K mg w) (U : Unl P base) : FnOk P w K mg base CX0 36 T.l_plus.f T.l_plus.fd ["_law_one", "_law_other"] (sp_l_plus K) := by
  refine T.l_plus.F.ok sc_l_plus (fun vs H Q E h => ?_) (fun cdv A outer s H vs Q E hr h => ?_)
  · obtain ⟨a, c, t1, t2, b1, b2, rfl, hA, hC, f1, f2, z1, z2, q⟩ := h
    rfl
  · obtain ⟨a, c, t1, t2, b1, b2, rfl, hA, hC, f1, f2, z1, z2, q⟩ := h
    refine ⟨_, (pss_one (ps_ret (pe_call (ok_l_lowest T U) (hr.mono (by decide)) (by rfl) T.l_lowest.g T.l_lowest.F.kp T.l_lowest.b .nil pass0 (pa_cons (pe_op op_add (pe_op op_mulW (pe_ix ix_tup (pv 0) pe_int (fun _ _ => rfl)) (pe_ix ix_tup (pv 1) pe_int (fun _ _ => rfl))) (pe_op op_mulW (pe_ix ix_tup (pv 1) pe_int (fun _ _ => rfl)) (pe_ix ix_tup (pv 0) pe_int (fun _ _ => rfl)))) (pa_cons (pe_op op_mulW (pe_ix ix_tup (pv 0) pe_int (fun _ _ => rfl)) (pe_ix ix_tup (pv 1) pe_int (fun _ _ => rfl))) pa_nil))))), ?_⟩
    have W : ∀ {x : Nat}, x < 2 ^ 400000 → (x : Int).natAbs < 2 ^ 400000 := fun h => by
      rw [Int.natAbs_natCast]
      exact h
    refine ⟨_, rfl, a, _, 0, .int t1, rfl, rfl, hA, rfl, _, rfl, c, _, 1, .int b2, rfl, rfl, hC, rfl, _, _, rfl, rfl, wide_mul z1.t (W z2.b) (by decide) (by decide) (by decide), _, rfl, c, _, 0, .int t2, rfl, rfl, hC, rfl, _, rfl, a, _, 1, .int b1, rfl, rfl, hA, rfl, _, _, rfl, rfl, wide_mul z2.t (W z1.b) (by decide) (by decide) (by decide), _, _, rfl, rfl, ?_⟩
    exact ⟨_, rfl, a, _, 1, .int b1, rfl, rfl, hA, rfl, _, rfl, c, _, 1, .int b2, rfl, rfl, hC, rfl, _, _, rfl, rfl, wide_mul (W z1.b) (W z2.b) (by decide) (by decide) (by decide), addX t1 b1 t2 b2, b1 * b2, rfl, Nat.mul_pos f1.pos f2.pos, Nat.lt_of_lt_of_le (mulB_z z1 z2) (Nat.pow_le_pow_right (by decide) (by decide)), q⟩
end
end B

namespace B
open PySem PySem.Spec PyProof.Rows L2

def sp_l_times (K : PySem.W.Frag) : Sp := fun vs H Q _ => ∃ (a c : Addr) (t1 t2 : Int) (b1 b2 : Nat), vs = [.ref a, .ref c] ∧ SqT K H a [.int t1, .int b1] ∧ SqT K H c [.int t2, .int b2] ∧ IsF t1 b1 ∧ IsF t2 b2 ∧ Fz t1 b1 400000 ∧ Fz t2 b2 400000 ∧
  ∀ p, H p = none → Q (.ref p) (upd H p (.tup [.int (mulT t1 b1 t2 b2), .int (mulB t1 b1 t2 b2)]))

section
variable {P : Program} {w : World} {K : PySem.W.Frag} {mg : Str → Option Value} {base : Heap}
theorem ok_l_times (T : Tx K mg w) (U : Unl P base) : FnOk P w K mg base CX0 36 T.l_times.f T.l_times.fd ["_law_one", "_law_other"] (sp_l_times K) := by
  refine T.l_times.F.ok sc_l_times (fun vs H Q E h => ?_) (fun cdv A outer s H vs Q E hr h => ?_)
  · obtain ⟨a, c, t1, t2, b1, b2, rfl, hA, hC, f1, f2, z1, z2, q⟩ := h
    rfl
  · obtain ⟨a, c, t1, t2, b1, b2, rfl, hA, hC, f1, f2, z1, z2, q⟩ := h
    refine ⟨_, (pss_one (ps_ret (pe_call (ok_l_lowest T U) (hr.mono (by decide)) (by rfl) T.l_lowest.g T.l_lowest.F.kp T.l_lowest.b .nil pass0 (pa_cons (pe_op op_mulW (pe_ix ix_tup (pv 0) pe_int (fun _ _ => rfl)) (pe_ix ix_tup (pv 1) pe_int (fun _ _ => rfl))) (pa_cons (pe_op op_mulW (pe_ix ix_tup (pv 0) pe_int (fun _ _ => rfl)) (pe_ix ix_tup (pv 1) pe_int (fun _ _ => rfl))) pa_nil))))), ?_⟩
    have W : ∀ {x : Nat}, x < 2 ^ 400000 → (x : Int).natAbs < 2 ^ 400000 := fun h => by
      rw [Int.natAbs_natCast]
      exact h
    refine ⟨_, rfl, a, _, 0, .int t1, rfl, rfl, hA, rfl, _, rfl, c, _, 0, .int t2, rfl, rfl, hC, rfl, _, _, rfl, rfl, wide_mul z1.t z2.t (by decide) (by decide) (by decide), ?_⟩
    exact ⟨_, rfl, a, _, 1, .int b1, rfl, rfl, hA, rfl, _, rfl, c, _, 1, .int b2, rfl, rfl, hC, rfl, _, _, rfl, rfl, wide_mul (W z1.b) (W z2.b) (by decide) (by decide) (by decide), t1 * t2, b1 * b2, rfl, Nat.mul_pos f1.pos f2.pos, Nat.lt_of_lt_of_le (mulB_z z1 z2) (Nat.pow_le_pow_right (by decide) (by decide)), q⟩
end
end B

namespace B
open PySem PySem.Spec PyProof.Rows L2

def sp_l_worlds (K : PySem.W.Frag) : Sp := fun vs H Q _ => ∃ (a ra : Addr) (cs : List Nat) (rvs : List V) (rs : List (List Wd)), vs = [.ref a] ∧ SqT K H a [.str (tx cs), .ref ra] ∧ SqT K H ra rvs ∧ Rws K H rvs rs ∧ (∀ r ∈ rs, Sy cs r ∧ r.length ≤ 10000) ∧ rs.length ≤ 1000 ∧ cs.length ≤ 6 ∧ (∀ c ∈ cs, c < 123) ∧ ∀ (H' : Hp) (p : Addr), SqT K H' p (wvs (wor cs rs)) → Same H H' → Q (.ref p) H'

section
variable {P : Program} {w : World} {K : PySem.W.Frag} {mg : Str → Option Value} {base : Heap}
theorem ok_l_worlds (T : Tx K mg w) (U : Unl P base) : FnOk P w K mg base CX0 36 T.l_worlds.f T.l_worlds.fd ["_law_house"] (sp_l_worlds K) := by
  refine T.l_worlds.F.ok sc_l_worlds (fun vs H Q E h => ?_) (fun cdv A outer s H vs Q E hr h => ?_)
  · obtain ⟨a, ra, cs, rvs, rs, rfl, hA, hRa, hW, hY, hrl, hc6, hsm, q⟩ := h
    rfl
  · obtain ⟨a, ra, cs, rvs, rs, rfl, hA, hRa, hW, hY, hrl, hc6, hsm, q⟩ := h
    refine ⟨_, (pss_cons (ps_asg (pv 0) (pg_tup rfl (pgs_cons (pg_name (i := 1) sc_l_worlds.nd rfl (.inr rfl)) (pgs_cons (pg_name (i := 2) sc_l_worlds.nd rfl (.inl rfl)) pgs_nil))))
      (pss_cons (ps_set (i := 3) sc_l_worlds.nd rfl (.inl rfl) (pe_lst pa_nil))
      (pss_cons (ps_for PassesOwn.never rfl (pi_range1 (by rfl) T.m_range (pa_cons (pe_ix ix_list (pe_lst (pa_cons pe_int (pa_cons pe_int (pa_cons pe_int (pa_cons pe_int (pa_cons pe_int (pa_cons pe_int (pa_cons pe_int pa_nil)))))))) (pe_callB call_len_str (by rfl) T.m_len (by decide +kernel) (pa_cons (pv 1) pa_nil)) (fun _ _ => rfl)) pa_nil)) (pg_name (i := 4) sc_l_worlds.nd rfl (.inl rfl))
      (pss_cons (ps_set (i := 5) sc_l_worlds.nd rfl (.inr rfl) pe_str)
      (pss_cons (ps_set (i := 6) sc_l_worlds.nd rfl (.inl rfl) (pv 4))
      (pss_cons (ps_for PassesOwn.never rfl (pi_range1 (by rfl) T.m_range (pa_cons (pe_callB call_len_str (by rfl) T.m_len (by decide +kernel) (pa_cons (pv 1) pa_nil)) pa_nil)) (pg_name (i := 7) sc_l_worlds.nd rfl (.inl rfl))
      (pss_cons (ps_set (i := 5) sc_l_worlds.nd rfl (.inr rfl) (pe_op op_add_str (pe_callTy call_str_int (by rfl) T.m_str (by decide +kernel) (pa_cons (pe_op op_mod (pv 6) pe_int) pa_nil)) (pv 5)))
      (pss_one (ps_set (i := 6) sc_l_worlds.nd rfl (.inl rfl) (pe_op (op_fdivW U (hr.mono (by decide)) rfl sc_l_worlds.gen sc_l_worlds.co rfl rfl) (pv 6) pe_int)))))
      (pss_one (ps_if (pt_cmpR (op_eqD hr.units) (pe_lc (own := [("_law_rule", 8)]) (g := gName 8) rfl sc_l_worlds.nd (pi_tup (pv 2)) (blkOk_by (own := [("_law_rule", 8)]) (N := N_l_worlds) (sc := defScope s_l_worlds) (by decide +kernel)) (fun _ _ _ _ _ => (pg_name (i := 8) sc_l_worlds.nd rfl (.inl rfl))) (fun _ _ _ _ _ => (pts_one (pt_not (pt_val (pe_call (ok_l_holds T U) (hr.mono (by decide)) (by rfl) T.l_holds.g T.l_holds.F.kp T.l_holds.b .nil pass0 (pa_cons (pv 1) (pa_cons (pv 8) (pa_cons (pv 5) pa_nil)))))))) (fun _ _ _ _ _ => (pv 8))) (pe_lst pa_nil) (nomark _)) (pss_one (ps_expr (pe_bm PySem.F.plainAttrs_list PySem.F.slot_list_append PySem.F.type_list_append mt_append (pv 3) (pa_cons (pv 5) pa_nil)))) pss_nil))))))
      (pss_one (ps_ret (pe_callTy call_tuple_of (by rfl) T.m_tuple (by decide +kernel) (pa_cons (pv 3) pa_nil))))))), ?_⟩
    have csz : (tx cs).length ≤ sizeLine := Nat.le_trans (show cs.length ≤ 6 from hc6) (by decide)
    have pz : 2 ^ cs.length ≤ 64 := Nat.le_trans (Nat.pow_le_pow_right (by decide) hc6) (by decide)
    have rlen : rvs.length = rs.length := hW.len
    refine ⟨_, rfl, a, _, rfl, hA, rfl, _, _, rfl, _, _, rfl, rfl, ?_⟩
    refine ⟨by decide, fun F nF => ?_⟩
    refine ⟨by decide, fun L nL => ?_⟩
    have S0 := (same_upd (o := .lst []) nF).trans (same_upd (o := .lst [V.int 1, V.int 2, V.int 4, V.int 8, V.int 16, V.int 32, V.int 64]) nL)
    have hF0 := same_upd (o := .lst [V.int 1, V.int 2, V.int 4, V.int 8, V.int 16, V.int 32, V.int 64]) nL _ _ (upd_same (H := H) (a := F) (o := .lst []))
    refine ⟨_, rfl, tx cs, rfl, csz, L, _, (cs.length : Int), .int ((2 ^ cs.length : Nat) : Int), rfl, rfl, .inl (.inl upd_same), pow_at hc6, ((2 ^ cs.length : Nat) : Int), rfl, Int.le_trans (by decide) (Int.natCast_nonneg _), Int.lt_of_le_of_lt (Int.ofNat_le.mpr pz) (by decide), for_range (lo := 0) (n := ((2 ^ cs.length : Nat) : Int).toNat) (fun i σ H' => ∃ (x4 x5 x6 x7 x8 : Option V), σ = [some (.ref a), some (.str (tx cs)), some (.ref ra), some (.ref F), x4, x5, x6, x7, x8] ∧ H' F = some (.lst (wvs (((allW cs.length).take i).filter fun bs => rs.all fun r => sval (vl cs bs) r))) ∧ Same H H') ⟨none, none, none, none, none, rfl, hF0, S0⟩ ?_ ?_⟩
    · rintro i σ H1 hi ⟨x4, x5, x6, x7, x8, rfl, hF, s1⟩
      rw [Int.toNat_natCast] at hi
      refine ⟨_, rfl, ?_⟩
      refine ⟨_, rfl, tx cs, rfl, csz, (cs.length : Int), rfl, by omega, by omega, for_range (lo := 0) (n := ((cs.length : Int)).toNat) (fun p σ H' => ∃ (x7 : Option V), σ = [some (.ref a), some (.str (tx cs)), some (.ref ra), some (.ref F), some (.int (0 + (i : Int))), some (.str (wtx (bitsN p i))), some (.int ((i / 2 ^ p : Nat) : Int)), x7, x8] ∧ H' = H1) ⟨x7, ?_, rfl⟩ ?_ ?_⟩
      · have e0 : (0 : Int) + (i : Int) = ((i / 2 ^ 0 : Nat) : Int) := by rw [Nat.pow_zero, Nat.div_one]; omega
        rw [← e0]
        rfl
      · rintro p σ H2 hp ⟨x7, rfl, rfl⟩
        rw [Int.toNat_natCast] at hp
        refine ⟨_, rfl, _, _, rfl, rfl, (by show (0 : Int) < 2; decide), _, rfl, ?_, _, rfl, _, _, rfl, rfl, ?_, ?_⟩
        · have : (((i / 2 ^ p : Nat) : Int) % 2).natAbs < 2 ^ 1 := by omega
          exact Nat.lt_of_lt_of_le (PySem.Flt.log2_lt_of (by decide) this) (by decide)
        · rw [digit_len]
          refine Nat.le_trans (show 1 + ((bitsN p i).map bc).length ≤ 100 from ?_) (by decide)
          rw [List.length_map, bitsN_len]
          omega
        refine ⟨_, rfl, _, _, rfl, rfl, wide_div (b := 2) (by decide) (by decide) (by decide) (by decide), some (.int (0 + (p : Int))), ?_, rfl⟩
        have e1 : (Str.ofString (toString (((i / 2 ^ p : Nat) : Int) % 2)) : Str) ++ wtx (bitsN p i) = wtx (bitsN (p + 1) i) := digit_cons (i / 2 ^ p) (bitsN p i)
        have e2 : ((i / 2 ^ p : Nat) : Int) / 2 = ((i / 2 ^ (p + 1) : Nat) : Int) := by
          rw [Nat.pow_succ, ← Nat.div_div_eq_div_mul]
          rfl
        show [some (V.ref a), some (V.str (tx cs)), some (V.ref ra), some (V.ref F), some (V.int (0 + (i : Int))), some (V.str ((Str.ofString (toString (((i / 2 ^ p : Nat) : Int) % 2)) : Str) ++ wtx (bitsN p i))), some (V.int (((i / 2 ^ p : Nat) : Int) / 2)), some (V.int (0 + (p : Int))), x8] = _
        rw [e1, e2]
      rintro σ H2 ⟨x7, rfl, rfl⟩
      rw [Int.toNat_natCast]
      have hbl : cs.length = (bitsN cs.length i).length := (bitsN_len _ _).symm
      have hb6 : (bitsN cs.length i).length ≤ 100 := by rw [bitsN_len]; omega
      refine ⟨_, rfl, ra, rfl, ⟨_, Same.tup s1 hRa⟩, fun D nD => ?_⟩
      have sD := same_upd (o := .lst []) nD
      refine lc_tup (K := K) (a := ra) (xs := rvs) (fun j H' => ∃ (acc : List V) (as : List (List Wd)), H' D = some (.lst acc) ∧ Rws K H' acc as ∧ acc.length ≤ j ∧ (∀ r ∈ as, r ∈ rs) ∧ (as.isEmpty = (rs.take j).all fun r => sval (vl cs (bitsN cs.length i)) r) ∧ Same H2 H') ⟨[], [], upd_same, trivial, Nat.le_refl _, (fun x hx => nomatch hx), rfl, sD⟩ (fun j H' _ ⟨_, _, _, _, _, _, _, e⟩ => Same.tup (s1.trans e) hRa) ?_ ?_
      · rintro j x H3 hx ⟨acc, as, h1, h2, h3, h4, h5, s3⟩
        obtain ⟨ax, r, rfl, hr, tr⟩ := (hW.same (s1.trans s3)).getV hx
        have hrm := List.mem_of_getElem? hr
        have hj : j < rs.length := (List.getElem?_eq_some_iff.mp hr).1
        refine ⟨rfl, _, rfl, _, rfl, _, rfl, cs, ax, r, bitsN cs.length i, rfl, tr, (hY r hrm).1, hbl, hb6, (hY r hrm).2, fun H4 s4 => ⟨_, rfl, ?_⟩⟩
        have h5' := all_take (fun r => sval (vl cs (bitsN cs.length i)) r) rs j r hr
        cases ev : sval (vl cs (bitsN cs.length i)) r with
        | true =>
          refine iteF ⟨acc, as, s4 _ _ h1, h2.same s4, by omega, h4, ?_, s3.trans s4⟩
          rw [h5', h5, ev, Bool.and_true]
        | false =>
          refine iteT ⟨_, rfl, acc, s4 _ _ h1, ?_, acc ++ [.ref ax], as ++ [r], upd_same, ?_, ?_, ?_, ?_, ?_⟩
          · exact Nat.lt_of_le_of_lt (show acc.length ≤ 1000 by omega) (by decide)
          · exact Rws.mono (fun _ _ h => tup_upd (s4 _ _ h1) h) (Rws.app (h2.same s4) (Rws.one (Same.tup s4 tr)))
          · rw [List.length_append]
            show acc.length + 1 ≤ j + 1
            omega
          · intro y hy
            rcases List.mem_append.mp hy with h | h
            · exact h4 y h
            · rw [List.mem_singleton] at h
              rw [h]
              exact hrm
          · rw [h5', ev, Bool.and_false]
            cases as <;> rfl
          · intro b o e
            rw [upd_ne (ne_of_none e nD)]
            exact s4 _ _ (s3 _ _ e)
      rintro H3 ⟨acc, as, h1, h2, h3, h4, h5, s3⟩
      rw [rlen, List.take_length] at h5
      refine ⟨by decide, fun E1 nE => ?_⟩
      have sE := same_upd (o := .lst []) nE
      have hsh : SeqAt.shaped (.list (as.map wdat)) = true := rows_shaped hsm fun r hr => (hY r (h4 r hr)).1.lt
      refine ⟨_, _, .lst (.inl (.inl (sE _ _ h1))) (h2.same sE).dp, .lst sql_upd .nil, hsh, rfl, _, rfl, ?_⟩
      have ek : PyData.eqv (.list (as.map wdat)) (.list []) = rs.all fun r => sval (vl cs (bitsN cs.length i)) r := by
        rw [eqv_nil, List.isEmpty_map, h5]
      have hF3 := sE _ _ (s3 _ _ hF)
      have S3 := (s1.trans s3).trans sE
      have tf := take_filter (fun bs => rs.all fun r => sval (vl cs bs) r) (allW cs.length) i _ (allW_get hi)
      have flen : (wvs (((allW cs.length).take i).filter fun bs => rs.all fun r => sval (vl cs bs) r)).length ≤ 64 := by
        unfold wvs
        rw [List.length_map]
        refine Nat.le_trans (List.length_filter_le _ _) ?_
        rw [List.length_take]
        omega
      refine ite2 (fun e => ?_) (fun e => ?_)
      · rw [ek] at e
        refine ⟨_, rfl, .inl ⟨rfl, _, .inl (.inl hF3)⟩, _, rfl, F, _, _, rfl, rfl, hF3, ?_, ?_⟩
        · exact Nat.lt_of_le_of_lt flen (by decide)
        · refine ⟨_, _, _, _, _, rfl, ?_, fun b o e => ?_⟩
          · rw [upd_same, tf, e]
            unfold wvs
            rw [List.map_append]
            rfl
          · rw [upd_ne (ne_of_none e nF)]
            exact S3 _ _ e
      · rw [ek] at e
        have e : (rs.all fun r => sval (vl cs (bitsN cs.length i)) r) = false := by simpa using e
        refine ⟨_, _, _, _, _, rfl, ?_, S3⟩
        rw [tf, e]
        simp only [Bool.false_eq_true, if_false, List.append_nil]
        exact hF3
    · rintro σ H1 ⟨x4, x5, x6, x7, x8, rfl, hF, s1⟩
      rw [Int.toNat_natCast, List.take_of_length_le (by rw [allW_length]; exact Nat.le_refl _)] at hF
      exact ⟨_, rfl, F, _, rfl, .inl ⟨.inl (.inl hF), fun p np => q _ p sqt_upd (s1.trans (same_upd np))⟩⟩
end
end B

namespace B
open PySem PySem.Spec PyProof.Rows L2

def sp_l_least (K : PySem.W.Frag) : Sp := fun vs H Q _ => ∃ (a : Addr) (us : List V) (l : List (Int × Nat)), vs = [.ref a] ∧ H a = some (.lst us) ∧ F2 (FAt K H) us l ∧ l.length ≤ 1000 ∧ (∀ p ∈ l, Fok 400000 p) ∧ ∀ H', Same H H' → Q (.int (bestI l l.length : Nat)) H'

section
variable {P : Program} {w : World} {K : PySem.W.Frag} {mg : Str → Option Value} {base : Heap}
theorem ok_l_least (T : Tx K mg w) (U : Unl P base) : FnOk P w K mg base CX0 36 T.l_least.f T.l_least.fd ["_law_row"] (sp_l_least K) := by
  refine T.l_least.F.ok sc_l_least (fun vs H Q E h => ?_) (fun cdv A outer s H vs Q E hr h => ?_)
  · obtain ⟨a, us, l, rfl, hA, fA, hl, hF, q⟩ := h
    rfl
  · obtain ⟨a, us, l, rfl, hA, fA, hl, hF, q⟩ := h
    refine ⟨_, (pss_cons (ps_set (i := 1) sc_l_least.nd rfl (.inl rfl) pe_int)
      (pss_cons (ps_for PassesOwn.never rfl (pi_range1 (by rfl) T.m_range (pa_cons (pe_callB call_len_seq (by rfl) T.m_len (by decide +kernel) (pa_cons (pv 0) pa_nil)) pa_nil)) (pg_name (i := 2) sc_l_least.nd rfl (.inl rfl))
      (pss_one (ps_if (pt_val (pe_call (ok_l_less T U) (hr.mono (by decide)) (by rfl) T.l_less.g T.l_less.F.kp T.l_less.b .nil pass0 (pa_cons (pe_ix ix_list (pv 0) (pv 2) (fun _ _ => rfl)) (pa_cons (pe_ix ix_list (pv 0) (pv 1) (fun _ _ => rfl)) pa_nil)))) (pss_one (ps_set (i := 1) sc_l_least.nd rfl (.inl rfl) (pv 2))) pss_nil)))
      (pss_one (ps_ret (pv 1))))), ?_⟩
    have lu := fA.len
    refine ⟨_, rfl, a, _, rfl, .inl (.inl (.inl hA)), (us.length : Int), rfl, by omega, by omega, for_range (lo := 0) (n := ((us.length : Nat) : Int).toNat) (fun i σ H' => ∃ (x2 : Option V), σ = [some (.ref a), some (.int (bestI l i : Nat)), x2] ∧ Same H H') ⟨none, rfl, Same.refl _⟩ ?_ ?_⟩
    · rintro i σ H1 hi ⟨x2, rfl, s1⟩
      rw [Int.toNat_natCast] at hi
      have fA1 := fas_tk fA (Same.tk s1)
      have hA1 := s1 _ _ hA
      have bl := bestI_le l i
      have g1 := List.getElem?_eq_getElem (l := l) (i := i) (by omega)
      have g2 := List.getElem?_eq_getElem (l := l) (i := bestI l i) (by omega)
      have e1 : l.getD i (0, 1) = l[i]'(by omega) := by rw [List.getD_eq_getElem?_getD, g1]; rfl
      have e2 : l.getD (bestI l i) (0, 1) = l[bestI l i]'(by omega) := by rw [List.getD_eq_getElem?_getD, g2]; rfl
      obtain ⟨v1, h1, f1, rfl, t1⟩ := fA1.getB g1
      obtain ⟨v2, h2, f2, rfl, t2⟩ := fA1.getB g2
      have o1 := hF _ (List.mem_of_getElem? g1)
      have o2 := hF _ (List.mem_of_getElem? g2)
      refine ⟨_, rfl, _, rfl, a, us, (0 + (i : Int)), .ref f1, rfl, rfl, .inl (.inl hA1), by rw [Int.zero_add]; exact atI_nat h1, _, rfl, _, rfl, a, us, (bestI l i : Int), .ref f2, rfl, rfl, .inl (.inl hA1), atI_nat h2, f1, f2, _, _, _, _, rfl, t1, t2, o1.z, o2.z, _, rfl, ?_⟩
      have eb := bestI_succ l i
      rw [e1, e2] at eb
      refine ite2 (fun e => ?_) (fun e => ?_)
      · have e : ltF (l[i]'(by omega)) (l[bestI l i]'(by omega)) = true := e
        rw [if_pos e] at eb
        refine ⟨_, rfl, some (.int (0 + (i : Int))), ?_, s1⟩
        rw [eb, Int.zero_add]
        rfl
      · have e : ¬ ltF (l[i]'(by omega)) (l[bestI l i]'(by omega)) = true := e
        rw [if_neg e] at eb
        refine ⟨some (.int (0 + (i : Int))), ?_, s1⟩
        rw [eb]
        rfl
    · rintro σ H1 ⟨x2, rfl, s1⟩
      rw [Int.toNat_natCast, lu]
      exact ⟨_, rfl, q _ s1⟩
end
end B

namespace B
open PySem PySem.Spec PyProof.Rows L2

def sp_l_stake (K : PySem.W.Frag) : Sp := fun vs H Q _ => ∃ (d : Dr) (b : Nat), vs = [.ref d.dr] ∧ Drw H d (b + 2) ∧ ∀ (H' : Hp) (r : Addr) (p : Int × Nat), SqT K H' r [.int p.1, .int p.2] → Fb 60 10 p → 0 < p.1 → Drw H' d b → Kp d H H' → Q (.ref r) H'

section
variable {P : Program} {w : World} {K : PySem.W.Frag} {mg : Str → Option Value} {base : Heap}
theorem ok_l_stake (T : Tx K mg w) (U : Unl P base) : FnOk P w K mg base CX0 36 T.l_stake.f T.l_stake.fd ["_law_drawn"] (sp_l_stake K) := by
  refine T.l_stake.F.ok sc_l_stake (fun vs H Q E h => ?_) (fun cdv A outer s H vs Q E hr h => ?_)
  · obtain ⟨d, b, rfl, hD, q⟩ := h
    rfl
  · obtain ⟨d, b, rfl, hD, q⟩ := h
    refine ⟨_, (pss_one (ps_ret (pe_call (ok_l_lowest T U) (hr.mono (by decide)) (by rfl) T.l_lowest.g T.l_lowest.F.kp T.l_lowest.b .nil pass0 (pa_cons (pe_op op_add pe_int (pe_call (ok_l_next T U) (hr.mono (by decide)) (by rfl) T.l_next.g T.l_next.F.kp T.l_next.b .nil pass0 (pa_cons (pv 0) (pa_cons pe_int pa_nil)))) (pa_cons (pe_op op_add pe_int (pe_call (ok_l_next T U) (hr.mono (by decide)) (by rfl) T.l_next.g T.l_next.F.kp T.l_next.b .nil pass0 (pa_cons (pv 0) (pa_cons pe_int pa_nil)))) pa_nil))))), ?_⟩
    refine ⟨_, rfl, d, b + 1, 9, rfl, by decide, by decide, hD, fun H1 r r0 r1 w1 k1 => ⟨_, _, rfl, rfl, ?_⟩⟩
    refine ⟨_, rfl, d, b, 6, rfl, by decide, by decide, w1, fun H2 r' r0' r1' w2 k2 => ⟨_, _, rfl, rfl, ?_⟩⟩
    obtain ⟨i, rfl⟩ := Int.eq_ofNat_of_zero_le r0
    obtain ⟨j, rfl⟩ := Int.eq_ofNat_of_zero_le r0'
    refine ⟨1 + (i : Int), 1 + j, by rw [Int.natCast_add]; rfl, by omega, Nat.lt_of_lt_of_le (show 1 + j < 2 ^ 5 by omega) (Nat.pow_le_pow_right (by decide) (by decide)), fun p np => ?_⟩
    have s3 := same_upd (o := .tup [.int (lowT (1 + (i : Int)) (1 + j : Nat)), .int (lowBn (1 + (i : Int)) (1 + j))]) np
    have h0 : 0 < 1 + j := by omega
    have f : IsF (lowT (1 + (i : Int)) (1 + j : Nat)) (lowBn (1 + (i : Int)) (1 + j)) := low_isF h0
    have c := low_cross2 (t := 1 + (i : Int)) h0
    have b0 : 0 < lowBn (1 + (i : Int)) (1 + j) := f.1
    have db : lowBn (1 + (i : Int)) (1 + j) ∣ 1 + j := lowBn_dvd h0
    have p0 : 0 < lowT (1 + (i : Int)) (1 + j : Nat) := by
      rcases Int.lt_or_le 0 (lowT (1 + (i : Int)) (1 + j : Nat)) with z | z
      · exact z
      · exfalso
        have h1 : lowT (1 + (i : Int)) (1 + j : Nat) * ((1 + j : Nat) : Int) ≤ 0 := Int.mul_nonpos_of_nonpos_of_nonneg z (by omega)
        have h2 : 0 < (1 + (i : Int)) * (lowBn (1 + (i : Int)) (1 + j) : Int) := Int.mul_pos (by omega) (by omega)
        omega
    refine q _ p (lowT (1 + (i : Int)) (1 + j : Nat), lowBn (1 + (i : Int)) (1 + j)) sqt_upd ⟨f, Nat.dvd_trans db ?_, ?_⟩ p0 (w2.same s3) (k1.trans (k2.trans (Same.kp s3)))
    · have : j < 6 := by omega
      have : j = 0 ∨ j = 1 ∨ j = 2 ∨ j = 3 ∨ j = 4 ∨ j = 5 := by omega
      rcases this with rfl | rfl | rfl | rfl | rfl | rfl <;> decide
    · have := lowT_abs (t := 1 + (i : Int)) (b := ((1 + j : Nat) : Int)) (by omega)
      refine Nat.le_trans this (Nat.le_trans (show (1 + (i : Int)).natAbs ≤ 10 by omega) ?_)
      exact Nat.le_mul_of_pos_right _ b0
end
end B

namespace B
open PySem PySem.Spec PyProof.Rows L2

def sp_l_place (K : PySem.W.Frag) : Sp := fun vs H Q _ => ∃ (d : Dr) (b : Nat), vs = [.ref d.dr] ∧ Drw H d (b + 2) ∧ ∀ (H' : Hp) (p : Addr) (cs : List Nat) (rs : List (List Wd)), HsAt K H' p cs rs → HsOk cs rs → Ls 6 cs → cs.length ≤ 3 → wor cs rs ≠ [] → rs.length ≤ 1 → (∀ r ∈ rs, r.length ≤ 3) → Drw H' d b → Kp d H H' → Q (.ref p) H'

section
variable {P : Program} {w : World} {K : PySem.W.Frag} {mg : Str → Option Value} {base : Heap}
theorem ok_l_place (T : Tx K mg w) (U : Unl P base) : FnOk P w K mg base CX0 36 T.l_place.f T.l_place.fd ["_law_drawn"] (sp_l_place K) := by
  refine T.l_place.F.ok sc_l_place (fun vs H Q E h => ?_) (fun cdv A outer s H vs Q E hr h => ?_)
  · obtain ⟨d, b, rfl, hD, q⟩ := h
    rfl
  · obtain ⟨d, b, rfl, hD, q⟩ := h
    refine ⟨_, (pss_cons (ps_set (i := 1) sc_l_place.nd rfl (.inl rfl) (pe_ix ix_list (pe_lst (pa_cons pe_str (pa_cons pe_str (pa_cons pe_str (pa_cons pe_str (pa_cons pe_str (pa_cons pe_str (pa_cons pe_str (pa_cons pe_str pa_nil))))))))) (pe_call (ok_l_next T U) (hr.mono (by decide)) (by rfl) T.l_next.g T.l_next.F.kp T.l_next.b .nil pass0 (pa_cons (pv 0) (pa_cons pe_int pa_nil))) (fun _ _ => rfl)))
      (pss_cons (ps_set (i := 2) sc_l_place.nd rfl (.inl rfl) (pe_lst (pa_cons (pe_tup pa_nil) (pa_cons (pe_tup (pa_cons (pe_tup (pa_cons pe_str pa_nil)) pa_nil)) (pa_cons (pe_tup (pa_cons (pe_tup (pa_cons (pe_ix ix_str (pv 1) pe_int (fun _ _ => rfl)) (pa_cons pe_str pa_nil))) pa_nil)) (pa_cons (pe_tup (pa_cons (pe_tup (pa_cons (pe_ix ix_str (pv 1) pe_int (fun _ _ => rfl)) (pa_cons (pe_ix ix_str (pv 1) (pe_un un_neg pe_int) (fun _ _ => rfl)) (pa_cons pe_str pa_nil)))) pa_nil)) pa_nil))))))
      (pss_one (ps_ret (pe_tup (pa_cons (pv 1) (pa_cons (pe_ix ix_list (pv 2) (pe_call (ok_l_next T U) (hr.mono (by decide)) (by rfl) T.l_next.g T.l_next.F.kp T.l_next.b .nil pass0 (pa_cons (pv 0) (pa_cons pe_int pa_nil))) (fun _ _ => rfl)) pa_nil))))))), ?_⟩
    refine ⟨by show 8 ≤ sizeLine; decide, fun L nL => ?_⟩
    have sL := same_upd (o := .lst [.str "a", .str "z", .str "bc", .str "no", .str "or", .str "axy", .str "egz", .str "lsw"]) nL
    have nL1 := hD.no nL
    refine ⟨_, rfl, d, b + 1, 8, rfl, by decide, by decide, hD.same sL, fun H1 r r0 r1 w1 k1 => ?_⟩
    obtain ⟨j, rfl⟩ := Int.eq_ofNat_of_zero_le r0
    obtain ⟨cs, c0, cl, hix, hp⟩ : ∃ cs c0 cl, atI [V.str "a", .str "z", .str "bc", .str "no", .str "or", .str "axy", .str "egz", .str "lsw"] (j : Int) = some (.str (tx cs)) ∧ Plc cs c0 cl := by
      have : j = 0 ∨ j = 1 ∨ j = 2 ∨ j = 3 ∨ j = 4 ∨ j = 5 ∨ j = 6 ∨ j = 7 := by omega
      rcases this with rfl | rfl | rfl | rfl | rfl | rfl | rfl | rfl
      · exact ⟨[97], 97, 97, rfl, plc_of (by decide +kernel)⟩
      · exact ⟨[122], 122, 122, rfl, plc_of (by decide +kernel)⟩
      · exact ⟨[98, 99], 98, 99, rfl, plc_of (by decide +kernel)⟩
      · exact ⟨[110, 111], 110, 111, rfl, plc_of (by decide +kernel)⟩
      · exact ⟨[111, 114], 111, 114, rfl, plc_of (by decide +kernel)⟩
      · exact ⟨[97, 120, 121], 97, 121, rfl, plc_of (by decide +kernel)⟩
      · exact ⟨[101, 103, 122], 101, 122, rfl, plc_of (by decide +kernel)⟩
      · exact ⟨[108, 115, 119], 108, 119, rfl, plc_of (by decide +kernel)⟩
    refine ⟨L, _, (j : Int), .str (tx cs), rfl, rfl, .inl (.inl (k1 _ _ upd_same nL1.1 nL1.2)), hix, ?_⟩
    have z3 := hp.l3
    have sz : (tx cs).length ≤ sizeLine := Nat.le_trans (show cs.length ≤ 3 from z3) (by decide)
    refine ⟨by show 0 ≤ sizeLine; decide, fun a1 n1 => ?_⟩
    have s1 := same_upd (o := .tup []) n1
    refine ⟨by show 1 ≤ sizeLine; decide, fun a2 n2 => ?_⟩
    have s2 := same_upd (o := .tup [.str "yes"]) n2
    refine ⟨by show 1 ≤ sizeLine; decide, fun a3 n3 => ?_⟩
    have s3 := same_upd (o := .tup [.ref a2]) n3
    refine ⟨_, rfl, tx cs, 0, c0, rfl, rfl, sz, hp.a0, by show 2 ≤ sizeLine; decide, fun a4 n4 => ?_⟩
    have s4 := same_upd (o := .tup [.str (sg c0), .str "not"]) n4
    refine ⟨by show 1 ≤ sizeLine; decide, fun a5 n5 => ?_⟩
    have s5 := same_upd (o := .tup [.ref a4]) n5
    refine ⟨_, rfl, tx cs, 0, c0, rfl, rfl, sz, hp.a0, _, rfl, 1, rfl, tx cs, -1, cl, rfl, rfl, sz, hp.al, by show 3 ≤ sizeLine; decide, fun a6 n6 => ?_⟩
    have s6 := same_upd (o := .tup [.str (sg c0), .str (sg cl), .str "or"]) n6
    refine ⟨by show 1 ≤ sizeLine; decide, fun a7 n7 => ?_⟩
    have s7 := same_upd (o := .tup [.ref a6]) n7
    refine ⟨by show 4 ≤ sizeLine; decide, fun R nR => ?_⟩
    have s8 := same_upd (o := .lst [.ref a1, .ref a3, .ref a5, .ref a7]) nR
    have S4 := s4.trans (s5.trans (s6.trans (s7.trans s8)))
    have S1 := s1.trans (s2.trans (s3.trans S4))
    have w8 := w1.same S1
    have nR1 := (w1.same (s1.trans (s2.trans (s3.trans (s4.trans (s5.trans (s6.trans s7))))))).no nR
    refine ⟨_, rfl, _, rfl, _, rfl, d, b, 4, rfl, by decide, by decide, w8, fun H9 r' r0' r1' w9 k9 => ?_⟩
    obtain ⟨i, rfl⟩ := Int.eq_ofNat_of_zero_le r0'
    have T9 : Tk K (tgt s8) H9 := fun _ _ t => Kp.tup k9 w8 t
    obtain ⟨ra, rvs, rs, hix2, tr, fr, hsy, hw, hl⟩ : ∃ ra rvs rs, atI [V.ref a1, .ref a3, .ref a5, .ref a7] (i : Int) = some (.ref ra) ∧ SqT K H9 ra rvs ∧ Rws K H9 rvs rs ∧ (∀ r ∈ rs, Sy cs r ∧ r.length ≤ 3) ∧ wor cs rs ≠ [] ∧ rs.length ≤ 1 := by
      have one : ∀ {r : List Wd}, Sy cs r → r.length ≤ 3 → ∀ x ∈ [r], Sy cs x ∧ x.length ≤ 3 := fun y l x hx => by rw [List.mem_singleton.mp hx]; exact ⟨y, l⟩
      have : i = 0 ∨ i = 1 ∨ i = 2 ∨ i = 3 := by omega
      rcases this with rfl | rfl | rfl | rfl
      · exact ⟨a1, _, [], rfl, T9 _ _ (Same.tup (s2.trans (s3.trans S4)) sqt_upd), trivial, nofun, hp.w.1, by decide⟩
      · exact ⟨a3, _, [[.yes]], rfl, T9 _ _ (Same.tup S4 sqt_upd), Rws.one (T9 _ _ (Same.tup (s3.trans S4) sqt_upd)), one Sy.yes (by decide), hp.w.2.1, Nat.le_refl 1⟩
      · exact ⟨a5, _, [[.lt c0, .nt]], rfl, T9 _ _ (Same.tup (s6.trans (s7.trans s8)) sqt_upd), Rws.one (T9 _ _ (Same.tup (s5.trans (s6.trans (s7.trans s8))) sqt_upd)), one (Sy.leaf hp.m0).not (by show 2 ≤ 3; decide), hp.w.2.2.1, Nat.le_refl 1⟩
      · exact ⟨a7, _, [[.lt c0, .lt cl, .orr]], rfl, T9 _ _ (Same.tup s8 sqt_upd), Rws.one (T9 _ _ (Same.tup (s7.trans s8) sqt_upd)), one ((Sy.leaf hp.m0).join (Sy.leaf hp.ml) .orr) (by show 3 ≤ 3; decide), hp.w.2.2.2, Nat.le_refl 1⟩
    refine ⟨R, _, (i : Int), .ref ra, rfl, rfl, .inl (.inl (k9 _ _ upd_same nR1.1 nR1.2)), hix2, by show 2 ≤ sizeLine; decide, fun hh nh => ?_⟩
    have s10 := same_upd (o := .tup [.str (tx cs), .ref ra]) nh
    exact q _ hh cs rs ⟨ra, rvs, sqt_upd, Same.tup s10 tr, fr.same s10⟩ ⟨by omega, fun c hc => (hp.ls.small c hc).2, fun r hr => ⟨(hsy r hr).1, by have := (hsy r hr).2; omega⟩, by omega⟩ hp.ls z3 hw hl (fun r hr => (hsy r hr).2) (w9.same s10) ((Same.kp sL).trans (k1.trans ((Same.kp S1).trans (k9.trans (Same.kp s10)))))
end
end B

namespace B
open PySem PySem.Spec PyProof.Rows L2

def sp_l_simple (K : PySem.W.Frag) : Sp := fun vs H Q _ => ∃ (d : Dr) (b : Nat) (cs : List Nat), vs = [.ref d.dr, .str (tx cs)] ∧ 1 ≤ cs.length ∧ cs.length ≤ 6 ∧ Drw H d (b + 3) ∧ ∀ (H' : Hp) (p : Addr) (u : List Wd), SqT K H' p (u.map wv) → Sy cs u → u.length ≤ 4 → Drw H' d b → Kp d H H' → Q (.ref p) H'

section
variable {P : Program} {w : World} {K : PySem.W.Frag} {mg : Str → Option Value} {base : Heap}
theorem ok_l_simple (T : Tx K mg w) (U : Unl P base) : FnOk P w K mg base CX0 36 T.l_simple.f T.l_simple.fd ["_law_drawn", "_law_letters"] (sp_l_simple K) := by
  refine T.l_simple.F.ok sc_l_simple (fun vs H Q E h => ?_) (fun cdv A outer s H vs Q E hr h => ?_)
  · obtain ⟨d, b, cs, rfl, c1, c6, hD, q⟩ := h
    rfl
  · obtain ⟨d, b, cs, rfl, c1, c6, hD, q⟩ := h
    refine ⟨_, (pss_cons (ps_set (i := 2) sc_l_simple.nd rfl (.inl rfl) (pe_ix ix_str (pv 1) (pe_call (ok_l_next T U) (hr.mono (by decide)) (by rfl) T.l_next.g T.l_next.F.kp T.l_next.b .nil pass0 (pa_cons (pv 0) (pa_cons (pe_callB call_len_str (by rfl) T.m_len (by decide +kernel) (pa_cons (pv 1) pa_nil)) pa_nil))) (fun _ _ => rfl)))
      (pss_cons (ps_set (i := 3) sc_l_simple.nd rfl (.inl rfl) (pe_ix ix_str (pv 1) (pe_call (ok_l_next T U) (hr.mono (by decide)) (by rfl) T.l_next.g T.l_next.F.kp T.l_next.b .nil pass0 (pa_cons (pv 0) (pa_cons (pe_callB call_len_str (by rfl) T.m_len (by decide +kernel) (pa_cons (pv 1) pa_nil)) pa_nil))) (fun _ _ => rfl)))
      (pss_cons (ps_set (i := 4) sc_l_simple.nd rfl (.inl rfl) (pe_lst (pa_cons (pe_tup (pa_cons (pv 2) pa_nil)) (pa_cons (pe_tup (pa_cons (pv 2) (pa_cons pe_str pa_nil))) (pa_cons (pe_tup (pa_cons (pv 2) (pa_cons (pv 3) (pa_cons pe_str pa_nil)))) (pa_cons (pe_tup (pa_cons (pv 2) (pa_cons (pv 3) (pa_cons pe_str pa_nil)))) (pa_cons (pe_tup (pa_cons (pv 2) (pa_cons (pv 3) (pa_cons pe_str (pa_cons pe_str pa_nil))))) (pa_cons (pe_tup (pa_cons pe_str pa_nil)) pa_nil))))))))
      (pss_one (ps_ret (pe_ix ix_list (pv 4) (pe_call (ok_l_next T U) (hr.mono (by decide)) (by rfl) T.l_next.g T.l_next.F.kp T.l_next.b .nil pass0 (pa_cons (pv 0) (pa_cons pe_int pa_nil))) (fun _ _ => rfl))))))), ?_⟩
    have sz : (tx cs).length ≤ sizeLine := Nat.le_trans (show cs.length ≤ 6 from c6) (by decide)
    have lb : ((tx cs).length : Int) = (cs.length : Int) := rfl
    refine ⟨_, rfl, _, rfl, _, rfl, tx cs, rfl, sz, d, b + 2, (cs.length : Int), rfl, by omega, by show cs.length < _; exact Nat.lt_of_le_of_lt (show cs.length ≤ 6 by omega) (by decide), hD, fun H1 r r0 r1 w1 k1 => ?_⟩
    obtain ⟨i, rfl⟩ := Int.eq_ofNat_of_zero_le r0
    have g1 := List.getElem?_eq_getElem (l := cs) (i := i) (by omega)
    have m1 := List.mem_of_getElem? g1
    generalize cs[i] = c at g1 m1
    refine ⟨tx cs, (i : Int), c, rfl, rfl, sz, by rw [tx_list]; exact atI_nat g1, ?_⟩
    refine ⟨_, rfl, _, rfl, _, rfl, tx cs, rfl, sz, d, b + 1, (cs.length : Int), rfl, by omega, by show cs.length < _; exact Nat.lt_of_le_of_lt (show cs.length ≤ 6 by omega) (by decide), w1, fun H2 r' r0' r1' w2 k2 => ?_⟩
    obtain ⟨j, rfl⟩ := Int.eq_ofNat_of_zero_le r0'
    have g2 := List.getElem?_eq_getElem (l := cs) (i := j) (by omega)
    have m2 := List.mem_of_getElem? g2
    generalize cs[j] = e at g2 m2
    refine ⟨tx cs, (j : Int), e, rfl, rfl, sz, by rw [tx_list]; exact atI_nat g2, ?_⟩
    refine ⟨_, rfl, by show 1 ≤ sizeLine; decide, fun a1 n1 => ?_⟩
    have s1 := same_upd (o := .tup [.str (sg c)]) n1
    refine ⟨_, rfl, by show 2 ≤ sizeLine; decide, fun a2 n2 => ?_⟩
    have s2 := same_upd (o := .tup [.str (sg c), .str "not"]) n2
    refine ⟨_, rfl, _, rfl, by show 3 ≤ sizeLine; decide, fun a3 n3 => ?_⟩
    have s3 := same_upd (o := .tup [.str (sg c), .str (sg e), .str "and"]) n3
    refine ⟨_, rfl, _, rfl, by show 3 ≤ sizeLine; decide, fun a4 n4 => ?_⟩
    have s4 := same_upd (o := .tup [.str (sg c), .str (sg e), .str "or"]) n4
    refine ⟨_, rfl, _, rfl, by show 4 ≤ sizeLine; decide, fun a5 n5 => ?_⟩
    have s5 := same_upd (o := .tup [.str (sg c), .str (sg e), .str "same", .str "not"]) n5
    refine ⟨by show 1 ≤ sizeLine; decide, fun a6 n6 => ?_⟩
    have s6 := same_upd (o := .tup [.str "yes"]) n6
    refine ⟨by show 6 ≤ sizeLine; decide, fun L nL => ?_⟩
    have s7 := same_upd (o := .lst [.ref a1, .ref a2, .ref a3, .ref a4, .ref a5, .ref a6]) nL
    have S3 := s3.trans (s4.trans (s5.trans (s6.trans s7)))
    have w7 := w2.same (s1.trans (s2.trans S3))
    have nL1 := (w2.same (s1.trans (s2.trans (s3.trans (s4.trans (s5.trans s6)))))).no nL
    refine ⟨_, rfl, _, rfl, d, b, 6, rfl, by decide, by decide, w7, fun H8 r'' r0'' r1'' w8 k8 => ?_⟩
    obtain ⟨k, rfl⟩ := Int.eq_ofNat_of_zero_le r0''
    have T8 : Tk K (tgt s7) H8 := fun _ _ t => Kp.tup k8 w7 t
    obtain ⟨p, u, hix, tp, yu, lu⟩ : ∃ p u, atI [V.ref a1, .ref a2, .ref a3, .ref a4, .ref a5, .ref a6] (k : Int) = some (.ref p) ∧ SqT K H8 p (u.map wv) ∧ Sy cs u ∧ u.length ≤ 4 := by
      have y1 : Sy cs [.lt c] := Sy.leaf m1
      have y2 : Sy cs [.lt e] := Sy.leaf m2
      have : k = 0 ∨ k = 1 ∨ k = 2 ∨ k = 3 ∨ k = 4 ∨ k = 5 := by omega
      rcases this with rfl | rfl | rfl | rfl | rfl | rfl
      · exact ⟨a1, [.lt c], rfl, T8 _ _ (Same.tup (s2.trans S3) sqt_upd), y1, by show 1 ≤ 4; decide⟩
      · exact ⟨a2, [.lt c, .nt], rfl, T8 _ _ (Same.tup S3 sqt_upd), y1.not, by show 2 ≤ 4; decide⟩
      · exact ⟨a3, [.lt c, .lt e, .an], rfl, T8 _ _ (Same.tup (s4.trans (s5.trans (s6.trans s7))) sqt_upd), y1.join y2 .an, by show 3 ≤ 4; decide⟩
      · exact ⟨a4, [.lt c, .lt e, .orr], rfl, T8 _ _ (Same.tup (s5.trans (s6.trans s7)) sqt_upd), y1.join y2 .orr, by show 3 ≤ 4; decide⟩
      · exact ⟨a5, [.lt c, .lt e, .sm, .nt], rfl, T8 _ _ (Same.tup (s6.trans s7) sqt_upd), (y1.join y2 .sm).not, by show 4 ≤ 4; decide⟩
      · exact ⟨a6, [.yes], rfl, T8 _ _ (Same.tup s7 sqt_upd), Sy.yes, by show 1 ≤ 4; decide⟩
    exact ⟨L, _, (k : Int), .ref p, rfl, rfl, .inl (.inl (k8 _ _ upd_same nL1.1 nL1.2)), hix, q _ p u tp yu lu w8 (k1.trans (k2.trans ((Same.kp (s1.trans (s2.trans S3))).trans k8)))⟩
end
end B

namespace B
open PySem PySem.Spec PyProof.Rows L2

def sp_minus (K : PySem.W.Frag) : Sp := fun vs H Q _ => ∃ (a c : Addr) (p r : Int × Nat), vs = [.ref a, .ref c] ∧ SqT K H a [.int p.1, .int p.2] ∧ SqT K H c [.int r.1, .int r.2] ∧ Fok 400000 p ∧ Fok 400000 r ∧ ∀ (H' : Hp) (u : Addr), SqT K H' u [.int (subF p r).1, .int (subF p r).2] → Same H H' → Q (.ref u) H'

section
variable {P : Program} {w : World} {K : PySem.W.Frag} {mg : Str → Option Value} {base : Heap}
theorem ok_minus (T : Tx K mg w) (U : Unl P base) : FnOk P w K mg base CX0 37 T.minus.f T.minus.fd ["one", "other"] (sp_minus K) := by
  refine T.minus.F.ok sc_minus (fun vs H Q E h => ?_) (fun cdv A outer s H vs Q E hr h => ?_)
  · obtain ⟨a, c, p, r, rfl, hA, hC, fp, fr, q⟩ := h
    rfl
  · obtain ⟨a, c, p, r, rfl, hA, hC, fp, fr, q⟩ := h
    refine ⟨_, (pss_one (ps_ret (pe_call (ok_plus T U) (hr.mono (by decide)) (by rfl) T.plus.g T.plus.F.kp T.plus.b .nil pass0 (pa_cons (pv 0) (pa_cons (pe_call (ok_turned_about T U) (hr.mono (by decide)) (by rfl) T.turned_about.g T.turned_about.F.kp T.turned_about.b .nil pass0 (pa_cons (pv 1) pa_nil)) pa_nil))))), ?_⟩
    refine ⟨_, rfl, _, rfl, c, r.1, r.2, rfl, hC, fun u nu => ?_⟩
    have s1 := same_upd (o := .tup [.int (-r.1), .int r.2]) nu
    exact ⟨a, u, p.1, -r.1, p.2, r.2, rfl, Same.tup s1 hA, sqt_upd, fp.f, fr.neg.f, fp.z, fr.neg.z, fun u2 n2 => q _ u2 sqt_upd (s1.trans (same_upd n2))⟩
end
end B

namespace B
open PySem PySem.Spec PyProof.Rows L2

def sp_is_above_zero (K : PySem.W.Frag) : Sp := fun vs H Q _ => ∃ (v : V) (d : PyData), vs = [v] ∧ Th K H v d ∧ Q (.bl (isAb d)) H

section
variable {P : Program} {w : World} {K : PySem.W.Frag} {mg : Str → Option Value} {base : Heap}
theorem ok_is_above_zero (T : Tx K mg w) (U : Unl P base) : FnOk P w K mg base CX0 37 T.is_above_zero.f T.is_above_zero.fd ["thing"] (sp_is_above_zero K) := by
  refine T.is_above_zero.F.ok sc_is_above_zero (fun vs H Q E h => ?_) (fun cdv A outer s H vs Q E hr h => ?_)
  · obtain ⟨v, d, rfl, hT, q⟩ := h
    rfl
  · obtain ⟨v, d, rfl, hT, q⟩ := h
    refine ⟨_, (pss_one (ps_ret (pe_and (pe_call (ok_is_fraction T U) (hr.mono (by decide)) (by rfl) T.is_fraction.g T.is_fraction.F.kp T.is_fraction.b .nil pass0 (pa_cons (pv 0) pa_nil)) (pe_one (pe_cmpR op_gt (pe_ix ix_tup (pv 0) pe_int (fun _ _ => rfl)) pe_int (nomark _)))))), ?_⟩
    refine ⟨_, rfl, v, d, rfl, hT, _, rfl, ?_⟩
    unfold isAb at q
    cases e : isFr d with
    | false =>
      rw [e, Bool.false_and] at q
      exact iteF q
    | true =>
      rw [e, Bool.true_and] at q
      obtain ⟨p, f, rfl⟩ := isFr_iff.mp e
      rw [frD_fdat] at q
      cases hT with
      | tup tA al =>
      cases al with
      | cons t1 al =>
      cases al with
      | cons t2 al =>
      cases al
      cases t1
      cases t2
      rename_i a
      exact iteT ⟨_, rfl, a, _, 0, .int p.1, rfl, rfl, tA, rfl, _, _, rfl, rfl, q⟩
end
end B

namespace B
open PySem PySem.Spec PyProof.Rows L2

def sp_standing (K : PySem.W.Frag) : Sp := fun vs H Q E => ∃ (a : Addr) (v : V) (d : PyData) (S : Std), vs = [.ref a, v] ∧ StdAt K H a S ∧ Th K H v d ∧ ((∀ t ∈ S.ts, d ≠ .int (t.n : Int)) → ∀ C, XIs K "NoTicket" C → ∀ d H', DOk H' d → Same H H' → E (.ref C) d H') ∧ ∀ (i : Nat) (u : V) (t : Tkt), S.ts[i]? = some t → TkAt K H u t → d = .int (t.n : Int) → Q u H

section
variable {P : Program} {w : World} {K : PySem.W.Frag} {mg : Str → Option Value} {base : Heap}
theorem ok_standing (T : Tx K mg w) (U : Unl P base) : FnOk P w K mg base (L2.CX P w) 37 T.standing.f T.standing.fd ["stand", "number"] (sp_standing K) := by
  refine T.standing.F.okX sc_standing (fun vs H Q E h => ?_) (fun cdv A outer s H vs Q E hr h => ?_)
  · obtain ⟨a, v, d, S, rfl, hS, hd, hE, hQ⟩ := h
    rfl
  · obtain ⟨a, v, d, S, rfl, hS, hd, hE, hQ⟩ := h
    refine ⟨_, (pss_cons (ps_set (i := 2) sc_standing.nd rfl (.inl rfl) (pe_call (ok_ticket_of T U) (hr.mono (by decide)) (by rfl) T.ticket_of.g T.ticket_of.F.kp T.ticket_of.b .nil pass0 (pa_cons (pe_ix ix_tup (pv 0) pe_int (fun _ _ => rfl)) (pa_cons (pv 1) pa_nil))))
      (pss_cons (ps_if (pt_cmpR op_isN (pv 2) pe_non (nomark _)) (pss_one (ps_raise rfl (takes_of rfl rfl rfl rfl) (pmk_none T.x_NoTicket hr (by rfl)))) pss_nil)
      (pss_one (ps_ret (pv 2))))), ?_⟩
    obtain ⟨h, pp, tt, l', pvs, tvs, lvs, tS, hH, tP, fP, tT, fT, tL, fL⟩ := id hS
    refine ⟨_, rfl, a, _, 2, .ref tt, rfl, rfl, tS, atI_nat (j := 2) rfl, _, rfl, tt, v, d, tvs, S.ts, rfl, tT, fT, hd, fun hn => ?_, fun i u t hu ht hT hz => ?_⟩
    · exact ⟨_, rfl, rfl, _, rfl, iteT fun d nd => hE hn _ T.x_NoTicket.ns _ _ dok_upd (same_upd nd)⟩
    · obtain ⟨tq, a1, c1, e1, rfl, t1, _⟩ := id hT
      exact ⟨_, rfl, rfl, _, rfl, iteE (decide_eq_false nofun) ⟨_, rfl, hQ i _ t ht hT hz⟩⟩
end
end B

namespace B
open PySem PySem.Spec PyProof.Rows L2

def sp_l_paid (K : PySem.W.Frag) : Sp := fun vs H Q _ => ∃ (cs : List Nat) (a : Addr) (ts : List Tm) (g : List Wd) (bs : List Bool), vs = [.str (tx cs), .ref a, .str (wtx bs)] ∧ BtAt K H a ts g ∧ BtOk cs ts g ∧ cs.length = bs.length ∧ bs.length ≤ 100 ∧ ∀ (H' : Hp) (u : V), PdAt K H' u (payO (vl cs bs) ts g) → Same H H' → Q u H'

section
variable {P : Program} {w : World} {K : PySem.W.Frag} {mg : Str → Option Value} {base : Heap}
theorem ok_l_paid (T : Tx K mg w) (U : Unl P base) : FnOk P w K mg base CX0 37 T.l_paid.f T.l_paid.fd ["_law_letters", "_law_bet", "_law_world"] (sp_l_paid K) := by
  refine T.l_paid.F.ok sc_l_paid (fun vs H Q E h => ?_) (fun cdv A outer s H vs Q E hr h => ?_)
  · obtain ⟨cs, a, ts, g, bs, rfl, hA, hO, hl, hb, q⟩ := h
    rfl
  · obtain ⟨cs, a, ts, g, bs, rfl, hA, hO, hl, hb, q⟩ := h
    refine ⟨_, (pss_cons (ps_if (pt_not (pt_val (pe_call (ok_l_holds T U) (hr.mono (by decide)) (by rfl) T.l_holds.g T.l_holds.F.kp T.l_holds.b .nil pass0 (pa_cons (pv 0) (pa_cons (pe_ix ix_tup (pv 1) pe_int (fun _ _ => rfl)) (pa_cons (pv 2) pa_nil)))))) (pss_one (ps_ret pe_non)) pss_nil)
      (pss_cons (ps_set (i := 3) sc_l_paid.nd rfl (.inl rfl) (pe_tup (pa_cons pe_int (pa_cons pe_int pa_nil))))
      (pss_cons (ps_for PassesOwn.never rfl (pi_tup (pe_ix ix_tup (pv 1) pe_int (fun _ _ => rfl))) (pg_tup rfl (pgs_cons (pg_name (i := 4) sc_l_paid.nd rfl (.inl rfl)) (pgs_cons (pg_name (i := 5) sc_l_paid.nd rfl (.inl rfl)) pgs_nil)))
      (pss_one (ps_if (pt_val (pe_call (ok_l_holds T U) (hr.mono (by decide)) (by rfl) T.l_holds.g T.l_holds.F.kp T.l_holds.b .nil pass0 (pa_cons (pv 0) (pa_cons (pv 5) (pa_cons (pv 2) pa_nil))))) (pss_one (ps_set (i := 3) sc_l_paid.nd rfl (.inl rfl) (pe_call (ok_l_plus T U) (hr.mono (by decide)) (by rfl) T.l_plus.g T.l_plus.F.kp T.l_plus.b .nil pass0 (pa_cons (pv 3) (pa_cons (pv 4) pa_nil))))) pss_nil)))
      (pss_one (ps_ret (pv 3)))))), ?_⟩
    obtain ⟨pt, pg, tvs, tA, tP, tF, tG⟩ := hA
    refine ⟨_, rfl, _, rfl, a, _, 1, .ref pg, rfl, rfl, tA, rfl, _, rfl, cs, pg, g, bs, rfl, tG, hO.sy, hl, hb, by have := hO.ln; omega, fun H1 s1 => ⟨_, rfl, ?_⟩⟩
    cases hg : sval (vl cs bs) g with
    | false => exact iteT (q _ .non (by unfold payO; rw [hg]; exact rfl) s1)
    | true =>
      refine iteF ?_
      refine ⟨by show 2 ≤ sizeLine; decide, fun u0 n0 => ?_⟩
      have s0 := s1.trans (same_upd (o := .tup [.int 0, .int 1]) n0)
      refine ⟨_, rfl, a, _, 0, .ref pt, rfl, rfl, Same.tup s0 tA, rfl, pt, rfl, ⟨_, Same.tup s0 tP⟩, for_tup (K := K) (a := pt) (xs := tvs) (fun i σ H' => ∃ (x6 x7 : Option V) (u : Addr), σ = [some (.str (tx cs)), some (.ref a), some (.str (wtx bs)), some (.ref u), x6, x7] ∧ SqT K H' u [.int (pay (vl cs bs) (ts.take i)).1, .int (pay (vl cs bs) (ts.take i)).2] ∧ Same H H') ⟨none, none, u0, rfl, sqt_upd, s0⟩ (fun i σ H' _ ⟨_, _, _, _, _, e⟩ => Same.tup e tP) ?_ ?_⟩
      · rintro i x σ H2 hx ⟨x6, x7, u, rfl, tu, s2⟩
        obtain ⟨y, hy, p, f, c, rfl, t1, t2, t3⟩ := (tF.imp fun _ _ h => TmAt.mono (fun _ _ q => Same.tup s2 q) h).getA hx
        have ym := hO.tm y (List.mem_of_getElem? hy)
        have po := (pay_okB (vl cs bs) hO i).up (show 390000 ≤ 400000 by decide)
        have ya := ym.a.up (show 240 ≤ 400000 by decide)
        refine ⟨p, _, rfl, t1, rfl, _, _, rfl, _, _, rfl, rfl, ?_⟩
        refine ⟨_, rfl, _, rfl, _, rfl, cs, c, y.w, bs, rfl, t3, ym.sy, hl, hb, by have := ym.ln; omega, fun H3 s3 => ⟨_, rfl, ?_⟩⟩
        have ep := pay_take (vl cs bs) hy
        cases hv : sval (vl cs bs) y.w with
        | false =>
          rw [hv] at ep
          exact iteF ⟨_, _, u, rfl, by rw [ep]; exact Same.tup s3 tu, s2.trans s3⟩
        | true =>
          rw [hv] at ep
          exact iteT ⟨_, rfl, _, rfl, u, f, _, _, _, _, rfl, Same.tup s3 tu, Same.tup s3 t2, po.f, ya.f, po.z, ya.z, fun p3 n3 => ⟨_, _, p3, rfl, by rw [ep]; exact sqt_upd, (s2.trans s3).trans (same_upd n3)⟩⟩
      · rintro σ H2 ⟨x6, x7, u, rfl, tu, s2⟩
        rw [tF.len, List.take_length] at tu
        exact ⟨_, rfl, q _ (.ref u) (by unfold payO; rw [hg]; exact ⟨u, rfl, tu⟩) s2⟩
end
end B

namespace B
open PySem PySem.Spec PyProof.Rows L2

def sp_l_cost (K : PySem.W.Frag) : Sp := fun vs H Q _ => ∃ (d : Dr) (b : Nat) (p : Addr) (us : List V) (tab : List (Option (Int × Nat))), vs = [.ref d.dr, .ref p] ∧ SqT K H p us ∧ F2 (PdAt K H) us tab ∧ tab.length ≤ 64 ∧ somes tab ≠ [] ∧ (∀ x ∈ somes tab, Fb 7000000 (2 ^ 45) x) ∧ Drw H d (b + 2) ∧ ∀ (H' : Hp) (r : Addr) (x : Int × Nat), SqT K H' r [.int x.1, .int x.2] → Fb 42000000 (2 ^ 46) x → Drw H' d b → Kp d H H' → Q (.ref r) H'

section
variable {P : Program} {w : World} {K : PySem.W.Frag} {mg : Str → Option Value} {base : Heap}
theorem ok_l_cost (T : Tx K mg w) (U : Unl P base) : FnOk P w K mg base CX0 37 T.l_cost.f T.l_cost.fd ["_law_drawn", "_law_table_here"] (sp_l_cost K) := by
  refine T.l_cost.F.ok sc_l_cost (fun vs H Q E h => ?_) (fun cdv A outer s H vs Q E hr h => ?_)
  · obtain ⟨d, b, p, us, tab, rfl, tt, ft, h64, hne, hF, hD, q⟩ := h
    rfl
  · obtain ⟨d, b, p, us, tab, rfl, tt, ft, h64, hne, hF, hD, q⟩ := h
    refine ⟨_, (pss_cons (ps_setLc (i := 3) (own := [("_law_one", 2)]) (g := gName 2) rfl sc_l_cost.nd rfl rfl (sw_true rfl rfl rfl (by decide +kernel)) (pi_tup (pv 1)) (blkOk_by (own := [("_law_one", 2)]) (N := N_l_cost) (sc := defScope s_l_cost) (by decide +kernel)) (fun _ _ _ _ _ => (pg_name (i := 2) sc_l_cost.nd rfl (.inl rfl))) (fun _ _ _ _ _ => (pts_one (pt_cmpR op_notN (pv 2) pe_non (nomark _)))) (fun _ _ _ _ _ => (pv 2)))
      (pss_one (ps_ret (pe_call (ok_l_plus T U) (hr.mono (by decide)) (by rfl) T.l_plus.g T.l_plus.F.kp T.l_plus.b .nil pass0 (pa_cons (pe_ix ix_list (pv 3) (pe_call (ok_l_next T U) (hr.mono (by decide)) (by rfl) T.l_next.g T.l_next.F.kp T.l_next.b .nil pass0 (pa_cons (pv 0) (pa_cons (pe_callB call_len_seq (by rfl) T.m_len (by decide +kernel) (pa_cons (pv 3) pa_nil)) pa_nil))) (fun _ _ => rfl)) (pa_cons (pe_ix ix_list (pe_lst (pa_cons (pe_tup (pa_cons pe_int (pa_cons pe_int pa_nil))) (pa_cons (pe_tup (pa_cons pe_int (pa_cons pe_int pa_nil))) (pa_cons (pe_tup (pa_cons (pe_un un_neg pe_int) (pa_cons pe_int pa_nil))) (pa_cons (pe_tup (pa_cons pe_int (pa_cons pe_int pa_nil))) pa_nil))))) (pe_call (ok_l_next T U) (hr.mono (by decide)) (by rfl) T.l_next.g T.l_next.F.kp T.l_next.b .nil pass0 (pa_cons (pv 0) (pa_cons pe_int pa_nil))) (fun _ _ => rfl)) pa_nil)))))), ?_⟩
    have ul := ft.len
    refine ⟨_, rfl, p, rfl, ⟨_, tt⟩, fun D nD => ?_⟩
    refine lcp_tup (K := K) (R := FAt K) (IR := PdAt K H) tab id (fun _ _ _ _ k h => h.mono k) ft nD tt (Nat.lt_of_le_of_lt (show us.length ≤ 64 by omega) (by decide)) ?_ ?_
    · rintro v o H6 pv _ s6 Y N hYes hNo
      refine ⟨rfl, _, rfl, rfl, _, rfl, ?_⟩
      rw [pdAt_notNone pv]
      cases o with
      | none => exact hNo _ (fun _ _ h => h) rfl
      | some x => exact ⟨_, rfl, hYes _ _ x (fun _ _ h => h) rfl (FAt.mono (Same.tk s6) pv)⟩
    intro H1 ys h1 f1 s1
    have w1 := hD.same s1
    have ly := f1.len
    have pos := List.length_pos_iff.mpr hne
    have l64 : (somes tab).length ≤ 64 := Nat.le_trans (List.length_filterMap_le _ _) h64
    have ly : ys.length = (somes tab).length := ly
    have nD1 := hD.no nD
    refine ⟨_, rfl, _, rfl, _, rfl, D, ys, rfl, .inl (.inl (.inl h1)), d, b + 1, (ys.length : Int), rfl, by omega, by show ys.length < _; exact Nat.lt_of_le_of_lt (show ys.length ≤ 64 by omega) (by decide), w1, fun H2 r r0 r1 w2 k2 => ?_⟩
    obtain ⟨i, rfl⟩ := Int.eq_ofNat_of_zero_le r0
    have g1 := List.getElem?_eq_getElem (l := somes tab) (i := i) (by omega)
    have m1 := List.mem_of_getElem? g1
    generalize (somes tab)[i] = x at g1 m1
    obtain ⟨v, hv, f, rfl, tf⟩ := (fas_tk f1 (fun _ _ t => Kp.tup k2 w1 t)).getB g1
    have fx := hF x m1
    have h2 := k2 _ _ h1 nD1.1 nD1.2
    refine ⟨D, ys, (i : Int), .ref f, rfl, rfl, .inl (.inl h2), atI_nat hv, ?_⟩
    refine ⟨by show 2 ≤ sizeLine; decide, fun a1 n1 => ?_⟩
    have s3 := same_upd (o := .tup [.int 0, .int 1]) n1
    refine ⟨by show 2 ≤ sizeLine; decide, fun a2 n2 => ?_⟩
    have s4 := same_upd (o := .tup [.int 1, .int 2]) n2
    refine ⟨2, rfl, by show 2 ≤ sizeLine; decide, fun a3 n3 => ?_⟩
    have s5 := same_upd (o := .tup [.int (-2), .int 3]) n3
    refine ⟨by show 2 ≤ sizeLine; decide, fun a4 n4 => ?_⟩
    have s6 := same_upd (o := .tup [.int 5, .int 1]) n4
    refine ⟨by show 4 ≤ sizeLine; decide, fun L nL => ?_⟩
    have s7 := same_upd (o := .lst [.ref a1, .ref a2, .ref a3, .ref a4]) nL
    have t6 := s6.trans s7
    have t5 := s5.trans t6
    have t4 := s4.trans t5
    have t3 := s3.trans t4
    have nL1 := (w2.same (s3.trans (s4.trans (s5.trans s6)))).no nL
    have w7 := w2.same t3
    refine ⟨_, rfl, d, b, 4, rfl, by decide, by decide, w7, fun H8 r' r0' r1' w8 k8 => ?_⟩
    obtain ⟨j, rfl⟩ := Int.eq_ofNat_of_zero_le r0'
    have T8 : Tk K (tgt s7) H8 := fun _ _ t => Kp.tup k8 w7 t
    obtain ⟨pa, y, hix, ty, fy⟩ : ∃ (p : Addr) (x : Int × Nat), atI [V.ref a1, .ref a2, .ref a3, .ref a4] (j : Int) = some (.ref p) ∧ SqT K H8 p [.int x.1, .int x.2] ∧ Fb 42000000 5 x := by
      have : j = 0 ∨ j = 1 ∨ j = 2 ∨ j = 3 := by omega
      rcases this with rfl | rfl | rfl | rfl
      · exact ⟨a1, (0, 1), rfl, T8 _ _ (Same.tup t4 sqt_upd), fb_dec (by decide +kernel)⟩
      · exact ⟨a2, (1, 2), rfl, T8 _ _ (Same.tup t5 sqt_upd), fb_dec (by decide +kernel)⟩
      · exact ⟨a3, (-2, 3), rfl, T8 _ _ (Same.tup t6 sqt_upd), fb_dec (by decide +kernel)⟩
      · exact ⟨a4, (5, 1), rfl, T8 _ _ (Same.tup s7 sqt_upd), fb_dec (by decide +kernel)⟩
    refine ⟨L, _, (j : Int), .ref pa, rfl, rfl, .inl (.inl (k8 _ _ upd_same nL1.1 nL1.2)), hix, ?_⟩
    have fz := ((fx.up (E := 42000000) (by decide) (Nat.le_refl _)).add fy (by decide)).up (N := 2 ^ 46) (Nat.dvd_refl _) (by decide)
    have ox := (fx.fok (a := 23) (c := 45) (by decide) (by decide) (by decide)).up (show 45 + 23 ≤ 400000 by decide)
    have oy := (fy.fok (a := 26) (c := 3) (by decide) (by decide) (by decide)).up (show 3 + 26 ≤ 400000 by decide)
    refine ⟨f, pa, x.1, y.1, x.2, y.2, rfl, T8 _ _ (Same.tup t3 tf), ty, ox.f, oy.f, ox.z, oy.z, fun z nz => ?_⟩
    have s9 := same_upd (o := .tup [.int (addF x y).1, .int (addF x y).2]) nz
    exact q _ z (addF x y) sqt_upd fz (w8.same s9) ((Same.kp s1).trans (k2.trans ((Same.kp t3).trans (k8.trans (Same.kp s9)))))
end
end B

namespace B
open PySem PySem.Spec PyProof.Rows L2

def sp_l_likes (K : PySem.W.Frag) : Sp := fun vs H Q _ => ∃ (d : Dr) (b n k0 m : Nat) (T : Addr) (tvs : List V) (cs : List Nat) (tks : List Tkt), vs = [.ref d.dr, .ref T, .int m] ∧ m ≤ 9 ∧ SqT K H T tvs ∧ F2 (TkAt K H) tvs tks ∧ tks ≠ [] ∧ tks.length ≤ 3 ∧ (∀ t ∈ tks, TkK cs 60 10 t ∧ t.l < n ∧ t.s < n ∧ t.l ≠ t.s ∧ t.n < k0) ∧ k0 ≤ 1000 ∧ tks.Pairwise (fun a b => a.n < b.n) ∧ Drw H d (b + 4 * m) ∧ ∀ (H' : Hp) (p : Addr) (tvs' : List V) (tks' : List Tkt) (N : Nat), SqT K H' p tvs' → F2 (TkAt K H') tvs' tks' → tks' ≠ [] → tks'.length ≤ 12 → (∀ t ∈ tks', TkK cs 30720 5120 t ∧ t.l < n ∧ t.s < n ∧ t.l ≠ t.s ∧ t.n ≤ N) → tks'.getLast?.map (fun t => t.n) = some N → tks'.Pairwise (fun a b => a.n < b.n) → Drw H' d b → Kp d H H' → Q (.ref p) H'

section
variable {P : Program} {w : World} {K : PySem.W.Frag} {mg : Str → Option Value} {base : Heap}
theorem ok_l_likes (T : Tx K mg w) (U : Unl P base) : FnOk P w K mg base CX0 37 T.l_likes.f T.l_likes.fd ["_law_drawn", "_law_tickets_here", "_law_more"] (sp_l_likes K) := by
  refine T.l_likes.F.ok sc_l_likes (fun vs H Q E h => ?_) (fun cdv A outer s H vs Q E hr h => ?_)
  · obtain ⟨d, b, n, k0, m, T', tvs, cs, tks, rfl, m9, tT, fT, hne, l3, hW, k01, hr', hD, q⟩ := h
    rfl
  · obtain ⟨d, b, n, k0, m, T', tvs, cs, tks, rfl, m9, tT, fT, hne, l3, hW, k01, hr', hD, q⟩ := h
    refine ⟨_, (pss_cons (ps_set (i := 3) sc_l_likes.nd rfl (.inl rfl) (pe_ix ix_tup (pe_ix ix_tup (pv 1) (pe_un un_neg pe_int) (fun _ _ => rfl)) pe_int (fun _ _ => rfl)))
      (pss_cons (ps_for PassesOwn.never rfl (pi_range1 (by rfl) T.m_range (pa_cons (pv 2) pa_nil)) (pg_name (i := 4) sc_l_likes.nd rfl (.inl rfl))
      (pss_cons (ps_set (i := 5) sc_l_likes.nd rfl (.inl rfl) (pe_ix ix_tup (pv 1) (pe_call (ok_l_next T U) (hr.mono (by decide)) (by rfl) T.l_next.g T.l_next.F.kp T.l_next.b .nil pass0 (pa_cons (pv 0) (pa_cons (pe_callB call_len_seq (by rfl) T.m_len (by decide +kernel) (pa_cons (pv 1) pa_nil)) pa_nil))) (fun _ _ => rfl)))
      (pss_cons (ps_asg (pv 5) (pg_tup rfl (pgs_cons (pg_name (i := 6) sc_l_likes.nd rfl (.inl rfl)) (pgs_cons (pg_name (i := 7) sc_l_likes.nd rfl (.inl rfl)) (pgs_cons (pg_name (i := 8) sc_l_likes.nd rfl (.inl rfl)) (pgs_cons (pg_name (i := 9) sc_l_likes.nd rfl (.inl rfl)) (pgs_cons (pg_name (i := 10) sc_l_likes.nd rfl (.inl rfl)) (pgs_cons (pg_name (i := 11) sc_l_likes.nd rfl (.inl rfl)) pgs_nil))))))))
      (pss_cons (ps_set (i := 3) sc_l_likes.nd rfl (.inl rfl) (pe_op op_add (pe_op op_add (pv 3) pe_int) (pe_call (ok_l_next T U) (hr.mono (by decide)) (by rfl) T.l_next.g T.l_next.F.kp T.l_next.b .nil pass0 (pa_cons (pv 0) (pa_cons pe_int pa_nil)))))
      (pss_cons (ps_set (i := 12) sc_l_likes.nd rfl (.inl rfl) (pe_call (ok_l_times T U) (hr.mono (by decide)) (by rfl) T.l_times.g T.l_times.F.kp T.l_times.b .nil pass0 (pa_cons (pv 11) (pa_cons (pe_ix ix_list (pe_lst (pa_cons (pe_tup (pa_cons pe_int (pa_cons pe_int pa_nil))) (pa_cons (pe_tup (pa_cons pe_int (pa_cons pe_int pa_nil))) (pa_cons (pe_tup (pa_cons pe_int (pa_cons pe_int pa_nil))) (pa_cons (pe_tup (pa_cons pe_int (pa_cons pe_int pa_nil))) pa_nil))))) (pe_call (ok_l_next T U) (hr.mono (by decide)) (by rfl) T.l_next.g T.l_next.F.kp T.l_next.b .nil pass0 (pa_cons (pv 0) (pa_cons pe_int pa_nil))) (fun _ _ => rfl)) pa_nil))))
      (pss_cons (ps_set (i := 13) sc_l_likes.nd rfl (.inl rfl) (pe_ix ix_list (pe_lst (pa_cons (pe_tup (pa_cons (pv 7) (pa_cons (pv 8) pa_nil))) (pa_cons (pe_tup (pa_cons (pv 8) (pa_cons (pv 7) pa_nil))) pa_nil))) (pe_call (ok_l_next T U) (hr.mono (by decide)) (by rfl) T.l_next.g T.l_next.F.kp T.l_next.b .nil pass0 (pa_cons (pv 0) (pa_cons pe_int pa_nil))) (fun _ _ => rfl)))
      (pss_one (ps_set (i := 1) sc_l_likes.nd rfl (.inl rfl) (pe_op op_catS (pv 1) (pe_tup (pa_cons (pe_op op_catS (pe_op op_catS (pe_tup (pa_cons (pv 3) pa_nil)) (pv 13)) (pe_tup (pa_cons (pv 9) (pa_cons (pv 10) (pa_cons (pv 12) pa_nil))))) pa_nil)))))))))))
      (pss_one (ps_ret (pv 1))))), ?_⟩
    have lT := fT.len
    obtain ⟨l0, t0, e0⟩ : ∃ l t, tks = l ++ [t] := by
      rcases List.eq_nil_or_concat tks with e | ⟨l, t, e⟩
      · exact absurd e hne
      · exact ⟨l, t, by rw [e, List.concat_eq_append]⟩
    have gl : tks[tks.length - 1]? = some t0 := by
      rw [e0, List.length_append, List.length_singleton, Nat.add_sub_cancel, List.getElem?_append_right (Nat.le_refl _), Nat.sub_self]
      rfl
    have pos := List.length_pos_iff.mpr hne
    obtain ⟨vl', hvl, hTl⟩ := fT.getB gl
    obtain ⟨tq', ba, pa, ka, rfl, t1, _⟩ := id hTl
    refine ⟨_, rfl, 1, rfl, T', tvs, (-1), .ref tq', rfl, rfl, tT, atI_end (k := tks.length - 1) (by omega) hvl, tq', _, 0, .int t0.n, rfl, rfl, t1, rfl, ?_⟩
    have le0 : ∀ t ∈ tks, t.n ≤ t0.n := fun t ht => by
      rw [e0] at ht hr'
      rcases List.mem_append.mp ht with z | z
      · have := (List.pairwise_append.mp hr').2.2 t z t0 (by simp)
        omega
      · rw [List.mem_singleton.mp z]
        exact Nat.le_refl _
    refine ⟨_, rfl, (m : Int), rfl, by omega, by omega, for_range (lo := 0) (n := ((m : Nat) : Int).toNat) (fun i σ H' => ∃ (T : Addr) (tvs : List V) (tks : List Tkt) (N : Nat) (x4 x5 x6 x7 x8 x9 x10 x11 x12 x13 : Option V), σ = [some (.ref d.dr), some (.ref T), some (.int m), some (.int N), x4, x5, x6, x7, x8, x9, x10, x11, x12, x13] ∧ SqT K H' T tvs ∧ F2 (TkAt K H') tvs tks ∧ tks ≠ [] ∧ tks.length ≤ 3 + i ∧ (∀ t ∈ tks, TkK cs (60 * 2 ^ i) (10 * 2 ^ i) t ∧ t.l < n ∧ t.s < n ∧ t.l ≠ t.s ∧ t.n ≤ N) ∧ tks.getLast?.map (fun t => t.n) = some N ∧ tks.Pairwise (fun a b => a.n < b.n) ∧ Drw H' d (b + 4 * m - 4 * i) ∧ Kp d H H') ⟨T', tvs, tks, t0.n, _, _, _, _, _, _, _, _, _, _, rfl, tT, fT, hne, by omega, fun t ht => ⟨(hW t ht).1.up (by decide) (by decide), (hW t ht).2.1, (hW t ht).2.2.1, (hW t ht).2.2.2.1, le0 t ht⟩, by rw [e0]; simp, hr', hD.less (by omega), Kp.refl _ _⟩ ?_ ?_⟩
    · rintro i σ H2 hi ⟨T, tvs, tks, N, x4, x5, x6, x7, x8, x9, x10, x11, x12, x13, rfl, tT2, fT2, ne2, ll2, hW2, hN2, hr2, w2, k2⟩
      rw [Int.toNat_natCast] at hi
      have lT2 := fT2.len
      have pos2 := List.length_pos_iff.mpr ne2
      refine ⟨_, rfl, _, rfl, _, rfl, T, tvs, rfl, .inr tT2, d, b + 4 * m - 4 * i - 1, (tvs.length : Int), rfl, by omega, by omega, w2.less (by omega), fun H3 r r0 r1 w3 k3 => ?_⟩
      obtain ⟨z, rfl⟩ := Int.eq_ofNat_of_zero_le r0
      obtain ⟨t, ht⟩ : ∃ t, tks[z]? = some t := ⟨_, List.getElem?_eq_getElem (by omega)⟩
      have hm := List.mem_of_getElem? ht
      have T23 : Tk K H2 H3 := fun _ _ t => Kp.tup k3 w2 t
      obtain ⟨v, hv, hT⟩ := (tks_tk fT2 T23).getB ht
      obtain ⟨tq, ba, pa, ka, rfl, q1, q2, q3, q4⟩ := id hT
      obtain ⟨tk, tl, ts, nls, tn⟩ := hW2 t hm
      refine ⟨T, tvs, (z : Int), .ref tq, rfl, rfl, T23 _ _ tT2, atI_nat hv, ?_⟩
      refine ⟨_, rfl, tq, _, rfl, q1, rfl, _, _, rfl, _, _, rfl, _, _, rfl, _, _, rfl, _, _, rfl, _, _, rfl, rfl, ?_⟩
      refine ⟨_, rfl, _, _, rfl, rfl, _, rfl, d, b + 4 * m - 4 * i - 2, 3, rfl, by decide, by decide, w3.less (by omega), fun H4 r' r0' r1' w4 k4 => ?_⟩
      obtain ⟨y, rfl⟩ := Int.eq_ofNat_of_zero_le r0'
      refine ⟨_, _, rfl, rfl, ?_⟩
      have eN : ((N : Int) + 1 + (y : Int)) = ((N + 1 + y : Nat) : Int) := by omega
      rw [show (fun i j : Int => V.int (i + j)) ((N : Int) + 1) (y : Int) = V.int ((N + 1 + y : Nat) : Int) from congrArg V.int eN]
      refine ⟨_, rfl, by show 2 ≤ sizeLine; decide, fun c1 n1 => ⟨by show 2 ≤ sizeLine; decide, fun c2 n2 => ⟨by show 2 ≤ sizeLine; decide, fun c3 n3 => ⟨by show 2 ≤ sizeLine; decide, fun c4 n4 => ⟨by show 4 ≤ sizeLine; decide, fun L nL => ?_⟩⟩⟩⟩⟩
      have e1 := same_upd (o := .tup [.int 1, .int 2]) n1
      have e2 := same_upd (o := .tup [.int 1, .int 1]) n2
      have e3 := same_upd (o := .tup [.int 2, .int 1]) n3
      have e4 := same_upd (o := .tup [.int 1, .int 1]) n4
      have e5 := same_upd (o := .lst [.ref c1, .ref c2, .ref c3, .ref c4]) nL
      have w5 := w4.same (e1.trans (e2.trans (e3.trans e4)))
      have nL1 := w5.no nL
      have w6 := w5.same e5
      refine ⟨_, rfl, d, b + 4 * m - 4 * i - 3, 4, rfl, by decide, by decide, w6.less (by omega), fun H7 r2 r20 r21 w7 k7 => ?_⟩
      obtain ⟨x, rfl⟩ := Int.eq_ofNat_of_zero_le r20
      have T67 : Tk K (tgt e5) H7 := fun _ _ t => Kp.tup k7 w6 t
      obtain ⟨ca, c, hat, tc, fc, c0⟩ : ∃ (ca : Addr) (c : Int × Nat), atI [V.ref c1, .ref c2, .ref c3, .ref c4] (x : Int) = some (.ref ca) ∧ SqT K H7 ca [.int c.1, .int c.2] ∧ Fb 2 2 c ∧ 0 < c.1 := by
        have : x = 0 ∨ x = 1 ∨ x = 2 ∨ x = 3 := by omega
        rcases this with rfl | rfl | rfl | rfl
        · exact ⟨c1, (1, 2), rfl, T67 _ _ (Same.tup (e2.trans (e3.trans (e4.trans e5))) sqt_upd), fb_dec (by decide +kernel), by decide⟩
        · exact ⟨c2, (1, 1), rfl, T67 _ _ (Same.tup (e3.trans (e4.trans e5)) sqt_upd), fb_dec (by decide +kernel), by decide⟩
        · exact ⟨c3, (2, 1), rfl, T67 _ _ (Same.tup (e4.trans e5) sqt_upd), fb_dec (by decide +kernel), by decide⟩
        · exact ⟨c4, (1, 1), rfl, T67 _ _ (Same.tup e5 sqt_upd), fb_dec (by decide +kernel), by decide⟩
      have K37 : Kp d H3 H7 := k4.trans ((Same.kp ((e1.trans (e2.trans (e3.trans e4))).trans e5)).trans k7)
      have T37 : Tk K H3 H7 := fun _ _ t => Kp.tup K37 w3 t
      have p29 : 2 ^ i ≤ 2 ^ 9 := Nat.pow_le_pow_right (by decide) (by omega)
      have fk := (tk.k.fok (a := 15) (c := 13) (Nat.mul_pos (by decide) (Nat.pow_pos (by decide))) (Nat.lt_of_le_of_lt (Nat.mul_le_mul_left 60 p29) (by decide)) (Nat.le_trans (Nat.mul_le_mul_left 10 p29) (by decide))).up (show 13 + 15 ≤ 400000 by decide)
      have fc4 := (fc.fok (a := 2) (c := 1) (by decide) (by decide) (by decide)).up (show 1 + 2 ≤ 400000 by decide)
      refine ⟨L, _, (x : Int), .ref ca, rfl, rfl, .inl (.inl (k7 _ _ upd_same nL1.1 nL1.2)), hat, ka, ca, t.k.1, c.1, t.k.2, c.2, rfl, T37 _ _ q4, tc, fk.f, fc4.f, fk.z, fc4.z, fun sp nsp => ?_⟩
      have e6 := same_upd (o := .tup [.int (mulF t.k c).1, .int (mulF t.k c).2]) nsp
      refine ⟨_, rfl, _, rfl, by show 2 ≤ sizeLine; decide, fun o1 m1 => ⟨_, rfl, _, rfl, by show 2 ≤ sizeLine; decide, fun o2 m2 => ⟨by show 2 ≤ sizeLine; decide, fun L2 nL2 => ?_⟩⟩⟩
      have e7 := same_upd (o := .tup [V.int t.l, .int t.s]) m1
      have e8 := same_upd (o := .tup [V.int t.s, .int t.l]) m2
      have e9 := same_upd (o := .lst [.ref o1, .ref o2]) nL2
      have w8 := w7.same (e6.trans (e7.trans e8))
      have nL3 := w8.no nL2
      have w9 := w8.same e9
      refine ⟨_, rfl, d, b + 4 * m - 4 * i - 4, 2, rfl, by decide, by decide, w9.less (by omega), fun H10 r3 r30 r31 w10 k10 => ?_⟩
      obtain ⟨g, rfl⟩ := Int.eq_ofNat_of_zero_le r30
      have T910 : Tk K (tgt e9) H10 := fun _ _ t => Kp.tup k10 w9 t
      obtain ⟨sq, LL, RR, hat2, tsq, sd⟩ : ∃ (sq : Addr) (LL RR : Nat), atI [V.ref o1, .ref o2] (g : Int) = some (.ref sq) ∧ SqT K H10 sq [.int LL, .int RR] ∧ ((LL = t.l ∧ RR = t.s) ∨ (LL = t.s ∧ RR = t.l)) := by
        have : g = 0 ∨ g = 1 := by omega
        rcases this with rfl | rfl
        · exact ⟨o1, t.l, t.s, rfl, T910 _ _ (Same.tup (e8.trans e9) sqt_upd), .inl ⟨rfl, rfl⟩⟩
        · exact ⟨o2, t.s, t.l, rfl, T910 _ _ (Same.tup e9 sqt_upd), .inr ⟨rfl, rfl⟩⟩
      refine ⟨L2, _, (g : Int), .ref sq, rfl, rfl, .inl (.inl (k10 _ _ upd_same nL3.1 nL3.2)), hat2, ?_⟩
      have K710 : Kp d H7 H10 := (Same.kp ((e6.trans (e7.trans e8)).trans e9)).trans k10
      have T310 : Tk K H3 H10 := fun _ _ t => Kp.tup K710 w7 (T37 _ _ t)
      have T210 : Tk K H2 H10 := fun _ _ t => T310 _ _ (T23 _ _ t)
      have tsp : SqT K H10 sp [.int (mulF t.k c).1, .int (mulF t.k c).2] := T910 _ _ (Same.tup (e7.trans (e8.trans e9)) sqt_upd)
      refine ⟨_, rfl, _, rfl, by show 1 ≤ sizeLine; decide, fun a1 na1 => ?_⟩
      have f1 := same_upd (o := .tup [.int ((N + 1 + y : Nat) : Int)]) na1
      refine ⟨_, rfl, a1, sq, _, _, rfl, rfl, sqt_upd, Same.tup f1 tsq, by show 3 ≤ 100000; decide, fun a2 H11 ta2 f2 => ?_⟩
      have ta2 : SqT K H11 a2 [.int ((N + 1 + y : Nat) : Int), .int LL, .int RR] := ta2
      refine ⟨_, rfl, _, rfl, _, rfl, by show 3 ≤ sizeLine; decide, fun a3 na3 => ?_⟩
      have f3 := same_upd (o := .tup [.ref ba, .ref pa, .ref sp]) na3
      refine ⟨a2, a3, _, _, rfl, rfl, Same.tup f3 ta2, sqt_upd, by show 6 ≤ 100000; decide, fun a4 H12 ta4 f4 => ⟨by show 1 ≤ sizeLine; decide, fun a5 na5 => ?_⟩⟩
      have ta4 : SqT K H12 a4 [.int ((N + 1 + y : Nat) : Int), .int LL, .int RR, .ref ba, .ref pa, .ref sp] := ta4
      have f5 := same_upd (o := .tup [.ref a4]) na5
      have F5 := f1.trans (f2.trans (f3.trans (f4.trans f5)))
      refine ⟨T, a5, tvs, [.ref a4], rfl, rfl, Same.tup F5 (T210 _ _ tT2), sqt_upd, Nat.le_trans (show tvs.length + 1 ≤ 1000 by omega) (by decide), fun a6 H13 ta6 f6 => ?_⟩
      have ta6 : SqT K H13 a6 (tvs ++ [.ref a4]) := ta6
      have F6 := F5.trans f6
      have T13 : Tk K H10 H13 := Same.tk F6
      have nT : TkAt K H13 (.ref a4) ⟨N + 1 + y, LL, RR, t.b, mulF t.k c⟩ := ⟨a4, ba, pa, sp, rfl, Same.tup (f5.trans f6) ta4, q2.mono fun _ _ t => T13 _ _ (T310 _ _ t), T13 _ _ (T310 _ _ q3), T13 _ _ tsp⟩
      have ntk : TkK cs (60 * 2 ^ (i + 1)) (10 * 2 ^ (i + 1)) ⟨N + 1 + y, LL, RR, t.b, mulF t.k c⟩ := ⟨tk.b, tk.p, by
        have := tk.k.mul fc
        rw [show 60 * 2 ^ (i + 1) = 60 * 2 ^ i * 2 by rw [Nat.pow_succ]; omega, show 10 * 2 ^ (i + 1) = 10 * 2 ^ i * 2 by rw [Nat.pow_succ]; omega]
        exact this, low_pos (Int.mul_pos tk.k0 c0) (Nat.mul_pos tk.k.f.pos fc.f.pos)⟩
      refine ⟨a6, tvs ++ [.ref a4], tks ++ [⟨N + 1 + y, LL, RR, t.b, mulF t.k c⟩], N + 1 + y, _, _, _, _, _, _, _, _, _, _, rfl, ta6, (tks_tk fT2 fun _ _ t => T13 _ _ (T210 _ _ t)).app (F2.one nT), by simp, by rw [List.length_append, List.length_singleton]; omega, fun w hw => ?_, by simp, List.pairwise_append.mpr ⟨hr2, List.pairwise_singleton _ _, fun w hw u hu => ?_⟩, (w10.same F6).less (by omega), k2.trans (k3.trans (K37.trans (K710.trans (Same.kp F6))))⟩
      · rcases List.mem_append.mp hw with z | z
        · obtain ⟨y1, y2, y3, y4, y5⟩ := hW2 w z
          exact ⟨y1.up (Nat.mul_dvd_mul_left 60 (Nat.pow_dvd_pow 2 (by omega))) (Nat.mul_le_mul_left 10 (Nat.pow_le_pow_right (by decide) (by omega))), y2, y3, y4, by omega⟩
        · rw [List.mem_singleton.mp z]
          refine ⟨ntk, ?_, ?_, ?_, Nat.le_refl _⟩
          · show LL < n; omega
          · show RR < n; omega
          · show LL ≠ RR; omega
      · rw [List.mem_singleton.mp hu]
        have := (hW2 w hw).2.2.2.2
        show w.n < N + 1 + y
        omega
    · rintro σ H2 ⟨T, tvs, tks, N, x4, x5, x6, x7, x8, x9, x10, x11, x12, x13, rfl, tT2, fT2, ne2, ll2, hW2, hN2, hr2, w2, k2⟩
      rw [Int.toNat_natCast] at ll2 hW2 w2
      have p9 : 2 ^ m ∣ 2 ^ 9 := Nat.pow_dvd_pow 2 m9
      exact ⟨_, rfl, q _ T tvs tks N tT2 fT2 ne2 (by omega) (fun t ht => ⟨(hW2 t ht).1.up (Nat.mul_dvd_mul_left 60 p9) (Nat.mul_le_mul_left 10 (Nat.le_of_dvd (by decide) p9)), (hW2 t ht).2⟩) hN2 hr2 (w2.less (by omega)) k2⟩
end
end B

namespace B
open PySem PySem.Spec PyProof.Rows L2

def sp_l_netted (K : PySem.W.Frag) : Sp := fun vs H Q _ => ∃ (a b : Addr) (t u : Tkt), vs = [.ref a, .ref b] ∧ TkAt K H (.ref a) t ∧ TkAt K H (.ref b) u ∧ Fok 6000 t.k ∧ Fok 6000 u.k ∧ ∀ (H' : Hp) (r : Addr) (us : List V), SqT K H' r us → F2 (TkAt K H') us (restF t u).toList → Same H H' → Q (.ref r) H'

section
variable {P : Program} {w : World} {K : PySem.W.Frag} {mg : Str → Option Value} {base : Heap}
theorem ok_l_netted (T : Tx K mg w) (U : Unl P base) : FnOk P w K mg base CX0 37 T.l_netted.f T.l_netted.fd ["_law_first", "_law_second"] (sp_l_netted K) := by
  refine T.l_netted.F.ok sc_l_netted (fun vs H Q E h => ?_) (fun cdv A outer s H vs Q E hr h => ?_)
  · obtain ⟨a, b, t, u, rfl, hT, hU, ft, fu, q⟩ := h
    rfl
  · obtain ⟨a, b, t, u, rfl, hT, hU, ft, fu, q⟩ := h
    refine ⟨_, (pss_cons (ps_if (pt_cmpR op_eq (pe_ix ix_tup (pv 0) pe_int (fun _ _ => rfl)) (pe_ix ix_tup (pv 1) pe_int (fun _ _ => rfl)) (nomark _)) (pss_one (ps_ret (pe_tup (pa_cons (pe_op op_catS (pe_slice sl_tupS (pv 0) po_none (po_some pe_int)) (pe_tup (pa_cons (pe_call (ok_l_plus T U) (hr.mono (by decide)) (by rfl) T.l_plus.g T.l_plus.F.kp T.l_plus.b .nil pass0 (pa_cons (pe_ix ix_tup (pv 0) pe_int (fun _ _ => rfl)) (pa_cons (pe_ix ix_tup (pv 1) pe_int (fun _ _ => rfl)) pa_nil))) pa_nil))) pa_nil)))) pss_nil)
      (pss_cons (ps_if (pt_cmpR (op_eqD hr.units) (pe_ix ix_tup (pv 0) pe_int (fun _ _ => rfl)) (pe_ix ix_tup (pv 1) pe_int (fun _ _ => rfl)) (nomark _)) (pss_one (ps_ret (pe_tup pa_nil))) pss_nil)
      (pss_cons (ps_if (pt_val (pe_call (ok_l_less T U) (hr.mono (by decide)) (by rfl) T.l_less.g T.l_less.F.kp T.l_less.b .nil pass0 (pa_cons (pe_ix ix_tup (pv 1) pe_int (fun _ _ => rfl)) (pa_cons (pe_ix ix_tup (pv 0) pe_int (fun _ _ => rfl)) pa_nil)))) (pss_one (ps_ret (pe_tup (pa_cons (pe_op op_catS (pe_slice sl_tupS (pv 0) po_none (po_some pe_int)) (pe_tup (pa_cons (pe_call (ok_l_plus T U) (hr.mono (by decide)) (by rfl) T.l_plus.g T.l_plus.F.kp T.l_plus.b .nil pass0 (pa_cons (pe_ix ix_tup (pv 0) pe_int (fun _ _ => rfl)) (pa_cons (pe_call (ok_l_turned T U) (hr.mono (by decide)) (by rfl) T.l_turned.g T.l_turned.F.kp T.l_turned.b .nil pass0 (pa_cons (pe_ix ix_tup (pv 1) pe_int (fun _ _ => rfl)) pa_nil)) pa_nil))) pa_nil))) pa_nil)))) pss_nil)
      (pss_one (ps_ret (pe_tup (pa_cons (pe_op op_catS (pe_op op_catS (pe_slice sl_tupS (pv 0) po_none (po_some pe_int)) (pe_slice sl_tupS (pv 1) (po_some pe_int) (po_some pe_int))) (pe_tup (pa_cons (pe_call (ok_l_plus T U) (hr.mono (by decide)) (by rfl) T.l_plus.g T.l_plus.F.kp T.l_plus.b .nil pass0 (pa_cons (pe_ix ix_tup (pv 1) pe_int (fun _ _ => rfl)) (pa_cons (pe_call (ok_l_turned T U) (hr.mono (by decide)) (by rfl) T.l_turned.g T.l_turned.F.kp T.l_turned.b .nil pass0 (pa_cons (pe_ix ix_tup (pv 0) pe_int (fun _ _ => rfl)) pa_nil)) pa_nil))) pa_nil))) pa_nil))))))), ?_⟩
    obtain ⟨qa, ba, pa, ka, ea, a1, a2, a3, a4⟩ := id hT
    injection ea with ea
    subst ea
    obtain ⟨qb, bb, pb, kb, eb, b1, b2, b3, b4⟩ := id hU
    injection eb with eb
    subst eb
    have f1 := ft.up (show 6000 ≤ 400000 by decide)
    have f2 := fu.up (show 6000 ≤ 400000 by decide)
    refine ⟨_, rfl, a, _, 1, .int t.l, rfl, rfl, a1, rfl, _, rfl, b, _, 1, .int u.l, rfl, rfl, b1, rfl, rfl, _, rfl, ?_⟩
    by_cases c1 : t.l = u.l
    · refine iteK (decide_eq_true (by rw [c1])) ?_
      refine ⟨_, rfl, 5, rfl, a, _, rfl, a1, fun d1 G1 td1 s1 => ?_⟩
      have td1 : SqT K G1 d1 [.int t.n, .int t.l, .int t.s, .ref ba, .ref pa] := td1
      refine ⟨_, rfl, a, _, 5, .ref ka, rfl, rfl, Same.tup s1 a1, rfl, _, rfl, b, _, 5, .ref kb, rfl, rfl, Same.tup s1 b1, rfl, ka, kb, t.k.1, u.k.1, t.k.2, u.k.2, rfl, Same.tup s1 a4, Same.tup s1 b4, ft.f, fu.f, f1.z, f2.z, fun p np => ⟨by show 1 ≤ sizeLine; decide, fun d2 n2 => ?_⟩⟩
      have s2 := same_upd (o := .tup [.int (addF t.k u.k).1, .int (addF t.k u.k).2]) np
      have s3 := same_upd (o := .tup [.ref p]) n2
      refine ⟨d1, d2, _, _, rfl, rfl, Same.tup (s2.trans s3) td1, sqt_upd, by show 6 ≤ 100000; decide, fun d3 G3 td3 s4 => ⟨by show 1 ≤ sizeLine; decide, fun r nr => ?_⟩⟩
      have td3 : SqT K G3 d3 [.int t.n, .int t.l, .int t.s, .ref ba, .ref pa, .ref p] := td3
      have s5 := same_upd (o := .tup [.ref d3]) nr
      have SZ := s1.trans (s2.trans (s3.trans (s4.trans s5)))
      refine q _ r [.ref d3] sqt_upd ?_ SZ
      rw [show restF t u = some ⟨t.n, t.l, t.s, t.b, addF t.k u.k⟩ from if_pos c1]
      exact F2.one ⟨d3, ba, pa, p, rfl, Same.tup s5 td3, a2.mono (Same.tk SZ), Same.tup SZ a3, Same.tup (s3.trans (s4.trans s5)) sqt_upd⟩
    refine iteE (decide_eq_false fun z => c1 (by injection z with z; omega)) ?_
    refine ⟨_, rfl, a, _, 5, .ref ka, rfl, rfl, a1, rfl, _, rfl, b, _, 5, .ref kb, rfl, rfl, b1, rfl, fdat t.k, fdat u.k, dp2 a4, dp2 b4, rfl, rfl, _, rfl, ?_⟩
    rw [fdat_dec]
    by_cases c2 : t.k = u.k
    · refine iteK (decide_eq_true c2) ⟨by show 0 ≤ sizeLine; decide, fun r nr => ?_⟩
      refine q _ r [] sqt_upd ?_ (same_upd nr)
      rw [show restF t u = none from (if_neg c1).trans (if_pos c2)]
      exact .nil
    refine iteE (decide_eq_false c2) ?_
    refine ⟨_, rfl, b, _, 5, .ref kb, rfl, rfl, b1, rfl, _, rfl, a, _, 5, .ref ka, rfl, rfl, a1, rfl, kb, ka, u.k.1, t.k.1, u.k.2, t.k.2, rfl, b4, a4, f2.z, f1.z, _, rfl, ?_⟩
    by_cases c3 : ltF u.k t.k = true
    · refine iteK c3 ?_
      refine ⟨_, rfl, 5, rfl, a, _, rfl, a1, fun d1 G1 td1 s1 => ?_⟩
      have td1 : SqT K G1 d1 [.int t.n, .int t.l, .int t.s, .ref ba, .ref pa] := td1
      refine ⟨_, rfl, a, _, 5, .ref ka, rfl, rfl, Same.tup s1 a1, rfl, _, rfl, b, _, 5, .ref kb, rfl, rfl, Same.tup s1 b1, rfl, kb, u.k, rfl, Same.tup s1 b4, fun G2 p1 tp1 np1 s2 => ?_⟩
      have fn := fu.negF
      have fn4 := fn.up (show 6000 ≤ 400000 by decide)
      refine ⟨ka, p1, t.k.1, (negF u.k).1, t.k.2, (negF u.k).2, rfl, Same.tup (s1.trans s2) a4, tp1, ft.f, fn.f, f1.z, fn4.z, fun p np => ⟨by show 1 ≤ sizeLine; decide, fun d2 n2 => ?_⟩⟩
      have s3 := same_upd (o := .tup [.int (subF t.k u.k).1, .int (subF t.k u.k).2]) np
      have s4 := same_upd (o := .tup [.ref p]) n2
      refine ⟨d1, d2, _, _, rfl, rfl, Same.tup (s2.trans (s3.trans s4)) td1, sqt_upd, by show 6 ≤ 100000; decide, fun d3 G3 td3 s5 => ⟨by show 1 ≤ sizeLine; decide, fun r nr => ?_⟩⟩
      have td3 : SqT K G3 d3 [.int t.n, .int t.l, .int t.s, .ref ba, .ref pa, .ref p] := td3
      have s6 := same_upd (o := .tup [.ref d3]) nr
      have SZ := s1.trans (s2.trans (s3.trans (s4.trans (s5.trans s6))))
      refine q _ r [.ref d3] sqt_upd ?_ SZ
      rw [show restF t u = some ⟨t.n, t.l, t.s, t.b, subF t.k u.k⟩ from (if_neg c1).trans ((if_neg c2).trans (if_pos c3))]
      exact F2.one ⟨d3, ba, pa, p, rfl, Same.tup s6 td3, a2.mono (Same.tk SZ), Same.tup SZ a3, Same.tup (s4.trans (s5.trans s6)) sqt_upd⟩
    refine iteE (by cases e : ltF u.k t.k with | true => exact absurd e c3 | false => exact e) ?_
    refine ⟨_, rfl, 1, rfl, a, _, rfl, a1, fun d1 G1 td1 s1 => ?_⟩
    have td1 : SqT K G1 d1 [.int t.n] := td1
    refine ⟨_, rfl, 1, rfl, 5, rfl, b, _, rfl, Same.tup s1 b1, fun d0 G0 td0 s0 => ?_⟩
    have td0 : SqT K G0 d0 [.int u.l, .int u.s, .ref bb, .ref pb] := td0
    refine ⟨d1, d0, _, _, rfl, rfl, Same.tup s0 td1, td0, by show 5 ≤ 100000; decide, fun d5 G5 td5 s8 => ?_⟩
    have td5 : SqT K G5 d5 [.int t.n, .int u.l, .int u.s, .ref bb, .ref pb] := td5
    have S8 := s1.trans (s0.trans s8)
    refine ⟨_, rfl, b, _, 5, .ref kb, rfl, rfl, Same.tup S8 b1, rfl, _, rfl, a, _, 5, .ref ka, rfl, rfl, Same.tup S8 a1, rfl, ka, t.k, rfl, Same.tup S8 a4, fun G2 p1 tp1 np1 s2 => ?_⟩
    have fn := ft.negF
    have fn4 := fn.up (show 6000 ≤ 400000 by decide)
    refine ⟨kb, p1, u.k.1, (negF t.k).1, u.k.2, (negF t.k).2, rfl, Same.tup (S8.trans s2) b4, tp1, fu.f, fn.f, f2.z, fn4.z, fun p np => ⟨by show 1 ≤ sizeLine; decide, fun d2 n2 => ?_⟩⟩
    have s3 := same_upd (o := .tup [.int (subF u.k t.k).1, .int (subF u.k t.k).2]) np
    have s4 := same_upd (o := .tup [.ref p]) n2
    refine ⟨d5, d2, _, _, rfl, rfl, Same.tup (s2.trans (s3.trans s4)) td5, sqt_upd, by show 6 ≤ 100000; decide, fun d3 G3 td3 s5 => ⟨by show 1 ≤ sizeLine; decide, fun r nr => ?_⟩⟩
    have td3 : SqT K G3 d3 [.int t.n, .int u.l, .int u.s, .ref bb, .ref pb, .ref p] := td3
    have s6 := same_upd (o := .tup [.ref d3]) nr
    have SZ := S8.trans (s2.trans (s3.trans (s4.trans (s5.trans s6))))
    refine q _ r [.ref d3] sqt_upd ?_ SZ
    rw [show restF t u = some ⟨t.n, u.l, u.s, u.b, subF u.k t.k⟩ from (if_neg c1).trans ((if_neg c2).trans (if_neg c3))]
    exact F2.one ⟨d3, bb, pb, p, rfl, Same.tup s6 td3, b2.mono (Same.tk SZ), Same.tup SZ b3, Same.tup (s4.trans (s5.trans s6)) sqt_upd⟩
end
end B

namespace B
open PySem PySem.Spec PyProof.Rows L2

def sp_rest_of (K : PySem.W.Frag) : Sp := fun vs H Q _ => ∃ (a b : Addr) (t u : Tkt), vs = [.ref a, .ref b] ∧ TkAt K H (.ref a) t ∧ TkAt K H (.ref b) u ∧ Fok 6000 t.k ∧ Fok 6000 u.k ∧ (restF t u = none → ∀ H', Same H H' → Q .non H') ∧ ∀ r, restF t u = some r → ∀ (H' : Hp) (p : Addr), TkAt K H' (.ref p) r → Same H H' → Q (.ref p) H'

section
variable {P : Program} {w : World} {K : PySem.W.Frag} {mg : Str → Option Value} {base : Heap}
theorem ok_rest_of (T : Tx K mg w) (U : Unl P base) : FnOk P w K mg base CX0 38 T.rest_of.f T.rest_of.fd ["lesser", "greater"] (sp_rest_of K) := by
  refine T.rest_of.F.ok sc_rest_of (fun vs H Q E h => ?_) (fun cdv A outer s H vs Q E hr h => ?_)
  · obtain ⟨a, b, t, u, rfl, hT, hU, ft, fu, q0, q1⟩ := h
    rfl
  · obtain ⟨a, b, t, u, rfl, hT, hU, ft, fu, q0, q1⟩ := h
    refine ⟨_, (pss_cons (ps_par (i := 2) (j := 3) (by rfl) sc_rest_of.nd rfl rfl (by decide) rfl rfl (pa_cons (pe_ix ix_tup (pv 0) pe_int (fun _ _ => rfl)) (pa_cons (pe_ix ix_tup (pv 1) pe_int (fun _ _ => rfl)) pa_nil)) (by rfl))
      (pss_cons (ps_if (pt_cmpR op_eq (pe_ix ix_tup (pv 0) pe_int (fun _ _ => rfl)) (pe_ix ix_tup (pv 1) pe_int (fun _ _ => rfl)) (nomark _)) (pss_one (ps_ret (pe_call (ok_with_stake T U) (hr.mono (by decide)) (by rfl) T.with_stake.g T.with_stake.F.kp T.with_stake.b .nil pass0 (pa_cons (pv 0) (pa_cons (pe_call (ok_plus T U) (hr.mono (by decide)) (by rfl) T.plus.g T.plus.F.kp T.plus.b .nil pass0 (pa_cons (pv 2) (pa_cons (pv 3) pa_nil))) pa_nil))))) pss_nil)
      (pss_cons (ps_if (pt_cmpR (op_eqD hr.units) (pv 2) (pv 3) (nomark _)) (pss_one (ps_ret pe_non)) pss_nil)
      (pss_cons (ps_if (pt_val (pe_call (ok_less T U) (hr.mono (by decide)) (by rfl) T.less.g T.less.F.kp T.less.b .nil pass0 (pa_cons (pv 3) (pa_cons (pv 2) pa_nil)))) (pss_one (ps_ret (pe_call (ok_with_stake T U) (hr.mono (by decide)) (by rfl) T.with_stake.g T.with_stake.F.kp T.with_stake.b .nil pass0 (pa_cons (pv 0) (pa_cons (pe_call (ok_minus T U) (hr.mono (by decide)) (by rfl) T.minus.g T.minus.F.kp T.minus.b .nil pass0 (pa_cons (pv 2) (pa_cons (pv 3) pa_nil))) pa_nil))))) pss_nil)
      (pss_one (ps_ret (pe_op op_catS (pe_slice sl_tupS (pv 0) po_none (po_some pe_int)) (pe_slice sl_tupS (pe_call (ok_with_stake T U) (hr.mono (by decide)) (by rfl) T.with_stake.g T.with_stake.F.kp T.with_stake.b .nil pass0 (pa_cons (pv 1) (pa_cons (pe_call (ok_minus T U) (hr.mono (by decide)) (by rfl) T.minus.g T.minus.F.kp T.minus.b .nil pass0 (pa_cons (pv 3) (pa_cons (pv 2) pa_nil))) pa_nil))) (po_some pe_int) po_none)))))))), ?_⟩
    obtain ⟨qa, ba, pa, ka, ea, a1, a2, a3, a4⟩ := id hT
    injection ea with ea
    subst ea
    obtain ⟨qb, bb, pb, kb, eb, b1, b2, b3, b4⟩ := id hU
    injection eb with eb
    subst eb
    refine ⟨_, rfl, a, _, 5, .ref ka, rfl, rfl, a1, rfl, _, rfl, b, _, 5, .ref kb, rfl, rfl, b1, rfl, ?_⟩
    refine ⟨_, _, rfl, ?_⟩
    have tkp : SqT K H ka [.int t.k.1, .int t.k.2] := a4
    have ukp : SqT K H kb [.int u.k.1, .int u.k.2] := b4
    have f1 := ft.up (show 6000 ≤ 400000 by decide)
    have f2 := fu.up (show 6000 ≤ 400000 by decide)
    refine ⟨_, rfl, a, _, 1, .int t.l, rfl, rfl, a1, rfl, _, rfl, b, _, 1, .int u.l, rfl, rfl, b1, rfl, rfl, _, rfl, ?_⟩
    by_cases c1 : t.l = u.l
    · refine iteK (decide_eq_true (by rw [c1])) ?_
      refine ⟨_, rfl, _, rfl, _, rfl, ka, kb, t.k.1, u.k.1, t.k.2, u.k.2, rfl, tkp, ukp, ft.f, fu.f, f1.z, f2.z, fun p np => ?_⟩
      have s1 := same_upd (o := .tup [.int (addF t.k u.k).1, .int (addF t.k u.k).2]) np
      refine ⟨a, _, _, _, _, _, _, .ref p, rfl, Same.tup s1 a1, fun H3 r tr s3 => ?_⟩
      exact q1 ⟨t.n, t.l, t.s, t.b, addF t.k u.k⟩ (if_pos c1) _ r ⟨r, ba, pa, p, rfl, tr, a2.mono (Same.tk (s1.trans s3)), Same.tup (s1.trans s3) a3, Same.tup s3 sqt_upd⟩ (s1.trans s3)
    refine iteE (decide_eq_false fun z => c1 (by injection z with z; omega)) ?_
    refine ⟨_, rfl, _, rfl, fdat t.k, fdat u.k, dp2 tkp, dp2 ukp, rfl, rfl, _, rfl, ?_⟩
    rw [fdat_dec]
    by_cases c2 : t.k = u.k
    · refine iteK (decide_eq_true c2) ?_
      exact q0 ((if_neg c1).trans (if_pos c2)) _ (Same.refl _)
    refine iteE (decide_eq_false c2) ?_
    refine ⟨_, rfl, _, rfl, kb, ka, u.k.1, t.k.1, u.k.2, t.k.2, rfl, ukp, tkp, f2.z, f1.z, _, rfl, ?_⟩
    by_cases c3 : ltF u.k t.k = true
    · refine iteK c3 ?_
      refine ⟨_, rfl, _, rfl, _, rfl, ka, kb, t.k, u.k, rfl, tkp, ukp, f1, f2, fun H2 p tp s2 => ?_⟩
      refine ⟨a, _, _, _, _, _, _, .ref p, rfl, Same.tup s2 a1, fun H3 r tr s3 => ?_⟩
      exact q1 ⟨t.n, t.l, t.s, t.b, subF t.k u.k⟩ ((if_neg c1).trans ((if_neg c2).trans (if_pos c3))) _ r ⟨r, ba, pa, p, rfl, tr, a2.mono (Same.tk (s2.trans s3)), Same.tup (s2.trans s3) a3, Same.tup s3 tp⟩ (s2.trans s3)
    refine iteE (by cases e : ltF u.k t.k with | true => exact absurd e c3 | false => exact e) ?_
    refine ⟨_, rfl, 1, rfl, a, _, rfl, a1, fun d1 G1 td1 y1 => ?_⟩
    have td1 : SqT K G1 d1 [.int t.n] := td1
    refine ⟨_, rfl, _, rfl, _, rfl, kb, ka, u.k, t.k, rfl, Same.tup y1 ukp, Same.tup y1 tkp, f2, f1, fun H2 p tp s2 => ?_⟩
    refine ⟨b, _, _, _, _, _, _, .ref p, rfl, Same.tup (y1.trans s2) b1, fun H3 r tr s3 => ?_⟩
    refine ⟨1, rfl, r, _, rfl, tr, fun d2 H4 td2 s4 => ?_⟩
    have td2 : SqT K H4 d2 [.int u.l, .int u.s, .ref bb, .ref pb, .ref p] := td2
    have S4 := s2.trans (s3.trans s4)
    refine ⟨d1, d2, _, _, rfl, rfl, Same.tup S4 td1, td2, by show 6 ≤ 100000; decide, fun d3 H5 td3 s5 => ?_⟩
    have td3 : SqT K H5 d3 [.int t.n, .int u.l, .int u.s, .ref bb, .ref pb, .ref p] := td3
    have S5 := y1.trans (S4.trans s5)
    exact q1 ⟨t.n, u.l, u.s, u.b, subF u.k t.k⟩ ((if_neg c1).trans ((if_neg c2).trans (if_neg c3))) _ d3 ⟨d3, bb, pb, p, rfl, td3, b2.mono (Same.tk S5), Same.tup S5 b3, Same.tup (s3.trans (s4.trans s5)) tp⟩ S5
end
end B

namespace B
open PySem PySem.Spec PyProof.Rows L2

def sp_parted (K : PySem.W.Frag) : Sp := fun vs H Q E => ∃ (a q : Addr) (S : Std) (v1 v2 : V) (d1 d2 : PyData) (o : Wh), vs = [.ref a, .ref q] ∧ StdAt K H a S ∧ (∀ t ∈ S.ts, Fok 6000 t.k) ∧ S.ts.length ≤ 100 ∧ StdN S ∧ SqT K H q [v1, v2] ∧ Th K H v1 d1 ∧ Th K H v2 d2 ∧ SplitR S d1 d2 o ∧ OutG K o H Q E

section
variable {P : Program} {w : World} {K : PySem.W.Frag} {mg : Str → Option Value} {base : Heap}
theorem ok_parted (T : Tx K mg w) (U : Unl P base) : FnOk P w K mg base (L2.CX P w) 38 T.parted.f T.parted.fd ["stand", "parts"] (sp_parted K) := by
  refine T.parted.F.okX sc_parted (fun vs H Q E h => ?_) (fun cdv A outer s H vs Q E hr h => ?_)
  · obtain ⟨a, q, S, v1, v2, d1, d2, o, rfl, hS, hk, l100, hN, tq, h1, h2, hR, hQ⟩ := h
    rfl
  · obtain ⟨a, q, S, v1, v2, d1, d2, o, rfl, hS, hk, l100, hN, tq, h1, h2, hR, hQ⟩ := h
    refine ⟨_, (pss_cons (ps_asg (pv 1) (pg_tup rfl (pgs_cons (pg_name (i := 2) sc_parted.nd rfl (.inl rfl)) (pgs_cons (pg_name (i := 3) sc_parted.nd rfl (.inl rfl)) pgs_nil))))
      (pss_cons (ps_asg (pv 0) (pg_tup rfl (pgs_cons (pg_name (i := 4) sc_parted.nd rfl (.inl rfl)) (pgs_cons (pg_name (i := 5) sc_parted.nd rfl (.inl rfl)) (pgs_cons (pg_name (i := 6) sc_parted.nd rfl (.inl rfl)) (pgs_cons (pg_name (i := 7) sc_parted.nd rfl (.inl rfl)) (pgs_cons (pg_name (i := 8) sc_parted.nd rfl (.inl rfl)) pgs_nil)))))))
      (pss_cons (ps_set (i := 9) sc_parted.nd rfl (.inl rfl) (pe_callS (ok_standing T U) (hr.mono (by decide)) (by rfl) T.standing.g T.standing.F.kp T.standing.b (fun σ => passAt (takes_of rfl rfl rfl rfl) σ) (pa_cons (pv 0) (pa_cons (pv 2) pa_nil))))
      (pss_cons (ps_if (PW.pt (pw_or (pt_not (pt_val (pe_call (ok_is_above_zero T U) (hr.mono (by decide)) (by rfl) T.is_above_zero.g T.is_above_zero.F.kp T.is_above_zero.b .nil pass0 (pa_cons (pv 3) pa_nil)))) (pw_or1 (pt_not (pt_val (pe_call (ok_less T U) (hr.mono (by decide)) (by rfl) T.less.g T.less.F.kp T.less.b .nil pass0 (pa_cons (pv 3) (pa_cons (pe_ix ix_tup (pv 9) pe_int (fun _ _ => rfl)) pa_nil)))))))) (pss_one (ps_raise rfl (takes_of rfl rfl rfl rfl) (pmk_none T.x_NoStake hr (by rfl)))) pss_nil)
      (pss_cons (ps_set (i := 10) sc_parted.nd rfl (.inl rfl) (pe_call (ok_with_stake T U) (hr.mono (by decide)) (by rfl) T.with_stake.g T.with_stake.F.kp T.with_stake.b .nil pass0 (pa_cons (pv 9) (pa_cons (pe_call (ok_minus T U) (hr.mono (by decide)) (by rfl) T.minus.g T.minus.F.kp T.minus.b .nil pass0 (pa_cons (pe_ix ix_tup (pv 9) pe_int (fun _ _ => rfl)) (pa_cons (pv 3) pa_nil))) pa_nil))))
      (pss_cons (ps_set (i := 11) sc_parted.nd rfl (.inl rfl) (pe_op op_catS (pe_tup (pa_cons (pv 8) pa_nil)) (pe_slice sl_tupS (pe_call (ok_with_stake T U) (hr.mono (by decide)) (by rfl) T.with_stake.g T.with_stake.F.kp T.with_stake.b .nil pass0 (pa_cons (pv 9) (pa_cons (pv 3) pa_nil))) (po_some pe_int) po_none)))
      (pss_one (ps_ret (pe_tup (pa_cons (pv 8) (pa_cons (pe_tup (pa_cons (pv 4) (pa_cons (pv 5) (pa_cons (pe_callS (ok_few_enough T U) (hr.mono (by decide)) (by rfl) T.few_enough.g T.few_enough.F.kp T.few_enough.b (fun σ => passAt (takes_of rfl rfl rfl rfl) σ) (pa_cons (pe_op op_catS (pe_call (ok_exchanged T U) (hr.mono (by decide)) (by rfl) T.exchanged.g T.exchanged.F.kp T.exchanged.b .nil pass0 (pa_cons (pv 6) (pa_cons (pv 10) pa_nil))) (pe_tup (pa_cons (pv 11) pa_nil))) pa_nil)) (pa_cons (pv 7) (pa_cons (pe_op op_add (pv 8) pe_int) pa_nil)))))) pa_nil))))))))))), ?_⟩
    obtain ⟨h, pp, tt, l, pvs, tvs, lvs, tS, hH, tP, fP, tT, fT, tL, fL⟩ := id hS
    have lT := fT.len
    refine ⟨_, rfl, q, _, rfl, tq, rfl, _, _, rfl, _, _, rfl, rfl, ?_⟩
    refine ⟨_, rfl, a, _, rfl, tS, rfl, _, _, rfl, _, _, rfl, _, _, rfl, _, _, rfl, _, _, rfl, rfl, ?_⟩
    refine ⟨_, rfl, _, rfl, a, v1, d1, S, rfl, hS, h1, (fun hn C hC d H' dk s' => ?_), fun i u t hu hT e => ?_⟩
    · cases hR with
      | tick _ => exact hQ C hC d H' dk s'
      | stake m _ _ => exact absurd rfl (hn _ m)
      | ok m _ _ _ => exact absurd rfl (hn _ m)
    obtain ⟨tq', ba, pa, ka, eu, t1, t2, t3, t4⟩ := id hT
    subst eu
    have hm := List.mem_of_getElem? hu
    have ft := (hk t hm).up (show 6000 ≤ 400000 by decide)
    obtain ⟨x, rfl, fx, hx⟩ : ∃ x, d2 = fdat x ∧ Fok 100000 x ∧ (((0 < x.1 → ltF x t.k = false) ∧ o = .inl "NoStake") ∨ (0 < x.1 ∧ ltF x t.k = true ∧ o = splO S t x)) := by
      have key : ∀ y : Tkt, y ∈ S.ts → PyData.int (y.n : Int) = .int (t.n : Int) → y = t := fun y hy e => hN.uq y hy t hm (by injection e with e; omega)
      cases hR with
      | tick z => exact absurd e (z _ hm)
      | stake m fx z =>
        have := key _ m e
        subst this
        exact ⟨_, rfl, fx, .inl ⟨z, rfl⟩⟩
      | ok m fx z z' =>
        have := key _ m e
        subst this
        exact ⟨_, rfl, fx, .inr ⟨z, z', rfl⟩⟩
    obtain ⟨sa, rfl, tsa⟩ := th_pair h2
    have fx4 := fx.up (show 100000 ≤ 400000 by decide)
    refine ⟨_, rfl, .ref sa, fdat x, rfl, h2, _, rfl, ?_⟩
    have eab : isAb (fdat x) = decide (0 < x.1) := by
      show (isFr (fdat x) && decide (0 < x.1)) = _
      rw [isFr_iff.mpr ⟨x, fx.f, rfl⟩, Bool.true_and]
    rw [eab]
    by_cases x0 : ¬ 0 < x.1
    · rw [decide_eq_false x0]
      rcases hx with ⟨_, rfl⟩ | ⟨z, _⟩
      · exact iteT (iteT fun d nd => hQ _ T.x_NoStake.ns _ _ dok_upd (same_upd nd))
      · exact absurd z x0
    have x0 : 0 < x.1 := Decidable.of_not_not x0
    rw [decide_eq_true x0]
    refine iteF ⟨_, rfl, _, rfl, tq', _, 5, .ref ka, rfl, rfl, t1, rfl, sa, ka, x.1, t.k.1, x.2, t.k.2, rfl, tsa, t4, fx4.z, ft.z, _, rfl, ?_⟩
    cases hl : ltF x t.k with
    | false =>
      rw [show decide (x.1 * (t.k.2 : Int) < t.k.1 * (x.2 : Int)) = false from hl]
      rcases hx with ⟨_, rfl⟩ | ⟨_, z, _⟩
      · exact iteT fun d nd => hQ _ T.x_NoStake.ns _ _ dok_upd (same_upd nd)
      · rw [hl] at z; cases z
    | true =>
    rw [show decide (x.1 * (t.k.2 : Int) < t.k.1 * (x.2 : Int)) = true from hl]
    rcases hx with ⟨z, _⟩ | ⟨_, _, rfl⟩
    · rw [z x0] at hl; cases hl
    refine iteF ⟨_, rfl, _, rfl, tq', _, 5, .ref ka, rfl, rfl, t1, rfl, _, rfl, ka, sa, t.k, x, rfl, t4, tsa, ft, fx4, fun H1 u1 tu1 s1 => ?_⟩
    refine ⟨tq', _, _, _, _, _, _, .ref u1, rfl, Same.tup s1 t1, fun H2 r2 tr2 s2 => ?_⟩
    have S2 := s1.trans s2
    refine ⟨_, rfl, by show 1 ≤ sizeLine; decide, fun c1 n1 => ?_⟩
    have s3 := same_upd (o := .tup [.int S.m]) n1
    refine ⟨_, rfl, _, rfl, tq', _, _, _, _, _, _, .ref sa, rfl, Same.tup (S2.trans s3) t1, fun H4 r4 tr4 s4 => ?_⟩
    refine ⟨1, rfl, r4, _, rfl, tr4, fun c2 H5 tc2 s5 => ?_⟩
    have tc2 : SqT K H5 c2 [.int t.l, .int t.s, .ref ba, .ref pa, .ref sa] := tc2
    refine ⟨c1, c2, _, _, rfl, rfl, Same.tup (s4.trans s5) sqt_upd, tc2, by show 6 ≤ 100000; decide, fun c3 H6 tc3 s6 => ?_⟩
    have tc3 : SqT K H6 c3 [.int S.m, .int t.l, .int t.s, .ref ba, .ref pa, .ref sa] := tc3
    have S36 := s3.trans (s4.trans (s5.trans s6))
    have S6 := S2.trans S36
    have rT : TkAt K H6 (.ref r2) ⟨t.n, t.l, t.s, t.b, subF t.k x⟩ := ⟨r2, ba, pa, u1, rfl, Same.tup S36 tr2, t2.mono (Same.tk S6), Same.tup S6 t3, Same.tup (s2.trans S36) tu1⟩
    refine ⟨_, rfl, _, rfl, _, rfl, _, rfl, _, rfl, tt, r2, tvs, S.ts, ⟨t.n, t.l, t.s, t.b, subF t.k x⟩, rfl, Same.tup S6 tT, tks_tk fT (Same.tk S6), l100, rT, fun H7 p us tp fu s7 => ?_⟩
    refine ⟨_, rfl, by show 1 ≤ sizeLine; decide, fun c4 n4 => ?_⟩
    have s8 := same_upd (o := .tup [.ref c3]) n4
    have lus := fu.len
    rw [List.length_map] at lus
    refine ⟨p, c4, us, [.ref c3], rfl, rfl, Same.tup s8 tp, sqt_upd, Nat.le_trans (show us.length + 1 ≤ 1000 by omega) (by decide), fun c5 H9 tc5 s9 => ?_⟩
    have tc5 : SqT K H9 c5 (us ++ [.ref c3]) := tc5
    have l5 : (us ++ [V.ref c3]).length = S.ts.length + 1 := by rw [List.length_append, List.length_singleton, lus]
    have S9 := S6.trans (s7.trans (s8.trans s9))
    refine ⟨c5, _, rfl, tc5, (fun lt C hC d H' dk s' => ?_), fun le => ?_⟩
    · rw [l5] at lt
      rw [show splO S t x = .inl "TooMany" from if_pos lt] at hQ
      exact hQ C hC d H' dk (S9.trans s')
    rw [l5] at le
    rw [show splO S t x = .inr (.int S.m, S.split t x) from if_neg (by omega)] at hQ
    refine ⟨_, rfl, _, rfl, _, _, rfl, rfl, by show 5 ≤ sizeLine; decide, fun c6 n6 => ⟨by show 2 ≤ sizeLine; decide, fun c7 n7 => ?_⟩⟩
    have s10 := same_upd (o := .tup [.ref h, .ref pp, .ref c5, .ref l, .int ((S.m : Int) + 1)]) n6
    have s11 := same_upd (o := .tup [.int S.m, .ref c6]) n7
    have S11 := s10.trans s11
    have SZ := S9.trans S11
    have nT : TkAt K (tgt s11) (.ref c3) ⟨S.m, t.l, t.s, t.b, x⟩ := ⟨c3, ba, pa, sa, rfl, Same.tup ((s7.trans (s8.trans s9)).trans S11) tc3, t2.mono (Same.tk SZ), Same.tup SZ t3, Same.tup SZ tsa⟩
    exact hQ _ c7 c6 (.int S.m) sqt_upd (.int _) ⟨h, pp, c5, l, pvs, us ++ [.ref c3], lvs, Same.tup s11 sqt_upd, hH.same SZ, Same.tup SZ tP, fas_tk fP (Same.tk SZ), Same.tup S11 tc5, (tks_tk fu (Same.tk ((s8.trans s9).trans S11))).app (F2.one nT), Same.tup SZ tL, fL.imp fun _ _ x => x.mono (Same.tk SZ)⟩ SZ
end
end B

namespace B
open PySem PySem.Spec PyProof.Rows L2

def sp_l_table (K : PySem.W.Frag) : Sp := fun vs H Q _ => ∃ (h a : Addr) (cs : List Nat) (rs : List (List Wd)) (ts : List Tm) (g : List Wd), vs = [.ref h, .ref a] ∧ HsAt K H h cs rs ∧ HsOk cs rs ∧ BtAt K H a ts g ∧ BtOk cs ts g ∧ ∀ (H' : Hp) (p : Addr) (us : List V), SqT K H' p us → F2 (PdAt K H') us (tabO cs ts g (wor cs rs)) → Same H H' → Q (.ref p) H'

section
variable {P : Program} {w : World} {K : PySem.W.Frag} {mg : Str → Option Value} {base : Heap}
theorem ok_l_table (T : Tx K mg w) (U : Unl P base) : FnOk P w K mg base CX0 38 T.l_table.f T.l_table.fd ["_law_house", "_law_bet"] (sp_l_table K) := by
  refine T.l_table.F.ok sc_l_table (fun vs H Q E h => ?_) (fun cdv A outer s H vs Q E hr h => ?_)
  · obtain ⟨h, a, cs, rs, ts, g, rfl, hH, hO, hA, hB, q⟩ := h
    rfl
  · obtain ⟨h, a, cs, rs, ts, g, rfl, hH, hO, hA, hB, q⟩ := h
    refine ⟨_, (pss_one (ps_ret (pe_callTy call_tuple_of (by rfl) T.m_tuple (by decide +kernel) (pa_cons (pe_lc (own := [("_law_world", 2)]) (g := gName 2) (tt := tYes) rfl sc_l_table.nd (pi_tup (pe_call (ok_l_worlds T U) (hr.mono (by decide)) (by rfl) T.l_worlds.g T.l_worlds.F.kp T.l_worlds.b .nil pass0 (pa_cons (pv 0) pa_nil))) (blkOk_by (own := [("_law_world", 2)]) (N := N_l_table) (sc := defScope s_l_table) (by decide +kernel)) (fun _ _ _ _ _ => (pg_name (i := 2) sc_l_table.nd rfl (.inl rfl))) (fun _ _ _ _ _ => pts_nil) (fun _ _ _ _ _ => (pe_call (ok_l_paid T U) (hr.mono (by decide)) (by rfl) T.l_paid.g T.l_paid.F.kp T.l_paid.b .nil pass0 (pa_cons (pe_ix (r := rIxT K) ix_tup (pv 0) pe_int (fun _ _ => rfl)) (pa_cons (pv 1) (pa_cons (pv 2) pa_nil)))))) pa_nil)))), ?_⟩
    obtain ⟨ra, rvs, tA, tRa, tW⟩ := id hH
    refine ⟨_, rfl, h, ra, cs, rvs, rs, rfl, tA, tRa, tW, (fun r hr => ⟨(hO.sy r hr).1, Nat.le_trans (hO.sy r hr).2 (by decide)⟩), Nat.le_trans hO.few (by decide), hO.c6, hO.sm, fun H0 pw tw s0 => ?_⟩
    refine ⟨pw, rfl, ⟨_, tw⟩, fun D nD => ?_⟩
    refine lc_tup (K := K) (a := pw) (xs := wvs (wor cs rs)) (fun j H' => ∃ us, H' D = some (.lst us) ∧ F2 (PdAt K H') us (tabO cs ts g ((wor cs rs).take j)) ∧ Same H0 H') ⟨[], upd_same, .nil, same_upd nD⟩ (fun j H' _ ⟨_, _, _, e⟩ => Same.tup e tw) ?_ ?_
    · rintro j x H1 hx ⟨us, h1, f1, s1⟩
      obtain ⟨bs, hbs, rfl⟩ := wvs_get hx
      have lb := wor_len (List.mem_of_getElem? hbs)
      have c6 := hO.c6
      refine ⟨rfl, lc_yes ?_⟩
      refine ⟨_, rfl, h, _, 0, .str (tx cs), rfl, rfl, Same.tup (s0.trans s1) tA, rfl, _, rfl, _, rfl, cs, a, ts, g, bs, rfl, hA.same (s0.trans s1), hB, lb.symm, by omega, fun H2 u pu s2 => ?_⟩
      have ul := f1.len
      refine ⟨us, s2 _ _ h1, ?_, us ++ [u], upd_same, ?_, same_mut nD (s1.trans s2)⟩
      · unfold tabO at ul
        rw [List.length_map, List.length_take] at ul
        have := wor_le (rs := rs) c6
        exact Nat.lt_of_le_of_lt (show us.length ≤ 64 by omega) (by decide)
      · have e := tabO_take (cs := cs) (ts := ts) (g := g) hbs
        rw [e]
        exact ((f1.imp fun _ _ h => PdAt.mono (fun _ _ t => Same.tup s2 t) h).app (.one pu)).imp fun _ _ h => PdAt.mono (fun _ _ t => tup_upd (s2 _ _ h1) t) h
    · rintro H1 ⟨us, h1, f1, s1⟩
      rw [wvs_len, List.take_length] at f1
      refine ⟨D, us, rfl, .inl ⟨.inl (.inl h1), fun p np => ?_⟩⟩
      have s2 := same_upd (o := .tup us) np
      exact q _ p us sqt_upd (f1.imp fun _ _ h => PdAt.mono (fun _ _ t => Same.tup s2 t) h) ((s0.trans s1).trans s2)
end
end B

namespace B
open PySem PySem.Spec PyProof.Rows L2

def sp_netted (K : PySem.W.Frag) : Sp := fun vs H Q E => ∃ (a q : Addr) (S : Std) (v1 v2 : V) (d1 d2 : PyData) (o : Wh), vs = [.ref a, .ref q] ∧ StdAt K H a S ∧ (∀ t ∈ S.ts, Fok 6000 t.k) ∧ (∀ t ∈ S.ts, BtOk S.cs t.b.ts t.b.g) ∧ (∀ c ∈ S.cs, c < 123) ∧ S.ts.length ≤ 100 ∧ StdN S ∧ SqT K H q [v1, v2] ∧ Th K H v1 d1 ∧ Th K H v2 d2 ∧ NetR S d1 d2 o ∧ OutG K o H Q E

section
variable {P : Program} {w : World} {K : PySem.W.Frag} {mg : Str → Option Value} {base : Heap}
theorem ok_netted (T : Tx K mg w) (U : Unl P base) : FnOk P w K mg base (L2.CX P w) 39 T.netted.f T.netted.fd ["stand", "parts"] (sp_netted K) := by
  refine T.netted.F.okX sc_netted (fun vs H Q E h => ?_) (fun cdv A outer s H vs Q E hr h => ?_)
  · obtain ⟨a, q, S, v1, v2, d1, d2, o, rfl, hS, hk, hbt, hcs, l100, hN, tq, h1, h2, hR, hQ⟩ := h
    rfl
  · obtain ⟨a, q, S, v1, v2, d1, d2, o, rfl, hS, hk, hbt, hcs, l100, hN, tq, h1, h2, hR, hQ⟩ := h
    refine ⟨_, (pss_cons (ps_asg (pv 1) (pg_tup rfl (pgs_cons (pg_name (i := 2) sc_netted.nd rfl (.inl rfl)) (pgs_cons (pg_name (i := 3) sc_netted.nd rfl (.inl rfl)) pgs_nil))))
      (pss_cons (ps_asg (pv 0) (pg_tup rfl (pgs_cons (pg_name (i := 4) sc_netted.nd rfl (.inl rfl)) (pgs_cons (pg_name (i := 5) sc_netted.nd rfl (.inl rfl)) (pgs_cons (pg_name (i := 6) sc_netted.nd rfl (.inl rfl)) (pgs_cons (pg_name (i := 7) sc_netted.nd rfl (.inl rfl)) (pgs_cons (pg_name (i := 8) sc_netted.nd rfl (.inl rfl)) pgs_nil)))))))
      (pss_cons (ps_set (i := 9) sc_netted.nd rfl (.inl rfl) (pe_callS (ok_standing T U) (hr.mono (by decide)) (by rfl) T.standing.g T.standing.F.kp T.standing.b (fun σ => passAt (takes_of rfl rfl rfl rfl) σ) (pa_cons (pv 0) (pa_cons (pv 2) pa_nil))))
      (pss_cons (ps_set (i := 10) sc_netted.nd rfl (.inl rfl) (pe_callS (ok_standing T U) (hr.mono (by decide)) (by rfl) T.standing.g T.standing.F.kp T.standing.b (fun σ => passAt (takes_of rfl rfl rfl rfl) σ) (pa_cons (pv 0) (pa_cons (pv 3) pa_nil))))
      (pss_cons (ps_if (pt_cmpR op_eq (pv 2) (pv 3) (nomark _)) (pss_one (ps_raise rfl (takes_of rfl rfl rfl rfl) (pmk_none T.x_NoTicket hr (by rfl)))) pss_nil)
      (pss_cons (ps_if (PW.pt (pw_or (pt_cmpR (op_neD hr.units) (pe_slice sl_tupS (pv 9) (po_some pe_int) (po_some pe_int)) (pe_slice sl_tupS (pv 10) (po_some pe_int) (po_some pe_int)) (nomark _)) (pw_or1 (pt_cmpR (op_neD hr.units) (pe_callB cr_sortedI (by rfl) T.m_sorted (by decide +kernel) (pa_cons (pe_slice sl_tupS (pv 9) (po_some pe_int) (po_some pe_int)) pa_nil)) (pe_callB cr_sortedI (by rfl) T.m_sorted (by decide +kernel) (pa_cons (pe_slice sl_tupS (pv 10) (po_some pe_int) (po_some pe_int)) pa_nil)) (nomark _))))) (pss_one (ps_raise rfl (takes_of rfl rfl rfl rfl) (pmk_none T.x_NotAlike hr (by rfl)))) pss_nil)
      (pss_cons (ps_set (i := 11) sc_netted.nd rfl (.inl rfl) (pe_ifExp (pt_cmpR op_lt (pv 2) (pv 3) (nomark _)) (pe_call (ok_rest_of T U) (hr.mono (by decide)) (by rfl) T.rest_of.g T.rest_of.F.kp T.rest_of.b .nil pass0 (pa_cons (pv 9) (pa_cons (pv 10) pa_nil))) (pe_call (ok_rest_of T U) (hr.mono (by decide)) (by rfl) T.rest_of.g T.rest_of.F.kp T.rest_of.b .nil pass0 (pa_cons (pv 10) (pa_cons (pv 9) pa_nil)))))
      (pss_cons (ps_if (pt_cmpR op_isN (pv 11) pe_non (nomark _)) (pss_one (ps_ret (pe_tup (pa_cons pe_non (pa_cons (pe_tup (pa_cons (pv 4) (pa_cons (pv 5) (pa_cons (pe_call (ok_without T U) (hr.mono (by decide)) (by rfl) T.without.g T.without.F.kp T.without.b .nil pass0 (pa_cons (pv 6) (pa_cons (pe_lst (pa_cons (pv 2) (pa_cons (pv 3) pa_nil))) pa_nil))) (pa_cons (pv 7) (pa_cons (pv 8) pa_nil)))))) pa_nil))))) pss_nil)
      (pss_cons (ps_set (i := 12) sc_netted.nd rfl (.inl rfl) (pe_call (ok_without T U) (hr.mono (by decide)) (by rfl) T.without.g T.without.F.kp T.without.b .nil pass0 (pa_cons (pv 6) (pa_cons (pe_lst (pa_cons (pe_callB (call_max2 rfl) (by rfl) T.m_max (by decide +kernel) (pa_cons (pv 2) (pa_cons (pv 3) pa_nil))) pa_nil)) pa_nil))))
      (pss_one (ps_ret (pe_tup (pa_cons (pe_ix ix_tup (pv 11) pe_int (fun _ _ => rfl)) (pa_cons (pe_tup (pa_cons (pv 4) (pa_cons (pv 5) (pa_cons (pe_call (ok_exchanged T U) (hr.mono (by decide)) (by rfl) T.exchanged.g T.exchanged.F.kp T.exchanged.b .nil pass0 (pa_cons (pv 12) (pa_cons (pv 11) pa_nil))) (pa_cons (pv 7) (pa_cons (pv 8) pa_nil)))))) pa_nil)))))))))))))), ?_⟩
    obtain ⟨h, pp, tt, l, pvs, tvs, lvs, tS, hH, tP, fP, tT, fT, tL, fL⟩ := id hS
    have lT := fT.len
    refine ⟨_, rfl, q, _, rfl, tq, rfl, _, _, rfl, _, _, rfl, rfl, ?_⟩
    refine ⟨_, rfl, a, _, rfl, tS, rfl, _, _, rfl, _, _, rfl, _, _, rfl, _, _, rfl, _, _, rfl, rfl, ?_⟩
    refine ⟨_, rfl, _, rfl, a, v1, d1, S, rfl, hS, h1, (fun hn C hC d H' dk s' => ?_), fun i u0 t hu hT e1 => ?_⟩
    · cases hR with
      | tick1 _ => exact hQ C hC d H' dk s'
      | tick2 m _ => exact absurd rfl (hn _ m)
      | same m => exact absurd rfl (hn _ m)
      | alike m _ _ _ => exact absurd rfl (hn _ m)
      | low m _ _ _ => exact absurd rfl (hn _ m)
      | high m _ _ _ => exact absurd rfl (hn _ m)
    have key : ∀ x y : Tkt, x ∈ S.ts → y ∈ S.ts → PyData.int (x.n : Int) = .int (y.n : Int) → x = y := fun x y hx hy e => hN.uq x hx y hy (by injection e with e; omega)
    have hm := List.mem_of_getElem? hu
    refine ⟨_, rfl, _, rfl, a, v2, d2, S, rfl, hS, h2, (fun hn C hC d H' dk s' => ?_), fun j w0 u hu2 hU e2 => ?_⟩
    · cases hR with
      | tick1 z => exact absurd e1 (z _ hm)
      | tick2 m z => exact hQ C hC d H' dk s'
      | same m => exact absurd rfl (hn _ m)
      | alike _ m _ _ => exact absurd rfl (hn _ m)
      | low _ m _ _ => exact absurd rfl (hn _ m)
      | high _ m _ _ => exact absurd rfl (hn _ m)
    have hm2 := List.mem_of_getElem? hu2
    have hI : (t.n = u.n ∧ o = .inl "NoTicket") ∨ (t.n ≠ u.n ∧ ¬ LikeT t u ∧ o = .inl "NotAlike") ∨ (t.n < u.n ∧ LikeT t u ∧ o = .inr (netT (restF t u), S.net t u)) ∨ (u.n < t.n ∧ LikeT t u ∧ o = .inr (netT (restF u t), S.net u t)) := by
      cases hR with
      | tick1 z => exact absurd e1 (z _ hm)
      | tick2 m z => exact absurd e2 (z _ hm2)
      | same m =>
        obtain rfl := key _ _ m hm e1
        obtain rfl := key _ _ m hm2 e2
        exact .inl ⟨rfl, rfl⟩
      | alike m m2 n z =>
        obtain rfl := key _ _ m hm e1
        obtain rfl := key _ _ m2 hm2 e2
        exact .inr (.inl ⟨n, z, rfl⟩)
      | low m m2 n z =>
        obtain rfl := key _ _ m hm e1
        obtain rfl := key _ _ m2 hm2 e2
        exact .inr (.inr (.inl ⟨n, z, rfl⟩))
      | high m m2 n z =>
        obtain rfl := key _ _ m hm e1
        obtain rfl := key _ _ m2 hm2 e2
        exact .inr (.inr (.inr ⟨n, z, rfl⟩))
    obtain ⟨qa, ba, pa, ka, ea, a1, a2, a3, a4⟩ := id hT
    subst ea
    obtain ⟨qb, bb, pb, kb, eb, b1, b2, b3, b4⟩ := id hU
    subst eb
    subst e1
    subst e2
    cases h1
    cases h2
    refine ⟨_, rfl, _, rfl, rfl, _, rfl, ?_⟩
    rcases hI with ⟨e, rfl⟩ | hI
    · exact iteK (decide_eq_true (by rw [e])) fun d nd => hQ _ T.x_NoTicket.ns _ _ dok_upd (same_upd nd)
    have ne : t.n ≠ u.n := by
      rcases hI with ⟨e, _⟩ | ⟨e, _⟩ | ⟨e, _⟩
      · exact e
      · omega
      · omega
    refine iteE (decide_eq_false fun z => ne (by injection z with z; omega)) ?_
    refine ⟨_, rfl, 3, rfl, 5, rfl, qa, _, rfl, a1, fun c1 H1 tc1 s1 => ?_⟩
    have tc1 : SqT K H1 c1 [.ref ba, .ref pa] := tc1
    refine ⟨_, rfl, 3, rfl, 5, rfl, qb, _, rfl, Same.tup s1 b1, fun c2 H2 tc2 s2 => ?_⟩
    have tc2 : SqT K H2 c2 [.ref bb, .ref pb] := tc2
    have S2 := s1.trans s2
    have ly1 := kdat_lyd hcs (hbt t hm)
    have ly2 := kdat_lyd hcs (hbt u hm2)
    refine ⟨kdat t.b, kdat u.b, .tup (Same.tup s2 tc1) (.cons (bdp (a2.mono (Same.tk S2))) (.cons (dp2 (Same.tup S2 a3)) .nil)), .tup tc2 (.cons (bdp (b2.mono (Same.tk S2))) (.cons (dp2 (Same.tup S2 b3)) .nil)), ly1.shaped (by decide), ly2.shaped (by decide), _, rfl, ?_⟩
    by_cases hb : t.b = u.b
    rotate_left
    · rw [eqv_false (kdat_iff _ _) hb]
      have nl : ¬ LikeT t u := fun z => hb z.1
      rcases hI with ⟨_, _, rfl⟩ | ⟨_, z, _⟩ | ⟨_, z, _⟩
      · exact iteT (iteT fun d nd => hQ _ T.x_NotAlike.ns _ _ dok_upd (S2.trans (same_upd nd)))
      · exact absurd z nl
      · exact absurd z nl
    rw [(kdat_iff _ _).mpr hb]
    refine iteF ⟨_, rfl, 1, rfl, 3, rfl, qa, _, rfl, Same.tup S2 a1, fun c3 H3 tc3 s3 => ?_⟩
    have tc3 : SqT K H3 c3 ([(t.l : Int), (t.s : Int)].map V.int) := tc3
    refine ⟨c3, _, rfl, tc3, fun ys py perm1 sort1 npy => ?_⟩
    have s4 := same_upd (o := .lst (ys.map V.int)) npy
    have S4 := S2.trans (s3.trans s4)
    refine ⟨_, rfl, 1, rfl, 3, rfl, qb, _, rfl, Same.tup S4 b1, fun c4 H5 tc4 s5 => ?_⟩
    have tc4 : SqT K H5 c4 ([(u.l : Int), (u.s : Int)].map V.int) := tc4
    refine ⟨c4, _, rfl, tc4, fun zs pz perm2 sort2' npz => ?_⟩
    have s6 := same_upd (o := .lst (zs.map V.int)) npz
    have S6 := S4.trans (s5.trans s6)
    have hlk := like_iff perm1 sort1 perm2 sort2'
    refine ⟨.list (ys.map .int), .list (zs.map .int), .lst (.inl (.inl ((s5.trans s6) _ _ upd_same))) (ints_dp ys), .lst (.inl (.inl upd_same)) (ints_dp zs), ints_shaped _, ints_shaped _, _, rfl, ?_⟩
    rw [ints_eqd]
    by_cases hz : ys = zs
    rotate_left
    · rw [decide_eq_false hz]
      have nl : ¬ LikeT t u := fun z => hz (hlk.mpr z).2
      rcases hI with ⟨_, _, rfl⟩ | ⟨_, z, _⟩ | ⟨_, z, _⟩
      · exact iteT fun d nd => hQ _ T.x_NotAlike.ns _ _ dok_upd (S6.trans (same_upd nd))
      · exact absurd z nl
      · exact absurd z nl
    rw [decide_eq_true hz]
    have lk := hlk.mp ⟨hb, hz⟩
    have hI : (t.n < u.n ∧ o = .inr (netT (restF t u), S.net t u)) ∨ (u.n < t.n ∧ o = .inr (netT (restF u t), S.net u t)) := by
      rcases hI with ⟨_, z, _⟩ | ⟨z, _, z'⟩ | ⟨z, _, z'⟩
      · exact absurd lk z
      · exact .inl ⟨z, z'⟩
      · exact .inr ⟨z, z'⟩
    refine iteF ?_
    refine ⟨_, rfl, _, rfl, _, _, rfl, rfl, _, rfl, ?_⟩
    rcases hI with ⟨lt, rfl⟩ | ⟨lt, rfl⟩
    · refine iteK (decide_eq_true (by omega)) ?_
      have eM : (if (u.n : Int) > (t.n : Int) then (u.n : Int) else (t.n : Int)) = (u.n : Int) := if_pos (by omega)
      have swp : (S.ts.filter fun x => !decide (x.n ∈ [t.n, u.n])) = S.ts.filter fun x => !decide (x.n ∈ [t.n, u.n]) := rfl
      refine ⟨_, rfl, _, rfl, qa, qb, t, u, rfl, hT.mono (Same.tk S6), hU.mono (Same.tk S6), hk _ hm, hk _ hm2, (fun e H7 s7 => ?_), fun r e H7 pr hr s7 => ?_⟩
      · refine ⟨_, rfl, rfl, _, rfl, iteK (decide_eq_true rfl) ?_⟩
        refine ⟨_, rfl, _, rfl, _, rfl, _, rfl, _, rfl, by show 2 ≤ sizeLine; decide, fun lb nlb => ?_⟩
        have s8 := same_upd (o := .lst [.int t.n, .int u.n]) nlb
        have S8 := S6.trans (s7.trans s8)
        refine ⟨tt, lb, tvs, S.ts, [t.n, u.n], rfl, Same.tup S8 tT, tks_tk fT (Same.tk S8), l100, upd_same, fun H9 p us tp fu s9 => ?_⟩
        refine ⟨_, rfl, _, rfl, by show 5 ≤ sizeLine; decide, fun c6 n6 => ⟨by show 2 ≤ sizeLine; decide, fun c7 n7 => ?_⟩⟩
        have s10 := same_upd (o := .tup [.ref h, .ref pp, .ref p, .ref l, .int S.m]) n6
        have s11 := same_upd (o := .tup [.non, .ref c6]) n7
        have S11 := s10.trans s11
        have SZ := S8.trans (s9.trans S11)
        have el : (S.net t u).ts = S.ts.filter fun x => !decide (x.n ∈ [t.n, u.n]) := by
          show netL S.ts t u (restF t u) = _
          rw [e]
          exact swp
        refine hQ _ c7 c6 .non sqt_upd (by show Dq K _ .non (netT (restF t u)); rw [e]; exact .non) ⟨h, pp, p, l, pvs, us, lvs, Same.tup s11 sqt_upd, hH.same SZ, Same.tup SZ tP, fas_tk fP (Same.tk SZ), Same.tup S11 tp, ?_, Same.tup SZ tL, fL.imp fun _ _ x => x.mono (Same.tk SZ)⟩ SZ
        rw [el]
        exact tks_tk fu (Same.tk S11)
      · refine ⟨_, rfl, rfl, _, rfl, iteE (decide_eq_false nofun) ?_⟩
        refine ⟨_, rfl, _, rfl, _, rfl, _, _, rfl, by show 1 ≤ sizeLine; decide, fun lb nlb => ?_⟩
        rw [eM]
        have s8 := same_upd (o := .lst [.int u.n]) nlb
        have S8 := S6.trans (s7.trans s8)
        refine ⟨tt, lb, tvs, S.ts, [u.n], rfl, Same.tup S8 tT, tks_tk fT (Same.tk S8), l100, upd_same, fun H9 p us tp fu s9 => ?_⟩
        obtain ⟨qr, br, pr', kr, er, r1, r2, r3, r4⟩ := id (hr.mono (Same.tk (s8.trans s9)))
        injection er with er
        subst er
        have lf := List.length_filter_le (fun x : Tkt => !decide (x.n ∈ [u.n])) S.ts
        refine ⟨_, rfl, pr, _, 0, .int r.n, rfl, rfl, r1, rfl, _, rfl, _, rfl, _, rfl, _, rfl, p, pr, us, _, r, rfl, tp, fu, by omega, hr.mono (Same.tk (s8.trans s9)), fun H10 p2 us2 tp2 fu2 s10 => ?_⟩
        refine ⟨_, rfl, _, rfl, by show 5 ≤ sizeLine; decide, fun c6 n6 => ⟨by show 2 ≤ sizeLine; decide, fun c7 n7 => ?_⟩⟩
        have s11 := same_upd (o := .tup [.ref h, .ref pp, .ref p2, .ref l, .int S.m]) n6
        have s12 := same_upd (o := .tup [.int r.n, .ref c6]) n7
        have S12 := s11.trans s12
        have SZ := S8.trans (s9.trans (s10.trans S12))
        refine hQ _ c7 c6 (.int r.n) sqt_upd (by show Dq K _ (.int (r.n : Int)) (netT (restF t u)); rw [e]; exact .int _) ⟨h, pp, p2, l, pvs, us2, lvs, Same.tup s12 sqt_upd, hH.same SZ, Same.tup SZ tP, fas_tk fP (Same.tk SZ), Same.tup S12 tp2, ?_, Same.tup SZ tL, fL.imp fun _ _ x => x.mono (Same.tk SZ)⟩ SZ
        show F2 _ _ (netL S.ts t u (restF t u))
        rw [e]
        exact tks_tk fu2 (Same.tk S12)
    · refine iteE (decide_eq_false (by omega)) ?_
      have eM : (if (u.n : Int) > (t.n : Int) then (u.n : Int) else (t.n : Int)) = (t.n : Int) := if_neg (by omega)
      have swp : (S.ts.filter fun x => !decide (x.n ∈ [u.n, t.n])) = S.ts.filter fun x => !decide (x.n ∈ [t.n, u.n]) := List.filter_congr fun x _ => by
        congr 1
        exact decide_eq_decide.mpr (by simp only [List.mem_cons, List.not_mem_nil, or_false]; omega)
      refine ⟨_, rfl, _, rfl, qb, qa, u, t, rfl, hU.mono (Same.tk S6), hT.mono (Same.tk S6), hk _ hm2, hk _ hm, (fun e H7 s7 => ?_), fun r e H7 pr hr s7 => ?_⟩
      · refine ⟨_, rfl, rfl, _, rfl, iteK (decide_eq_true rfl) ?_⟩
        refine ⟨_, rfl, _, rfl, _, rfl, _, rfl, _, rfl, by show 2 ≤ sizeLine; decide, fun lb nlb => ?_⟩
        have s8 := same_upd (o := .lst [.int t.n, .int u.n]) nlb
        have S8 := S6.trans (s7.trans s8)
        refine ⟨tt, lb, tvs, S.ts, [t.n, u.n], rfl, Same.tup S8 tT, tks_tk fT (Same.tk S8), l100, upd_same, fun H9 p us tp fu s9 => ?_⟩
        refine ⟨_, rfl, _, rfl, by show 5 ≤ sizeLine; decide, fun c6 n6 => ⟨by show 2 ≤ sizeLine; decide, fun c7 n7 => ?_⟩⟩
        have s10 := same_upd (o := .tup [.ref h, .ref pp, .ref p, .ref l, .int S.m]) n6
        have s11 := same_upd (o := .tup [.non, .ref c6]) n7
        have S11 := s10.trans s11
        have SZ := S8.trans (s9.trans S11)
        have el : (S.net u t).ts = S.ts.filter fun x => !decide (x.n ∈ [t.n, u.n]) := by
          show netL S.ts u t (restF u t) = _
          rw [e]
          exact swp
        refine hQ _ c7 c6 .non sqt_upd (by show Dq K _ .non (netT (restF u t)); rw [e]; exact .non) ⟨h, pp, p, l, pvs, us, lvs, Same.tup s11 sqt_upd, hH.same SZ, Same.tup SZ tP, fas_tk fP (Same.tk SZ), Same.tup S11 tp, ?_, Same.tup SZ tL, fL.imp fun _ _ x => x.mono (Same.tk SZ)⟩ SZ
        rw [el]
        exact tks_tk fu (Same.tk S11)
      · refine ⟨_, rfl, rfl, _, rfl, iteE (decide_eq_false nofun) ?_⟩
        refine ⟨_, rfl, _, rfl, _, rfl, _, _, rfl, by show 1 ≤ sizeLine; decide, fun lb nlb => ?_⟩
        rw [eM]
        have s8 := same_upd (o := .lst [.int t.n]) nlb
        have S8 := S6.trans (s7.trans s8)
        refine ⟨tt, lb, tvs, S.ts, [t.n], rfl, Same.tup S8 tT, tks_tk fT (Same.tk S8), l100, upd_same, fun H9 p us tp fu s9 => ?_⟩
        obtain ⟨qr, br, pr', kr, er, r1, r2, r3, r4⟩ := id (hr.mono (Same.tk (s8.trans s9)))
        injection er with er
        subst er
        have lf := List.length_filter_le (fun x : Tkt => !decide (x.n ∈ [t.n])) S.ts
        refine ⟨_, rfl, pr, _, 0, .int r.n, rfl, rfl, r1, rfl, _, rfl, _, rfl, _, rfl, _, rfl, p, pr, us, _, r, rfl, tp, fu, by omega, hr.mono (Same.tk (s8.trans s9)), fun H10 p2 us2 tp2 fu2 s10 => ?_⟩
        refine ⟨_, rfl, _, rfl, by show 5 ≤ sizeLine; decide, fun c6 n6 => ⟨by show 2 ≤ sizeLine; decide, fun c7 n7 => ?_⟩⟩
        have s11 := same_upd (o := .tup [.ref h, .ref pp, .ref p2, .ref l, .int S.m]) n6
        have s12 := same_upd (o := .tup [.int r.n, .ref c6]) n7
        have S12 := s11.trans s12
        have SZ := S8.trans (s9.trans (s10.trans S12))
        refine hQ _ c7 c6 (.int r.n) sqt_upd (by show Dq K _ (.int (r.n : Int)) (netT (restF u t)); rw [e]; exact .int _) ⟨h, pp, p2, l, pvs, us2, lvs, Same.tup s12 sqt_upd, hH.same SZ, Same.tup SZ tP, fas_tk fP (Same.tk SZ), Same.tup S12 tp2, ?_, Same.tup SZ tL, fL.imp fun _ _ x => x.mono (Same.tk SZ)⟩ SZ
        show F2 _ _ (netL S.ts u t (restF u t))
        rw [e]
        exact tks_tk fu2 (Same.tk S12)
end
end B

namespace B
open PySem PySem.Spec PyProof.Rows L2

def sp_l_brings (K : PySem.W.Frag) : Sp := fun vs H Q _ => ∃ (h : Addr) (v : V) (cs : List Nat) (rs : List (List Wd)) (t : Tkt), vs = [.ref h, v] ∧ HsAt K H h cs rs ∧ HsOk cs rs ∧ TkAt K H v t ∧ TkOk cs t ∧ ∀ (H' : Hp) (L : Addr) (us : List V), H' L = some (.lst us) → F2 (FAt K H') us ((wor cs rs).map fun bs => brF (vl cs bs) t) → H L = none → Same H H' → Q (.ref L) H'

section
variable {P : Program} {w : World} {K : PySem.W.Frag} {mg : Str → Option Value} {base : Heap}
theorem ok_l_brings (T : Tx K mg w) (U : Unl P base) : FnOk P w K mg base CX0 39 T.l_brings.f T.l_brings.fd ["_law_house", "_law_ticket_here"] (sp_l_brings K) := by
  refine T.l_brings.F.ok sc_l_brings (fun vs H Q E h => ?_) (fun cdv A outer s H vs Q E hr h => ?_)
  · obtain ⟨h, v, cs, rs, t, rfl, hH, hO, hT, okt, q⟩ := h
    rfl
  · obtain ⟨h, v, cs, rs, t, rfl, hH, hO, hT, okt, q⟩ := h
    refine ⟨_, (pss_cons (ps_set (i := 2) sc_l_brings.nd rfl (.inl rfl) (pe_lst pa_nil))
      (pss_cons (ps_for PassesOwn.never rfl (pi_tup (pe_call (ok_l_table T U) (hr.mono (by decide)) (by rfl) T.l_table.g T.l_table.F.kp T.l_table.b .nil pass0 (pa_cons (pv 0) (pa_cons (pe_ix ix_tup (pv 1) pe_int (fun _ _ => rfl)) pa_nil)))) (pg_name (i := 3) sc_l_brings.nd rfl (.inl rfl))
      (pss_cons (ps_set (i := 4) sc_l_brings.nd rfl (.inl rfl) (pe_tup (pa_cons pe_int (pa_cons pe_int pa_nil))))
      (pss_cons (ps_if (pt_cmpR op_notN (pv 3) pe_non (nomark _)) (pss_one (ps_set (i := 4) sc_l_brings.nd rfl (.inl rfl) (pe_call (ok_l_times T U) (hr.mono (by decide)) (by rfl) T.l_times.g T.l_times.F.kp T.l_times.b .nil pass0 (pa_cons (pe_ix ix_tup (pv 1) pe_int (fun _ _ => rfl)) (pa_cons (pe_call (ok_l_plus T U) (hr.mono (by decide)) (by rfl) T.l_plus.g T.l_plus.F.kp T.l_plus.b .nil pass0 (pa_cons (pv 3) (pa_cons (pe_call (ok_l_turned T U) (hr.mono (by decide)) (by rfl) T.l_turned.g T.l_turned.F.kp T.l_turned.b .nil pass0 (pa_cons (pe_ix ix_tup (pv 1) pe_int (fun _ _ => rfl)) pa_nil)) pa_nil))) pa_nil))))) pss_nil)
      (pss_one (ps_expr (pe_bm PySem.F.plainAttrs_list PySem.F.slot_list_append PySem.F.type_list_append mt_append (pv 2) (pa_cons (pv 4) pa_nil)))))))
      (pss_one (ps_ret (pv 2))))), ?_⟩
    obtain ⟨tq, a, p, k, rfl, t1, t2, t3, t4⟩ := id hT
    have wle := wor_le (rs := rs) hO.c6
    refine ⟨by decide, fun L nL => ?_⟩
    have sL := same_upd (o := .lst []) nL
    refine ⟨_, rfl, _, rfl, tq, _, 3, .ref a, rfl, rfl, Same.tup sL t1, rfl, h, a, cs, rs, t.b.ts, t.b.g, rfl, hH.same sL, hO, t2.same sL, okt.b.bt, fun H1 pt us tt ft s1 => ?_⟩
    have S1 := sL.trans s1
    have ul := ft.len
    rw [tabO_len] at ul
    refine ⟨pt, rfl, ⟨_, tt⟩, for_it (walk_tup (K := K) (a := pt) (xs := us)) (fun i σ H' => ∃ (x3 x4 : Option V) (ys : List V), σ = [some (.ref h), some (.ref tq), some (.ref L), x3, x4] ∧ H' L = some (.lst ys) ∧ F2 (FAt K H') ys (((wor cs rs).take i).map fun bs => brF (vl cs bs) t) ∧ SqT K H' pt us ∧ F2 (PdAt K H') us (tabO cs t.b.ts t.b.g (wor cs rs)) ∧ Same H H') ⟨none, none, [], rfl, s1 _ _ upd_same, .nil, tt, ft, S1⟩ (fun i σ H' _ ⟨_, _, _, _, _, _, e, _⟩ => e) ?_ ?_⟩
    · rintro i x σ H2 _ hi ⟨x3, x4, ys, rfl, hL, fL, tt2, ft2, s2⟩ ⟨rfl, hx⟩
      obtain ⟨o, ho, po⟩ := ft2.getA hx
      unfold tabO at ho
      rw [List.getElem?_map] at ho
      cases hbs : (wor cs rs)[i]? with
      | none => rw [hbs] at ho; cases ho
      | some bs =>
      rw [hbs] at ho
      cases ho
      have ly := fL.len
      rw [List.length_map, List.length_take] at ly
      refine ⟨by show 2 ≤ sizeLine; decide, fun z nz => ?_⟩
      have s3 := same_upd (o := .tup [.int 0, .int 1]) nz
      refine ⟨_, rfl, rfl, _, rfl, ?_⟩
      have po : PdAt K _ x (payO (vl cs bs) t.b.ts t.b.g) := po
      rw [pdAt_notNone po]
      have eb : brF (vl cs bs) t = match payO (vl cs bs) t.b.ts t.b.g with | none => (0, 1) | some p => mulF t.k (subF p t.b.p) := rfl
      cases e : payO (vl cs bs) t.b.ts t.b.g with
      | none =>
        rw [e] at eb
        refine iteF ?_
        have tw : SqT K (tgt s3) z [.int (brF (vl cs bs) t).1, .int (brF (vl cs bs) t).2] := by rw [eb]; exact sqt_upd
        have hL9 := s3 _ _ hL
        have U := fun p xs t' => tup_upd (K := K) (a := p) (ys := xs) (zs := ys ++ [.ref z]) hL9 t'
        refine ⟨_, rfl, .inl ⟨rfl, _, .inl (.inl hL9)⟩, _, rfl, L, ys, .ref z, rfl, rfl, hL9, Nat.lt_of_le_of_lt (show ys.length ≤ 64 by omega) (by decide), ?_⟩
        refine ⟨_, _, _, rfl, upd_same, ?_, U _ _ (Same.tup s3 tt2), pds_tk (pds_tk ft2 (Same.tk s3)) U, same_mut nL (s2.trans s3)⟩
        rw [take_one _ i _ hbs, List.map_append]
        exact (fas_tk (fas_tk fL (Same.tk s3)) U).app (.cons ⟨z, rfl, U _ _ tw⟩ .nil)
      | some x =>
        rw [e] at eb po
        obtain ⟨pa, rfl, ta⟩ := po
        have pk : Fok 300 x := by rw [payO_some e]; exact okt.b.pz _
        have so := pk.sub okt.b.pp
        have S3 := s2.trans s3
        refine iteT ⟨_, rfl, tq, _, 5, .ref k, rfl, rfl, Same.tup S3 t1, rfl, _, rfl, _, rfl, tq, _, 4, .ref p, rfl, rfl, Same.tup S3 t1, rfl, p, t.b.p, rfl, Same.tup S3 t3, fun H4 r tr _ s4 => ?_⟩
        refine ⟨pa, r, x.1, (negF t.b.p).1, x.2, (negF t.b.p).2, rfl, Same.tup (s3.trans s4) ta, tr, pk.f, okt.b.pp.neg.f, pk.z.more (by decide), okt.b.pp.neg.z.more (by decide), fun r2 n2 => ?_⟩
        have s5 := same_upd (o := .tup [.int (addF x (negF t.b.p)).1, .int (addF x (negF t.b.p)).2]) n2
        refine ⟨k, r2, _, _, _, _, rfl, Same.tup (S3.trans (s4.trans s5)) t4, sqt_upd, okt.k.f, so.f, okt.k.z.more (by decide), so.z.more (by decide), fun r3 n3 => ?_⟩
        have s6 := same_upd (o := .tup [.int (mulF t.k (subF x t.b.p)).1, .int (mulF t.k (subF x t.b.p)).2]) n3
        have S6 := s3.trans (s4.trans (s5.trans s6))
        have tw : SqT K (tgt s6) r3 [.int (brF (vl cs bs) t).1, .int (brF (vl cs bs) t).2] := by rw [eb]; exact sqt_upd
        have hL9 := S6 _ _ hL
        have U := fun p xs t' => tup_upd (K := K) (a := p) (ys := xs) (zs := ys ++ [.ref r3]) hL9 t'
        refine ⟨_, rfl, .inl ⟨rfl, _, .inl (.inl hL9)⟩, _, rfl, L, ys, .ref r3, rfl, rfl, hL9, Nat.lt_of_le_of_lt (show ys.length ≤ 64 by omega) (by decide), ?_⟩
        refine ⟨_, _, _, rfl, upd_same, ?_, U _ _ (Same.tup S6 tt2), pds_tk (pds_tk ft2 (Same.tk S6)) U, same_mut nL (s2.trans S6)⟩
        rw [take_one _ i _ hbs, List.map_append]
        exact (fas_tk (fas_tk fL (Same.tk S6)) U).app (.cons ⟨r3, rfl, U _ _ tw⟩ .nil)
    · rintro σ H2 ⟨x3, x4, ys, rfl, hL, fL, tt2, ft2, s2⟩
      rw [ul, List.take_length] at fL
      exact ⟨_, rfl, q _ L ys hL fL nL s2⟩
end
end B

namespace B
open PySem PySem.Spec PyProof.Rows L2

def sp_l_wager (K : PySem.W.Frag) : Sp := fun vs H Q _ => ∃ (d : Dr) (b : Nat) (h : Addr) (cs : List Nat) (rs : List (List Wd)), vs = [.ref d.dr, .ref h] ∧ HsAt K H h cs rs ∧ HsOk cs rs ∧ 1 ≤ cs.length ∧ wor cs rs ≠ [] ∧ Drw H d (b + 12) ∧ ∀ (H' : Hp) (p : Addr) (ts : List Tm) (g : List Wd), BtAt K H' p ts g → BwOk cs ts g → somes (tabO cs ts g (wor cs rs)) ≠ [] → Drw H' d b → Kp d H H' → Q (.ref p) H'

section
variable {P : Program} {w : World} {K : PySem.W.Frag} {mg : Str → Option Value} {base : Heap}
theorem ok_l_wager (T : Tx K mg w) (U : Unl P base) : FnOk P w K mg base CX0 39 T.l_wager.f T.l_wager.fd ["_law_drawn", "_law_house"] (sp_l_wager K) := by
  refine T.l_wager.F.ok sc_l_wager (fun vs H Q E h => ?_) (fun cdv A outer s H vs Q E hr h => ?_)
  · obtain ⟨d, b, h, cs, rs, rfl, hH, hO, c1, hne, hD, q⟩ := h
    rfl
  · obtain ⟨d, b, h, cs, rs, rfl, hH, hO, c1, hne, hD, q⟩ := h
    refine ⟨_, (pss_cons (ps_set (i := 2) sc_l_wager.nd rfl (.inl rfl) (pe_lst (pa_cons (pe_tup (pa_cons pe_int (pa_cons pe_int pa_nil))) (pa_cons (pe_tup (pa_cons pe_int (pa_cons pe_int pa_nil))) (pa_cons (pe_tup (pa_cons pe_int (pa_cons pe_int pa_nil))) (pa_cons (pe_tup (pa_cons (pe_un un_neg pe_int) (pa_cons pe_int pa_nil))) (pa_cons (pe_tup (pa_cons (pe_un un_neg pe_int) (pa_cons pe_int pa_nil))) (pa_cons (pe_tup (pa_cons pe_int (pa_cons pe_int pa_nil))) (pa_cons (pe_tup (pa_cons pe_int (pa_cons pe_int pa_nil))) (pa_cons (pe_tup (pa_cons (pe_op op_add (pe_op op_pow pe_int pe_int) pe_int) (pa_cons (pe_op op_pow pe_int pe_int) pa_nil))) pa_nil))))))))))
      (pss_cons (ps_set (i := 3) sc_l_wager.nd rfl (.inl rfl) (pe_tup pa_nil))
      (pss_cons (ps_for PassesOwn.never rfl (pi_range1 (by rfl) T.m_range (pa_cons (pe_call (ok_l_next T U) (hr.mono (by decide)) (by rfl) T.l_next.g T.l_next.F.kp T.l_next.b .nil pass0 (pa_cons (pv 0) (pa_cons pe_int pa_nil))) pa_nil)) (pg_name (i := 4) sc_l_wager.nd rfl (.inl rfl))
      (pss_one (ps_set (i := 3) sc_l_wager.nd rfl (.inl rfl) (pe_op op_catS (pv 3) (pe_tup (pa_cons (pe_tup (pa_cons (pe_ix ix_list (pv 2) (pe_call (ok_l_next T U) (hr.mono (by decide)) (by rfl) T.l_next.g T.l_next.F.kp T.l_next.b .nil pass0 (pa_cons (pv 0) (pa_cons pe_int pa_nil))) (fun _ _ => rfl)) (pa_cons (pe_call (ok_l_simple T U) (hr.mono (by decide)) (by rfl) T.l_simple.g T.l_simple.F.kp T.l_simple.b .nil pass0 (pa_cons (pv 0) (pa_cons (pe_ix ix_tup (pv 1) pe_int (fun _ _ => rfl)) pa_nil))) pa_nil))) pa_nil))))))
      (pss_cons (ps_set (i := 5) sc_l_wager.nd rfl (.inl rfl) (pe_tup (pa_cons (pv 3) (pa_cons (pe_call (ok_l_simple T U) (hr.mono (by decide)) (by rfl) T.l_simple.g T.l_simple.F.kp T.l_simple.b .nil pass0 (pa_cons (pv 0) (pa_cons (pe_ix ix_tup (pv 1) pe_int (fun _ _ => rfl)) pa_nil))) pa_nil))))
      (pss_cons (ps_if (pt_cmpR (op_eqD hr.units) (pe_lc (own := [("_law_paid_here", 6)]) (g := gName 6) rfl sc_l_wager.nd (pi_tup (pe_call (ok_l_table T U) (hr.mono (by decide)) (by rfl) T.l_table.g T.l_table.F.kp T.l_table.b .nil pass0 (pa_cons (pv 1) (pa_cons (pv 5) pa_nil)))) (blkOk_by (own := [("_law_paid_here", 6)]) (N := N_l_wager) (sc := defScope s_l_wager) (by decide +kernel)) (fun _ _ _ _ _ => (pg_name (i := 6) sc_l_wager.nd rfl (.inl rfl))) (fun _ _ _ _ _ => (pts_one (pt_cmpR op_notN (pv 6) pe_non (nomark _)))) (fun _ _ _ _ _ => (pv 6))) (pe_lst pa_nil) (nomark _)) (pss_one (ps_ret (pe_tup (pa_cons (pv 3) (pa_cons (pe_tup (pa_cons pe_str pa_nil)) pa_nil))))) pss_nil)
      (pss_one (ps_ret (pv 5)))))))), ?_⟩
    have h6 := hO.c6
    obtain ⟨ra, rvs, tA, _, _⟩ := id hH
    refine ⟨by show 2 ≤ sizeLine; decide, fun a1 n1 => ?_⟩
    have s1 := same_upd (o := .tup [.int 0, .int 1]) n1
    refine ⟨by show 2 ≤ sizeLine; decide, fun a2 n2 => ?_⟩
    have s2 := same_upd (o := .tup [.int 1, .int 1]) n2
    refine ⟨by show 2 ≤ sizeLine; decide, fun a3 n3 => ?_⟩
    have s3 := same_upd (o := .tup [.int 2, .int 1]) n3
    refine ⟨1, rfl, by show 2 ≤ sizeLine; decide, fun a4 n4 => ?_⟩
    have s4 := same_upd (o := .tup [.int (-1), .int 1]) n4
    refine ⟨3, rfl, by show 2 ≤ sizeLine; decide, fun a5 n5 => ?_⟩
    have s5 := same_upd (o := .tup [.int (-3), .int 2]) n5
    refine ⟨by show 2 ≤ sizeLine; decide, fun a6 n6 => ?_⟩
    have s6 := same_upd (o := .tup [.int 5, .int 7]) n6
    refine ⟨by show 2 ≤ sizeLine; decide, fun a7 n7 => ?_⟩
    have s7 := same_upd (o := .tup [.int 40, .int 1]) n7
    refine ⟨_, _, rfl, rfl, ⟨by decide, by decide, by decide⟩, _, _, rfl, rfl, _, _, rfl, rfl, ⟨by decide, by decide, by decide⟩, by show 2 ≤ sizeLine; decide, fun a8 n8 => ?_⟩
    have s8 := same_upd (o := .tup [.int ((10 : Int) ^ (19 : Int).toNat + 1), .int ((10 : Int) ^ (6 : Int).toNat)]) n8
    refine ⟨by show 8 ≤ sizeLine; decide, fun L nL => ?_⟩
    have s9 := same_upd (o := .lst [.ref a1, .ref a2, .ref a3, .ref a4, .ref a5, .ref a6, .ref a7, .ref a8]) nL
    have t8 := s8.trans s9
    have t7 := s7.trans t8
    have t6 := s6.trans t7
    have t5 := s5.trans t6
    have t4 := s4.trans t5
    have t3 := s3.trans t4
    have t2 := s2.trans t3
    have t1 := s1.trans t2
    have nL1 := (hD.same (s1.trans (s2.trans (s3.trans (s4.trans (s5.trans (s6.trans (s7.trans s8)))))))).no nL
    have w9 := hD.same t1
    have item : ∀ {H' : Hp}, Tk K (tgt s9) H' → ∀ j : Nat, j < 8 → ∃ (p : Addr) (x : Int × Nat), atI [V.ref a1, .ref a2, .ref a3, .ref a4, .ref a5, .ref a6, .ref a7, .ref a8] (j : Int) = some (.ref p) ∧ SqT K H' p [.int x.1, .int x.2] ∧ Fb 7000000 (2 ^ 44) x := fun k j hj => by
      have : j = 0 ∨ j = 1 ∨ j = 2 ∨ j = 3 ∨ j = 4 ∨ j = 5 ∨ j = 6 ∨ j = 7 := by omega
      rcases this with rfl | rfl | rfl | rfl | rfl | rfl | rfl | rfl
      · exact ⟨a1, (0, 1), rfl, k _ _ (Same.tup t2 sqt_upd), fb_dec (by decide +kernel)⟩
      · exact ⟨a2, (1, 1), rfl, k _ _ (Same.tup t3 sqt_upd), fb_dec (by decide +kernel)⟩
      · exact ⟨a3, (2, 1), rfl, k _ _ (Same.tup t4 sqt_upd), fb_dec (by decide +kernel)⟩
      · exact ⟨a4, (-1, 1), rfl, k _ _ (Same.tup t5 sqt_upd), fb_dec (by decide +kernel)⟩
      · exact ⟨a5, (-3, 2), rfl, k _ _ (Same.tup t6 sqt_upd), fb_dec (by decide +kernel)⟩
      · exact ⟨a6, (5, 7), rfl, k _ _ (Same.tup t7 sqt_upd), fb_dec (by decide +kernel)⟩
      · exact ⟨a7, (40, 1), rfl, k _ _ (Same.tup t8 sqt_upd), fb_dec (by decide +kernel)⟩
      · exact ⟨a8, (10000000000000000001, 1000000), rfl, k _ _ (Same.tup s9 sqt_upd), fb_dec (by decide +kernel)⟩
    refine ⟨by show 0 ≤ sizeLine; decide, fun e0 ne0 => ?_⟩
    have s10 := same_upd (o := .tup []) ne0
    have w10 := w9.same s10
    refine ⟨_, rfl, d, b + 11, 3, rfl, by decide, by decide, w10.less (by omega), fun H1 r r0 r1 w1 k1 => ?_⟩
    have K1 : Kp d H H1 := (Same.kp (t1.trans s10)).trans k1
    have T1 : Tk K (tgt s9) H1 := fun _ _ t => Kp.tup k1 w10 (Same.tup s10 t)
    refine ⟨r, rfl, by omega, by omega, for_range (lo := 0) (n := r.toNat) (fun i σ H' => ∃ (x4 x5 x6 : Option V) (p : Addr) (tvs : List V) (ts : List Tm), σ = [some (.ref d.dr), some (.ref h), some (.ref L), some (.ref p), x4, x5, x6] ∧ SqT K H' p tvs ∧ F2 (TmAt K H') tvs ts ∧ ts.length = i ∧ (∀ x ∈ ts, Fb 7000000 (2 ^ 44) x.a ∧ Sy cs x.w ∧ x.w.length ≤ 10) ∧ Drw H' d (b + 11 - 4 * i) ∧ Kp d H1 H') ⟨none, none, none, e0, [], [], rfl, Kp.tup k1 w10 sqt_upd, .nil, rfl, nofun, w1, Kp.refl _ _⟩ ?_ ?_⟩
    · rintro i σ H2 hi ⟨x4, x5, x6, p, tvs, ts, rfl, tp, ft, lt, ok, w2, k2⟩
      have hi2 : i < 2 := by omega
      have lv := ft.len
      have K2 := K1.trans k2
      refine ⟨_, rfl, _, rfl, _, rfl, d, b + 11 - 4 * i - 1, 8, rfl, by decide, by decide, w2.less (by omega), fun H3 r' r0' r1' w3 k3 => ?_⟩
      obtain ⟨j, rfl⟩ := Int.eq_ofNat_of_zero_le r0'
      have K3 := K2.trans k3
      have T3 : Tk K (tgt s9) H3 := fun _ _ t => Kp.tup k3 w2 (Kp.tup k2 w1 (T1 _ _ t))
      obtain ⟨pa, x, hix, tx', fx⟩ := item T3 j (by omega)
      have hL3 : H3 L = _ := k3 _ _ (k2 _ _ (k1 _ _ (s10 _ _ upd_same) nL1.1 nL1.2) nL1.1 nL1.2) nL1.1 nL1.2
      refine ⟨L, _, (j : Int), .ref pa, rfl, rfl, .inl (.inl hL3), hix, ?_⟩
      have tA3 : SqT K H3 h [.str (tx cs), .ref ra] := Kp.tup K3 hD tA
      refine ⟨_, rfl, _, rfl, h, _, 0, .str (tx cs), rfl, rfl, tA3, rfl, d, b + 11 - 4 * i - 4, cs, rfl, c1, h6, w3.less (by omega), fun H4 pu u tu yu lu w4 k4 => ?_⟩
      refine ⟨by show 2 ≤ sizeLine; decide, fun q1 m1 => ?_⟩
      have z1 := same_upd (o := .tup [.ref pa, .ref pu]) m1
      refine ⟨by show 1 ≤ sizeLine; decide, fun q2 m2 => ?_⟩
      have z2 := same_upd (o := .tup [.ref q1]) m2
      have Z2 := z1.trans z2
      have M : Tk K H2 (tgt z2) := fun _ _ t => Same.tup Z2 (Kp.tup k4 w3 (Kp.tup k3 w2 t))
      refine ⟨p, q2, tvs, _, rfl, rfl, M _ _ tp, sqt_upd, by show tvs.length + 1 ≤ 100000; omega, fun q3 H5 t5 z3 => ?_⟩
      have t5 : SqT K H5 q3 (tvs ++ [.ref q1]) := t5
      refine ⟨_, _, _, q3, tvs ++ [.ref q1], ts ++ [⟨x, u⟩], rfl, t5, (tms_tk ft (fun _ _ t => Same.tup z3 (M _ _ t))).app (.cons ⟨q1, pa, pu, rfl, Same.tup (z2.trans z3) sqt_upd, Same.tup (Z2.trans z3) (Kp.tup k4 w3 tx'), Same.tup (Z2.trans z3) tu⟩ .nil), by rw [List.length_append, lt]; rfl, fun y hy => ?_, (w4.same (Z2.trans z3)).less (by omega), k2.trans (k3.trans (k4.trans (Same.kp (Z2.trans z3))))⟩
      rcases List.mem_append.mp hy with z | z
      · exact ok y z
      · rw [List.mem_singleton.mp z]
        exact ⟨fx, yu, by show u.length ≤ 10; omega⟩
    rintro σ H2 ⟨x4, x5, x6, p, tvs, ts, rfl, tp, ft, lt, ok, w2, k2⟩
    have K2 := K1.trans k2
    have l2 : ts.length ≤ 2 := by omega
    have tA2 : SqT K H2 h [.str (tx cs), .ref ra] := Kp.tup K2 hD tA
    refine ⟨_, rfl, _, rfl, _, rfl, h, _, 0, .str (tx cs), rfl, rfl, tA2, rfl, d, b, cs, rfl, c1, h6, w2.less (by omega), fun H3 pg g tg yg lg w3 k3 => ?_⟩
    refine ⟨by show 2 ≤ sizeLine; decide, fun bt nbt => ?_⟩
    have z1 := same_upd (o := .tup [.ref p, .ref pg]) nbt
    have M : Tk K H2 (tgt z1) := fun _ _ t => Same.tup z1 (Kp.tup k3 w2 t)
    have hB : BtAt K (tgt z1) bt ts g := ⟨p, pg, tvs, sqt_upd, M _ _ tp, tms_tk ft M, Same.tup z1 tg⟩
    have bw := BwOk.of ok l2 yg (show g.length ≤ 10 by omega)
    have w4 := w3.same z1
    have K4 : Kp d H (tgt z1) := K2.trans (k3.trans (Same.kp z1))
    have hH4 := hH.mono fun _ _ t => Kp.tup K4 hD t
    refine ⟨_, rfl, _, rfl, h, bt, cs, rs, ts, g, rfl, hH4, hO, hB, bw.ok, fun H5 pt us tt ft5 s5 => ?_⟩
    have ul := ft5.len
    rw [tabO_len] at ul
    have wl := wor_le (rs := rs) h6
    refine ⟨pt, rfl, ⟨_, tt⟩, fun D nD => ?_⟩
    refine lcp_tup (K := K) (R := FAt K) (IR := PdAt K H5) (tabO cs ts g (wor cs rs)) id (fun _ _ _ _ k h => h.mono k) ft5 nD tt (Nat.lt_of_le_of_lt (show us.length ≤ 64 by omega) (by decide)) ?_ ?_
    · rintro v o H6 pv _ s6 Y N hYes hNo
      refine ⟨rfl, _, rfl, rfl, _, rfl, ?_⟩
      rw [pdAt_notNone pv]
      cases o with
      | none => exact hNo _ (fun _ _ h => h) rfl
      | some x => exact ⟨_, rfl, hYes _ _ x (fun _ _ h => h) rfl (FAt.mono (Same.tk s6) pv)⟩
    intro H6 ys h6' f6 s6
    refine ⟨by decide, fun E nE => ?_⟩
    have s7 := same_upd (o := .lst []) nE
    refine ⟨_, _, .lst (.inl (.inl (s7 _ _ h6'))) ((fas_tk f6 (Same.tk s7)).dp fun _ _ h => h.dp), .lst sql_upd .nil, odats_shaped _, rfl, _, rfl, ?_⟩
    have S7 := s5.trans (s6.trans s7)
    rw [eqv_nil, List.isEmpty_map]
    refine ite2 (fun e => ?_) (fun e => ?_)
    · refine ⟨_, rfl, by show 1 ≤ sizeLine; decide, fun y1 ny1 => ?_⟩
      have u1 := same_upd (o := .tup [.str "yes"]) ny1
      refine ⟨by show 2 ≤ sizeLine; decide, fun y2 ny2 => ?_⟩
      have u2 := same_upd (o := .tup [.ref p, .ref y1]) ny2
      have U := S7.trans (u1.trans u2)
      exact q _ y2 ts [.yes] ⟨p, y1, tvs, sqt_upd, Same.tup U (M _ _ tp), tms_tk (tms_tk ft M) (Same.tk U), Same.tup u2 sqt_upd⟩ (BwOk.of ok l2 Sy.yes (by show 1 ≤ 10; decide)) (somes_yes ts hne) (w4.same U) (K4.trans (Same.kp U))
    · refine ⟨_, rfl, q _ bt ts g (hB.mono (Same.tk S7)) bw ?_ (w4.same S7) (K4.trans (Same.kp S7))⟩
      intro z
      exact e (by rw [show (tabO cs ts g (wor cs rs)).filterMap id = [] from z]; rfl)
end
end B

namespace B
open PySem PySem.Spec PyProof.Rows L2

def sp_done (K : PySem.W.Frag) : Sp := fun vs H Q E => ∃ (s dq : Addr) (nm : Str) (ps : List V), vs = [.ref s, .ref dq] ∧ SqT K H dq (.str nm :: ps) ∧ (nm, (ps.length : Int)) ∈ ([("deal", 5), ("split", 2), ("hand", 4), ("net", 2), ("clear", 1), ("post", 2), ("sell", 4), ("hear", 1)] : List (Str × Int)) ∧ ((nm = "split" ∧ ∀ H' q, SqT K H' q ps → Same H H' → sp_parted K [.ref s, .ref q] H' Q E) ∨ (nm = "net" ∧ ∀ H' q, SqT K H' q ps → Same H H' → sp_netted K [.ref s, .ref q] H' Q E))

section
variable {P : Program} {w : World} {K : PySem.W.Frag} {mg : Str → Option Value} {base : Heap}
theorem ok_done (T : Tx K mg w) (U : Unl P base) : FnOk P w K mg base (L2.CX P w) 40 T.done.f T.done.fd ["stand", "deed"] (sp_done K) := by
  refine T.done.F.okX sc_done (fun vs H Q E h => ?_) (fun cdv A outer s H vs Q E hr h => ?_)
  · obtain ⟨s, dq, nm, ps, rfl, tD, hm, q⟩ := h
    rfl
  · obtain ⟨s, dq, nm, ps, rfl, tD, hm, q⟩ := h
    refine ⟨_, (pss_cons (ps_if (pt_not (pt_val (pe_call (ok_is_deed T U) (hr.mono (by decide)) (by rfl) T.is_deed.g T.is_deed.F.kp T.is_deed.b .nil pass0 (pa_cons (pv 1) pa_nil)))) (pss_one (ps_raise rfl (takes_of rfl rfl rfl rfl) (pmk_none T.x_NoDeed hr (by rfl)))) pss_nil)
      (pss_cons (ps_set (i := 2) sc_done.nd rfl (.inl rfl) (pe_ix ix_kdict (pe_glob (v := .ref T.a_ACTIONS) (by rfl) T.g_ACTIONS rfl) (pe_ix ix_tup (pv 1) pe_int (fun _ _ => rfl)) (fun _ _ => rfl)))
      (pss_one (ps_ret (pe_callV (i := 2) rfl (.inl rfl) (fun σ => passAt (takes_of rfl rfl rfl rfl) σ) (pa_cons (pv 0) (pa_cons (pe_slice sl_tupS (pv 1) (po_some pe_int) po_none) pa_nil))))))), ?_⟩
    have a0 : atI (V.str nm :: ps) 0 = some (.str nm) := atI_nat (show (V.str nm :: ps)[0]? = some (V.str nm) from rfl)
    have D := T.d_ACTIONS.choose_spec.choose_spec
    refine ⟨_, rfl, dq, nm, ps, rfl, tD, hm, _, rfl, iteF ?_⟩
    rcases q with ⟨rfl, q⟩ | ⟨rfl, q⟩
    · obtain ⟨u, e, r⟩ := T.v_ACTIONS ("split", T.parted.f) (by simp)
      refine ⟨_, rfl, dq, _, 0, .str "split", rfl, rfl, tD, a0, T.a_ACTIONS, "split", .ref T.parted.f, rfl, rfl, ⟨_, _, u, D.at_, D.lit, e, r⟩, ?_⟩
      refine ⟨T.parted.f, sp_parted K, rfl, ⟨_, _, _, ok_parted T U, hr.mono (by decide), T.parted.F.kp, T.parted.b⟩, _, rfl, _, rfl, 1, rfl, dq, _, rfl, tD, fun q1 H1 tq s1 => ?_⟩
      have tq : SqT K H1 q1 ps := by
        have := tq
        rw [show (some (1 : Int)) = some ((1 : Nat) : Int) from rfl, cut_drop] at this
        exact this
      exact q H1 q1 tq s1
    · obtain ⟨u, e, r⟩ := T.v_ACTIONS ("net", T.netted.f) (by simp)
      refine ⟨_, rfl, dq, _, 0, .str "net", rfl, rfl, tD, a0, T.a_ACTIONS, "net", .ref T.netted.f, rfl, rfl, ⟨_, _, u, D.at_, D.lit, e, r⟩, ?_⟩
      refine ⟨T.netted.f, sp_netted K, rfl, ⟨_, _, _, ok_netted T U, hr.mono (by decide), T.netted.F.kp, T.netted.b⟩, _, rfl, _, rfl, 1, rfl, dq, _, rfl, tD, fun q1 H1 tq s1 => ?_⟩
      have tq : SqT K H1 q1 ps := by
        have := tq
        rw [show (some (1 : Int)) = some ((1 : Nat) : Int) from rfl, cut_drop] at this
        exact this
      exact q H1 q1 tq s1
end
end B

namespace B
open PySem PySem.Spec PyProof.Rows L2

def sp_l_worths (K : PySem.W.Frag) : Sp := fun vs H Q _ => ∃ (a h P T : Addr) (rest pvs tvs : List V) (cs : List Nat) (rs : List (List Wd)) (ps : List (Int × Nat)) (tks : List Tkt) (D M : Nat), vs = [.ref a] ∧ SqT K H a (.ref h :: .ref P :: .ref T :: rest) ∧ HsAt K H h cs rs ∧ HsOk cs rs ∧ SqT K H P pvs ∧ F2 (FAt K H) pvs ps ∧ ps.length ≤ 100 ∧ SqT K H T tvs ∧ F2 (TkAt K H) tvs tks ∧ (∀ t ∈ tks, TkOk cs t ∧ t.l < ps.length ∧ t.s < ps.length) ∧ (∀ bs ∈ wor cs rs, WzOk D M (vl cs bs) ps tks) ∧ ∀ (H' : Hp) (L : Addr), Grid K H H' L ps.length (wor cs rs).length (fun i j => oneF (vl cs ((wor cs rs).getD j [])) i (ps.getD i (0, 1)) tks) → Same H H' → Q (.ref L) H'

section
variable {P : Program} {w : World} {K : PySem.W.Frag} {mg : Str → Option Value} {base : Heap}
theorem ok_l_worths (T : Tx K mg w) (U : Unl P base) : FnOk P w K mg base CX0 40 T.l_worths.f T.l_worths.fd ["_law_stand"] (sp_l_worths K) := by
  refine T.l_worths.F.ok sc_l_worths (fun vs H Q E h => ?_) (fun cdv A outer s H vs Q E hr h => ?_)
  · obtain ⟨a, h, P, T', rest, pvs, tvs, cs, rs, ps, tks, D, M, rfl, tS, hH, hO, tP, fP, hl, tT, fT, hK, hZ, q⟩ := h
    rfl
  · obtain ⟨a, h, P, T', rest, pvs, tvs, cs, rs, ps, tks, D, M, rfl, tS, hH, hO, tP, fP, hl, tT, fT, hK, hZ, q⟩ := h
    refine ⟨_, (pss_cons (ps_setLc (i := 2) (own := [("_law_purse", 1)]) (g := gName 1) (tt := tYes) rfl sc_l_worths.nd rfl rfl (sw_true rfl rfl rfl (by decide +kernel)) (pi_tup (pe_ix ix_tup (pv 0) pe_int (fun _ _ => rfl))) (blkOk_by (own := [("_law_purse", 1)]) (N := N_l_worths) (sc := defScope s_l_worths) (by decide +kernel)) (fun _ _ _ _ _ => (pg_name (i := 1) sc_l_worths.nd rfl (.inl rfl))) (fun _ _ _ _ _ => pts_nil) (fun _ _ _ _ _ => (pe_op op_rep (pe_lst (pa_cons (pv 1) pa_nil)) (pe_callB (id := "len") (r := fun xs H Q => ∃ p ys, xs = [.ref p] ∧ (SqL K H p ys ∨ SqT K H p ys) ∧ Q (.int ys.length) H) call_len_seq (by rfl) T.m_len (by decide +kernel) (pa_cons (pe_call (ok_l_worlds T U) (hr.mono (by decide)) (by rfl) T.l_worlds.g T.l_worlds.F.kp T.l_worlds.b .nil pass0 (pa_cons (pe_ix (r := rIxT K) ix_tup (pv 0) pe_int (fun _ _ => rfl)) pa_nil)) pa_nil)))))
      (pss_cons (ps_for PassesOwn.never rfl (pi_tup (pe_ix ix_tup (pv 0) pe_int (fun _ _ => rfl))) (pg_name (i := 3) sc_l_worths.nd rfl (.inl rfl))
      (pss_one (ps_for PassesOwn.never rfl (pi_enumG (by rfl) T.m_enumerate (pa_cons (pe_call (ok_l_brings T U) (hr.mono (by decide)) (by rfl) T.l_brings.g T.l_brings.F.kp T.l_brings.b .nil pass0 (pa_cons (pe_ix ix_tup (pv 0) pe_int (fun _ _ => rfl)) (pa_cons (pv 3) pa_nil))) pa_nil)) (pg_tup rfl (pgs_cons (pg_name (i := 4) sc_l_worths.nd rfl (.inl rfl)) (pgs_cons (pg_name (i := 5) sc_l_worths.nd rfl (.inl rfl)) pgs_nil)))
      (pss_cons (ps_asg (pe_call (ok_l_plus T U) (hr.mono (by decide)) (by rfl) T.l_plus.g T.l_plus.F.kp T.l_plus.b .nil pass0 (pa_cons (pe_ix ix_list (pe_ix ix_list (pv 2) (pe_ix ix_tup (pv 3) pe_int (fun _ _ => rfl)) (fun _ _ => rfl)) (pv 4) (fun _ _ => rfl)) (pa_cons (pv 5) pa_nil))) (pg_sub (pe_ix ix_list (pv 2) (pe_ix ix_tup (pv 3) pe_int (fun _ _ => rfl)) (fun _ _ => rfl)) (pv 4) set_list))
      (pss_one (ps_asg (pe_call (ok_l_plus T U) (hr.mono (by decide)) (by rfl) T.l_plus.g T.l_plus.F.kp T.l_plus.b .nil pass0 (pa_cons (pe_ix ix_list (pe_ix ix_list (pv 2) (pe_ix ix_tup (pv 3) pe_int (fun _ _ => rfl)) (fun _ _ => rfl)) (pv 4) (fun _ _ => rfl)) (pa_cons (pe_call (ok_l_turned T U) (hr.mono (by decide)) (by rfl) T.l_turned.g T.l_turned.F.kp T.l_turned.b .nil pass0 (pa_cons (pv 5) pa_nil)) pa_nil))) (pg_sub (pe_ix ix_list (pv 2) (pe_ix ix_tup (pv 3) pe_int (fun _ _ => rfl)) (fun _ _ => rfl)) (pv 4) set_list)))))))
      (pss_one (ps_ret (pv 2))))), ?_⟩
    obtain ⟨ra, rvs, tA, tR, fR⟩ := id hH
    have h6 := hO.c6
    have wle := wor_le (rs := rs) h6
    have lp := fP.len
    have lt := fT.len
    have fewr := hO.few
    refine ⟨_, rfl, a, _, 1, .ref P, rfl, rfl, tS, atI_nat (j := 1) rfl, P, rfl, ⟨_, tP⟩, fun L nL => ?_⟩
    refine lc_tup (K := K) (a := P) (xs := pvs) (fun j H' => Grid K H H' L j (wor cs rs).length (fun i _ => ps.getD i (0, 1)) ∧ Same H H') ⟨⟨[], rfl, .nil, nofun, nL, nofun, upd_same, nofun⟩, same_upd nL⟩ (fun j H' _ ⟨_, e⟩ => Same.tup e tP) ?_ ?_
    · rintro j x H2 hx ⟨g, s2⟩
      obtain ⟨p, hp, f, rfl, tf⟩ := (fas_tk fP (Same.tk s2)).getA hx
      refine ⟨rfl, lc_yes ?_⟩
      refine ⟨_, rfl, by show 1 ≤ sizeLine; decide, fun l1 n1 => ?_⟩
      have s3 := same_upd (o := .lst [.ref f]) n1
      have S3 := s2.trans s3
      refine ⟨_, rfl, a, _, 0, .ref h, rfl, rfl, Same.tup S3 tS, atI_nat (j := 0) rfl, h, ra, cs, rvs, rs, rfl, Same.tup S3 tA, Same.tup S3 tR, fR.mono fun _ _ t => Same.tup S3 t, (fun r hr => ⟨(hO.sy r hr).1, by have := (hO.sy r hr).2; omega⟩), by omega, h6, hO.sm, fun H4 pw tw s4 => ?_⟩
      have S4 := S3.trans s4
      refine ⟨pw, _, rfl, .inr tw, ?_⟩
      rw [wvs_len]
      refine ⟨l1, ((wor cs rs).length : Int), _, rfl, rfl, s4 _ _ upd_same, by omega, by omega, by rw [Int.toNat_natCast]; exact Nat.le_trans (show 1 * (wor cs rs).length ≤ 64 by omega) (by decide), fun l2 n2 => ?_⟩
      rw [Int.toNat_natCast, flat_rep]
      have s5 := same_upd (o := .lst (List.replicate (wor cs rs).length (.ref f))) n2
      have S5 := S4.trans s5
      have s25 := s3.trans (s4.trans s5)
      obtain ⟨as, h1, h2, h3, h4, h5, h7, h8⟩ := g.same s25
      have n2' : H l2 = none := by
        cases e : H l2 with
        | none => rfl
        | some o => rw [S4 _ _ e] at n2; cases n2
      have nL2 : L ≠ l2 := fun e => by
        obtain ⟨_, _, _, _, _, _, q7, _⟩ := g
        rw [← e, (s3.trans s4) _ _ q7] at n2
        cases n2
      have nas : l2 ∉ as := fun hm => by
        obtain ⟨as', q1, q2, q3, q4, q5, q7, q8⟩ := g
        have e7 := s25 _ _ q7
        rw [h7] at e7
        injection e7 with e7
        injection e7 with e7
        have : as = as' := by
          have inj : ∀ {x y : List Addr}, x.map V.ref = y.map V.ref → x = y := by
            intro x
            induction x with
            | nil => intro y e; cases y with | nil => rfl | cons _ _ => cases e
            | cons a r ih => intro y e; cases y with | nil => cases e | cons b z => injection e with e1 e2; injection e1 with e1; rw [e1, ih e2]
          exact inj e7
        subst this
        obtain ⟨i, hi⟩ := List.getElem?_of_mem hm
        obtain ⟨us, k1, _⟩ := q8 i l2 hi
        rw [(s3.trans s4) _ _ k1] at n2
        cases n2
      have U := fun p xs t' => tup_upd (K := K) (a := p) (ys := xs) (zs := as.map V.ref ++ [.ref l2]) h7 t'
      refine ⟨_, h7, ?_, ?_, same_mut nL S5⟩
      · have hj := (List.getElem?_eq_some_iff.mp hp).1
        rw [List.length_map, h1]
        exact Nat.lt_of_lt_of_le (show j < 100 by omega) (by decide)
      · refine ⟨as ++ [l2], by rw [List.length_append, h1]; rfl, ?_, ?_, nL, ?_, by rw [upd_same, List.map_append]; rfl, fun i b hb => ?_⟩
        · exact List.pairwise_append.mpr ⟨h2, List.pairwise_singleton _ _, fun x hx y hy e => by rw [List.mem_singleton] at hy; rw [e, hy] at hx; exact nas hx⟩
        · intro hm
          rcases List.mem_append.mp hm with z | z
          · exact h3 z
          · exact nL2 (List.mem_singleton.mp z)
        · intro b hb
          rcases List.mem_append.mp hb with z | z
          · exact h5 b z
          · rw [List.mem_singleton.mp z]; exact n2'
        · by_cases hi : i < as.length
          · rw [List.getElem?_append_left hi] at hb
            obtain ⟨us, k1, k2, k3⟩ := h8 i b hb
            refine ⟨us, (upd_ne (show b ≠ L from fun e => h3 (e ▸ List.mem_of_getElem? hb))).trans k1, k2, fun j' u hu => (k3 j' u hu).mono U⟩
          · rw [List.getElem?_append_right (by omega)] at hb
            have hi2 := (List.getElem?_eq_some_iff.mp hb).1
            have hi3 : i = j := by
              have : i - as.length < 1 := hi2
              omega
            rw [show i - as.length = 0 by omega] at hb
            cases hb
            refine ⟨List.replicate (wor cs rs).length (.ref f), by rw [upd_ne nL2.symm]; exact upd_same, by rw [List.length_replicate], fun j' u hu => ?_⟩
            have := List.eq_of_mem_replicate (List.mem_of_getElem? hu)
            rw [this, hi3, List.getD_eq_getElem?_getD, hp]
            exact ⟨f, rfl, U _ _ (Same.tup s25 tf)⟩
    rintro H1 ⟨g1, s1⟩
    rw [lp] at g1
    have fbp : ∀ {bs : List Bool}, bs ∈ wor cs rs → ∀ (i : Nat), i < ps.length → Fb D M (ps.getD i (0, 1)) := fun hb i hi => by
      rw [List.getD_eq_getElem?_getD, List.getElem?_eq_getElem hi]
      exact (hZ _ hb).p _ (List.getElem_mem hi)
    refine ⟨_, rfl, a, _, 2, .ref T', rfl, rfl, Same.tup s1 tS, atI_nat (j := 2) rfl, T', rfl, ⟨_, Same.tup s1 tT⟩, for_it (walk_tup (K := K) (a := T') (xs := tvs)) (fun k σ H' => ∃ (x1 x3 x4 x5 : Option V), σ = [some (.ref a), x1, some (.ref L), x3, x4, x5] ∧ Grid K H H' L ps.length (wor cs rs).length (fun i j => oneF (vl cs ((wor cs rs).getD j [])) i (ps.getD i (0, 1)) (tks.take k)) ∧ Same H H') ⟨none, none, none, none, rfl, g1.congr (fun i j _ _ => rfl), s1⟩ (fun i σ H' _ ⟨_, _, _, _, _, _, e⟩ => Same.tup e tT) ?_ ?_⟩
    · rintro k x σ H2 _ hk ⟨x1, x3, x4, x5, rfl, g2, s2⟩ ⟨rfl, hx⟩
      obtain ⟨t, ht, hT⟩ := (tks_tk fT (Same.tk s2)).getA hx
      obtain ⟨okt, o1, o2⟩ := hK t (List.mem_of_getElem? ht)
      obtain ⟨tq, b, c, e, rfl, t1, t2, t3, t4⟩ := id hT
      refine ⟨_, rfl, a, _, 0, .ref h, rfl, rfl, Same.tup s2 tS, atI_nat (j := 0) rfl, _, rfl, h, _, cs, rs, t, rfl, hH.same s2, hO, hT, okt, fun H3 B us hB fB nB s3 => ?_⟩
      have S3 := s2.trans s3
      have g3 := g2.same s3
      have lb := fB.len
      rw [List.length_map] at lb
      have t1' := Same.tup s3 t1
      obtain ⟨rows0, hr0, hB0⟩ : ∃ rows0, H3 L = some (.lst rows0) ∧ V.ref B ∉ rows0 := by
        obtain ⟨as, _, _, _, _, _, q6, q7⟩ := id g2
        refine ⟨as.map V.ref, s3 _ _ q6, fun hm => ?_⟩
        obtain ⟨y, hy, e⟩ := List.mem_map.mp hm
        injection e with e
        subst e
        obtain ⟨i, hi⟩ := List.getElem?_of_mem hy
        obtain ⟨us', k1, _⟩ := q7 i y hi
        rw [k1] at nB
        cases nB
      refine ⟨.l, .ref B, _, rfl, ⟨B, rfl, .inl (.inl hB)⟩, for_it (walk_enumG (K := K) (xs := us)) (fun m σ H' => ∃ (x4 x5 : Option V), σ = [some (.ref a), x1, some (.ref L), some (.ref tq), x4, x5] ∧ Grid K H H' L ps.length (wor cs rs).length (fun i j => oneF (vl cs ((wor cs rs).getD j [])) i (ps.getD i (0, 1)) (tks.take (if j < m then k + 1 else k))) ∧ H' B = some (.lst us) ∧ H' L = some (.lst rows0) ∧ F2 (FAt K H') us ((wor cs rs).map fun bs => brF (vl cs bs) t) ∧ SqT K H' tq [.int t.n, .int t.l, .int t.s, .ref b, .ref c, .ref e] ∧ Same H H') ⟨_, _, rfl, g3.congr (fun i j _ _ => by rw [if_neg (Nat.not_lt_zero _)]), hB, hr0, fB, t1', S3⟩ (fun m σ H' _ ⟨_, _, _, _, z, _⟩ => ⟨B, rfl, .inl (.inl z)⟩) ?_ ?_⟩
      · rintro m v σ H4 _ hm ⟨x4, x5, rfl, g4, hB4, hr4, fB4, tq4, s4⟩ ⟨T2, y, rfl, nT, rfl, hy⟩
        have sT := same_upd (o := .tup [.int (m : Nat), y]) nT
        have S4 := s4.trans sT
        obtain ⟨bv, hbv, g, rfl, tg⟩ := (fas_tk fB4 (Same.tk sT)).getA hy
        rw [List.getElem?_map] at hbv
        cases hbs : (wor cs rs)[m]? with
        | none => rw [hbs] at hbv; cases hbv
        | some bs =>
        rw [hbs] at hbv
        cases hbv
        have hmw := (List.getElem?_eq_some_iff.mp hbs).1
        have hbm := List.mem_of_getElem? hbs
        have eD : (wor cs rs).getD m [] = bs := by rw [List.getD_eq_getElem?_getD, hbs]; rfl
        have Z := hZ bs hbm
        have ob := okt.br (vl cs bs)
        have g5 := g4.same sT
        have tq5 := Same.tup sT tq4
        have hB5 := sT _ _ hB4
        have hr5 := sT _ _ hr4
        have fB5 := fas_tk fB4 (Same.tk sT)
        refine ⟨T2, _, rfl, sqt_upd, rfl, _, _, rfl, _, _, rfl, rfl, ?_⟩
        obtain ⟨rows, r1, ru, rc, k1, k2, k3, k4, k5, k6, k7, k8, k9, k10⟩ := g5.get (i := t.l) (j := m) o1 hmw
        rw [eD, if_neg (Nat.lt_irrefl m)] at k7
        obtain ⟨z1, z2⟩ := Z.step ht (i := t.l) (fbp hbm t.l o1)
        refine ⟨_, rfl, _, rfl, tq, _, 1, .int t.l, rfl, rfl, tq5, rfl, L, rows, (t.l : Int), .ref r1, rfl, rfl, .inl (.inl k1), atI_nat k3, _, rfl, r1, ru, (m : Int), .ref rc, rfl, rfl, .inl (.inl k4), atI_nat k6, _, rfl, rc, g, _, _, _, _, rfl, k7, tg, z1.f, ob.f, (z1.up (by decide)).z, (ob.up (by decide)).z, fun w nw => ?_⟩
        have s6 := same_upd (o := .tup [.int (addF (oneF (vl cs bs) t.l (ps.getD t.l (0, 1)) (tks.take k)) (brF (vl cs bs) t)).1, .int (addF (oneF (vl cs bs) t.l (ps.getD t.l (0, 1)) (tks.take k)) (brF (vl cs bs) t)).2]) nw
        have g6 := g5.same s6
        obtain ⟨rows', r1', ru', rc', j1, j2, j3, j4, j5, j6, j7, j8, j9, j10⟩ := g6.get (i := t.l) (j := m) o1 hmw
        refine ⟨_, rfl, _, rfl, tq, _, 1, .int t.l, rfl, rfl, Same.tup s6 tq5, rfl, L, rows', (t.l : Int), .ref r1', rfl, rfl, .inl (.inl j1), atI_nat j3, _, rfl, r1', ru', (m : Int), m, rfl, rfl, j4, ixn (by omega), ?_⟩
        obtain ⟨g7, U7⟩ := j8 w (addF (oneF (vl cs bs) t.l (ps.getD t.l (0, 1)) (tks.take k)) (brF (vl cs bs) t)) sqt_upd
        have e1 : rows' = rows0 := by
          have := (s6 _ _ hr5).symm.trans j1
          injection this with this
          injection this with this
          exact this.symm
        have nrB : B ≠ r1' := fun e => hB0 (by rw [e, ← e1]; exact List.mem_of_getElem? j3)
        have hB7 := (upd_ne (H := tgt s6) (o := .lst (ru'.set m (.ref w))) nrB).trans (s6 _ _ hB5)
        have hr7 := (upd_ne (H := tgt s6) (o := .lst (ru'.set m (.ref w))) j10.symm).trans (s6 _ _ hr5)
        have fB7 := fas_tk (fas_tk fB5 (Same.tk s6)) U7
        have tq7 := U7 _ _ (Same.tup s6 tq5)
        have tg7 := U7 _ _ (Same.tup s6 tg)
        have S7 := same_mut (o := .lst (ru'.set m (.ref w))) j9 (S4.trans s6)
        -- the short one
        obtain ⟨rows2, r2, ru2, rc2, l1, l2, l3, l4, l5, l6, l7, l8, l9, l10⟩ := g7.get (i := t.s) (j := m) o2 hmw
        have eX : (if t.s = t.l ∧ m = m then addF (oneF (vl cs bs) t.l (ps.getD t.l (0, 1)) (tks.take k)) (brF (vl cs bs) t) else oneF (vl cs ((wor cs rs).getD m [])) t.s (ps.getD t.s (0, 1)) (tks.take (if m < m then k + 1 else k))) = (if t.l = t.s then addF (oneF (vl cs bs) t.s (ps.getD t.s (0, 1)) (tks.take k)) (brF (vl cs bs) t) else oneF (vl cs bs) t.s (ps.getD t.s (0, 1)) (tks.take k)) := by
          rw [eD, if_neg (Nat.lt_irrefl m)]
          by_cases z : t.s = t.l
          · rw [if_pos ⟨z, rfl⟩, if_pos z.symm, z]
          · rw [if_neg (fun y => z y.1), if_neg (fun y => z y.symm)]
        rw [eX] at l7
        obtain ⟨z3, z4⟩ := Z.step ht (i := t.s) (fbp hbm t.s o2)
        have oX : Fok 2000 (if t.l = t.s then addF (oneF (vl cs bs) t.s (ps.getD t.s (0, 1)) (tks.take k)) (brF (vl cs bs) t) else oneF (vl cs bs) t.s (ps.getD t.s (0, 1)) (tks.take k)) := by
          split
          · exact z4
          · exact z3
        generalize eXX : (if t.l = t.s then addF (oneF (vl cs bs) t.s (ps.getD t.s (0, 1)) (tks.take k)) (brF (vl cs bs) t) else oneF (vl cs bs) t.s (ps.getD t.s (0, 1)) (tks.take k)) = X at *
        refine ⟨_, rfl, _, rfl, tq, _, 2, .int t.s, rfl, rfl, tq7, rfl, L, rows2, (t.s : Int), .ref r2, rfl, rfl, .inl (.inl l1), atI_nat l3, _, rfl, r2, ru2, (m : Int), .ref rc2, rfl, rfl, .inl (.inl l4), atI_nat l6, _, rfl, g, _, rfl, tg7, fun H8 ng tn _ s8 => ?_⟩
        refine ⟨rc2, ng, _, _, _, _, rfl, Same.tup s8 l7, tn, oX.f, ob.neg.f, (oX.up (by decide)).z, (ob.neg.up (by decide)).z, fun w2 nw2 => ?_⟩
        have s9 := same_upd (o := .tup [.int (addF X (negF (brF (vl cs bs) t))).1, .int (addF X (negF (brF (vl cs bs) t))).2]) nw2
        have S89 := s8.trans s9
        have g9 := g7.same S89
        obtain ⟨rows3, r3, ru3, rc3, p1, p2, p3, p4, p5, p6, p7, p8, p9, p10⟩ := g9.get (i := t.s) (j := m) o2 hmw
        refine ⟨_, rfl, _, rfl, tq, _, 2, .int t.s, rfl, rfl, Same.tup S89 tq7, rfl, L, rows3, (t.s : Int), .ref r3, rfl, rfl, .inl (.inl p1), atI_nat p3, _, rfl, r3, ru3, (m : Int), m, rfl, rfl, p4, ixn (by omega), ?_⟩
        obtain ⟨gA, UA⟩ := p8 w2 (addF X (negF (brF (vl cs bs) t))) sqt_upd
        have e2 : rows3 = rows0 := by
          have := (S89 _ _ hr7).symm.trans p1
          injection this with this
          injection this with this
          exact this.symm
        have nrB2 : B ≠ r3 := fun e => hB0 (by rw [e, ← e2]; exact List.mem_of_getElem? p3)
        refine ⟨_, _, rfl, gA.congr fun i j hi hj => ?_, (upd_ne nrB2).trans (S89 _ _ hB7), (upd_ne p10.symm).trans (S89 _ _ hr7), fas_tk (fas_tk fB7 (Same.tk S89)) UA, UA _ _ (Same.tup S89 tq7), same_mut p9 (S7.trans S89)⟩
        by_cases ej : j = m
        · subst ej
          rw [eD, if_pos (Nat.lt_succ_self j), one_take _ _ _ ht, if_neg (Nat.lt_irrefl j)]
          by_cases es : i = t.s
          · rw [if_pos (show i = t.s ∧ j = j from ⟨es, rfl⟩), if_pos (show t.s = i from es.symm), ← eXX, es]
          · rw [if_neg (show ¬ (i = t.s ∧ j = j) from fun y => es y.1), if_neg (show ¬ t.s = i from fun y => es y.symm)]
            by_cases el : i = t.l
            · rw [if_pos (show i = t.l ∧ j = j from ⟨el, rfl⟩), if_pos (show t.l = i from el.symm), el]
            · rw [if_neg (show ¬ (i = t.l ∧ j = j) from fun y => el y.1), if_neg (show ¬ t.l = i from fun y => el y.symm)]
        · rw [if_neg (show ¬ (i = t.s ∧ j = m) from fun y => ej y.2), if_neg (show ¬ (i = t.l ∧ j = m) from fun y => ej y.2)]
          by_cases hjm : j < m
          · rw [if_pos hjm, if_pos (Nat.lt_succ_of_lt hjm)]
          · rw [if_neg hjm, if_neg (by omega)]
      · rintro σ H4 ⟨x4, x5, rfl, g4, hB4, hr4, fB4, tq4, s4⟩
        rw [lb] at g4
        exact ⟨x1, _, _, _, rfl, g4.congr (fun i j _ hj => by rw [if_pos hj]), s4⟩
    · rintro σ H2 ⟨x1, x3, x4, x5, rfl, g2, s2⟩
      rw [lt, List.take_length] at g2
      exact ⟨_, rfl, q _ L g2 s2⟩
end
end B

namespace B
open PySem PySem.Spec PyProof.Rows L2

def sp_l_offers (K : PySem.W.Frag) : Sp := fun vs H Q _ => ∃ (d : Dr) (b m : Nat) (h : Addr) (cs : List Nat) (rs : List (List Wd)), vs = [.ref d.dr, .ref h, .int m] ∧ m ≤ 100 ∧ HsAt K H h cs rs ∧ HsOk cs rs ∧ 1 ≤ cs.length ∧ wor cs rs ≠ [] ∧ Drw H d (b + 14 * m) ∧ ∀ (H' : Hp) (v : V) (bds : List Bd), BsAt K H' v bds → bds.length = m → (∀ x ∈ bds, BwOk cs x.ts x.g ∧ Fb 42000000 (2 ^ 46) x.p ∧ somes (tabO cs x.ts x.g (wor cs rs)) ≠ []) → Drw H' d b → Kp d H H' → Q v H'

section
variable {P : Program} {w : World} {K : PySem.W.Frag} {mg : Str → Option Value} {base : Heap}
theorem ok_l_offers (T : Tx K mg w) (U : Unl P base) : FnOk P w K mg base CX0 40 T.l_offers.f T.l_offers.fd ["_law_drawn", "_law_house", "_law_many"] (sp_l_offers K) := by
  refine T.l_offers.F.ok sc_l_offers (fun vs H Q E h => ?_) (fun cdv A outer s H vs Q E hr h => ?_)
  · obtain ⟨d, b, m, h, cs, rs, rfl, m100, hH, hO, c1, hne, hD, q⟩ := h
    rfl
  · obtain ⟨d, b, m, h, cs, rs, rfl, m100, hH, hO, c1, hne, hD, q⟩ := h
    refine ⟨_, (pss_cons (ps_set (i := 3) sc_l_offers.nd rfl (.inl rfl) (pe_tup pa_nil))
      (pss_cons (ps_for PassesOwn.never rfl (pi_range1 (by rfl) T.m_range (pa_cons (pv 2) pa_nil)) (pg_name (i := 4) sc_l_offers.nd rfl (.inl rfl))
      (pss_cons (ps_set (i := 5) sc_l_offers.nd rfl (.inl rfl) (pe_call (ok_l_wager T U) (hr.mono (by decide)) (by rfl) T.l_wager.g T.l_wager.F.kp T.l_wager.b .nil pass0 (pa_cons (pv 0) (pa_cons (pv 1) pa_nil))))
      (pss_one (ps_set (i := 3) sc_l_offers.nd rfl (.inl rfl) (pe_op op_catS (pv 3) (pe_tup (pa_cons (pe_tup (pa_cons (pv 5) (pa_cons (pe_call (ok_l_cost T U) (hr.mono (by decide)) (by rfl) T.l_cost.g T.l_cost.F.kp T.l_cost.b .nil pass0 (pa_cons (pv 0) (pa_cons (pe_call (ok_l_table T U) (hr.mono (by decide)) (by rfl) T.l_table.g T.l_table.F.kp T.l_table.b .nil pass0 (pa_cons (pv 1) (pa_cons (pv 5) pa_nil))) pa_nil))) pa_nil))) pa_nil)))))))
      (pss_one (ps_ret (pv 3))))), ?_⟩
    have wl := wor_le (rs := rs) hO.c6
    refine ⟨by show 0 ≤ sizeLine; decide, fun e0 ne0 => ?_⟩
    have s0 := same_upd (o := .tup []) ne0
    refine ⟨_, rfl, (m : Int), rfl, by omega, by omega, for_range (lo := 0) (n := ((m : Nat) : Int).toNat) (fun i σ H' => ∃ (x4 x5 : Option V) (p : Addr) (bvs : List V) (bds : List Bd), σ = [some (.ref d.dr), some (.ref h), some (.int m), some (.ref p), x4, x5] ∧ SqT K H' p bvs ∧ F2 (BdAt K H') bvs bds ∧ bds.length = i ∧ (∀ x ∈ bds, BwOk cs x.ts x.g ∧ Fb 42000000 (2 ^ 46) x.p ∧ somes (tabO cs x.ts x.g (wor cs rs)) ≠ []) ∧ Drw H' d (b + 14 * m - 14 * i) ∧ Kp d H H') ⟨none, none, e0, [], [], rfl, sqt_upd, .nil, rfl, nofun, hD.same s0, Same.kp s0⟩ ?_ ?_⟩
    · rintro i σ H1 hi ⟨x4, x5, p, bvs, bds, rfl, tp, fp, hl, ok, w1, k1⟩
      rw [Int.toNat_natCast] at hi
      have lv := fp.len
      have hH1 := hH.mono fun _ _ t => Kp.tup k1 hD t
      refine ⟨_, rfl, _, rfl, d, b + 14 * m - 14 * i - 12, h, cs, rs, rfl, hH1, hO, c1, hne, w1.less (by omega), fun H2 bt ts g hB bw lv' w2 k2 => ?_⟩
      have hH2 := hH1.mono fun _ _ t => Kp.tup k2 w1 t
      refine ⟨_, rfl, _, rfl, _, rfl, _, rfl, _, rfl, h, bt, cs, rs, ts, g, rfl, hH2, hO, hB, bw.ok, fun H4 pt us tt ft s4 => ?_⟩
      refine ⟨d, b + 14 * m - 14 * i - 14, pt, us, _, rfl, tt, ft, by rw [tabO_len]; exact wl, lv', ?_, (w2.same s4).less (by omega), fun H5 pr x tx' fx w5 k5 => ?_⟩
      · intro x hx
        obtain ⟨o, ho, e⟩ := List.mem_filterMap.mp hx
        obtain ⟨bs, _, rfl⟩ := List.mem_map.mp ho
        have e : payO (vl cs bs) ts g = some x := e
        rw [payO_some e]
        exact bw.pay _
      have T25 : Tk K H2 H5 := fun _ _ t => Kp.tup k5 (w2.same s4) (Same.tup s4 t)
      have T15 : Tk K H1 H5 := fun _ _ t => T25 _ _ (Kp.tup k2 w1 t)
      refine ⟨by show 2 ≤ sizeLine; decide, fun q1 n1 => ?_⟩
      have u1 := same_upd (o := .tup [.ref bt, .ref pr]) n1
      refine ⟨by show 1 ≤ sizeLine; decide, fun q2 n2 => ?_⟩
      have u2 := same_upd (o := .tup [.ref q1]) n2
      have U2 := u1.trans u2
      refine ⟨p, q2, bvs, _, rfl, rfl, Same.tup U2 (T15 _ _ tp), sqt_upd, by show bvs.length + 1 ≤ 100000; omega, fun q3 H6 t6 u3 => ?_⟩
      have t6 : SqT K H6 q3 (bvs ++ [.ref q1]) := t6
      have U3 := U2.trans u3
      refine ⟨_, _, q3, _, bds ++ [⟨ts, g, x⟩], rfl, t6, (bds_tk (bds_tk fp T15) (Same.tk U3)).app (.cons ⟨q1, bt, pr, rfl, Same.tup (u2.trans u3) sqt_upd, hB.mono fun _ _ t => Same.tup U3 (T25 _ _ t), Same.tup U3 tx'⟩ .nil), by rw [List.length_append, hl]; rfl, fun y hy => ?_, (w5.same U3).less (by omega), k1.trans (k2.trans ((Same.kp s4).trans (k5.trans (Same.kp U3))))⟩
      rcases List.mem_append.mp hy with z | z
      · exact ok y z
      · rw [List.mem_singleton.mp z]
        exact ⟨bw, fx, lv'⟩
    · rintro σ H1 ⟨x4, x5, p, bvs, bds, rfl, tp, fp, hl, ok, w1, k1⟩
      rw [Int.toNat_natCast] at hl w1
      exact ⟨_, rfl, q _ (.ref p) bds ⟨p, bvs, rfl, tp, fp⟩ hl ok (w1.less (by omega)) k1⟩
end
end B

namespace B
open PySem PySem.Spec PyProof.Rows L2

def sp_l_ticket (K : PySem.W.Frag) : Sp := fun vs H Q _ => ∃ (d : Dr) (b n m : Nat) (h : Addr) (cs : List Nat) (rs : List (List Wd)), vs = [.ref d.dr, .ref h, .int n, .int m] ∧ 2 ≤ n ∧ n ≤ 6 ∧ HsAt K H h cs rs ∧ HsOk cs rs ∧ 1 ≤ cs.length ∧ wor cs rs ≠ [] ∧ Drw H d (b + 18) ∧ ∀ (H' : Hp) (v : V) (t : Tkt), TkAt K H' v t → TkW cs t → t.n = m → t.l < n → t.s < n → t.l ≠ t.s → somes (tabO cs t.b.ts t.b.g (wor cs rs)) ≠ [] → Drw H' d b → Kp d H H' → Q v H'

section
variable {P : Program} {w : World} {K : PySem.W.Frag} {mg : Str → Option Value} {base : Heap}
theorem ok_l_ticket (T : Tx K mg w) (U : Unl P base) : FnOk P w K mg base CX0 40 T.l_ticket.f T.l_ticket.fd ["_law_drawn", "_law_house", "_law_holders", "_law_number"] (sp_l_ticket K) := by
  refine T.l_ticket.F.ok sc_l_ticket (fun vs H Q E h => ?_) (fun cdv A outer s H vs Q E hr h => ?_)
  · obtain ⟨d, b, n, m, h, cs, rs, rfl, n2, n6, hH, hO, c1, hne, hD, q⟩ := h
    rfl
  · obtain ⟨d, b, n, m, h, cs, rs, rfl, n2, n6, hH, hO, c1, hne, hD, q⟩ := h
    refine ⟨_, (pss_cons (ps_set (i := 4) sc_l_ticket.nd rfl (.inl rfl) (pe_call (ok_l_next T U) (hr.mono (by decide)) (by rfl) T.l_next.g T.l_next.F.kp T.l_next.b .nil pass0 (pa_cons (pv 0) (pa_cons (pv 2) pa_nil))))
      (pss_cons (ps_set (i := 5) sc_l_ticket.nd rfl (.inl rfl) (pe_op op_mod (pe_op op_add (pe_op op_add (pv 4) pe_int) (pe_call (ok_l_next T U) (hr.mono (by decide)) (by rfl) T.l_next.g T.l_next.F.kp T.l_next.b .nil pass0 (pa_cons (pv 0) (pa_cons (pe_op op_sub (pv 2) pe_int) pa_nil)))) (pv 2)))
      (pss_cons (ps_set (i := 6) sc_l_ticket.nd rfl (.inl rfl) (pe_call (ok_l_wager T U) (hr.mono (by decide)) (by rfl) T.l_wager.g T.l_wager.F.kp T.l_wager.b .nil pass0 (pa_cons (pv 0) (pa_cons (pv 1) pa_nil))))
      (pss_one (ps_ret (pe_tup (pa_cons (pv 3) (pa_cons (pv 4) (pa_cons (pv 5) (pa_cons (pv 6) (pa_cons (pe_call (ok_l_cost T U) (hr.mono (by decide)) (by rfl) T.l_cost.g T.l_cost.F.kp T.l_cost.b .nil pass0 (pa_cons (pv 0) (pa_cons (pe_call (ok_l_table T U) (hr.mono (by decide)) (by rfl) T.l_table.g T.l_table.F.kp T.l_table.b .nil pass0 (pa_cons (pv 1) (pa_cons (pv 6) pa_nil))) pa_nil))) (pa_cons (pe_call (ok_l_stake T U) (hr.mono (by decide)) (by rfl) T.l_stake.g T.l_stake.F.kp T.l_stake.b .nil pass0 (pa_cons (pv 0) pa_nil)) pa_nil)))))))))))), ?_⟩
    have wl := wor_le (rs := rs) hO.c6
    refine ⟨_, rfl, _, rfl, d, b + 17, (n : Int), rfl, by omega, by omega, hD, fun H1 r r0 r1 w1 k1 => ?_⟩
    obtain ⟨i, rfl⟩ := Int.eq_ofNat_of_zero_le r0
    refine ⟨_, rfl, _, _, rfl, rfl, _, rfl, _, rfl, _, _, rfl, rfl, d, b + 16, (n : Int) - 1, rfl, by omega, by omega, w1, fun H2 r' r0' r1' w2 k2 => ?_⟩
    obtain ⟨j, rfl⟩ := Int.eq_ofNat_of_zero_le r0'
    refine ⟨_, _, rfl, rfl, _, rfl, _, _, rfl, rfl, (show (0 : Int) < n by omega), ?_⟩
    have eS : ((i : Int) + 1 + (j : Int)) % (n : Int) = (((i + 1 + j) % n : Nat) : Int) := by
      rw [Int.natCast_emod, Int.natCast_add, Int.natCast_add]
      rfl
    have hS : (i + 1 + j) % n < n := Nat.mod_lt _ (by omega)
    have hLS : i ≠ (i + 1 + j) % n := by
      have hi : i < n := by omega
      have hj : j < n - 1 := by omega
      by_cases z : i + 1 + j < n
      · rw [Nat.mod_eq_of_lt z]; omega
      · have e : i + 1 + j = (i + 1 + j - n) + n := by omega
        rw [e, Nat.add_mod_right, Nat.mod_eq_of_lt (by omega)]
        omega
    have K2 := k1.trans k2
    have hH2 := hH.mono fun _ _ t => Kp.tup K2 hD t
    refine ⟨_, rfl, _, rfl, d, b + 4, h, cs, rs, rfl, hH2, hO, c1, hne, w2.less (by omega), fun H3 bt ts g hB bw lv w3 k3 => ?_⟩
    have hH3 := hH2.mono fun _ _ t => Kp.tup k3 w2 t
    refine ⟨_, rfl, _, rfl, _, rfl, _, rfl, _, rfl, _, rfl, _, rfl, h, bt, cs, rs, ts, g, rfl, hH3, hO, hB, bw.ok, fun H4 pt us tt ft s4 => ?_⟩
    refine ⟨d, b + 2, pt, us, _, rfl, tt, ft, by rw [tabO_len]; exact wl, lv, ?_, w3.same s4, fun H5 pr x tx' fx w5 k5 => ?_⟩
    · intro x hx
      obtain ⟨o, ho, e⟩ := List.mem_filterMap.mp hx
      obtain ⟨bs, _, rfl⟩ := List.mem_map.mp ho
      have e : payO (vl cs bs) ts g = some x := e
      rw [payO_some e]
      exact bw.pay _
    refine ⟨_, rfl, d, b, rfl, w5, fun H6 ps y ty fy y0 w6 k6 => ?_⟩
    refine ⟨by show 6 ≤ sizeLine; decide, fun tk ntk => ?_⟩
    show Q (.ref tk) (upd H6 tk (.tup [.int (m : Nat), .int (i : Nat), .int (((i : Int) + 1 + (j : Int)) % (n : Int)), .ref bt, .ref pr, .ref ps]))
    rw [eS]
    have s7 := same_upd (o := .tup [.int (m : Nat), .int (i : Nat), .int ((i + 1 + j) % n : Nat), .ref bt, .ref pr, .ref ps]) ntk
    have T5 : Tk K H3 H5 := fun _ _ t => Kp.tup k5 (w3.same s4) (Same.tup s4 t)
    have T6 : Tk K H5 (tgt s7) := fun _ _ t => Same.tup s7 (Kp.tup k6 w5 t)
    refine q _ (.ref tk) ⟨m, i, (i + 1 + j) % n, ⟨ts, g, x⟩, y⟩ ⟨tk, bt, pr, ps, rfl, sqt_upd, hB.mono fun _ _ t => T6 _ _ (T5 _ _ t), T6 _ _ tx', Same.tup s7 ty⟩ ⟨bw, fx, fy, y0⟩ rfl (by show i < n; omega) hS hLS lv (w6.same s7) (K2.trans (k3.trans ((Same.kp s4).trans (k5.trans (k6.trans (Same.kp s7))))))
end
end B

namespace B
open PySem PySem.Spec PyProof.Rows L2

def sp_l_tickets (K : PySem.W.Frag) : Sp := fun vs H Q _ => ∃ (d : Dr) (b n m : Nat) (h : Addr) (cs : List Nat) (rs : List (List Wd)), vs = [.ref d.dr, .ref h, .int n, .int m] ∧ 2 ≤ n ∧ n ≤ 6 ∧ m ≤ 100 ∧ HsAt K H h cs rs ∧ HsOk cs rs ∧ 1 ≤ cs.length ∧ wor cs rs ≠ [] ∧ Drw H d (b + 25 * m) ∧ ∀ (H' : Hp) (p : Addr) (tvs : List V) (tks : List Tkt), SqT K H' p tvs → F2 (TkAt K H') tvs tks → TksW cs rs n (10 * m) tks → tks.length = m → Drw H' d b → Kp d H H' → Q (.ref p) H'

section
variable {P : Program} {w : World} {K : PySem.W.Frag} {mg : Str → Option Value} {base : Heap}
theorem ok_l_tickets (T : Tx K mg w) (U : Unl P base) : FnOk P w K mg base CX0 41 T.l_tickets.f T.l_tickets.fd ["_law_drawn", "_law_house", "_law_holders", "_law_many"] (sp_l_tickets K) := by
  refine T.l_tickets.F.ok sc_l_tickets (fun vs H Q E h => ?_) (fun cdv A outer s H vs Q E hr h => ?_)
  · obtain ⟨d, b, n, m, h, cs, rs, rfl, n2, n6, m100, hH, hO, c1, hne, hD, q⟩ := h
    rfl
  · obtain ⟨d, b, n, m, h, cs, rs, rfl, n2, n6, m100, hH, hO, c1, hne, hD, q⟩ := h
    refine ⟨_, (pss_cons (ps_set (i := 4) sc_l_tickets.nd rfl (.inl rfl) (pe_tup pa_nil))
      (pss_cons (ps_set (i := 5) sc_l_tickets.nd rfl (.inl rfl) pe_int)
      (pss_cons (ps_for PassesOwn.never rfl (pi_range1 (by rfl) T.m_range (pa_cons (pv 3) pa_nil)) (pg_name (i := 6) sc_l_tickets.nd rfl (.inl rfl))
      (pss_cons (ps_set (i := 5) sc_l_tickets.nd rfl (.inl rfl) (pe_op op_add (pv 5) (pe_ix ix_list (pe_lst (pa_cons pe_int (pa_cons pe_int (pa_cons pe_int pa_nil)))) (pe_call (ok_l_next T U) (hr.mono (by decide)) (by rfl) T.l_next.g T.l_next.F.kp T.l_next.b .nil pass0 (pa_cons (pv 0) (pa_cons pe_int pa_nil))) (fun _ _ => rfl))))
      (pss_cons (ps_set (i := 7) sc_l_tickets.nd rfl (.inl rfl) (pe_call (ok_l_ticket T U) (hr.mono (by decide)) (by rfl) T.l_ticket.g T.l_ticket.F.kp T.l_ticket.b .nil pass0 (pa_cons (pv 0) (pa_cons (pv 1) (pa_cons (pv 2) (pa_cons (pv 5) pa_nil))))))
      (pss_cons (ps_if (PW.pt (pw_and (pt_cmpR (op_neD hr.units) (pv 4) (pe_tup pa_nil) (nomark _)) (pw_and1 (pt_cmpR op_eq (pe_call (ok_l_next T U) (hr.mono (by decide)) (by rfl) T.l_next.g T.l_next.F.kp T.l_next.b .nil pass0 (pa_cons (pv 0) (pa_cons pe_int pa_nil))) pe_int (nomark _))))) (pss_one (ps_set (i := 7) sc_l_tickets.nd rfl (.inl rfl) (pe_op op_catS (pe_op op_catS (pe_slice sl_tupS (pv 7) po_none (po_some pe_int)) (pe_slice sl_tupS (pe_ix ix_tup (pv 4) (pe_call (ok_l_next T U) (hr.mono (by decide)) (by rfl) T.l_next.g T.l_next.F.kp T.l_next.b .nil pass0 (pa_cons (pv 0) (pa_cons (pe_callB call_len_seq (by rfl) T.m_len (by decide +kernel) (pa_cons (pv 4) pa_nil)) pa_nil))) (fun _ _ => rfl)) (po_some pe_int) (po_some pe_int))) (pe_slice sl_tupS (pv 7) (po_some pe_int) po_none)))) pss_nil)
      (pss_cons (ps_set (i := 4) sc_l_tickets.nd rfl (.inl rfl) (pe_op op_catS (pv 4) (pe_tup (pa_cons (pv 7) pa_nil))))
      (pss_one (ps_set (i := 5) sc_l_tickets.nd rfl (.inl rfl) (pe_op op_add (pv 5) pe_int))))))))
      (pss_one (ps_ret (pv 4)))))), ?_⟩
    refine ⟨by show 0 ≤ sizeLine; decide, fun e0 ne0 => ?_⟩
    have s0 := same_upd (o := .tup []) ne0
    refine ⟨_, rfl, (m : Int), rfl, by omega, by omega, for_range (lo := 0) (n := ((m : Nat) : Int).toNat) (fun i σ H' => ∃ (x6 x7 : Option V) (p : Addr) (tvs : List V) (tks : List Tkt) (num : Nat), σ = [some (.ref d.dr), some (.ref h), some (.int n), some (.int m), some (.ref p), some (.int num), x6, x7] ∧ SqT K H' p tvs ∧ F2 (TkAt K H') tvs tks ∧ TksW cs rs n num tks ∧ num ≤ 10 * i ∧ tks.length = i ∧ Drw H' d (b + 25 * m - 25 * i) ∧ Kp d H H') ⟨none, none, e0, [], [], 0, rfl, sqt_upd, .nil, ⟨nofun, .nil⟩, Nat.le_refl _, rfl, hD.same s0, Same.kp s0⟩ ?_ ?_⟩
    · rintro i σ H1 hi ⟨x6, x7, p, tvs, tks, num, rfl, tp, ft, ok, hn, hl, w1, k1⟩
      rw [Int.toNat_natCast] at hi
      have lv := ft.len
      refine ⟨_, rfl, by show 3 ≤ sizeLine; decide, fun L nL => ?_⟩
      have sL := same_upd (o := .lst [.int 0, .int 1, .int 9]) nL
      have nL1 := w1.no nL
      have w2 := w1.same sL
      refine ⟨_, rfl, d, b + 25 * m - 25 * i - 1, 3, rfl, by decide, by decide, w2.less (by omega), fun H3 r r0 r1 w3 k3 => ?_⟩
      obtain ⟨j, rfl⟩ := Int.eq_ofNat_of_zero_le r0
      obtain ⟨z, hix, hz⟩ : ∃ z : Nat, atI [V.int 0, .int 1, .int 9] (j : Int) = some (.int z) ∧ z ≤ 9 := by
        have : j = 0 ∨ j = 1 ∨ j = 2 := by omega
        rcases this with rfl | rfl | rfl
        · exact ⟨0, rfl, by decide⟩
        · exact ⟨1, rfl, by decide⟩
        · exact ⟨9, rfl, by decide⟩
      refine ⟨L, _, (j : Int), .int z, rfl, rfl, .inl (.inl (k3 _ _ upd_same nL1.1 nL1.2)), hix, _, _, rfl, rfl, ?_⟩
      have K3 : Kp d H1 H3 := (Same.kp sL).trans k3
      have hH3 := hH.mono fun _ _ t => Kp.tup (k1.trans K3) hD t
      have eN : (num : Int) + (z : Int) = ((num + z : Nat) : Int) := (Int.natCast_add num z).symm
      refine ⟨_, rfl, _, rfl, _, rfl, _, rfl, d, b + 25 * m - 25 * i - 19, n, num + z, h, cs, rs, by rw [← eN]; rfl, n2, n6, hH3, hO, c1, hne, w3.less (by omega), fun H4 v t hT tw tn tl ts tls lv' w4 k4 => ?_⟩
      have T13 : Tk K H1 H3 := fun _ _ t => Kp.tup K3 w1 t
      have T34 : Tk K H3 H4 := fun _ _ t => Kp.tup k4 w3 t
      have T14 : Tk K H1 H4 := fun _ _ t => T34 _ _ (T13 _ _ t)
      have K4 := K3.trans k4
      obtain ⟨tq, a, c, k, rfl, t1, t2, t3, t4⟩ := id hT
      refine ⟨_, rfl, by show 0 ≤ sizeLine; decide, fun e1 ne1 => ?_⟩
      have s5 := same_upd (o := .tup []) ne1
      have ft5 := tks_tk (tks_tk ft T14) (Same.tk s5)
      have big : ∀ x ∈ tks, Shw 5 3726 (tkdat x) := fun x hx => by
        obtain ⟨y1, y2, y3, y4, y5, y6⟩ := ok.w x hx
        have : (2 : Nat) ^ 10 ≤ 2 ^ 400 := Nat.pow_le_pow_right (by decide) (by decide)
        exact tkt_shw hO.sm y1 (by omega) (by omega) (by omega)
      refine ⟨_, _, .tup (Same.tup s5 (T14 _ _ tp)) (ft5.dp fun _ _ q => q.dp), .tup sqt_upd .nil, (Shw.tup (k := 100) (fun d hd => by obtain ⟨x, hx, rfl⟩ := List.mem_map.mp hd; exact big x hx) (by rw [List.length_map]; omega)).shaped (by decide), rfl, _, rfl, ?_⟩
      rw [eqv_nilT, List.isEmpty_map]
      have S5 := s5
      cases e : tks.isEmpty with
      | true =>
        refine iteF ?_
        have TP := Same.tup S5 (T14 _ _ tp)
        have FT := ft5
        have HT := TkAt.mono (Same.tk S5) hT
        have WW := w4.same S5
        have KK := K4.trans (Same.kp S5)
        have OKT : TkW cs t ∧ t.l < n ∧ t.s < n ∧ t.l ≠ t.s ∧ t.n < num + z + 1 ∧ somes (tabO cs t.b.ts t.b.g (wor cs rs)) ≠ [] := ⟨tw, tl, ts, tls, by omega, lv'⟩
        have NQ : t.n = num + z := tn
        refine ⟨_, rfl, _, rfl, by show 1 ≤ sizeLine; decide, fun q1 nq => ?_⟩
        have u1 := same_upd (o := .tup [.ref tq]) nq
        refine ⟨p, q1, tvs, _, rfl, rfl, Same.tup u1 TP, sqt_upd, by show tvs.length + 1 ≤ 100000; omega, fun q2 HZ tz u2 => ?_⟩
        have tz : SqT K HZ q2 (tvs ++ [.ref tq]) := tz
        refine ⟨_, rfl, _, _, rfl, rfl, _, _, q2, _, tks ++ [t], num + z + 1, by rw [eN]; rfl, tz, (tks_tk FT (Same.tk (u1.trans u2))).app (.cons (TkAt.mono (Same.tk (u1.trans u2)) HT) .nil), ⟨fun x hx => ?_, ?_⟩, by omega, by rw [List.length_append, hl]; rfl, (WW.same (u1.trans u2)).less (by omega), k1.trans (KK.trans (Same.kp (u1.trans u2)))⟩
        · rcases List.mem_append.mp hx with hx | hx
          · obtain ⟨y1, y2, y3, y4, y5, y6⟩ := ok.w x hx
            exact ⟨y1, y2, y3, y4, by omega, y6⟩
          · rw [List.mem_singleton.mp hx]
            exact OKT
        · refine List.pairwise_append.mpr ⟨ok.r, List.pairwise_singleton _ _, fun x hx y hy => ?_⟩
          rw [List.mem_singleton.mp hy]
          have := (ok.w x hx).2.2.2.2.1
          show x.n < (t).n
          omega
      | false =>
        refine iteT ?_
        refine ⟨_, rfl, d, b + 25 * m - 25 * i - 20, 3, rfl, by decide, by decide, (w4.same s5).less (by omega), fun H6 r' r0' r1' w6 k6 => ⟨rfl, _, rfl, ?_⟩⟩
        have T46 : Tk K H4 H6 := fun _ _ t => Kp.tup k6 (w4.same s5) (Same.tup s5 t)
        refine ite2 (fun ez => ?_) (fun ez => ?_)
        · have t16 := T46 _ _ t1
          refine ⟨_, rfl, 3, rfl, tq, _, rfl, t16, fun c1' H7 tc1 s7 => ?_⟩
          have tc1 : SqT K H7 c1' [.int t.n, .int t.l, .int t.s] := tc1
          have tp7 := Same.tup s7 (T46 _ _ (T14 _ _ tp))
          have pos : 0 < tks.length := by
            cases tks with
            | nil => cases e
            | cons _ _ => exact Nat.succ_pos _
          refine ⟨_, rfl, _, rfl, _, rfl, p, tvs, rfl, .inr tp7, d, b + 25 * m - 25 * i - 21, (tvs.length : Int), rfl, by omega, by show tvs.length < _; exact Nat.lt_of_le_of_lt (show tvs.length ≤ 100 by omega) (by decide), (w6.same s7).less (by omega), fun H8 r'' r0'' r1'' w8 k8 => ?_⟩
          obtain ⟨y, rfl⟩ := Int.eq_ofNat_of_zero_le r0''
          have T78 : Tk K H7 H8 := fun _ _ t => Kp.tup k8 (w6.same s7) t
          have T48 : Tk K H4 H8 := fun _ _ t => T78 _ _ (Same.tup s7 (T46 _ _ t))
          have gy := List.getElem?_eq_getElem (l := tks) (i := y) (by omega)
          have my := List.mem_of_getElem? gy
          generalize tks[y] = t' at gy my
          obtain ⟨v', hv', tq', a', c', k', rfl, t1', t2', t3', t4'⟩ := (tks_tk ft fun _ _ t => T48 _ _ (T14 _ _ t)).getB gy
          obtain ⟨y1, y2, y3, y4, y5, y6⟩ := ok.w t' my
          refine ⟨p, tvs, (y : Int), .ref tq', rfl, rfl, T78 _ _ tp7, atI_nat hv', 3, rfl, 5, rfl, tq', _, rfl, t1', fun c2' H9 tc2 s9 => ?_⟩
          have tc2 : SqT K H9 c2' [.ref a', .ref c'] := tc2
          refine ⟨c1', c2', _, _, rfl, rfl, Same.tup s9 (T78 _ _ tc1), tc2, by show 3 + 2 ≤ 100000; decide, fun c3' H10 tc3 s10 => ?_⟩
          have S910 := s9.trans s10
          refine ⟨_, rfl, 5, rfl, tq, _, rfl, Same.tup S910 (T48 _ _ t1), fun c4' H11 tc4 s11 => ?_⟩
          have tc4 : SqT K H11 c4' [.ref k] := tc4
          refine ⟨c3', c4', _, _, rfl, rfl, Same.tup s11 tc3, tc4, by show 5 + 1 ≤ 100000; decide, fun c5' H12 tc5 s12 => ?_⟩
          have tc5 : SqT K H12 c5' [.int t.n, .int t.l, .int t.s, .ref a', .ref c', .ref k] := tc5
          have S12 := S910.trans (s11.trans s12)
          have T412 : Tk K H4 H12 := fun _ _ t => Same.tup S12 (T48 _ _ t)
          have T812 : Tk K H8 H12 := Same.tk S12
          have TP := T412 _ _ (T14 _ _ tp)
          have FT := tks_tk ft fun _ _ t => T412 _ _ (T14 _ _ t)
          have HT : TkAt K H12 (.ref c5') ⟨t.n, t.l, t.s, t'.b, t.k⟩ := ⟨c5', a', c', k, rfl, tc5, t2'.mono T812, T812 _ _ t3', T412 _ _ t4⟩
          have WW := w8.same S12
          have KK := K4.trans ((Same.kp s5).trans (k6.trans ((Same.kp s7).trans (k8.trans (Same.kp S12)))))
          have OKT : TkW cs ⟨t.n, t.l, t.s, t'.b, t.k⟩ ∧ t.l < n ∧ t.s < n ∧ t.l ≠ t.s ∧ t.n < num + z + 1 ∧ somes (tabO cs t'.b.ts t'.b.g (wor cs rs)) ≠ [] := ⟨⟨y1.b, y1.p, tw.k, tw.k0⟩, tl, ts, tls, by omega, y6⟩
          have NQ : t.n = num + z := tn
          generalize eT : (⟨t.n, t.l, t.s, t'.b, t.k⟩ : Tkt) = u at *
          have NQ : u.n = num + z := by rw [← eT]; exact NQ
          have OKT : TkW cs u ∧ u.l < n ∧ u.s < n ∧ u.l ≠ u.s ∧ u.n < num + z + 1 ∧ somes (tabO cs u.b.ts u.b.g (wor cs rs)) ≠ [] := by
            rw [← eT] at OKT ⊢
            exact OKT
          refine ⟨_, rfl, _, rfl, by show 1 ≤ sizeLine; decide, fun q1 nq => ?_⟩
          have u1 := same_upd (o := .tup [.ref c5']) nq
          refine ⟨p, q1, tvs, _, rfl, rfl, Same.tup u1 TP, sqt_upd, by show tvs.length + 1 ≤ 100000; omega, fun q2 HZ tz u2 => ?_⟩
          have tz : SqT K HZ q2 (tvs ++ [.ref c5']) := tz
          refine ⟨_, rfl, _, _, rfl, rfl, _, _, q2, _, tks ++ [u], num + z + 1, by rw [eN]; rfl, tz, (tks_tk FT (Same.tk (u1.trans u2))).app (.cons (TkAt.mono (Same.tk (u1.trans u2)) HT) .nil), ⟨fun x hx => ?_, ?_⟩, by omega, by rw [List.length_append, hl]; rfl, (WW.same (u1.trans u2)).less (by omega), k1.trans (KK.trans (Same.kp (u1.trans u2)))⟩
          · rcases List.mem_append.mp hx with hx | hx
            · obtain ⟨y1, y2, y3, y4, y5, y6⟩ := ok.w x hx
              exact ⟨y1, y2, y3, y4, by omega, y6⟩
            · rw [List.mem_singleton.mp hx]
              exact OKT
          · refine List.pairwise_append.mpr ⟨ok.r, List.pairwise_singleton _ _, fun x hx y hy => ?_⟩
            rw [List.mem_singleton.mp hy]
            have := (ok.w x hx).2.2.2.2.1
            show x.n < (u).n
            omega
        · have s5' := s5
          have TP := T46 _ _ (T14 _ _ tp)
          have FT := tks_tk ft fun _ _ t => T46 _ _ (T14 _ _ t)
          have HT := TkAt.mono T46 hT
          have WW := w6
          have KK := K4.trans ((Same.kp s5).trans k6)
          have OKT : TkW cs t ∧ t.l < n ∧ t.s < n ∧ t.l ≠ t.s ∧ t.n < num + z + 1 ∧ somes (tabO cs t.b.ts t.b.g (wor cs rs)) ≠ [] := ⟨tw, tl, ts, tls, by omega, lv'⟩
          have NQ : t.n = num + z := tn
          refine ⟨_, rfl, _, rfl, by show 1 ≤ sizeLine; decide, fun q1 nq => ?_⟩
          have u1 := same_upd (o := .tup [.ref tq]) nq
          refine ⟨p, q1, tvs, _, rfl, rfl, Same.tup u1 TP, sqt_upd, by show tvs.length + 1 ≤ 100000; omega, fun q2 HZ tz u2 => ?_⟩
          have tz : SqT K HZ q2 (tvs ++ [.ref tq]) := tz
          refine ⟨_, rfl, _, _, rfl, rfl, _, _, q2, _, tks ++ [t], num + z + 1, by rw [eN]; rfl, tz, (tks_tk FT (Same.tk (u1.trans u2))).app (.cons (TkAt.mono (Same.tk (u1.trans u2)) HT) .nil), ⟨fun x hx => ?_, ?_⟩, by omega, by rw [List.length_append, hl]; rfl, (WW.same (u1.trans u2)).less (by omega), k1.trans (KK.trans (Same.kp (u1.trans u2)))⟩
          · rcases List.mem_append.mp hx with hx | hx
            · obtain ⟨y1, y2, y3, y4, y5, y6⟩ := ok.w x hx
              exact ⟨y1, y2, y3, y4, by omega, y6⟩
            · rw [List.mem_singleton.mp hx]
              exact OKT
          · refine List.pairwise_append.mpr ⟨ok.r, List.pairwise_singleton _ _, fun x hx y hy => ?_⟩
            rw [List.mem_singleton.mp hy]
            have := (ok.w x hx).2.2.2.2.1
            show x.n < (t).n
            omega
    · rintro σ H1 ⟨x6, x7, p, tvs, tks, num, rfl, tp, ft, ok, hn, hl, w1, k1⟩
      rw [Int.toNat_natCast] at hl hn w1
      exact ⟨_, rfl, q _ p tvs tks tp ft ⟨fun t ht => by obtain ⟨y1, y2, y3, y4, y5, y6⟩ := ok.w t ht; exact ⟨y1, y2, y3, y4, by omega, y6⟩, ok.r⟩ hl (w1.less (by omega)) k1⟩
end
end B

namespace B
open PySem PySem.Spec PyProof.Rows L2

def sp_l_purses (K : PySem.W.Frag) : Sp := fun vs H Q _ => ∃ (d : Dr) (b n : Nat) (h T : Addr) (tvs : List V) (cs : List Nat) (rs : List (List Wd)) (tks : List Tkt), vs = [.ref d.dr, .ref h, .int n, .ref T] ∧ n ≤ 6 ∧ HsAt K H h cs rs ∧ HsOk cs rs ∧ wor cs rs ≠ [] ∧ SqT K H T tvs ∧ F2 (TkAt K H) tvs tks ∧ (∀ t ∈ tks, TkK cs 30720 5120 t ∧ t.l < n ∧ t.s < n) ∧ tks.length ≤ 12 ∧ Drw H d (b + 3 * n) ∧ ∀ (H' : Hp) (p : Addr) (pvs : List V) (ps : List (Int × Nat)), SqT K H' p pvs → F2 (FAt K H') pvs ps → ps.length = n → (∀ p ∈ ps, Fb 1290240000000 (2 ^ 90) p) → Drw H' d b → Kp d H H' → Q (.ref p) H'

section
variable {P : Program} {w : World} {K : PySem.W.Frag} {mg : Str → Option Value} {base : Heap}
theorem ok_l_purses (T : Tx K mg w) (U : Unl P base) : FnOk P w K mg base CX0 41 T.l_purses.f T.l_purses.fd ["_law_drawn", "_law_house", "_law_holders", "_law_tickets_here"] (sp_l_purses K) := by
  refine T.l_purses.F.ok sc_l_purses (fun vs H Q E h => ?_) (fun cdv A outer s H vs Q E hr h => ?_)
  · obtain ⟨d, b, n, h, T', tvs, cs, rs, tks, rfl, n6, hH, hO, hne, tT, fT, hW, hl, hD, q⟩ := h
    rfl
  · obtain ⟨d, b, n, h, T', tvs, cs, rs, tks, rfl, n6, hH, hO, hne, tT, fT, hW, hl, hD, q⟩ := h
    refine ⟨_, (pss_cons (ps_set (i := 4) sc_l_purses.nd rfl (.inl rfl) (pe_lst pa_nil))
      (pss_cons (ps_for PassesOwn.never rfl (pi_list (pe_call (ok_l_worths T U) (hr.mono (by decide)) (by rfl) T.l_worths.g T.l_worths.F.kp T.l_worths.b .nil pass0 (pa_cons (pe_tup (pa_cons (pv 1) (pa_cons (pe_op op_repN (pe_tup (pa_cons (pe_tup (pa_cons pe_int (pa_cons pe_int pa_nil))) pa_nil)) (pv 2)) (pa_cons (pv 3) pa_nil)))) pa_nil))) (pg_name (i := 5) sc_l_purses.nd rfl (.inl rfl))
      (pss_cons (ps_set (i := 6) sc_l_purses.nd rfl (.inl rfl) (pe_ix ix_list (pe_lst (pa_cons (pe_tup (pa_cons pe_int (pa_cons pe_int pa_nil))) (pa_cons (pe_tup (pa_cons pe_int (pa_cons pe_int pa_nil))) (pa_cons (pe_tup (pa_cons pe_int (pa_cons pe_int pa_nil))) (pa_cons (pe_call (ok_l_stake T U) (hr.mono (by decide)) (by rfl) T.l_stake.g T.l_stake.F.kp T.l_stake.b .nil pass0 (pa_cons (pv 0) pa_nil)) pa_nil))))) (pe_call (ok_l_next T U) (hr.mono (by decide)) (by rfl) T.l_next.g T.l_next.F.kp T.l_next.b .nil pass0 (pa_cons (pv 0) (pa_cons pe_int pa_nil))) (fun _ _ => rfl)))
      (pss_one (ps_expr (pe_bm PySem.F.plainAttrs_list PySem.F.slot_list_append PySem.F.type_list_append mt_append (pv 4) (pa_cons (pe_call (ok_l_plus T U) (hr.mono (by decide)) (by rfl) T.l_plus.g T.l_plus.F.kp T.l_plus.b .nil pass0 (pa_cons (pe_call (ok_l_turned T U) (hr.mono (by decide)) (by rfl) T.l_turned.g T.l_turned.F.kp T.l_turned.b .nil pass0 (pa_cons (pe_ix ix_list (pv 5) (pe_call (ok_l_least T U) (hr.mono (by decide)) (by rfl) T.l_least.g T.l_least.F.kp T.l_least.b .nil pass0 (pa_cons (pv 5) pa_nil)) (fun _ _ => rfl)) pa_nil)) (pa_cons (pv 6) pa_nil))) pa_nil))))))
      (pss_one (ps_ret (pe_callTy call_tuple_of (by rfl) T.m_tuple (by decide +kernel) (pa_cons (pv 4) pa_nil)))))), ?_⟩
    have wle := wor_le (rs := rs) hO.c6
    have wpos := List.length_pos_iff.mpr hne
    refine ⟨by decide, fun R nR => ?_⟩
    have sR := same_upd (o := .lst []) nR
    have nR1 := hD.no nR
    have nR2 := hD.nc nR
    refine ⟨_, rfl, by show 2 ≤ sizeLine; decide, fun a1 n1 => ?_⟩
    have s1 := same_upd (o := .tup [.int 0, .int 1]) n1
    refine ⟨by show 1 ≤ sizeLine; decide, fun a2 n2 => ?_⟩
    have s2 := same_upd (o := .tup [.ref a1]) n2
    refine ⟨_, rfl, a2, (n : Int), [.ref a1], rfl, rfl, sqt_upd, by simp, by omega, by omega, by show 1 ≤ 1000; decide, fun a3 H3 t3 s3 => ?_⟩
    rw [Int.toNat_natCast, flat_rep] at t3
    refine ⟨_, rfl, by show 3 ≤ sizeLine; decide, fun a4 n4 => ?_⟩
    have s4 := same_upd (o := .tup [.ref h, .ref a3, .ref T']) n4
    have S4 := sR.trans (s1.trans (s2.trans (s3.trans s4)))
    have hK : ∀ t ∈ tks, TkOk cs t ∧ t.l < (List.replicate n ((0, 1) : Int × Nat)).length ∧ t.s < (List.replicate n ((0, 1) : Int × Nat)).length := fun t ht => by
      obtain ⟨y1, y2, y3⟩ := hW t ht
      rw [List.length_replicate]
      exact ⟨y1.ok (a := 15) (c := 13) (by decide) (by decide) (by decide) (by decide), y2, y3⟩
    have hbr : ∀ v, ∀ t ∈ tks, Fb 1290240000000 (2 ^ 60) (brF v t) := fun v t ht => ((hW t ht).1.br v).up (by decide) (by decide)
    have hZ : ∀ bs ∈ wor cs rs, WzOk 1290240000000 (2 ^ 60) (vl cs bs) (List.replicate n (0, 1)) tks := fun bs _ => ⟨fun t ht => hbr _ t ht, fun p hp => by rw [List.eq_of_mem_replicate hp]; exact Fb.zero, by decide, Nat.lt_of_lt_of_le (by decide : 1290240000000 < 2 ^ 41) (Nat.pow_le_pow_right (by decide) (by decide)), Nat.le_trans (Nat.mul_le_mul_right _ (show 2 * tks.length + 1 ≤ 2 ^ 5 by omega)) (by rw [← Nat.pow_add]; exact Nat.pow_le_pow_right (by decide) (by decide))⟩
    have fz : F2 (FAt K (tgt s4)) (List.replicate n (.ref a1)) (List.replicate n ((0, 1) : Int × Nat)) := f2_rep ⟨a1, rfl, Same.tup (s2.trans (s3.trans s4)) sqt_upd⟩
    refine ⟨a4, h, a3, T', [], _, tvs, cs, rs, _, tks, 1290240000000, 2 ^ 60, rfl, sqt_upd, hH.same S4, hO, Same.tup s4 t3, fz, by rw [List.length_replicate]; omega, Same.tup S4 tT, tks_tk fT (Same.tk S4), hK, hZ, fun H5 L g5 s5 => ?_⟩
    rw [List.length_replicate] at g5
    have S5 := S4.trans s5
    obtain ⟨rows, hrL, hrl, hrow⟩ := g5.row
    have hG : ∃ o, (tgt s4) R = some o := ⟨_, (s1.trans (s2.trans (s3.trans s4))) _ _ upd_same⟩
    have wG : Drw (tgt s4) d (b + 3 * n) := hD.same S4
    have gL : (tgt s4) L = none := by
      obtain ⟨_, _, _, _, z, _⟩ := g5
      exact z
    refine ⟨L, rfl, ⟨_, .inl (.inl hrL)⟩, for_list (K := K) (a := L) (xs := rows) (fun i σ H' => ∃ (x5 x6 : Option V) (pvs : List V) (ps : List (Int × Nat)), σ = [some (.ref d.dr), some (.ref h), some (.int n), some (.ref T'), some (.ref R), x5, x6] ∧ H' R = some (.lst pvs) ∧ F2 (FAt K H') pvs ps ∧ ps.length = i ∧ (∀ p ∈ ps, Fb 1290240000000 (2 ^ 66) p) ∧ Fk (tgt s4) H5 H' ∧ Tk K H5 H' ∧ Drw H' d (b + 3 * n - 3 * i) ∧ Kp d H H') ⟨none, none, [], [], rfl, (s1.trans (s2.trans (s3.trans (s4.trans s5)))) _ _ upd_same, .nil, rfl, nofun, Fk.refl _ _, fun _ _ t => t, wG.same s5, Same.kp S5⟩ (fun i σ H' _ ⟨_, _, _, _, _, _, _, _, _, fk, _⟩ => .inl (.inl (fk _ _ hrL gL))) ?_ ?_⟩
    · rintro i v σ H6 hv ⟨x5, x6, pvs, ps, rfl, hR, fP, pl, ok, fk, tk, w6, k6⟩
      obtain ⟨ra, us, rfl, hra, lus, frow⟩ := hrow i v hv
      have hi : i < n := by have := (List.getElem?_eq_some_iff.mp hv).1; omega
      have gra : (tgt s4) ra = none := by
        obtain ⟨as, _, _, _, _, z5, z6, _⟩ := g5
        rw [hrL] at z6
        injection z6 with z6
        injection z6 with z6
        rw [z6] at hv
        obtain ⟨y, hy, e⟩ := List.mem_map.mp (List.mem_of_getElem? hv)
        injection e with e
        rw [← e]
        exact z5 y hy
      have pl' := fP.len
      have gz : (List.replicate n ((0, 1) : Int × Nat)).getD i (0, 1) = (0, 1) := by
        rw [List.getD_eq_getElem?_getD, List.getElem?_replicate]
        split <;> rfl
      have er := range_getD (f := fun bs => oneF (vl cs bs) i (0, 1) tks) (wor cs rs)
      rw [show ((fun j => oneF (vl cs ((wor cs rs).getD j [])) i ((List.replicate n ((0, 1) : Int × Nat)).getD i (0, 1)) tks)) = fun j => oneF (vl cs ((wor cs rs).getD j [])) i (0, 1) tks from by rw [gz]] at frow
      rw [er] at frow
      generalize el : ((wor cs rs).map fun bs => oneF (vl cs bs) i (0, 1) tks) = l at *
      have ll : l.length = (wor cs rs).length := by rw [← el, List.length_map]
      have hfb : ∀ p ∈ l, Fb 1290240000000 (2 ^ 65) p := fun p hp => by
        rw [← el] at hp
        obtain ⟨bs, _, rfl⟩ := List.mem_map.mp hp
        exact (one_fb (D := 1290240000000) (M := 2 ^ 60) (by decide) Fb.zero tks fun t ht => hbr _ t ht).up (Nat.dvd_refl _) (Nat.le_trans (Nat.mul_le_mul_right _ (show 2 * tks.length + 1 ≤ 2 ^ 5 by omega)) (by rw [← Nat.pow_add]; exact Nat.le_refl _))
      have hfo : ∀ p ∈ l, Fok 106 p := fun p hp => (hfb p hp).fok (a := 41) (c := 65) (by decide) (by decide) (Nat.le_refl _)
      have hra6 : H6 ra = some (.lst us) := fk _ _ hra gra
      have hraR : ra ≠ R := fun e => by
        obtain ⟨o, ho⟩ := hG
        rw [e, ho] at gra
        cases gra
      have frow6 : F2 (FAt K H6) us l := fas_tk frow tk
      refine ⟨by show 2 ≤ sizeLine; decide, fun b1 m1 => ?_⟩
      have u1 := same_upd (o := .tup [.int 0, .int 1]) m1
      refine ⟨by show 2 ≤ sizeLine; decide, fun b2 m2 => ?_⟩
      have u2 := same_upd (o := .tup [.int 5, .int 1]) m2
      refine ⟨by show 2 ≤ sizeLine; decide, fun b3 m3 => ?_⟩
      have u3 := same_upd (o := .tup [.int 100, .int 1]) m3
      have U3 := u1.trans (u2.trans u3)
      refine ⟨_, rfl, d, b + 3 * n - 3 * i - 2, rfl, (w6.same U3).less (by omega), fun H7 st y ty fy y0 w7 k7 => ?_⟩
      have T37 : Tk K (tgt u3) H7 := fun _ _ t => Kp.tup k7 (w6.same U3) t
      refine ⟨by show 4 ≤ sizeLine; decide, fun L2 nL2 => ?_⟩
      have u4 := same_upd (o := .lst [.ref b1, .ref b2, .ref b3, .ref st]) nL2
      have nL21 := w7.no nL2
      refine ⟨_, rfl, d, b + 3 * n - 3 * i - 3, 4, rfl, by decide, by decide, (w7.same u4).less (by omega), fun H8 r r0 r1 w8 k8 => ?_⟩
      obtain ⟨j, rfl⟩ := Int.eq_ofNat_of_zero_le r0
      have T78 : Tk K H7 H8 := fun _ _ t => Kp.tup k8 (w7.same u4) (Same.tup u4 t)
      have T38 : Tk K (tgt u3) H8 := fun _ _ t => T78 _ _ (T37 _ _ t)
      obtain ⟨pa, x, hix, tx', fx, x0⟩ : ∃ (p : Addr) (x : Int × Nat), atI [V.ref b1, .ref b2, .ref b3, .ref st] (j : Int) = some (.ref p) ∧ SqT K H8 p [.int x.1, .int x.2] ∧ Fb 1290240000000 100 x ∧ 0 ≤ x.1 := by
        have : j = 0 ∨ j = 1 ∨ j = 2 ∨ j = 3 := by omega
        rcases this with rfl | rfl | rfl | rfl
        · exact ⟨b1, (0, 1), rfl, T38 _ _ (Same.tup (u2.trans u3) sqt_upd), fb_dec (by decide +kernel), by decide⟩
        · exact ⟨b2, (5, 1), rfl, T38 _ _ (Same.tup u3 sqt_upd), fb_dec (by decide +kernel), by decide⟩
        · exact ⟨b3, (100, 1), rfl, T38 _ _ sqt_upd, fb_dec (by decide +kernel), by decide⟩
        · exact ⟨st, y, rfl, T78 _ _ ty, fy.up (by decide) (by decide), Int.le_of_lt y0⟩
      refine ⟨L2, _, (j : Int), .ref pa, rfl, rfl, .inl (.inl (k8 _ _ upd_same nL21.1 nL21.2)), hix, ?_⟩
      have T68 : Tk K H6 H8 := fun _ _ t => T38 _ _ (Same.tup U3 t)
      have K68 : Kp d H6 H8 := (Same.kp U3).trans (k7.trans ((Same.kp u4).trans k8))
      have hra1 : ra ≠ d.dr ∧ ra ≠ d.rs := wG.no gra
      have hra8 := K68 _ _ hra6 hra1.1 hra1.2
      have hR8 := K68 _ _ hR nR1.1 nR1.2
      have frow8 := fas_tk frow6 T68
      refine ⟨_, rfl, .inl ⟨rfl, _, .inl (.inl hR8)⟩, _, rfl, _, rfl, ra, us, l, rfl, hra8, frow8, by omega, (fun p hp => (hfo p hp).up (by decide)), fun H9 s9 => ?_⟩
      have bl := bestI_le l l.length
      have gb := List.getElem?_eq_getElem (l := l) (i := bestI l l.length) (by omega)
      have eb : l.getD (bestI l l.length) (0, 1) = l[bestI l l.length]'(by omega) := by rw [List.getD_eq_getElem?_getD, gb]; rfl
      obtain ⟨v2, hv2, f2', rfl, tf2⟩ := (fas_tk frow8 (Same.tk s9)).getB gb
      have ob := hfb _ (List.mem_of_getElem? gb)
      have oo := hfo _ (List.mem_of_getElem? gb)
      have hbest := fun i' (h' : i' < l.length) => bestI_least l (fun p hp => (hfb p hp).f) l.length i' h' (Nat.le_refl _)
      rw [eb] at hbest
      generalize l[bestI l l.length]'(by omega) = mn at *
      refine ⟨ra, us, (bestI l l.length : Int), .ref f2', rfl, rfl, .inl (.inl (s9 _ _ hra8)), atI_nat hv2, f2', mn, rfl, tf2, fun H10 ng tn _ s10 => ?_⟩
      have ox := (fx.fok (a := 41) (c := 7) (by decide) (by decide) (by decide)).up (show 7 + 41 ≤ 400000 by decide)
      have S910 := s9.trans s10
      refine ⟨_, rfl, ng, pa, _, _, _, _, rfl, tn, Same.tup S910 tx', oo.neg.f, ox.f, (oo.neg.up (by decide)).z, ox.z, fun w nw => ?_⟩
      have s11 := same_upd (o := .tup [.int (addF (negF mn) x).1, .int (addF (negF mn) x).2]) nw
      have S11 := S910.trans s11
      have hR11 := S11 _ _ hR8
      have U := fun p xs t' => tup_upd (K := K) (a := p) (ys := xs) (zs := pvs ++ [.ref w]) hR11 t'
      refine ⟨R, pvs, .ref w, rfl, rfl, hR11, Nat.lt_of_le_of_lt (show pvs.length ≤ 64 by omega) (by decide), ?_⟩
      have T611 : Tk K H6 (tgt s11) := fun _ _ t => Same.tup S11 (T68 _ _ t)
      have K611 : Kp d H6 (tgt s11) := K68.trans (Same.kp S11)
      have fbw : Fb 1290240000000 (2 ^ 66) (addF (negF mn) x) := (ob.neg.add fx (by decide)).up (Nat.dvd_refl _) (by decide)
      refine ⟨_, _, pvs ++ [.ref w], ps ++ [addF (negF mn) x], rfl, upd_same, (fas_tk (fas_tk fP T611) U).app (.cons ⟨w, rfl, U _ _ sqt_upd⟩ .nil), by rw [List.length_append, pl]; rfl, fun p hp => ?_, ?_, fun _ _ t => U _ _ (T611 _ _ (tk _ _ t)), ((w8.same S11).mut nR1.1 nR2 nR1.2).less (by omega), kp_mut nR (k6.trans K611)⟩
      · rcases List.mem_append.mp hp with z | z
        · exact ok p z
        · rw [List.mem_singleton.mp z]
          exact fbw
      · refine fk.trans ((Fk.kp wG K611).trans (Fk.mut hG))
    · rintro σ H6 ⟨x5, x6, pvs, ps, rfl, hR, fP, pl, ok, fk, tk, w6, k6⟩
      rw [hrl] at pl w6
      refine ⟨_, rfl, R, pvs, rfl, .inl ⟨.inl (.inl hR), fun p np => ?_⟩⟩
      have s7 := same_upd (o := .tup pvs) np
      exact q _ p pvs ps sqt_upd (fas_tk fP (Same.tk s7)) pl (fun p hp => (ok p hp).up (Nat.dvd_refl _) (Nat.pow_le_pow_right (by decide) (by decide))) ((w6.less (by omega)).same s7) (k6.trans (Same.kp s7))
end
end B

namespace B
open PySem PySem.Spec PyProof.Rows L2

def sp_l_done (K : PySem.W.Frag) : Sp := fun vs H Q _ => ∃ (s dq : Addr) (o : Wh), vs = [.ref s, .ref dq] ∧ (∀ nm, o = .inl nm → nm = "NoTicket" ∨ nm = "NoStake" ∨ nm = "NotAlike" ∨ nm = "TooMany") ∧ (∀ H' Q' E', Same H H' → OutG K o H' Q' E' → sp_done K [.ref s, .ref dq] H' Q' E') ∧ ∀ H' r, OutGV K H' r o → Same H H' → Q (.ref r) H'

section
variable {P : Program} {w : World} {K : PySem.W.Frag} {mg : Str → Option Value} {base : Heap}
theorem ok_l_done (T : Tx K mg w) (U : Unl P base) : FnOk P w K mg base CX0 41 T.l_done.f T.l_done.fd ["_law_stand", "_law_deed"] (sp_l_done K) := by
  refine T.l_done.F.ok sc_l_done (fun vs H Q E h => ?_) (fun cdv A outer s H vs Q E hr h => ?_)
  · obtain ⟨s, dq, o, rfl, hn, hd, q⟩ := h
    rfl
  · obtain ⟨s, dq, o, rfl, hn, hd, q⟩ := h
    refine ⟨_, (pss_cons (ps_try_as (i := 3) (Wout := fun _ _ _ _ => False) rfl rfl sc_l_done.nd rfl rfl ⟨rfl, by decide, Or.inl T.x_StallError.g⟩ takes0 (fun W pn xe tk _ => (pss_one (ps_set (i := 2) sc_l_done.nd rfl (.inl rfl) (by exact (pe_callS (ok_done T U) (hr.mono (by decide)) (by rfl) T.done.g T.done.F.kp T.done.b (fun σ => passAt tk σ) (pa_cons (pv 0) (pa_cons (pv 1) pa_nil))))))) (fun a oe cls d pn hz hf => (pss_one (ps_set (i := 2) sc_l_done.nd rfl (.inl rfl) (by exact (pe_tup (pa_cons (pe_callE hz hf (ok_l_class T U) (L2H.roomH_of (hr.mono (by decide))) (by rfl) T.l_class.g T.l_class.F.kp T.l_class.b (pa_cons (pv 3) pa_nil)) (pa_cons pe_non pa_nil))))))))
      (pss_one (ps_ret (pv 2)))), ?_⟩
    have kNoTicket : KindOf K T.x_NoTicket.C "NoTicket" := fun x m C c => by
      simp only [List.mem_cons, List.not_mem_nil, or_false] at m
      rcases m with rfl | rfl | rfl | rfl | rfl | rfl | rfl | rfl | rfl | rfl | rfl | rfl | rfl | rfl | rfl
      · obtain rfl := c.eq T.x_TooLong.ns
        rw [show (("TooLong" : Str) == "NoTicket") = false by decide +kernel]
        exact kit_own T.x_TooLong.ic T.x_TooLong.ty T.x_NoTicket.me T.i_NoTicket_TooLong
      · obtain rfl := c.eq T.x_TooMany.ns
        rw [show (("TooMany" : Str) == "NoTicket") = false by decide +kernel]
        exact kit_own T.x_TooMany.ic T.x_TooMany.ty T.x_NoTicket.me T.i_NoTicket_TooMany
      · obtain rfl := c.eq T.x_NoWorld.ns
        rw [show (("NoWorld" : Str) == "NoTicket") = false by decide +kernel]
        exact kit_own T.x_NoWorld.ic T.x_NoWorld.ty T.x_NoTicket.me T.i_NoTicket_NoWorld
      · obtain rfl := c.eq T.x_NotAlike.ns
        rw [show (("NotAlike" : Str) == "NoTicket") = false by decide +kernel]
        exact kit_own T.x_NotAlike.ic T.x_NotAlike.ty T.x_NoTicket.me T.i_NoTicket_NotAlike
      · obtain rfl := c.eq T.x_Unfair.ns
        rw [show (("Unfair" : Str) == "NoTicket") = false by decide +kernel]
        exact kit_own T.x_Unfair.ic T.x_Unfair.ty T.x_NoTicket.me T.i_NoTicket_Unfair
      · obtain rfl := c.eq T.x_Fair.ns
        rw [show (("Fair" : Str) == "NoTicket") = false by decide +kernel]
        exact kit_own T.x_Fair.ic T.x_Fair.ty T.x_NoTicket.me T.i_NoTicket_Fair
      · obtain rfl := c.eq T.x_NoBet.ns
        rw [show (("NoBet" : Str) == "NoTicket") = false by decide +kernel]
        exact kit_own T.x_NoBet.ic T.x_NoBet.ty T.x_NoTicket.me T.i_NoTicket_NoBet
      · obtain rfl := c.eq T.x_NoHolder.ns
        rw [show (("NoHolder" : Str) == "NoTicket") = false by decide +kernel]
        exact kit_own T.x_NoHolder.ic T.x_NoHolder.ty T.x_NoTicket.me T.i_NoTicket_NoHolder
      · obtain rfl := c.eq T.x_NoStake.ns
        rw [show (("NoStake" : Str) == "NoTicket") = false by decide +kernel]
        exact kit_own T.x_NoStake.ic T.x_NoStake.ty T.x_NoTicket.me T.i_NoTicket_NoStake
      · obtain rfl := c.eq T.x_NoTicket.ns
        rw [show (("NoTicket" : Str) == "NoTicket") = true by decide +kernel]
        exact kit_own T.x_NoTicket.ic T.x_NoTicket.ty T.x_NoTicket.me T.i_NoTicket_NoTicket
      · obtain rfl := c.eq T.x_NoCover.ns
        rw [show (("NoCover" : Str) == "NoTicket") = false by decide +kernel]
        exact kit_own T.x_NoCover.ic T.x_NoCover.ty T.x_NoTicket.me T.i_NoTicket_NoCover
      · obtain rfl := c.eq T.x_NoSaying.ns
        rw [show (("NoSaying" : Str) == "NoTicket") = false by decide +kernel]
        exact kit_own T.x_NoSaying.ic T.x_NoSaying.ty T.x_NoTicket.me T.i_NoTicket_NoSaying
      · obtain rfl := c.eq T.x_NoDeed.ns
        rw [show (("NoDeed" : Str) == "NoTicket") = false by decide +kernel]
        exact kit_own T.x_NoDeed.ic T.x_NoDeed.ty T.x_NoTicket.me T.i_NoTicket_NoDeed
      · obtain rfl := c.eq T.x_NoStep.ns
        rw [show (("NoStep" : Str) == "NoTicket") = false by decide +kernel]
        exact kit_own T.x_NoStep.ic T.x_NoStep.ty T.x_NoTicket.me T.i_NoTicket_NoStep
      · obtain rfl := c.eq T.x_NoText.ns
        rw [show (("NoText" : Str) == "NoTicket") = false by decide +kernel]
        exact kit_own T.x_NoText.ic T.x_NoText.ty T.x_NoTicket.me T.i_NoTicket_NoText
    have kNoStake : KindOf K T.x_NoStake.C "NoStake" := fun x m C c => by
      simp only [List.mem_cons, List.not_mem_nil, or_false] at m
      rcases m with rfl | rfl | rfl | rfl | rfl | rfl | rfl | rfl | rfl | rfl | rfl | rfl | rfl | rfl | rfl
      · obtain rfl := c.eq T.x_TooLong.ns
        rw [show (("TooLong" : Str) == "NoStake") = false by decide +kernel]
        exact kit_own T.x_TooLong.ic T.x_TooLong.ty T.x_NoStake.me T.i_NoStake_TooLong
      · obtain rfl := c.eq T.x_TooMany.ns
        rw [show (("TooMany" : Str) == "NoStake") = false by decide +kernel]
        exact kit_own T.x_TooMany.ic T.x_TooMany.ty T.x_NoStake.me T.i_NoStake_TooMany
      · obtain rfl := c.eq T.x_NoWorld.ns
        rw [show (("NoWorld" : Str) == "NoStake") = false by decide +kernel]
        exact kit_own T.x_NoWorld.ic T.x_NoWorld.ty T.x_NoStake.me T.i_NoStake_NoWorld
      · obtain rfl := c.eq T.x_NotAlike.ns
        rw [show (("NotAlike" : Str) == "NoStake") = false by decide +kernel]
        exact kit_own T.x_NotAlike.ic T.x_NotAlike.ty T.x_NoStake.me T.i_NoStake_NotAlike
      · obtain rfl := c.eq T.x_Unfair.ns
        rw [show (("Unfair" : Str) == "NoStake") = false by decide +kernel]
        exact kit_own T.x_Unfair.ic T.x_Unfair.ty T.x_NoStake.me T.i_NoStake_Unfair
      · obtain rfl := c.eq T.x_Fair.ns
        rw [show (("Fair" : Str) == "NoStake") = false by decide +kernel]
        exact kit_own T.x_Fair.ic T.x_Fair.ty T.x_NoStake.me T.i_NoStake_Fair
      · obtain rfl := c.eq T.x_NoBet.ns
        rw [show (("NoBet" : Str) == "NoStake") = false by decide +kernel]
        exact kit_own T.x_NoBet.ic T.x_NoBet.ty T.x_NoStake.me T.i_NoStake_NoBet
      · obtain rfl := c.eq T.x_NoHolder.ns
        rw [show (("NoHolder" : Str) == "NoStake") = false by decide +kernel]
        exact kit_own T.x_NoHolder.ic T.x_NoHolder.ty T.x_NoStake.me T.i_NoStake_NoHolder
      · obtain rfl := c.eq T.x_NoStake.ns
        rw [show (("NoStake" : Str) == "NoStake") = true by decide +kernel]
        exact kit_own T.x_NoStake.ic T.x_NoStake.ty T.x_NoStake.me T.i_NoStake_NoStake
      · obtain rfl := c.eq T.x_NoTicket.ns
        rw [show (("NoTicket" : Str) == "NoStake") = false by decide +kernel]
        exact kit_own T.x_NoTicket.ic T.x_NoTicket.ty T.x_NoStake.me T.i_NoStake_NoTicket
      · obtain rfl := c.eq T.x_NoCover.ns
        rw [show (("NoCover" : Str) == "NoStake") = false by decide +kernel]
        exact kit_own T.x_NoCover.ic T.x_NoCover.ty T.x_NoStake.me T.i_NoStake_NoCover
      · obtain rfl := c.eq T.x_NoSaying.ns
        rw [show (("NoSaying" : Str) == "NoStake") = false by decide +kernel]
        exact kit_own T.x_NoSaying.ic T.x_NoSaying.ty T.x_NoStake.me T.i_NoStake_NoSaying
      · obtain rfl := c.eq T.x_NoDeed.ns
        rw [show (("NoDeed" : Str) == "NoStake") = false by decide +kernel]
        exact kit_own T.x_NoDeed.ic T.x_NoDeed.ty T.x_NoStake.me T.i_NoStake_NoDeed
      · obtain rfl := c.eq T.x_NoStep.ns
        rw [show (("NoStep" : Str) == "NoStake") = false by decide +kernel]
        exact kit_own T.x_NoStep.ic T.x_NoStep.ty T.x_NoStake.me T.i_NoStake_NoStep
      · obtain rfl := c.eq T.x_NoText.ns
        rw [show (("NoText" : Str) == "NoStake") = false by decide +kernel]
        exact kit_own T.x_NoText.ic T.x_NoText.ty T.x_NoStake.me T.i_NoStake_NoText
    have kNotAlike : KindOf K T.x_NotAlike.C "NotAlike" := fun x m C c => by
      simp only [List.mem_cons, List.not_mem_nil, or_false] at m
      rcases m with rfl | rfl | rfl | rfl | rfl | rfl | rfl | rfl | rfl | rfl | rfl | rfl | rfl | rfl | rfl
      · obtain rfl := c.eq T.x_TooLong.ns
        rw [show (("TooLong" : Str) == "NotAlike") = false by decide +kernel]
        exact kit_own T.x_TooLong.ic T.x_TooLong.ty T.x_NotAlike.me T.i_NotAlike_TooLong
      · obtain rfl := c.eq T.x_TooMany.ns
        rw [show (("TooMany" : Str) == "NotAlike") = false by decide +kernel]
        exact kit_own T.x_TooMany.ic T.x_TooMany.ty T.x_NotAlike.me T.i_NotAlike_TooMany
      · obtain rfl := c.eq T.x_NoWorld.ns
        rw [show (("NoWorld" : Str) == "NotAlike") = false by decide +kernel]
        exact kit_own T.x_NoWorld.ic T.x_NoWorld.ty T.x_NotAlike.me T.i_NotAlike_NoWorld
      · obtain rfl := c.eq T.x_NotAlike.ns
        rw [show (("NotAlike" : Str) == "NotAlike") = true by decide +kernel]
        exact kit_own T.x_NotAlike.ic T.x_NotAlike.ty T.x_NotAlike.me T.i_NotAlike_NotAlike
      · obtain rfl := c.eq T.x_Unfair.ns
        rw [show (("Unfair" : Str) == "NotAlike") = false by decide +kernel]
        exact kit_own T.x_Unfair.ic T.x_Unfair.ty T.x_NotAlike.me T.i_NotAlike_Unfair
      · obtain rfl := c.eq T.x_Fair.ns
        rw [show (("Fair" : Str) == "NotAlike") = false by decide +kernel]
        exact kit_own T.x_Fair.ic T.x_Fair.ty T.x_NotAlike.me T.i_NotAlike_Fair
      · obtain rfl := c.eq T.x_NoBet.ns
        rw [show (("NoBet" : Str) == "NotAlike") = false by decide +kernel]
        exact kit_own T.x_NoBet.ic T.x_NoBet.ty T.x_NotAlike.me T.i_NotAlike_NoBet
      · obtain rfl := c.eq T.x_NoHolder.ns
        rw [show (("NoHolder" : Str) == "NotAlike") = false by decide +kernel]
        exact kit_own T.x_NoHolder.ic T.x_NoHolder.ty T.x_NotAlike.me T.i_NotAlike_NoHolder
      · obtain rfl := c.eq T.x_NoStake.ns
        rw [show (("NoStake" : Str) == "NotAlike") = false by decide +kernel]
        exact kit_own T.x_NoStake.ic T.x_NoStake.ty T.x_NotAlike.me T.i_NotAlike_NoStake
      · obtain rfl := c.eq T.x_NoTicket.ns
        rw [show (("NoTicket" : Str) == "NotAlike") = false by decide +kernel]
        exact kit_own T.x_NoTicket.ic T.x_NoTicket.ty T.x_NotAlike.me T.i_NotAlike_NoTicket
      · obtain rfl := c.eq T.x_NoCover.ns
        rw [show (("NoCover" : Str) == "NotAlike") = false by decide +kernel]
        exact kit_own T.x_NoCover.ic T.x_NoCover.ty T.x_NotAlike.me T.i_NotAlike_NoCover
      · obtain rfl := c.eq T.x_NoSaying.ns
        rw [show (("NoSaying" : Str) == "NotAlike") = false by decide +kernel]
        exact kit_own T.x_NoSaying.ic T.x_NoSaying.ty T.x_NotAlike.me T.i_NotAlike_NoSaying
      · obtain rfl := c.eq T.x_NoDeed.ns
        rw [show (("NoDeed" : Str) == "NotAlike") = false by decide +kernel]
        exact kit_own T.x_NoDeed.ic T.x_NoDeed.ty T.x_NotAlike.me T.i_NotAlike_NoDeed
      · obtain rfl := c.eq T.x_NoStep.ns
        rw [show (("NoStep" : Str) == "NotAlike") = false by decide +kernel]
        exact kit_own T.x_NoStep.ic T.x_NoStep.ty T.x_NotAlike.me T.i_NotAlike_NoStep
      · obtain rfl := c.eq T.x_NoText.ns
        rw [show (("NoText" : Str) == "NotAlike") = false by decide +kernel]
        exact kit_own T.x_NoText.ic T.x_NoText.ty T.x_NotAlike.me T.i_NotAlike_NoText
    have kTooMany : KindOf K T.x_TooMany.C "TooMany" := fun x m C c => by
      simp only [List.mem_cons, List.not_mem_nil, or_false] at m
      rcases m with rfl | rfl | rfl | rfl | rfl | rfl | rfl | rfl | rfl | rfl | rfl | rfl | rfl | rfl | rfl
      · obtain rfl := c.eq T.x_TooLong.ns
        rw [show (("TooLong" : Str) == "TooMany") = false by decide +kernel]
        exact kit_own T.x_TooLong.ic T.x_TooLong.ty T.x_TooMany.me T.i_TooMany_TooLong
      · obtain rfl := c.eq T.x_TooMany.ns
        rw [show (("TooMany" : Str) == "TooMany") = true by decide +kernel]
        exact kit_own T.x_TooMany.ic T.x_TooMany.ty T.x_TooMany.me T.i_TooMany_TooMany
      · obtain rfl := c.eq T.x_NoWorld.ns
        rw [show (("NoWorld" : Str) == "TooMany") = false by decide +kernel]
        exact kit_own T.x_NoWorld.ic T.x_NoWorld.ty T.x_TooMany.me T.i_TooMany_NoWorld
      · obtain rfl := c.eq T.x_NotAlike.ns
        rw [show (("NotAlike" : Str) == "TooMany") = false by decide +kernel]
        exact kit_own T.x_NotAlike.ic T.x_NotAlike.ty T.x_TooMany.me T.i_TooMany_NotAlike
      · obtain rfl := c.eq T.x_Unfair.ns
        rw [show (("Unfair" : Str) == "TooMany") = false by decide +kernel]
        exact kit_own T.x_Unfair.ic T.x_Unfair.ty T.x_TooMany.me T.i_TooMany_Unfair
      · obtain rfl := c.eq T.x_Fair.ns
        rw [show (("Fair" : Str) == "TooMany") = false by decide +kernel]
        exact kit_own T.x_Fair.ic T.x_Fair.ty T.x_TooMany.me T.i_TooMany_Fair
      · obtain rfl := c.eq T.x_NoBet.ns
        rw [show (("NoBet" : Str) == "TooMany") = false by decide +kernel]
        exact kit_own T.x_NoBet.ic T.x_NoBet.ty T.x_TooMany.me T.i_TooMany_NoBet
      · obtain rfl := c.eq T.x_NoHolder.ns
        rw [show (("NoHolder" : Str) == "TooMany") = false by decide +kernel]
        exact kit_own T.x_NoHolder.ic T.x_NoHolder.ty T.x_TooMany.me T.i_TooMany_NoHolder
      · obtain rfl := c.eq T.x_NoStake.ns
        rw [show (("NoStake" : Str) == "TooMany") = false by decide +kernel]
        exact kit_own T.x_NoStake.ic T.x_NoStake.ty T.x_TooMany.me T.i_TooMany_NoStake
      · obtain rfl := c.eq T.x_NoTicket.ns
        rw [show (("NoTicket" : Str) == "TooMany") = false by decide +kernel]
        exact kit_own T.x_NoTicket.ic T.x_NoTicket.ty T.x_TooMany.me T.i_TooMany_NoTicket
      · obtain rfl := c.eq T.x_NoCover.ns
        rw [show (("NoCover" : Str) == "TooMany") = false by decide +kernel]
        exact kit_own T.x_NoCover.ic T.x_NoCover.ty T.x_TooMany.me T.i_TooMany_NoCover
      · obtain rfl := c.eq T.x_NoSaying.ns
        rw [show (("NoSaying" : Str) == "TooMany") = false by decide +kernel]
        exact kit_own T.x_NoSaying.ic T.x_NoSaying.ty T.x_TooMany.me T.i_TooMany_NoSaying
      · obtain rfl := c.eq T.x_NoDeed.ns
        rw [show (("NoDeed" : Str) == "TooMany") = false by decide +kernel]
        exact kit_own T.x_NoDeed.ic T.x_NoDeed.ty T.x_TooMany.me T.i_TooMany_NoDeed
      · obtain rfl := c.eq T.x_NoStep.ns
        rw [show (("NoStep" : Str) == "TooMany") = false by decide +kernel]
        exact kit_own T.x_NoStep.ic T.x_NoStep.ty T.x_TooMany.me T.i_TooMany_NoStep
      · obtain rfl := c.eq T.x_NoText.ns
        rw [show (("NoText" : Str) == "TooMany") = false by decide +kernel]
        exact kit_own T.x_NoText.ic T.x_NoText.ty T.x_TooMany.me T.i_TooMany_NoText
    refine ⟨_, rfl, _, rfl, hd _ _ _ (Same.refl _) ?_⟩
    cases o with
    | inr x =>
      exact fun H2 r sp u a b c s2 => ⟨_, rfl, q H2 r ⟨u, sp, a, b, c⟩ s2⟩
    | inl nm =>
    have hn := hn nm rfl
    intro C hC d H2 dk s2
    rcases hn with rfl | rfl | rfl | rfl
    · obtain rfl := hC.eq T.x_NoTicket.ns
      refine ⟨true, exm_own T.x_StallError.sb T.x_StallError.ic T.x_StallError.ty T.i_NoTicket_StallError, fun _ a na => ?_, fun z => nomatch z⟩
      refine ⟨_, rfl, T.x_NoTicket.C, "NoTicket", rfl, rfl, dk, T.x_NoTicket.ec, kit_val (by decide +kernel) T.v_NoTicket, kNoTicket, by simp, fun H3 s3 => ⟨by show 2 ≤ sizeLine; decide, fun p np => ?_⟩⟩
      have s4 := same_upd (o := .tup [.str "NoTicket", .non]) np
      exact ⟨_, rfl, q _ p sqt_upd (s2.trans (s3.trans s4))⟩
    · obtain rfl := hC.eq T.x_NoStake.ns
      refine ⟨true, exm_own T.x_StallError.sb T.x_StallError.ic T.x_StallError.ty T.i_NoStake_StallError, fun _ a na => ?_, fun z => nomatch z⟩
      refine ⟨_, rfl, T.x_NoStake.C, "NoStake", rfl, rfl, dk, T.x_NoStake.ec, kit_val (by decide +kernel) T.v_NoStake, kNoStake, by simp, fun H3 s3 => ⟨by show 2 ≤ sizeLine; decide, fun p np => ?_⟩⟩
      have s4 := same_upd (o := .tup [.str "NoStake", .non]) np
      exact ⟨_, rfl, q _ p sqt_upd (s2.trans (s3.trans s4))⟩
    · obtain rfl := hC.eq T.x_NotAlike.ns
      refine ⟨true, exm_own T.x_StallError.sb T.x_StallError.ic T.x_StallError.ty T.i_NotAlike_StallError, fun _ a na => ?_, fun z => nomatch z⟩
      refine ⟨_, rfl, T.x_NotAlike.C, "NotAlike", rfl, rfl, dk, T.x_NotAlike.ec, kit_val (by decide +kernel) T.v_NotAlike, kNotAlike, by simp, fun H3 s3 => ⟨by show 2 ≤ sizeLine; decide, fun p np => ?_⟩⟩
      have s4 := same_upd (o := .tup [.str "NotAlike", .non]) np
      exact ⟨_, rfl, q _ p sqt_upd (s2.trans (s3.trans s4))⟩
    · obtain rfl := hC.eq T.x_TooMany.ns
      refine ⟨true, exm_own T.x_StallError.sb T.x_StallError.ic T.x_StallError.ty T.i_TooMany_StallError, fun _ a na => ?_, fun z => nomatch z⟩
      refine ⟨_, rfl, T.x_TooMany.C, "TooMany", rfl, rfl, dk, T.x_TooMany.ec, kit_val (by decide +kernel) T.v_TooMany, kTooMany, by simp, fun H3 s3 => ⟨by show 2 ≤ sizeLine; decide, fun p np => ?_⟩⟩
      have s4 := same_upd (o := .tup [.str "TooMany", .non]) np
      exact ⟨_, rfl, q _ p sqt_upd (s2.trans (s3.trans s4))⟩
end
end B

namespace B
open PySem PySem.Spec PyProof.Rows L2

def sp_l_alike_stand (K : PySem.W.Frag) : Sp := fun vs H Q _ => ∃ (d : Dr) (b : Nat), vs = [.ref d.dr] ∧ Drw H d (b + 3000) ∧ ∀ (H' : Hp) (a : Addr) (S : Std), StdAt K H' a S → StdK S 30720 1290240000000 0 → S.ts ≠ [] → Drw H' d b → Kp d H H' → Q (.ref a) H'

section
variable {P : Program} {w : World} {K : PySem.W.Frag} {mg : Str → Option Value} {base : Heap}
theorem ok_l_alike_stand (T : Tx K mg w) (U : Unl P base) : FnOk P w K mg base CX0 42 T.l_alike_stand.f T.l_alike_stand.fd ["_law_drawn"] (sp_l_alike_stand K) := by
  refine T.l_alike_stand.F.ok sc_l_alike_stand (fun vs H Q E h => ?_) (fun cdv A outer s H vs Q E hr h => ?_)
  · obtain ⟨d, b, rfl, hD, q⟩ := h
    rfl
  · obtain ⟨d, b, rfl, hD, q⟩ := h
    refine ⟨_, (pss_cons (ps_set (i := 1) sc_l_alike_stand.nd rfl (.inl rfl) (pe_call (ok_l_place T U) (hr.mono (by decide)) (by rfl) T.l_place.g T.l_place.F.kp T.l_place.b .nil pass0 (pa_cons (pv 0) pa_nil)))
      (pss_cons (ps_set (i := 2) sc_l_alike_stand.nd rfl (.inl rfl) (pe_ix ix_list (pe_lst (pa_cons pe_int (pa_cons pe_int (pa_cons pe_int (pa_cons pe_int (pa_cons pe_int pa_nil)))))) (pe_call (ok_l_next T U) (hr.mono (by decide)) (by rfl) T.l_next.g T.l_next.F.kp T.l_next.b .nil pass0 (pa_cons (pv 0) (pa_cons pe_int pa_nil))) (fun _ _ => rfl)))
      (pss_cons (ps_set (i := 3) sc_l_alike_stand.nd rfl (.inl rfl) (pe_call (ok_l_tickets T U) (hr.mono (by decide)) (by rfl) T.l_tickets.g T.l_tickets.F.kp T.l_tickets.b .nil pass0 (pa_cons (pv 0) (pa_cons (pv 1) (pa_cons (pv 2) (pa_cons (pe_op op_add pe_int (pe_call (ok_l_next T U) (hr.mono (by decide)) (by rfl) T.l_next.g T.l_next.F.kp T.l_next.b .nil pass0 (pa_cons (pv 0) (pa_cons pe_int pa_nil)))) pa_nil))))))
      (pss_cons (ps_set (i := 4) sc_l_alike_stand.nd rfl (.inl rfl) (pe_ix ix_list (pe_lst (pa_cons pe_int (pa_cons pe_int (pa_cons pe_int (pa_cons pe_int pa_nil))))) (pe_call (ok_l_next T U) (hr.mono (by decide)) (by rfl) T.l_next.g T.l_next.F.kp T.l_next.b .nil pass0 (pa_cons (pv 0) (pa_cons pe_int pa_nil))) (fun _ _ => rfl)))
      (pss_cons (ps_set (i := 3) sc_l_alike_stand.nd rfl (.inl rfl) (pe_call (ok_l_likes T U) (hr.mono (by decide)) (by rfl) T.l_likes.g T.l_likes.F.kp T.l_likes.b .nil pass0 (pa_cons (pv 0) (pa_cons (pv 3) (pa_cons (pv 4) pa_nil)))))
      (pss_cons (ps_set (i := 5) sc_l_alike_stand.nd rfl (.inl rfl) (pe_op op_catS (pe_tup (pa_cons (pe_call (ok_l_offers T U) (hr.mono (by decide)) (by rfl) T.l_offers.g T.l_offers.F.kp T.l_offers.b .nil pass0 (pa_cons (pv 0) (pa_cons (pv 1) (pa_cons pe_int pa_nil)))) pa_nil)) (pe_op op_repN (pe_tup (pa_cons (pe_tup pa_nil) pa_nil)) (pe_op op_sub (pv 2) pe_int))))
      (pss_cons (ps_set (i := 6) sc_l_alike_stand.nd rfl (.inl rfl) (pe_op op_add (pe_op op_add (pe_ix ix_tup (pe_ix ix_tup (pv 3) (pe_un un_neg pe_int) (fun _ _ => rfl)) pe_int (fun _ _ => rfl)) pe_int) (pe_call (ok_l_next T U) (hr.mono (by decide)) (by rfl) T.l_next.g T.l_next.F.kp T.l_next.b .nil pass0 (pa_cons (pv 0) (pa_cons pe_int pa_nil)))))
      (pss_cons (ps_set (i := 7) sc_l_alike_stand.nd rfl (.inl rfl) (pe_call (ok_l_purses T U) (hr.mono (by decide)) (by rfl) T.l_purses.g T.l_purses.F.kp T.l_purses.b .nil pass0 (pa_cons (pv 0) (pa_cons (pv 1) (pa_cons (pv 2) (pa_cons (pv 3) pa_nil))))))
      (pss_one (ps_ret (pe_tup (pa_cons (pv 1) (pa_cons (pv 7) (pa_cons (pv 3) (pa_cons (pv 5) (pa_cons (pv 6) pa_nil)))))))))))))))), ?_⟩
    refine ⟨_, rfl, d, b + 2900, rfl, hD.less (by omega), fun H1 h cs rs hH hO hL _ hne r1 r3 w1 k1 => ?_⟩
    have c1 := hL.pos
    refine ⟨by show 5 ≤ sizeLine; decide, fun L nL => ?_⟩
    have sL := same_upd (o := .lst [.int 2, .int 3, .int 3, .int 4, .int 6]) nL
    have nL1 := w1.no nL
    refine ⟨_, rfl, d, b + 2899, 5, rfl, by decide, by decide, w1.same sL, fun H2 r r0 r1' w2 k2 => ?_⟩
    obtain ⟨i, rfl⟩ := Int.eq_ofNat_of_zero_le r0
    obtain ⟨n, hix, n2, n6⟩ : ∃ n : Nat, atI [V.int 2, .int 3, .int 3, .int 4, .int 6] (i : Int) = some (.int n) ∧ 2 ≤ n ∧ n ≤ 6 := by
      have : i = 0 ∨ i = 1 ∨ i = 2 ∨ i = 3 ∨ i = 4 := by omega
      rcases this with rfl | rfl | rfl | rfl | rfl
      · exact ⟨2, rfl, by decide, by decide⟩
      · exact ⟨3, rfl, by decide, by decide⟩
      · exact ⟨3, rfl, by decide, by decide⟩
      · exact ⟨4, rfl, by decide, by decide⟩
      · exact ⟨6, rfl, by decide, by decide⟩
    refine ⟨L, _, (i : Int), .int n, rfl, rfl, .inl (.inl (k2 _ _ upd_same nL1.1 nL1.2)), hix, ?_⟩
    have K2 : Kp d H1 H2 := (Same.kp sL).trans k2
    have T12 : Tk K H1 H2 := fun _ _ t => Kp.tup K2 w1 t
    refine ⟨_, rfl, _, rfl, _, rfl, _, rfl, d, b + 2898, 3, rfl, by decide, by decide, w2, fun H3 r' r0' r1'' w3 k3 => ?_⟩
    obtain ⟨m, rfl⟩ := Int.eq_ofNat_of_zero_le r0'
    have T13 : Tk K H1 H3 := fun _ _ t => Kp.tup k3 w2 (T12 _ _ t)
    refine ⟨_, _, rfl, rfl, d, b + 2000, n, 1 + m, h, cs, rs, by rw [show (fun i j : Int => V.int (i + j)) 1 (m : Int) = V.int ((1 + m : Nat) : Int) from congrArg V.int (by omega)]; rfl, n2, n6, by omega, hH.mono T13, hO, c1, hne, w3.less (by omega), fun H4 T' tvs tks tT4 fT4 hW hl w4 k4 => ?_⟩
    have T34 : Tk K H3 H4 := fun _ _ t => Kp.tup k4 w3 t
    refine ⟨by show 4 ≤ sizeLine; decide, fun L4 nL4 => ?_⟩
    have s4 := same_upd (o := .lst [.int 3, .int 2, .int 9, .int 3]) nL4
    have nL41 := w4.no nL4
    refine ⟨_, rfl, d, b + 1999, 4, rfl, by decide, by decide, w4.same s4, fun H5 r'' r0'' r1''' w5 k5 => ?_⟩
    obtain ⟨y, rfl⟩ := Int.eq_ofNat_of_zero_le r0''
    obtain ⟨mo, hixm, m9⟩ : ∃ mo : Nat, atI [V.int 3, .int 2, .int 9, .int 3] (y : Int) = some (.int mo) ∧ mo ≤ 9 := by
      have : y = 0 ∨ y = 1 ∨ y = 2 ∨ y = 3 := by omega
      rcases this with rfl | rfl | rfl | rfl
      · exact ⟨3, rfl, by decide⟩
      · exact ⟨2, rfl, by decide⟩
      · exact ⟨9, rfl, by decide⟩
      · exact ⟨3, rfl, by decide⟩
    refine ⟨L4, _, (y : Int), .int mo, rfl, rfl, .inl (.inl (k5 _ _ upd_same nL41.1 nL41.2)), hixm, ?_⟩
    have T45 : Tk K H4 H5 := fun _ _ t => Kp.tup k5 (w4.same s4) (Same.tup s4 t)
    refine ⟨_, rfl, _, rfl, _, rfl, d, b + 1900, n, 10 * (1 + m), mo, T', tvs, cs, tks, rfl, m9, T45 _ _ tT4, tks_tk fT4 T45, (fun z => by rw [z] at hl; simp at hl; omega), by omega, (fun t ht => by obtain ⟨y1, y2, y3, y4, y5, _⟩ := hW.w t ht; exact ⟨⟨y1.b, y1.p, y1.k, y1.k0⟩, y2, y3, y4, y5⟩), by omega, hW.r, w5.less (by omega), fun H6 T2 tvs2 tks2 N tT6 fT6 ne6 l12 hW6 hN6 hr6 w6 k6 => ?_⟩
    have T56 : Tk K H5 H6 := fun _ _ t => Kp.tup k6 w5 t
    have T16 : Tk K H1 H6 := fun _ _ t => T56 _ _ (T45 _ _ (T34 _ _ (T13 _ _ t)))
    refine ⟨_, rfl, _, rfl, d, b + 1800, 1, h, cs, rs, rfl, by decide, hH.mono T16, hO, c1, hne, w6.less (by omega), fun H7 vo bds hB lb hbd w7 k7 => ⟨by show 1 ≤ sizeLine; decide, fun o1 no1 => ?_⟩⟩
    have T67 : Tk K H6 H7 := fun _ _ t => Kp.tup k7 w6 t
    have e1 := same_upd (o := .tup [vo]) no1
    refine ⟨by show 0 ≤ sizeLine; decide, fun a0 na0 => ⟨by show 1 ≤ sizeLine; decide, fun a1 na1 => ?_⟩⟩
    have e2 := same_upd (o := .tup []) na0
    have e3 := same_upd (o := .tup [.ref a0]) na1
    refine ⟨_, rfl, _, _, rfl, rfl, a1, (n : Int) - 1, [.ref a0], rfl, rfl, sqt_upd, by simp, by omega, by omega, by show 1 ≤ 1000; decide, fun a2 H8 ta2 e4 => ?_⟩
    rw [show ((n : Int) - 1).toNat = n - 1 by omega, flat_rep] at ta2
    refine ⟨o1, a2, _, _, rfl, rfl, Same.tup (e2.trans (e3.trans e4)) sqt_upd, ta2, by rw [List.length_replicate]; show 1 + (n - 1) ≤ 100000; omega, fun ls H9 tls e5 => ?_⟩
    have tls : SqT K H9 ls ([vo] ++ List.replicate (n - 1) (.ref a0)) := tls
    have E5 := e1.trans (e2.trans (e3.trans (e4.trans e5)))
    have w9 := w7.same E5
    have T69 : Tk K H6 H9 := fun _ _ t => Same.tup E5 (T67 _ _ t)
    obtain ⟨l0, t0, e0⟩ : ∃ l t, tks2 = l ++ [t] := by
      rcases List.eq_nil_or_concat tks2 with e | ⟨l, t, e⟩
      · exact absurd e ne6
      · exact ⟨l, t, by rw [e, List.concat_eq_append]⟩
    have gl : tks2[tks2.length - 1]? = some t0 := by
      rw [e0, List.length_append, List.length_singleton, Nat.add_sub_cancel, List.getElem?_append_right (Nat.le_refl _), Nat.sub_self]
      rfl
    have tN : t0.n = N := by
      rw [e0] at hN6
      simpa using hN6
    have lt6 := fT6.len
    have pos6 := List.length_pos_iff.mpr ne6
    obtain ⟨vl', hvl, hTl⟩ := (tks_tk fT6 T69).getB gl
    obtain ⟨tq', ba, pa, ka, rfl, t1, _⟩ := id hTl
    refine ⟨_, rfl, 1, rfl, T2, tvs2, (-1), .ref tq', rfl, rfl, T69 _ _ tT6, atI_end (k := tks2.length - 1) (by omega) hvl, tq', _, 0, .int t0.n, rfl, rfl, t1, rfl, _, _, rfl, rfl, _, rfl, d, b + 1799, 2, rfl, by decide, by decide, w9.less (by omega), fun H10 z z0 z1 w10 k10 => ?_⟩
    obtain ⟨zz, rfl⟩ := Int.eq_ofNat_of_zero_le z0
    refine ⟨_, _, rfl, rfl, ?_⟩
    rw [show (fun i j : Int => V.int (i + j)) ((t0.n : Int) + 1) (zz : Int) = V.int ((t0.n + 1 + zz : Nat) : Int) from congrArg V.int (by omega)]
    have T910 : Tk K H9 H10 := fun _ _ t => Kp.tup k10 w9 t
    have T610 : Tk K H6 H10 := fun _ _ t => T910 _ _ (T69 _ _ t)
    refine ⟨_, rfl, _, rfl, _, rfl, _, rfl, d, b + 1000, n, h, T2, tvs2, cs, rs, tks2, rfl, n6, (hH.mono T16).mono T610, hO, hne, T610 _ _ tT6, tks_tk fT6 T610, (fun t ht => ⟨(hW6 t ht).1, (hW6 t ht).2.1, (hW6 t ht).2.2.1⟩), l12, w10.less (by omega), fun H11 P pvs ps tP fP lp hP w11 k11 => ?_⟩
    have T1011 : Tk K H10 H11 := fun _ _ t => Kp.tup k11 w10 t
    refine ⟨_, rfl, _, rfl, _, rfl, _, rfl, _, rfl, by show 5 ≤ sizeLine; decide, fun st nst => ?_⟩
    have u4 := same_upd (o := .tup [.ref h, .ref P, .ref T2, .ref ls, .int ((t0.n + 1 + zz : Nat) : Int)]) nst
    have T11 : Tk K H11 (tgt u4) := Same.tk u4
    have T6F : Tk K H6 (tgt u4) := fun _ _ t => T11 _ _ (T1011 _ _ (T610 _ _ t))
    have T9F : Tk K H9 (tgt u4) := fun _ _ t => T11 _ _ (T1011 _ _ (T910 _ _ t))
    have KK : Kp d H (tgt u4) := k1.trans (K2.trans (k3.trans (k4.trans ((Same.kp s4).trans (k5.trans (k6.trans (k7.trans ((Same.kp E5).trans (k10.trans (k11.trans (Same.kp u4)))))))))))
    refine q _ st ⟨cs, rs, ps, tks2, [bds] ++ List.replicate (n - 1) [], t0.n + 1 + zz⟩ ⟨h, P, T2, ls, pvs, tvs2, _, sqt_upd, (hH.mono T16).mono T6F, T11 _ _ tP, fas_tk fP T11, T6F _ _ tT6, tks_tk fT6 T6F, T9F _ _ tls, (F2.one (hB.mono fun _ _ t => T9F _ _ (Same.tup E5 t))).app (f2_rep ⟨a0, [], rfl, T9F _ _ (Same.tup (e3.trans (e4.trans e5)) sqt_upd), .nil⟩)⟩ ⟨hO, hL, hne, by show 2 ≤ ps.length; omega, by show ps.length ≤ 6; omega, fun t ht => ?_, ⟨hr6, fun t ht => ?_⟩, by decide, by decide, by decide, by decide, hP, l12, by show ([bds] ++ List.replicate (n - 1) ([] : List Bd)).length = ps.length; rw [List.length_append, List.length_replicate]; show 1 + (n - 1) = _; omega, fun b' hb' => ?_⟩ ne6 ((w11.same u4).less (by omega)) KK
    · obtain ⟨y1, y2, y3, _⟩ := hW6 t ht
      exact ⟨y1.up (Nat.dvd_refl _) (by decide), by show t.l < ps.length; omega, by show t.s < ps.length; omega⟩
    · obtain ⟨_, _, _, y4, y5⟩ := hW6 t ht
      exact ⟨by show t.n < t0.n + 1 + zz; omega, y4⟩
    · rcases List.mem_append.mp hb' with z | z
      · rw [List.mem_singleton.mp z]
        exact ⟨by omega, fun x hx => (hbd x hx).1.ok⟩
      · rw [List.eq_of_mem_replicate z]
        exact ⟨by decide, nofun⟩
end
end B

namespace B
open PySem PySem.Spec PyProof.Rows L2

def spn_l_just (K : PySem.W.Frag) : Nat → Sp
  | 0 => fun _ _ _ _ => False
  | n + 1 => fun vs H Q _ => ∃ (v v' : V) (d : PyData), vs = [v, v'] ∧ Dq K H v d ∧ Dq K H v' d ∧ plJ (n + 1) d = true ∧ ∀ H', Same H H' → Q (.bl true) H'

section
variable {P : Program} {w : World} {K : PySem.W.Frag} {mg : Str → Option Value} {base : Heap}
theorem okn_l_just (T : Tx K mg w) (U : Unl P base) : ∀ n : Nat, FnOk P w K mg base CX0 (36 + n) T.l_just.f T.l_just.fd ["_law_thing", "_law_due"] (spn_l_just K n)
  | 0 => T.l_just.F.ok sc_l_just (fun vs H Q E h => h.elim) (fun cdv A outer s H vs Q E hr h => h.elim)
  | n + 1 => by
    have ih := okn_l_just T U n
    refine T.l_just.F.ok sc_l_just (fun vs H Q E h => ?_) (fun cdv A outer s H vs Q E hr h => ?_)
    · obtain ⟨v, v', d, rfl, hA, hB, hp, q⟩ := h
      rfl
    · obtain ⟨v, v', d, rfl, hA, hB, hp, q⟩ := h
      refine ⟨_, (pss_cons (ps_if (pt_val (pe_callB call_isi (by rfl) T.m_isinstance (by decide +kernel) (pa_cons (pv 1) (pa_cons (pe_bltn (v := .ty "tuple") (u := .type "tuple") (by rfl) T.m_tuple (by decide +kernel) rfl) pa_nil)))) (pss_cons (ps_if (PW.pt (pw_or (pt_not (pt_val (pe_callB call_isi (by rfl) T.m_isinstance (by decide +kernel) (pa_cons (pv 0) (pa_cons (pe_bltn (v := .ty "tuple") (u := .type "tuple") (by rfl) T.m_tuple (by decide +kernel) rfl) pa_nil))))) (pw_or1 (pt_cmpR op_ne (pe_callB call_len_seq (by rfl) T.m_len (by decide +kernel) (pa_cons (pv 0) pa_nil)) (pe_callB call_len_seq (by rfl) T.m_len (by decide +kernel) (pa_cons (pv 1) pa_nil)) (nomark _))))) (pss_one (ps_ret pe_bl)) pss_nil)
      (pss_one (ps_ret (pe_cmpR (op_eqL0 hr.units) (pe_lc (own := [("_law_one", 2), ("_law_other", 3)]) (g := (gTup K 2 (gCons (gName 2) (gCons (gName 3) gNil)))) rfl sc_l_just.nd (pi_zipG (by rfl) T.m_zip (pa_cons (pv 0) (pa_cons (pv 1) pa_nil))) (blkOk_by (own := [("_law_one", 2), ("_law_other", 3)]) (N := N_l_just) (sc := defScope s_l_just) (by decide +kernel)) (fun _ _ _ _ _ => (pg_tup rfl (pgs_cons (pg_name (i := 2) sc_l_just.nd rfl (.inl rfl)) (pgs_cons (pg_name (i := 3) sc_l_just.nd rfl (.inl rfl)) pgs_nil)))) (fun _ _ _ _ _ => (pts_one (pt_not (pt_val (pe_call ih (hr.mono (by (try simp only [Nat.add_eq]); omega)) (by rfl) T.l_just.g T.l_just.F.kp T.l_just.b .nil pass0 (pa_cons (pv 2) (pa_cons (pv 3) pa_nil))))))) (fun _ _ _ _ _ => pe_int)) (pe_lst pa_nil) (nomark _))))) pss_nil)
      (pss_cons (ps_if (pt_cmpR op_isN (pv 1) pe_non (nomark _)) (pss_one (ps_ret (pe_cmpR op_isN (pv 0) pe_non (nomark _)))) pss_nil)
      (pss_cons (ps_if (pt_val (pe_callB call_isi (by rfl) T.m_isinstance (by decide +kernel) (pa_cons (pv 1) (pa_cons (pe_bltn (v := .ty "str") (u := .type "str") (by rfl) T.m_str (by decide +kernel) rfl) pa_nil)))) (pss_one (ps_ret (pe_and (pe_callB call_isi (by rfl) T.m_isinstance (by decide +kernel) (pa_cons (pv 0) (pa_cons (pe_bltn (v := .ty "str") (u := .type "str") (by rfl) T.m_str (by decide +kernel) rfl) pa_nil))) (pe_one (pe_cmpR op_eq (pv 0) (pv 1) (nomark _)))))) pss_nil)
      (pss_one (ps_ret (pe_and (pe_call (ok_l_whole T U) (hr.mono (by (try simp only [Nat.add_eq]); omega)) (by rfl) T.l_whole.g T.l_whole.F.kp T.l_whole.b .nil pass0 (pa_cons (pv 0) pa_nil)) (pe_one (pe_cmpR op_eq (pv 0) (pv 1) (nomark _))))))))), ?_⟩
      have tA := dq_th hA
      have tB := dq_th hB
      refine ⟨_, rfl, _, .ty "tuple", .type (tyN d), .type "tuple", isT d, rfl, .ty _, tB.ty, kit_ty (kit_tup d), _, rfl, ?_⟩
      cases d with
      | none =>
        cases hA
        cases hB
        exact iteF ⟨_, rfl, rfl, _, rfl, iteT ⟨_, rfl, rfl, q _ (Same.refl _)⟩⟩
      | int i =>
        cases hA
        cases hB
        refine iteF ⟨_, rfl, rfl, _, rfl, iteF ⟨_, rfl, _, .ty "str", .type (tyN (.int i)), .type "str", isS (.int i), rfl, .ty _, tB.ty, kit_ty (kit_str (.int i)), _, rfl, iteF ?_⟩⟩
        refine ⟨_, rfl, i, rfl, _, rfl, iteT ⟨_, rfl, _, rfl, rfl, ?_⟩⟩
        rw [eq_same]
        exact q _ (Same.refl _)
      | str x =>
        cases hA
        cases hB
        refine iteF ⟨_, rfl, rfl, _, rfl, iteF ⟨_, rfl, _, .ty "str", .type (tyN (.str x)), .type "str", isS (.str x), rfl, .ty _, tB.ty, kit_ty (kit_str (.str x)), _, rfl, iteT ?_⟩⟩
        refine ⟨_, rfl, _, .ty "str", .type (tyN (.str x)), .type "str", isS (.str x), rfl, .ty _, tA.ty, kit_ty (kit_str (.str x)), _, rfl, iteT ⟨_, rfl, _, rfl, rfl, ?_⟩⟩
        rw [eq_same]
        exact q _ (Same.refl _)
      | tuple ds =>
        cases hA with
        | tup sA aA =>
        cases hB with
        | tup sB aB =>
        rename_i a xs b ys
        have hp : (decide (ds.length ≤ 1000) && ds.all (plJ n)) = true := hp
        rw [Bool.and_eq_true, decide_eq_true_eq] at hp
        have lA := aA.len
        have lB := aB.len
        refine iteT ⟨_, rfl, _, .ty "tuple", .type (tyN (.tuple ds)), .type "tuple", isT (.tuple ds), rfl, .ty _, tA.ty, kit_ty (kit_tup (.tuple ds)), _, rfl, iteF ?_⟩
        refine ⟨_, rfl, a, xs, rfl, .inr sA, _, rfl, b, ys, rfl, .inr sB, rfl, _, rfl, iteE (by rw [lA, lB]; simp) ?_⟩
        refine ⟨_, rfl, _, rfl, .t, .t, .ref a, .ref b, _, _, rfl, ⟨a, rfl, sA⟩, ⟨b, rfl, sB⟩, fun D nD => ?_⟩
        refine lcp_it (K := K) (walk_zipG (xs := xs) (ys := ys)) (fun _ => (none : Option Unit)) (fun _ _ _ => True) (fun _ _ _ _ _ _ => trivial) nD (Nat.lt_of_le_of_lt (show min xs.length ys.length ≤ 1000 by omega) (by decide)) (fun H' s => ⟨⟨a, rfl, Same.tup s sA⟩, ⟨b, rfl, Same.tup s sB⟩⟩) ?_ ?_
        · rintro i v H2 _ hi s2 ⟨tq, x, y, rfl, nT, rfl, hx, hy⟩ Y N hYes hNo
          have sT := same_upd (o := .tup [x, y]) nT
          have S := s2.trans sT
          obtain ⟨dx, hdx, qx⟩ := (dqAll_f2 (dqAll_same S aA)).getA hx
          obtain ⟨dy, hdy, qy⟩ := (dqAll_f2 (dqAll_same S aB)).getA hy
          rw [hdx] at hdy
          cases hdy
          have pl := List.all_eq_true.mp hp.2 dx (List.mem_of_getElem? hdx)
          refine ⟨tq, _, rfl, sqt_upd, rfl, _, _, rfl, _, _, rfl, rfl, rfl, ?_⟩
          cases n with
          | zero => exact nomatch (show false = true from pl)
          | succ n' => exact ⟨_, rfl, _, rfl, x, y, dx, rfl, qx, qy, pl, fun H3 s3 => ⟨_, rfl, iteF (hNo _ (sT.trans s3) rfl)⟩⟩
        intro H2 zs h2 f2 s2
        refine ⟨by decide, fun E nE => ?_⟩
        have s3 := same_upd (o := .lst []) nE
        refine ⟨D, E, zs, rfl, rfl, .inl (.inl (s3 _ _ h2)), sql_upd, ?_⟩
        have ez : zs.isEmpty = true := by
          have := f2.len
          have e0 : ∀ m : Nat, ((List.range m).filterMap fun _ => (none : Option Unit)).length = 0 := fun m => by simp
          rw [e0] at this
          rw [List.isEmpty_iff]
          exact List.length_eq_zero_iff.mp this
        rw [ez]
        exact q _ (s2.trans s3)
      | _ => exact nomatch (show false = true from hp)
theorem ok_l_just (T : Tx K mg w) (U : Unl P base) : FnOk P w K mg base CX0 46 T.l_just.f T.l_just.fd ["_law_thing", "_law_due"] (spn_l_just K 10) := okn_l_just T U 10
end
end B

namespace B
open PySem PySem.Spec PyProof.Rows L2

def sp_l_is (K : PySem.W.Frag) : Sp := fun vs H Q _ => ∃ (s dq : Addr) (u1 u2 : V) (o : Wh), vs = [.ref s, .ref dq, u1, u2] ∧ (∀ nm, o = .inl nm → nm = "NoTicket" ∨ nm = "NoStake" ∨ nm = "NotAlike" ∨ nm = "TooMany") ∧ (∀ H' Q' E', Same H H' → OutG K o H' Q' E' → sp_done K [.ref s, .ref dq] H' Q' E') ∧ Dq K H u1 (og1 o) ∧ Dq K H u2 (og2 o) ∧ plJ 10 (ogD o) = true ∧ ∀ H', Same H H' → Q (.bl true) H'

section
variable {P : Program} {w : World} {K : PySem.W.Frag} {mg : Str → Option Value} {base : Heap}
theorem ok_l_is (T : Tx K mg w) (U : Unl P base) : FnOk P w K mg base CX0 47 T.l_is.f T.l_is.fd ["_law_stand", "_law_deed", "_law_told", "_law_behind"] (sp_l_is K) := by
  refine T.l_is.F.ok sc_l_is (fun vs H Q E h => ?_) (fun cdv A outer s H vs Q E hr h => ?_)
  · obtain ⟨s, dq, u1, u2, o, rfl, hn, hd, g1, g2, hp, q⟩ := h
    rfl
  · obtain ⟨s, dq, u1, u2, o, rfl, hn, hd, g1, g2, hp, q⟩ := h
    refine ⟨_, (pss_cons (ps_for PassesOwn.never rfl (pi_range1 (by rfl) T.m_range (pa_cons pe_int pa_nil)) (pg_name (i := 4) sc_l_is.nd rfl (.inl rfl))
      (pss_one (ps_if (pt_not (pt_val (pe_call (ok_l_just T U) (hr.mono (by decide)) (by rfl) T.l_just.g T.l_just.F.kp T.l_just.b .nil pass0 (pa_cons (pe_call (ok_l_done T U) (hr.mono (by decide)) (by rfl) T.l_done.g T.l_done.F.kp T.l_done.b .nil pass0 (pa_cons (pv 0) (pa_cons (pv 1) pa_nil))) (pa_cons (pe_tup (pa_cons (pv 2) (pa_cons (pv 3) pa_nil))) pa_nil))))) (pss_one (ps_ret pe_bl)) pss_nil)))
      (pss_one (ps_ret pe_bl))), ?_⟩
    refine ⟨2, rfl, by decide, by decide, for_range (lo := 0) (n := 2) (fun i σ H' => ∃ (x4 : Option V), σ = [some (.ref s), some (.ref dq), some u1, some u2, x4] ∧ Same H H') ⟨none, rfl, Same.refl _⟩ ?_ ?_⟩
    · rintro i σ H2 hi ⟨x4, rfl, s2⟩
      refine ⟨_, rfl, _, rfl, s, dq, o, rfl, hn, (fun H3 Q3 E3 s3 hh => hd H3 Q3 E3 (s2.trans s3) hh), fun H3 r hV s3 => ?_⟩
      refine ⟨_, rfl, _, rfl, by show 2 ≤ sizeLine; decide, fun p np => ?_⟩
      have s4 := same_upd (o := .tup [u1, u2]) np
      have S4 := s2.trans (s3.trans s4)
      refine ⟨.ref r, .ref p, _, rfl, dq_same s4 hV.dq, .tup sqt_upd (.cons (dq_same S4 g1) (.cons (dq_same S4 g2) .nil)), hp, fun H5 s5 => ⟨_, rfl, iteF ?_⟩⟩
      exact ⟨_, rfl, S4.trans s5⟩
    · rintro σ H2 ⟨x4, rfl, s2⟩
      exact q _ s2
end
end B

namespace B
open PySem PySem.Spec PyProof.Rows L2

def sp_l_split (K : PySem.W.Frag) : Sp := fun vs H Q _ => ∃ (d : Dr) (b : Nat) (st : Addr) (S : Std) (D DP j : Nat), vs = [.ref d.dr, .ref st] ∧ StdAt K H st S ∧ StdK S D DP j ∧ j ≤ 5 ∧ S.ts ≠ [] ∧ Drw H d (b + 2) ∧ ∀ (H' : Hp) (r du : Addr) (v1 v2 : V), SqT K H' r [.ref du, .bl true] → SqT K H' du [v1, v2] → DueV K H' S DP j v2 → Drw H' d b → Kp d H H' → Q (.ref r) H'

section
variable {P : Program} {w : World} {K : PySem.W.Frag} {mg : Str → Option Value} {base : Heap}
theorem ok_l_split (T : Tx K mg w) (U : Unl P base) : FnOk P w K mg base CX0 48 T.l_split.f T.l_split.fd ["_law_drawn", "_law_stand"] (sp_l_split K) := by
  refine T.l_split.F.ok sc_l_split (fun vs H Q E h => ?_) (fun cdv A outer s H vs Q E hr h => ?_)
  · obtain ⟨d, b, st, S, D, DP, j, rfl, hS, hB, j5, hne, hD, q⟩ := h
    rfl
  · obtain ⟨d, b, st, S, D, DP, j, rfl, hS, hB, j5, hne, hD, q⟩ := h
    refine ⟨_, (pss_cons (ps_asg (pv 1) (pg_tup rfl (pgs_cons (pg_name (i := 2) sc_l_split.nd rfl (.inl rfl)) (pgs_cons (pg_name (i := 3) sc_l_split.nd rfl (.inl rfl)) (pgs_cons (pg_name (i := 4) sc_l_split.nd rfl (.inl rfl)) (pgs_cons (pg_name (i := 5) sc_l_split.nd rfl (.inl rfl)) (pgs_cons (pg_name (i := 6) sc_l_split.nd rfl (.inl rfl)) pgs_nil)))))))
      (pss_cons (ps_set (i := 7) sc_l_split.nd rfl (.inl rfl) (pe_call (ok_l_next T U) (hr.mono (by decide)) (by rfl) T.l_next.g T.l_next.F.kp T.l_next.b .nil pass0 (pa_cons (pv 0) (pa_cons (pe_callB call_len_seq (by rfl) T.m_len (by decide +kernel) (pa_cons (pv 4) pa_nil)) pa_nil))))
      (pss_cons (ps_asg (pe_ix ix_tup (pv 4) (pv 7) (fun _ _ => rfl)) (pg_tup rfl (pgs_cons (pg_name (i := 8) sc_l_split.nd rfl (.inl rfl)) (pgs_cons (pg_name (i := 9) sc_l_split.nd rfl (.inl rfl)) (pgs_cons (pg_name (i := 10) sc_l_split.nd rfl (.inl rfl)) (pgs_cons (pg_name (i := 11) sc_l_split.nd rfl (.inl rfl)) (pgs_cons (pg_name (i := 12) sc_l_split.nd rfl (.inl rfl)) (pgs_cons (pg_name (i := 13) sc_l_split.nd rfl (.inl rfl)) pgs_nil))))))))
      (pss_cons (ps_set (i := 14) sc_l_split.nd rfl (.inl rfl) (pe_call (ok_l_next T U) (hr.mono (by decide)) (by rfl) T.l_next.g T.l_next.F.kp T.l_next.b .nil pass0 (pa_cons (pv 0) (pa_cons pe_int pa_nil))))
      (pss_cons (ps_set (i := 15) sc_l_split.nd rfl (.inl rfl) (pe_call (ok_l_times T U) (hr.mono (by decide)) (by rfl) T.l_times.g T.l_times.F.kp T.l_times.b .nil pass0 (pa_cons (pv 13) (pa_cons (pe_ix ix_list (pe_lst (pa_cons (pe_tup (pa_cons pe_int (pa_cons pe_int pa_nil))) (pa_cons (pe_tup (pa_cons pe_int (pa_cons pe_int pa_nil))) (pa_cons (pe_tup (pa_cons pe_int (pa_cons pe_int pa_nil))) (pa_cons (pe_tup (pa_cons pe_int (pa_cons pe_int pa_nil))) (pa_cons (pe_tup (pa_cons pe_int (pa_cons (pe_op op_pow pe_int pe_int) pa_nil))) (pa_cons (pe_tup (pa_cons pe_int (pa_cons pe_int pa_nil))) pa_nil))))))) (pv 14) (fun _ _ => rfl)) pa_nil))))
      (pss_mid (ps_set (i := 16) sc_l_split.nd rfl (.inl rfl) (pe_call (ok_l_plus T U) (hr.mono (by decide)) (by rfl) T.l_plus.g T.l_plus.F.kp T.l_plus.b .nil pass0 (pa_cons (pv 13) (pa_cons (pe_call (ok_l_turned T U) (hr.mono (by decide)) (by rfl) T.l_turned.g T.l_turned.F.kp T.l_turned.b .nil pass0 (pa_cons (pv 15) pa_nil)) pa_nil))))
      (pss_cons (ps_set (i := 17) sc_l_split.nd rfl (.inl rfl) (pe_tup (pa_cons pe_str (pa_cons pe_non pa_nil))))
      (pss_mid (ps_if (PW.pt (pw_and (pt_cmpR op_ne (pv 14) pe_int (nomark _)) (pw_and1 (pt_cmpR op_ne (pv 14) pe_int (nomark _))))) (pss_cons (ps_set (i := 18) sc_l_split.nd rfl (.inl rfl) (pe_call (ok_l_put T U) (hr.mono (by decide)) (by rfl) T.l_put.g T.l_put.F.kp T.l_put.b .nil pass0 (pa_cons (pv 4) (pa_cons (pv 7) (pa_cons (pe_tup (pa_cons (pv 8) (pa_cons (pv 9) (pa_cons (pv 10) (pa_cons (pv 11) (pa_cons (pv 12) (pa_cons (pv 16) pa_nil))))))) pa_nil)))))
      (pss_cons (ps_set (i := 17) sc_l_split.nd rfl (.inl rfl) (pe_tup (pa_cons (pv 6) (pa_cons (pe_tup (pa_cons (pv 2) (pa_cons (pv 3) (pa_cons (pe_op op_catS (pv 18) (pe_tup (pa_cons (pe_tup (pa_cons (pv 6) (pa_cons (pv 9) (pa_cons (pv 10) (pa_cons (pv 11) (pa_cons (pv 12) (pa_cons (pv 15) pa_nil))))))) pa_nil))) (pa_cons (pv 5) (pa_cons (pe_op op_add (pv 6) pe_int) pa_nil)))))) pa_nil))))
      (pss_one (ps_if (pt_cmpR op_eq (pe_callB call_len_seq (by rfl) T.m_len (by decide +kernel) (pa_cons (pv 4) pa_nil)) pe_int (nomark _)) (pss_one (ps_set (i := 17) sc_l_split.nd rfl (.inl rfl) (pe_tup (pa_cons pe_str (pa_cons pe_non pa_nil))))) pss_nil)))) pss_nil)
      (pss_one (ps_ret (pe_tup (pa_cons (pv 17) (pa_cons (pe_call (ok_l_is T U) (hr.mono (by decide)) (by rfl) T.l_is.g T.l_is.F.kp T.l_is.b .nil pass0 (pa_cons (pv 1) (pa_cons (pe_tup (pa_cons pe_str (pa_cons (pv 8) (pa_cons (pv 15) pa_nil)))) (pa_cons (pe_ix ix_tup (pv 17) pe_int (fun _ _ => rfl)) (pa_cons (pe_ix ix_tup (pv 17) pe_int (fun _ _ => rfl)) pa_nil))))) pa_nil))))))))))))), ?_⟩
    obtain ⟨h, pp, tt, l', pvs, tvs, lvs, tS, hH, tP, fP, tT, fT, tL, fL⟩ := id hS
    have lT := fT.len
    have n12 := hB.n
    have t0 : 0 < S.ts.length := List.length_pos_iff.mpr hne
    refine ⟨_, rfl, st, _, rfl, tS, rfl, _, _, rfl, _, _, rfl, _, _, rfl, _, _, rfl, _, _, rfl, rfl, ?_⟩
    refine ⟨_, rfl, _, rfl, tt, tvs, rfl, .inr tT, d, b + 1, (tvs.length : Int), rfl, by omega, by omega, hD, fun H1 r r0 r1 w1 k1 => ?_⟩
    obtain ⟨i, rfl⟩ := Int.eq_ofNat_of_zero_le r0
    obtain ⟨t, ht⟩ : ∃ t, S.ts[i]? = some t := ⟨_, List.getElem?_eq_getElem (by omega)⟩
    have hm := List.mem_of_getElem? ht
    have T1 : Tk K H H1 := fun _ _ t => Kp.tup k1 hD t
    obtain ⟨v, hv, hT⟩ := (tks_tk fT T1).getB ht
    obtain ⟨tq, ba, pa, ka, rfl, q1, q2, q3, q4⟩ := id hT
    obtain ⟨tk, tl, tsd⟩ := hB.t t hm
    refine ⟨_, rfl, _, rfl, tt, tvs, (i : Int), .ref tq, rfl, rfl, T1 _ _ tT, atI_nat hv, tq, _, rfl, q1, rfl, _, _, rfl, _, _, rfl, _, _, rfl, _, _, rfl, _, _, rfl, _, _, rfl, rfl, ?_⟩
    refine ⟨_, rfl, d, b, 6, rfl, by decide, by decide, w1, fun H2 y y0 y1 w2 k2 => ?_⟩
    have T12 : Tk K H1 H2 := fun _ _ t => Kp.tup k2 w1 t
    refine ⟨_, rfl, by show 2 ≤ sizeLine; decide, fun c1 n1 => ⟨by show 2 ≤ sizeLine; decide, fun c2 n2 => ⟨by show 2 ≤ sizeLine; decide, fun c3 n3 => ⟨by show 2 ≤ sizeLine; decide, fun c4 n4 => ⟨_, _, rfl, rfl, ⟨by decide, by decide, by decide⟩, by show 2 ≤ sizeLine; decide, fun c5 n5 => ⟨by show 2 ≤ sizeLine; decide, fun c6 n6 => ⟨by show 6 ≤ sizeLine; decide, fun L nL => ?_⟩⟩⟩⟩⟩⟩⟩
    have e1 := same_upd (o := .tup [.int 1, .int 2]) n1
    have e2 := same_upd (o := .tup [.int 1, .int 3]) n2
    have e3 := same_upd (o := .tup [.int 1, .int 1]) n3
    have e4 := same_upd (o := .tup [.int 3, .int 2]) n4
    have e5 : Same _ (upd _ c5 (.tup [.int 1, .int 1000000000])) := same_upd n5
    have t5 : SqT K (tgt e5) c5 [.int ((1, 1000000000) : Int × Nat).1, .int ((1, 1000000000) : Int × Nat).2] := sqt_upd
    have e6 := same_upd (o := .tup [.int 5, .int 7]) n6
    have e7 := same_upd (o := .lst [.ref c1, .ref c2, .ref c3, .ref c4, .ref c5, .ref c6]) nL
    have e67 := e6.trans e7
    have e57 := e5.trans e67
    have e47 := e4.trans e57
    have e37 := e3.trans e47
    have e27 := e2.trans e37
    have E := e1.trans e27
    obtain ⟨ca, c, hat, tc, fc, c0, cE, cy⟩ : ∃ (ca : Addr) (c : Int × Nat), atI [V.ref c1, .ref c2, .ref c3, .ref c4, .ref c5, .ref c6] y = some (.ref ca) ∧ SqT K (tgt e7) ca [.int c.1, .int c.2] ∧ Fb c.2 2 c ∧ 0 < c.1 ∧ c.2 ≤ 2 ^ 40 ∧ ((y ≠ 2 ∧ y ≠ 3 ∧ c.1 < (c.2 : Int) ∧ Fb c.2 1 c) ∨ ((y = 2 ∨ y = 3) ∧ ¬ c.1 < (c.2 : Int))) := by
      have : y = 0 ∨ y = 1 ∨ y = 2 ∨ y = 3 ∨ y = 4 ∨ y = 5 := by omega
      rcases this with rfl | rfl | rfl | rfl | rfl | rfl
      · exact ⟨c1, (1, 2), rfl, Same.tup e27 sqt_upd, fb_dec (by decide +kernel), by decide, by decide, .inl ⟨by decide, by decide, by decide, fb_dec (by decide +kernel)⟩⟩
      · exact ⟨c2, (1, 3), rfl, Same.tup e37 sqt_upd, fb_dec (by decide +kernel), by decide, by decide, .inl ⟨by decide, by decide, by decide, fb_dec (by decide +kernel)⟩⟩
      · exact ⟨c3, (1, 1), rfl, Same.tup e47 sqt_upd, fb_dec (by decide +kernel), by decide, by decide, .inr ⟨by decide, by decide⟩⟩
      · exact ⟨c4, (3, 2), rfl, Same.tup e57 sqt_upd, fb_dec (by decide +kernel), by decide, by decide, .inr ⟨by decide, by decide⟩⟩
      · exact ⟨c5, (1, 1000000000), rfl, Same.tup e67 t5, fb_dec (by decide +kernel), by decide, by decide, .inl ⟨by decide, by decide, by decide, fb_dec (by decide +kernel)⟩⟩
      · exact ⟨c6, (5, 7), rfl, Same.tup e7 sqt_upd, fb_dec (by decide +kernel), by decide, by decide, .inl ⟨by decide, by decide, by decide, fb_dec (by decide +kernel)⟩⟩
    have fk6 := hB.fk (by omega) t hm
    have fk := fk6.up (show 6000 ≤ 400000 by decide)
    have fc4 := (fc.fok (a := 41) (c := 1) fc.f.pos (Nat.lt_of_le_of_lt cE (by decide)) (by decide)).up (show 1 + 41 ≤ 400000 by decide)
    refine ⟨_, rfl, L, _, y, .ref ca, rfl, rfl, .inl (.inl upd_same), hat, ka, ca, t.k.1, c.1, t.k.2, c.2, rfl, Same.tup E (T12 _ _ q4), tc, fk.f, fc4.f, fk.z, fc4.z, fun sp nsp => ?_⟩
    have e8 := same_upd (o := .tup [.int (mulF t.k c).1, .int (mulF t.k c).2]) nsp
    obtain ⟨x, ex⟩ : ∃ x, x = mulF t.k c := ⟨_, rfl⟩
    have tsp : SqT K (tgt e8) sp [.int x.1, .int x.2] := by rw [ex]; exact sqt_upd
    have hlt : ltF x t.k = decide (c.1 < (c.2 : Int)) := by rw [ex]; exact lt_part tk.k.f fc.f tk.k0
    have hx0 : 0 < x.1 := by rw [ex]; exact low_pos (Int.mul_pos tk.k0 c0) (Nat.mul_pos tk.k.f.pos fc.f.pos)
    have fx : Fok 100000 x := by rw [ex]; exact (fk6.mul (fc.fok (a := 41) (c := 1) fc.f.pos (Nat.lt_of_le_of_lt cE (by decide)) (by decide))).up (by decide)
    have w8 := w2.same (E.trans e8)
    have T28 : Tk K H2 (tgt e8) := Same.tk (E.trans e8)
    have T8 : Tk K H (tgt e8) := fun _ _ t => T28 _ _ (T12 _ _ (T1 _ _ t))
    have K8 : Kp d H (tgt e8) := k1.trans (k2.trans (Same.kp (E.trans e8)))
    refine ⟨fun σ' H' => ∃ (rp : Addr), σ' = [some (.ref d.dr), some (.ref st), some (.ref h), some (.ref pp), some (.ref tt), some (.ref l'), some (.int S.m), some (.int i), some (.int t.n), some (.int t.l), some (.int t.s), some (.ref ba), some (.ref pa), some (.ref ka), some (.int y), some (.ref sp), some (.ref rp), none, none] ∧ SqT K H' rp [.int (subF t.k x).1, .int (subF t.k x).2] ∧ Same (tgt e8) H', ?_, ?_⟩
    · refine ⟨_, rfl, _, rfl, sp, x, rfl, tsp, fun G r tr nr s9 => ?_⟩
      have fn4 := fx.negF.up (show 100000 ≤ 400000 by decide)
      refine ⟨ka, r, t.k.1, (negF x).1, t.k.2, (negF x).2, rfl, Same.tup s9 (T28 _ _ (T12 _ _ q4)), tr, fk.f, fn4.f, fk.z, fn4.z, fun p np => ?_⟩
      have s10 := same_upd (o := .tup [.int (subF t.k x).1, .int (subF t.k x).2]) np
      exact ⟨p, rfl, sqt_upd, s9.trans s10⟩
    rintro σ H3 ⟨rp, rfl, trp, s3⟩
    refine ⟨by show 2 ≤ sizeLine; decide, fun du0 ndu0 => ?_⟩
    have s4 := same_upd (o := .tup [.str "NoStake", .non]) ndu0
    obtain ⟨o, eo⟩ : ∃ o : Wh, (if ltF x t.k = true then splO S t x else .inl "NoStake") = o := ⟨_, rfl⟩
    have T83 : Tk K H (tgt s4) := fun _ _ t => Same.tup (s3.trans s4) (T8 _ _ t)
    have T23 : Tk K H2 (tgt s4) := fun _ _ t => Same.tup (s3.trans s4) (T28 _ _ t)
    refine ⟨fun σ' H' => ∃ (du : Addr) (v1 v2 : V) (x18 : Option V), σ' = [some (.ref d.dr), some (.ref st), some (.ref h), some (.ref pp), some (.ref tt), some (.ref l'), some (.int S.m), some (.int i), some (.int t.n), some (.int t.l), some (.int t.s), some (.ref ba), some (.ref pa), some (.ref ka), some (.int y), some (.ref sp), some (.ref rp), some (.ref du), x18] ∧ SqT K H' du [v1, v2] ∧ Dq K H' v1 (og1 o) ∧ Dq K H' v2 (og2 o) ∧ DueV K H' S DP j v2 ∧ plJ 10 (ogD o) = true ∧ Same H3 H', ?_, ?_⟩
    · rcases cy with ⟨y2, y3, lt, fc1⟩ | ⟨y23, nlt⟩
      · have hl : ltF x t.k = true := by rw [hlt, decide_eq_true lt]
        refine ⟨_, rfl, rfl, _, rfl, ?_⟩
        refine iteK (by rw [decide_eq_false (fun e => y2 (V.int.inj e))]; rfl) ?_
        refine ⟨_, rfl, rfl, _, rfl, ?_⟩
        refine iteK (by rw [decide_eq_false (fun e => y3 (V.int.inj e))]; rfl) ?_
        refine ⟨_, rfl, _, rfl, _, rfl, _, rfl, _, rfl, _, rfl, _, rfl, _, rfl, by show 6 ≤ sizeLine; decide, fun nt nnt => ?_⟩
        have s5 := same_upd (o := .tup [.int t.n, .int t.l, .int t.s, .ref ba, .ref pa, .ref rp]) nnt
        refine ⟨tt, i, .ref nt, tvs, rfl, Same.tup s5 (T83 _ _ tT), by omega, fun G6 lf tlf s6 => ?_⟩
        refine ⟨_, rfl, _, rfl, _, rfl, _, rfl, _, rfl, _, rfl, _, rfl, _, rfl, _, rfl, _, rfl, by show 6 ≤ sizeLine; decide, fun nu nnu => ⟨by show 1 ≤ sizeLine; decide, fun n1 nn1 => ?_⟩⟩
        have s7 := same_upd (o := .tup [.int S.m, .int t.l, .int t.s, .ref ba, .ref pa, .ref sp]) nnu
        have s8 := same_upd (o := .tup [.ref nu]) nn1
        refine ⟨lf, n1, _, [.ref nu], rfl, rfl, Same.tup (s7.trans s8) tlf, sqt_upd, by simp only [List.length_append, List.length_take, List.length_drop, List.length_cons, List.length_nil]; omega, fun lg G9 tlg s9 => ?_⟩
        have tlg : SqT K G9 lg (tvs.take i ++ [.ref nt] ++ tvs.drop (i + 1) ++ [.ref nu]) := tlg
        refine ⟨_, rfl, _, rfl, _, _, rfl, rfl, by show 5 ≤ sizeLine; decide, fun b5 nb5 => ⟨by show 2 ≤ sizeLine; decide, fun du ndu => ?_⟩⟩
        have s10 := same_upd (o := .tup [.ref h, .ref pp, .ref lg, .ref l', .int ((S.m : Int) + 1)]) nb5
        have s11 := same_upd (o := .tup [.int S.m, .ref b5]) ndu
        have S611 := s6.trans (s7.trans (s8.trans (s9.trans (s10.trans s11))))
        have S11 := s5.trans S611
        have T11 : Tk K H (tgt s11) := fun _ _ t => Same.tup S11 (T83 _ _ t)
        have T2F : Tk K H2 (tgt s11) := fun _ _ t => Same.tup S11 (T23 _ _ t)
        refine ⟨_, rfl, tt, tvs, rfl, .inr (T11 _ _ tT), rfl, _, rfl, ?_⟩
        rw [lT]
        by_cases c12 : S.ts.length = 12
        · refine iteK (decide_eq_true (by rw [c12]; rfl)) ⟨by show 2 ≤ sizeLine; decide, fun d2 nd2 => ?_⟩
          have s12 := same_upd (o := .tup [.str "TooMany", .non]) nd2
          have e : o = .inl "TooMany" := by rw [← eo, if_pos hl]; exact if_pos (by omega)
          exact ⟨d2, .str "TooMany", .non, _, rfl, sqt_upd, by rw [e]; exact .str _, by rw [e]; exact .non, .inl rfl, by rw [e]; rfl, s4.trans (S11.trans s12)⟩
        · refine iteE (decide_eq_false fun z => c12 (by injection z with z; omega)) ?_
          have e : o = .inr (.int S.m, S.split t x) := by rw [← eo, if_pos hl]; exact if_neg (by omega)
          have fxb : Fb (D * c.2) (2 ^ (20 + j)) x := by
            rw [ex]
            exact (tk.k.mul fc1).up (Nat.dvd_refl _) (by rw [Nat.mul_one]; exact Nat.le_refl _)
          obtain ⟨hK, hSW⟩ := hB.split (E := c.2) ht fc.f.pos cE fxb hx0 hl (by omega)
          have nT : TkAt K (tgt s11) (.ref nt) ⟨t.n, t.l, t.s, t.b, subF t.k x⟩ := ⟨nt, ba, pa, rp, rfl, Same.tup S611 sqt_upd, q2.mono fun _ _ t => T2F _ _ (T12 _ _ t), T2F _ _ (T12 _ _ q3), Same.tup (s4.trans S11) trp⟩
          have nU : TkAt K (tgt s11) (.ref nu) ⟨S.m, t.l, t.s, t.b, x⟩ := ⟨nu, ba, pa, sp, rfl, Same.tup (s8.trans (s9.trans (s10.trans s11))) sqt_upd, q2.mono fun _ _ t => T2F _ _ (T12 _ _ t), T2F _ _ (T12 _ _ q3), Same.tup (s3.trans (s4.trans S11)) tsp⟩
          have hS' : StdAt K (tgt s11) b5 (S.split t x) := by
            refine ⟨h, pp, lg, l', pvs, _, lvs, Same.tup s11 sqt_upd, hH.mono T11, T11 _ _ tP, fas_tk fP T11, Same.tup (s10.trans s11) tlg, ?_, T11 _ _ tL, fL.imp fun _ _ x => x.mono T11⟩
            show F2 _ _ ((S.ts.map fun y : Tkt => if y.n = t.n then (⟨t.n, t.l, t.s, t.b, subF t.k x⟩ : Tkt) else y) ++ [(⟨S.m, t.l, t.s, t.b, x⟩ : Tkt)])
            rw [rep_at (r := ⟨t.n, t.l, t.s, t.b, subF t.k x⟩) ht hB.nn.r rfl]
            exact ((((tks_tk fT T11).take i).app (F2.one nT)).app ((tks_tk fT T11).drop (i + 1))).app (F2.one nU)
          exact ⟨du, .int S.m, .ref b5, _, rfl, sqt_upd, by rw [e]; exact .int _, by rw [e]; exact hS'.dq, .inr ⟨b5, _, _, rfl, hS', hK, rfl, rfl, rfl, hSW⟩, by rw [e]; exact plJ_og fun x' e' => by injection e' with e'; rw [← e']; exact ⟨rfl, hK.pl⟩, s4.trans S11⟩
      · have hl : ltF x t.k = false := by rw [hlt, decide_eq_false nlt]
        have e : o = .inl "NoStake" := by rw [← eo, hl]; rfl
        have fin : ∀ x18 : Option V, ∃ (du : Addr) (v1 v2 : V) (x18' : Option V), [some (V.ref d.dr), some (.ref st), some (.ref h), some (.ref pp), some (.ref tt), some (.ref l'), some (.int S.m), some (.int i), some (.int t.n), some (.int t.l), some (.int t.s), some (.ref ba), some (.ref pa), some (.ref ka), some (.int y), some (.ref sp), some (.ref rp), some (.ref du0), x18] = [some (V.ref d.dr), some (.ref st), some (.ref h), some (.ref pp), some (.ref tt), some (.ref l'), some (.int S.m), some (.int i), some (.int t.n), some (.int t.l), some (.int t.s), some (.ref ba), some (.ref pa), some (.ref ka), some (.int y), some (.ref sp), some (.ref rp), some (.ref du), x18'] ∧ SqT K (tgt s4) du [v1, v2] ∧ Dq K (tgt s4) v1 (og1 o) ∧ Dq K (tgt s4) v2 (og2 o) ∧ DueV K (tgt s4) S DP j v2 ∧ plJ 10 (ogD o) = true ∧ Same H3 (tgt s4) := fun x18 => ⟨du0, .str "NoStake", .non, x18, rfl, sqt_upd, by rw [e]; exact .str _, by rw [e]; exact .non, .inl rfl, by rw [e]; rfl, s4⟩
        by_cases y2 : y = 2
        · refine ⟨_, rfl, rfl, _, rfl, iteE (by rw [decide_eq_true (by rw [y2])]; rfl) (iteF ?_)⟩
          exact fin none
        · refine ⟨_, rfl, rfl, _, rfl, iteK (by rw [decide_eq_false (fun e => y2 (V.int.inj e))]; rfl) ⟨_, rfl, rfl, _, rfl, iteE (by rw [decide_eq_true (by rcases y23 with z | z; exact absurd z y2; rw [z])]; rfl) ?_⟩⟩
          exact fin none
    rintro σ H5 ⟨du, v1, v2, x18, rfl, tdu, g1, g2, hv2, hpl, s5⟩
    have S5 := s3.trans s5
    have hR : SplitR S (.int (t.n : Int)) (fdat x) o := by
      cases hl : ltF x t.k with
      | true =>
        rw [hl] at eo
        rw [← eo]
        exact .ok hm fx hx0 hl
      | false =>
        rw [hl] at eo
        rw [← eo]
        exact .stake hm fx fun _ => hl
    have T5 : Tk K H H5 := fun _ _ t => Same.tup S5 (T8 _ _ t)
    have tsp5 := Same.tup S5 tsp
    refine ⟨_, rfl, _, rfl, _, rfl, _, rfl, by show 3 ≤ sizeLine; decide, fun dq ndq => ?_⟩
    have s6 := same_upd (o := .tup [.str "split", .int t.n, .ref sp]) ndq
    have hS6 := (hS.mono T5).mono (Same.tk s6)
    refine ⟨_, rfl, du, _, 0, v1, rfl, rfl, Same.tup s6 tdu, atI_nat (j := 0) rfl, _, rfl, du, _, 1, v2, rfl, rfl, Same.tup s6 tdu, rfl, st, dq, v1, v2, o, rfl, (fun nm e => hR.name e), (fun H' Q' E' s' hh => ⟨st, dq, "split", [.int t.n, .ref sp], rfl, Same.tup s' sqt_upd, by simp, .inl ⟨rfl, fun H2' q' tq2 s'' => ⟨st, q', S, .int t.n, .ref sp, _, _, o, rfl, hS6.mono (Same.tk (s'.trans s'')), hB.fk (by omega), by omega, hB.nn, tq2, .int _, dq_th (dq2 (Same.tup (s6.trans (s'.trans s'')) tsp5)), hR, hh.same s''⟩⟩⟩), dq_same s6 g1, dq_same s6 g2, hpl, fun H7 s7 => ⟨by show 2 ≤ sizeLine; decide, fun r nr => ?_⟩⟩
    have s8 := same_upd (o := .tup [.ref du, .bl true]) nr
    have SZ := s6.trans (s7.trans s8)
    exact q _ r du v1 v2 sqt_upd (Same.tup SZ tdu) (hv2.mono (Same.tk SZ)) ((w8.same S5).same SZ) (K8.trans (Same.kp (S5.trans SZ)))
end
end B

namespace B
open PySem PySem.Spec PyProof.Rows L2

def sp_l_net (K : PySem.W.Frag) : Sp := fun vs H Q _ => ∃ (d : Dr) (b : Nat) (st : Addr) (S : Std) (D DP k : Nat), vs = [.ref d.dr, .ref st] ∧ StdAt K H st S ∧ StdK S D DP k ∧ k ≤ 5 ∧ S.ts ≠ [] ∧ Drw H d (b + 2) ∧ ∀ (H' : Hp) (r du : Addr) (v1 v2 : V), SqT K H' r [.ref du, .bl true] → SqT K H' du [v1, v2] → DueV K H' S DP k v2 → Drw H' d b → Kp d H H' → Q (.ref r) H'

section
variable {P : Program} {w : World} {K : PySem.W.Frag} {mg : Str → Option Value} {base : Heap}
theorem ok_l_net (T : Tx K mg w) (U : Unl P base) : FnOk P w K mg base CX0 48 T.l_net.f T.l_net.fd ["_law_drawn", "_law_stand"] (sp_l_net K) := by
  refine T.l_net.F.ok sc_l_net (fun vs H Q E h => ?_) (fun cdv A outer s H vs Q E hr h => ?_)
  · obtain ⟨d, b, st, S, D, DP, k, rfl, hS, hB, k5, hne, hD, q⟩ := h
    rfl
  · obtain ⟨d, b, st, S, D, DP, k, rfl, hS, hB, k5, hne, hD, q⟩ := h
    refine ⟨_, (pss_cons (ps_asg (pv 1) (pg_tup rfl (pgs_cons (pg_name (i := 2) sc_l_net.nd rfl (.inl rfl)) (pgs_cons (pg_name (i := 3) sc_l_net.nd rfl (.inl rfl)) (pgs_cons (pg_name (i := 4) sc_l_net.nd rfl (.inl rfl)) (pgs_cons (pg_name (i := 5) sc_l_net.nd rfl (.inl rfl)) (pgs_cons (pg_name (i := 6) sc_l_net.nd rfl (.inl rfl)) pgs_nil)))))))
      (pss_cons (ps_set (i := 7) sc_l_net.nd rfl (.inl rfl) (pe_call (ok_l_next T U) (hr.mono (by decide)) (by rfl) T.l_next.g T.l_next.F.kp T.l_next.b .nil pass0 (pa_cons (pv 0) (pa_cons (pe_callB call_len_seq (by rfl) T.m_len (by decide +kernel) (pa_cons (pv 4) pa_nil)) pa_nil))))
      (pss_cons (ps_set (i := 8) sc_l_net.nd rfl (.inl rfl) (pe_call (ok_l_next T U) (hr.mono (by decide)) (by rfl) T.l_next.g T.l_next.F.kp T.l_next.b .nil pass0 (pa_cons (pv 0) (pa_cons (pe_callB call_len_seq (by rfl) T.m_len (by decide +kernel) (pa_cons (pv 4) pa_nil)) pa_nil))))
      (pss_mid (ps_par (i := 9) (j := 10) (by rfl) sc_l_net.nd rfl rfl (by decide) rfl rfl (pa_cons (pe_ix ix_tup (pv 4) (pe_callB (call_min2 rfl) (by rfl) T.m_min (by decide +kernel) (pa_cons (pv 7) (pa_cons (pv 8) pa_nil))) (fun _ _ => rfl)) (pa_cons (pe_ix ix_tup (pv 4) (pe_callB (call_max2 rfl) (by rfl) T.m_max (by decide +kernel) (pa_cons (pv 7) (pa_cons (pv 8) pa_nil))) (fun _ _ => rfl)) pa_nil)) (by rfl))
      (pss_cons (ps_set (i := 11) sc_l_net.nd rfl (.inl rfl) (pe_tup (pa_cons pe_str (pa_cons pe_non pa_nil))))
      (pss_mid (ps_if (pt_cmpR op_eq (pv 7) (pv 8) (nomark _)) (pss_one (ps_set (i := 11) sc_l_net.nd rfl (.inl rfl) (pe_tup (pa_cons pe_str (pa_cons pe_non pa_nil))))) (pss_one (ps_if (PW.pt (pw_and (pt_cmpR (op_eqD hr.units) (pe_slice sl_tupS (pv 9) (po_some pe_int) (po_some pe_int)) (pe_slice sl_tupS (pv 10) (po_some pe_int) (po_some pe_int)) (nomark _)) (pw_and1 (pt_cmpR (op_eqD hr.units) (pe_callB cr_sortedI (by rfl) T.m_sorted (by decide +kernel) (pa_cons (pe_slice sl_tupS (pv 9) (po_some pe_int) (po_some pe_int)) pa_nil)) (pe_callB cr_sortedI (by rfl) T.m_sorted (by decide +kernel) (pa_cons (pe_slice sl_tupS (pv 10) (po_some pe_int) (po_some pe_int)) pa_nil)) (nomark _))))) (pss_cons (ps_set (i := 12) sc_l_net.nd rfl (.inl rfl) (pe_call (ok_l_netted T U) (hr.mono (by decide)) (by rfl) T.l_netted.g T.l_netted.F.kp T.l_netted.b .nil pass0 (pa_cons (pv 9) (pa_cons (pv 10) pa_nil))))
      (pss_cons (ps_set (i := 13) sc_l_net.nd rfl (.inl rfl) (pe_op op_catS (pe_slice sl_tupS (pv 4) po_none (po_some (pe_callB (call_max2 rfl) (by rfl) T.m_max (by decide +kernel) (pa_cons (pv 7) (pa_cons (pv 8) pa_nil))))) (pe_slice sl_tupS (pv 4) (po_some (pe_op op_add (pe_callB (call_max2 rfl) (by rfl) T.m_max (by decide +kernel) (pa_cons (pv 7) (pa_cons (pv 8) pa_nil))) pe_int)) po_none)))
      (pss_cons (ps_set (i := 13) sc_l_net.nd rfl (.inl rfl) (pe_op op_catS (pe_op op_catS (pe_slice sl_tupS (pv 13) po_none (po_some (pe_callB (call_min2 rfl) (by rfl) T.m_min (by decide +kernel) (pa_cons (pv 7) (pa_cons (pv 8) pa_nil))))) (pv 12)) (pe_slice sl_tupS (pv 13) (po_some (pe_op op_add (pe_callB (call_min2 rfl) (by rfl) T.m_min (by decide +kernel) (pa_cons (pv 7) (pa_cons (pv 8) pa_nil))) pe_int)) po_none)))
      (pss_one (ps_set (i := 11) sc_l_net.nd rfl (.inl rfl) (pe_tup (pa_cons (pe_ix ix_list (pe_op op_cat (pe_op op_rep (pe_lst (pa_cons (pe_ix ix_tup (pv 9) pe_int (fun _ _ => rfl)) pa_nil)) (pe_callB call_len_seq (by rfl) T.m_len (by decide +kernel) (pa_cons (pv 12) pa_nil))) (pe_lst (pa_cons pe_non pa_nil))) pe_int (fun _ _ => rfl)) (pa_cons (pe_tup (pa_cons (pv 2) (pa_cons (pv 3) (pa_cons (pv 13) (pa_cons (pv 5) (pa_cons (pv 6) pa_nil)))))) pa_nil)))))))) pss_nil)))
      (pss_one (ps_ret (pe_tup (pa_cons (pv 11) (pa_cons (pe_call (ok_l_is T U) (hr.mono (by decide)) (by rfl) T.l_is.g T.l_is.F.kp T.l_is.b .nil pass0 (pa_cons (pv 1) (pa_cons (pe_tup (pa_cons pe_str (pa_cons (pe_ix ix_tup (pe_ix ix_tup (pv 4) (pv 7) (fun _ _ => rfl)) pe_int (fun _ _ => rfl)) (pa_cons (pe_ix ix_tup (pe_ix ix_tup (pv 4) (pv 8) (fun _ _ => rfl)) pe_int (fun _ _ => rfl)) pa_nil)))) (pa_cons (pe_ix ix_tup (pv 11) pe_int (fun _ _ => rfl)) (pa_cons (pe_ix ix_tup (pv 11) pe_int (fun _ _ => rfl)) pa_nil))))) pa_nil))))))))))), ?_⟩
    obtain ⟨h, pp, tt, l', pvs, tvs, lvs, tS, hH, tP, fP, tT, fT, tL, fL⟩ := id hS
    have lT := fT.len
    have n12 := hB.n
    have t0 : 0 < S.ts.length := List.length_pos_iff.mpr hne
    have hcs : ∀ c ∈ S.cs, c < 123 := fun c hc => (hB.ls.small c hc).2
    have hbt : ∀ t ∈ S.ts, BtOk S.cs t.b.ts t.b.g := fun t ht => (hB.t t ht).1.b.ok
    refine ⟨_, rfl, st, _, rfl, tS, rfl, _, _, rfl, _, _, rfl, _, _, rfl, _, _, rfl, _, _, rfl, rfl, ?_⟩
    refine ⟨_, rfl, _, rfl, tt, tvs, rfl, .inr tT, d, b + 1, (tvs.length : Int), rfl, by omega, by omega, hD, fun H1 r r0 r1 w1 k1 => ?_⟩
    obtain ⟨x, rfl⟩ := Int.eq_ofNat_of_zero_le r0
    have T1 : Tk K H H1 := fun _ _ t => Kp.tup k1 hD t
    refine ⟨_, rfl, _, rfl, tt, tvs, rfl, .inr (T1 _ _ tT), d, b, (tvs.length : Int), rfl, by omega, by omega, w1, fun H2 r' r0' r1' w2 k2 => ?_⟩
    obtain ⟨y, rfl⟩ := Int.eq_ofNat_of_zero_le r0'
    have T2 : Tk K H H2 := fun _ _ t => Kp.tup k2 w1 (T1 _ _ t)
    obtain ⟨tx, htx⟩ : ∃ t, S.ts[x]? = some t := ⟨_, List.getElem?_eq_getElem (by omega)⟩
    obtain ⟨ty, hty⟩ : ∃ t, S.ts[y]? = some t := ⟨_, List.getElem?_eq_getElem (by omega)⟩
    obtain ⟨i, j, emin, emax, hij⟩ : ∃ i j : Nat, (if (y : Int) < (x : Int) then (y : Int) else (x : Int)) = (i : Int) ∧ (if (y : Int) > (x : Int) then (y : Int) else (x : Int)) = (j : Int) ∧ ((i = x ∧ j = y ∧ x ≤ y) ∨ (i = y ∧ j = x ∧ y < x)) := by
      by_cases c : y < x
      · exact ⟨y, x, if_pos (by omega), if_neg (by omega), .inr ⟨rfl, rfl, c⟩⟩
      · refine ⟨x, y, if_neg (by omega), ?_, .inl ⟨rfl, rfl, by omega⟩⟩
        by_cases c2 : (y : Int) > x
        · exact if_pos c2
        · rw [if_neg c2]; omega
    obtain ⟨t, hi⟩ : ∃ t, S.ts[i]? = some t := ⟨_, List.getElem?_eq_getElem (by rcases hij with ⟨e1, e2, _⟩ | ⟨e1, e2, _⟩ <;> omega)⟩
    obtain ⟨u, hj⟩ : ∃ t, S.ts[j]? = some t := ⟨_, List.getElem?_eq_getElem (by rcases hij with ⟨e1, e2, _⟩ | ⟨e1, e2, _⟩ <;> omega)⟩
    have hm := List.mem_of_getElem? hi
    have hm2 := List.mem_of_getElem? hj
    obtain ⟨v1, hv1, hT⟩ := (tks_tk fT T2).getB hi
    obtain ⟨v2, hv2, hU⟩ := (tks_tk fT T2).getB hj
    obtain ⟨qa, ba, pa, ka, rfl, a1, a2, a3, a4⟩ := id hT
    obtain ⟨qb, bb, pb, kb, rfl, b1, b2, b3, b4⟩ := id hU
    refine ⟨fun σ' H' => σ' = [some (.ref d.dr), some (.ref st), some (.ref h), some (.ref pp), some (.ref tt), some (.ref l'), some (.int S.m), some (.int x), some (.int y), some (.ref qa), some (.ref qb), none, none, none] ∧ Same H2 H', ?_, ?_⟩
    · refine ⟨_, rfl, _, rfl, _, rfl, _, _, rfl, tt, tvs, _, .ref qa, rfl, rfl, T2 _ _ tT, by rw [emin]; exact atI_nat hv1, _, rfl, _, rfl, _, rfl, _, _, rfl, tt, tvs, _, .ref qb, rfl, rfl, T2 _ _ tT, by rw [emax]; exact atI_nat hv2, _, _, rfl, ?_⟩
      exact ⟨rfl, Same.refl _⟩
    rintro σ H3 ⟨rfl, s3⟩
    refine ⟨by show 2 ≤ sizeLine; decide, fun du0 ndu0 => ?_⟩
    have s4 := same_upd (o := .tup [.str "NotAlike", .non]) ndu0
    have S4 := s3.trans s4
    have T4 : Tk K H (tgt s4) := fun _ _ t => Same.tup S4 (T2 _ _ t)
    have hT4 := hT.mono (Same.tk S4)
    have hU4 := hU.mono (Same.tk S4)
    have rise : x < y → tx.n < ty.n := fun c => by
      obtain ⟨lx, ex⟩ := List.getElem?_eq_some_iff.mp htx
      obtain ⟨ly, ey⟩ := List.getElem?_eq_some_iff.mp hty
      have := List.pairwise_iff_getElem.mp hB.nn.r x y lx ly c
      rw [ex, ey] at this
      exact this
    have rise2 : y < x → ty.n < tx.n := fun c => by
      obtain ⟨lx, ex⟩ := List.getElem?_eq_some_iff.mp htx
      obtain ⟨ly, ey⟩ := List.getElem?_eq_some_iff.mp hty
      have := List.pairwise_iff_getElem.mp hB.nn.r y x ly lx c
      rw [ex, ey] at this
      exact this
    have mx := List.mem_of_getElem? htx
    have my := List.mem_of_getElem? hty
    have sym : ∀ {a b : Tkt}, LikeT a b → LikeT b a := fun h => ⟨h.1.symm, by rcases h.2 with ⟨p, q⟩ | ⟨p, q⟩; exact .inl ⟨p.symm, q.symm⟩; exact .inr ⟨q.symm, p.symm⟩⟩
    obtain ⟨o, hR, ho⟩ : ∃ o, NetR S (.int (tx.n : Int)) (.int (ty.n : Int)) o ∧ ((x = y ∧ o = .inl "NoTicket") ∨ (x ≠ y ∧ i < j ∧ ¬ LikeT t u ∧ o = .inl "NotAlike") ∨ (x ≠ y ∧ i < j ∧ LikeT t u ∧ o = .inr (netT (restF t u), S.net t u))) := by
      rcases Nat.lt_trichotomy x y with c | c | c
      · rcases hij with ⟨e1, e2, _⟩ | ⟨_, _, e3⟩
        · subst e1
          subst e2
          obtain rfl : tx = t := Option.some.inj (htx.symm.trans hi)
          obtain rfl : ty = u := Option.some.inj (hty.symm.trans hj)
          by_cases lk : LikeT tx ty
          · exact ⟨_, .low mx my (rise c) lk, .inr (.inr ⟨by omega, c, lk, rfl⟩)⟩
          · exact ⟨_, .alike mx my (by have := rise c; omega) lk, .inr (.inl ⟨by omega, c, lk, rfl⟩)⟩
        · omega
      · subst c
        obtain rfl : tx = ty := Option.some.inj (htx.symm.trans hty)
        exact ⟨_, .same mx, .inl ⟨rfl, rfl⟩⟩
      · rcases hij with ⟨_, _, e3⟩ | ⟨e1, e2, _⟩
        · omega
        · subst e1
          subst e2
          obtain rfl : ty = t := Option.some.inj (hty.symm.trans hi)
          obtain rfl : tx = u := Option.some.inj (htx.symm.trans hj)
          by_cases lk : LikeT ty tx
          · exact ⟨_, .high mx my (rise2 c) (sym lk), .inr (.inr ⟨by omega, c, lk, rfl⟩)⟩
          · exact ⟨_, .alike mx my (by have := rise2 c; omega) (fun z => lk (sym z)), .inr (.inl ⟨by omega, c, lk, rfl⟩)⟩
    refine ⟨fun σ' H' => ∃ (du : Addr) (v1 v2 : V) (x12 x13 : Option V), σ' = [some (.ref d.dr), some (.ref st), some (.ref h), some (.ref pp), some (.ref tt), some (.ref l'), some (.int S.m), some (.int x), some (.int y), some (.ref qa), some (.ref qb), some (.ref du), x12, x13] ∧ SqT K H' du [v1, v2] ∧ Dq K H' v1 (og1 o) ∧ Dq K H' v2 (og2 o) ∧ DueV K H' S DP k v2 ∧ plJ 10 (ogD o) = true ∧ Same H2 H', ?_, ?_⟩
    · refine ⟨_, rfl, _, rfl, rfl, _, rfl, ?_⟩
      rcases ho with ⟨e, rfl⟩ | ho
      · refine iteK (decide_eq_true (by rw [e])) ⟨by show 2 ≤ sizeLine; decide, fun du ndu => ?_⟩
        have s5 := same_upd (o := .tup [.str "NoTicket", .non]) ndu
        exact ⟨du, .str "NoTicket", .non, _, _, rfl, sqt_upd, .str _, .non, .inl rfl, rfl, S4.trans s5⟩
      have hl : (x ≠ y ∧ i < j) ∧ ((¬ LikeT t u ∧ o = .inl "NotAlike") ∨ (LikeT t u ∧ o = .inr (netT (restF t u), S.net t u))) := by
        rcases ho with ⟨a, b, c, e⟩ | ⟨a, b, c, e⟩
        · exact ⟨⟨a, b⟩, .inl ⟨c, e⟩⟩
        · exact ⟨⟨a, b⟩, .inr ⟨c, e⟩⟩
      obtain ⟨⟨nxy, lij⟩, hl⟩ := hl
      have fin : ∀ {G : Hp}, Same (tgt s4) G → o = .inl "NotAlike" → ∃ (du : Addr) (v1 v2 : V) (x12 x13 : Option V), [some (V.ref d.dr), some (.ref st), some (.ref h), some (.ref pp), some (.ref tt), some (.ref l'), some (.int S.m), some (.int x), some (.int y), some (.ref qa), some (.ref qb), some (.ref du0), none, none] = [some (V.ref d.dr), some (.ref st), some (.ref h), some (.ref pp), some (.ref tt), some (.ref l'), some (.int S.m), some (.int x), some (.int y), some (.ref qa), some (.ref qb), some (.ref du), x12, x13] ∧ SqT K G du [v1, v2] ∧ Dq K G v1 (og1 o) ∧ Dq K G v2 (og2 o) ∧ DueV K G S DP k v2 ∧ plJ 10 (ogD o) = true ∧ Same H2 G := fun s e => ⟨du0, .str "NotAlike", .non, none, none, rfl, Same.tup s sqt_upd, by rw [e]; exact .str _, by rw [e]; exact .non, .inl rfl, by rw [e]; rfl, S4.trans s⟩
      refine iteE (decide_eq_false fun z => nxy (by injection z with z; omega)) ?_
      refine ⟨_, rfl, 3, rfl, 5, rfl, qa, _, rfl, Same.tup S4 a1, fun c1 G1 tc1 y1 => ?_⟩
      have tc1 : SqT K G1 c1 [.ref ba, .ref pa] := tc1
      refine ⟨_, rfl, 3, rfl, 5, rfl, qb, _, rfl, Same.tup (S4.trans y1) b1, fun c2 G2 tc2 y2 => ?_⟩
      have tc2 : SqT K G2 c2 [.ref bb, .ref pb] := tc2
      have y12 := y1.trans y2
      have Y2 := S4.trans y12
      have ly1 := kdat_lyd hcs (hbt t hm)
      have ly2 := kdat_lyd hcs (hbt u hm2)
      refine ⟨kdat t.b, kdat u.b, .tup (Same.tup y2 tc1) (.cons (bdp (a2.mono (Same.tk Y2))) (.cons (dp2 (Same.tup Y2 a3)) .nil)), .tup tc2 (.cons (bdp (b2.mono (Same.tk Y2))) (.cons (dp2 (Same.tup Y2 b3)) .nil)), ly1.shaped (by decide), ly2.shaped (by decide), _, rfl, ?_⟩
      by_cases hb : ¬ t.b = u.b
      · rw [eqv_false (kdat_iff _ _) hb]
        rcases hl with ⟨_, e⟩ | ⟨z, _⟩
        · exact iteF (iteF (fin y12 e))
        · exact absurd z.1 hb
      have hb : t.b = u.b := Classical.byContradiction hb
      rw [(kdat_iff _ _).mpr hb]
      refine iteT ⟨_, rfl, 1, rfl, 3, rfl, qa, _, rfl, Same.tup Y2 a1, fun c3 G3 tc3 y3 => ?_⟩
      have tc3 : SqT K G3 c3 ([(t.l : Int), (t.s : Int)].map V.int) := tc3
      refine ⟨c3, _, rfl, tc3, fun ys py perm1 sort1 npy => ?_⟩
      have y4 := same_upd (o := .lst (ys.map V.int)) npy
      have y14 := y12.trans (y3.trans y4)
      refine ⟨_, rfl, 1, rfl, 3, rfl, qb, _, rfl, Same.tup (S4.trans y14) b1, fun c4 G5 tc4 y5 => ?_⟩
      have tc4 : SqT K G5 c4 ([(u.l : Int), (u.s : Int)].map V.int) := tc4
      refine ⟨c4, _, rfl, tc4, fun zs pz perm2 sort2' npz => ?_⟩
      have y6 := same_upd (o := .lst (zs.map V.int)) npz
      have y16 := y14.trans (y5.trans y6)
      have hlk := like_iff perm1 sort1 perm2 sort2'
      refine ⟨.list (ys.map .int), .list (zs.map .int), .lst (.inl (.inl ((y5.trans y6) _ _ upd_same))) (ints_dp ys), .lst (.inl (.inl upd_same)) (ints_dp zs), ints_shaped _, ints_shaped _, _, rfl, ?_⟩
      rw [ints_eqd]
      by_cases hz : ¬ ys = zs
      · rw [decide_eq_false hz]
        rcases hl with ⟨_, e⟩ | ⟨z, _⟩
        · exact iteF (fin y16 e)
        · exact absurd (hlk.mpr z).2 hz
      have hz : ys = zs := Classical.byContradiction hz
      rw [decide_eq_true hz]
      have lk := hlk.mp ⟨hb, hz⟩
      have e : o = .inr (netT (restF t u), S.net t u) := by
        rcases hl with ⟨z, _⟩ | ⟨_, e⟩
        · exact absurd lk z
        · exact e
      obtain ⟨hK, hSW, hts⟩ := hB.net hi hj lij lk
      have Y6 := S4.trans y16
      have fkt := hB.fk (by omega) t hm
      have fku := hB.fk (by omega) u hm2
      refine iteT ⟨_, rfl, _, rfl, qa, qb, t, u, rfl, hT.mono (Same.tk Y6), hU.mono (Same.tk Y6), fkt, fku, fun G7 so us tso fso y7 => ?_⟩
      have y17 := y16.trans y7
      have Y7 := S4.trans y17
      have T7 : Tk K H G7 := fun _ _ t => Same.tup Y7 (T2 _ _ t)
      have lus := fso.len
      have lo1 : (restF t u).toList.length ≤ 1 := by cases restF t u with | none => exact Nat.zero_le _ | some r => exact Nat.le_refl 1
      refine ⟨_, rfl, _, rfl, _, rfl, _, _, rfl, _, rfl, tt, tvs, rfl, T7 _ _ tT, fun d1 G8 td1 y8 => ?_⟩
      rw [emax, cut_take] at td1
      refine ⟨_, rfl, _, rfl, _, rfl, _, _, rfl, _, _, rfl, rfl, _, rfl, tt, tvs, rfl, Same.tup y8 (T7 _ _ tT), fun d2 G9 td2 y9 => ?_⟩
      rw [emax, show ((j : Int) + 1) = ((j + 1 : Nat) : Int) from rfl, cut_drop] at td2
      refine ⟨d1, d2, _, _, rfl, rfl, Same.tup y9 td1, td2, by simp only [List.length_take, List.length_drop]; omega, fun lf G10 tlf y10 => ?_⟩
      have tlf : SqT K G10 lf (tvs.take j ++ tvs.drop (j + 1)) := tlf
      refine ⟨_, rfl, _, rfl, _, rfl, _, _, rfl, _, rfl, lf, _, rfl, tlf, fun d3 G11 td3 y11 => ?_⟩
      rw [emin, cut_take] at td3
      have y711 := y8.trans (y9.trans (y10.trans y11))
      refine ⟨_, rfl, d3, so, _, us, rfl, rfl, td3, Same.tup y711 tso, by simp only [List.length_append, List.length_take, List.length_drop]; omega, fun d4 G12 td4 y12' => ?_⟩
      refine ⟨_, rfl, _, rfl, _, rfl, _, _, rfl, _, _, rfl, rfl, _, rfl, lf, _, rfl, Same.tup (y11.trans y12') tlf, fun d5 G13 td5 y13 => ?_⟩
      rw [emin, show ((i : Int) + 1) = ((i + 1 : Nat) : Int) from rfl, cut_drop] at td5
      refine ⟨d4, d5, _, _, rfl, rfl, Same.tup y13 td4, td5, by simp only [List.length_append, List.length_take, List.length_drop]; omega, fun d6 G14 td6 y14' => ?_⟩
      have y714 := y711.trans (y12'.trans (y13.trans y14'))
      have Y14 := Y7.trans y714
      have td6 : SqT K G14 d6 ((tvs.take j ++ tvs.drop (j + 1)).take i ++ us ++ (tvs.take j ++ tvs.drop (j + 1)).drop (i + 1)) := td6
      refine ⟨_, rfl, qa, _, 0, .int t.n, rfl, rfl, Same.tup Y14 a1, atI_nat (j := 0) rfl, by show 1 ≤ sizeLine; decide, fun l1 nl1 => ?_⟩
      have z1 := same_upd (o := .lst [.int t.n]) nl1
      refine ⟨_, rfl, so, us, rfl, .inr (Same.tup (y714.trans z1) tso), l1, (us.length : Int), _, rfl, rfl, upd_same, by omega, by omega, by rw [Int.toNat_natCast]; exact Nat.le_trans (show 1 * us.length ≤ 100 by omega) (by decide), fun l2 nl2 => ?_⟩
      rw [Int.toNat_natCast, flat_rep]
      have z2 := same_upd (o := .lst (List.replicate us.length (V.int t.n))) nl2
      refine ⟨by show 1 ≤ sizeLine; decide, fun l3 nl3 => ?_⟩
      have z3 := same_upd (o := .lst [.non]) nl3
      refine ⟨l2, l3, List.replicate us.length (.int t.n), [.non], rfl, rfl, z3 _ _ upd_same, upd_same, by rw [List.length_replicate]; exact Nat.le_trans (show us.length + 1 ≤ 100 by omega) (by decide), fun l4 nl4 => ?_⟩
      have z4 := same_upd (o := .lst (List.replicate us.length (V.int t.n) ++ [.non])) nl4
      have Z4 := z1.trans (z2.trans (z3.trans z4))
      obtain ⟨vt, hvt, dvt⟩ : ∃ vt : V, atI (List.replicate us.length (V.int t.n) ++ [.non]) 0 = some vt ∧ ∀ G, Dq K G vt (netT (restF t u)) := by
        cases er : restF t u with
        | none =>
          rw [er] at lus
          rw [show us.length = 0 from lus]
          exact ⟨.non, rfl, fun _ => .non⟩
        | some r =>
          rw [er] at lus
          rw [show us.length = 1 from lus]
          refine ⟨.int t.n, rfl, fun _ => ?_⟩
          show Dq K _ _ (.int (r.n : Int))
          rw [rest_n er]
          exact .int _
      refine ⟨l4, _, 0, vt, rfl, rfl, .inl (.inl upd_same), hvt, ?_⟩
      refine ⟨_, rfl, _, rfl, _, rfl, _, rfl, _, rfl, by show 5 ≤ sizeLine; decide, fun b5 nb5 => ⟨by show 2 ≤ sizeLine; decide, fun du ndu => ?_⟩⟩
      have z5 := same_upd (o := .tup [.ref h, .ref pp, .ref d6, .ref l', .int S.m]) nb5
      have z6 := same_upd (o := .tup [vt, .ref b5]) ndu
      have Z6 := Z4.trans (z5.trans z6)
      have YZ := Y14.trans Z6
      have TZ : Tk K H (tgt z6) := fun _ _ t => Same.tup YZ (T2 _ _ t)
      have hS' : StdAt K (tgt z6) b5 (S.net t u) := by
        refine ⟨h, pp, d6, l', pvs, _, lvs, Same.tup z6 sqt_upd, hH.mono TZ, TZ _ _ tP, fas_tk fP TZ, Same.tup Z6 td6, ?_, TZ _ _ tL, fL.imp fun _ _ x => x.mono TZ⟩
        rw [hts]
        have fLf := ((tks_tk fT TZ).take j).app ((tks_tk fT TZ).drop (j + 1))
        exact ((fLf.take i).app (tks_tk fso (Same.tk (y714.trans Z6)))).app (fLf.drop (i + 1))
      exact ⟨du, vt, .ref b5, _, _, rfl, sqt_upd, by rw [e]; exact dvt _, by rw [e]; exact hS'.dq, .inr ⟨b5, _, _, rfl, hS', hK, rfl, rfl, rfl, hSW⟩, by rw [e]; exact plJ_og fun x' e' => by injection e' with e'; rw [← e']; exact ⟨by show plJ 9 (netT (restF t u)) = true; cases restF t u <;> rfl, hK.pl⟩, YZ⟩
    rintro σ H5 ⟨du, v1, v2, x12, x13, rfl, tdu, g1, g2, hv', hpl, s5⟩
    have T5 : Tk K H H5 := fun _ _ t => Same.tup s5 (T2 _ _ t)
    obtain ⟨vx, hvx, hTx⟩ := (tks_tk fT T5).getB htx
    obtain ⟨vy, hvy, hTy⟩ := (tks_tk fT T5).getB hty
    obtain ⟨qx, _, _, _, rfl, x1, _⟩ := id hTx
    obtain ⟨qy, _, _, _, rfl, y1, _⟩ := id hTy
    refine ⟨_, rfl, _, rfl, _, rfl, _, rfl, tt, tvs, (x : Int), .ref qx, rfl, rfl, T5 _ _ tT, atI_nat hvx, qx, _, 0, .int tx.n, rfl, rfl, x1, rfl, _, rfl, _, rfl, tt, tvs, (y : Int), .ref qy, rfl, rfl, T5 _ _ tT, atI_nat hvy, qy, _, 0, .int ty.n, rfl, rfl, y1, rfl, by show 3 ≤ sizeLine; decide, fun dq ndq => ?_⟩
    have s6 := same_upd (o := .tup [.str "net", .int tx.n, .int ty.n]) ndq
    have hS6 := (hS.mono T5).mono (Same.tk s6)
    have w5 := w2.same s5
    refine ⟨_, rfl, du, _, 0, v1, rfl, rfl, Same.tup s6 tdu, atI_nat (j := 0) rfl, _, rfl, du, _, 1, v2, rfl, rfl, Same.tup s6 tdu, rfl, st, dq, v1, v2, o, rfl, (fun nm e => hR.name e), (fun H' Q' E' s' hh => ⟨st, dq, "net", [.int tx.n, .int ty.n], rfl, Same.tup s' sqt_upd, by simp, .inr ⟨rfl, fun H2' q' tq2 s'' => ⟨st, q', S, .int tx.n, .int ty.n, _, _, o, rfl, hS6.mono (Same.tk (s'.trans s'')), hB.fk (by omega), hbt, hcs, by omega, hB.nn, tq2, .int _, .int _, hR, hh.same s''⟩⟩⟩), dq_same s6 g1, dq_same s6 g2, hpl, fun H7 s7 => ⟨by show 2 ≤ sizeLine; decide, fun r nr => ?_⟩⟩
    have s8 := same_upd (o := .tup [.ref du, .bl true]) nr
    have SZ := s6.trans (s7.trans s8)
    exact q _ r du v1 v2 sqt_upd (Same.tup SZ tdu) (hv'.mono (Same.tk SZ)) (w5.same SZ) (k1.trans (k2.trans (Same.kp (s5.trans SZ))))
end
end B

namespace B
open PySem PySem.Spec PyProof.Rows L2

def sp_law (K : PySem.W.Frag) : Sp := fun vs H Q _ => ∃ (a : Addr) (ns : List Int), vs = [.ref a] ∧ SqL K H a (ns.map V.int) ∧ ns.length ≤ 63 ∧ (∀ z ∈ ns, Builtin.Int.intBits z ≤ 1048576) ∧ ∀ H', Q (.bl true) H'

section
variable {P : Program} {w : World} {K : PySem.W.Frag} {mg : Str → Option Value} {base : Heap}
theorem ok_law (T : Tx K mg w) (U : Unl P base) : FnOk P w K mg base CX0 49 T.law.f T.law.fd ["_law_script"] (sp_law K) := by
  refine T.law.F.ok sc_law (fun vs H Q E h => ?_) (fun cdv A outer s H vs Q E hr h => ?_)
  · obtain ⟨a, ns, rfl, hS, hlen, _, q⟩ := h
    rfl
  · obtain ⟨a, ns, rfl, hS, hlen, _, q⟩ := h
    refine ⟨_, (pss_cons (ps_set (i := 1) sc_law.nd rfl (.inl rfl) (pe_call (ok_l_draws T U) (hr.mono (by decide)) (by rfl) T.l_draws.g T.l_draws.F.kp T.l_draws.b .nil pass0 (pa_cons (pv 0) pa_nil)))
      (pss_cons (ps_set (i := 2) sc_law.nd rfl (.inl rfl) (pe_call (ok_l_alike_stand T U) (hr.mono (by decide)) (by rfl) T.l_alike_stand.g T.l_alike_stand.F.kp T.l_alike_stand.b .nil pass0 (pa_cons (pv 1) pa_nil)))
      (pss_cons (ps_for PassesOwn.never rfl (pi_range1 (by rfl) T.m_range (pa_cons pe_int pa_nil)) (pg_name (i := 3) sc_law.nd rfl (.inl rfl))
      (pss_one (ps_if (pt_cmpR (op_neT0 hr.units) (pe_ix ix_tup (pv 2) pe_int (fun _ _ => rfl)) (pe_tup pa_nil) (nomark _)) (pss_cons (ps_if (pt_cmpR op_eq (pe_call (ok_l_next T U) (hr.mono (by decide)) (by rfl) T.l_next.g T.l_next.F.kp T.l_next.b .nil pass0 (pa_cons (pv 1) (pa_cons pe_int pa_nil))) pe_int (nomark _)) (pss_one (ps_asg (pe_call (ok_l_split T U) (hr.mono (by decide)) (by rfl) T.l_split.g T.l_split.F.kp T.l_split.b .nil pass0 (pa_cons (pv 1) (pa_cons (pv 2) pa_nil))) (pg_tup rfl (pgs_cons (pg_name (i := 4) sc_law.nd rfl (.inl rfl)) (pgs_cons (pg_name (i := 5) sc_law.nd rfl (.inl rfl)) pgs_nil))))) (pss_one (ps_asg (pe_call (ok_l_net T U) (hr.mono (by decide)) (by rfl) T.l_net.g T.l_net.F.kp T.l_net.b .nil pass0 (pa_cons (pv 1) (pa_cons (pv 2) pa_nil))) (pg_tup rfl (pgs_cons (pg_name (i := 4) sc_law.nd rfl (.inl rfl)) (pgs_cons (pg_name (i := 5) sc_law.nd rfl (.inl rfl)) pgs_nil))))))
      (pss_cons (ps_if (PW.pt (pw_or (pt_not (pt_val (pv 5))) (pw_or1 (pt_not (pt_val (pe_call (ok_l_is T U) (hr.mono (by decide)) (by rfl) T.l_is.g T.l_is.F.kp T.l_is.b .nil pass0 (pa_cons (pv 2) (pa_cons (pe_tup (pa_cons pe_str (pa_cons (pe_ix ix_tup (pe_ix ix_tup (pe_ix ix_tup (pv 2) pe_int (fun _ _ => rfl)) pe_int (fun _ _ => rfl)) pe_int (fun _ _ => rfl)) (pa_cons (pe_ix ix_tup (pv 2) pe_int (fun _ _ => rfl)) pa_nil)))) (pa_cons pe_str (pa_cons pe_non pa_nil)))))))))) (pss_one (ps_ret pe_bl)) pss_nil)
      (pss_one (ps_if (pt_cmpR op_notN (pe_ix ix_tup (pv 4) pe_int (fun _ _ => rfl)) pe_non (nomark _)) (pss_cons (ps_if (pt_cmpR (op_neD hr.units) (pe_call (ok_l_worths T U) (hr.mono (by decide)) (by rfl) T.l_worths.g T.l_worths.F.kp T.l_worths.b .nil pass0 (pa_cons (pe_ix ix_tup (pv 4) pe_int (fun _ _ => rfl)) pa_nil)) (pe_call (ok_l_worths T U) (hr.mono (by decide)) (by rfl) T.l_worths.g T.l_worths.F.kp T.l_worths.b .nil pass0 (pa_cons (pv 2) pa_nil)) (nomark _)) (pss_one (ps_ret pe_bl)) pss_nil)
      (pss_one (ps_set (i := 2) sc_law.nd rfl (.inl rfl) (pe_ix ix_tup (pv 4) pe_int (fun _ _ => rfl))))) pss_nil)))) pss_nil)))
      (pss_one (ps_ret pe_bl))))), ?_⟩
    refine ⟨_, rfl, a, ns, rfl, hS, hlen, fun H1 d w1 _ _ _ => ?_⟩
    refine ⟨_, rfl, d, 1000, rfl, w1.less (by decide), fun H3 st S hS3 hB3 hne3 w3 k3 => ?_⟩
    refine ⟨6, rfl, by decide, by decide, for_range (lo := 0) (n := 6) (fun i σ H' => ∃ (st : Addr) (S : Std) (D : Nat) (x3 x4 x5 : Option V), σ = [some (.ref a), some (.ref d.dr), some (.ref st), x3, x4, x5] ∧ StdAt K H' st S ∧ StdK S D 1290240000000 i ∧ Drw H' d (1000 - 50 * i)) ⟨st, S, _, none, none, none, rfl, hS3, hB3, w3⟩ ?_ ?_⟩
    · rintro j σ H4 hj ⟨st, S, D, x3, x4, x5, rfl, hS4, hB, w4⟩
      have hj : j < 6 := hj
      obtain ⟨h, pp, tt, l', pvs, tvs, lvs, tS, hH, tP, fP, tT, fT, tL, fL⟩ := id hS4
      have lT := fT.len
      have lP := fP.len
      have p6 := hB.p6
      have n12 := hB.n
      refine ⟨_, rfl, st, _, 2, .ref tt, rfl, rfl, tS, rfl, by show 0 ≤ sizeLine; decide, fun e0 ne0 => ?_⟩
      have s5 := same_upd (o := .tup []) ne0
      have hS5 := hS4.mono (Same.tk s5)
      have w5 := w4.same s5
      refine ⟨tt, e0, tvs, rfl, rfl, Same.tup s5 tT, sqt_upd, _, rfl, ?_⟩
      cases e : tvs.isEmpty with
      | true =>
        refine iteF ?_
        exact ⟨st, S, D, _, _, _, rfl, hS5, hB.up, w5.less (by omega)⟩
      | false =>
      have hne : S.ts ≠ [] := fun z => by
        rw [z] at lT
        have : tvs = [] := List.length_eq_zero_iff.mp lT
        rw [this] at e
        cases e
      have t0 : 0 < S.ts.length := List.length_pos_iff.mpr hne
      obtain ⟨tk0, hk0⟩ : ∃ t, S.ts[0]? = some t := ⟨_, List.getElem?_eq_getElem t0⟩
      refine iteT ⟨_, rfl, d, 1000 - 50 * j - 1, 3, rfl, by decide, by decide, w5.less (by omega), fun H6 r r0 r1 w6 k6 => ?_⟩
      have T46 : Tk K H4 H6 := fun _ _ t => Kp.tup k6 w5 (Same.tup s5 t)
      have hS6 := hS4.mono T46
      by_cases c0 : r = 0
      · refine ⟨rfl, _, rfl, iteK (decide_eq_true (by rw [c0])) ⟨_, rfl, _, rfl, d, 1000 - 50 * j - 3, st, S, D, 1290240000000, j, rfl, hS6, hB, by omega, hne, w6.less (by omega), fun H7 r du v1 v2 tr tdu hv w7 k7 => ?_⟩⟩
        refine ⟨r, _, rfl, tr, rfl, _, _, rfl, _, _, rfl, rfl, ?_⟩
        have T47 : Tk K H4 H7 := fun _ _ t => Kp.tup k7 w6 (T46 _ _ t)
        have hS7 := hS4.mono T47
        obtain ⟨v0, hv0, hT0⟩ := (tks_tk fT T47).getB hk0
        obtain ⟨qx, _, _, _, rfl, x1, _⟩ := id hT0
        refine ⟨_, rfl, _, rfl, iteF ?_⟩
        refine ⟨_, rfl, _, rfl, st, _, 2, .ref tt, rfl, rfl, T47 _ _ tS, rfl, tt, tvs, 0, .ref qx, rfl, rfl, T47 _ _ tT, atI_nat (j := 0) hv0, qx, _, 0, .int tk0.n, rfl, rfl, x1, rfl, _, rfl, st, _, 4, .int S.m, rfl, rfl, T47 _ _ tS, rfl, by show 3 ≤ sizeLine; decide, fun dq ndq => ?_⟩
        have s8 := same_upd (o := .tup [.str "net", .int tk0.n, .int S.m]) ndq
        have hS8 := hS7.mono (Same.tk s8)
        have hR : NetR S (.int (tk0.n : Int)) (.int (S.m : Int)) (.inl "NoTicket") := .tick2 (List.mem_of_getElem? hk0) fun y hy e => by have := (hB.nn.t y hy).1; injection e with e; omega
        refine ⟨st, dq, .str "NoTicket", .non, .inl "NoTicket", rfl, (fun nm e => hR.name e), (fun H' Q' E' s' hh => ⟨st, dq, "net", [.int tk0.n, .int S.m], rfl, Same.tup s' sqt_upd, by simp, .inr ⟨rfl, fun H2' q' tq2 s'' => ⟨st, q', S, .int tk0.n, .int S.m, _, _, _, rfl, hS8.mono (Same.tk (s'.trans s'')), hB.fk (by omega), (fun t ht => (hB.t t ht).1.b.ok), (fun c hc => (hB.ls.small c hc).2), by omega, hB.nn, tq2, .int _, .int _, hR, hh.same s''⟩⟩⟩), .str _, .non, rfl, fun H9 s9 => ⟨_, rfl, iteF ?_⟩⟩
        have S9 := s8.trans s9
        have T49 : Tk K H4 H9 := fun _ _ t => Same.tup S9 (T47 _ _ t)
        have hS9 := hS4.mono T49
        have tdu9 := Same.tup S9 tdu
        have w9 := w7.same S9
        refine ⟨_, rfl, du, _, 1, v2, rfl, rfl, tdu9, rfl, rfl, _, rfl, ?_⟩
        rcases hv.mono (Same.tk S9) with rfl | ⟨sp, S', D', rfl, hSp, hKp, ec, er, ep, same⟩
        · refine iteE (by rw [decide_eq_true (rfl : V.non = V.non)]; rfl) ?_
          exact ⟨st, S, D, _, _, _, rfl, hS9, hB.up, w9.less (by omega)⟩
        · refine iteK (by rw [decide_eq_false (fun z : V.ref sp = V.non => nomatch z)]; rfl) ?_
          have okp := hKp.ok (by omega)
          have ok := hB.ok (by omega)
          obtain ⟨h', P', T', l2', pvs', tvs', lvs', tS', hH', tP', fP', tT', fT', tL', fL'⟩ := id hSp
          refine ⟨_, rfl, du, _, 1, .ref sp, rfl, rfl, tdu9, rfl, sp, h', P', T', _, pvs', tvs', S'.cs, S'.rs, S'.ps, S'.ts, _, _, rfl, tS', hH', hKp.h, tP', fP', by have := hKp.p6; omega, tT', fT', okp.t, okp.z, fun H10 L1 g1 s10 => ?_⟩
          have T410 : Tk K H4 H10 := fun _ _ t => Same.tup s10 (T49 _ _ t)
          refine ⟨_, rfl, st, h, pp, tt, _, pvs, tvs, S.cs, S.rs, S.ps, S.ts, _, _, rfl, T410 _ _ tS, hH.mono T410, hB.h, T410 _ _ tP, fas_tk fP T410, by omega, T410 _ _ tT, tks_tk fT T410, ok.t, ok.z, fun H11 L2 g2 s11 => ?_⟩
          have eg : gdD S'.ps.length (wor S'.cs S'.rs).length (fun i j => oneF (vl S'.cs ((wor S'.cs S'.rs).getD j [])) i (S'.ps.getD i (0, 1)) S'.ts) = gdD S.ps.length (wor S.cs S.rs).length (fun i j => oneF (vl S.cs ((wor S.cs S.rs).getD j [])) i (S.ps.getD i (0, 1)) S.ts) := by
            rw [ec, er, ep]
            exact gd_congr fun i j => same _ _ _ (getD_mem (P := Fr) (fun p hp => (hB.pz p hp).f) Fr.zero)
          refine ⟨_, _, grid_dp (g1.same s11), grid_dp g2, (gd_lyd _ _ _).shaped (by decide), (gd_lyd _ _ _).shaped (by decide), _, rfl, ?_⟩
          rw [eg, (gd_lyd _ _ _).eqv]
          refine iteF ?_
          have S11 := s10.trans s11
          exact ⟨_, rfl, du, _, 1, .ref sp, rfl, rfl, Same.tup S11 tdu9, rfl, sp, S', D', _, _, _, rfl, hSp.mono (Same.tk S11), hKp, (w9.same S11).less (by omega)⟩
      · refine ⟨rfl, _, rfl, iteE (decide_eq_false fun e => c0 (V.int.inj e)) ⟨_, rfl, _, rfl, d, 1000 - 50 * j - 3, st, S, D, 1290240000000, j, rfl, hS6, hB, by omega, hne, w6.less (by omega), fun H7 r du v1 v2 tr tdu hv w7 k7 => ?_⟩⟩
        refine ⟨r, _, rfl, tr, rfl, _, _, rfl, _, _, rfl, rfl, ?_⟩
        have T47 : Tk K H4 H7 := fun _ _ t => Kp.tup k7 w6 (T46 _ _ t)
        have hS7 := hS4.mono T47
        obtain ⟨v0, hv0, hT0⟩ := (tks_tk fT T47).getB hk0
        obtain ⟨qx, _, _, _, rfl, x1, _⟩ := id hT0
        refine ⟨_, rfl, _, rfl, iteF ?_⟩
        refine ⟨_, rfl, _, rfl, st, _, 2, .ref tt, rfl, rfl, T47 _ _ tS, rfl, tt, tvs, 0, .ref qx, rfl, rfl, T47 _ _ tT, atI_nat (j := 0) hv0, qx, _, 0, .int tk0.n, rfl, rfl, x1, rfl, _, rfl, st, _, 4, .int S.m, rfl, rfl, T47 _ _ tS, rfl, by show 3 ≤ sizeLine; decide, fun dq ndq => ?_⟩
        have s8 := same_upd (o := .tup [.str "net", .int tk0.n, .int S.m]) ndq
        have hS8 := hS7.mono (Same.tk s8)
        have hR : NetR S (.int (tk0.n : Int)) (.int (S.m : Int)) (.inl "NoTicket") := .tick2 (List.mem_of_getElem? hk0) fun y hy e => by have := (hB.nn.t y hy).1; injection e with e; omega
        refine ⟨st, dq, .str "NoTicket", .non, .inl "NoTicket", rfl, (fun nm e => hR.name e), (fun H' Q' E' s' hh => ⟨st, dq, "net", [.int tk0.n, .int S.m], rfl, Same.tup s' sqt_upd, by simp, .inr ⟨rfl, fun H2' q' tq2 s'' => ⟨st, q', S, .int tk0.n, .int S.m, _, _, _, rfl, hS8.mono (Same.tk (s'.trans s'')), hB.fk (by omega), (fun t ht => (hB.t t ht).1.b.ok), (fun c hc => (hB.ls.small c hc).2), by omega, hB.nn, tq2, .int _, .int _, hR, hh.same s''⟩⟩⟩), .str _, .non, rfl, fun H9 s9 => ⟨_, rfl, iteF ?_⟩⟩
        have S9 := s8.trans s9
        have T49 : Tk K H4 H9 := fun _ _ t => Same.tup S9 (T47 _ _ t)
        have hS9 := hS4.mono T49
        have tdu9 := Same.tup S9 tdu
        have w9 := w7.same S9
        refine ⟨_, rfl, du, _, 1, v2, rfl, rfl, tdu9, rfl, rfl, _, rfl, ?_⟩
        rcases hv.mono (Same.tk S9) with rfl | ⟨sp, S', D', rfl, hSp, hKp, ec, er, ep, same⟩
        · refine iteE (by rw [decide_eq_true (rfl : V.non = V.non)]; rfl) ?_
          exact ⟨st, S, D, _, _, _, rfl, hS9, hB.up, w9.less (by omega)⟩
        · refine iteK (by rw [decide_eq_false (fun z : V.ref sp = V.non => nomatch z)]; rfl) ?_
          have okp := hKp.ok (by omega)
          have ok := hB.ok (by omega)
          obtain ⟨h', P', T', l2', pvs', tvs', lvs', tS', hH', tP', fP', tT', fT', tL', fL'⟩ := id hSp
          refine ⟨_, rfl, du, _, 1, .ref sp, rfl, rfl, tdu9, rfl, sp, h', P', T', _, pvs', tvs', S'.cs, S'.rs, S'.ps, S'.ts, _, _, rfl, tS', hH', hKp.h, tP', fP', by have := hKp.p6; omega, tT', fT', okp.t, okp.z, fun H10 L1 g1 s10 => ?_⟩
          have T410 : Tk K H4 H10 := fun _ _ t => Same.tup s10 (T49 _ _ t)
          refine ⟨_, rfl, st, h, pp, tt, _, pvs, tvs, S.cs, S.rs, S.ps, S.ts, _, _, rfl, T410 _ _ tS, hH.mono T410, hB.h, T410 _ _ tP, fas_tk fP T410, by omega, T410 _ _ tT, tks_tk fT T410, ok.t, ok.z, fun H11 L2 g2 s11 => ?_⟩
          have eg : gdD S'.ps.length (wor S'.cs S'.rs).length (fun i j => oneF (vl S'.cs ((wor S'.cs S'.rs).getD j [])) i (S'.ps.getD i (0, 1)) S'.ts) = gdD S.ps.length (wor S.cs S.rs).length (fun i j => oneF (vl S.cs ((wor S.cs S.rs).getD j [])) i (S.ps.getD i (0, 1)) S.ts) := by
            rw [ec, er, ep]
            exact gd_congr fun i j => same _ _ _ (getD_mem (P := Fr) (fun p hp => (hB.pz p hp).f) Fr.zero)
          refine ⟨_, _, grid_dp (g1.same s11), grid_dp g2, (gd_lyd _ _ _).shaped (by decide), (gd_lyd _ _ _).shaped (by decide), _, rfl, ?_⟩
          rw [eg, (gd_lyd _ _ _).eqv]
          refine iteF ?_
          have S11 := s10.trans s11
          exact ⟨_, rfl, du, _, 1, .ref sp, rfl, rfl, Same.tup S11 tdu9, rfl, sp, S', D', _, _, _, rfl, hSp.mono (Same.tk S11), hKp, (w9.same S11).less (by omega)⟩
    · rintro σ H5 _
      exact q _
end
end B
namespace B
open PySem PySem.Spec PyProof.Rows L2
theorem lt_end {l : PySem.W.OpenLaw} {w : World} {K : PySem.W.Frag} {h : Heap} {mg : Str → Option Value} {fa : Addr} (tree : l.prog.given.tree = none) (X : K.In h) (G : h.Ns mainGlobals mg) (hfa : mg "law" = some (.ref fa)) (cM : SaysM lt_fa lt_fn lt_lf lt_ts w K) :
    ∃ fd : FuncData, (∀ (s : Shared) (v : Value), BindsTo s fd ⟨[v], []⟩ [("_law_script", v)]) ∧ ∀ base : Heap, K.In base → base.Ns mainGlobals mg → base.NoSeer → FnG l.prog w K mg base 49 fa fd ["_law_script"] (sp_law K) := by
  have c := cM.l
  obtain ⟨fd0, D00⟩ := c.d.def_ 0 rfl
  have D0 : FunD K "is_number" "is_number" (defArgs s_is_number) (defBody s_is_number) (defScope s_is_number) [] [] (He.ga K "is_number") fd0 := D00
  have g0 := He.glo_ok X G (c.d.fact 0 (f := .glo "is_number") rfl)
  obtain ⟨T0, ef0, efd0⟩ := df_of (ps := ["thing"]) D0 g0 (fun _ _ _ _ _ _ us hl => match us, hl with | [_], _ => rfl)
  obtain ⟨fd1, D10⟩ := c.d.def_ 1 rfl
  have D1 : FunD K "is_row" "is_row" (defArgs s_is_row) (defBody s_is_row) (defScope s_is_row) [] [] (He.ga K "is_row") fd1 := D10
  have g1 := He.glo_ok X G (c.d.fact 1 (f := .glo "is_row") rfl)
  obtain ⟨T1, ef1, efd1⟩ := df_of (ps := ["thing", "least", "most"]) D1 g1 (fun _ _ _ _ _ _ us hl => match us, hl with | [_, _, _], _ => rfl)
  obtain ⟨fd2, D20⟩ := c.d.def_ 2 rfl
  have D2 : FunD K "common" "common" (defArgs s_common) (defBody s_common) (defScope s_common) [] [] (He.ga K "common") fd2 := D20
  have g2 := He.glo_ok X G (c.d.fact 2 (f := .glo "common") rfl)
  obtain ⟨T2, ef2, efd2⟩ := df_of (ps := ["one", "other"]) D2 g2 (fun _ _ _ _ _ _ us hl => match us, hl with | [_, _], _ => rfl)
  obtain ⟨fd3, D30⟩ := c.d.def_ 3 rfl
  have D3 : FunD K "plus" "plus" (defArgs s_plus) (defBody s_plus) (defScope s_plus) [] [] (He.ga K "plus") fd3 := D30
  have g3 := He.glo_ok X G (c.d.fact 3 (f := .glo "plus") rfl)
  obtain ⟨T3, ef3, efd3⟩ := df_of (ps := ["one", "other"]) D3 g3 (fun _ _ _ _ _ _ us hl => match us, hl with | [_, _], _ => rfl)
  obtain ⟨fd4, D40⟩ := c.d.def_ 4 rfl
  have D4 : FunD K "turned_about" "turned_about" (defArgs s_turned_about) (defBody s_turned_about) (defScope s_turned_about) [] [] (He.ga K "turned_about") fd4 := D40
  have g4 := He.glo_ok X G (c.d.fact 4 (f := .glo "turned_about") rfl)
  obtain ⟨T4, ef4, efd4⟩ := df_of (ps := ["one"]) D4 g4 (fun _ _ _ _ _ _ us hl => match us, hl with | [_], _ => rfl)
  obtain ⟨fd5, D50⟩ := c.d.def_ 5 rfl
  have D5 : FunD K "minus" "minus" (defArgs s_minus) (defBody s_minus) (defScope s_minus) [] [] (He.ga K "minus") fd5 := D50
  have g5 := He.glo_ok X G (c.d.fact 5 (f := .glo "minus") rfl)
  obtain ⟨T5, ef5, efd5⟩ := df_of (ps := ["one", "other"]) D5 g5 (fun _ _ _ _ _ _ us hl => match us, hl with | [_, _], _ => rfl)
  obtain ⟨fd6, D60⟩ := c.d.def_ 6 rfl
  have D6 : FunD K "less" "less" (defArgs s_less) (defBody s_less) (defScope s_less) [] [] (He.ga K "less") fd6 := D60
  have g6 := He.glo_ok X G (c.d.fact 6 (f := .glo "less") rfl)
  obtain ⟨T6, ef6, efd6⟩ := df_of (ps := ["one", "other"]) D6 g6 (fun _ _ _ _ _ _ us hl => match us, hl with | [_, _], _ => rfl)
  obtain ⟨fd7, D70⟩ := c.d.def_ 7 rfl
  have D7 : FunD K "is_fraction" "is_fraction" (defArgs s_is_fraction) (defBody s_is_fraction) (defScope s_is_fraction) [] [] (He.ga K "is_fraction") fd7 := D70
  have g7 := He.glo_ok X G (c.d.fact 7 (f := .glo "is_fraction") rfl)
  obtain ⟨T7, ef7, efd7⟩ := df_of (ps := ["thing"]) D7 g7 (fun _ _ _ _ _ _ us hl => match us, hl with | [_], _ => rfl)
  obtain ⟨fd8, D80⟩ := c.d.def_ 8 rfl
  have D8 : FunD K "is_above_zero" "is_above_zero" (defArgs s_is_above_zero) (defBody s_is_above_zero) (defScope s_is_above_zero) [] [] (He.ga K "is_above_zero") fd8 := D80
  have g8 := He.glo_ok X G (c.d.fact 8 (f := .glo "is_above_zero") rfl)
  obtain ⟨T8, ef8, efd8⟩ := df_of (ps := ["thing"]) D8 g8 (fun _ _ _ _ _ _ us hl => match us, hl with | [_], _ => rfl)
  obtain ⟨fd9, D90⟩ := c.d.def_ 9 rfl
  have D9 : FunD K "with_stake" "with_stake" (defArgs s_with_stake) (defBody s_with_stake) (defScope s_with_stake) [] [] (He.ga K "with_stake") fd9 := D90
  have g9 := He.glo_ok X G (c.d.fact 9 (f := .glo "with_stake") rfl)
  obtain ⟨T9, ef9, efd9⟩ := df_of (ps := ["ticket", "stake"]) D9 g9 (fun _ _ _ _ _ _ us hl => match us, hl with | [_, _], _ => rfl)
  obtain ⟨fd10, D100⟩ := c.d.def_ 10 rfl
  have D10 : FunD K "ticket_of" "ticket_of" (defArgs s_ticket_of) (defBody s_ticket_of) (defScope s_ticket_of) [] [] (He.ga K "ticket_of") fd10 := D100
  have g10 := He.glo_ok X G (c.d.fact 10 (f := .glo "ticket_of") rfl)
  obtain ⟨T10, ef10, efd10⟩ := df_of (ps := ["tickets", "number"]) D10 g10 (fun _ _ _ _ _ _ us hl => match us, hl with | [_, _], _ => rfl)
  obtain ⟨fd11, D110⟩ := c.d.def_ 11 rfl
  have D11 : FunD K "without" "without" (defArgs s_without) (defBody s_without) (defScope s_without) [] [] (He.ga K "without") fd11 := D110
  have g11 := He.glo_ok X G (c.d.fact 11 (f := .glo "without") rfl)
  obtain ⟨T11, ef11, efd11⟩ := df_of (ps := ["tickets", "gone"]) D11 g11 (fun _ _ _ _ _ _ us hl => match us, hl with | [_, _], _ => rfl)
  obtain ⟨fd12, D120⟩ := c.d.def_ 12 rfl
  have D12 : FunD K "exchanged" "exchanged" (defArgs s_exchanged) (defBody s_exchanged) (defScope s_exchanged) [] [] (He.ga K "exchanged") fd12 := D120
  have g12 := He.glo_ok X G (c.d.fact 12 (f := .glo "exchanged") rfl)
  obtain ⟨T12, ef12, efd12⟩ := df_of (ps := ["tickets", "new"]) D12 g12 (fun _ _ _ _ _ _ us hl => match us, hl with | [_, _], _ => rfl)
  obtain ⟨fd13, D130⟩ := c.d.def_ 13 rfl
  have D13 : FunD K "rest_of" "rest_of" (defArgs s_rest_of) (defBody s_rest_of) (defScope s_rest_of) [] [] (He.ga K "rest_of") fd13 := D130
  have g13 := He.glo_ok X G (c.d.fact 13 (f := .glo "rest_of") rfl)
  obtain ⟨T13, ef13, efd13⟩ := df_of (ps := ["lesser", "greater"]) D13 g13 (fun _ _ _ _ _ _ us hl => match us, hl with | [_, _], _ => rfl)
  obtain ⟨fd14, D140⟩ := c.d.def_ 14 rfl
  have D14 : FunD K "few_enough" "few_enough" (defArgs s_few_enough) (defBody s_few_enough) (defScope s_few_enough) [] [] (He.ga K "few_enough") fd14 := D140
  have g14 := He.glo_ok X G (c.d.fact 14 (f := .glo "few_enough") rfl)
  obtain ⟨T14, ef14, efd14⟩ := df_of (ps := ["tickets"]) D14 g14 (fun _ _ _ _ _ _ us hl => match us, hl with | [_], _ => rfl)
  obtain ⟨fd15, D150⟩ := c.d.def_ 15 rfl
  have D15 : FunD K "standing" "standing" (defArgs s_standing) (defBody s_standing) (defScope s_standing) [] [] (He.ga K "standing") fd15 := D150
  have g15 := He.glo_ok X G (c.d.fact 15 (f := .glo "standing") rfl)
  obtain ⟨T15, ef15, efd15⟩ := df_of (ps := ["stand", "number"]) D15 g15 (fun _ _ _ _ _ _ us hl => match us, hl with | [_, _], _ => rfl)
  obtain ⟨fd16, D160⟩ := c.d.def_ 16 rfl
  have D16 : FunD K "dealt" "dealt" (defArgs s_dealt) (defBody s_dealt) (defScope s_dealt) [] [] (He.ga K "dealt") fd16 := D160
  have g16 := He.glo_ok X G (c.d.fact 16 (f := .glo "dealt") rfl)
  obtain ⟨T16, ef16, efd16⟩ := df_of (ps := ["stand", "parts"]) D16 g16 (fun _ _ _ _ _ _ us hl => match us, hl with | [_, _], _ => rfl)
  obtain ⟨fd17, D170⟩ := c.d.def_ 17 rfl
  have D17 : FunD K "parted" "parted" (defArgs s_parted) (defBody s_parted) (defScope s_parted) [] [] (He.ga K "parted") fd17 := D170
  have g17 := He.glo_ok X G (c.d.fact 17 (f := .glo "parted") rfl)
  obtain ⟨T17, ef17, efd17⟩ := df_of (ps := ["stand", "parts"]) D17 g17 (fun _ _ _ _ _ _ us hl => match us, hl with | [_, _], _ => rfl)
  obtain ⟨fd18, D180⟩ := c.d.def_ 18 rfl
  have D18 : FunD K "handed" "handed" (defArgs s_handed) (defBody s_handed) (defScope s_handed) [] [] (He.ga K "handed") fd18 := D180
  have g18 := He.glo_ok X G (c.d.fact 18 (f := .glo "handed") rfl)
  obtain ⟨T18, ef18, efd18⟩ := df_of (ps := ["stand", "parts"]) D18 g18 (fun _ _ _ _ _ _ us hl => match us, hl with | [_, _], _ => rfl)
  obtain ⟨fd19, D190⟩ := c.d.def_ 19 rfl
  have D19 : FunD K "netted" "netted" (defArgs s_netted) (defBody s_netted) (defScope s_netted) [] [] (He.ga K "netted") fd19 := D190
  have g19 := He.glo_ok X G (c.d.fact 19 (f := .glo "netted") rfl)
  obtain ⟨T19, ef19, efd19⟩ := df_of (ps := ["stand", "parts"]) D19 g19 (fun _ _ _ _ _ _ us hl => match us, hl with | [_, _], _ => rfl)
  obtain ⟨fd20, D200⟩ := c.d.def_ 20 rfl
  have D20 : FunD K "cleared" "cleared" (defArgs s_cleared) (defBody s_cleared) (defScope s_cleared) [] [] (He.ga K "cleared") fd20 := D200
  have g20 := He.glo_ok X G (c.d.fact 20 (f := .glo "cleared") rfl)
  obtain ⟨T20, ef20, efd20⟩ := df_of (ps := ["stand", "parts"]) D20 g20 (fun _ _ _ _ _ _ us hl => match us, hl with | [_, _], _ => rfl)
  obtain ⟨fd21, D210⟩ := c.d.def_ 21 rfl
  have D21 : FunD K "posted" "posted" (defArgs s_posted) (defBody s_posted) (defScope s_posted) [] [] (He.ga K "posted") fd21 := D210
  have g21 := He.glo_ok X G (c.d.fact 21 (f := .glo "posted") rfl)
  obtain ⟨T21, ef21, efd21⟩ := df_of (ps := ["stand", "parts"]) D21 g21 (fun _ _ _ _ _ _ us hl => match us, hl with | [_, _], _ => rfl)
  obtain ⟨fd22, D220⟩ := c.d.def_ 22 rfl
  have D22 : FunD K "sold" "sold" (defArgs s_sold) (defBody s_sold) (defScope s_sold) [] [] (He.ga K "sold") fd22 := D220
  have g22 := He.glo_ok X G (c.d.fact 22 (f := .glo "sold") rfl)
  obtain ⟨T22, ef22, efd22⟩ := df_of (ps := ["stand", "parts"]) D22 g22 (fun _ _ _ _ _ _ us hl => match us, hl with | [_, _], _ => rfl)
  obtain ⟨fd23, D230⟩ := c.d.def_ 23 rfl
  have D23 : FunD K "heard" "heard" (defArgs s_heard) (defBody s_heard) (defScope s_heard) [] [] (He.ga K "heard") fd23 := D230
  have g23 := He.glo_ok X G (c.d.fact 23 (f := .glo "heard") rfl)
  obtain ⟨T23, ef23, efd23⟩ := df_of (ps := ["stand", "parts"]) D23 g23 (fun _ _ _ _ _ _ us hl => match us, hl with | [_, _], _ => rfl)
  obtain ⟨fd24, D240⟩ := c.d.def_ 24 rfl
  have D24 : FunD K "is_deed" "is_deed" (defArgs s_is_deed) (defBody s_is_deed) (defScope s_is_deed) [] [] (He.ga K "is_deed") fd24 := D240
  have g24 := He.glo_ok X G (c.d.fact 24 (f := .glo "is_deed") rfl)
  obtain ⟨T24, ef24, efd24⟩ := df_of (ps := ["thing"]) D24 g24 (fun _ _ _ _ _ _ us hl => match us, hl with | [_], _ => rfl)
  obtain ⟨fd25, D250⟩ := c.d.def_ 25 rfl
  have D25 : FunD K "done" "done" (defArgs s_done) (defBody s_done) (defScope s_done) [] [] (He.ga K "done") fd25 := D250
  have g25 := He.glo_ok X G (c.d.fact 25 (f := .glo "done") rfl)
  obtain ⟨T25, ef25, efd25⟩ := df_of (ps := ["stand", "deed"]) D25 g25 (fun _ _ _ _ _ _ us hl => match us, hl with | [_, _], _ => rfl)
  obtain ⟨fd26, D260⟩ := c.d.def_ 26 rfl
  have D26 : FunD K "_law_draws" "_law_draws" (defArgs s_l_draws) (defBody s_l_draws) (defScope s_l_draws) [] [] (He.ga K "_law_draws") fd26 := D260
  have g26 := He.glo_ok X G (c.d.fact 26 (f := .glo "_law_draws") rfl)
  obtain ⟨T26, ef26, efd26⟩ := df_of (ps := ["_law_script"]) D26 g26 (fun _ _ _ _ _ _ us hl => match us, hl with | [_], _ => rfl)
  obtain ⟨fd27, D270⟩ := c.d.def_ 27 rfl
  have D27 : FunD K "_law_next" "_law_next" (defArgs s_l_next) (defBody s_l_next) (defScope s_l_next) [] [] (He.ga K "_law_next") fd27 := D270
  have g27 := He.glo_ok X G (c.d.fact 27 (f := .glo "_law_next") rfl)
  obtain ⟨T27, ef27, efd27⟩ := df_of (ps := ["_law_drawn", "_law_many"]) D27 g27 (fun _ _ _ _ _ _ us hl => match us, hl with | [_, _], _ => rfl)
  obtain ⟨fd28, D280⟩ := c.d.def_ 28 rfl
  have D28 : FunD K "_law_whole" "_law_whole" (defArgs s_l_whole) (defBody s_l_whole) (defScope s_l_whole) [] [] (He.ga K "_law_whole") fd28 := D280
  have g28 := He.glo_ok X G (c.d.fact 28 (f := .glo "_law_whole") rfl)
  obtain ⟨T28, ef28, efd28⟩ := df_of (ps := ["_law_thing"]) D28 g28 (fun _ _ _ _ _ _ us hl => match us, hl with | [_], _ => rfl)
  obtain ⟨fd29, D290⟩ := c.d.def_ 29 rfl
  have D29 : FunD K "_law_lowest" "_law_lowest" (defArgs s_l_lowest) (defBody s_l_lowest) (defScope s_l_lowest) [] [] (He.ga K "_law_lowest") fd29 := D290
  have g29 := He.glo_ok X G (c.d.fact 29 (f := .glo "_law_lowest") rfl)
  obtain ⟨T29, ef29, efd29⟩ := df_of (ps := ["_law_top", "_law_bottom"]) D29 g29 (fun _ _ _ _ _ _ us hl => match us, hl with | [_, _], _ => rfl)
  obtain ⟨fd30, D300⟩ := c.d.def_ 30 rfl
  have D30 : FunD K "_law_plus" "_law_plus" (defArgs s_l_plus) (defBody s_l_plus) (defScope s_l_plus) [] [] (He.ga K "_law_plus") fd30 := D300
  have g30 := He.glo_ok X G (c.d.fact 30 (f := .glo "_law_plus") rfl)
  obtain ⟨T30, ef30, efd30⟩ := df_of (ps := ["_law_one", "_law_other"]) D30 g30 (fun _ _ _ _ _ _ us hl => match us, hl with | [_, _], _ => rfl)
  obtain ⟨fd31, D310⟩ := c.d.def_ 31 rfl
  have D31 : FunD K "_law_times" "_law_times" (defArgs s_l_times) (defBody s_l_times) (defScope s_l_times) [] [] (He.ga K "_law_times") fd31 := D310
  have g31 := He.glo_ok X G (c.d.fact 31 (f := .glo "_law_times") rfl)
  obtain ⟨T31, ef31, efd31⟩ := df_of (ps := ["_law_one", "_law_other"]) D31 g31 (fun _ _ _ _ _ _ us hl => match us, hl with | [_, _], _ => rfl)
  obtain ⟨fd32, D320⟩ := c.d.def_ 32 rfl
  have D32 : FunD K "_law_less" "_law_less" (defArgs s_l_less) (defBody s_l_less) (defScope s_l_less) [] [] (He.ga K "_law_less") fd32 := D320
  have g32 := He.glo_ok X G (c.d.fact 32 (f := .glo "_law_less") rfl)
  obtain ⟨T32, ef32, efd32⟩ := df_of (ps := ["_law_one", "_law_other"]) D32 g32 (fun _ _ _ _ _ _ us hl => match us, hl with | [_, _], _ => rfl)
  obtain ⟨fd33, D330⟩ := c.d.def_ 33 rfl
  have D33 : FunD K "_law_holds" "_law_holds" (defArgs s_l_holds) (defBody s_l_holds) (defScope s_l_holds) [] [] (He.ga K "_law_holds") fd33 := D330
  have g33 := He.glo_ok X G (c.d.fact 33 (f := .glo "_law_holds") rfl)
  obtain ⟨T33, ef33, efd33⟩ := df_of (ps := ["_law_letters", "_law_saying", "_law_world"]) D33 g33 (fun _ _ _ _ _ _ us hl => match us, hl with | [_, _, _], _ => rfl)
  obtain ⟨fd34, D340⟩ := c.d.def_ 34 rfl
  have D34 : FunD K "_law_worlds" "_law_worlds" (defArgs s_l_worlds) (defBody s_l_worlds) (defScope s_l_worlds) [] [] (He.ga K "_law_worlds") fd34 := D340
  have g34 := He.glo_ok X G (c.d.fact 34 (f := .glo "_law_worlds") rfl)
  obtain ⟨T34, ef34, efd34⟩ := df_of (ps := ["_law_house"]) D34 g34 (fun _ _ _ _ _ _ us hl => match us, hl with | [_], _ => rfl)
  obtain ⟨fd35, D350⟩ := c.d.def_ 35 rfl
  have D35 : FunD K "_law_paid" "_law_paid" (defArgs s_l_paid) (defBody s_l_paid) (defScope s_l_paid) [] [] (He.ga K "_law_paid") fd35 := D350
  have g35 := He.glo_ok X G (c.d.fact 35 (f := .glo "_law_paid") rfl)
  obtain ⟨T35, ef35, efd35⟩ := df_of (ps := ["_law_letters", "_law_bet", "_law_world"]) D35 g35 (fun _ _ _ _ _ _ us hl => match us, hl with | [_, _, _], _ => rfl)
  obtain ⟨fd36, D360⟩ := c.d.def_ 36 rfl
  have D36 : FunD K "_law_table" "_law_table" (defArgs s_l_table) (defBody s_l_table) (defScope s_l_table) [] [] (He.ga K "_law_table") fd36 := D360
  have g36 := He.glo_ok X G (c.d.fact 36 (f := .glo "_law_table") rfl)
  obtain ⟨T36, ef36, efd36⟩ := df_of (ps := ["_law_house", "_law_bet"]) D36 g36 (fun _ _ _ _ _ _ us hl => match us, hl with | [_, _], _ => rfl)
  obtain ⟨fd37, D370⟩ := c.d.def_ 37 rfl
  have D37 : FunD K "_law_turned" "_law_turned" (defArgs s_l_turned) (defBody s_l_turned) (defScope s_l_turned) [] [] (He.ga K "_law_turned") fd37 := D370
  have g37 := He.glo_ok X G (c.d.fact 37 (f := .glo "_law_turned") rfl)
  obtain ⟨T37, ef37, efd37⟩ := df_of (ps := ["_law_one"]) D37 g37 (fun _ _ _ _ _ _ us hl => match us, hl with | [_], _ => rfl)
  obtain ⟨fd38, D380⟩ := c.d.def_ 38 rfl
  have D38 : FunD K "_law_just" "_law_just" (defArgs s_l_just) (defBody s_l_just) (defScope s_l_just) [] [] (He.ga K "_law_just") fd38 := D380
  have g38 := He.glo_ok X G (c.d.fact 38 (f := .glo "_law_just") rfl)
  obtain ⟨T38, ef38, efd38⟩ := df_of (ps := ["_law_thing", "_law_due"]) D38 g38 (fun _ _ _ _ _ _ us hl => match us, hl with | [_, _], _ => rfl)
  obtain ⟨fd39, D390⟩ := c.d.def_ 39 rfl
  have D39 : FunD K "_law_brings" "_law_brings" (defArgs s_l_brings) (defBody s_l_brings) (defScope s_l_brings) [] [] (He.ga K "_law_brings") fd39 := D390
  have g39 := He.glo_ok X G (c.d.fact 39 (f := .glo "_law_brings") rfl)
  obtain ⟨T39, ef39, efd39⟩ := df_of (ps := ["_law_house", "_law_ticket_here"]) D39 g39 (fun _ _ _ _ _ _ us hl => match us, hl with | [_, _], _ => rfl)
  obtain ⟨fd40, D400⟩ := c.d.def_ 40 rfl
  have D40 : FunD K "_law_worths" "_law_worths" (defArgs s_l_worths) (defBody s_l_worths) (defScope s_l_worths) [] [] (He.ga K "_law_worths") fd40 := D400
  have g40 := He.glo_ok X G (c.d.fact 40 (f := .glo "_law_worths") rfl)
  obtain ⟨T40, ef40, efd40⟩ := df_of (ps := ["_law_stand"]) D40 g40 (fun _ _ _ _ _ _ us hl => match us, hl with | [_], _ => rfl)
  obtain ⟨fd41, D410⟩ := c.d.def_ 41 rfl
  have D41 : FunD K "_law_put" "_law_put" (defArgs s_l_put) (defBody s_l_put) (defScope s_l_put) [] [] (He.ga K "_law_put") fd41 := D410
  have g41 := He.glo_ok X G (c.d.fact 41 (f := .glo "_law_put") rfl)
  obtain ⟨T41, ef41, efd41⟩ := df_of (ps := ["_law_row", "_law_at", "_law_thing"]) D41 g41 (fun _ _ _ _ _ _ us hl => match us, hl with | [_, _, _], _ => rfl)
  obtain ⟨fd42, D420⟩ := c.d.def_ 42 rfl
  have D42 : FunD K "_law_least" "_law_least" (defArgs s_l_least) (defBody s_l_least) (defScope s_l_least) [] [] (He.ga K "_law_least") fd42 := D420
  have g42 := He.glo_ok X G (c.d.fact 42 (f := .glo "_law_least") rfl)
  obtain ⟨T42, ef42, efd42⟩ := df_of (ps := ["_law_row"]) D42 g42 (fun _ _ _ _ _ _ us hl => match us, hl with | [_], _ => rfl)
  obtain ⟨fd43, D430⟩ := c.d.def_ 43 rfl
  have D43 : FunD K "_law_stake" "_law_stake" (defArgs s_l_stake) (defBody s_l_stake) (defScope s_l_stake) [] [] (He.ga K "_law_stake") fd43 := D430
  have g43 := He.glo_ok X G (c.d.fact 43 (f := .glo "_law_stake") rfl)
  obtain ⟨T43, ef43, efd43⟩ := df_of (ps := ["_law_drawn"]) D43 g43 (fun _ _ _ _ _ _ us hl => match us, hl with | [_], _ => rfl)
  obtain ⟨fd44, D440⟩ := c.d.def_ 44 rfl
  have D44 : FunD K "_law_place" "_law_place" (defArgs s_l_place) (defBody s_l_place) (defScope s_l_place) [] [] (He.ga K "_law_place") fd44 := D440
  have g44 := He.glo_ok X G (c.d.fact 44 (f := .glo "_law_place") rfl)
  obtain ⟨T44, ef44, efd44⟩ := df_of (ps := ["_law_drawn"]) D44 g44 (fun _ _ _ _ _ _ us hl => match us, hl with | [_], _ => rfl)
  obtain ⟨fd45, D450⟩ := c.d.def_ 45 rfl
  have D45 : FunD K "_law_simple" "_law_simple" (defArgs s_l_simple) (defBody s_l_simple) (defScope s_l_simple) [] [] (He.ga K "_law_simple") fd45 := D450
  have g45 := He.glo_ok X G (c.d.fact 45 (f := .glo "_law_simple") rfl)
  obtain ⟨T45, ef45, efd45⟩ := df_of (ps := ["_law_drawn", "_law_letters"]) D45 g45 (fun _ _ _ _ _ _ us hl => match us, hl with | [_, _], _ => rfl)
  obtain ⟨fd46, D460⟩ := c.d.def_ 46 rfl
  have D46 : FunD K "_law_wager" "_law_wager" (defArgs s_l_wager) (defBody s_l_wager) (defScope s_l_wager) [] [] (He.ga K "_law_wager") fd46 := D460
  have g46 := He.glo_ok X G (c.d.fact 46 (f := .glo "_law_wager") rfl)
  obtain ⟨T46, ef46, efd46⟩ := df_of (ps := ["_law_drawn", "_law_house"]) D46 g46 (fun _ _ _ _ _ _ us hl => match us, hl with | [_, _], _ => rfl)
  obtain ⟨fd47, D470⟩ := c.d.def_ 47 rfl
  have D47 : FunD K "_law_cost" "_law_cost" (defArgs s_l_cost) (defBody s_l_cost) (defScope s_l_cost) [] [] (He.ga K "_law_cost") fd47 := D470
  have g47 := He.glo_ok X G (c.d.fact 47 (f := .glo "_law_cost") rfl)
  obtain ⟨T47, ef47, efd47⟩ := df_of (ps := ["_law_drawn", "_law_table_here"]) D47 g47 (fun _ _ _ _ _ _ us hl => match us, hl with | [_, _], _ => rfl)
  obtain ⟨fd48, D480⟩ := c.d.def_ 48 rfl
  have D48 : FunD K "_law_offers" "_law_offers" (defArgs s_l_offers) (defBody s_l_offers) (defScope s_l_offers) [] [] (He.ga K "_law_offers") fd48 := D480
  have g48 := He.glo_ok X G (c.d.fact 48 (f := .glo "_law_offers") rfl)
  obtain ⟨T48, ef48, efd48⟩ := df_of (ps := ["_law_drawn", "_law_house", "_law_many"]) D48 g48 (fun _ _ _ _ _ _ us hl => match us, hl with | [_, _, _], _ => rfl)
  obtain ⟨fd49, D490⟩ := c.d.def_ 49 rfl
  have D49 : FunD K "_law_ticket" "_law_ticket" (defArgs s_l_ticket) (defBody s_l_ticket) (defScope s_l_ticket) [] [] (He.ga K "_law_ticket") fd49 := D490
  have g49 := He.glo_ok X G (c.d.fact 49 (f := .glo "_law_ticket") rfl)
  obtain ⟨T49, ef49, efd49⟩ := df_of (ps := ["_law_drawn", "_law_house", "_law_holders", "_law_number"]) D49 g49 (fun _ _ _ _ _ _ us hl => match us, hl with | [_, _, _, _], _ => rfl)
  obtain ⟨fd50, D500⟩ := c.d.def_ 50 rfl
  have D50 : FunD K "_law_tickets" "_law_tickets" (defArgs s_l_tickets) (defBody s_l_tickets) (defScope s_l_tickets) [] [] (He.ga K "_law_tickets") fd50 := D500
  have g50 := He.glo_ok X G (c.d.fact 50 (f := .glo "_law_tickets") rfl)
  obtain ⟨T50, ef50, efd50⟩ := df_of (ps := ["_law_drawn", "_law_house", "_law_holders", "_law_many"]) D50 g50 (fun _ _ _ _ _ _ us hl => match us, hl with | [_, _, _, _], _ => rfl)
  obtain ⟨fd51, D510⟩ := c.d.def_ 51 rfl
  have D51 : FunD K "_law_purses" "_law_purses" (defArgs s_l_purses) (defBody s_l_purses) (defScope s_l_purses) [] [] (He.ga K "_law_purses") fd51 := D510
  have g51 := He.glo_ok X G (c.d.fact 51 (f := .glo "_law_purses") rfl)
  obtain ⟨T51, ef51, efd51⟩ := df_of (ps := ["_law_drawn", "_law_house", "_law_holders", "_law_tickets_here"]) D51 g51 (fun _ _ _ _ _ _ us hl => match us, hl with | [_, _, _, _], _ => rfl)
  obtain ⟨fd52, D520⟩ := c.d.def_ 52 rfl
  have D52 : FunD K "_law_class" "_law_class" (defArgs s_l_class) (defBody s_l_class) (defScope s_l_class) [] [] (He.ga K "_law_class") fd52 := D520
  have g52 := He.glo_ok X G (c.d.fact 52 (f := .glo "_law_class") rfl)
  obtain ⟨T52, ef52, efd52⟩ := df_of (ps := ["_law_error"]) D52 g52 (fun _ _ _ _ _ _ us hl => match us, hl with | [_], _ => rfl)
  obtain ⟨fd53, D530⟩ := c.d.def_ 53 rfl
  have D53 : FunD K "_law_done" "_law_done" (defArgs s_l_done) (defBody s_l_done) (defScope s_l_done) [] [] (He.ga K "_law_done") fd53 := D530
  have g53 := He.glo_ok X G (c.d.fact 53 (f := .glo "_law_done") rfl)
  obtain ⟨T53, ef53, efd53⟩ := df_of (ps := ["_law_stand", "_law_deed"]) D53 g53 (fun _ _ _ _ _ _ us hl => match us, hl with | [_, _], _ => rfl)
  obtain ⟨fd54, D540⟩ := c.d.def_ 54 rfl
  have D54 : FunD K "_law_is" "_law_is" (defArgs s_l_is) (defBody s_l_is) (defScope s_l_is) [] [] (He.ga K "_law_is") fd54 := D540
  have g54 := He.glo_ok X G (c.d.fact 54 (f := .glo "_law_is") rfl)
  obtain ⟨T54, ef54, efd54⟩ := df_of (ps := ["_law_stand", "_law_deed", "_law_told", "_law_behind"]) D54 g54 (fun _ _ _ _ _ _ us hl => match us, hl with | [_, _, _, _], _ => rfl)
  obtain ⟨fd55, D550⟩ := c.d.def_ 55 rfl
  have D55 : FunD K "_law_likes" "_law_likes" (defArgs s_l_likes) (defBody s_l_likes) (defScope s_l_likes) [] [] (He.ga K "_law_likes") fd55 := D550
  have g55 := He.glo_ok X G (c.d.fact 55 (f := .glo "_law_likes") rfl)
  obtain ⟨T55, ef55, efd55⟩ := df_of (ps := ["_law_drawn", "_law_tickets_here", "_law_more"]) D55 g55 (fun _ _ _ _ _ _ us hl => match us, hl with | [_, _, _], _ => rfl)
  obtain ⟨fd56, D560⟩ := c.d.def_ 56 rfl
  have D56 : FunD K "_law_alike_stand" "_law_alike_stand" (defArgs s_l_alike_stand) (defBody s_l_alike_stand) (defScope s_l_alike_stand) [] [] (He.ga K "_law_alike_stand") fd56 := D560
  have g56 := He.glo_ok X G (c.d.fact 56 (f := .glo "_law_alike_stand") rfl)
  obtain ⟨T56, ef56, efd56⟩ := df_of (ps := ["_law_drawn"]) D56 g56 (fun _ _ _ _ _ _ us hl => match us, hl with | [_], _ => rfl)
  obtain ⟨fd57, D570⟩ := c.d.def_ 57 rfl
  have D57 : FunD K "_law_split" "_law_split" (defArgs s_l_split) (defBody s_l_split) (defScope s_l_split) [] [] (He.ga K "_law_split") fd57 := D570
  have g57 := He.glo_ok X G (c.d.fact 57 (f := .glo "_law_split") rfl)
  obtain ⟨T57, ef57, efd57⟩ := df_of (ps := ["_law_drawn", "_law_stand"]) D57 g57 (fun _ _ _ _ _ _ us hl => match us, hl with | [_, _], _ => rfl)
  obtain ⟨fd58, D580⟩ := c.d.def_ 58 rfl
  have D58 : FunD K "_law_netted" "_law_netted" (defArgs s_l_netted) (defBody s_l_netted) (defScope s_l_netted) [] [] (He.ga K "_law_netted") fd58 := D580
  have g58 := He.glo_ok X G (c.d.fact 58 (f := .glo "_law_netted") rfl)
  obtain ⟨T58, ef58, efd58⟩ := df_of (ps := ["_law_first", "_law_second"]) D58 g58 (fun _ _ _ _ _ _ us hl => match us, hl with | [_, _], _ => rfl)
  obtain ⟨fd59, D590⟩ := c.d.def_ 59 rfl
  have D59 : FunD K "_law_net" "_law_net" (defArgs s_l_net) (defBody s_l_net) (defScope s_l_net) [] [] (He.ga K "_law_net") fd59 := D590
  have g59 := He.glo_ok X G (c.d.fact 59 (f := .glo "_law_net") rfl)
  obtain ⟨T59, ef59, efd59⟩ := df_of (ps := ["_law_drawn", "_law_stand"]) D59 g59 (fun _ _ _ _ _ _ us hl => match us, hl with | [_, _], _ => rfl)
  obtain ⟨fd60, D600⟩ := c.d.def_ 60 rfl
  have D60 : FunD K "law" "law" (defArgs s_law) (defBody s_law) (defScope s_law) [] [] (He.ga K "law") fd60 := D600
  have g60 := He.glo_ok X G (c.d.fact 60 (f := .glo "law") rfl)
  obtain ⟨T60, ef60, efd60⟩ := df_of (ps := ["_law_script"]) D60 g60 (fun _ _ _ _ _ _ us hl => match us, hl with | [_], _ => rfl)
  obtain ⟨tc0, gc0⟩ := He.int_ok X G (c.d.fact 76 (f := .int "MOST_TICKETS" 12) rfl)
  have vt0 : ∀ p ∈ ([("deal", 5), ("split", 2), ("hand", 4), ("net", 2), ("clear", 1), ("post", 2), ("sell", 4), ("hear", 1)] : List (Str × Int)), ∃ u, PySem.W.nsIn K (He.ga K "PARTS") p.1 = some (some u) ∧ RelV (.int p.2) u := by
      intro p hp
      simp only [List.mem_cons, List.not_mem_nil, or_false] at hp
      rcases hp with rfl | rfl | rfl | rfl | rfl | rfl | rfl | rfl
      · exact tab_int (c.fact 0 (f := .tab "PARTS" [("deal", .int 5), ("split", .int 2), ("hand", .int 4), ("net", .int 2), ("clear", .int 1), ("post", .int 2), ("sell", .int 4), ("hear", .int 1)]) rfl) (List.mem_of_getElem? (i := 0) rfl)
      · exact tab_int (c.fact 0 (f := .tab "PARTS" [("deal", .int 5), ("split", .int 2), ("hand", .int 4), ("net", .int 2), ("clear", .int 1), ("post", .int 2), ("sell", .int 4), ("hear", .int 1)]) rfl) (List.mem_of_getElem? (i := 1) rfl)
      · exact tab_int (c.fact 0 (f := .tab "PARTS" [("deal", .int 5), ("split", .int 2), ("hand", .int 4), ("net", .int 2), ("clear", .int 1), ("post", .int 2), ("sell", .int 4), ("hear", .int 1)]) rfl) (List.mem_of_getElem? (i := 2) rfl)
      · exact tab_int (c.fact 0 (f := .tab "PARTS" [("deal", .int 5), ("split", .int 2), ("hand", .int 4), ("net", .int 2), ("clear", .int 1), ("post", .int 2), ("sell", .int 4), ("hear", .int 1)]) rfl) (List.mem_of_getElem? (i := 3) rfl)
      · exact tab_int (c.fact 0 (f := .tab "PARTS" [("deal", .int 5), ("split", .int 2), ("hand", .int 4), ("net", .int 2), ("clear", .int 1), ("post", .int 2), ("sell", .int 4), ("hear", .int 1)]) rfl) (List.mem_of_getElem? (i := 4) rfl)
      · exact tab_int (c.fact 0 (f := .tab "PARTS" [("deal", .int 5), ("split", .int 2), ("hand", .int 4), ("net", .int 2), ("clear", .int 1), ("post", .int 2), ("sell", .int 4), ("hear", .int 1)]) rfl) (List.mem_of_getElem? (i := 5) rfl)
      · exact tab_int (c.fact 0 (f := .tab "PARTS" [("deal", .int 5), ("split", .int 2), ("hand", .int 4), ("net", .int 2), ("clear", .int 1), ("post", .int 2), ("sell", .int 4), ("hear", .int 1)]) rfl) (List.mem_of_getElem? (i := 6) rfl)
      · exact tab_int (c.fact 0 (f := .tab "PARTS" [("deal", .int 5), ("split", .int 2), ("hand", .int 4), ("net", .int 2), ("clear", .int 1), ("post", .int 2), ("sell", .int 4), ("hear", .int 1)]) rfl) (List.mem_of_getElem? (i := 7) rfl)
  have vt1 : ∀ p ∈ ([("deal", T16.f), ("split", T17.f), ("hand", T18.f), ("net", T19.f), ("clear", T20.f), ("post", T21.f), ("sell", T22.f), ("hear", T23.f)] : List (Str × Addr)), ∃ u, PySem.W.nsIn K (He.ga K "ACTIONS") p.1 = some (some u) ∧ RelV (.ref p.2) u := by
      intro p hp
      simp only [List.mem_cons, List.not_mem_nil, or_false] at hp
      rcases hp with rfl | rfl | rfl | rfl | rfl | rfl | rfl | rfl
      · exact tab_ref (c.fact 1 (f := .tab "ACTIONS" [("deal", .glo "dealt"), ("split", .glo "parted"), ("hand", .glo "handed"), ("net", .glo "netted"), ("clear", .glo "cleared"), ("post", .glo "posted"), ("sell", .glo "sold"), ("hear", .glo "heard")]) rfl) (List.mem_of_getElem? (i := 0) rfl) ef16
      · exact tab_ref (c.fact 1 (f := .tab "ACTIONS" [("deal", .glo "dealt"), ("split", .glo "parted"), ("hand", .glo "handed"), ("net", .glo "netted"), ("clear", .glo "cleared"), ("post", .glo "posted"), ("sell", .glo "sold"), ("hear", .glo "heard")]) rfl) (List.mem_of_getElem? (i := 1) rfl) ef17
      · exact tab_ref (c.fact 1 (f := .tab "ACTIONS" [("deal", .glo "dealt"), ("split", .glo "parted"), ("hand", .glo "handed"), ("net", .glo "netted"), ("clear", .glo "cleared"), ("post", .glo "posted"), ("sell", .glo "sold"), ("hear", .glo "heard")]) rfl) (List.mem_of_getElem? (i := 2) rfl) ef18
      · exact tab_ref (c.fact 1 (f := .tab "ACTIONS" [("deal", .glo "dealt"), ("split", .glo "parted"), ("hand", .glo "handed"), ("net", .glo "netted"), ("clear", .glo "cleared"), ("post", .glo "posted"), ("sell", .glo "sold"), ("hear", .glo "heard")]) rfl) (List.mem_of_getElem? (i := 3) rfl) ef19
      · exact tab_ref (c.fact 1 (f := .tab "ACTIONS" [("deal", .glo "dealt"), ("split", .glo "parted"), ("hand", .glo "handed"), ("net", .glo "netted"), ("clear", .glo "cleared"), ("post", .glo "posted"), ("sell", .glo "sold"), ("hear", .glo "heard")]) rfl) (List.mem_of_getElem? (i := 4) rfl) ef20
      · exact tab_ref (c.fact 1 (f := .tab "ACTIONS" [("deal", .glo "dealt"), ("split", .glo "parted"), ("hand", .glo "handed"), ("net", .glo "netted"), ("clear", .glo "cleared"), ("post", .glo "posted"), ("sell", .glo "sold"), ("hear", .glo "heard")]) rfl) (List.mem_of_getElem? (i := 5) rfl) ef21
      · exact tab_ref (c.fact 1 (f := .tab "ACTIONS" [("deal", .glo "dealt"), ("split", .glo "parted"), ("hand", .glo "handed"), ("net", .glo "netted"), ("clear", .glo "cleared"), ("post", .glo "posted"), ("sell", .glo "sold"), ("hear", .glo "heard")]) rfl) (List.mem_of_getElem? (i := 6) rfl) ef22
      · exact tab_ref (c.fact 1 (f := .tab "ACTIONS" [("deal", .glo "dealt"), ("split", .glo "parted"), ("hand", .glo "handed"), ("net", .glo "netted"), ("clear", .glo "cleared"), ("post", .glo "posted"), ("sell", .glo "sold"), ("hear", .glo "heard")]) rfl) (List.mem_of_getElem? (i := 7) rfl) ef23
  obtain ⟨fe0, E0⟩ := c.d.def_ 61 (d := errD "StallError" "StallError.__init__" ⟨50, 17, 50, 21⟩ ⟨51, 8, 51, 12⟩ ⟨51, 8, 51, 18⟩ ⟨51, 21, 51, 33⟩ ⟨51, 8, 51, 33⟩) rfl
  obtain ⟨Y0, y0⟩ := err_mk X G (c.fact 2 (f := .err "StallError") rfl) E0
  obtain ⟨fe1, E1⟩ := c.d.def_ 62 (d := errD "TooLong" "TooLong.__init__" ⟨54, 17, 54, 21⟩ ⟨55, 8, 55, 12⟩ ⟨55, 8, 55, 18⟩ ⟨55, 21, 55, 30⟩ ⟨55, 8, 55, 30⟩) rfl
  obtain ⟨Y1, y1⟩ := err_mk X G (c.fact 3 (f := .err "TooLong") rfl) E1
  obtain ⟨fe2, E2⟩ := c.d.def_ 63 (d := errD "TooMany" "TooMany.__init__" ⟨58, 17, 58, 21⟩ ⟨59, 8, 59, 12⟩ ⟨59, 8, 59, 18⟩ ⟨59, 21, 59, 30⟩ ⟨59, 8, 59, 30⟩) rfl
  obtain ⟨Y2, y2⟩ := err_mk X G (c.fact 4 (f := .err "TooMany") rfl) E2
  obtain ⟨fe3, E3⟩ := c.d.def_ 64 (d := errD "NoWorld" "NoWorld.__init__" ⟨62, 17, 62, 21⟩ ⟨63, 8, 63, 12⟩ ⟨63, 8, 63, 18⟩ ⟨63, 21, 63, 30⟩ ⟨63, 8, 63, 30⟩) rfl
  obtain ⟨Y3, y3⟩ := err_mk X G (c.fact 5 (f := .err "NoWorld") rfl) E3
  obtain ⟨fe4, E4⟩ := c.d.def_ 65 (d := errD "NotAlike" "NotAlike.__init__" ⟨66, 17, 66, 21⟩ ⟨67, 8, 67, 12⟩ ⟨67, 8, 67, 18⟩ ⟨67, 21, 67, 31⟩ ⟨67, 8, 67, 31⟩) rfl
  obtain ⟨Y4, y4⟩ := err_mk X G (c.fact 6 (f := .err "NotAlike") rfl) E4
  obtain ⟨fe5, E5⟩ := c.d.def_ 66 (d := errD "Unfair" "Unfair.__init__" ⟨70, 17, 70, 21⟩ ⟨71, 8, 71, 12⟩ ⟨71, 8, 71, 18⟩ ⟨71, 21, 71, 29⟩ ⟨71, 8, 71, 29⟩) rfl
  obtain ⟨Y5, y5⟩ := err_mk X G (c.fact 7 (f := .err "Unfair") rfl) E5
  obtain ⟨fe6, E6⟩ := c.d.def_ 67 (d := errD "Fair" "Fair.__init__" ⟨74, 17, 74, 21⟩ ⟨75, 8, 75, 12⟩ ⟨75, 8, 75, 18⟩ ⟨75, 21, 75, 27⟩ ⟨75, 8, 75, 27⟩) rfl
  obtain ⟨Y6, y6⟩ := err_mk X G (c.fact 8 (f := .err "Fair") rfl) E6
  obtain ⟨fe7, E7⟩ := c.d.def_ 68 (d := errD "NoBet" "NoBet.__init__" ⟨78, 17, 78, 21⟩ ⟨79, 8, 79, 12⟩ ⟨79, 8, 79, 18⟩ ⟨79, 21, 79, 28⟩ ⟨79, 8, 79, 28⟩) rfl
  obtain ⟨Y7, y7⟩ := err_mk X G (c.fact 9 (f := .err "NoBet") rfl) E7
  obtain ⟨fe8, E8⟩ := c.d.def_ 69 (d := errD "NoHolder" "NoHolder.__init__" ⟨82, 17, 82, 21⟩ ⟨83, 8, 83, 12⟩ ⟨83, 8, 83, 18⟩ ⟨83, 21, 83, 31⟩ ⟨83, 8, 83, 31⟩) rfl
  obtain ⟨Y8, y8⟩ := err_mk X G (c.fact 10 (f := .err "NoHolder") rfl) E8
  obtain ⟨fe9, E9⟩ := c.d.def_ 70 (d := errD "NoStake" "NoStake.__init__" ⟨86, 17, 86, 21⟩ ⟨87, 8, 87, 12⟩ ⟨87, 8, 87, 18⟩ ⟨87, 21, 87, 30⟩ ⟨87, 8, 87, 30⟩) rfl
  obtain ⟨Y9, y9⟩ := err_mk X G (c.fact 11 (f := .err "NoStake") rfl) E9
  obtain ⟨fe10, E10⟩ := c.d.def_ 71 (d := errD "NoTicket" "NoTicket.__init__" ⟨90, 17, 90, 21⟩ ⟨91, 8, 91, 12⟩ ⟨91, 8, 91, 18⟩ ⟨91, 21, 91, 31⟩ ⟨91, 8, 91, 31⟩) rfl
  obtain ⟨Y10, y10⟩ := err_mk X G (c.fact 12 (f := .err "NoTicket") rfl) E10
  obtain ⟨fe11, E11⟩ := c.d.def_ 72 (d := errD "NoCover" "NoCover.__init__" ⟨94, 17, 94, 21⟩ ⟨95, 8, 95, 12⟩ ⟨95, 8, 95, 18⟩ ⟨95, 21, 95, 30⟩ ⟨95, 8, 95, 30⟩) rfl
  obtain ⟨Y11, y11⟩ := err_mk X G (c.fact 13 (f := .err "NoCover") rfl) E11
  obtain ⟨fe12, E12⟩ := c.d.def_ 73 (d := errD "NoSaying" "NoSaying.__init__" ⟨98, 17, 98, 21⟩ ⟨99, 8, 99, 12⟩ ⟨99, 8, 99, 18⟩ ⟨99, 21, 99, 31⟩ ⟨99, 8, 99, 31⟩) rfl
  obtain ⟨Y12, y12⟩ := err_mk X G (c.fact 14 (f := .err "NoSaying") rfl) E12
  obtain ⟨fe13, E13⟩ := c.d.def_ 74 (d := errD "NoDeed" "NoDeed.__init__" ⟨102, 17, 102, 21⟩ ⟨103, 8, 103, 12⟩ ⟨103, 8, 103, 18⟩ ⟨103, 21, 103, 29⟩ ⟨103, 8, 103, 29⟩) rfl
  obtain ⟨Y13, y13⟩ := err_mk X G (c.fact 15 (f := .err "NoDeed") rfl) E13
  obtain ⟨fe14, E14⟩ := c.d.def_ 75 (d := errD "NoStep" "NoStep.__init__" ⟨106, 17, 106, 21⟩ ⟨107, 8, 107, 12⟩ ⟨107, 8, 107, 18⟩ ⟨107, 21, 107, 29⟩ ⟨107, 8, 107, 29⟩) rfl
  obtain ⟨Y14, y14⟩ := err_mk X G (c.fact 16 (f := .err "NoStep") rfl) E14
  obtain ⟨fe15, E15⟩ := c.d.def_ 76 (d := errD "NoText" "NoText.__init__" ⟨110, 17, 110, 21⟩ ⟨111, 8, 111, 12⟩ ⟨111, 8, 111, 18⟩ ⟨111, 21, 111, 29⟩ ⟨111, 8, 111, 29⟩) rfl
  obtain ⟨Y15, y15⟩ := err_mk X G (c.fact 17 (f := .err "NoText") rfl) E15
  have e : fa = T60.f := by rw [ef60]; exact Value.ref.inj (Option.some.inj (hfa.symm.trans g60))
  subst e
  have b := FunD.bindsA (ps := ["_law_script"]) D60 fun _ _ _ _ _ _ us hl => match us, hl with | [_], _ => rfl
  refine ⟨T60.fd, fun s v => by rw [efd60]; exact b s [v] rfl, fun base _ _ seen => ?_⟩
  exact (g_of (ok_law ⟨T0, T1, T2, T3, T4, T5, T6, T7, T8, T9, T10, T11, T12, T13, T14, T15, T16, T17, T18, T19, T20, T21, T22, T23, T24, T25, T26, T27, T28, T29, T30, T31, T32, T33, T34, T35, T36, T37, T38, T39, T40, T41, T42, T43, T44, T45, T46, T47, T48, T49, T50, T51, T52, T53, T54, T55, T56, T57, T58, T59, T60, He.free_ok X G (c.d.fact 61 (f := .free "ValueError") rfl), He.free_ok X G (c.d.fact 62 (f := .free "abs") rfl), He.free_ok X G (c.d.fact 63 (f := .free "bool") rfl), He.free_ok X G (c.d.fact 64 (f := .free "enumerate") rfl), He.free_ok X G (c.d.fact 65 (f := .free "int") rfl), He.free_ok X G (c.d.fact 66 (f := .free "isinstance") rfl), He.free_ok X G (c.d.fact 67 (f := .free "len") rfl), He.free_ok X G (c.d.fact 68 (f := .free "list") rfl), He.free_ok X G (c.d.fact 69 (f := .free "max") rfl), He.free_ok X G (c.d.fact 70 (f := .free "min") rfl), He.free_ok X G (c.d.fact 71 (f := .free "range") rfl), He.free_ok X G (c.d.fact 72 (f := .free "sorted") rfl), He.free_ok X G (c.d.fact 73 (f := .free "str") rfl), He.free_ok X G (c.d.fact 74 (f := .free "tuple") rfl), He.free_ok X G (c.d.fact 75 (f := .free "zip") rfl), tc0, gc0, He.ga K "PARTS", He.glo_ok X G (c.d.fact 77 (f := .glo "PARTS") rfl), cM.tab 0 (t := ("PARTS", ["deal", "split", "hand", "net", "clear", "post", "sell", "hear"])), vt0, He.ga K "ACTIONS", He.glo_ok X G (c.d.fact 78 (f := .glo "ACTIONS") rfl), cM.tab 1 (t := ("ACTIONS", ["deal", "split", "hand", "net", "clear", "post", "sell", "hear"])), vt1, Y0, Y1, Y2, Y3, Y4, Y5, Y6, Y7, Y8, Y9, Y10, Y11, Y12, Y13, Y14, Y15, sub_of y7 y0 (c.fact 18 (f := .sub "NoBet" "StallError" true) rfl), sub_of y7 y1 (c.fact 19 (f := .sub "NoBet" "TooLong" false) rfl), sub_of y7 y2 (c.fact 20 (f := .sub "NoBet" "TooMany" false) rfl), sub_of y7 y3 (c.fact 21 (f := .sub "NoBet" "NoWorld" false) rfl), sub_of y7 y4 (c.fact 22 (f := .sub "NoBet" "NotAlike" false) rfl), sub_of y7 y5 (c.fact 23 (f := .sub "NoBet" "Unfair" false) rfl), sub_of y7 y6 (c.fact 24 (f := .sub "NoBet" "Fair" false) rfl), sub_of y7 y7 (c.fact 25 (f := .sub "NoBet" "NoBet" true) rfl), sub_of y7 y8 (c.fact 26 (f := .sub "NoBet" "NoHolder" false) rfl), sub_of y7 y9 (c.fact 27 (f := .sub "NoBet" "NoStake" false) rfl), sub_of y7 y10 (c.fact 28 (f := .sub "NoBet" "NoTicket" false) rfl), sub_of y7 y11 (c.fact 29 (f := .sub "NoBet" "NoCover" false) rfl), sub_of y7 y12 (c.fact 30 (f := .sub "NoBet" "NoSaying" false) rfl), sub_of y7 y13 (c.fact 31 (f := .sub "NoBet" "NoDeed" false) rfl), sub_of y7 y14 (c.fact 32 (f := .sub "NoBet" "NoStep" false) rfl), sub_of y7 y15 (c.fact 33 (f := .sub "NoBet" "NoText" false) rfl), subT_of y7 (c.fact 34 (f := .subT "NoBet" "ValueError" true) rfl), sub_of y13 y0 (c.fact 35 (f := .sub "NoDeed" "StallError" true) rfl), sub_of y13 y1 (c.fact 36 (f := .sub "NoDeed" "TooLong" false) rfl), sub_of y13 y2 (c.fact 37 (f := .sub "NoDeed" "TooMany" false) rfl), sub_of y13 y3 (c.fact 38 (f := .sub "NoDeed" "NoWorld" false) rfl), sub_of y13 y4 (c.fact 39 (f := .sub "NoDeed" "NotAlike" false) rfl), sub_of y13 y5 (c.fact 40 (f := .sub "NoDeed" "Unfair" false) rfl), sub_of y13 y6 (c.fact 41 (f := .sub "NoDeed" "Fair" false) rfl), sub_of y13 y7 (c.fact 42 (f := .sub "NoDeed" "NoBet" false) rfl), sub_of y13 y8 (c.fact 43 (f := .sub "NoDeed" "NoHolder" false) rfl), sub_of y13 y9 (c.fact 44 (f := .sub "NoDeed" "NoStake" false) rfl), sub_of y13 y10 (c.fact 45 (f := .sub "NoDeed" "NoTicket" false) rfl), sub_of y13 y11 (c.fact 46 (f := .sub "NoDeed" "NoCover" false) rfl), sub_of y13 y12 (c.fact 47 (f := .sub "NoDeed" "NoSaying" false) rfl), sub_of y13 y13 (c.fact 48 (f := .sub "NoDeed" "NoDeed" true) rfl), sub_of y13 y14 (c.fact 49 (f := .sub "NoDeed" "NoStep" false) rfl), sub_of y13 y15 (c.fact 50 (f := .sub "NoDeed" "NoText" false) rfl), subT_of y13 (c.fact 51 (f := .subT "NoDeed" "ValueError" true) rfl), sub_of y8 y0 (c.fact 52 (f := .sub "NoHolder" "StallError" true) rfl), sub_of y8 y1 (c.fact 53 (f := .sub "NoHolder" "TooLong" false) rfl), sub_of y8 y2 (c.fact 54 (f := .sub "NoHolder" "TooMany" false) rfl), sub_of y8 y3 (c.fact 55 (f := .sub "NoHolder" "NoWorld" false) rfl), sub_of y8 y4 (c.fact 56 (f := .sub "NoHolder" "NotAlike" false) rfl), sub_of y8 y5 (c.fact 57 (f := .sub "NoHolder" "Unfair" false) rfl), sub_of y8 y6 (c.fact 58 (f := .sub "NoHolder" "Fair" false) rfl), sub_of y8 y7 (c.fact 59 (f := .sub "NoHolder" "NoBet" false) rfl), sub_of y8 y8 (c.fact 60 (f := .sub "NoHolder" "NoHolder" true) rfl), sub_of y8 y9 (c.fact 61 (f := .sub "NoHolder" "NoStake" false) rfl), sub_of y8 y10 (c.fact 62 (f := .sub "NoHolder" "NoTicket" false) rfl), sub_of y8 y11 (c.fact 63 (f := .sub "NoHolder" "NoCover" false) rfl), sub_of y8 y12 (c.fact 64 (f := .sub "NoHolder" "NoSaying" false) rfl), sub_of y8 y13 (c.fact 65 (f := .sub "NoHolder" "NoDeed" false) rfl), sub_of y8 y14 (c.fact 66 (f := .sub "NoHolder" "NoStep" false) rfl), sub_of y8 y15 (c.fact 67 (f := .sub "NoHolder" "NoText" false) rfl), subT_of y8 (c.fact 68 (f := .subT "NoHolder" "ValueError" true) rfl), sub_of y12 y0 (c.fact 69 (f := .sub "NoSaying" "StallError" true) rfl), sub_of y12 y1 (c.fact 70 (f := .sub "NoSaying" "TooLong" false) rfl), sub_of y12 y2 (c.fact 71 (f := .sub "NoSaying" "TooMany" false) rfl), sub_of y12 y3 (c.fact 72 (f := .sub "NoSaying" "NoWorld" false) rfl), sub_of y12 y4 (c.fact 73 (f := .sub "NoSaying" "NotAlike" false) rfl), sub_of y12 y5 (c.fact 74 (f := .sub "NoSaying" "Unfair" false) rfl), sub_of y12 y6 (c.fact 75 (f := .sub "NoSaying" "Fair" false) rfl), sub_of y12 y7 (c.fact 76 (f := .sub "NoSaying" "NoBet" false) rfl), sub_of y12 y8 (c.fact 77 (f := .sub "NoSaying" "NoHolder" false) rfl), sub_of y12 y9 (c.fact 78 (f := .sub "NoSaying" "NoStake" false) rfl), sub_of y12 y10 (c.fact 79 (f := .sub "NoSaying" "NoTicket" false) rfl), sub_of y12 y11 (c.fact 80 (f := .sub "NoSaying" "NoCover" false) rfl), sub_of y12 y12 (c.fact 81 (f := .sub "NoSaying" "NoSaying" true) rfl), sub_of y12 y13 (c.fact 82 (f := .sub "NoSaying" "NoDeed" false) rfl), sub_of y12 y14 (c.fact 83 (f := .sub "NoSaying" "NoStep" false) rfl), sub_of y12 y15 (c.fact 84 (f := .sub "NoSaying" "NoText" false) rfl), subT_of y12 (c.fact 85 (f := .subT "NoSaying" "ValueError" true) rfl), sub_of y9 y0 (c.fact 86 (f := .sub "NoStake" "StallError" true) rfl), sub_of y9 y1 (c.fact 87 (f := .sub "NoStake" "TooLong" false) rfl), sub_of y9 y2 (c.fact 88 (f := .sub "NoStake" "TooMany" false) rfl), sub_of y9 y3 (c.fact 89 (f := .sub "NoStake" "NoWorld" false) rfl), sub_of y9 y4 (c.fact 90 (f := .sub "NoStake" "NotAlike" false) rfl), sub_of y9 y5 (c.fact 91 (f := .sub "NoStake" "Unfair" false) rfl), sub_of y9 y6 (c.fact 92 (f := .sub "NoStake" "Fair" false) rfl), sub_of y9 y7 (c.fact 93 (f := .sub "NoStake" "NoBet" false) rfl), sub_of y9 y8 (c.fact 94 (f := .sub "NoStake" "NoHolder" false) rfl), sub_of y9 y9 (c.fact 95 (f := .sub "NoStake" "NoStake" true) rfl), sub_of y9 y10 (c.fact 96 (f := .sub "NoStake" "NoTicket" false) rfl), sub_of y9 y11 (c.fact 97 (f := .sub "NoStake" "NoCover" false) rfl), sub_of y9 y12 (c.fact 98 (f := .sub "NoStake" "NoSaying" false) rfl), sub_of y9 y13 (c.fact 99 (f := .sub "NoStake" "NoDeed" false) rfl), sub_of y9 y14 (c.fact 100 (f := .sub "NoStake" "NoStep" false) rfl), sub_of y9 y15 (c.fact 101 (f := .sub "NoStake" "NoText" false) rfl), subT_of y9 (c.fact 102 (f := .subT "NoStake" "ValueError" true) rfl), sub_of y10 y0 (c.fact 103 (f := .sub "NoTicket" "StallError" true) rfl), sub_of y10 y1 (c.fact 104 (f := .sub "NoTicket" "TooLong" false) rfl), sub_of y10 y2 (c.fact 105 (f := .sub "NoTicket" "TooMany" false) rfl), sub_of y10 y3 (c.fact 106 (f := .sub "NoTicket" "NoWorld" false) rfl), sub_of y10 y4 (c.fact 107 (f := .sub "NoTicket" "NotAlike" false) rfl), sub_of y10 y5 (c.fact 108 (f := .sub "NoTicket" "Unfair" false) rfl), sub_of y10 y6 (c.fact 109 (f := .sub "NoTicket" "Fair" false) rfl), sub_of y10 y7 (c.fact 110 (f := .sub "NoTicket" "NoBet" false) rfl), sub_of y10 y8 (c.fact 111 (f := .sub "NoTicket" "NoHolder" false) rfl), sub_of y10 y9 (c.fact 112 (f := .sub "NoTicket" "NoStake" false) rfl), sub_of y10 y10 (c.fact 113 (f := .sub "NoTicket" "NoTicket" true) rfl), sub_of y10 y11 (c.fact 114 (f := .sub "NoTicket" "NoCover" false) rfl), sub_of y10 y12 (c.fact 115 (f := .sub "NoTicket" "NoSaying" false) rfl), sub_of y10 y13 (c.fact 116 (f := .sub "NoTicket" "NoDeed" false) rfl), sub_of y10 y14 (c.fact 117 (f := .sub "NoTicket" "NoStep" false) rfl), sub_of y10 y15 (c.fact 118 (f := .sub "NoTicket" "NoText" false) rfl), subT_of y10 (c.fact 119 (f := .subT "NoTicket" "ValueError" true) rfl), sub_of y4 y0 (c.fact 120 (f := .sub "NotAlike" "StallError" true) rfl), sub_of y4 y1 (c.fact 121 (f := .sub "NotAlike" "TooLong" false) rfl), sub_of y4 y2 (c.fact 122 (f := .sub "NotAlike" "TooMany" false) rfl), sub_of y4 y3 (c.fact 123 (f := .sub "NotAlike" "NoWorld" false) rfl), sub_of y4 y4 (c.fact 124 (f := .sub "NotAlike" "NotAlike" true) rfl), sub_of y4 y5 (c.fact 125 (f := .sub "NotAlike" "Unfair" false) rfl), sub_of y4 y6 (c.fact 126 (f := .sub "NotAlike" "Fair" false) rfl), sub_of y4 y7 (c.fact 127 (f := .sub "NotAlike" "NoBet" false) rfl), sub_of y4 y8 (c.fact 128 (f := .sub "NotAlike" "NoHolder" false) rfl), sub_of y4 y9 (c.fact 129 (f := .sub "NotAlike" "NoStake" false) rfl), sub_of y4 y10 (c.fact 130 (f := .sub "NotAlike" "NoTicket" false) rfl), sub_of y4 y11 (c.fact 131 (f := .sub "NotAlike" "NoCover" false) rfl), sub_of y4 y12 (c.fact 132 (f := .sub "NotAlike" "NoSaying" false) rfl), sub_of y4 y13 (c.fact 133 (f := .sub "NotAlike" "NoDeed" false) rfl), sub_of y4 y14 (c.fact 134 (f := .sub "NotAlike" "NoStep" false) rfl), sub_of y4 y15 (c.fact 135 (f := .sub "NotAlike" "NoText" false) rfl), subT_of y4 (c.fact 136 (f := .subT "NotAlike" "ValueError" true) rfl), sub_of y2 y0 (c.fact 137 (f := .sub "TooMany" "StallError" true) rfl), sub_of y2 y1 (c.fact 138 (f := .sub "TooMany" "TooLong" false) rfl), sub_of y2 y2 (c.fact 139 (f := .sub "TooMany" "TooMany" true) rfl), sub_of y2 y3 (c.fact 140 (f := .sub "TooMany" "NoWorld" false) rfl), sub_of y2 y4 (c.fact 141 (f := .sub "TooMany" "NotAlike" false) rfl), sub_of y2 y5 (c.fact 142 (f := .sub "TooMany" "Unfair" false) rfl), sub_of y2 y6 (c.fact 143 (f := .sub "TooMany" "Fair" false) rfl), sub_of y2 y7 (c.fact 144 (f := .sub "TooMany" "NoBet" false) rfl), sub_of y2 y8 (c.fact 145 (f := .sub "TooMany" "NoHolder" false) rfl), sub_of y2 y9 (c.fact 146 (f := .sub "TooMany" "NoStake" false) rfl), sub_of y2 y10 (c.fact 147 (f := .sub "TooMany" "NoTicket" false) rfl), sub_of y2 y11 (c.fact 148 (f := .sub "TooMany" "NoCover" false) rfl), sub_of y2 y12 (c.fact 149 (f := .sub "TooMany" "NoSaying" false) rfl), sub_of y2 y13 (c.fact 150 (f := .sub "TooMany" "NoDeed" false) rfl), sub_of y2 y14 (c.fact 151 (f := .sub "TooMany" "NoStep" false) rfl), sub_of y2 y15 (c.fact 152 (f := .sub "TooMany" "NoText" false) rfl), subT_of y2 (c.fact 153 (f := .subT "TooMany" "ValueError" true) rfl)⟩ ⟨tree, seen⟩))
end B
open PySem PySem.W PySem.Calls PyProof.Rows
set_option maxRecDepth 100000 in
set_option maxHeartbeats 0 in
theorem PySem.Challenge.cw_betstall_k73_parted_and_netted_holds : PySem.Challenge.rw_betstall_k73_parted_and_netted.Holds := by
  w_on; o_law
  refine HandSHeadRun.head_any (r := OpenLaw.row PySem.Challenge.rw_betstall_k73_parted_and_netted) (q := view (OpenLaw.row PySem.Challenge.rw_betstall_k73_parted_and_netted).prog [161]) (H := B.lt_hk) (ob := B.lt_ob) (M := 200000) (loose := B.lt_nm) (d := HandSHeadRun.topDef (OpenLaw.row PySem.Challenge.rw_betstall_k73_parted_and_netted).prog 161) (kwd := []) B.lt_ob_eq
    (by kernel_rfl) (fun s => by kernel_rfl) B.lt_run (by kernel_rfl) (by kernel_rfl) (by kernel_rfl) (by rfl) (by first | assumption | decide +kernel) (by decide +kernel) ⟨rfl, rfl, rfl, rfl, rfl, by decide +kernel⟩ ?hw ?hc
  case hw => w_witness2
  case hc =>
    refine B.walkL (l := PySem.Challenge.rw_betstall_k73_parted_and_netted) (n := 63) (k := 49) (x := "_law_script") (by decide +kernel) rfl (by decide) (by kernel_rfl) ⟨rfl, by decide, by decide⟩ ?F
    intro w mg fa h Y G hmg0
    obtain ⟨K, KX, c⟩ := Y
    have hmg : mg ("law" : PySem.Str) = some (.ref fa) := by
      have e : (HandSHeadRun.topDef (OpenLaw.row PySem.Challenge.rw_betstall_k73_parted_and_netted).prog 161).name = ("law" : PySem.Str) := by kernel_rfl
      rw [← e]
      exact hmg0
    obtain ⟨fd, hb, hF⟩ := B.lt_end (l := PySem.Challenge.rw_betstall_k73_parted_and_netted) (w := w) rfl KX G hmg c
    exact ⟨K, fd, B.sp_law K, KX, hb, hF, fun _ a ns hl hb _ hS => ⟨a, ns, rfl, hS, hl, hb, fun _ => rfl⟩⟩
