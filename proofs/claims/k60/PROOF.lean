import PyProof.Rows.All
import Wide.All
import OpenK.AllK
import Wide.FinOn
import HandS.Base
import HandS.Call
import HandS.List
import HandS.Comp
import HandS.Ends
import HandS.Dict
import HandS.Iter
import HandS.Text
import HandS.Words
import HandS.TryOnly
import HandS.Wide
import HandS.IsInst
import HandS.EndBits
import HandS.TupAny
import HandS.TupMul
import HandS.Replace
import HandS.SortInts
import HandS.Evl
import HandS.Zip
import HandS.Exc
import HandS.ExcOwn
import HandS.ExcValue
import HandS.ExcIs
import HandS.WordsExc
import HandS.TryMany
import HandS.Walk
import HandS.TupLe
import HandS.Defaults
import HandS.CallSlots
import HandS.Conv
import PyProof.TupleOfStr
import HandS.Strs
import HandS.SetFor
import KE.GoesMore
import KE.GoesEnum
import KE.GoesNew
import KE.KExcIs
import KE.KDictZip
import HandS.HotCalls
import KE.KStateDown
import HandS.Head0
import HandS.Head1
import HandS.Head2
import HandS.HeadEnd
import HandS.HeadHook1
import HandS.HeadHook2
import HandS.HeadHook3
import HandS.More
import KE.KIndexOf
import PySem.Challenge.RW_betstall_k60_joined
set_option Elab.async false
set_option linter.all false
set_option maxRecDepth 100000
set_option maxHeartbeats 4000000
namespace B
open PySem PySem.Spec PyProof.Rows L2
structure Df (K : PySem.W.Frag) (mg : Str → Option Value) (x : Str) (st : Stmt) (ps : List Str) where
  f : Addr
  fd : FuncData
  F : Fun K x x st f fd
  b : Binds K fd ps []
  g : mg x = some (.ref f)
theorem same_upd {H : Hp} {p : Addr} {o : HO} (h : H p = none) : Same H (upd H p o) := fun b x e => by
  rw [upd_ne (ne_of_none e h)]
  exact e
theorem Same.tup {K : PySem.W.Frag} {H H' : Hp} {a : Addr} {xs : List V} (e : Same H H') (h : SqT K H a xs) : SqT K H' a xs := by
  rcases h with (h | ⟨o, h⟩) | h
  · exact .inl (.inl (e _ _ h))
  · exact .inl (.inr ⟨o, e _ _ h⟩)
  · exact .inr h
theorem sqt_upd {K : PySem.W.Frag} {H : Hp} {p : Addr} {xs : List V} : SqT K (upd H p (.tup xs)) p xs := .inl (.inl upd_same)
theorem sql_upd {K : PySem.W.Frag} {H : Hp} {p : Addr} {xs : List V} : SqL K (upd H p (.lst xs)) p xs := .inl (.inl upd_same)
/-- the three objects of a row of draws -/
structure Dr where
  dr : Addr
  cl : Addr
  rs : Addr
/-- such a row stands at d, and b further draws may be asked -/
structure Drw (H : Hp) (d : Dr) (b : Nat) : Prop where
  ex : ∃ (cs rr : List Int) (c : Nat), H d.dr = some (.lst [.ref d.cl, .int c, .ref d.rs]) ∧ H d.cl = some (.lst (cs.map V.int)) ∧ H d.rs = some (.lst (rr.map V.int)) ∧ cs.length = rr.length ∧ 0 < cs.length ∧ cs.length ≤ 63 ∧ c + b ≤ 1000000
  ne : d.cl ≠ d.rs
/-- all else that was tracked is as it was -/
def Kp (d : Dr) (H H' : Hp) : Prop := ∀ b o, H b = some o → b ≠ d.dr → b ≠ d.rs → H' b = some o
theorem Kp.refl (d : Dr) (H : Hp) : Kp d H H := fun _ _ h _ _ => h
theorem Kp.trans {d : Dr} {H H1 H2 : Hp} (a : Kp d H H1) (b : Kp d H1 H2) : Kp d H H2 := fun x o h n m => b x o (a x o h n m) n m
theorem Same.kp {d : Dr} {H H' : Hp} (e : Same H H') : Kp d H H' := fun b o h _ _ => e b o h
theorem Kp.upd {d : Dr} {H H' : Hp} {p : Addr} {o : HO} (k : Kp d H H') (h : H p = none) : Kp d H (upd H' p o) := fun b x e n m => by
  rw [upd_ne (ne_of_none e h)]
  exact k b x e n m
theorem Drw.less {H : Hp} {d : Dr} {b c : Nat} (h : Drw H d b) (e : c ≤ b) : Drw H d c := by
  obtain ⟨⟨cs, rr, k, h1, h2, h3, h4, h5, h6, h7⟩, ne⟩ := h
  exact ⟨⟨cs, rr, k, h1, h2, h3, h4, h5, h6, by omega⟩, ne⟩
theorem Drw.same {H H' : Hp} {d : Dr} {b : Nat} (h : Drw H d b) (e : Same H H') : Drw H' d b := by
  obtain ⟨⟨cs, rr, k, h1, h2, h3, h4⟩, ne⟩ := h
  exact ⟨⟨cs, rr, k, e _ _ h1, e _ _ h2, e _ _ h3, h4⟩, ne⟩
theorem Drw.upd {H : Hp} {d : Dr} {b : Nat} {p : Addr} {o : HO} (h : Drw H d b) (n : H p = none) : Drw (upd H p o) d b := h.same (same_upd n)
theorem Drw.dr {H : Hp} {d : Dr} {b : Nat} (h : Drw H d b) : ∃ xs, H d.dr = some (.lst xs) := by
  obtain ⟨⟨cs, rr, k, h1, h2, h3, h4⟩, ne⟩ := h
  exact ⟨_, h1⟩
theorem Drw.rs {H : Hp} {d : Dr} {b : Nat} (h : Drw H d b) : ∃ xs, H d.rs = some (.lst xs) := by
  obtain ⟨⟨cs, rr, k, h1, h2, h3, h4⟩, ne⟩ := h
  exact ⟨_, h3⟩
theorem Drw.no {H : Hp} {d : Dr} {b : Nat} {p : Addr} (h : Drw H d b) (n : H p = none) : p ≠ d.dr ∧ p ≠ d.rs := by
  obtain ⟨x, hx⟩ := h.dr
  obtain ⟨y, hy⟩ := h.rs
  exact ⟨(ne_of_none hx n).symm, (ne_of_none hy n).symm⟩
/-- a tuple stays as it is, whatever is drawn -/
theorem Kp.tup {K : PySem.W.Frag} {d : Dr} {b : Nat} {H H' : Hp} {a : Addr} {xs : List V} (k : Kp d H H') (w : Drw H d b) (h : SqT K H a xs) : SqT K H' a xs := by
  obtain ⟨ys, hy⟩ := w.dr
  obtain ⟨zs, hz⟩ := w.rs
  rcases h with (h | ⟨o, h⟩) | h
  · exact .inl (.inl (k _ _ h (ne_of h hy (by intro q; cases q)) (ne_of h hz (by intro q; cases q))))
  · exact .inl (.inr ⟨o, k _ _ h (ne_of h hy (by intro q; cases q)) (ne_of h hz (by intro q; cases q))⟩)
  · exact .inr h
/-- what a division of any size asks of the run: nothing looks on -/
structure Unl (P : Program) (base : Heap) : Prop where
  tree : P.given.tree = none
  seer : base.NoSeer
/-- // by any divisor but 0, by any divisor above 0 -/
def CDivN (_ j : Int) : Prop := j ≠ 0
def CDivW (_ j : Int) : Prop := 0 < j
section
variable {X : Cx} {env : Env} {l : List Env}
theorem op_fdivNW (U : Unl X.prog X.base) (room : Room 34 X.A) (top : X.stack = env :: l) (ge : env.scope.isGenerator = false) (co : env.scope.isCoroutine = false) (bu : env.builtins = builtinsNs) (gl : env.globals = mainGlobals) : OpR X (binaryOp .FloorDiv) (rI CDivN fun i j => .int (i.fdiv j)) := by
  rintro pins s σ H _ _ _ _ Q I rx ry ⟨i, j, rfl, rfl, nz, q⟩
  obtain ⟨t, rfl⟩ := rx
  obtain ⟨t', rfl⟩ := ry
  have frames : X.A.frames = some (env :: l) := I.ok.frames.trans (congrArg some top)
  have deep : X.A.depth + Builtin.pylongFrames < recursionLimit := by
    have := room.dp
    show X.A.depth + 100 < _
    omega
  exact floordiv_int nz ⟨.int (i.fdiv j), H, I.tok _, ⟨_, rfl⟩, q⟩ (.inr (PySem.PylongRoom.of (I.ok.mod.nolimit.keeps I.bk) deep (PySem.SeerAt.of (U.seer.keeps I.bk) U.tree frames ge co bu gl)))
theorem op_fdivW (U : Unl X.prog X.base) (room : Room 34 X.A) (top : X.stack = env :: l) (ge : env.scope.isGenerator = false) (co : env.scope.isCoroutine = false) (bu : env.builtins = builtinsNs) (gl : env.globals = mainGlobals) : OpR X (binaryOp .FloorDiv) (rI CDivW fun i j => .int (i / j)) := by
  rintro pins s σ H x y v u Q I rx ry ⟨i, j, ex, ey, pos, q⟩
  have pos : 0 < j := pos
  refine op_fdivNW U room top ge co bu gl pins s σ H x y v u Q I rx ry ⟨i, j, ex, ey, by show j ≠ 0; omega, ?_⟩
  show Q (.int (i.fdiv j)) H
  rw [Int.fdiv_eq_ediv_of_nonneg i (by omega)]
  exact q
end
/-- * of two factors of together less than a hundred million bits -/
def CMulW (i j : Int) : Prop := Nat.log2 i.natAbs + Nat.log2 j.natAbs < 100000000
theorem CMulW.fits {i j : Int} (h : CMulW i j) : IntMulOk i j := by
  have len : ∀ k : Int, Builtin.Int.intBits k ≤ Nat.log2 k.natAbs + 1 := by
    intro k
    unfold Builtin.Int.intBits
    split <;> omega
  have li := len i
  have lj := len j
  unfold CMulW at h
  have line : bitsLine = 134217728 := by decide
  intro great
  have great := (Bool.and_eq_true_iff.mp great).2
  unfold Builtin.Int.intTooBig at great
  have great := of_decide_eq_true great
  omega
theorem op_mulW {X : Cx} : OpR X (binaryOp .Mult) (rI CMulW fun i j => .int (i * j)) := opI fun _ _ _ _ _ _ _ c q => mul_int q c.fits
theorem wide_mul {i j : Int} {a b : Nat} (ai : i.natAbs < 2 ^ a) (bj : j.natAbs < 2 ^ b) (a0 : 0 < a) (b0 : 0 < b) (few : a + b ≤ 100000000) : CMulW i j := by
  have u := PySem.Flt.log2_lt_of a0 ai
  have v := PySem.Flt.log2_lt_of b0 bj
  show Nat.log2 i.natAbs + Nat.log2 j.natAbs < 100000000
  omega
theorem wide_div {i j : Int} {b : Nat} (h : 0 < j) (_ : j.natAbs < 2 ^ b) (_ : 0 < b) (_ : b ≤ 900000) : CDivW i j := h
theorem abs_nat (i : Int) : (if i < 0 then -i else i) = (i.natAbs : Int) := by
  split <;> omega
theorem iteE {k : Bool} {A B : Prop} (h : k = false) (q : B) : if k = true then A else B := by
  subst h
  exact iteF q
theorem iteK {k : Bool} {A B : Prop} (h : k = true) (q : A) : if k = true then A else B := by
  subst h
  exact iteT q
theorem lc_yes {σ : L2.St} {H : Hp} {X Y : Hp → Prop} (h : X H) : tYes σ H (fun b H3 => if b = true then X H3 else Y H3) := by
  show if true = true then X H else Y H
  rw [if_pos rfl]
  exact h
theorem ty_tup {K : PySem.W.Frag} {H : Hp} {a : Addr} {xs : List V} (h : SqT K H a xs) : TyX K H (.ref a) (.type "tuple") := by
  rcases h with (h | ⟨o, h⟩) | ⟨o, its, n, e, c, _⟩
  · exact .base (.tup h)
  · exact .fTuple h
  · exact .kTuple e c
theorem dp2 {K : PySem.W.Frag} {H : Hp} {a : Addr} {x y : Int} (h : SqT K H a [.int x, .int y]) : Dp K H (.ref a) (.tuple [.int x, .int y]) := .tup h (.cons (.int x) (.cons (.int y) .nil))
theorem at_nat {xs : List V} {j : Nat} {v : V} (h : xs[j]? = some v) : atI xs (j : Int) = some v := atI_nat h
end B
namespace B
open PySem PySem.Spec PyProof.Rows L2
end B
namespace B
open PySem PySem.Spec PyProof.Rows L2
end B
namespace B
open PySem PySem.Spec PyProof.Rows L2
/-- the text of such a class's maker: one word, told to the new error -/
def eiA (p : Pos) : Arguments := { posonlyargs := [], args := [{ arg := "self", annotation := none, pos := p }], vararg := none, kwonlyargs := [], kw_defaults := [], kwarg := none, defaults := [] }
def eiB (x : Str) (q1 q2 q3 q4 : Pos) : List Stmt := [.Assign [.Attribute (.Name "self" q1) "named" q2] (.Constant (.str x) 0 q3) q4]
def eiS : Scope := { kind := .function, names := [(PySem.Str.ofString "self", .local)], isGenerator := false, isCoroutine := false, more := [] }
/-- what the top says of an own class of errors (of ValueError's) -/
structure Xc (K : PySem.W.Frag) (mg : Str → Option Value) (x : Str) where
  C : Addr
  ns : PySem.W.nsIn K mainGlobals x = some (some (.ref C))
  g : mg x = some (.ref C)
  kp : PySem.W.keepIn K (.ref C) = true
  sb : PySem.W.subIn K (.ref C) (.type "BaseException") = some true
  ty : PySem.W.typeIn K (.ref C) = some (.type "type")
  ic : PySem.W.isClsIn K C = true
  me : PySem.W.subIn K (.ref C) (.ref C) = some true
  ec : ExcC K C
  cls : ∃ nm q N bs bm sn sub ab col dd k0 k1 k2 k3 k5, K.lookup C = some (excClassObj nm q C N bs bm true sn sub ab col dd k0 k1 k2 k3 k5 "ValueError.__new__") ∧ PySem.HandSPX.refsVE bm = true
  sa : PySem.W.findIn K (.ref C) "__setattr__" = some (some (.builtin "object.__setattr__"))
  no : PySem.W.findIn K (.ref C) "named" = some none
  fI : Addr
  iC : PySem.W.findIn K (.ref C) "__init__" = some (some (.ref fI))
  tI : PySem.W.typeIn K (.ref fI) = some (.type "function")
  fn : ∃ (oc : Value) (od : Option Addr) (doc pm : Value) (an : Option Addr) (cdv ct : Value) (osl : Array (Option Value)) (qn : Str) (p q1 q2 q3 q4 : Pos), K.lookup fI = some ⟨oc, od, .func (PySem.W.fnOf "__init__" qn (eiA p) (eiB x q1 q2 q3 q4) eiS .none .none doc pm an cdv ct), osl⟩ ∧ PySem.W.codeIn K cdv qn = true
/-- the class of that name -/
def XIs (K : PySem.W.Frag) (x : Str) (C : Addr) : Prop := PySem.W.nsIn K mainGlobals x = some (some (.ref C))
theorem XIs.eq {K : PySem.W.Frag} {x : Str} {C D : Addr} (h : XIs K x C) (k : PySem.W.nsIn K mainGlobals x = some (some (.ref D))) : C = D := by
  have e := (show PySem.W.nsIn K mainGlobals x = some (some (.ref C)) from h).symm.trans k
  cases e
  rfl
/-- what such a maker leaves of the new error at y: its dict at dx holds the word -/
structure EiEnd (h h' : Heap) (y C dx t1 : Addr) (v : Value) : Prop where
  rest : ∀ b o, b ≠ y → h.get? b = some o → h'.get? b = some o
  err : h'.get? y = some { cls := .ref C, dict := some dx, data := .fields #[.ref t1, .none, .none, .none, .bool false, .none] }
  far : h.objs.size ≤ dx
  two : dx ≠ y
  dct : h'.Ns1 dx (fun z => if z = "named" then some v else none)
section
open PySem.W PySem.Calls PySem.HandSPX
variable {prog : Program} {w : World} {A : Around} {R : Result → Shared → Prop} {s : Shared} {K : Frag} {mg : Str → Option Value} {x : Str}
theorem ei_run (T : Xc K mg x) {y t0 : Addr} (X : K.In s.heap) (hlim : s.heap.NoLimit) (hy : s.heap.get? y = some (excO T.C t0)) (hroom : A.depth < recursionLimit)
    (go : ∀ h' tk dx tv, EiEnd s.heap h' y T.C dx t0 (.str x tv) → R (.ok (.ret .none)) { s with heap := h', toks := tk }) :
    codeAny (model prog w) A (.call (.ref T.fI) ⟨[.ref y], []⟩) R s := by
  obtain ⟨oc, od, doc, pm, an, cdv, ct, osl, qn, p, q1, q2, q3, q4, ho, hcd⟩ := T.fn
  obtain ⟨nm, q, N, bs, bm, sn, sub, ab, col, dd, k0, k1, k2, k3, k5, hC, hbm⟩ := T.cls
  have hcl : clsIn K T.C = some { name := nm, bases := bs, mro := .ref T.C :: bm, ns := N, qualname := q, hasDict := true, slotNames := sn, subclasses := sub, abstract := ab, collection := col, hasDel := false } := by unfold clsIn; rw [hC] <;> rfl
  refine Att.call_fn (binds := [("self", .ref y)]) X hlim ho hcd hroom (BindsTo.of_eq (by first | rfl | with_unfolding_all rfl)) (by first | rfl | decide | with_unfolding_all rfl) (fun s₁ IC => ?_) rfl rfl rfl
  obtain ⟨h₁, tk₁, rfl⟩ := IC.toInCall.same
  have k := IC.toInCall.keep
  have hn := IC.toInCall.ns
  have hx₁ := k _ _ hy
  have X₁ : K.In h₁ := X.keeps k
  show wpAny _ _ (execs _ _) _ _ _
  refine wpAny_execs_cons (plainObj_wpAny_Assign_Attribute (Calls.Constant_str ?_))
  refine wpAny_Name (wpAny_loadName_local (m := bindL (envOfC qn eiS s.heap.objs.size T.fI cdv).kindOf [("self", Value.ref y)] fun _ => none) (v := .ref y) rfl (by first | rfl | with_unfolding_all rfl) hn (by first | rfl | with_unfolding_all rfl | kernel_rfl) ?_) (by decide)
  refine set_plain X₁ (ox := excO T.C t0) (od := none) ⟨hx₁, rfl, rfl, trivial⟩ T.sa ?_
  refine exc_osa X₁ hx₁ hcl (show refsVE (.ref T.C :: bm) = true from hbm) rfl T.no (fun h₃ tk₃ dx k₃ dn dne hx₃ hn₃ => ?_)
  show wpAny _ _ (execs _ _) _ _ _
  have z : s.heap.objs.size < h₁.objs.size := hn.lt
  exact wpAny_execs_nil (go h₃ tk₃ dx _ ⟨fun b o hb e => k₃ b o hb (k b o e), hx₃, Nat.le_of_lt (Nat.lt_of_lt_of_le z dn), dne, hn₃⟩)
/-- a made one -/
structure EiMade (h h' : Heap) (e C d : Addr) (v : Value) : Prop where
  keep : ∀ b o, h.get? b = some o → h'.get? b = some o
  new : h.objs.size ≤ e
  obj : ∃ oe vs, h'.get? e = some oe ∧ oe.cls = .ref C ∧ oe.dict = some d ∧ oe.data = .fields vs ∧ vs[1]? = some .none ∧ vs[2]? = some .none
  far : h.objs.size ≤ d
  two : d ≠ e
  dct : h'.Ns1 d (fun z => if z = "named" then some v else none)
theorem ei_made (T : Xc K mg x) (X : K.In s.heap) (hlim : s.heap.NoLimit) (hroom : A.depth + 1 < recursionLimit)
    (go : ∀ h' tk e d tv, EiMade s.heap h' e T.C d (.str x tv) → R (.ok (.ret (.ref e))) { s with heap := h', toks := tk }) :
    codeAny (model prog w) A (.call (.ref T.C) ⟨[], []⟩) R s := by
  obtain ⟨nm, q, N, bs, bm, sn, sub, ab, col, dd, k0, k1, k2, k3, k5, hC, hbm⟩ := T.cls
  obtain ⟨hp, g, dr, tk, os⟩ := s
  have k : ∀ b o, hp.get? b = some o → ((hp.push (kdv_tup [])).push (excO T.C hp.objs.size)).get? b = some o := fun b o e => Heap.get?_push_of_some _ (Heap.get?_push_of_some _ e)
  have hget : ((hp.push (kdv_tup [])).push (excO T.C hp.objs.size)).get? (hp.objs.size + 1) = some (excO T.C hp.objs.size) := by heap_get
  refine call_own F.excBase_ValueError (fun Y => refsVE_contains Y bm hbm) (X _ _ hC) (looks_findIn X T.iC) (fun self => bind_fn X self T.tI) (Nat.zero_le _) ?_
  refine ei_run (s := ⟨(hp.push (kdv_tup [])).push (excO T.C hp.objs.size), g, dr, tk, os⟩) T (X.keeps k) (hlim.keeps k) hget ?_ fun h' tk' dx tv ⟨k', hx, dn, dne, hns⟩ => ?_
  · show A.depth + 1 < recursionLimit
    exact hroom
  · have old : ∀ b o, hp.get? b = some o → h'.get? b = some o := fun b o e => k' b o (Nat.ne_of_lt (Nat.lt_succ_of_lt (Heap.lt_size e))) (k b o e)
    have z : hp.objs.size + 1 + 1 ≤ dx := by
      have q := dn
      simp only [Heap.size_push] at q
      exact q
    exact ⟨rfl, go h' tk' (hp.objs.size + 1) dx tv ⟨old, Nat.le_succ _, ⟨_, _, hx, rfl, rfl, rfl, rfl, rfl⟩, Nat.le_trans (Nat.le_trans (Nat.le_succ _) (Nat.le_succ _)) z, dne, hns⟩⟩
end
/-- the dict of such an error -/
abbrev wordOf (x : Str) : List (Str × V) := [("named", .str x)]
theorem relO_word {x : Str} {tv : Tok} (f : Str) : RelO (List.lookup f (wordOf x)) (if f = "named" then some (.str x tv) else none) := by
  show RelO (List.lookup f [("named", V.str x)]) _
  by_cases h : f = "named"
  · rw [if_pos h, h]
    have e : List.lookup ("named" : Str) [(("named" : Str), V.str x)] = some (V.str x) := by simp [List.lookup]
    rw [e]
    exact ⟨_, rfl⟩
  · rw [if_neg h]
    have e : (f == ("named" : Str)) = false := by simpa using h
    have e2 : List.lookup f [(("named" : Str), V.str x)] = none := by simp [List.lookup, e]
    rw [e2]
    trivial
section
variable {X : Cx} {x : Str} {pins : List (Addr × Obj)} {σ : L2.St} {H : Hp} {s : Shared}
/-- the heap behind C(): the dict is tracked, the error itself not -/
theorem ei_land {A : Around} {R : Result → Shared → Prop} (T : Xc X.K X.mg x) {k : Nat} (hr : Room k X.A) (I : L2.Inv X pins σ H s)
    (go : ∀ h' tk' e d oe vs (G : Heap), H d = none → H e = none → d ≠ e → h'.get? e = some oe → Zc (.ref T.C) (some d) oe → oe.data = .fields vs → vs[1]? = some .none → vs[2]? = some .none → (∀ b o, G.get? b = some o → h'.get? b = some o) → G.get? e = none →
      (∀ b, b ≠ e → G.get? b = h'.get? b) → L2.Inv X pins σ (upd H d (.xd (wordOf x))) { s with heap := G, toks := tk' } → R (.ok (.ret (.ref e))) { s with heap := h', toks := tk' }) :
    codeAny (model X.prog X.w) X.A (.call (.ref T.C) ⟨[], []⟩) R s := by
  have hlim := I.nolimit
  refine ei_made T I.kIn hlim (by have := hr.dp; omega) fun h' tk' e d tv M => ?_
  obtain ⟨oe, fv, hoe, hc, hd, hdat, h1, h2⟩ := M.obj
  have hns := M.dct
  obtain ⟨G, g1, g2⟩ := restrict h' fun b => decide (b ≠ e)
  have gk : ∀ b, b ≠ e → G.get? b = h'.get? b := fun b hb => g1 b (decide_eq_true hb)
  have ge : G.get? e = none := g2 e (by simp)
  have old : ∀ b o, s.heap.get? b = some o → G.get? b = some o := fun b o q => (gk b (Nat.ne_of_lt (Nat.lt_of_lt_of_le (Heap.lt_size q) M.new))).trans (M.keep b o q)
  have ob : ObjOk X.prog X.w (upd H d (.xd (wordOf x))) G d (.xd (wordOf x)) := ⟨_, hns.at (fun o q => (gk d M.two).trans q), fun f => relO_word f⟩
  refine go h' tk' e d oe fv G (I.hok.fresh M.far) (I.hok.fresh M.new) M.two hoe ⟨hc, hd⟩ hdat h1 h2 (fun b o q => ?_) ge gk (I.laid (t' := tk') old M.far ob)
  by_cases hb : b = e
  · rw [hb, ge] at q; cases q
  · exact (gk b hb).symm.trans q
end
/-- such a dict stands there, where the error has one -/
def DOk (H : Hp) : Option Addr → Prop
  | none => True
  | some d => ∃ fs, H d = some (.xd fs)
theorem Same.dok {H H' : Hp} {d : Option Addr} (e : Same H H') (h : DOk H d) : DOk H' d := by
  cases d with
  | none => trivial
  | some d => obtain ⟨fs, h⟩ := h; exact ⟨fs, e _ _ h⟩
theorem dok_upd {H : Hp} {d : Addr} {fs : List (Str × V)} : DOk (upd H d (.xd fs)) (some d) := ⟨fs, upd_same⟩
theorem inst_at {X : Cx} {pins : List (Addr × Obj)} {σ : L2.St} {H : Hp} {s : Shared} {a D : Addr} {d : Option Addr} {oe : Obj} {vs : Array Value} (I : L2.Inv X pins σ H s) (got : s.heap.get? a = some oe) (z : Zc (.ref D) d oe) (fl : oe.data = .fields vs) (h : DOk H d) : ∃ od, PySem.W.InstAt s.heap a oe D od := by
  cases d with
  | none => exact ⟨none, got, z.1, by unfold PySem.W.notCls; rw [fl] <;> rfl, by rw [z.2]; trivial⟩
  | some d =>
    obtain ⟨fs, h⟩ := h
    obtain ⟨mA, hns, _⟩ := (show ObjOk X.prog X.w H s.heap d (.xd fs) from I.hok d _ h)
    obtain ⟨od, ho, _⟩ := lookIn_ns hns
    exact ⟨some od, got, z.1, by unfold PySem.W.notCls; rw [fl] <;> rfl, by rw [z.2]; exact ho⟩
theorem kit_of {K : PySem.W.Frag} {a D : Addr} {oe : Obj} {od : Option Obj} (ec : ExcC K D) : PySem.W.KitX K (.ref a) (.ref D) (fun h => PySem.W.InstAt h a oe D od) :=
  PySem.W.kitx_exc (by obtain ⟨cd, hc, _⟩ := PySem.W.any_some ec.hd; rw [hc]; rfl) ec.hg ec.hk ec.hs ec.ha ec.hn ec.ht ec.hm
section
variable {X : Cx} {a : Addr} {oe : Obj} {pn : List (Addr × Obj)} {cls : Value} {d : Option Addr}
/-- isinstance(e, c), e the error of the suite -/
def rIsX (K : PySem.W.Frag) (a : Addr) (cls : Value) (d : Option Addr) : List V → Hp → VK → Prop := fun xs H Q => ∃ (D : Addr) (c : V) (cv : Value) (b : Bool), cls = .ref D ∧ DOk H d ∧ ExcC K D ∧ xs = [.ref a, c] ∧ ClsV c cv ∧ PySem.W.kitOne K (.ref D) cv = some b ∧ Q (.bl b) H
end
/-- o.m(e, ..), the part of the module named -/
theorem pe_bmK {X : Cx} {K : PySem.W.Frag} {T id : String} {name : Str} {o e : Expr} {es : List Expr} {r : V → List V → Hp → VK → Prop} {to : TE} {t : TA} {apos cpos : Pos} (hK : X.K = K) (pa : PlainAttrs T) (slot : Slot T name id) (ht : typeOf (.builtin id) = pure (.type "method_descriptor")) (hm : MtR X id r)
    (ho : PE X o to) (ha : PA X (e :: es) t) (b1 : attributeBase o name X.env (eval o X.env) = eval o X.env := by rfl)
    (b2 : ((backTo cpos (starEach (e :: es) X.env)).all (fun x => !x.1) && (backToKw cpos (keywordEach [] X.env)).all (fun x => x.1.isSome) && decide ((e :: es).length + ([] : List Keyword).length + (if ([] : List Keyword).isEmpty then 0 else 1) < 30)) = true := by rfl)
    (b3 : (apos.endLine == cpos.line) = true := by rfl) (b4 : starEach (e :: es) X.env = (false, eval e X.env) :: starEach es X.env := by rfl) (b5 : (backTo cpos (starEach es X.env)).any (·.1) = false := by rfl) :
    PE X (.Call (.Attribute o name apos) (e :: es) [] cpos) (tBM K T r to t) := by
  cases hK
  exact pe_bm pa slot ht hm ho ha b1 b2 b3 b4 b5
theorem kitCls_own {K : PySem.W.Frag} {D : Value} {C : Addr} {b : Bool} (i : PySem.W.isClsIn K C = true) (t : PySem.W.typeIn K (.ref C) = some (.type "type")) (h : PySem.W.subIn K D (.ref C) = some b) : PySem.W.kitCls K D (.ref C) = some b := by
  have e : ((PySem.W.clsIn K C).isSome && PySem.W.typeIn K (.ref C) == some (.type "type")) = true := by
    have i' : (PySem.W.clsIn K C).isSome = true := i
    rw [i', t]
    rfl
  show (if ((PySem.W.clsIn K C).isSome && PySem.W.typeIn K (.ref C) == some (.type "type")) = true then PySem.W.subIn K D (.ref C) else none) = some b
  rw [if_pos e]
  exact h
theorem kit_own {K : PySem.W.Frag} {D C : Addr} {b : Bool} (i : PySem.W.isClsIn K C = true) (t : PySem.W.typeIn K (.ref C) = some (.type "type")) (me : PySem.W.subIn K (.ref D) (.ref D) = some true) (h : PySem.W.subIn K (.ref D) (.ref C) = some b) : PySem.W.kitOne K (.ref D) (.ref C) = some b := by
  unfold PySem.W.kitOne
  by_cases e : (Value.ref D == Value.ref C) = true
  · rw [if_pos e]
    have e2 : Value.ref D = Value.ref C := eq_of_beq e
    cases e2
    rw [me] at h
    exact h
  · rw [if_neg e]
    exact kitCls_own i t h
theorem kit_val {K : PySem.W.Frag} {D : Addr} {n : String} {b : Bool} (m : PySem.W.kitMeta n = true) (h : PySem.W.subIn K (.ref D) (.type n) = some b) : PySem.W.kitOne K (.ref D) (.type n) = some b := by
  have e : ¬ (Value.ref D == Value.type n) = true := by intro z; cases eq_of_beq z
  unfold PySem.W.kitOne
  rw [if_neg e]
  show (if PySem.W.kitMeta n = true then PySem.W.subIn K (.ref D) (.type n) else none) = some b
  rw [if_pos m]
  exact h
theorem exm_own {K : PySem.W.Frag} {D C : Addr} {b : Bool} (s : PySem.W.subIn K (.ref C) (.type "BaseException") = some true) (i : PySem.W.isClsIn K C = true) (t : PySem.W.typeIn K (.ref C) = some (.type "type")) (h : PySem.W.subIn K (.ref D) (.ref C) = some b) : PySem.W.exmOne K (.ref D) (.ref C) = some b := by
  have e : (PySem.W.subIn K (.ref C) (.type "BaseException") == some true) = true := by rw [s]; rfl
  unfold PySem.W.exmOne
  rw [if_pos e]
  exact kitCls_own i t h
end B
namespace B
open PySem PySem.Spec PyProof.Rows L2
section
variable {X : Cx} {pins : List (Addr × Obj)} {σ : L2.St} {H : Hp} {s : Shared}
end
section
variable {X : Cx} {n : Str} {i : Nat} {body : List Stmt} {h0 : ExceptHandler} {hds : List ExceptHandler} {l : List (Value × (Addr → Value → TS))} {pos : Pos} {tb : WX → TS}
end
end B
namespace B
open PySem PySem.Spec PyProof.Rows L2
inductive Kd where
  | l
  | t
  | s
/-- the items of v, by its kind -/
def Src (K : PySem.W.Frag) (H : Hp) : Kd → V → List V → Prop
  | .l, v, xs => ∃ a, v = .ref a ∧ SqL K H a xs
  | .t, v, xs => ∃ a, v = .ref a ∧ SqT K H a xs
  | .s, v, xs => ∃ x : Str, v = .str x ∧ xs = x.cps.toList.map fun c => V.str ⟨#[c]⟩
/-- its iterator, at it, ahead of item i -/
def ItSt : Kd → Value → Addr → Nat → Heap → Prop
  | .l, .ref a, it, i, h => h.IsListIter it a i
  | .t, .ref a, it, i, h => h.IsTupleIter it a i
  | .s, .str x t, it, i, h => h.IsStrIter it (strIterType x) x t i
  | _, _, _, _, _ => False
theorem ItSt.keep {k : Kd} {u : Value} {it : Addr} {i : Nat} {h h' : Heap} (st : ItSt k u it i h) (e : ∀ o, h.get? it = some o → h'.get? it = some o) : ItSt k u it i h' := by
  cases k <;> cases u <;> first | exact st.elim | (exact Heap.IsListIter.at st e) | (exact Heap.IsTupleIter.at st e) | (obtain ⟨o, a, b⟩ := st; exact ⟨o, e o a, b⟩)
theorem ItSt.obj {k : Kd} {u : Value} {it : Addr} {i : Nat} {h : Heap} (st : ItSt k u it i h) : ∃ o, h.get? it = some o ∧ ∀ v, o.data ≠ .cell v := by
  cases k <;> cases u <;> first | exact st.elim | (obtain ⟨o, e, c, d⟩ := st; exact ⟨o, e, fun v z => by rw [d] at z; cases z⟩)
section
variable {X : Cx} {pins : List (Addr × Obj)} {σ : L2.St} {H : Hp} {s : Shared}
theorem Src.inj {k : Kd} {v : V} {xs ys : List V} (I : Inv X pins σ H s) (h : Src X.K H k v xs) (h' : Src X.K H k v ys) : xs = ys := by
  cases k with
  | l =>
    obtain ⟨a, rfl, p⟩ := h
    obtain ⟨b, e, p'⟩ := h'
    cases e
    exact I.list_inj p p'
  | t =>
    obtain ⟨a, rfl, p⟩ := h
    obtain ⟨b, e, p'⟩ := h'
    cases e
    exact I.tuple_inj p p'
  | s =>
    obtain ⟨a, rfl, p⟩ := h
    obtain ⟨b, e, p'⟩ := h'
    cases e
    rw [p, p']
/-- what its iterator draws -/
theorem Src.draws {k : Kd} {v : V} {u : Value} {xs : List V} {A : Around} {it : Addr} (I : Inv X pins σ H s) (h : Src X.K H k v xs) (r : RelV v u) (hh : A.handled = none) (ne : ∀ a, u = .ref a → a < it) :
    ∃ (fp : List Addr) (P : Nat → Value → Prop) (St : Nat → Heap → Prop), Draws X.prog X.w A it (it :: fp) xs.length P St ∧ (∀ i x, P i x → ∃ y, xs[i]? = some y ∧ RelV y x) ∧ (∀ i, ItSt k u it i s.heap → St i s.heap) ∧ (∀ i h, St i h → ItSt k u it i h) ∧ (∀ b ∈ fp, u = .ref b) := by
  cases k with
  | l =>
    obtain ⟨a, rfl, p⟩ := h
    cases r
    obtain ⟨its, rv, ht, hz⟩ := I.list p
    have hl := rv.length
    have D := Draws.list (prog := X.prog) (w := X.w) hh it a (Nat.ne_of_lt (ne a rfl)) its.toArray
    rw [List.size_toArray, ← hl] at D
    refine ⟨[a], _, _, D, fun i x hx => ?_, fun i st => ⟨st, ht.isList⟩, fun i h st => st.1, fun b hb => by rw [List.mem_singleton] at hb; rw [hb]⟩
    have hx : its[i]? = some x := by simpa using hx
    have hi : i < xs.length := by rw [hl]; exact (List.getElem?_eq_some_iff.mp hx).1
    obtain ⟨u', hu, ru⟩ := rv.get (List.getElem?_eq_getElem hi)
    rw [hx] at hu
    cases hu
    exact ⟨_, List.getElem?_eq_getElem hi, ru⟩
  | t =>
    obtain ⟨a, rfl, p⟩ := h
    cases r
    obtain ⟨its, rv, ht, hz⟩ := I.tuple p
    have hl := rv.length
    have D := Draws.tuple (prog := X.prog) (w := X.w) hh it a (Nat.ne_of_lt (ne a rfl)) its.toArray
    rw [List.size_toArray, ← hl] at D
    refine ⟨[a], _, _, D, fun i x hx => ?_, fun i st => ⟨st, ht⟩, fun i h st => st.1, fun b hb => by rw [List.mem_singleton] at hb; rw [hb]⟩
    have hx : its[i]? = some x := by simpa using hx
    have hi : i < xs.length := by rw [hl]; exact (List.getElem?_eq_some_iff.mp hx).1
    obtain ⟨u', hu, ru⟩ := rv.get (List.getElem?_eq_getElem hi)
    rw [hx] at hu
    cases hu
    exact ⟨_, List.getElem?_eq_getElem hi, ru⟩
  | s =>
    obtain ⟨x, rfl, p⟩ := h
    obtain ⟨t, rfl⟩ := r
    have D := Draws.text (prog := X.prog) (w := X.w) hh it x t
    have hl : xs.length = x.cps.size := by rw [p, List.length_map, Array.length_toList]
    rw [← hl] at D
    refine ⟨[], _, _, D, fun i v hv => ?_, fun i st => st, fun i h st => st, fun b hb => nomatch hb⟩
    obtain ⟨c, w, hc, rfl⟩ := hv
    refine ⟨.str ⟨#[c]⟩, ?_, ⟨w, rfl⟩⟩
    rw [p, List.getElem?_map, Array.getElem?_toList, hc]
    rfl
/-- how it begins -/
theorem Src.begins {k : Kd} {v : V} {u : Value} {xs : List V} (I : Inv X pins σ H s) (h : Src X.K H k v xs) (r : RelV v u) :
    ∃ (o : Obj) (G : Heap → Prop), Begins u o G ∧ G s.heap ∧ (∀ (h' : Heap) (it : Addr), h'.get? it = some o → ItSt k u it 0 h') ∧ ∀ a, u = .ref a → a < s.heap.objs.size := by
  cases k with
  | l =>
    obtain ⟨a, rfl, p⟩ := h
    cases r
    obtain ⟨its, rv, ht, hz⟩ := I.list p
    exact ⟨_, _, begins_list a its.toArray, ht.isList, fun h' it e => ⟨_, e, rfl, rfl⟩, fun b e => by cases e; exact ht.lt⟩
  | t =>
    obtain ⟨a, rfl, p⟩ := h
    cases r
    obtain ⟨its, rv, ht, hz⟩ := I.tuple p
    exact ⟨_, _, begins_tuple a its.toArray, ht, fun h' it e => ⟨_, e, rfl, rfl⟩, fun b e => by cases e; obtain ⟨o, ho, _⟩ := ht; exact Heap.lt_size ho⟩
  | s =>
    obtain ⟨x, rfl, p⟩ := h
    obtain ⟨t, rfl⟩ := r
    exact ⟨_, _, begins_text x t, trivial, fun h' it e => ⟨_, e, rfl, rfl⟩, fun b e => by cases e⟩
end
/-- the two as they stand at each turn, the items in new pairs -/
def ItG (K : PySem.W.Frag) (k1 k2 : Kd) (v1 v2 : V) : It :=
  ⟨fun i H => ∃ (xs ys : List V) (x y : V), Src K H k1 v1 xs ∧ Src K H k2 v2 ys ∧ xs[i]? = some x ∧ ys[i]? = some y,
    fun i H v H' => ∃ T x y, v = .ref T ∧ H T = none ∧ H' = upd H T (.tup [x, y]) ∧ (∀ xs, Src K H k1 v1 xs → xs[i]? = some x) ∧ ∀ ys, Src K H k2 v2 ys → ys[i]? = some y,
    fun i H => ∃ xs ys : List V, Src K H k1 v1 xs ∧ Src K H k2 v2 ys ∧ i = min xs.length ys.length⟩
theorem turn_zipG {P : Program} {w : World} {K : PySem.W.Frag} {elts : List Expr} {kk : Nat} {tpos : Pos} {k1 k2 : Kd} {v1 v2 : V} {u1 u2 : Value} {N : Nat} (r1 : RelV v1 u1) (r2 : RelV v2 u2) (l1 : ∀ a, u1 = .ref a → a < N) (l2 : ∀ a, u2 = .ref a → a < N) :
    Turn P w K (.Tuple elts kk tpos) (ItG K k1 k2 v1 v2) [N + 4, N + 2, N + 3, N, N + 1] (N + 4) (fun i h => IsZip h (N + 4) (N + 2) (N + 3) .none ∧ IsTupOf2 h (N + 2) (.ref N) (.ref (N + 1)) ∧ (∃ a1 a2, IsTupOf2 h (N + 3) a1 a2) ∧ ItSt k1 u1 N i h ∧ ItSt k2 u2 (N + 1) i h) where
  mem := by simp
  obj := fun i h st c hc => by
    obtain ⟨hz, hTI, ⟨x, y, hTO⟩, s1, s2⟩ := st
    have e' : c = N + 4 ∨ c = N + 2 ∨ c = N + 3 ∨ c = N ∨ c = N + 1 := by simpa using hc
    rcases e' with q | q | q | q | q
    · rw [q]; exact ⟨_, hz, fun v q => nomatch q⟩
    · rw [q]; exact ⟨_, hTI, fun v q => nomatch q⟩
    · rw [q]; exact ⟨_, hTO, fun v q => nomatch q⟩
    · rw [q]; exact s1.obj
    · rw [q]; exact s2.obj
  keep := fun i h h' st k => by
    obtain ⟨hz, hTI, ⟨x, y, hTO⟩, s1, s2⟩ := st
    exact ⟨k (N + 4) (by simp) _ hz, k (N + 2) (by simp) _ hTI, ⟨x, y, k (N + 3) (by simp) _ hTO⟩, s1.keep fun o q => k N (by simp) o q, s2.keep fun o q => k (N + 1) (by simp) o q⟩
  item := by
    intro X hP hw hK hc i pins s σ H E I hf st hg
    subst hP hw hK
    obtain ⟨hz, hTI, hTO, s1, s2⟩ := st
    obtain ⟨xs, ys, x, y, hqx, hqy, hx, hy⟩ := hg
    have hh : X.A.in1.handled = none := I.ok.hd hc
    obtain ⟨fp1, P1, St1, D1, c1, a1, b1, m1⟩ := Src.draws (it := N) I hqx r1 hh l1
    obtain ⟨fp2, P2, St2, D2, c2, a2, b2, m2⟩ := Src.draws (it := N + 1) I hqy r2 hh fun a e => Nat.lt_succ_of_lt (l2 a e)
    have S := zip_sep2 (N := N) (fp1 := fp1) (fp2 := fp2) (fun b hb => l1 b (m1 b hb)) (fun b hb => l2 b (m2 b hb))
    have W := GoesN.zip2 (elts := elts) (x1 := kk) (pos := tpos) S D1 D2
    have hi1 := (List.getElem?_eq_some_iff.mp hx).1
    have hi2 := (List.getElem?_eq_some_iff.mp hy).1
    refine W.goes i s (fun u s2 => ∃ x H', Inv X pins σ H' s2 ∧ RelV x u ∧ (ItG X.K k1 k2 v1 v2).yld i H x H' ∧ _ ∧ ∀ b ∈ [N + 4, N + 2, N + 3, N, N + 1], H' b = none) E (by omega) ⟨hz, hTI, hTO, a1 i s1, a2 i s2⟩ ?_
    rintro v h' tk ⟨T, p, r, rfl, hT, hp, hr, ht⟩ st' hk htk
    obtain ⟨x', hx', rx⟩ := c1 i p hp
    obtain ⟨y', hy', ry⟩ := c2 i r hr
    have new : ObjOk X.prog X.w (upd H T (.tup [x', y'])) h' T (.tup [x', y']) := ⟨by show 2 ≤ sizeLine; decide, [p, r], .cons rx (.cons ry .nil), ht⟩
    have I1 : Inv X pins σ (upd H T (.tup [x', y'])) { s with heap := h', toks := tk } := I.turnedNew (ch := [N + 4, N + 2, N + 3, N, N + 1]) (fun c o hb q => hk c o (fun z => hb (by
      have z : c = N + 4 ∨ c = N + 3 ∨ c = N ∨ c = N + 1 := by simpa using z
      rcases z with z | z | z | z <;> rw [z] <;> simp)) q) hf hT new
    have hTn := I.hok.fresh hT
    refine ⟨.ref T, _, I1, rfl, ⟨T, x', y', rfl, hTn, rfl, fun zs hz' => by rw [Src.inj I hz' hqx]; exact hx', fun zs hz' => by rw [Src.inj I hz' hqy]; exact hy'⟩, ⟨st'.1, st'.2.1, st'.2.2.1, b1 _ _ st'.2.2.2.1, b2 _ _ st'.2.2.2.2⟩, fun c hc' => ?_⟩
    have hlt : c < s.heap.objs.size := by
      have e' : c = N + 4 ∨ c = N + 2 ∨ c = N + 3 ∨ c = N ∨ c = N + 1 := by simpa using hc'
      rcases e' with q | q | q | q | q
      · rw [q]; exact Heap.lt_size hz
      · rw [q]; exact Heap.lt_size hTI
      · rw [q]; obtain ⟨_, _, z⟩ := hTO; exact Heap.lt_size z
      · rw [q]; obtain ⟨_, z, _⟩ := s1.obj; exact Heap.lt_size z
      · rw [q]; obtain ⟨_, z, _⟩ := s2.obj; exact Heap.lt_size z
    rw [upd_ne (Nat.ne_of_lt (Nat.lt_of_lt_of_le hlt hT))]
    exact (hf c hc').1
  done := by
    intro X hP hw hK hc i pins s σ H E I hf st hg
    subst hP hw hK
    obtain ⟨hz, hTI, hTO, s1, s2⟩ := st
    obtain ⟨xs, ys, hqx, hqy, hend⟩ := hg
    have hh : X.A.in1.handled = none := I.ok.hd hc
    obtain ⟨fp1, P1, St1, D1, c1, a1, b1, m1⟩ := Src.draws (it := N) I hqx r1 hh l1
    obtain ⟨fp2, P2, St2, D2, c2, a2, b2, m2⟩ := Src.draws (it := N + 1) I hqy r2 hh fun a e => Nat.lt_succ_of_lt (l2 a e)
    have S := zip_sep2 (N := N) (fp1 := fp1) (fp2 := fp2) (fun b hb => l1 b (m1 b hb)) (fun b hb => l2 b (m2 b hb))
    have W := GoesN.zip2 (elts := elts) (x1 := kk) (pos := tpos) S D1 D2
    subst hend
    refine W.stops s (fun s1 => Inv X pins σ H s1) E ⟨hz, hTI, hTO, a1 _ s1, a2 _ s2⟩ fun h' tk hk htk => ?_
    exact I.turnedL (ch := [N + 4, N + 2, N + 3, N, N + 1]) (fun c o hb q => hk c o (fun z => hb (by
      have z : c = N + 4 ∨ c = N + 3 ∨ c = N ∨ c = N + 1 := by simpa using z
      rcases z with z | z | z | z <;> rw [z] <;> simp)) q) hf
  self := fun A i s Q E st h => wpAny_pyIter_zip st.1 h
def iZipG (K : PySem.W.Frag) (ta : TA) : TI := fun σ H R => ta σ H fun vs H1 => ∃ k1 k2 v1 v2 xs ys, vs = [v1, v2] ∧ Src K H1 k1 v1 xs ∧ Src K H1 k2 v2 ys ∧ R (ItG K k1 k2 v1 v2) H1
theorem pi_zipG {X : Cx} {e e2 : Expr} {ta : TA} {p pos tpos : Pos} {elts : List Expr} {kk : Nat} (hg : Gl X "zip") (hm : X.mg "zip" = none) (ha : PA X [e, e2] ta)
    (hs : starEach [e, e2] X.env = (false, eval e X.env) :: starEach [e2] X.env := by rfl) (hpl : (backTo pos (starEach [e2] X.env)).any (·.1) = false := by rfl) :
    PI X (.Tuple elts kk tpos) (.Call (.Name "zip" p) [e, e2] [] pos) (iZipG X.K ta) := by
  refine ⟨fun pins s σ H R I h => ?_⟩
  refine Call_ (ld_blt I hg hm PyProof.Rows.boot_zip (PyProof.Rows.callWith_type1 (thn (ha.run pos pins s σ H _ I h) fun us s1 ⟨vs, H1, I1, r1, q1⟩ => ?_) hs hpl))
  obtain ⟨k1, k2, v1, v2, xs, ys, ex, hqx, hqy, q⟩ := q1
  subst ex
  cases r1 with
  | cons r rr =>
    rename_i u1 us1
    cases rr with
    | cons r' rr =>
      rename_i u2 us2
      cases rr
      have fresh5 : ∀ c, c ∈ [s1.heap.objs.size + 4, s1.heap.objs.size + 2, s1.heap.objs.size + 3, s1.heap.objs.size, s1.heap.objs.size + 1] → FpOk X pins H1 c := fun c hcm => by
        have e' : c = s1.heap.objs.size + 4 ∨ c = s1.heap.objs.size + 2 ∨ c = s1.heap.objs.size + 3 ∨ c = s1.heap.objs.size ∨ c = s1.heap.objs.size + 1 := by simpa using hcm
        have hle : s1.heap.objs.size ≤ c := by
          rcases e' with z | z | z | z | z
          · rw [z]; exact Nat.le_add_right _ _
          · rw [z]; exact Nat.le_add_right _ _
          · rw [z]; exact Nat.le_add_right _ _
          · rw [z]; exact Nat.le_refl _
          · rw [z]; exact Nat.le_add_right _ _
        exact I1.fpOk hle (I1.hok.fresh hle)
      obtain ⟨o1, G1, B1, g1, b1, l1⟩ := Src.begins I1 hqx r
      obtain ⟨o2, G2, B2, g2, b2, l2⟩ := Src.begins I1 hqy r'
      refine zip_begins2 B1 B2 g1 g2 fun h' hz hTI hTO h1 h2 hsz hk => wpAny_pyIter_zip hz ?_
      have I2 : Inv X pins σ H1 { s1 with heap := h' } := I1.kept (t' := s1.toks) hk
      exact ⟨s1.heap.objs.size + 4, _, _, _, H1, rfl, I2, turn_zipG r r' l1 l2, ⟨hz, hTI, ⟨_, _, hTO⟩, b1 h' _ h1, b2 h' _ h2⟩, fresh5, q⟩
theorem walk_zipG {K : PySem.W.Frag} {k1 k2 : Kd} {v1 v2 : V} {xs ys : List V} : Walk (ItG K k1 k2 v1 v2) (min xs.length ys.length) (fun H => Src K H k1 v1 xs ∧ Src K H k2 v2 ys) (YPair (fun i => xs[i]?) (fun i => ys[i]?)) :=
  ⟨fun i H hi q => ⟨xs, ys, xs[i]'(by omega), ys[i]'(by omega), q.1, q.2, List.getElem?_eq_getElem _, List.getElem?_eq_getElem _⟩, fun H q => ⟨xs, ys, q.1, q.2, rfl⟩,
    fun i H v H' hi q y => by
      obtain ⟨T, x, y', e, n, e2, h1, h2⟩ := y
      exact ⟨T, x, y', e, n, e2, h1 xs q.1, h2 ys q.2⟩⟩
end B
namespace B
open PySem PySem.Spec PyProof.Rows L2
end B
namespace B
open PySem PySem.Spec PyProof.Rows L2
/-- like a def's promise, but asked only where no showing is under way -/
structure FnG (P : Program) (w : World) (K : PySem.W.Frag) (mg : Str → Option Value) (base : Heap) (k : Nat) (f : Addr) (fd : FuncData) (ps : List Str) (sp : Sp) : Prop where
  arity : ∀ vs H Q E, sp vs H Q E → vs.length = ps.length
  go : ∀ (A : Around) (out : List Env) (s : Shared) (H : Hp) (ar : Args) (us : List Value) (vs : List V) (Q : VK) (E : XK), Room k A ∧ A.guards = some [] → Env0 P w K mg base A out s H →
    BindsTo s fd ar (ps.zip us) → Vals vs us → sp vs H Q E → codeAny (model P w) A (.call (.ref f) ar) (CR CX0 out P w H s Q E) s
section
variable {P : Program} {w : World} {K : PySem.W.Frag} {mg : Str → Option Value} {base : Heap}
/-- a def by its body, where nothing is being shown -/
theorem fun_okG {x qual : Str} {st : Stmt} {f : Addr} {fd : FuncData} {N ps : List Str} {k : Nat} {sp : Sp} (F : Fun K x qual st f fd) (S : FnScope N ps (defScope st)) (ln : ∀ vs H Q E, sp vs H Q E → vs.length = ps.length)
    (body : ∀ (cdv : Value) (A : Around) (outer : List Env) (s : Shared) (H : Hp) (vs : List V) (Q : VK) (E : XK),
      Room k (A.deeper (envOfC qual (defScope st) s.heap.objs.size f cdv)) → (A.deeper (envOfC qual (defScope st) s.heap.objs.size f cdv)).guards = some [] → sp vs H Q E →
      ∃ t, PSs (cxOf CX0 P w K mg base N qual (defScope st) f cdv A outer s H E).nox (defBody st) t ∧ t { nx := fun _ H' => Q .non H', rt := Q } (start N vs) H) :
    FnG P w K mg base (k + 1) f fd ps sp := by
  obtain ⟨oc, od, kV, doc, pm, an, cv, ct, sl, rfl, look, code⟩ := F.ex
  constructor
  · exact ln
  intro A out s H ar us vs Q E ⟨room, quiet⟩ e0 hb rel want
  have up : ∀ b o, base.get? b = some o → s.heap.get? b = some o := fun b o q => (e0.bs b o q).1
  have inK := e0.mod.kin.keeps up
  refine codeAny_call_function room.depth (inK _ _ look) rfl S.co S.gen rfl (PySem.W.codeRec_of inK code) (hb _ _ _ _ ?_)
  have kinds : ∀ y ∈ ps.zip us, (defScope st).names.lookup y.1 = some .local ∨
      ((defScope st).names.lookup y.1 = some .cell ∧ ((cellsFrom (s.heap.objs.size + 1) (defScope st).names []).lookup y.1).isSome = true) := by
    intro y hy
    have par := S.par y.1 (List.of_mem_zip (a := y.1) (b := y.2) hy).1
    exact par.imp id fun c => ⟨c, PySem.W.cellsFrom_some _ _ _ (.inl c)⟩
  refine wpAny_newFunctionEnv_cells S.kind kinds fun env same s1 inC => ?_
  cases same
  refine ⟨(e0.mod.nolimit.keeps up).keeps inC.toInCall.keep, codeAny_func ?_⟩
  obtain ⟨t, tb, tq⟩ := body cv A out s H vs Q E (room.deeper _) quiet want
  have J0 := inv_start (CX := CX0) (E := E) S room.hd e0 (ln _ _ _ _ want) rel inC
  refine wpAny_mono (tb.nox.run [] s1 (start N vs) H _ J0 tq) ?_ fun _ _ h => h
  intro fl s2 h2
  cases fl
  case ret u => obtain ⟨v, _, H2, J, rv, q⟩ := h2; exact ⟨v, H2, J.os, J.bare, J.base, J.hok, rv, q⟩
  case next => obtain ⟨_, H2, J, q⟩ := h2; exact ⟨V.non, H2, J.os, J.bare, J.base, J.hok, rfl, q⟩
  case brk => exact h2.elim fun _ a => a.elim fun _ b => b.2.elim
  case cont => exact h2.elim fun _ a => a.elim fun _ b => b.2.elim
end
section
variable {X : Cx}
end
end B
namespace B
open PySem PySem.Spec PyProof.Rows L2
/-- a heap in which at most the script is tracked -/
theorem script_heap {P : Program} {w : World} {K : PySem.W.Frag} {h : Heap} {a : Addr} {vs : List Value} {ns : List Int} (inK : K.In h) (ha : h.get? a = some { cls := .type "list", data := .seq vs.toArray }) (hi : IntsAre vs ns)
    (hl : ns.length ≤ sizeLine) : ∃ H : Hp, Only H ∧ SqL K H a (ns.map V.int) ∧ HOk P w H h ∧ ∀ b, H b = none ∨ (b = a ∧ K.lookup a = none) := by
  have rel := vals_ints hi
  have ln := hi.length
  rcases Option.eq_none_or_eq_some (K.lookup a) with no | ⟨o, yes⟩
  · let ob : Obj := { cls := .type "list", data := .seq vs.toArray }
    let H : Hp := fun b => if b = a then some (.frz ob (.lst (ns.map V.int))) else none
    have on : H a = some (.frz ob (.lst (ns.map V.int))) := if_pos rfl
    have off : ∀ b, b ≠ a → H b = none := fun b n => if_neg n
    refine ⟨H, fun b => ?_, .inl (.inr ⟨ob, on⟩), fun b u z => ?_, fun b => ?_⟩
    · rcases Nat.decEq b a with n | y
      · exact .inl (off b n)
      · subst y; exact .inr ⟨_, _, on⟩
    · rcases Nat.decEq b a with n | y
      · rw [off b n] at z; cases z
      · subst y
        rw [on] at z
        cases z
        exact ⟨ha, by rw [List.length_map]; exact hl, vs, _, rel, ha⟩
    · rcases Nat.decEq b a with n | y
      · exact .inl (off b n)
      · exact .inr ⟨y, no⟩
  · have same := inK a o yes
    rw [ha] at same
    cases same
    exact ⟨fun _ => none, fun _ => .inl rfl, .inr ⟨_, vs.toArray, _, yes, rfl, rfl, rfl, by simpa [ln] using hl, by simpa using rel⟩, fun _ _ z => (nomatch z), fun _ => .inl rfl⟩
theorem head_call {P : Program} {w : World} {K : PySem.W.Frag} {mg mb : Str → Option Value} {k : Nat} {fa a : Addr} {fd : FuncData} {x : Str} {sp : Sp} {s : Shared} {vs : List Value} {ns : List Int} (inK : K.In s.heap) (top : s.heap.Ns mainGlobals mg)
    (bu : s.heap.Ns builtinsNs mb) (boot : ∀ x : Str, x ≠ "__name__" → mb x = bootBuiltins x) (lim : s.heap.NoLimit) (noG : s.gens = #[]) (ha : s.heap.get? a = some { cls := .type "list", data := .seq vs.toArray }) (hi : IntsAre vs ns) (hl : ns.length ≤ sizeLine)
    (room : Room k callerA) (seen : s.heap.NoSeer) (F : ∀ base : Heap, K.In base → base.Ns mainGlobals mg → base.NoSeer → FnG P w K mg base k fa fd [x] sp) (bind : ∀ (s : Shared) (u : Value), BindsTo s fd ⟨[u], []⟩ [(x, u)])
    (want : ∀ H : Hp, Only H → SqL K H a (ns.map V.int) → sp [.ref a] H (fun v _ => v = .bl true) E0) :
    codeAny (model P w) callerA (.call (.ref fa) ⟨[.ref a], []⟩) (fun r s' => r = .ok (.ret (.bool true)) ∧ OldK s.heap s'.heap ∧ s'.os = s.os ∧ AllBare s'.gens) s := by
  obtain ⟨H, only, script, hok, free⟩ := script_heap (P := P) (w := w) inK ha hi hl
  have old : ∀ {b : Addr} {o : Obj}, s.heap.get? b = some o → H b = none → (hidT s.heap H).get? b = some o := fun e n => hidT_get e n
  have ns' : ∀ {b : Addr} {m : Str → Option Value}, s.heap.Ns b m → (hidT s.heap H).Ns b m := by
    rintro b m ⟨o, es, ep, e, d, r⟩
    refine ⟨o, es, ep, old e ?_, d, r⟩
    rcases free b with n | ⟨rfl, _⟩
    · exact n
    · rw [ha] at e
      cases e
      cases d
  have inB : K.In (hidT s.heap H) := by
    intro b o e
    refine old (inK b o e) ?_
    rcases free b with n | ⟨rfl, n⟩
    · exact n
    · rw [n] at e
      cases e
  obtain ⟨mc, l1, l2⟩ := lim
  have seen' : (hidT s.heap H).NoSeer := by
    obtain ⟨⟨c, c1, c2⟩, ⟨m, m1, m2⟩, ⟨i, i1, i2⟩, ⟨g, bm, ob, g1, g2, g3, g4, g5⟩⟩ := seen
    refine ⟨⟨c, ns' c1, c2⟩, ⟨m, ns' m1, m2⟩, ⟨i, ns' i1, i2⟩, ⟨g, bm, ob, ns' g1, g2, old g3 ?_, g4, g5⟩⟩
    rcases free bm with n | ⟨rfl, _⟩
    · exact n
    · rw [ha] at g3
      cases g3
      exact absurd g4 fun z => by
        injection z with z
        exact absurd z (by decide)
  have env : Env0 P w K mg (hidT s.heap H) callerA [] s H :=
    ⟨rfl, ⟨inB, ns' top, ⟨mb, ns' bu, boot⟩, ⟨mc, ns' l1, l2⟩⟩, fun _ _ e => of_hidT e, Nat.le_of_eq (hidT_size _ _), trivial, fun _ h => (nomatch h), hok, .of_eq noG⟩
  refine codeAny_mono ((F _ inB (ns' top) seen').go callerA [] s H _ [.ref a] [.ref a] _ _ ⟨room, rfl⟩ env (bind s (.ref a)) (.cons rfl .nil) (want H only script)) ?_
  intro r s2 h2
  match r, h2 with
  | .error _, h2 => exact h2.elim
  | .ok .next, h2 => exact h2.elim
  | .ok .brk, h2 => exact h2.elim
  | .ok .cont, h2 => exact h2.elim
  | .ok (.ret u), h2 =>
    obtain ⟨v, H2, os, bare, un, hok2, rv, q⟩ := h2
    cases (show v = .bl true from q)
    cases (show u = Value.bool true from rv)
    refine ⟨rfl, OldK.of_keep fun b o e => ?_, os, bare⟩
    rcases only b with n | ⟨ob, xs, z⟩
    · exact un.keep b o e n (fun h => (nomatch h)) (fun h => (nomatch h))
    · have e1 := (hok b _ z).1
      rw [e] at e1
      cases e1
      exact (hok2 b _ (un.frzs b _ _ z)).1
end B
namespace B
open PySem PySem.Spec PyProof.Rows L2
def kwNo (K : PySem.W.Frag) (f : Addr) : Bool :=
  match K.lookup f with
  | some o => (match o.data with
    | .func fd => (match fd.kwdefaults with
      | .none => true
      | _ => false)
    | _ => false)
  | none => false
theorem kwNo_ok {K : PySem.W.Frag} {f : Addr} {oc : Value} {od : Option Addr} {fd : FuncData} {osl : Array (Option Value)} (h : kwNo K f = true) (lk : K.lookup f = some ⟨oc, od, .func fd, osl⟩) : fd.kwdefaults = .none := by
  unfold kwNo at h
  rw [lk] at h
  dsimp only at h
  split at h
  · assumption
  · cases h
/-- the object of an own class of errors -/
def errO (K : PySem.W.Frag) (C : Addr) : Bool :=
  match K.lookup C with
  | some o => (match o.cls, o.data, o.slots.toList with
    | .type t, .cls cd, [_, _, _, _, some (.builtin b), _] => (match cd.mro with
      | .ref D :: bm => decide (t = "type") && (decide (b = "ValueError.__new__") && (decide (D = C) && ((cd.hasDel == false) && ((cd.hasDict == true) && PySem.HandSPX.refsVE bm))))
      | _ => false)
    | _, _, _ => false)
  | none => false
theorem errO_ok {K : PySem.W.Frag} {C : Addr} (h : errO K C = true) : ∃ nm q N bs bm sn sub ab col dd k0 k1 k2 k3 k5, K.lookup C = some (excClassObj nm q C N bs bm true sn sub ab col dd k0 k1 k2 k3 k5 "ValueError.__new__") ∧ PySem.HandSPX.refsVE bm = true := by
  unfold errO at h
  split at h
  · rename_i o lk
    obtain ⟨oc, od, dt, sl⟩ := o
    dsimp only at h
    split at h
    · rename_i t cd k0 k1 k2 k3 b k5 hsl
      obtain ⟨nm, bs, mro, ns, qn, hd, sn, sub, ab, col, del⟩ := cd
      dsimp only at h
      split at h
      · rename_i D bm
        simp only [Bool.and_eq_true, decide_eq_true_eq, beq_iff_eq] at h
        obtain ⟨rfl, rfl, rfl, rfl, rfl, hr⟩ := h
        obtain ⟨sll⟩ := sl
        dsimp only at hsl
        subst hsl
        exact ⟨nm, qn, ns, bs, bm, sn, sub, ab, col, od, k0, k1, k2, k3, k5, lk, hr⟩
      · cases h
    · cases h
  · cases h
/-- what is asked of an own class of errors -/
def errB (K : PySem.W.Frag) (x : Str) : Bool :=
  He.eqO (PySem.W.nsIn K mainGlobals x) (some (some (.ref (He.ga K x)))) && (PySem.W.keepIn K (.ref (He.ga K x)) && (decide (PySem.W.subIn K (.ref (He.ga K x)) (.type "BaseException") = some true) && (decide (PySem.W.typeIn K (.ref (He.ga K x)) = some (.type "type")) && (PySem.W.isClsIn K (He.ga K x) &&
  (decide (PySem.W.subIn K (.ref (He.ga K x)) (.ref (He.ga K x)) = some true) && (He.eqO (PySem.W.findIn K (.ref (He.ga K x)) "__getattribute__") (some (some (.builtin "BaseException.__getattribute__"))) && (He.eqO (PySem.W.findIn K (.ref (He.ga K x)) "__getattr__") (some none) && (PySem.W.hasDictIn K (He.ga K x) &&
  (He.eqO (PySem.W.findIn K (.ref (He.ga K x)) "__class__") (some (some (.builtin "object.__class__"))) && (He.eqO (PySem.W.specialIn K (.builtin "object.__class__") "__get__") (some (some (.builtin "getset_descriptor.__get__"))) && (decide (PySem.W.takesIn K (.builtin "object.__class__") = some true) && (decide (PySem.W.mroIn K (He.ga K x) (.type "object") = some true) &&
  (errO K (He.ga K x) && (He.eqO (PySem.W.findIn K (.ref (He.ga K x)) "__setattr__") (some (some (.builtin "object.__setattr__"))) && (He.eqO (PySem.W.findIn K (.ref (He.ga K x)) "named") (some none) && (He.eqO (PySem.W.findIn K (.ref (He.ga K x)) "__init__") (some (some (.ref (He.fAd K (x, some "__init__"))))) &&
  (decide (PySem.W.typeIn K (.ref (He.fAd K (x, some "__init__"))) = some (.type "function")) && kwNo K (He.fAd K (x, some "__init__")))))))))))))))))))
/-- the row of the maker of such a class -/
def errD (x : Str) (qn : Str) (p q1 q2 q3 q4 : Pos) : He.DefD := ⟨(x, some "__init__"), "__init__", qn, eiA p, eiB x q1 q2 q3 q4, eiS, [], []⟩
theorem err_mk {K : PySem.W.Frag} {h : Heap} {mg : Str → Option Value} {x qn : Str} {p q1 q2 q3 q4 : Pos} {fd : FuncData} (X : K.In h) (G : h.Ns mainGlobals mg) (c : errB K x = true)
    (F : FunD K "__init__" qn (eiA p) (eiB x q1 q2 q3 q4) eiS [] [] (He.fAd K (x, some "__init__")) fd) : ∃ T : Xc K mg x, T.C = He.ga K x := by
  unfold errB at c
  simp only [Bool.and_eq_true, decide_eq_true_eq] at c
  obtain ⟨c1, c2, c3, c4, c5, c6, c7, c8, c9, c10, c11, c12, c13, c14, c15, c16, c17, c18, c19⟩ := c
  obtain ⟨oc, od, dV, kV, doc, pm, an, cdv, ct, osl, rfl, lk, hcd, hd, _⟩ := F.ex
  have e1 : dV = .none := by
    rcases hd with ⟨_, e⟩ | ⟨n, _⟩
    · exact e
    · exact absurd rfl n
  have e2 : kV = .none := kwNo_ok c19 lk
  subst e1 e2
  exact ⟨⟨He.ga K x, He.eqO_ok c1, PySem.W.mg_of X G (He.eqO_ok c1), c2, c3, c4, c5, c6, ⟨He.eqO_ok c7, He.eqO_ok c8, c3, c9, He.eqO_ok c10, He.eqO_ok c11, c12, c13⟩, errO_ok c14, He.eqO_ok c15, He.eqO_ok c16, He.fAd K (x, some "__init__"), He.eqO_ok c17, c18, ⟨oc, od, doc, pm, an, cdv, ct, osl, qn, p, q1, q2, q3, q4, lk, hcd⟩⟩, rfl⟩
inductive LtF where
  | err (x : Str)
  | sub (x y : Str) (b : Bool)
  | subT (x : Str) (t : String) (b : Bool)
  | tup (x : Str) (vs : List He.Dv)
  | tab (x : Str) (kvs : List (Str × He.Dv))
def LtF.ok (K : PySem.W.Frag) : LtF → Bool
  | .err x => errB K x
  | .sub x y b => decide (PySem.W.subIn K (.ref (He.ga K x)) (.ref (He.ga K y)) = some b)
  | .subT x t b => decide (PySem.W.subIn K (.ref (He.ga K x)) (.type t) = some b)
  | .tup x vs => He.tupB K x vs
  | .tab x kvs => He.valsB K (He.ga K x) kvs
theorem sub_of {K : PySem.W.Frag} {A C : Addr} {x y : Str} {b : Bool} (e1 : A = He.ga K x) (e2 : C = He.ga K y) (c : (LtF.sub x y b).ok K = true) : PySem.W.subIn K (.ref A) (.ref C) = some b := by
  rw [e1, e2]
  exact of_decide_eq_true c
theorem subT_of {K : PySem.W.Frag} {A : Addr} {x : Str} {t : String} {b : Bool} (e1 : A = He.ga K x) (c : (LtF.subT x t b).ok K = true) : PySem.W.subIn K (.ref A) (.type t) = some b := by
  rw [e1]
  exact of_decide_eq_true c
/-- where to look: the names' objects and what these name; the classes' tables, their methods and what these name -/
def nsOf (g : Addr → Option Obj) (a : Addr) : List Addr :=
  match g a with
  | some o => (match o.data with
    | .cls cd => [cd.ns]
    | _ => [])
  | none => []
def refsAt (g : Addr → Option Obj) (a : Addr) : List Addr :=
  match g a with
  | some o => He.refsD o
  | none => []
def asL (g : Addr → Option Obj) (ns cs : List Str) : List Addr :=
  let K0 := He.frG g [mainGlobals]
  let a1 := ns.map (He.ga K0)
  let c1 := cs.map (He.ga K0)
  let c2 := c1.flatMap (nsOf g)
  let c3 := c2.flatMap (refsAt g)
  mainGlobals :: (c1 ++ (c2 ++ (a1 ++ (c3 ++ (c3.flatMap (refsAt g) ++ a1.flatMap (refsAt g))))))
abbrev AlL : Type := He.AlD × Bool
def obsK (fa : List He.Fa) (fn : List He.DefD) (lf : List LtF) (K : PySem.W.Frag) : AlL := (He.obsD fa fn K, lf.all fun f => f.ok K)
def obsL (ns cs : List Str) (fa : List He.Fa) (fn : List He.DefD) (lf : List LtF) (g : Addr → Option Obj) : AlL := obsK fa fn lf (He.frG g (asL g ns cs))
structure SaysL (fa : List He.Fa) (fn : List He.DefD) (lf : List LtF) (K : PySem.W.Frag) : Prop where
  d : He.SaysD fa fn K
  l : (lf.all fun f => f.ok K) = true
theorem SaysL.fact {fa : List He.Fa} {fn : List He.DefD} {lf : List LtF} {K : PySem.W.Frag} (c : SaysL fa fn lf K) (i : Nat) {f : LtF} (h : lf[i]? = some f := by rfl) : f.ok K = true := List.all_eq_true.mp c.l f (List.mem_of_getElem? h)
def hookL (ns cs : List Str) (fa : List He.Fa) (fn : List He.DefD) (lf : List LtF) : PySem.W.Hook where
  α := AlL
  obs := fun s => obsL ns cs fa fn lf s.heap.get?
  val := fun _ => (He.valD fn, true)
  says := fun _ h => ∃ K : PySem.W.Frag, K.In h ∧ SaysL fa fn lf K
  of := fun _ _ e => ⟨_, He.frG_in, congrArg (fun z : AlL => z.1) e, congrArg (fun z : AlL => z.2) e⟩
  keeps := fun _ _ _ ⟨K, hK, c⟩ k => ⟨K, PySem.W.Frag.In.keeps hK k, c⟩
theorem obsL_eq {ns cs : List Str} {fa : List He.Fa} {fn : List He.DefD} {lf : List LtF} {g : Addr → Option Obj} {s : Shared} (h : ∀ a, g a = s.heap.get? a) : obsL ns cs fa fn lf g = (hookL ns cs fa fn lf).obs s := by
  have e : g = s.heap.get? := funext h
  rw [e] <;> rfl
theorem fun_ofD {K : PySem.W.Frag} {x q : Str} {st : Stmt} {f : Addr} {fd : FuncData} (F : FunD K x q (defArgs st) (defBody st) (defScope st) [] [] f fd) : Fun K x q st f fd := by
  obtain ⟨oc, od, dV, kV, doc, pm, an, cdv, ct, osl, rfl, lk, hcd, hd, _⟩ := F.ex
  have e1 : dV = .none := by
    rcases hd with ⟨_, e⟩ | ⟨n, _⟩
    · exact e
    · exact absurd rfl n
  subst e1
  exact ⟨⟨oc, od, kV, doc, pm, an, cdv, ct, osl, rfl, lk, hcd⟩, F.kp⟩
theorem df_of {K : PySem.W.Frag} {mg : Str → Option Value} {x : Str} {st : Stmt} {ps : List Str} {f : Addr} {fd : FuncData} (F : FunD K x x (defArgs st) (defBody st) (defScope st) [] [] f fd) (g : mg x = some (.ref f))
    (h : ∀ (kV doc pm : Value) (an : Option Addr) (cdv ct : Value) (us : List Value), us.length = ps.length → bindArgs (PySem.W.fnOf x x (defArgs st) (defBody st) (defScope st) .none kV doc pm an cdv ct) ⟨us, []⟩ = pure (ps.zip us)) : ∃ T : Df K mg x st ps, T.f = f ∧ T.fd = fd :=
  ⟨⟨f, fd, fun_ofD F, (fun_ofD F).binds h, g⟩, rfl, rfl⟩
/-- the last step, as walkG, the facts told with their place -/
theorem walkL {l : PySem.W.OpenLaw} {n k : Nat} {q : Program} {loose : List Str} {XP : (Str → Option Value) → Heap → Prop} {YP : World → Heap → Prop} {d : DefRec} {x : Str} (quiet : importsNone q = true) (most : l.most = some n)
    (small : n ≤ sizeLine) (nodef : d.params.defaults = []) (room : Room k callerA)
    (F : ∀ (w : World) (mg : Str → Option Value) (fa : Addr) (h : Heap), YP w h → h.Ns mainGlobals mg → mg d.name = some (.ref fa) → ∃ (K : PySem.W.Frag) (fd : FuncData) (sp : Sp), K.In h ∧ (∀ (s : Shared) (u : Value), BindsTo s fd ⟨[u], []⟩ [(x, u)]) ∧
      (∀ base : Heap, K.In base → base.Ns mainGlobals mg → base.NoSeer → FnG l.prog w K mg base k fa fd [x] sp) ∧
      ∀ (H : Hp) (a : Addr) (ns : List Int), ns.length ≤ n → (∀ z ∈ ns, Builtin.Int.intBits z ≤ 1048576) → Only H → SqL K H a (ns.map V.int) → sp [.ref a] H (fun v _ => v = .bl true) E0) :
    PySem.W.WalkO q loose XP YP l.row.toRowW d [] (fun f vs => PySem.call f vs) := by
  refine Att.attach_callB most nodef ?_
  intro w _ s mg mb fa _ _ _ _ a vs ns G Y _ _ _ at_ obj hin len bits noG
  obtain ⟨K, fd, sp, inK, bd, ok, want⟩ := F w mg fa _ Y G.T.g at_
  exact head_call inK G.T.g G.T.b G.T.builtins G.T.nolimit noG obj hin (Nat.le_trans len small) room (G.T.seer quiet) ok bd fun H o sc => want H a ns len bits o sc
end B
namespace B
open PySem PySem.Spec PyProof.Rows L2
end B
namespace B
open PySem PySem.Spec PyProof.Rows L2
def topS (i : Nat) : Stmt := PySem.Challenge.pw_betstall_k60_joined.main.body.getD i (.Pass ⟨0, 0, 0, 0⟩)
abbrev s_short_enough : Stmt := topS 32
abbrev N_short_enough : List Str := ["words"]
theorem sc_short_enough : FnScope ["words"] ["words"] (defScope s_short_enough) := ⟨rfl, rfl, rfl, by decide +kernel, rfl, by decide +kernel, by decide +kernel⟩
abbrev s_both : Stmt := topS 33
abbrev N_both : List Str := ["one", "other"]
theorem sc_both : FnScope ["one", "other"] ["one", "other"] (defScope s_both) := ⟨rfl, rfl, rfl, by decide +kernel, rfl, by decide +kernel, by decide +kernel⟩
abbrev s_called_off : Stmt := topS 36
abbrev N_called_off : List Str := ["bet", "saying", "terms", "given"]
theorem sc_called_off : FnScope ["bet", "saying", "terms", "given"] ["bet", "saying"] (defScope s_called_off) := ⟨rfl, rfl, rfl, by decide +kernel, rfl, by decide +kernel, by decide +kernel⟩
abbrev s_joined : Stmt := topS 43
abbrev N_joined : List Str := ["house", "bids", "cells", "lists", "cell", "row", "bet", "price", "later"]
theorem sc_joined : FnScope ["house", "bids", "cells", "lists", "cell", "row", "bet", "price", "later"] ["house", "bids", "cells", "lists"] (defScope s_joined) := ⟨rfl, rfl, rfl, by decide +kernel, rfl, by decide +kernel, by decide +kernel⟩
abbrev s_judged : Stmt := topS 61
abbrev N_judged : List Str := ["house", "bids"]
theorem sc_judged : FnScope ["house", "bids"] ["house", "bids"] (defScope s_judged) := ⟨rfl, rfl, rfl, by decide +kernel, rfl, by decide +kernel, by decide +kernel⟩
abbrev s_parted : Stmt := topS 63
abbrev N_parted : List Str := ["stakes", "lists", "told", "start", "row"]
theorem sc_parted : FnScope ["stakes", "lists", "told", "start", "row"] ["stakes", "lists"] (defScope s_parted) := ⟨rfl, rfl, rfl, by decide +kernel, rfl, by decide +kernel, by decide +kernel⟩
abbrev s_judged_days : Stmt := topS 64
abbrev N_judged_days : List Str := ["house", "bids", "cells", "lists", "kind", "told", "many"]
theorem sc_judged_days : FnScope ["house", "bids", "cells", "lists", "kind", "told", "many"] ["house", "bids", "cells", "lists"] (defScope s_judged_days) := ⟨rfl, rfl, rfl, by decide +kernel, rfl, by decide +kernel, by decide +kernel⟩
abbrev s_l_draws : Stmt := topS 66
abbrev N_l_draws : List Str := ["_law_script", "_law_cells_here", "_law_cell"]
theorem sc_l_draws : FnScope ["_law_script", "_law_cells_here", "_law_cell"] ["_law_script"] (defScope s_l_draws) := ⟨rfl, rfl, rfl, by decide +kernel, rfl, by decide +kernel, by decide +kernel⟩
abbrev s_l_next : Stmt := topS 67
abbrev N_l_next : List Str := ["_law_drawn", "_law_many", "_law_cells_here", "_law_count", "_law_rests", "_law_at", "_law_digit", "_law_primes", "_law_mixed", "_law_again"]
theorem sc_l_next : FnScope ["_law_drawn", "_law_many", "_law_cells_here", "_law_count", "_law_rests", "_law_at", "_law_digit", "_law_primes", "_law_mixed", "_law_again"] ["_law_drawn", "_law_many"] (defScope s_l_next) := ⟨rfl, rfl, rfl, by decide +kernel, rfl, by decide +kernel, by decide +kernel⟩
abbrev s_l_lowest : Stmt := topS 68
abbrev N_l_lowest : List Str := ["_law_top", "_law_bottom", "_law_one", "_law_other"]
theorem sc_l_lowest : FnScope ["_law_top", "_law_bottom", "_law_one", "_law_other"] ["_law_top", "_law_bottom"] (defScope s_l_lowest) := ⟨rfl, rfl, rfl, by decide +kernel, rfl, by decide +kernel, by decide +kernel⟩
abbrev s_l_plus : Stmt := topS 69
abbrev N_l_plus : List Str := ["_law_one", "_law_other"]
theorem sc_l_plus : FnScope ["_law_one", "_law_other"] ["_law_one", "_law_other"] (defScope s_l_plus) := ⟨rfl, rfl, rfl, by decide +kernel, rfl, by decide +kernel, by decide +kernel⟩
abbrev s_l_times : Stmt := topS 70
abbrev N_l_times : List Str := ["_law_one", "_law_other"]
theorem sc_l_times : FnScope ["_law_one", "_law_other"] ["_law_one", "_law_other"] (defScope s_l_times) := ⟨rfl, rfl, rfl, by decide +kernel, rfl, by decide +kernel, by decide +kernel⟩
abbrev s_l_fraction : Stmt := topS 71
abbrev N_l_fraction : List Str := ["_law_drawn", "_law_way", "_law_top"]
theorem sc_l_fraction : FnScope ["_law_drawn", "_law_way", "_law_top"] ["_law_drawn"] (defScope s_l_fraction) := ⟨rfl, rfl, rfl, by decide +kernel, rfl, by decide +kernel, by decide +kernel⟩
abbrev s_l_saying : Stmt := topS 72
abbrev N_l_saying : List Str := ["_law_drawn", "_law_letters", "_law_leaves", "_law_rows", "_law_k", "_law_way", "_law_leaf", "_law_at", "_law_word"]
theorem sc_l_saying : FnScope ["_law_drawn", "_law_letters", "_law_leaves", "_law_rows", "_law_k", "_law_way", "_law_leaf", "_law_at", "_law_word"] ["_law_drawn", "_law_letters", "_law_leaves"] (defScope s_l_saying) := ⟨rfl, rfl, rfl, by decide +kernel, rfl, by decide +kernel, by decide +kernel⟩
abbrev s_l_holds : Stmt := topS 73
abbrev N_l_holds : List Str := ["_law_letters", "_law_saying_here", "_law_world", "_law_heap", "_law_word"]
theorem sc_l_holds : FnScope ["_law_letters", "_law_saying_here", "_law_world", "_law_heap", "_law_word"] ["_law_letters", "_law_saying_here", "_law_world"] (defScope s_l_holds) := ⟨rfl, rfl, rfl, by decide +kernel, rfl, by decide +kernel, by decide +kernel⟩
abbrev s_l_worlds : Stmt := topS 74
abbrev N_l_worlds : List Str := ["_law_house", "_law_letters", "_law_rules", "_law_found", "_law_number", "_law_world", "_law_rest", "_law_place", "_law_rule"]
theorem sc_l_worlds : FnScope ["_law_house", "_law_letters", "_law_rules", "_law_found", "_law_number", "_law_world", "_law_rest", "_law_place", "_law_rule"] ["_law_house"] (defScope s_l_worlds) := ⟨rfl, rfl, rfl, by decide +kernel, rfl, by decide +kernel, by decide +kernel⟩
abbrev s_l_paid : Stmt := topS 75
abbrev N_l_paid : List Str := ["_law_letters", "_law_bet_here", "_law_world", "_law_total", "_law_amount", "_law_saying_here"]
theorem sc_l_paid : FnScope ["_law_letters", "_law_bet_here", "_law_world", "_law_total", "_law_amount", "_law_saying_here"] ["_law_letters", "_law_bet_here", "_law_world"] (defScope s_l_paid) := ⟨rfl, rfl, rfl, by decide +kernel, rfl, by decide +kernel, by decide +kernel⟩
abbrev s_l_table : Stmt := topS 76
abbrev N_l_table : List Str := ["_law_house", "_law_bet_here", "_law_world"]
theorem sc_l_table : FnScope ["_law_house", "_law_bet_here", "_law_world"] ["_law_house", "_law_bet_here"] (defScope s_l_table) := ⟨rfl, rfl, rfl, by decide +kernel, rfl, by decide +kernel, by decide +kernel⟩
abbrev s_l_bet : Stmt := topS 77
abbrev N_l_bet : List Str := ["_law_drawn", "_law_letters", "_law_most", "_law_terms", "_law_k", "_law_amount", "_law_given"]
theorem sc_l_bet : FnScope ["_law_drawn", "_law_letters", "_law_most", "_law_terms", "_law_k", "_law_amount", "_law_given"] ["_law_drawn", "_law_letters", "_law_most"] (defScope s_l_bet) := ⟨rfl, rfl, rfl, by decide +kernel, rfl, by decide +kernel, by decide +kernel⟩
abbrev s_l_living : Stmt := topS 78
abbrev N_l_living : List Str := ["_law_drawn", "_law_house", "_law_most", "_law_bet_here", "_law_one"]
theorem sc_l_living : FnScope ["_law_drawn", "_law_house", "_law_most", "_law_bet_here", "_law_one"] ["_law_drawn", "_law_house", "_law_most"] (defScope s_l_living) := ⟨rfl, rfl, rfl, by decide +kernel, rfl, by decide +kernel, by decide +kernel⟩
abbrev s_l_price : Stmt := topS 79
abbrev N_l_price : List Str := ["_law_drawn", "_law_table_here", "_law_one", "_law_some", "_law_other", "_law_way", "_law_middle"]
theorem sc_l_price : FnScope ["_law_drawn", "_law_table_here", "_law_one", "_law_some", "_law_other", "_law_way", "_law_middle"] ["_law_drawn", "_law_table_here"] (defScope s_l_price) := ⟨rfl, rfl, rfl, by decide +kernel, rfl, by decide +kernel, by decide +kernel⟩
abbrev s_l_short : Stmt := topS 80
abbrev N_l_short : List Str := ["_law_drawn", "_law_one"]
theorem sc_l_short : FnScope ["_law_drawn", "_law_one"] ["_law_drawn", "_law_one"] (defScope s_l_short) := ⟨rfl, rfl, rfl, by decide +kernel, rfl, by decide +kernel, by decide +kernel⟩
abbrev s_l_bids : Stmt := topS 81
abbrev N_l_bids : List Str := ["_law_drawn", "_law_house", "_law_many", "_law_most", "_law_found", "_law_k", "_law_bet_here"]
theorem sc_l_bids : FnScope ["_law_drawn", "_law_house", "_law_many", "_law_most", "_law_found", "_law_k", "_law_bet_here"] ["_law_drawn", "_law_house", "_law_many", "_law_most"] (defScope s_l_bids) := ⟨rfl, rfl, rfl, by decide +kernel, rfl, by decide +kernel, by decide +kernel⟩
abbrev s_l_refusal : Stmt := topS 82
abbrev N_l_refusal : List Str := ["_law_e", "_law_found", "_law_words", "_law_word", "_law_mark"]
theorem sc_l_refusal : FnScope ["_law_e", "_law_found", "_law_words", "_law_word", "_law_mark"] ["_law_e"] (defScope s_l_refusal) := ⟨rfl, rfl, rfl, by decide +kernel, rfl, by decide +kernel, by decide +kernel⟩
abbrev s_l_room : Stmt := topS 83
abbrev N_l_room : List Str := ["_law_drawn", "_law_most", "_law_left", "_law_many", "_law_k", "_law_letters", "_law_rules", "_law_rule"]
theorem sc_l_room : FnScope ["_law_drawn", "_law_most", "_law_left", "_law_many", "_law_k", "_law_letters", "_law_rules", "_law_rule"] ["_law_drawn", "_law_most"] (defScope s_l_room) := ⟨rfl, rfl, rfl, by decide +kernel, rfl, by decide +kernel, by decide +kernel⟩
abbrev s_l_cells : Stmt := topS 84
abbrev N_l_cells : List Str := ["_law_drawn", "_law_house", "_law_given", "_law_most", "_law_rest", "_law_cells_here", "_law_k", "_law_saying_here", "_law_found", "_law_cell", "_law_places", "_law_at", "_law_world"]
theorem sc_l_cells : FnScope ["_law_drawn", "_law_house", "_law_given", "_law_most", "_law_rest", "_law_cells_here", "_law_k", "_law_saying_here", "_law_found", "_law_cell", "_law_places", "_law_at", "_law_world"] ["_law_drawn", "_law_house", "_law_given", "_law_most"] (defScope s_l_cells) := ⟨rfl, rfl, rfl, by decide +kernel, rfl, by decide +kernel, by decide +kernel⟩
abbrev s_l_days : Stmt := topS 85
abbrev N_l_days : List Str := ["_law_drawn", "_law_house", "_law_most", "_law_cell", "_law_places", "_law_cells_here"]
theorem sc_l_days : FnScope ["_law_drawn", "_law_house", "_law_most", "_law_cell", "_law_places", "_law_cells_here"] ["_law_drawn", "_law_house", "_law_most"] (defScope s_l_days) := ⟨rfl, rfl, rfl, by decide +kernel, rfl, by decide +kernel, by decide +kernel⟩
abbrev s_l_told : Stmt := topS 86
abbrev N_l_told : List Str := ["_law_house", "_law_bids_here", "_law_cells_here", "_law_lists", "_law_kinds", "_law_e"]
theorem sc_l_told : FnScope ["_law_house", "_law_bids_here", "_law_cells_here", "_law_lists", "_law_kinds", "_law_e"] ["_law_house", "_law_bids_here", "_law_cells_here", "_law_lists"] (defScope s_l_told) := ⟨rfl, rfl, rfl, by decide +kernel, rfl, by decide +kernel, by decide +kernel⟩
abbrev s_l_judged : Stmt := topS 87
abbrev N_l_judged : List Str := ["_law_house", "_law_bids_here", "_law_cells_here", "_law_lists", "_law_kinds", "_law_e"]
theorem sc_l_judged : FnScope ["_law_house", "_law_bids_here", "_law_cells_here", "_law_lists", "_law_kinds", "_law_e"] ["_law_house", "_law_bids_here", "_law_cells_here", "_law_lists"] (defScope s_l_judged) := ⟨rfl, rfl, rfl, by decide +kernel, rfl, by decide +kernel, by decide +kernel⟩
abbrev s_l_longer : Stmt := topS 88
abbrev N_l_longer : List Str := ["_law_drawn", "_law_lists", "_law_cells_here", "_law_at", "_law_terms", "_law_given", "_law_price_here", "_law_many"]
theorem sc_l_longer : FnScope ["_law_drawn", "_law_lists", "_law_cells_here", "_law_at", "_law_terms", "_law_given", "_law_price_here", "_law_many"] ["_law_drawn", "_law_lists", "_law_cells_here"] (defScope s_l_longer) := ⟨rfl, rfl, rfl, by decide +kernel, rfl, by decide +kernel, by decide +kernel⟩
abbrev s_l_due : Stmt := topS 89
abbrev N_l_due : List Str := ["_law_bids_here", "_law_cells_here", "_law_lists", "_law_found", "_law_long", "_law_k", "_law_terms", "_law_given", "_law_price_here"]
theorem sc_l_due : FnScope ["_law_bids_here", "_law_cells_here", "_law_lists", "_law_found", "_law_long", "_law_k", "_law_terms", "_law_given", "_law_price_here"] ["_law_bids_here", "_law_cells_here", "_law_lists"] (defScope s_l_due) := ⟨rfl, rfl, rfl, by decide +kernel, rfl, by decide +kernel, by decide +kernel⟩
abbrev s_law : Stmt := topS 90
abbrev N_law : List Str := ["_law_script", "_law_drawn", "_law_turn", "_law_house", "_law_bids_here", "_law_cells_here", "_law_houses", "_law_one", "_law_lists", "_law_kept", "_law_due_here", "_law_found"]
theorem sc_law : FnScope ["_law_script", "_law_drawn", "_law_turn", "_law_house", "_law_bids_here", "_law_cells_here", "_law_houses", "_law_one", "_law_lists", "_law_kept", "_law_due_here", "_law_found"] ["_law_script"] (defScope s_law) := ⟨rfl, rfl, rfl, by decide +kernel, rfl, by decide +kernel, by decide +kernel⟩
set_option genInjectivity false in
set_option genSizeOf false in
structure Tx (K : PySem.W.Frag) (mg : Str → Option Value) where
  short_enough : Df K mg "short_enough" s_short_enough ["words"]
  both : Df K mg "both" s_both ["one", "other"]
  called_off : Df K mg "called_off" s_called_off ["bet", "saying"]
  joined : Df K mg "joined" s_joined ["house", "bids", "cells", "lists"]
  judged : Df K mg "judged" s_judged ["house", "bids"]
  parted : Df K mg "parted" s_parted ["stakes", "lists"]
  judged_days : Df K mg "judged_days" s_judged_days ["house", "bids", "cells", "lists"]
  l_draws : Df K mg "_law_draws" s_l_draws ["_law_script"]
  l_next : Df K mg "_law_next" s_l_next ["_law_drawn", "_law_many"]
  l_lowest : Df K mg "_law_lowest" s_l_lowest ["_law_top", "_law_bottom"]
  l_plus : Df K mg "_law_plus" s_l_plus ["_law_one", "_law_other"]
  l_times : Df K mg "_law_times" s_l_times ["_law_one", "_law_other"]
  l_fraction : Df K mg "_law_fraction" s_l_fraction ["_law_drawn"]
  l_saying : Df K mg "_law_saying" s_l_saying ["_law_drawn", "_law_letters", "_law_leaves"]
  l_holds : Df K mg "_law_holds" s_l_holds ["_law_letters", "_law_saying_here", "_law_world"]
  l_worlds : Df K mg "_law_worlds" s_l_worlds ["_law_house"]
  l_paid : Df K mg "_law_paid" s_l_paid ["_law_letters", "_law_bet_here", "_law_world"]
  l_table : Df K mg "_law_table" s_l_table ["_law_house", "_law_bet_here"]
  l_bet : Df K mg "_law_bet" s_l_bet ["_law_drawn", "_law_letters", "_law_most"]
  l_living : Df K mg "_law_living" s_l_living ["_law_drawn", "_law_house", "_law_most"]
  l_price : Df K mg "_law_price" s_l_price ["_law_drawn", "_law_table_here"]
  l_short : Df K mg "_law_short" s_l_short ["_law_drawn", "_law_one"]
  l_bids : Df K mg "_law_bids" s_l_bids ["_law_drawn", "_law_house", "_law_many", "_law_most"]
  l_refusal : Df K mg "_law_refusal" s_l_refusal ["_law_e"]
  l_room : Df K mg "_law_room" s_l_room ["_law_drawn", "_law_most"]
  l_cells : Df K mg "_law_cells" s_l_cells ["_law_drawn", "_law_house", "_law_given", "_law_most"]
  l_days : Df K mg "_law_days" s_l_days ["_law_drawn", "_law_house", "_law_most"]
  l_told : Df K mg "_law_told" s_l_told ["_law_house", "_law_bids_here", "_law_cells_here", "_law_lists"]
  l_judged : Df K mg "_law_judged" s_l_judged ["_law_house", "_law_bids_here", "_law_cells_here", "_law_lists"]
  l_longer : Df K mg "_law_longer" s_l_longer ["_law_drawn", "_law_lists", "_law_cells_here"]
  l_due : Df K mg "_law_due" s_l_due ["_law_bids_here", "_law_cells_here", "_law_lists"]
  law : Df K mg "law" s_law ["_law_script"]
  m_ValueError : mg "ValueError" = none
  m_abs : mg "abs" = none
  m_enumerate : mg "enumerate" = none
  m_int : mg "int" = none
  m_isinstance : mg "isinstance" = none
  m_len : mg "len" = none
  m_list : mg "list" = none
  m_max : mg "max" = none
  m_min : mg "min" = none
  m_range : mg "range" = none
  m_repr : mg "repr" = none
  m_sorted : mg "sorted" = none
  m_str : mg "str" = none
  m_tuple : mg "tuple" = none
  m_zip : mg "zip" = none
  t_MOST_WORDS : Tok
  g_MOST_WORDS : mg "MOST_WORDS" = some (.int 40 t_MOST_WORDS)
  t_MOST_BIDS : Tok
  g_MOST_BIDS : mg "MOST_BIDS" = some (.int 12 t_MOST_BIDS)
  x_StallError : Xc K mg "StallError"
  x_TooLong : Xc K mg "TooLong"
  x_TooMany : Xc K mg "TooMany"
  x_NoWorld : Xc K mg "NoWorld"
  x_NotAlike : Xc K mg "NotAlike"
  x_Unfair : Xc K mg "Unfair"
  x_Fair : Xc K mg "Fair"
  x_NoBet : Xc K mg "NoBet"
  x_NoHolder : Xc K mg "NoHolder"
  x_NoStake : Xc K mg "NoStake"
  x_NoTicket : Xc K mg "NoTicket"
  x_NoCover : Xc K mg "NoCover"
  x_NoSaying : Xc K mg "NoSaying"
  x_NoDeed : Xc K mg "NoDeed"
  x_NoStep : Xc K mg "NoStep"
  x_NoText : Xc K mg "NoText"
  i_TooLong_StallError : PySem.W.subIn K (.ref x_TooLong.C) (.ref x_StallError.C) = some true
  i_TooLong_TooLong : PySem.W.subIn K (.ref x_TooLong.C) (.ref x_TooLong.C) = some true
  i_TooLong_TooMany : PySem.W.subIn K (.ref x_TooLong.C) (.ref x_TooMany.C) = some false
  i_TooLong_NoWorld : PySem.W.subIn K (.ref x_TooLong.C) (.ref x_NoWorld.C) = some false
  i_TooLong_NotAlike : PySem.W.subIn K (.ref x_TooLong.C) (.ref x_NotAlike.C) = some false
  i_TooLong_Unfair : PySem.W.subIn K (.ref x_TooLong.C) (.ref x_Unfair.C) = some false
  i_TooLong_Fair : PySem.W.subIn K (.ref x_TooLong.C) (.ref x_Fair.C) = some false
  i_TooLong_NoBet : PySem.W.subIn K (.ref x_TooLong.C) (.ref x_NoBet.C) = some false
  i_TooLong_NoHolder : PySem.W.subIn K (.ref x_TooLong.C) (.ref x_NoHolder.C) = some false
  i_TooLong_NoStake : PySem.W.subIn K (.ref x_TooLong.C) (.ref x_NoStake.C) = some false
  i_TooLong_NoTicket : PySem.W.subIn K (.ref x_TooLong.C) (.ref x_NoTicket.C) = some false
  i_TooLong_NoCover : PySem.W.subIn K (.ref x_TooLong.C) (.ref x_NoCover.C) = some false
  i_TooLong_NoSaying : PySem.W.subIn K (.ref x_TooLong.C) (.ref x_NoSaying.C) = some false
  i_TooLong_NoDeed : PySem.W.subIn K (.ref x_TooLong.C) (.ref x_NoDeed.C) = some false
  i_TooLong_NoStep : PySem.W.subIn K (.ref x_TooLong.C) (.ref x_NoStep.C) = some false
  i_TooLong_NoText : PySem.W.subIn K (.ref x_TooLong.C) (.ref x_NoText.C) = some false
  v_TooLong : PySem.W.subIn K (.ref x_TooLong.C) (.type "ValueError") = some true
  i_TooMany_StallError : PySem.W.subIn K (.ref x_TooMany.C) (.ref x_StallError.C) = some true
  i_TooMany_TooLong : PySem.W.subIn K (.ref x_TooMany.C) (.ref x_TooLong.C) = some false
  i_TooMany_TooMany : PySem.W.subIn K (.ref x_TooMany.C) (.ref x_TooMany.C) = some true
  i_TooMany_NoWorld : PySem.W.subIn K (.ref x_TooMany.C) (.ref x_NoWorld.C) = some false
  i_TooMany_NotAlike : PySem.W.subIn K (.ref x_TooMany.C) (.ref x_NotAlike.C) = some false
  i_TooMany_Unfair : PySem.W.subIn K (.ref x_TooMany.C) (.ref x_Unfair.C) = some false
  i_TooMany_Fair : PySem.W.subIn K (.ref x_TooMany.C) (.ref x_Fair.C) = some false
  i_TooMany_NoBet : PySem.W.subIn K (.ref x_TooMany.C) (.ref x_NoBet.C) = some false
  i_TooMany_NoHolder : PySem.W.subIn K (.ref x_TooMany.C) (.ref x_NoHolder.C) = some false
  i_TooMany_NoStake : PySem.W.subIn K (.ref x_TooMany.C) (.ref x_NoStake.C) = some false
  i_TooMany_NoTicket : PySem.W.subIn K (.ref x_TooMany.C) (.ref x_NoTicket.C) = some false
  i_TooMany_NoCover : PySem.W.subIn K (.ref x_TooMany.C) (.ref x_NoCover.C) = some false
  i_TooMany_NoSaying : PySem.W.subIn K (.ref x_TooMany.C) (.ref x_NoSaying.C) = some false
  i_TooMany_NoDeed : PySem.W.subIn K (.ref x_TooMany.C) (.ref x_NoDeed.C) = some false
  i_TooMany_NoStep : PySem.W.subIn K (.ref x_TooMany.C) (.ref x_NoStep.C) = some false
  i_TooMany_NoText : PySem.W.subIn K (.ref x_TooMany.C) (.ref x_NoText.C) = some false
  v_TooMany : PySem.W.subIn K (.ref x_TooMany.C) (.type "ValueError") = some true
end B
namespace B
open PySem PySem.Spec PyProof.Rows L2
def lt_ns0 : List Str := ["short_enough", "both", "called_off", "joined", "judged", "parted", "judged_days", "_law_draws", "_law_next", "_law_lowest", "_law_plus", "_law_times"]
def lt_ns1 : List Str := ["_law_fraction", "_law_saying", "_law_holds", "_law_worlds", "_law_paid", "_law_table", "_law_bet", "_law_living", "_law_price", "_law_short", "_law_bids", "_law_refusal"]
def lt_ns2 : List Str := ["_law_room", "_law_cells", "_law_days", "_law_told", "_law_judged", "_law_longer", "_law_due", "law"]
def lt_ns : List Str := lt_ns0 ++ lt_ns1 ++ lt_ns2
def lt_cs0 : List Str := ["StallError", "TooLong", "TooMany", "NoWorld", "NotAlike", "Unfair", "Fair", "NoBet", "NoHolder", "NoStake", "NoTicket", "NoCover"]
def lt_cs1 : List Str := ["NoSaying", "NoDeed", "NoStep", "NoText"]
def lt_cs : List Str := lt_cs0 ++ lt_cs1
def lt_fa0 : List He.Fa := [.glo "short_enough", .glo "both", .glo "called_off", .glo "joined", .glo "judged", .glo "parted", .glo "judged_days", .glo "_law_draws", .glo "_law_next", .glo "_law_lowest", .glo "_law_plus", .glo "_law_times"]
def lt_fa1 : List He.Fa := [.glo "_law_fraction", .glo "_law_saying", .glo "_law_holds", .glo "_law_worlds", .glo "_law_paid", .glo "_law_table", .glo "_law_bet", .glo "_law_living", .glo "_law_price", .glo "_law_short", .glo "_law_bids", .glo "_law_refusal"]
def lt_fa2 : List He.Fa := [.glo "_law_room", .glo "_law_cells", .glo "_law_days", .glo "_law_told", .glo "_law_judged", .glo "_law_longer", .glo "_law_due", .glo "law", .free "ValueError", .free "abs", .free "enumerate", .free "int"]
def lt_fa3 : List He.Fa := [.free "isinstance", .free "len", .free "list", .free "max", .free "min", .free "range", .free "repr", .free "sorted", .free "str", .free "tuple", .free "zip", .int "MOST_WORDS" 40]
def lt_fa4 : List He.Fa := [.int "MOST_BIDS" 12]
def lt_fa : List He.Fa := lt_fa0 ++ lt_fa1 ++ lt_fa2 ++ lt_fa3 ++ lt_fa4
def lt_fn0 : List He.DefD := [⟨("short_enough", none), "short_enough", "short_enough", defArgs s_short_enough, defBody s_short_enough, defScope s_short_enough, [], []⟩, ⟨("both", none), "both", "both", defArgs s_both, defBody s_both, defScope s_both, [], []⟩, ⟨("called_off", none), "called_off", "called_off", defArgs s_called_off, defBody s_called_off, defScope s_called_off, [], []⟩, ⟨("joined", none), "joined", "joined", defArgs s_joined, defBody s_joined, defScope s_joined, [], []⟩, ⟨("judged", none), "judged", "judged", defArgs s_judged, defBody s_judged, defScope s_judged, [], []⟩, ⟨("parted", none), "parted", "parted", defArgs s_parted, defBody s_parted, defScope s_parted, [], []⟩, ⟨("judged_days", none), "judged_days", "judged_days", defArgs s_judged_days, defBody s_judged_days, defScope s_judged_days, [], []⟩, ⟨("_law_draws", none), "_law_draws", "_law_draws", defArgs s_l_draws, defBody s_l_draws, defScope s_l_draws, [], []⟩, ⟨("_law_next", none), "_law_next", "_law_next", defArgs s_l_next, defBody s_l_next, defScope s_l_next, [], []⟩, ⟨("_law_lowest", none), "_law_lowest", "_law_lowest", defArgs s_l_lowest, defBody s_l_lowest, defScope s_l_lowest, [], []⟩, ⟨("_law_plus", none), "_law_plus", "_law_plus", defArgs s_l_plus, defBody s_l_plus, defScope s_l_plus, [], []⟩, ⟨("_law_times", none), "_law_times", "_law_times", defArgs s_l_times, defBody s_l_times, defScope s_l_times, [], []⟩]
def lt_fn1 : List He.DefD := [⟨("_law_fraction", none), "_law_fraction", "_law_fraction", defArgs s_l_fraction, defBody s_l_fraction, defScope s_l_fraction, [], []⟩, ⟨("_law_saying", none), "_law_saying", "_law_saying", defArgs s_l_saying, defBody s_l_saying, defScope s_l_saying, [], []⟩, ⟨("_law_holds", none), "_law_holds", "_law_holds", defArgs s_l_holds, defBody s_l_holds, defScope s_l_holds, [], []⟩, ⟨("_law_worlds", none), "_law_worlds", "_law_worlds", defArgs s_l_worlds, defBody s_l_worlds, defScope s_l_worlds, [], []⟩, ⟨("_law_paid", none), "_law_paid", "_law_paid", defArgs s_l_paid, defBody s_l_paid, defScope s_l_paid, [], []⟩, ⟨("_law_table", none), "_law_table", "_law_table", defArgs s_l_table, defBody s_l_table, defScope s_l_table, [], []⟩, ⟨("_law_bet", none), "_law_bet", "_law_bet", defArgs s_l_bet, defBody s_l_bet, defScope s_l_bet, [], []⟩, ⟨("_law_living", none), "_law_living", "_law_living", defArgs s_l_living, defBody s_l_living, defScope s_l_living, [], []⟩, ⟨("_law_price", none), "_law_price", "_law_price", defArgs s_l_price, defBody s_l_price, defScope s_l_price, [], []⟩, ⟨("_law_short", none), "_law_short", "_law_short", defArgs s_l_short, defBody s_l_short, defScope s_l_short, [], []⟩, ⟨("_law_bids", none), "_law_bids", "_law_bids", defArgs s_l_bids, defBody s_l_bids, defScope s_l_bids, [], []⟩, ⟨("_law_refusal", none), "_law_refusal", "_law_refusal", defArgs s_l_refusal, defBody s_l_refusal, defScope s_l_refusal, [], []⟩]
def lt_fn2 : List He.DefD := [⟨("_law_room", none), "_law_room", "_law_room", defArgs s_l_room, defBody s_l_room, defScope s_l_room, [], []⟩, ⟨("_law_cells", none), "_law_cells", "_law_cells", defArgs s_l_cells, defBody s_l_cells, defScope s_l_cells, [], []⟩, ⟨("_law_days", none), "_law_days", "_law_days", defArgs s_l_days, defBody s_l_days, defScope s_l_days, [], []⟩, ⟨("_law_told", none), "_law_told", "_law_told", defArgs s_l_told, defBody s_l_told, defScope s_l_told, [], []⟩, ⟨("_law_judged", none), "_law_judged", "_law_judged", defArgs s_l_judged, defBody s_l_judged, defScope s_l_judged, [], []⟩, ⟨("_law_longer", none), "_law_longer", "_law_longer", defArgs s_l_longer, defBody s_l_longer, defScope s_l_longer, [], []⟩, ⟨("_law_due", none), "_law_due", "_law_due", defArgs s_l_due, defBody s_l_due, defScope s_l_due, [], []⟩, ⟨("law", none), "law", "law", defArgs s_law, defBody s_law, defScope s_law, [], []⟩, errD "StallError" "StallError.__init__" ⟨4, 17, 4, 21⟩ ⟨5, 8, 5, 12⟩ ⟨5, 8, 5, 18⟩ ⟨5, 21, 5, 33⟩ ⟨5, 8, 5, 33⟩, errD "TooLong" "TooLong.__init__" ⟨8, 17, 8, 21⟩ ⟨9, 8, 9, 12⟩ ⟨9, 8, 9, 18⟩ ⟨9, 21, 9, 30⟩ ⟨9, 8, 9, 30⟩, errD "TooMany" "TooMany.__init__" ⟨12, 17, 12, 21⟩ ⟨13, 8, 13, 12⟩ ⟨13, 8, 13, 18⟩ ⟨13, 21, 13, 30⟩ ⟨13, 8, 13, 30⟩, errD "NoWorld" "NoWorld.__init__" ⟨16, 17, 16, 21⟩ ⟨17, 8, 17, 12⟩ ⟨17, 8, 17, 18⟩ ⟨17, 21, 17, 30⟩ ⟨17, 8, 17, 30⟩]
def lt_fn3 : List He.DefD := [errD "NotAlike" "NotAlike.__init__" ⟨20, 17, 20, 21⟩ ⟨21, 8, 21, 12⟩ ⟨21, 8, 21, 18⟩ ⟨21, 21, 21, 31⟩ ⟨21, 8, 21, 31⟩, errD "Unfair" "Unfair.__init__" ⟨24, 17, 24, 21⟩ ⟨25, 8, 25, 12⟩ ⟨25, 8, 25, 18⟩ ⟨25, 21, 25, 29⟩ ⟨25, 8, 25, 29⟩, errD "Fair" "Fair.__init__" ⟨28, 17, 28, 21⟩ ⟨29, 8, 29, 12⟩ ⟨29, 8, 29, 18⟩ ⟨29, 21, 29, 27⟩ ⟨29, 8, 29, 27⟩, errD "NoBet" "NoBet.__init__" ⟨32, 17, 32, 21⟩ ⟨33, 8, 33, 12⟩ ⟨33, 8, 33, 18⟩ ⟨33, 21, 33, 28⟩ ⟨33, 8, 33, 28⟩, errD "NoHolder" "NoHolder.__init__" ⟨36, 17, 36, 21⟩ ⟨37, 8, 37, 12⟩ ⟨37, 8, 37, 18⟩ ⟨37, 21, 37, 31⟩ ⟨37, 8, 37, 31⟩, errD "NoStake" "NoStake.__init__" ⟨40, 17, 40, 21⟩ ⟨41, 8, 41, 12⟩ ⟨41, 8, 41, 18⟩ ⟨41, 21, 41, 30⟩ ⟨41, 8, 41, 30⟩, errD "NoTicket" "NoTicket.__init__" ⟨44, 17, 44, 21⟩ ⟨45, 8, 45, 12⟩ ⟨45, 8, 45, 18⟩ ⟨45, 21, 45, 31⟩ ⟨45, 8, 45, 31⟩, errD "NoCover" "NoCover.__init__" ⟨48, 17, 48, 21⟩ ⟨49, 8, 49, 12⟩ ⟨49, 8, 49, 18⟩ ⟨49, 21, 49, 30⟩ ⟨49, 8, 49, 30⟩, errD "NoSaying" "NoSaying.__init__" ⟨52, 17, 52, 21⟩ ⟨53, 8, 53, 12⟩ ⟨53, 8, 53, 18⟩ ⟨53, 21, 53, 31⟩ ⟨53, 8, 53, 31⟩, errD "NoDeed" "NoDeed.__init__" ⟨56, 17, 56, 21⟩ ⟨57, 8, 57, 12⟩ ⟨57, 8, 57, 18⟩ ⟨57, 21, 57, 29⟩ ⟨57, 8, 57, 29⟩, errD "NoStep" "NoStep.__init__" ⟨60, 17, 60, 21⟩ ⟨61, 8, 61, 12⟩ ⟨61, 8, 61, 18⟩ ⟨61, 21, 61, 29⟩ ⟨61, 8, 61, 29⟩, errD "NoText" "NoText.__init__" ⟨64, 17, 64, 21⟩ ⟨65, 8, 65, 12⟩ ⟨65, 8, 65, 18⟩ ⟨65, 21, 65, 29⟩ ⟨65, 8, 65, 29⟩]
def lt_fn : List He.DefD := lt_fn0 ++ lt_fn1 ++ lt_fn2 ++ lt_fn3
def lt_lf0 : List LtF := [.err "StallError", .err "TooLong", .err "TooMany", .err "NoWorld", .err "NotAlike", .err "Unfair", .err "Fair", .err "NoBet", .err "NoHolder", .err "NoStake", .err "NoTicket", .err "NoCover"]
def lt_lf1 : List LtF := [.err "NoSaying", .err "NoDeed", .err "NoStep", .err "NoText", .sub "TooLong" "StallError" true, .sub "TooLong" "TooLong" true, .sub "TooLong" "TooMany" false, .sub "TooLong" "NoWorld" false, .sub "TooLong" "NotAlike" false, .sub "TooLong" "Unfair" false, .sub "TooLong" "Fair" false, .sub "TooLong" "NoBet" false]
def lt_lf2 : List LtF := [.sub "TooLong" "NoHolder" false, .sub "TooLong" "NoStake" false, .sub "TooLong" "NoTicket" false, .sub "TooLong" "NoCover" false, .sub "TooLong" "NoSaying" false, .sub "TooLong" "NoDeed" false, .sub "TooLong" "NoStep" false, .sub "TooLong" "NoText" false, .subT "TooLong" "ValueError" true, .sub "TooMany" "StallError" true, .sub "TooMany" "TooLong" false, .sub "TooMany" "TooMany" true]
def lt_lf3 : List LtF := [.sub "TooMany" "NoWorld" false, .sub "TooMany" "NotAlike" false, .sub "TooMany" "Unfair" false, .sub "TooMany" "Fair" false, .sub "TooMany" "NoBet" false, .sub "TooMany" "NoHolder" false, .sub "TooMany" "NoStake" false, .sub "TooMany" "NoTicket" false, .sub "TooMany" "NoCover" false, .sub "TooMany" "NoSaying" false, .sub "TooMany" "NoDeed" false, .sub "TooMany" "NoStep" false]
def lt_lf4 : List LtF := [.sub "TooMany" "NoText" false, .subT "TooMany" "ValueError" true]
def lt_lf : List LtF := lt_lf0 ++ lt_lf1 ++ lt_lf2 ++ lt_lf3 ++ lt_lf4
def lt_nm0 : List PySem.Str := ["__name__", "StallError", "TooLong", "TooMany", "NoWorld", "NotAlike", "Unfair", "Fair", "NoBet", "NoHolder", "NoStake", "NoTicket"]
def lt_nm1 : List PySem.Str := ["NoCover", "NoSaying", "NoDeed", "NoStep", "NoText", "ZERO", "ONE", "common", "lowest", "plus", "times", "turned_about"]
def lt_nm2 : List PySem.Str := ["minus", "MOST_WORDS", "JOINING", "laid", "joint", "holds", "short_enough", "both", "pays", "called_off", "worlds_over", "keeps"]
def lt_nm3 : List PySem.Str := ["worlds_of", "MOST_BIDS", "joined", "Board", "most_of", "weighing_of", "stakes_of", "borne_or_losing", "freed", "table_at", "whole", "lowered"]
def lt_nm4 : List PySem.Str := ["Gains", "judged_part", "judged_gains", "judged", "parted", "judged_days", "_law_draws", "_law_next", "_law_lowest", "_law_plus", "_law_times", "_law_fraction"]
def lt_nm5 : List PySem.Str := ["_law_saying", "_law_holds", "_law_worlds", "_law_paid", "_law_table", "_law_bet", "_law_living", "_law_price", "_law_short", "_law_bids", "_law_refusal", "_law_room"]
def lt_nm6 : List PySem.Str := ["_law_cells", "_law_days", "_law_told", "_law_judged", "_law_longer", "_law_due"]
def lt_nm : List PySem.Str := lt_nm0 ++ lt_nm1 ++ lt_nm2 ++ lt_nm3 ++ lt_nm4 ++ lt_nm5 ++ lt_nm6
abbrev lt_R : PySem.W.OpenRow := PySem.W.OpenLaw.row PySem.Challenge.rw_betstall_k60_joined
abbrev lt_hk : PySem.W.Hook := hookL lt_ns lt_cs lt_fa lt_fn lt_lf
def lt_ob (s : PySem.W.SharedT) : AlL := obsL lt_ns lt_cs lt_fa lt_fn lt_lf (HandSHeadRun.getT s)
theorem lt_ob_eq (s : PySem.W.SharedT) : lt_ob s = lt_hk.obs s.abs := obsL_eq (HandSHeadRun.getT_eq s)
set_option maxRecDepth 100000 in
set_option maxHeartbeats 0 in
theorem lt_run (w : World) : HandSHeadRun.RunEq lt_R (PySem.W.view lt_R.prog [90]) lt_hk lt_ob 200000 lt_nm w := by
  intro os
  kernel_rfl
end B
namespace B
open PySem PySem.Spec PyProof.Rows L2
/-- what lowest divides by -/
def lowN (t b : Int) : Int := if b < 0 then -((Nat.gcd t.natAbs b.natAbs : Nat) : Int) else ((Nat.gcd t.natAbs b.natAbs : Nat) : Int)
def lowT (t b : Int) : Int := t.fdiv (lowN t b)
def lowB (t b : Int) : Int := b.fdiv (lowN t b)
theorem lowN_abs (t b : Int) : (lowN t b).natAbs = Nat.gcd t.natAbs b.natAbs := by
  unfold lowN
  split <;> omega
theorem lowN_dvd_t (t b : Int) : lowN t b ∣ t := by
  rw [← Int.natAbs_dvd_natAbs, lowN_abs]
  exact Nat.gcd_dvd_left _ _
theorem lowN_dvd_b (t b : Int) : lowN t b ∣ b := by
  rw [← Int.natAbs_dvd_natAbs, lowN_abs]
  exact Nat.gcd_dvd_right _ _
theorem low_t (t b : Int) : lowN t b * lowT t b = t := by
  unfold lowT
  rw [Int.fdiv_eq_ediv_of_dvd (lowN_dvd_t t b)]
  exact Int.mul_ediv_cancel' (lowN_dvd_t t b)
theorem low_b (t b : Int) : lowN t b * lowB t b = b := by
  unfold lowB
  rw [Int.fdiv_eq_ediv_of_dvd (lowN_dvd_b t b)]
  exact Int.mul_ediv_cancel' (lowN_dvd_b t b)
theorem lowN_pos {t b : Int} (h : b ≠ 0) : 0 < Nat.gcd t.natAbs b.natAbs := Nat.gcd_pos_of_pos_right _ (by omega)
theorem lowB_pos {t b : Int} (h : b ≠ 0) : 1 ≤ lowB t b := by
  have e := low_b t b
  have g := lowN_pos (t := t) h
  rcases Int.lt_or_le (lowB t b) 1 with z | z
  · exfalso
    by_cases hb : b < 0
    · have n : lowN t b ≤ 0 := by unfold lowN; rw [if_pos hb]; omega
      have := Int.mul_nonneg_of_nonpos_of_nonpos n (show lowB t b ≤ 0 by omega)
      omega
    · have n : 0 ≤ lowN t b := by unfold lowN; rw [if_neg hb]; omega
      have := Int.mul_nonpos_of_nonneg_of_nonpos n (show lowB t b ≤ 0 by omega)
      omega
  · exact z
theorem low_cop {t b : Int} (h : b ≠ 0) : Nat.gcd (lowT t b).natAbs (lowB t b).natAbs = 1 := by
  have g := lowN_pos (t := t) h
  have e1 : t.natAbs = Nat.gcd t.natAbs b.natAbs * (lowT t b).natAbs := by
    rw [← lowN_abs, ← Int.natAbs_mul, low_t]
  have e2 : b.natAbs = Nat.gcd t.natAbs b.natAbs * (lowB t b).natAbs := by
    rw [← lowN_abs, ← Int.natAbs_mul, low_b]
  have e3 : Nat.gcd t.natAbs b.natAbs = Nat.gcd t.natAbs b.natAbs * Nat.gcd (lowT t b).natAbs (lowB t b).natAbs := by
    rw [← Nat.gcd_mul_left, ← e1, ← e2]
  exact (Nat.eq_of_mul_eq_mul_left g (by rw [Nat.mul_one]; exact e3)).symm
theorem lowT_abs {t b : Int} (h : b ≠ 0) : (lowT t b).natAbs ≤ t.natAbs := by
  have e := low_t t b
  have g := lowN_pos (t := t) h
  rw [← lowN_abs] at g
  have : t.natAbs = (lowN t b).natAbs * (lowT t b).natAbs := by rw [← Int.natAbs_mul, e]
  rw [this]
  exact Nat.le_mul_of_pos_left _ g
theorem lowB_abs {t b : Int} (h : b ≠ 0) : (lowB t b).natAbs ≤ b.natAbs := by
  have e := low_b t b
  have g := lowN_pos (t := t) h
  rw [← lowN_abs] at g
  have : b.natAbs = (lowN t b).natAbs * (lowB t b).natAbs := by rw [← Int.natAbs_mul, e]
  rw [this]
  exact Nat.le_mul_of_pos_left _ g
end B
namespace B
open PySem PySem.Spec PyProof.Rows L2
/-- a fraction: top, bottom -/
structure IsF (t : Int) (b : Nat) : Prop where
  pos : 0 < b
  cop : Nat.Coprime t.natAbs b
/-- the bottom as a number -/
def lowBn (t : Int) (b : Nat) : Nat := (lowB t b).natAbs
theorem lowBn_eq {t : Int} {b : Nat} (hb : 0 < b) : lowB t b = (lowBn t b : Int) := by
  have := lowB_pos (t := t) (b := (b : Int)) (by omega)
  unfold lowBn
  omega
theorem low_isF {t : Int} {b : Nat} (hb : 0 < b) : IsF (lowT t b) (lowBn t b) := by
  have h := lowB_pos (t := t) (b := (b : Int)) (by omega)
  refine ⟨by unfold lowBn; omega, ?_⟩
  exact low_cop (t := t) (b := (b : Int)) (by omega)
/-- what lowest divides by, the bottom above 0 -/
theorem lowN_nat (t : Int) (b : Nat) : lowN t b = ((Nat.gcd t.natAbs b : Nat) : Int) := by
  unfold lowN
  rw [if_neg (by omega), Int.natAbs_natCast]
theorem lowT_nat {t : Int} {b : Nat} : lowT t b = t / ((Nat.gcd t.natAbs b : Nat) : Int) := by
  unfold lowT
  rw [lowN_nat, Int.fdiv_eq_ediv_of_nonneg _ (by omega)]
theorem lowB_nat {t : Int} {b : Nat} : lowB t b = (b : Int) / ((Nat.gcd t.natAbs b : Nat) : Int) := by
  unfold lowB
  rw [lowN_nat, Int.fdiv_eq_ediv_of_nonneg _ (by omega)]
def addX (t1 : Int) (b1 : Nat) (t2 : Int) (b2 : Nat) : Int := t1 * b2 + t2 * b1
def addT (t1 : Int) (b1 : Nat) (t2 : Int) (b2 : Nat) : Int := lowT (addX t1 b1 t2 b2) (b1 * b2 : Nat)
def addB (t1 : Int) (b1 : Nat) (t2 : Int) (b2 : Nat) : Nat := lowBn (addX t1 b1 t2 b2) (b1 * b2)
def mulT (t1 : Int) (b1 : Nat) (t2 : Int) (b2 : Nat) : Int := lowT (t1 * t2) (b1 * b2 : Nat)
def mulB (t1 : Int) (b1 : Nat) (t2 : Int) (b2 : Nat) : Nat := lowBn (t1 * t2) (b1 * b2)
/-- how great -/
structure Fz (t : Int) (b n : Nat) : Prop where
  t : t.natAbs < 2 ^ n
  b : b < 2 ^ n
theorem Fz.more {t : Int} {b n m : Nat} (h : Fz t b n) (e : n ≤ m) : Fz t b m := ⟨Nat.lt_of_lt_of_le h.t (Nat.pow_le_pow_right (by decide) e), Nat.lt_of_lt_of_le h.b (Nat.pow_le_pow_right (by decide) e)⟩
theorem low_z {t : Int} {b n : Nat} (hb : 0 < b) (ht : t.natAbs < 2 ^ n) (hz : b < 2 ^ n) : Fz (lowT t b) (lowBn t b) n := by
  refine ⟨Nat.lt_of_le_of_lt (lowT_abs (by omega)) ht, ?_⟩
  have := lowB_abs (t := t) (b := (b : Int)) (by omega)
  rw [Int.natAbs_natCast] at this
  exact Nat.lt_of_le_of_lt this hz
theorem addX_z {t1 t2 : Int} {b1 b2 n m : Nat} (h1 : Fz t1 b1 n) (h2 : Fz t2 b2 m) : (addX t1 b1 t2 b2).natAbs < 2 ^ (n + m + 1) := by
  unfold addX
  have a : (t1 * (b2 : Int)).natAbs < 2 ^ (n + m) := by rw [Int.natAbs_mul, Int.natAbs_natCast, Nat.pow_add]; exact Nat.mul_lt_mul'' h1.t h2.b
  have c : (t2 * (b1 : Int)).natAbs < 2 ^ (n + m) := by rw [Int.natAbs_mul, Int.natAbs_natCast, Nat.pow_add, Nat.mul_comm]; exact Nat.mul_lt_mul'' h1.b h2.t
  rw [Nat.pow_succ]
  omega
theorem mulB_z {b1 b2 n m : Nat} {t1 t2 : Int} (h1 : Fz t1 b1 n) (h2 : Fz t2 b2 m) : b1 * b2 < 2 ^ (n + m) := by
  rw [Nat.pow_add]
  exact Nat.mul_lt_mul'' h1.b h2.b
theorem add_z {t1 t2 : Int} {b1 b2 n m : Nat} (p1 : 0 < b1) (p2 : 0 < b2) (h1 : Fz t1 b1 n) (h2 : Fz t2 b2 m) : Fz (addT t1 b1 t2 b2) (addB t1 b1 t2 b2) (n + m + 1) :=
  low_z (Nat.mul_pos p1 p2) (addX_z h1 h2) (Nat.lt_of_lt_of_le (mulB_z h1 h2) (Nat.pow_le_pow_right (by decide) (by omega)))
theorem mul_z {t1 t2 : Int} {b1 b2 n m : Nat} (p1 : 0 < b1) (p2 : 0 < b2) (h1 : Fz t1 b1 n) (h2 : Fz t2 b2 m) : Fz (mulT t1 b1 t2 b2) (mulB t1 b1 t2 b2) (n + m) :=
  low_z (Nat.mul_pos p1 p2) (by rw [Int.natAbs_mul, Nat.pow_add]; exact Nat.mul_lt_mul'' h1.t h2.t) (mulB_z h1 h2)
theorem add_isF {t1 t2 : Int} {b1 b2 : Nat} (p1 : 0 < b1) (p2 : 0 < b2) : IsF (addT t1 b1 t2 b2) (addB t1 b1 t2 b2) := low_isF (Nat.mul_pos p1 p2)
theorem mul_isF {t1 t2 : Int} {b1 b2 : Nat} (p1 : 0 < b1) (p2 : 0 < b2) : IsF (mulT t1 b1 t2 b2) (mulB t1 b1 t2 b2) := low_isF (Nat.mul_pos p1 p2)
end B
namespace B
open PySem PySem.Spec PyProof.Rows L2
/-- the text of these signs, the text of one sign -/
def tx (cs : List Nat) : Str := ⟨cs.toArray⟩
def sg (c : Nat) : Str := ⟨#[c]⟩
theorem tx_len (cs : List Nat) : (tx cs).length = cs.length := rfl
theorem tx_inj {a b : List Nat} (h : tx a = tx b) : a = b := by
  have := congrArg (fun z : Str => z.cps.toList) h
  exact this
section
open PySem.Builtin PySem.Builtin.Str PySem.StrLaws
theorem occ_done (s sub : Str) (hi : Nat) : ∀ (m cur : Nat) (st : Array Nat × Nat), st.1.size = 1 → (forIn (List.range' cur m) st (occBody s sub hi 1)).run.1 = st.1
  | 0, _, _, _ => rfl
  | m + 1, cur, st, h => by
    rw [List.range'_succ, List.forIn_cons]
    unfold occBody
    split
    · rename_i hc
      exact absurd hc.1.1.1 (by omega)
    · exact occ_done s sub hi m (cur + 1) st h
def occR (s sub : Str) (hi f cur m : Nat) : List Nat := (forIn (List.range' cur m) ((#[] : Array Nat), f) (occBody s sub hi 1)).run.1.toList
theorem occR_hit {s sub : Str} {hi f cur m : Nat} (hf : f ≤ cur) (hA : At s sub hi cur) : occR s sub hi f cur (m + 1) = [cur] := by
  unfold occR
  rw [List.range'_succ, List.forIn_cons]
  unfold occBody
  rw [if_pos ⟨⟨⟨by show (0 : Nat) < 1; decide, hf⟩, hA.1⟩, hA.2⟩]
  show (forIn (List.range' (cur + 1) m) ((#[] : Array Nat).push cur, cur + sub.length) (occBody s sub hi 1)).run.1.toList = [cur]
  rw [occ_done s sub hi m (cur + 1) _ rfl]
  rfl
theorem occR_miss {s sub : Str} {hi f cur m : Nat} (hA : ¬ At s sub hi cur) : occR s sub hi f cur (m + 1) = occR s sub hi f (cur + 1) m := by
  unfold occR
  rw [List.range'_succ, List.forIn_cons]
  unfold occBody
  rw [if_neg (fun hc => hA ⟨hc.1.2, hc.2⟩)]
  rfl
theorem occ_run1 (s sub : Str) (hi f : Nat) : ∀ (m cur : Nat), f ≤ cur → (∃ i, cur ≤ i ∧ i < cur + m ∧ At s sub hi i ∧ (∀ k, cur ≤ k → k < i → ¬ At s sub hi k) ∧ occR s sub hi f cur m = [i]) ∨
    ((∀ k, cur ≤ k → k < cur + m → ¬ At s sub hi k) ∧ occR s sub hi f cur m = [])
  | 0, cur, _ => .inr ⟨fun k h1 h2 => by omega, rfl⟩
  | m + 1, cur, hf => by
    by_cases hA : At s sub hi cur
    · exact .inl ⟨cur, Nat.le_refl _, by omega, hA, fun k h1 h2 => by omega, occR_hit hf hA⟩
    · rw [occR_miss hA]
      rcases occ_run1 s sub hi f m (cur + 1) (by omega) with ⟨i, h1, h2, h3, h4, h5⟩ | ⟨h1, h2⟩
      · refine .inl ⟨i, by omega, by omega, h3, fun k k1 k2 => ?_, h5⟩
        by_cases hk : k = cur
        · subst hk
          exact hA
        · exact h4 k (by omega) k2
      · refine .inr ⟨fun k k1 k2 => ?_, h2⟩
        by_cases hk : k = cur
        · subst hk
          exact hA
        · exact h1 k (by omega) (by omega)
theorem at_sign (cs : List Nat) (c i : Nat) : At (tx cs) (sg c) (tx cs).length i ↔ cs[i]? = some c := subAt_one (tx cs) c i
/-- where a sign first stands -/
theorem occ_sign {cs : List Nat} {c : Nat} (h : c ∈ cs) : ∃ i : Nat, occurrences (tx cs) (sg c) 0 (tx cs).length 1 = [i] ∧ cs[i]? = some c ∧ ∀ k, k < i → cs[k]? ≠ some c := by
  rw [occ_eq]
  rcases occ_run1 (tx cs) (sg c) (tx cs).length 0 ((tx cs).length + 1 - 0) 0 (Nat.le_refl _) with ⟨i, _, _, h3, h4, h5⟩ | ⟨h1, _⟩
  · exact ⟨i, h5, (at_sign cs c i).mp h3, fun k hk e => h4 k (by omega) hk ((at_sign cs c k).mpr e)⟩
  · exfalso
    obtain ⟨j, hj⟩ := List.getElem?_of_mem h
    have hlt := (List.getElem?_eq_some_iff.mp hj).1
    exact h1 j (by omega) (by rw [tx_len]; omega) ((at_sign cs c j).mpr hj)
theorem find_sign {cs : List Nat} {c : Nat} (h : c ∈ cs) : ∃ i : Nat, Txt.find (tx cs) (sg c) = (i : Int) ∧ occurrences (tx cs) (sg c) 0 (tx cs).length 1 = [i] ∧ cs[i]? = some c ∧ (∀ k, k < i → cs[k]? ≠ some c) := by
  obtain ⟨i, h1, h2, h3⟩ := occ_sign h
  refine ⟨i, ?_, h1, h2, h3⟩
  unfold Txt.find
  rw [h1]
end
theorem vals_get : ∀ {xs : List V} {us : List Value}, xs.length = us.length → (∀ (j : Nat) (v : V) (u : Value), xs[j]? = some v → us[j]? = some u → RelV v u) → Vals xs us
  | [], [], _, _ => .nil
  | x :: xs, u :: us, hl, h => .cons (h 0 x u rfl rfl) (vals_get (by simpa using hl) fun j v w a b => h (j + 1) v w a b)
section
variable {X : Cx}
/-- list(text) -/
theorem cr_listS (hc : X.calm = true) : CallR X (.type "list") (fun xs H Q => ∃ z : Str, xs = [.str z] ∧ z.cps.size ≤ sizeLine ∧ ∀ p, H p = none → Q (.ref p) (upd H p (.lst (z.cps.toList.map fun c => V.str (sg c))))) := by
  intro pins s σ H xs us Q I r h
  obtain ⟨z, rfl, hz, q⟩ := h
  obtain ⟨u, rfl, ru⟩ : ∃ u, us = [u] ∧ RelV (.str z) u := by
    cases r with
    | cons a b => cases b; exact ⟨_, rfl, a⟩
  obtain ⟨t, rfl⟩ := ru
  refine PySem.call_list_str (I.ok.hd hc) z t (hn := hz) fun h' tk acc c hk hS hacc => ?_
  refine ⟨.ref _, upd H s.heap.objs.size (.lst (z.cps.toList.map fun c => V.str (sg c))), I.laid (t' := tk) hk (Nat.le_refl _) ⟨?_, acc.toList, c, ?_, ?_⟩, rfl, q _ (I.hok.fresh (Nat.le_refl _))⟩
  · rw [List.length_map, Array.length_toList]
    exact hz
  · refine vals_get ?_ fun j v u a b => ?_
    · rw [List.length_map, Array.length_toList, Array.length_toList]
      exact hacc.1.symm
    · obtain ⟨d, k, hd, rfl⟩ := hacc.2 j u (by simpa using b)
      rw [List.getElem?_map, Array.getElem?_toList, hd] at a
      have e : V.str (sg d) = v := Option.some.inj a
      rw [← e]
      exact ⟨k, rfl⟩
  · simpa using hS
/-- max(a tuple of ints) -/
theorem cr_maxT (hc : X.calm = true) : CallR X (.builtin "max") (fun vs H Q => ∃ (a : Addr) (ns : List Int), vs = [V.ref a] ∧ SqT X.K H a (ns.map V.int) ∧ 0 < ns.length ∧ ∀ m, m ∈ ns → (∀ y, y ∈ ns → y ≤ m) → Q (.int m) H) := by
  intro pins s σ H vs us Q I r h
  obtain ⟨a, ns, rfl, hs, hne, q⟩ := h
  obtain ⟨its, rv, hT, _⟩ := I.tuple hs
  rw [Vals.ref1 r]
  have hi := rv.ints
  obtain ⟨xs, e⟩ := hi.allInts.items
  have hn : numsOf (intItems xs).toList = ns := by rw [← e]; exact hi.numsOf
  rw [nums_intItems] at hn
  subst hn
  rw [e] at hT
  have hsz : 0 < xs.size := by simpa using hne
  have hlt : a < s.heap.objs.size := by obtain ⟨_, z, _⟩ := hT; exact Heap.lt_size z
  refine PySem.call_max_walk (PyProof.Rows.iter_tuple hT ?_)
  refine ⟨_, _, _, _, _, _, _, rfl, Walks.tuple (A := X.A.in1) (I.ok.hd hc) s.heap.objs.size a (Nat.ne_of_lt hlt) (intItems xs), ⟨⟨_, Heap.get?_push_size _ rfl, rfl, rfl⟩, ?_⟩, ?_, by simpa [intItems] using hsz, CmpOf.ints_gt (numAt xs) (fun _ _ => intItems_at), fun v h' tk hP hk => ?_⟩
  · obtain ⟨o, z, z2⟩ := hT
    exact ⟨o, Heap.get?_push_of_some _ z, z2⟩
  · intro b hb
    show b < (s.heap.push _).objs.size
    rw [Heap.size_push]
    rcases List.mem_cons.mp hb with rfl | hb
    · exact Nat.lt_succ_self _
    · rcases List.mem_cons.mp hb with rfl | hb
      · exact Nat.lt_succ_of_lt hlt
      · cases hb
  · obtain ⟨t, rfl⟩ := intItems_at (by simpa [intItems] using hP)
    obtain ⟨h1, h2⟩ := argBest_gt (numAt xs) (xs.size - 1)
    simp only [gt_iff_lt] at h1 h2
    have kp : ∀ b o, s.heap.get? b = some o → h'.get? b = some o := fun b o z => by
      refine hk b o (fun hm => ?_) (Heap.get?_push_of_some _ z)
      rcases List.mem_cons.mp hm with e1 | hm
      · exact absurd (e1 ▸ Heap.lt_size z) (Nat.lt_irrefl _)
      · cases hm
    refine ⟨.int _, H, I.kept kp, ⟨_, rfl⟩, q _ ?_ fun y hy => ?_⟩
    · rw [numAt_eq]
      exact PySem.getD_mem (by rw [List.length_map, Array.length_toList]; omega)
    · obtain ⟨j, hj, rfl⟩ := mem_getD hy
      rw [List.length_map, Array.length_toList] at hj
      rw [← numAt_eq]
      exact h2 j (by omega)
end
end B
namespace B
open PySem PySem.Spec PyProof.Rows L2
theorem OpR.weak {X : Cx} {f : Value → Value → Sem Value} {r r' : R2} (o : OpR X f r) (h : ∀ x y H Q, r' x y H Q → r x y H Q) : OpR X f r' := fun pins s σ H x y v u Q I rx ry q => o pins s σ H x y v u Q I rx ry (h x y H Q q)
theorem SlR.weak {X : Cx} {r r' : V → Option Int → Option Int → Hp → VK → Prop} (o : SlR X r) (h : ∀ x lo hi H Q, r' x lo hi H Q → r x lo hi H Q) : SlR X r' := by
  intro pins s σ H x v vl vu lo hi sl Q I rx hs pl pu q
  exact o pins s σ H x v vl vu lo hi sl Q I rx hs pl pu (h x lo hi H Q q)
def rCatS (K : PySem.W.Frag) : R2 := fun x y H Q => ∃ a b xs ys, x = .ref a ∧ y = .ref b ∧ SqT K H a xs ∧ SqT K H b ys ∧ xs.length + ys.length ≤ 100000 ∧ ∀ p H', SqT K H' p (xs ++ ys) → Same H H' → Q (.ref p) H'
theorem op_catS {X : Cx} : OpR X (binaryOp .Add) (rCatS X.K) := OpR.weak op_catA fun x y H Q h => by
  obtain ⟨a, b, xs, ys, rfl, rfl, ha, hb, hl, q⟩ := h
  refine ⟨a, b, xs, ys, rfl, rfl, ha, hb, Nat.le_trans hl (by decide), fun e => ?_, fun _ e => ?_, fun _ _ p np => ?_⟩
  · subst e
    exact q b H hb (Same.refl H)
  · subst e
    exact q a H (by rw [List.append_nil]; exact ha) (Same.refl H)
  · exact q p _ sqt_upd (same_upd np)
def rSlS (K : PySem.W.Frag) : V → Option Int → Option Int → Hp → VK → Prop := fun x lo hi H Q => ∃ a xs, x = .ref a ∧ SqT K H a xs ∧ ∀ p H', SqT K H' p (cutV xs lo hi) → Same H H' → Q (.ref p) H'
theorem cutV_whole {xs : List V} {lo hi : Option Int} (h : HT.sIx xs.length 0 lo = 0 ∧ HT.sIx xs.length xs.length hi = xs.length) : cutV xs lo hi = xs := by
  unfold cutV
  rw [h.1, h.2, List.drop_zero, Nat.sub_zero, List.take_length]
theorem sl_tupS {X : Cx} : SlR X (rSlS X.K) := SlR.weak sl_tupA fun x lo hi H Q h => by
  obtain ⟨a, xs, rfl, ha, q⟩ := h
  refine ⟨a, xs, rfl, ha, fun e => ?_, fun _ p np => ?_⟩
  · exact q a H (by rw [cutV_whole e]; exact ha) (Same.refl H)
  · exact q p _ sqt_upd (same_upd np)
theorem tuple_mul1 (l : Addr) (items : Array Value) (n : Nat) (dd : Option Addr) (sl : Array (Option Value)) (u : Tok) :
    Meets (Builtin.«tuple.__mul__» ⟨[.ref l, .int 1 u], []⟩) (fun _ R s => s.heap.get? l = some { cls := .type "tuple", dict := dd, data := .seq items n, slots := sl } ∧ R (.ok (.ret (Value.ref l))) s) :=
  .of_wp fun prog w A R s h => by
    obtain ⟨hp, g, d, tk, os⟩ := s
    obtain ⟨hl, h⟩ := h
    have f1 := AutoSeq1.idx_int
    wp_walk using wpAny_loadPart' hl
    exact ⟨_, rfl, h⟩
theorem tuple_mul0 (l : Addr) (items : Array Value) (n : Nat) (dd : Option Addr) (sl : Array (Option Value)) (x : Int) (u : Tok) (c0 : (decide (x < -(2 ^ 63)) || decide (x ≥ 2 ^ 63)) = false) (c1 : (items.isEmpty || x == 1) = false) (c2 : (decide (x ≤ 0) || items.isEmpty) = true) :
    Meets (Builtin.«tuple.__mul__» ⟨[.ref l, .int x u], []⟩) (fun _ R s => s.heap.get? l = some { cls := .type "tuple", dict := dd, data := .seq items n, slots := sl } ∧
      R (.ok (.ret (Value.ref s.heap.objs.size))) { s with heap := s.heap.push { cls := Value.type "tuple", data := Data.seq #[] }, toks := s.toks }) :=
  .of_wp fun prog w A R s h => by
    obtain ⟨hp, g, d, tk, os⟩ := s
    obtain ⟨hl, h⟩ := h
    have f1 := AutoSeq1.idx_int
    wp_walk using wpAny_loadPart' hl
    repeat (first
      | (refine wpAny_ite_false (decide_eq_false (by rw [c0]; decide)) ?_; wp_walk using wpAny_loadPart' hl)
      | (refine wpAny_ite_false (decide_eq_false (by rw [c1]; decide)) ?_; wp_walk using wpAny_loadPart' hl)
      | (refine wpAny_ite_true (decide_eq_true c2) ?_; wp_walk using wpAny_loadPart' hl))
    exact ⟨_, rfl, h⟩
/-- a tuple so often, also once or not at all -/
def rRepN (K : PySem.W.Frag) : R2 := fun x y H Q => ∃ l k xs, x = .ref l ∧ y = .int k ∧ SqT K H l xs ∧ xs ≠ [] ∧ -1000 ≤ k ∧ k ≤ 1000 ∧ xs.length ≤ 1000 ∧ ∀ p H', SqT K H' p (List.replicate k.toNat xs).flatten → Same H H' → Q (.ref p) H'
theorem op_repN {X : Cx} : OpR X (binaryOp .Mult) (rRepN X.K) := by
  intro pins s σ H x y v u Q I rx ry h
  obtain ⟨l, k, xs, rfl, rfl, hT, hne, h0, h1, hz, q⟩ := h
  by_cases hk : 2 ≤ k
  · exact op_repT pins s σ H _ _ v u Q I rx ry ⟨l, k, xs, rfl, rfl, hT, hne, hk, h1, hz, fun p np => q p _ sqt_upd (same_upd np)⟩
  cases rx
  obtain ⟨t, rfl⟩ := ry
  obtain ⟨its, r, ⟨⟨cls, dd, data, sl⟩, ho, hc, n, hd⟩, hs⟩ := I.tuple hT
  simp only at hc hd
  subst hc hd
  by_cases h1' : k = 1
  · subst h1'
    refine wpAny_binaryOp_repeat_ref (T := "tuple") (U := "int") (by decide) ⟨_, ho, rfl⟩ (fun s' => typeIs_int s' 1 t) noFill_tuple_mul F.fills_int_mul F.slot_int_rmul repeat_tuple F.slot_int_index.lookup
      (call_meets F.slot_int_rmul (typeIs_int s 1 t) F.entry_int_rmul (F.args_int_rmul_2 _ _) (int_rmul_tuple 1 t l its.toArray n dd sl)
        ⟨ho, rfl, ⟨_, ho, rfl⟩, call_meets F.slot_tuple_mul ⟨_, ho, rfl⟩ F.entry_tuple_mul (F.args_tuple_mul_2 _ _) (tuple_mul1 l its.toArray n dd sl t) ⟨ho, ?_⟩⟩)
    exact ⟨.ref l, H, I, rfl, q l H (by show SqT X.K H l (xs ++ []); rw [List.append_nil]; exact hT) (Same.refl H)⟩
  · have hle : its.length = xs.length := r.length.symm
    have hi : its.toArray.isEmpty = false := by
      cases its with
      | nil => exact absurd (List.eq_nil_of_length_eq_zero hle.symm) hne
      | cons a b => rfl
    have c0 : (decide (k < -(2 ^ 63)) || decide (k ≥ 2 ^ 63)) = false := by
      rw [decide_eq_false (by omega), decide_eq_false (by omega)]; rfl
    have c1 : (its.toArray.isEmpty || k == 1) = false := by
      rw [hi, Bool.false_or]
      exact beq_eq_false_iff_ne.mpr h1'
    have c2 : (decide (k ≤ 0) || its.toArray.isEmpty) = true := by
      rw [decide_eq_true (by omega)]; rfl
    refine wpAny_binaryOp_repeat_ref (T := "tuple") (U := "int") (by decide) ⟨_, ho, rfl⟩ (fun s' => typeIs_int s' k t) noFill_tuple_mul F.fills_int_mul F.slot_int_rmul repeat_tuple F.slot_int_index.lookup
      (call_meets F.slot_int_rmul (typeIs_int s k t) F.entry_int_rmul (F.args_int_rmul_2 _ _) (int_rmul_tuple k t l its.toArray n dd sl)
        ⟨ho, rfl, ⟨_, ho, rfl⟩, call_meets F.slot_tuple_mul ⟨_, ho, rfl⟩ F.entry_tuple_mul (F.args_tuple_mul_2 _ _) (tuple_mul0 l its.toArray n dd sl k t c0 c1 c2) ⟨ho, ?_⟩⟩)
    have ek : k.toNat = 0 := by omega
    refine ⟨.ref s.heap.objs.size, _, I.laid (t' := s.toks) (o := .tup []) (fun b ob q => Heap.get?_push_of_some _ q) (Nat.le_refl _) ?_, rfl, q _ _ (by rw [ek]; exact sqt_upd) (same_upd (I.hok.fresh (Nat.le_refl _)))⟩
    exact ⟨Nat.zero_le _, [], .nil, IsTup.new _ _⟩
theorem cut_last (xs : List V) (h : xs ≠ []) : cutV xs none (some (-1)) = xs.dropLast := by
  have hl : 0 < xs.length := by
    cases xs with
    | nil => exact absurd rfl h
    | cons a b => simp
  unfold cutV
  rw [HT.sIx_none, List.drop_zero, Nat.sub_zero, List.dropLast_eq_take]
  congr 1
  show (if (-1 : Int) < 0 then ((-1 : Int) + (xs.length : Int)).toNat else min (-1 : Int).toNat xs.length) = xs.length - 1
  rw [if_pos (by decide)]
  omega
theorem cut_last2 (xs : List V) : cutV xs none (some (-2)) = xs.take (xs.length - 2) := by
  unfold cutV
  rw [HT.sIx_none, List.drop_zero, Nat.sub_zero]
  congr 1
  show (if (-2 : Int) < 0 then ((-2 : Int) + (xs.length : Int)).toNat else min (-2 : Int).toNat xs.length) = xs.length - 2
  rw [if_pos (by decide)]
  omega
theorem cut_end2 (xs : List V) : cutV xs (some (-2)) none = xs.drop (xs.length - 2) := by
  unfold cutV
  rw [HT.sIx_none]
  have e : HT.sIx xs.length 0 (some (-2)) = xs.length - 2 := by
    show (if (-2 : Int) < 0 then ((-2 : Int) + (xs.length : Int)).toNat else min (-2 : Int).toNat xs.length) = xs.length - 2
    rw [if_pos (by decide)]
    omega
  rw [e, List.take_of_length_le (by rw [List.length_drop]; omega)]
inductive Wd where
  | lt (c : Nat) | yes | no | nt | an | orr | sm
  deriving DecidableEq
def Wd.s : Wd → Str
  | .lt c => sg c
  | .yes => "yes" | .no => "no" | .nt => "not" | .an => "and" | .orr => "or" | .sm => "same"
def wv (w : Wd) : V := .str w.s
/-- how high the heap is behind the words -/
def ht : Nat → List Wd → Option Nat
  | h, [] => some h
  | h, .lt _ :: r => ht (h + 1) r
  | h, .yes :: r => ht (h + 1) r
  | h, .no :: r => ht (h + 1) r
  | h, .nt :: r => if 1 ≤ h then ht h r else none
  | h, .an :: r => if 2 ≤ h then ht (h - 1) r else none
  | h, .orr :: r => if 2 ≤ h then ht (h - 1) r else none
  | h, .sm :: r => if 2 ≤ h then ht (h - 1) r else none
theorem ht_add : ∀ (ws : List Wd) (h k d : Nat), ht h ws = some k → ht (h + d) ws = some (k + d)
  | [], h, k, d, e => by
    have e : h = k := Option.some.inj e
    subst e
    rfl
  | w :: r, h, k, d, e => by
    cases w with
    | lt c => have := ht_add r (h + 1) k d e; rw [Nat.add_right_comm] at this; exact this
    | yes => have := ht_add r (h + 1) k d e; rw [Nat.add_right_comm] at this; exact this
    | no => have := ht_add r (h + 1) k d e; rw [Nat.add_right_comm] at this; exact this
    | nt =>
      unfold ht at e ⊢
      by_cases h1 : 1 ≤ h
      · rw [if_pos h1] at e
        rw [if_pos (by omega)]
        exact ht_add r h k d e
      · rw [if_neg h1] at e
        cases e
    | an =>
      unfold ht at e ⊢
      by_cases h1 : 2 ≤ h
      · rw [if_pos h1] at e
        rw [if_pos (by omega), show h + d - 1 = h - 1 + d by omega]
        exact ht_add r (h - 1) k d e
      · rw [if_neg h1] at e
        cases e
    | orr =>
      unfold ht at e ⊢
      by_cases h1 : 2 ≤ h
      · rw [if_pos h1] at e
        rw [if_pos (by omega), show h + d - 1 = h - 1 + d by omega]
        exact ht_add r (h - 1) k d e
      · rw [if_neg h1] at e
        cases e
    | sm =>
      unfold ht at e ⊢
      by_cases h1 : 2 ≤ h
      · rw [if_pos h1] at e
        rw [if_pos (by omega), show h + d - 1 = h - 1 + d by omega]
        exact ht_add r (h - 1) k d e
      · rw [if_neg h1] at e
        cases e
theorem ht_app : ∀ (a b : List Wd) (h k : Nat), ht h a = some k → ht h (a ++ b) = ht k b
  | [], b, h, k, e => by
    have e : h = k := Option.some.inj e
    subst e
    rfl
  | w :: r, b, h, k, e => by
    rw [List.cons_append]
    cases w with
    | lt c => exact ht_app r b (h + 1) k e
    | yes => exact ht_app r b (h + 1) k e
    | no => exact ht_app r b (h + 1) k e
    | nt =>
      simp only [ht] at e ⊢
      by_cases h1 : 1 ≤ h
      · rw [if_pos h1] at e ⊢
        exact ht_app r b h k e
      · rw [if_neg h1] at e
        cases e
    | an =>
      simp only [ht] at e ⊢
      by_cases h1 : 2 ≤ h
      · rw [if_pos h1] at e ⊢
        exact ht_app r b (h - 1) k e
      · rw [if_neg h1] at e
        cases e
    | orr =>
      simp only [ht] at e ⊢
      by_cases h1 : 2 ≤ h
      · rw [if_pos h1] at e ⊢
        exact ht_app r b (h - 1) k e
      · rw [if_neg h1] at e
        cases e
    | sm =>
      simp only [ht] at e ⊢
      by_cases h1 : 2 ≤ h
      · rw [if_pos h1] at e ⊢
        exact ht_app r b (h - 1) k e
      · rw [if_neg h1] at e
        cases e
/-- a saying over the letters cs -/
structure Sy (cs : List Nat) (ws : List Wd) : Prop where
  ht : ht 0 ws = some 1
  lt : ∀ c, Wd.lt c ∈ ws → c ∈ cs
theorem Sy.ne {cs : List Nat} {ws : List Wd} (h : Sy cs ws) : ws ≠ [] := by
  intro e
  have := h.ht
  rw [e] at this
  cases this
theorem Sy.not {cs : List Nat} {ws : List Wd} (h : Sy cs ws) : Sy cs (ws ++ [.nt]) := by
  refine ⟨by rw [ht_app _ _ _ _ h.ht]; rfl, fun c hc => ?_⟩
  rcases List.mem_append.mp hc with z | z
  · exact h.lt c z
  · simp at z
theorem Sy.nots {cs : List Nat} {ws : List Wd} (h : Sy cs ws) : ∀ n, Sy cs (ws ++ List.replicate n .nt)
  | 0 => by
    rw [List.replicate_zero, List.append_nil]
    exact h
  | n + 1 => by
    have := (Sy.nots h n).not
    rw [List.append_assoc, ← List.replicate_succ'] at this
    exact this
inductive Jn : Wd → Prop
  | an : Jn .an
  | orr : Jn .orr
  | sm : Jn .sm
theorem Sy.join {cs : List Nat} {a b : List Wd} {w : Wd} (ha : Sy cs a) (hb : Sy cs b) (hw : Jn w) : Sy cs (a ++ b ++ [w]) := by
  refine ⟨?_, fun c hc => ?_⟩
  · rw [List.append_assoc, ht_app _ _ _ _ ha.ht]
    have := ht_add b 0 1 1 hb.ht
    rw [ht_app _ _ _ _ this]
    cases hw <;> rfl
  · rcases List.mem_append.mp hc with z | z
    · rcases List.mem_append.mp z with z | z
      · exact ha.lt c z
      · exact hb.lt c z
    · rw [List.mem_singleton] at z
      subst z
      cases hw
theorem Sy.leaf {cs : List Nat} {c : Nat} (h : c ∈ cs) : Sy cs [.lt c] := ⟨rfl, fun d hd => by
  rw [List.mem_singleton] at hd
  cases hd
  exact h⟩
theorem Sy.yes {cs : List Nat} : Sy cs [.yes] := ⟨rfl, fun d hd => by simp at hd⟩
theorem Sy.no {cs : List Nat} : Sy cs [.no] := ⟨rfl, fun d hd => by simp at hd⟩
/-- what a word makes of the heap, its top ahead -/
def stp (v : Nat → Bool) : List Bool → Wd → List Bool
  | st, .lt c => v c :: st
  | st, .yes => true :: st
  | st, .no => false :: st
  | a :: st, .nt => (!a) :: st
  | b :: a :: st, .an => (a && b) :: st
  | b :: a :: st, .orr => (a || b) :: st
  | b :: a :: st, .sm => (a == b) :: st
  | st, _ => st
def run (v : Nat → Bool) (st : List Bool) (ws : List Wd) : List Bool := ws.foldl (stp v) st
/-- whether a saying holds -/
def sval (v : Nat → Bool) (ws : List Wd) : Bool := (run v [] ws).headD false
/-- one step: the word fits the heap -/
theorem ht_step {st : List Bool} {w : Wd} {r : List Wd} {k : Nat} (v : Nat → Bool) (h : ht st.length (w :: r) = some k) : ht (stp v st w).length r = some k := by
  cases w with
  | lt c => exact h
  | yes => exact h
  | no => exact h
  | nt =>
    unfold ht at h
    match st, h with
    | [], h => cases h
    | a :: st, h => exact h
  | an =>
    unfold ht at h
    match st, h with
    | [], h => cases h
    | [a], h => cases h
    | b :: a :: st, h => exact h
  | orr =>
    unfold ht at h
    match st, h with
    | [], h => cases h
    | [a], h => cases h
    | b :: a :: st, h => exact h
  | sm =>
    unfold ht at h
    match st, h with
    | [], h => cases h
    | [a], h => cases h
    | b :: a :: st, h => exact h
theorem ht_nt {st : List Bool} {r : List Wd} {k : Nat} (h : ht st.length (.nt :: r) = some k) : ∃ a s, st = a :: s := by
  unfold ht at h
  match st, h with
  | [], h => cases h
  | a :: s, _ => exact ⟨a, s, rfl⟩
theorem ht_jn {st : List Bool} {w : Wd} {r : List Wd} {k : Nat} (hw : Jn w) (h : ht st.length (w :: r) = some k) : ∃ b a s, st = b :: a :: s := by
  cases hw <;>
  · unfold ht at h
    match st, h with
    | [], h => cases h
    | [a], h => cases h
    | b :: a :: s, _ => exact ⟨b, a, s, rfl⟩
theorem run_cons (v : Nat → Bool) (st : List Bool) (w : Wd) (r : List Wd) : run v st (w :: r) = run v (stp v st w) r := rfl
/-- words fit a heap: what lies below stays -/
theorem run_frame (v : Nat → Bool) : ∀ (ws : List Wd) (st t : List Bool) (k : Nat), ht st.length ws = some k → run v (st ++ t) ws = run v st ws ++ t
  | [], st, t, k, _ => rfl
  | w :: r, st, t, k, h => by
    rw [run_cons, run_cons]
    have h2 := ht_step v h
    rw [← run_frame v r (stp v st w) t k h2]
    congr 1
    cases w with
    | lt c => rfl
    | yes => rfl
    | no => rfl
    | nt =>
      obtain ⟨a, s, rfl⟩ := ht_nt h
      rfl
    | an =>
      obtain ⟨b, a, s, rfl⟩ := ht_jn .an h
      rfl
    | orr =>
      obtain ⟨b, a, s, rfl⟩ := ht_jn .orr h
      rfl
    | sm =>
      obtain ⟨b, a, s, rfl⟩ := ht_jn .sm h
      rfl
theorem run_len (v : Nat → Bool) : ∀ (ws : List Wd) (st : List Bool) (k : Nat), ht st.length ws = some k → (run v st ws).length = k
  | [], st, k, h => Option.some.inj h
  | w :: r, st, k, h => run_len v r (stp v st w) k (ht_step v h)
theorem run_sy {cs : List Nat} {ws : List Wd} (v : Nat → Bool) (h : Sy cs ws) : run v [] ws = [sval v ws] := by
  have := run_len v ws [] 1 h.ht
  unfold sval
  match run v [] ws, this with
  | [b], _ => rfl
theorem run_app (v : Nat → Bool) (st : List Bool) (a b : List Wd) : run v st (a ++ b) = run v (run v st a) b := List.foldl_append ..
theorem run_on {cs : List Nat} {ws : List Wd} (v : Nat → Bool) (st : List Bool) (h : Sy cs ws) : run v st ws = sval v ws :: st := by
  have := run_frame v ws [] st 1 h.ht
  rw [List.nil_append, run_sy v h] at this
  exact this
theorem sval_not {cs : List Nat} {ws : List Wd} (v : Nat → Bool) (h : Sy cs ws) : sval v (ws ++ [.nt]) = !(sval v ws) := by
  unfold sval
  rw [run_app, run_sy v h]
  rfl
theorem sval_join {cs : List Nat} {a b : List Wd} (v : Nat → Bool) (ha : Sy cs a) (hb : Sy cs b) :
    sval v (a ++ b ++ [.an]) = (sval v a && sval v b) ∧ sval v (a ++ b ++ [.orr]) = (sval v a || sval v b) ∧ sval v (a ++ b ++ [.sm]) = (sval v a == sval v b) := by
  have e : ∀ w, run v [] (a ++ b ++ [w]) = stp v [sval v b, sval v a] w := fun w => by
    rw [run_app, run_app, run_sy v ha, run_on v _ hb]
    rfl
  refine ⟨?_, ?_, ?_⟩
  · show (run v [] (a ++ b ++ [.an])).headD false = _
    rw [e]; rfl
  · show (run v [] (a ++ b ++ [.orr])).headD false = _
    rw [e]; rfl
  · show (run v [] (a ++ b ++ [.sm])).headD false = _
    rw [e]; rfl
theorem sg_ne {c : Nat} {x : Str} (h : x.cps.size ≠ 1) : sg c ≠ x := by
  intro e
  rw [← e] at h
  exact h rfl
def Wd.isLt : Wd → Bool
  | .lt _ => true
  | _ => false
/-- a word is this one, by its text -/
theorem wd_eq (w u : Wd) (hu : u.isLt = false) : decide (wv w = wv u) = decide (w = u) := by
  cases w with
  | lt c =>
    have : sg c ≠ u.s := by
      cases u <;> first | (exact absurd (show true = false from hu) (by decide)) | exact sg_ne (by decide +kernel)
    have e : decide (wv (.lt c) = wv u) = false := decide_eq_false (fun e => this (V.str.inj e))
    rw [e]
    cases u <;> first | (exact absurd (show true = false from hu) (by decide)) | rfl
  | _ => cases u <;> first | (exact absurd (show true = false from hu) (by decide)) | decide +kernel
end B
namespace B
open PySem PySem.Spec PyProof.Rows L2
def bc (b : Bool) : Nat := if b then 49 else 48
/-- a world's text -/
def wtx (bs : List Bool) : Str := tx (bs.map bc)
/-- the letter c at the world bs over the letters cs -/
def vl (cs : List Nat) (bs : List Bool) (c : Nat) : Bool := bs.getD (cs.idxOf c) false
theorem idx_first : ∀ {cs : List Nat} {c i : Nat}, cs[i]? = some c → (∀ k, k < i → cs[k]? ≠ some c) → cs.idxOf c = i
  | [], c, i, h, _ => by simp at h
  | a :: r, c, 0, h, _ => by
    have e : a = c := Option.some.inj h
    subst e
    simp
  | a :: r, c, i + 1, h, n => by
    have h0 : a ≠ c := fun e => n 0 (by omega) (by rw [e]; rfl)
    have ih := idx_first (cs := r) (c := c) (i := i) h fun k hk e => n (k + 1) (by omega) e
    rw [List.idxOf_cons, ih]
    have hb : (a == c) = false := beq_eq_false_iff_ne.mpr h0
    rw [hb]
    rfl
theorem letter_at {cs : List Nat} {c : Nat} (h : c ∈ cs) : ∃ i : Nat, cs.idxOf c = i ∧ cs[i]? = some c ∧ Txt.find (tx cs) (sg c) = (i : Int) ∧ Builtin.Str.occurrences (tx cs) (sg c) 0 (tx cs).length 1 = [i] := by
  obtain ⟨i, h1, h2, h3, h4⟩ := find_sign h
  exact ⟨i, idx_first h3 h4, h3, h1, h2⟩
theorem bc_int (b : Bool) : PySem.intText? (sg (bc b)) = some (if b then 1 else 0) := by
  cases b <;> decide +kernel
/-- the world with this number over n letters -/
def bitsN : Nat → Nat → List Bool
  | 0, _ => []
  | n + 1, k => decide (k / 2 ^ n % 2 = 1) :: bitsN n k
theorem bitsN_len : ∀ n k, (bitsN n k).length = n
  | 0, _ => rfl
  | n + 1, k => by
    rw [bitsN, List.length_cons, bitsN_len n k]
/-- all worlds over n letters, rising -/
def allW (n : Nat) : List (List Bool) := (List.range (2 ^ n)).map (bitsN n)
theorem allW_len {n : Nat} {bs : List Bool} (h : bs ∈ allW n) : bs.length = n := by
  obtain ⟨k, _, rfl⟩ := List.mem_map.mp h
  exact bitsN_len n k
/-- the values are these sayings -/
def Rws (K : PySem.W.Frag) (H : Hp) : List V → List (List Wd) → Prop
  | [], [] => True
  | v :: vs, r :: rs => (∃ a, v = .ref a ∧ SqT K H a (r.map wv)) ∧ Rws K H vs rs
  | _, _ => False
theorem Rws.len {K : PySem.W.Frag} {H : Hp} : ∀ {vs : List V} {rs : List (List Wd)}, Rws K H vs rs → vs.length = rs.length
  | [], [], _ => rfl
  | _ :: vs, _ :: rs, h => by rw [List.length_cons, List.length_cons, Rws.len h.2]
theorem Rws.mono {K : PySem.W.Frag} {H H' : Hp} (k : ∀ a xs, SqT K H a xs → SqT K H' a xs) : ∀ {vs : List V} {rs : List (List Wd)}, Rws K H vs rs → Rws K H' vs rs
  | [], [], _ => trivial
  | _ :: _, _ :: _, h => ⟨by obtain ⟨a, e, q⟩ := h.1; exact ⟨a, e, k _ _ q⟩, Rws.mono k h.2⟩
theorem Rws.get {K : PySem.W.Frag} {H : Hp} : ∀ {vs : List V} {rs : List (List Wd)} {j : Nat} {r : List Wd}, Rws K H vs rs → rs[j]? = some r → ∃ a, vs[j]? = some (.ref a) ∧ SqT K H a (r.map wv)
  | [], [], j, r, _, e => by simp at e
  | v :: vs, q :: rs, 0, r, h, e => by
    obtain ⟨a, rfl, z⟩ := h.1
    have e : q = r := Option.some.inj e
    subst e
    exact ⟨a, rfl, z⟩
  | _ :: vs, _ :: rs, j + 1, r, h, e => Rws.get (vs := vs) (rs := rs) (j := j) h.2 (by simpa using e)
theorem Rws.getV {K : PySem.W.Frag} {H : Hp} : ∀ {vs : List V} {rs : List (List Wd)} {j : Nat} {v : V}, Rws K H vs rs → vs[j]? = some v → ∃ a r, v = .ref a ∧ rs[j]? = some r ∧ SqT K H a (r.map wv)
  | [], [], j, r, _, e => by simp at e
  | v :: vs, q :: rs, 0, r, h, e => by
    obtain ⟨a, e1, z⟩ := h.1
    have e : v = r := Option.some.inj e
    subst e
    exact ⟨a, q, e1, rfl, z⟩
  | _ :: vs, _ :: rs, j + 1, r, h, e => Rws.getV (vs := vs) (rs := rs) (j := j) h.2 (by simpa using e)
theorem Rws.app {K : PySem.W.Frag} {H : Hp} : ∀ {vs us : List V} {rs ss : List (List Wd)}, Rws K H vs rs → Rws K H us ss → Rws K H (vs ++ us) (rs ++ ss)
  | [], _, [], _, _, h => h
  | _ :: _, _, _ :: _, _, h, h2 => ⟨h.1, Rws.app h.2 h2⟩
theorem Rws.one {K : PySem.W.Frag} {H : Hp} {a : Addr} {r : List Wd} (h : SqT K H a (r.map wv)) : Rws K H [.ref a] [r] := ⟨⟨a, rfl, h⟩, trivial⟩
theorem Rws.take {K : PySem.W.Frag} {H : Hp} : ∀ {vs : List V} {rs : List (List Wd)} (n : Nat), Rws K H vs rs → Rws K H (vs.take n) (rs.take n)
  | [], [], n, _ => by rw [List.take_nil, List.take_nil]; trivial
  | _ :: _, _ :: _, 0, _ => trivial
  | _ :: _, _ :: _, n + 1, h => ⟨h.1, Rws.take n h.2⟩
theorem Rws.drop {K : PySem.W.Frag} {H : Hp} : ∀ {vs : List V} {rs : List (List Wd)} (n : Nat), Rws K H vs rs → Rws K H (vs.drop n) (rs.drop n)
  | [], [], n, _ => by rw [List.drop_nil, List.drop_nil]; trivial
  | _ :: _, _ :: _, 0, h => h
  | _ :: _, _ :: _, n + 1, h => Rws.drop n h.2
theorem Rws.set {K : PySem.W.Frag} {H : Hp} {a : Addr} {r : List Wd} (q : SqT K H a (r.map wv)) : ∀ {vs : List V} {rs : List (List Wd)} (n : Nat), Rws K H vs rs → Rws K H (vs.set n (.ref a)) (rs.set n r)
  | [], [], _, _ => trivial
  | _ :: _, _ :: _, 0, h => ⟨⟨a, rfl, q⟩, h.2⟩
  | _ :: _, _ :: _, n + 1, h => ⟨h.1, Rws.set q n h.2⟩
theorem Rws.same {K : PySem.W.Frag} {H H' : Hp} {vs : List V} {rs : List (List Wd)} (h : Rws K H vs rs) (e : Same H H') : Rws K H' vs rs := h.mono fun _ _ q => Same.tup e q
theorem Rws.kp {K : PySem.W.Frag} {H H' : Hp} {d : Dr} {b : Nat} {vs : List V} {rs : List (List Wd)} (h : Rws K H vs rs) (w : Drw H d b) (e : Kp d H H') : Rws K H' vs rs := h.mono fun _ _ q => Kp.tup e w q
/-- changes of one list alone leave tuples as they are -/
theorem tup_upd {K : PySem.W.Frag} {H : Hp} {l a : Addr} {xs ys : List V} {zs : List V} (hl : H l = some (.lst xs)) (h : SqT K H a ys) : SqT K (upd H l (.lst zs)) a ys := by
  rcases h with (h | ⟨o, h⟩) | h
  · exact .inl (.inl (by rw [upd_ne (ne_of h hl (by intro q; cases q))]; exact h))
  · exact .inl (.inr ⟨o, by rw [upd_ne (ne_of h hl (by intro q; cases q))]; exact h⟩)
  · exact .inr h
theorem Drw.mut {H : Hp} {d : Dr} {b : Nat} {p : Addr} {o : HO} (h : Drw H d b) (n1 : p ≠ d.dr) (n2 : p ≠ d.cl) (n3 : p ≠ d.rs) : Drw (L2.upd H p o) d b := by
  obtain ⟨⟨cs, rr, k, h1, h2, h3, h4⟩, ne⟩ := h
  exact ⟨⟨cs, rr, k, by rw [upd_ne n1.symm]; exact h1, by rw [upd_ne n2.symm]; exact h2, by rw [upd_ne n3.symm]; exact h3, h4⟩, ne⟩
theorem Drw.nc {H : Hp} {d : Dr} {b : Nat} {p : Addr} (h : Drw H d b) (n : H p = none) : p ≠ d.cl := by
  obtain ⟨⟨cs, rr, k, h1, h2, h3, h4⟩, ne⟩ := h
  exact (ne_of_none h2 n).symm
theorem iteW {w u : Wd} {A B : Prop} (hu : u.isLt = false) (h1 : w = u → A) (h2 : w ≠ u → B) : if decide (wv w = wv u) = true then A else B := by
  rw [wd_eq w u hu]
  exact ite2 (fun e => h1 (of_decide_eq_true e)) (fun e => h2 fun z => e (decide_eq_true z))
/-- what a word that wants nothing lays upon the heap -/
def lv (v : Nat → Bool) : Wd → Bool
  | .lt c => v c
  | .yes => true
  | _ => false
inductive Lf (cs : List Nat) : Wd → Prop
  | lt {c : Nat} (h : c ∈ cs) : Lf cs (.lt c)
  | yes : Lf cs .yes
  | no : Lf cs .no
theorem last_ix {xs : List V} {y : V} : ixN (xs ++ [y]).length (-1) = some xs.length := by
  unfold ixN
  rw [List.length_append]
  show (if (0 : Int) ≤ -1 then _ else if -((xs.length + 1 : Nat) : Int) ≤ -1 then some (-1 + ((xs.length + 1 : Nat) : Int)).toNat else none) = _
  rw [if_neg (by decide), if_pos (by omega)]
  congr 1
  omega
theorem last_set {xs : List V} {y z : V} : (xs ++ [y]).set xs.length z = xs ++ [z] := by
  rw [List.set_append_right _ _ (Nat.le_refl _), Nat.sub_self]
  rfl
def bi (b : Bool) : Int := if b then 1 else 0
def hq (st : List Bool) : List V := st.reverse.map fun b => V.int (bi b)
theorem hq_cons (b : Bool) (st : List Bool) : hq (b :: st) = hq st ++ [.int (bi b)] := by
  unfold hq
  rw [List.reverse_cons, List.map_append]
  rfl
theorem hq_len (st : List Bool) : (hq st).length = st.length := by
  unfold hq
  rw [List.length_map, List.length_reverse]
theorem at_last2 {xs : List V} {y z : V} : atI (xs ++ [y] ++ [z]) (-2) = some y := by
  unfold atI ixN
  rw [List.length_append, List.length_append]
  show (if (0 : Int) ≤ -2 then _ else if -((xs.length + 1 + 1 : Nat) : Int) ≤ -2 then some (-2 + ((xs.length + 1 + 1 : Nat) : Int)).toNat else none).bind _ = _
  rw [if_neg (by decide), if_pos (by omega)]
  have e : (-2 + ((xs.length + 1 + 1 : Nat) : Int)).toNat = xs.length := by omega
  rw [e]
  show (xs ++ [y] ++ [z])[xs.length]? = _
  rw [List.append_assoc, List.getElem?_append_right (Nat.le_refl _), Nat.sub_self]
  rfl
theorem cut2 {xs : List V} {y z : V} : cutV (xs ++ [y] ++ [z]) none (some (-2)) = xs ∧ cutV (xs ++ [y] ++ [z]) (some (-2)) none = [y, z] := by
  rw [cut_last2, cut_end2, List.append_assoc, List.length_append]
  show (xs ++ [y, z]).take (xs.length + 2 - 2) = xs ∧ (xs ++ [y, z]).drop (xs.length + 2 - 2) = [y, z]
  rw [Nat.add_sub_cancel]
  exact ⟨List.take_left, List.drop_left⟩
/-- letters: a rising row of small letters -/
structure Ls (n : Nat) (cs : List Nat) : Prop where
  pos : 1 ≤ cs.length
  most : cs.length ≤ n
  rise : cs.Pairwise (· < ·)
  small : ∀ c ∈ cs, 97 ≤ c ∧ c < 123
theorem eraseIdx_map {α β : Type} (f : α → β) : ∀ (l : List α) (n : Nat), (l.map f).eraseIdx n = (l.eraseIdx n).map f
  | [], _ => rfl
  | _ :: _, 0 => rfl
  | a :: r, n + 1 => by
    rw [List.map_cons, List.eraseIdx_cons_succ, List.eraseIdx_cons_succ, List.map_cons, eraseIdx_map f r n]
theorem perm_erase : ∀ {l : List Nat} {n c : Nat}, l[n]? = some c → ([c] ++ l.eraseIdx n).Perm l
  | [], n, c, h => by simp at h
  | a :: r, 0, c, h => by
    have e : a = c := Option.some.inj h
    subst e
    exact List.Perm.refl _
  | a :: r, n + 1, c, h => by
    have ih := perm_erase (l := r) (n := n) (c := c) (by simpa using h)
    rw [List.eraseIdx_cons_succ]
    exact (List.Perm.swap a c (r.eraseIdx n)).trans (List.Perm.cons a ih)
theorem perm_sg {ys : List Str} {fd : List Nat} (h : ys.Perm (fd.map sg)) : ∃ zs : List Nat, ys = zs.map sg ∧ zs.Perm fd := by
  refine ⟨ys.map fun z => z.cps.toList.headD 0, ?_, ?_⟩
  · rw [List.map_map]
    refine (List.map_id ys).symm.trans (List.map_congr_left fun y hy => ?_)
    obtain ⟨c, _, rfl⟩ := List.mem_map.mp (h.mem_iff.mp hy)
    rfl
  · have := h.map fun z : Str => z.cps.toList.headD 0
    rw [List.map_map] at this
    have e : fd.map ((fun z : Str => z.cps.toList.headD 0) ∘ sg) = fd := by
      refine (List.map_congr_left fun c _ => ?_).trans (List.map_id fd)
      rfl
    rw [e] at this
    exact this
theorem sum_one : ∀ zs : List Nat, (zs.map ((fun x : Str => x.length) ∘ sg)).sum = zs.length
  | [] => rfl
  | z :: r => by
    rw [List.map_cons, List.sum_cons, sum_one r, List.length_cons]
    show 1 + r.length = r.length + 1
    omega
theorem joinL_nil : ∀ l : List (List Nat), TL.joinL [] l = l.flatten
  | [] => rfl
  | [p] => by
    show p = p ++ []
    rw [List.append_nil]
  | p :: q :: r => by
    show p ++ ([] ++ TL.joinL [] (q :: r)) = p ++ (q :: r).flatten
    rw [List.nil_append, joinL_nil]
theorem flat_one : ∀ zs : List Nat, (zs.map fun c => [c]).flatten = zs
  | [] => rfl
  | z :: r => by
    show z :: (r.map fun c => [c]).flatten = z :: r
    rw [flat_one r]
theorem join_sg (zs : List Nat) : Txt.join "" (zs.map sg) = tx zs := by
  rw [TL.join_eq]
  refine TL.ext_tl ?_
  rw [TL.tl_join, List.map_map]
  show TL.joinL [] (zs.map fun c => [c]) = zs
  rw [joinL_nil, flat_one]
theorem ltCps_one (a b : Nat) : ltCps [a] [b] = decide (a < b) := by
  by_cases h : a < b
  · rw [decide_eq_true h]; simp [ltCps, h]
  · rw [decide_eq_false h]; simp [ltCps, h]
theorem rise_from : ∀ (p : Nat) (zs : List Nat), (p :: zs).Nodup → risingS (sg p) (zs.map sg) = true → (p :: zs).Pairwise (· < ·)
  | p, [], _, _ => List.pairwise_singleton _ _
  | p, z :: r, nd, h => by
    have h : (!ltCps [z] [p] && risingS (sg z) (r.map sg)) = true := h
    rw [Bool.and_eq_true] at h
    have nd2 := (List.nodup_cons.mp nd).2
    have ih := rise_from z r nd2 h.2
    have hle : ¬ z < p := by
      have := h.1
      rw [ltCps_one] at this
      simpa using this
    have hne : p ≠ z := fun e => (List.nodup_cons.mp nd).1 (by rw [e]; exact List.mem_cons_self ..)
    refine List.pairwise_cons.mpr ⟨fun x hx => ?_, ih⟩
    rcases List.mem_cons.mp hx with rfl | hx
    · omega
    · have := (List.pairwise_cons.mp ih).1 x hx
      omega
theorem rise_of {zs : List Nat} (nd : zs.Nodup) (h : sortedS (zs.map sg) = true) : zs.Pairwise (· < ·) := by
  cases zs with
  | nil => exact List.Pairwise.nil
  | cons z r => exact rise_from z r nd h
theorem cut_take (xs : List V) (j : Nat) : cutV xs none (some (j : Int)) = xs.take j := by
  unfold cutV
  rw [HT.sIx_none, HT.sIx_nat, List.drop_zero, Nat.sub_zero]
  rcases Nat.le_total j xs.length with h | h
  · rw [Nat.min_eq_left h]
  · rw [Nat.min_eq_right h, List.take_length, List.take_of_length_le h]
theorem cut_drop (xs : List V) (j : Nat) : cutV xs (some (j : Int)) none = xs.drop j := by
  unfold cutV
  rw [HT.sIx_none, HT.sIx_nat]
  rcases Nat.le_total j xs.length with h | h
  · rw [Nat.min_eq_left h, List.take_of_length_le (by rw [List.length_drop]; omega)]
  · rw [Nat.min_eq_right h, List.drop_length, List.take_nil, List.drop_of_length_le h]
theorem split2 {α : Type} {rs : List α} {j : Nat} {a b : α} (h1 : rs[j]? = some a) (h2 : rs[j + 1]? = some b) : rs = rs.take j ++ [a, b] ++ rs.drop (j + 2) := by
  obtain ⟨l1, e1⟩ := List.getElem?_eq_some_iff.mp h1
  obtain ⟨l2, e2⟩ := List.getElem?_eq_some_iff.mp h2
  have d1 : rs.drop j = a :: rs.drop (j + 1) := by rw [List.drop_eq_getElem_cons l1, e1]
  have d2 : rs.drop (j + 1) = b :: rs.drop (j + 2) := by rw [List.drop_eq_getElem_cons l2, e2]
  rw [List.append_assoc]
  show rs = rs.take j ++ (a :: b :: rs.drop (j + 2))
  rw [← d2, ← d1, List.take_append_drop]
/-- how many words there are in all -/
def tot (rs : List (List Wd)) : Nat := (rs.map List.length).sum
theorem tot_app (a b : List (List Wd)) : tot (a ++ b) = tot a + tot b := by
  unfold tot
  rw [List.map_append, List.sum_append]
theorem Kp.free {d : Dr} {H H' : Hp} {b : Nat} {p : Addr} (k : Kp d H H') (w : Drw H' d b) (n : H' p = none) : H p = none := by
  cases e : H p with
  | none => rfl
  | some o =>
    have := k p o e (w.no n).1 (w.no n).2
    rw [n] at this
    cases this
def wdat (r : List Wd) : PyData := .tuple (r.map fun w => .str w.s)
theorem wd_ok {cs : List Nat} (hs : ∀ c ∈ cs, c < 123) (w : Wd) (h : ∀ c, w = .lt c → c ∈ cs) : PyData.strOk w.s = true := by
  cases w with
  | lt c =>
    have := hs c (h c rfl)
    show (#[c] : Array Nat).all _ = true
    simp
    omega
  | _ => decide +kernel
theorem wdat_ok {cs : List Nat} (hs : ∀ c ∈ cs, c < 123) : ∀ (r : List Wd), (∀ c, Wd.lt c ∈ r → c ∈ cs) → PyData.canLayAll0 (r.map fun w => .str w.s) = true
  | [], _ => rfl
  | w :: r, h => by
    show (PyData.strOk w.s && PyData.canLayAll0 (r.map fun w => .str w.s)) = true
    rw [wd_ok hs w (fun c e => h c (by rw [e]; exact List.mem_cons_self ..)), wdat_ok hs r fun c hc => h c (List.mem_cons_of_mem _ hc)]
    rfl
theorem wdat_depth : ∀ r : List Wd, PyData.depthAll (r.map fun w => PyData.str w.s) = 0
  | [] => rfl
  | w :: r => by
    show max 0 (PyData.depthAll (r.map fun w => PyData.str w.s)) = 0
    rw [wdat_depth r]
    rfl
theorem wdat_shaped {cs : List Nat} (hs : ∀ c ∈ cs, c < 123) {r : List Wd} (h : ∀ c, Wd.lt c ∈ r → c ∈ cs) : SeqAt.shaped (wdat r) = true := by
  unfold SeqAt.shaped
  have e1 : (wdat r).canLay0 = true := wdat_ok hs r h
  have e2 : (wdat r).depth = 1 := by
    show PyData.depthAll (r.map fun w => PyData.str w.s) + 1 = 1
    rw [wdat_depth]
  rw [e1, e2]
  rfl
theorem wdp_all {K : PySem.W.Frag} {H : Hp} : ∀ r : List Wd, DpAll K H (r.map wv) (r.map fun w => .str w.s)
  | [] => .nil
  | w :: r => .cons (.str w.s) (wdp_all r)
theorem wdp {K : PySem.W.Frag} {H : Hp} {a : Addr} {r : List Wd} (h : SqT K H a (r.map wv)) : Dp K H (.ref a) (wdat r) := .tup h (wdp_all r)
theorem Rws.dp {K : PySem.W.Frag} {H : Hp} : ∀ {vs : List V} {rs : List (List Wd)}, Rws K H vs rs → DpAll K H vs (rs.map wdat)
  | [], [], _ => .nil
  | _ :: _, _ :: _, h => by
    obtain ⟨a, rfl, q⟩ := h.1
    exact .cons (wdp q) (Rws.dp h.2)
theorem rows_ok {cs : List Nat} (hs : ∀ c ∈ cs, c < 123) : ∀ (rs : List (List Wd)), (∀ r ∈ rs, ∀ c, Wd.lt c ∈ r → c ∈ cs) → PyData.canLayAll0 (rs.map wdat) = true ∧ PyData.depthAll (rs.map wdat) ≤ 1
  | [], _ => ⟨rfl, by decide⟩
  | r :: rs, h => by
    have ih := rows_ok hs rs fun x hx => h x (List.mem_cons_of_mem _ hx)
    have e1 : (wdat r).canLay0 = true := wdat_ok hs r (h r (List.mem_cons_self ..))
    have e2 : (wdat r).depth = 1 := by
      show PyData.depthAll (r.map fun w => PyData.str w.s) + 1 = 1
      rw [wdat_depth]
    refine ⟨?_, ?_⟩
    · show ((wdat r).canLay0 && PyData.canLayAll0 (rs.map wdat)) = true
      rw [e1, ih.1]
      rfl
    · show max (wdat r).depth (PyData.depthAll (rs.map wdat)) ≤ 1
      rw [e2]
      omega
theorem rows_shaped {cs : List Nat} (hs : ∀ c ∈ cs, c < 123) {rs : List (List Wd)} (h : ∀ r ∈ rs, ∀ c, Wd.lt c ∈ r → c ∈ cs) : SeqAt.shaped (.list (rs.map wdat)) = true := by
  obtain ⟨a, b⟩ := rows_ok hs rs h
  unfold SeqAt.shaped
  have e1 : (PyData.list (rs.map wdat)).canLay0 = true := a
  have e2 : (PyData.list (rs.map wdat)).depth ≤ 64 := by
    show PyData.depthAll (rs.map wdat) + 1 ≤ 64
    omega
  rw [e1, decide_eq_true e2]
  rfl
theorem eqv_nil (ds : List PyData) : PyData.eqv (.list ds) (.list []) = ds.isEmpty := by
  cases ds <;> rfl
theorem pow_at {n : Nat} (h : n ≤ 6) : atI [V.int 1, V.int 2, V.int 4, V.int 8, V.int 16, V.int 32, V.int 64] (n : Int) = some (.int ((2 ^ n : Nat) : Int)) := by
  have : n = 0 ∨ n = 1 ∨ n = 2 ∨ n = 3 ∨ n = 4 ∨ n = 5 ∨ n = 6 := by omega
  rcases this with rfl | rfl | rfl | rfl | rfl | rfl | rfl <;> rfl
theorem tx_app (a b : List Nat) : tx a ++ tx b = tx (a ++ b) := TL.ext_tl (by rw [TL.tl_append]; rfl)
theorem digit_cons (k : Nat) (bs : List Bool) : (Str.ofString (toString ((k : Int) % 2)) : Str) ++ wtx bs = wtx (decide (k % 2 = 1) :: bs) := by
  have h : k % 2 = 0 ∨ k % 2 = 1 := by omega
  have e : ((k : Int) % 2) = ((k % 2 : Nat) : Int) := rfl
  rw [e]
  rcases h with h | h
  · rw [h]
    show (Str.ofString (toString ((0 : Nat) : Int)) : Str) ++ tx (bs.map bc) = tx (48 :: bs.map bc)
    rw [show (Str.ofString (toString ((0 : Nat) : Int)) : Str) = tx [48] by decide +kernel, tx_app]
    rfl
  · rw [h]
    show (Str.ofString (toString ((1 : Nat) : Int)) : Str) ++ tx (bs.map bc) = tx (49 :: bs.map bc)
    rw [show (Str.ofString (toString ((1 : Nat) : Int)) : Str) = tx [49] by decide +kernel, tx_app]
    rfl
theorem digit_len (k : Nat) : (Str.ofString (toString ((k : Int) % 2)) : Str).length = 1 := by
  have h : k % 2 = 0 ∨ k % 2 = 1 := by omega
  have e : ((k : Int) % 2) = ((k % 2 : Nat) : Int) := rfl
  rw [e]
  rcases h with h | h <;> rw [h] <;> decide +kernel
theorem take_filter {α : Type} (P : α → Bool) (l : List α) (i : Nat) (x : α) (h : l[i]? = some x) : (l.take (i + 1)).filter P = (l.take i).filter P ++ (if P x then [x] else []) := by
  rw [List.take_add_one, h, List.filter_append]
  congr 1
  show (List.filter P [x]) = _
  cases e : P x <;> simp [e]
theorem allW_get {n i : Nat} (h : i < 2 ^ n) : (allW n)[i]? = some (bitsN n i) := by
  unfold allW
  rw [List.getElem?_map, List.getElem?_range h]
  rfl
theorem allW_length (n : Nat) : (allW n).length = 2 ^ n := by
  unfold allW
  rw [List.length_map, List.length_range]
/-- the worlds at which all rules hold -/
def wor (cs : List Nat) (rs : List (List Wd)) : List (List Bool) := (allW cs.length).filter fun bs => rs.all fun r => sval (vl cs bs) r
def wvs (l : List (List Bool)) : List V := l.map fun bs => V.str (wtx bs)
theorem all_take {α : Type} (P : α → Bool) (l : List α) (i : Nat) (x : α) (h : l[i]? = some x) : (l.take (i + 1)).all P = ((l.take i).all P && P x) := by
  rw [List.take_add_one, h, List.all_append]
  show (_ && (P x && true)) = _
  rw [Bool.and_true]
end B
namespace B
open PySem PySem.Spec PyProof.Rows L2
def two (w : List Bool) : List (List Bool) := [w ++ [false], w ++ [true]]
/-- a house stands at p: letters cs, rules rs -/
structure HsAt (K : PySem.W.Frag) (H : Hp) (p : Addr) (cs : List Nat) (rs : List (List Wd)) : Prop where
  ex : ∃ (ra : Addr) (rvs : List V), SqT K H p [.str (tx cs), .ref ra] ∧ SqT K H ra rvs ∧ Rws K H rvs rs
theorem HsAt.mono {K : PySem.W.Frag} {H H' : Hp} {p : Addr} {cs : List Nat} {rs : List (List Wd)} (k : ∀ a xs, SqT K H a xs → SqT K H' a xs) (h : HsAt K H p cs rs) : HsAt K H' p cs rs := by
  obtain ⟨ra, rvs, a, b, c⟩ := h
  exact ⟨ra, rvs, k _ _ a, k _ _ b, c.mono k⟩
theorem HsAt.same {K : PySem.W.Frag} {H H' : Hp} {p : Addr} {cs : List Nat} {rs : List (List Wd)} (h : HsAt K H p cs rs) (e : Same H H') : HsAt K H' p cs rs := h.mono fun _ _ q => Same.tup e q
/-- what holds of letters and rules of a house -/
structure HsOk (cs : List Nat) (rs : List (List Wd)) : Prop where
  c6 : cs.length ≤ 6
  sm : ∀ c ∈ cs, c < 123
  sy : ∀ r ∈ rs, Sy cs r ∧ r.length ≤ 40
  few : rs.length ≤ 20
theorem wor_len {cs : List Nat} {rs : List (List Wd)} {bs : List Bool} (h : bs ∈ wor cs rs) : bs.length = cs.length := allW_len (List.mem_filter.mp h).1
theorem wor_le {cs : List Nat} {rs : List (List Wd)} (h : cs.length ≤ 6) : (wor cs rs).length ≤ 64 := by
  unfold wor
  refine Nat.le_trans (List.length_filter_le _ _) ?_
  rw [allW_length]
  exact Nat.le_trans (Nat.pow_le_pow_right (by decide) h) (by decide)
theorem map_take_one {α β : Type} (f : α → β) (l : List α) (i : Nat) (x : α) (h : l[i]? = some x) : (l.take (i + 1)).map f = (l.take i).map f ++ [f x] := by
  rw [List.take_add_one, h, List.map_append]
  rfl
def wsdat (l : List (List Bool)) : PyData := .tuple (l.map fun bs => .str (wtx bs))
theorem wtx_ok (bs : List Bool) : PyData.strOk (wtx bs) = true := by
  show (bs.map bc).toArray.all _ = true
  rw [List.all_toArray, List.all_map, List.all_eq_true]
  intro b _
  cases b <;> decide
theorem wsdat_ok : ∀ l : List (List Bool), PyData.canLayAll0 (l.map fun bs => .str (wtx bs)) = true ∧ PyData.depthAll (l.map fun bs => PyData.str (wtx bs)) = 0
  | [] => ⟨rfl, rfl⟩
  | b :: l => by
    obtain ⟨h1, h2⟩ := wsdat_ok l
    refine ⟨?_, ?_⟩
    · show (PyData.strOk (wtx b) && PyData.canLayAll0 (l.map fun bs => .str (wtx bs))) = true
      rw [wtx_ok, h1]
      rfl
    · show max 0 (PyData.depthAll (l.map fun bs => PyData.str (wtx bs))) = 0
      rw [h2]
      rfl
theorem wsdat_shaped (l : List (List Bool)) : SeqAt.shaped (wsdat l) = true := by
  obtain ⟨h1, h2⟩ := wsdat_ok l
  unfold SeqAt.shaped
  have e1 : (wsdat l).canLay0 = true := h1
  have e2 : (wsdat l).depth = 1 := by
    show PyData.depthAll (l.map fun bs => PyData.str (wtx bs)) + 1 = 1
    rw [h2]
  rw [e1, e2]
  rfl
theorem wsdp_all {K : PySem.W.Frag} {H : Hp} : ∀ l : List (List Bool), DpAll K H (wvs l) (l.map fun bs => .str (wtx bs))
  | [] => .nil
  | b :: l => .cons (.str (wtx b)) (wsdp_all l)
theorem wsdp {K : PySem.W.Frag} {H : Hp} {a : Addr} {l : List (List Bool)} (h : SqT K H a (wvs l)) : Dp K H (.ref a) (wsdat l) := .tup h (wsdp_all l)
theorem eqv_nilT (ds : List PyData) : PyData.eqv (.tuple ds) (.tuple []) = ds.isEmpty := by
  cases ds <;> rfl
theorem ws_empty (l : List (List Bool)) : PyData.eqv (wsdat l) (.tuple []) = l.isEmpty := by
  unfold wsdat
  rw [eqv_nilT, List.isEmpty_map]
def hdat (cs : List Nat) (rs : List (List Wd)) : PyData := .tuple [.str (tx cs), .tuple (rs.map wdat)]
end B
namespace B
open PySem PySem.Spec PyProof.Rows L2
section
variable {prog : Program} {w : World} {A : Around} {E : Value → Shared → Prop} {s : Shared}
end
end B
namespace B
open PySem PySem.Spec PyProof.Rows L2
structure Shw (n m : Nat) (d : PyData) : Prop where
  lay : d.canLay0 = true
  shw : d.showable = true
  dep : d.depth ≤ n
  blk : d.bulk ≤ m
  lvs : d.leavesShort 600 = true
theorem Shw.up {n m n' m' : Nat} {d : PyData} (h : Shw n m d) (a : n ≤ n') (b : m ≤ m') : Shw n' m' d := ⟨h.lay, h.shw, Nat.le_trans h.dep a, Nat.le_trans h.blk b, h.lvs⟩
theorem log2_lt {i : Int} (h : i.natAbs < 2 ^ 500) : i.natAbs.log2 < 500 := PySem.Flt.log2_lt_of (by decide) h
theorem Shw.int {i : Int} (h : i.natAbs < 2 ^ 500) : Shw 0 0 (.int i) := by
  have l := log2_lt h
  refine ⟨rfl, ?_, Nat.le_refl _, Nat.le_refl _, ?_⟩
  · show decide (i.natAbs.log2 < 1920) = true
    exact decide_eq_true (by omega)
  · show decide ((Str.ofString (toString i)).length ≤ 600) = true
    refine decide_eq_true ?_
    rw [PySem.ofString_length]
    exact Nat.le_trans (int_text_length_le (by decide) l) (by decide)
theorem Shw.str {x : Str} {m : Nat} (h : ∀ c ∈ x.cps.toList, c < 123) (hm : x.cps.size ≤ m) : Shw 0 m (.str x) := by
  refine ⟨?_, rfl, Nat.le_refl _, hm, ?_⟩
  · show x.cps.all _ = true
    rw [← Array.all_toList, List.all_eq_true]
    intro c hc
    exact decide_eq_true (Nat.lt_of_lt_of_le (h c hc) (by decide))
  · show (x.cps.toList.all fun c => decide (c < 16 ^ 8)) = true
    rw [List.all_eq_true]
    intro c hc
    exact decide_eq_true (Nat.lt_of_lt_of_le (h c hc) (by decide))
theorem shw_all {n m : Nat} : ∀ {ds : List PyData}, (∀ d ∈ ds, Shw n m d) → PyData.canLayAll0 ds = true ∧ PyData.showableAll ds = true ∧ PyData.depthAll ds ≤ n ∧ PyData.bulkAll ds ≤ ds.length * (m + 1) ∧ PyData.leavesShortAll 600 ds = true
  | [], _ => ⟨rfl, rfl, Nat.zero_le _, Nat.zero_le _, rfl⟩
  | d :: ds, h => by
    obtain ⟨a, b, c, e, f⟩ := shw_all fun x hx => h x (List.mem_cons_of_mem _ hx)
    have k := h d (List.mem_cons_self ..)
    refine ⟨?_, ?_, ?_, ?_, ?_⟩
    · show (d.canLay0 && PyData.canLayAll0 ds) = true
      rw [k.lay, a]; rfl
    · show (d.showable && PyData.showableAll ds) = true
      rw [k.shw, b]; rfl
    · show max d.depth (PyData.depthAll ds) ≤ n
      exact Nat.max_le.mpr ⟨k.dep, c⟩
    · show d.bulk + 1 + PyData.bulkAll ds ≤ (ds.length + 1) * (m + 1)
      have := k.blk
      rw [Nat.add_mul]
      omega
    · show (d.leavesShort 600 && PyData.leavesShortAll 600 ds) = true
      rw [k.lvs, f]; rfl
theorem Shw.tup {n m k : Nat} {ds : List PyData} (h : ∀ d ∈ ds, Shw n m d) (hk : ds.length ≤ k) : Shw (n + 1) (k * (m + 1)) (.tuple ds) := by
  obtain ⟨a, b, c, e, f⟩ := shw_all h
  exact ⟨a, b, Nat.succ_le_succ c, Nat.le_trans e (Nat.mul_le_mul_right _ hk), f⟩
theorem pair_shw {n m : Nat} {a b : PyData} (h : Shw n m a) (k : Shw n m b) : Shw (n + 1) (2 * (m + 1)) (.tuple [a, b]) := Shw.tup (fun d hd => by
  rcases List.mem_cons.mp hd with rfl | hd
  · exact h
  · rw [List.mem_singleton] at hd
    rw [hd]
    exact k) (Nat.le_refl 2)
theorem Shw.nodict {n m : Nat} {d : PyData} (h : Shw n m d) : d.hasDict = false := PyData.hasDict_of_canLay _ h.lay
theorem wd_signs {cs : List Nat} (hs : ∀ c ∈ cs, c < 123) (w : Wd) (h : ∀ c, w = .lt c → c ∈ cs) : (∀ c ∈ w.s.cps.toList, c < 123) ∧ w.s.cps.size ≤ 4 := by
  cases w with
  | lt c =>
    refine ⟨fun x hx => ?_, by show 1 ≤ 4; decide⟩
    have e : x ∈ [c] := hx
    rw [List.mem_singleton] at e
    rw [e]
    exact hs c (h c rfl)
  | yes => exact ⟨by decide, by decide⟩
  | no => exact ⟨by decide, by decide⟩
  | nt => exact ⟨by decide, by decide⟩
  | an => exact ⟨by decide, by decide⟩
  | orr => exact ⟨by decide, by decide⟩
  | sm => exact ⟨by decide, by decide⟩
theorem wdat_shw {cs : List Nat} (hs : ∀ c ∈ cs, c < 123) {r : List Wd} {k : Nat} (h : ∀ c, Wd.lt c ∈ r → c ∈ cs) (hk : r.length ≤ k) : Shw 1 (k * 5) (wdat r) := by
  refine Shw.tup (fun d hd => ?_) (by rw [List.length_map]; exact hk)
  obtain ⟨w, hw, rfl⟩ := List.mem_map.mp hd
  obtain ⟨a, b⟩ := wd_signs hs w fun c e => h c (by rw [← e]; exact hw)
  exact Shw.str a b
theorem tx_shw {cs : List Nat} (hs : ∀ c ∈ cs, c < 123) {k : Nat} (hk : cs.length ≤ k) : Shw 0 k (.str (tx cs)) := Shw.str hs hk
inductive F2 {α β : Type} (R : α → β → Prop) : List α → List β → Prop
  | nil : F2 R [] []
  | cons {a : α} {b : β} {as : List α} {bs : List β} : R a b → F2 R as bs → F2 R (a :: as) (b :: bs)
namespace F2
variable {α β : Type} {R S : α → β → Prop}
theorem len {as : List α} {bs : List β} (h : F2 R as bs) : as.length = bs.length := by
  induction h with
  | nil => rfl
  | cons _ _ ih => rw [List.length_cons, List.length_cons, ih]
theorem imp {as : List α} {bs : List β} (h : F2 R as bs) (f : ∀ a b, R a b → S a b) : F2 S as bs := by
  induction h with
  | nil => exact .nil
  | cons x _ ih => exact .cons (f _ _ x) ih
theorem app {as as' : List α} {bs bs' : List β} (h : F2 R as bs) (k : F2 R as' bs') : F2 R (as ++ as') (bs ++ bs') := by
  induction h with
  | nil => exact k
  | cons x _ ih => exact .cons x ih
theorem one {a : α} {b : β} (h : R a b) : F2 R [a] [b] := .cons h .nil
theorem getA {as : List α} {bs : List β} (h : F2 R as bs) : ∀ {j : Nat} {a : α}, as[j]? = some a → ∃ b, bs[j]? = some b ∧ R a b := by
  induction h with
  | nil => intro j a e; simp at e
  | cons x _ ih =>
    intro j a e
    cases j with
    | zero => cases e; exact ⟨_, rfl, x⟩
    | succ j => exact ih e
theorem getB {as : List α} {bs : List β} (h : F2 R as bs) : ∀ {j : Nat} {b : β}, bs[j]? = some b → ∃ a, as[j]? = some a ∧ R a b := by
  induction h with
  | nil => intro j a e; simp at e
  | cons x _ ih =>
    intro j a e
    cases j with
    | zero => cases e; exact ⟨_, rfl, x⟩
    | succ j => exact ih e
end F2
theorem take_one {α : Type} (l : List α) (i : Nat) (x : α) (h : l[i]? = some x) : l.take (i + 1) = l.take i ++ [x] := by
  rw [List.take_add_one, h]
  rfl
def addF (p q : Int × Nat) : Int × Nat := (addT p.1 p.2 q.1 q.2, addB p.1 p.2 q.1 q.2)
/-- a fraction, its parts below 2 ^ n -/
structure Fok (n : Nat) (p : Int × Nat) : Prop where
  f : IsF p.1 p.2
  z : Fz p.1 p.2 n
theorem Fok.up {n m : Nat} {p : Int × Nat} (h : Fok n p) (e : n ≤ m) : Fok m p := ⟨h.f, h.z.more e⟩
theorem Fok.zero {n : Nat} (h : 1 ≤ n) : Fok n (0, 1) := ⟨⟨by decide, by decide⟩, ⟨Nat.pow_pos (by decide), Nat.lt_of_lt_of_le (by decide : (1 : Nat) < 2 ^ 1) (Nat.pow_le_pow_right (by decide) h)⟩⟩
theorem Fok.add {n m : Nat} {p q : Int × Nat} (a : Fok n p) (b : Fok m q) : Fok (n + m + 1) (addF p q) := ⟨add_isF a.f.pos b.f.pos, add_z a.f.pos b.f.pos a.z b.z⟩
/-- a fraction stands at v -/
def FAt (K : PySem.W.Frag) (H : Hp) (v : V) (p : Int × Nat) : Prop := ∃ a, v = .ref a ∧ SqT K H a [.int p.1, .int p.2]
theorem FAt.mono {K : PySem.W.Frag} {H H' : Hp} {v : V} {p : Int × Nat} (k : ∀ a xs, SqT K H a xs → SqT K H' a xs) (h : FAt K H v p) : FAt K H' v p := by
  obtain ⟨a, e, t⟩ := h
  exact ⟨a, e, k _ _ t⟩
structure Tm where
  a : Int × Nat
  w : List Wd
/-- a term stands at v -/
def TmAt (K : PySem.W.Frag) (H : Hp) (v : V) (x : Tm) : Prop := ∃ p f c : Addr, v = .ref p ∧ SqT K H p [.ref f, .ref c] ∧ SqT K H f [.int x.a.1, .int x.a.2] ∧ SqT K H c (x.w.map wv)
theorem TmAt.mono {K : PySem.W.Frag} {H H' : Hp} {v : V} {x : Tm} (k : ∀ a xs, SqT K H a xs → SqT K H' a xs) (h : TmAt K H v x) : TmAt K H' v x := by
  obtain ⟨p, f, c, e, a, b, d⟩ := h
  exact ⟨p, f, c, e, k _ _ a, k _ _ b, k _ _ d⟩
/-- a bet stands at a: terms, given -/
def BtAt (K : PySem.W.Frag) (H : Hp) (a : Addr) (ts : List Tm) (g : List Wd) : Prop := ∃ (p c : Addr) (vs : List V), SqT K H a [.ref p, .ref c] ∧ SqT K H p vs ∧ F2 (TmAt K H) vs ts ∧ SqT K H c (g.map wv)
theorem BtAt.mono {K : PySem.W.Frag} {H H' : Hp} {a : Addr} {ts : List Tm} {g : List Wd} (k : ∀ a xs, SqT K H a xs → SqT K H' a xs) (h : BtAt K H a ts g) : BtAt K H' a ts g := by
  obtain ⟨p, c, vs, x, y, z, u⟩ := h
  exact ⟨p, c, vs, k _ _ x, k _ _ y, z.imp fun _ _ h => h.mono k, k _ _ u⟩
theorem BtAt.same {K : PySem.W.Frag} {H H' : Hp} {a : Addr} {ts : List Tm} {g : List Wd} (h : BtAt K H a ts g) (e : Same H H') : BtAt K H' a ts g := h.mono fun _ _ q => Same.tup e q
structure TmOk (cs : List Nat) (x : Tm) : Prop where
  a : Fok 240 x.a
  sy : Sy cs x.w
  ln : x.w.length ≤ 50
structure BtOk (cs : List Nat) (ts : List Tm) (g : List Wd) : Prop where
  tm : ∀ x ∈ ts, TmOk cs x
  few : ts.length ≤ 16
  sy : Sy cs g
  ln : g.length ≤ 50
def pay (v : Nat → Bool) (ts : List Tm) : Int × Nat := ts.foldl (fun s x => if sval v x.w then addF s x.a else s) (0, 1)
theorem pay_snoc (v : Nat → Bool) (ts : List Tm) (x : Tm) : pay v (ts ++ [x]) = if sval v x.w then addF (pay v ts) x.a else pay v ts := by
  unfold pay
  rw [List.foldl_append]
  rfl
theorem pay_take (v : Nat → Bool) {ts : List Tm} {i : Nat} {x : Tm} (h : ts[i]? = some x) : pay v (ts.take (i + 1)) = if sval v x.w then addF (pay v (ts.take i)) x.a else pay v (ts.take i) := by
  rw [take_one _ _ _ h, pay_snoc]
theorem pay_ok (v : Nat → Bool) {n : Nat} : ∀ {ts : List Tm}, (∀ x ∈ ts, Fok n x.a) → ∀ i, Fok ((n + 1) * i + 1) (pay v (ts.take i))
  | ts, h, 0 => by
    rw [List.take_zero]
    exact Fok.zero (by omega)
  | ts, h, i + 1 => by
    cases e : ts[i]? with
    | none =>
      have l : ts.length ≤ i := List.getElem?_eq_none_iff.mp e
      rw [List.take_of_length_le (by omega), ← List.take_of_length_le l]
      exact (pay_ok v h i).up (by rw [Nat.mul_add]; omega)
    | some x =>
      rw [pay_take v e]
      have a := h x (List.mem_of_getElem? e)
      split
      · exact ((pay_ok v h i).add a).up (by rw [Nat.mul_add]; omega)
      · exact (pay_ok v h i).up (by rw [Nat.mul_add]; omega)
theorem pay_okB (v : Nat → Bool) {cs : List Nat} {ts : List Tm} {g : List Wd} (h : BtOk cs ts g) (i : Nat) : Fok 390000 (pay v (ts.take i)) := by
  by_cases l : i ≤ 16
  · exact (pay_ok v (fun x hx => (h.tm x hx).a) i).up (by omega)
  · have e : ts.take i = ts.take 16 := by rw [List.take_of_length_le (by have := h.few; omega), List.take_of_length_le h.few]
    rw [e]
    exact (pay_ok v (fun x hx => (h.tm x hx).a) 16).up (by omega)
def payO (v : Nat → Bool) (ts : List Tm) (g : List Wd) : Option (Int × Nat) := if sval v g then some (pay v ts) else none
/-- None or a fraction stands at u -/
def PdAt (K : PySem.W.Frag) (H : Hp) (u : V) : Option (Int × Nat) → Prop
  | none => u = .non
  | some p => FAt K H u p
theorem PdAt.mono {K : PySem.W.Frag} {H H' : Hp} {u : V} (k : ∀ a xs, SqT K H a xs → SqT K H' a xs) : ∀ {o : Option (Int × Nat)}, PdAt K H u o → PdAt K H' u o
  | none, h => h
  | some _, h => FAt.mono k h
def OOk (n : Nat) : Option (Int × Nat) → Prop
  | none => True
  | some p => Fok n p
def fdat (p : Int × Nat) : PyData := .tuple [.int p.1, .int p.2]
def tdat (x : Tm) : PyData := .tuple [fdat x.a, wdat x.w]
def bdat (ts : List Tm) (g : List Wd) : PyData := .tuple [.tuple (ts.map tdat), wdat g]
theorem fdat_shw {n : Nat} {p : Int × Nat} (h : Fok n p) (hn : n ≤ 500) : Shw 1 2 (fdat p) :=
  pair_shw (n := 0) (m := 0) (Shw.int (h.z.more hn).t) (Shw.int (by rw [Int.natAbs_natCast]; exact (h.z.more hn).b))
theorem bdat_shw {cs : List Nat} {ts : List Tm} {g : List Wd} (hs : ∀ c ∈ cs, c < 123) (h : BtOk cs ts g) : Shw 4 16100 (bdat ts g) := by
  have a : Shw 3 8048 (.tuple (ts.map tdat)) := by
    refine Shw.tup (n := 2) (m := 502) (k := 16) (fun d hd => ?_) (by rw [List.length_map]; exact h.few)
    obtain ⟨x, hx, rfl⟩ := List.mem_map.mp hd
    have o := h.tm x hx
    exact pair_shw (n := 1) (m := 250) ((fdat_shw o.a (by decide)).up (by decide) (by decide)) ((wdat_shw (k := 50) hs o.sy.lt o.ln).up (by decide) (by decide))
  exact (pair_shw a ((wdat_shw (k := 50) hs h.sy.lt h.ln).up (by decide) (by decide))).up (by decide) (by decide)
theorem FAt.dp {K : PySem.W.Frag} {H : Hp} {v : V} {p : Int × Nat} (h : FAt K H v p) : Dp K H v (fdat p) := by
  obtain ⟨a, rfl, t⟩ := h
  exact dp2 t
theorem F2.dp {K : PySem.W.Frag} {H : Hp} {α : Type} {R : V → α → Prop} {f : α → PyData} (g : ∀ v x, R v x → Dp K H v (f x)) {vs : List V} {xs : List α} (h : F2 R vs xs) : DpAll K H vs (xs.map f) := by
  induction h with
  | nil => exact .nil
  | cons x _ ih => exact .cons (g _ _ x) ih
theorem TmAt.dp {K : PySem.W.Frag} {H : Hp} {v : V} {x : Tm} (h : TmAt K H v x) : Dp K H v (tdat x) := by
  obtain ⟨p, f, c, rfl, a, b, d⟩ := h
  exact .tup a (.cons (dp2 b) (.cons (wdp d) .nil))
theorem bdp {K : PySem.W.Frag} {H : Hp} {a : Addr} {ts : List Tm} {g : List Wd} (h : BtAt K H a ts g) : Dp K H (.ref a) (bdat ts g) := by
  obtain ⟨p, c, vs, x, y, z, u⟩ := h
  exact .tup x (.cons (.tup y (z.dp fun _ _ h => h.dp)) (.cons (wdp u) .nil))
end B
namespace B
open PySem PySem.Spec PyProof.Rows L2
def tabO (cs : List Nat) (ts : List Tm) (g : List Wd) (wl : List (List Bool)) : List (Option (Int × Nat)) := wl.map fun bs => payO (vl cs bs) ts g
theorem tabO_take {cs : List Nat} {ts : List Tm} {g : List Wd} {wl : List (List Bool)} {j : Nat} {bs : List Bool} (h : wl[j]? = some bs) : tabO cs ts g (wl.take (j + 1)) = tabO cs ts g (wl.take j) ++ [payO (vl cs bs) ts g] := map_take_one _ _ _ _ h
theorem wvs_get {wl : List (List Bool)} {j : Nat} {x : V} (h : (wvs wl)[j]? = some x) : ∃ bs, wl[j]? = some bs ∧ x = .str (wtx bs) := by
  unfold wvs at h
  rw [List.getElem?_map] at h
  cases e : wl[j]? with
  | none => rw [e] at h; cases h
  | some bs => rw [e] at h; cases h; exact ⟨bs, rfl, rfl⟩
theorem wvs_len (wl : List (List Bool)) : (wvs wl).length = wl.length := List.length_map ..
theorem same_mut {H H' : Hp} {D : Addr} {o : HO} (n : H D = none) (s : Same H H') : Same H (upd H' D o) := fun a x e => by
  rw [upd_ne (ne_of_none e n)]
  exact s _ _ e
theorem kp_mut {d : Dr} {H H' : Hp} {D : Addr} {o : HO} (n : H D = none) (s : Kp d H H') : Kp d H (upd H' D o) := fun a x e n1 n2 => by
  rw [upd_ne (ne_of_none e n)]
  exact s _ _ e n1 n2
/-- a drawn term, a drawn bet -/
structure TmSm (cs : List Nat) (x : Tm) : Prop where
  a : Fok 80 x.a
  sy : Sy cs x.w
  ln : x.w.length ≤ 10
structure BtSm (n : Nat) (ts : List Tm) (g : List Wd) : Prop where
  few : ts.length ≤ n
  tm : ∀ x ∈ ts, Fok 80 x.a ∧ x.w.length ≤ 10
  ln : g.length ≤ 10
end B
namespace B
open PySem PySem.Spec PyProof.Rows L2
end B
namespace B
open PySem PySem.Spec PyProof.Rows L2
end B
namespace B
open PySem PySem.Spec PyProof.Rows L2
end B
namespace B
open PySem PySem.Spec PyProof.Rows L2
/-- tuples stay tuples -/
def Tk (K : PySem.W.Frag) (H H' : Hp) : Prop := ∀ a xs, SqT K H a xs → SqT K H' a xs
theorem Same.tk {K : PySem.W.Frag} {H H' : Hp} (e : Same H H') : Tk K H H' := fun _ _ h => Same.tup e h
/-- what the turns of such a comprehension keep -/
structure LcI {β : Type} (D : Addr) (H1 : Hp) (R : Hp → V → β → Prop) (L : List β) (H : Hp) : Prop where
  ex : ∃ vs, H D = some (.lst vs) ∧ F2 (R H) vs L
  sm : Same H1 H
theorem F2.none {α β : Type} {R : α → β → Prop} : F2 R [] [] := .nil
section
variable {K : PySem.W.Frag} {a : Addr} {xs : List V} {g : TG} {tt : TT} {te : TE} {vs : List Nat} {σ : L2.St} {H1 : Hp} {D : Addr} {Qd : Hp → Prop} {α β : Type} {R : Hp → V → β → Prop} {IR : V → α → Prop}
theorem fm_take {L : List α} {out : α → Option β} {i : Nat} {x : α} (h : L[i]? = some x) : (L.take (i + 1)).filterMap out = (L.take i).filterMap out ++ (match out x with | some z => [z] | none => []) := by
  rw [take_one _ _ _ h, List.filterMap_append]
  cases e : out x with
  | none => simp [List.filterMap_cons, e]
  | some z => simp [List.filterMap_cons, e]
theorem LcI.step {L : List α} {out : α → Option β} {i : Nat} {x : α} {H H4 : Hp} {y : V} {z : β} (mono : ∀ H H' v y, Tk K H H' → R H v y → R H' v y) (nD : H1 D = none) (sz : L.length < sizeLine) (h : L[i]? = some x) (I : LcI D H1 R ((L.take i).filterMap out) H) (s : Same H H4) (e : out x = some z) (r : R H4 y z) :
    ∃ acc, H4 D = some (.lst acc) ∧ acc.length < sizeLine ∧ LcI D H1 R ((L.take (i + 1)).filterMap out) (upd H4 D (.lst (acc ++ [y]))) := by
  obtain ⟨⟨acc, hD, f⟩, sm⟩ := I
  have hD4 := s _ _ hD
  have tk : Tk K H4 (upd H4 D (.lst (acc ++ [y]))) := fun p ps t => tup_upd hD4 t
  refine ⟨acc, hD4, ?_, ⟨acc ++ [y], upd_same, ?_⟩, same_mut nD (sm.trans s)⟩
  · rw [f.len]
    refine Nat.lt_of_le_of_lt (Nat.le_trans (List.length_filterMap_le _ _) ?_) sz
    rw [List.length_take]
    exact Nat.min_le_right _ _
  · rw [fm_take h, e]
    exact (f.imp fun v w q => mono _ _ _ _ tk (mono _ _ _ _ (Same.tk s) q)).app (F2.one (mono _ _ _ _ tk r))
theorem LcI.skip {L : List α} {out : α → Option β} {i : Nat} {x : α} {H H3 : Hp} (mono : ∀ H H' v y, Tk K H H' → R H v y → R H' v y) (h : L[i]? = some x) (I : LcI D H1 R ((L.take i).filterMap out) H) (s : Same H H3) (e : out x = none) : LcI D H1 R ((L.take (i + 1)).filterMap out) H3 := by
  obtain ⟨⟨acc, hD, f⟩, sm⟩ := I
  refine ⟨⟨acc, s _ _ hD, ?_⟩, sm.trans s⟩
  rw [fm_take h, e, List.append_nil]
  exact f.imp fun v w q => mono _ _ _ _ (Same.tk s) q
/-- [e for x in a tuple if c] -/
theorem lcp_tup (L : List α) (out : α → Option β) (mono : ∀ H H' v y, Tk K H H' → R H v y → R H' v y) (hx : F2 IR xs L) (nD : H1 D = none) (tp : SqT K H1 a xs) (sz : xs.length < sizeLine)
    (hs : ∀ v x H, IR v x → x ∈ L → Same H1 H → ∀ (Y : V → Hp → Prop) (N : Hp → Prop), (∀ y H4 z, Same H H4 → out x = some z → R H4 y z → Y y H4) → (∀ H3, Same H H3 → out x = none → N H3) →
      g v (wipe σ vs) H fun σ2 H2 => wipe σ2 vs = wipe σ vs ∧ tt σ2 H2 fun b H3 => if b = true then te σ2 H3 Y else N H3)
    (hd : ∀ H ys, H D = some (.lst ys) → F2 (R H) ys (L.filterMap out) → Same H1 H → Qd H) :
    ∃ W : Nat → Nat → Hp → Prop, (∃ m, W 0 m (upd H1 D (.lst []))) ∧ ∀ i m H, W i m H →
      ((Itt K a).stop i H ∧ Qd H) ∨ ((Itt K a).go i H ∧ ∃ Nx : Hp → Prop, (∀ H', Nx H' → ∃ m', m' < m ∧ W (i + 1) m' H') ∧ ∀ x H', (Itt K a).yld i H x H' → g x (wipe σ vs) H' fun σ2 H2 => wipe σ2 vs = wipe σ vs ∧ tt σ2 H2 fun b H3 =>
        if b = true then te σ2 H3 fun y H4 => ∃ acc, H4 D = some (.lst acc) ∧ acc.length < sizeLine ∧ Nx (upd H4 D (.lst (acc ++ [y]))) else Nx H3) := by
  have el := hx.len
  refine lc_tup (K := K) (a := a) (xs := xs) (fun j H' => LcI D H1 R ((L.take j).filterMap out) H') ⟨⟨[], upd_same, F2.none⟩, same_upd nD⟩ (fun j H' _ I => Same.tup I.sm tp) ?_ ?_
  · intro i v H hv I
    obtain ⟨x, hL, r⟩ := hx.getA hv
    exact hs v x H r (List.mem_of_getElem? hL) I.sm _ _ (fun y H4 z s e q => I.step mono nD (by rw [← el]; exact sz) hL s e q) (fun H3 s e => I.skip mono hL s e)
  · intro H I
    obtain ⟨⟨ys, hD, f⟩, sm⟩ := I
    rw [el, List.take_length] at f
    exact hd H ys hD f sm
/-- [e for x in a list if c] -/
theorem lcp_list (L : List α) (out : α → Option β) (mono : ∀ H H' v y, Tk K H H' → R H v y → R H' v y) (hx : F2 IR xs L) (nD : H1 D = none) (tp : H1 a = some (.lst xs)) (sz : xs.length < sizeLine)
    (hs : ∀ v x H, IR v x → x ∈ L → Same H1 H → ∀ (Y : V → Hp → Prop) (N : Hp → Prop), (∀ y H4 z, Same H H4 → out x = some z → R H4 y z → Y y H4) → (∀ H3, Same H H3 → out x = none → N H3) →
      g v (wipe σ vs) H fun σ2 H2 => wipe σ2 vs = wipe σ vs ∧ tt σ2 H2 fun b H3 => if b = true then te σ2 H3 Y else N H3)
    (hd : ∀ H ys, H D = some (.lst ys) → F2 (R H) ys (L.filterMap out) → Same H1 H → Qd H) :
    ∃ W : Nat → Nat → Hp → Prop, (∃ m, W 0 m (upd H1 D (.lst []))) ∧ ∀ i m H, W i m H →
      ((Itl K a).stop i H ∧ Qd H) ∨ ((Itl K a).go i H ∧ ∃ Nx : Hp → Prop, (∀ H', Nx H' → ∃ m', m' < m ∧ W (i + 1) m' H') ∧ ∀ x H', (Itl K a).yld i H x H' → g x (wipe σ vs) H' fun σ2 H2 => wipe σ2 vs = wipe σ vs ∧ tt σ2 H2 fun b H3 =>
        if b = true then te σ2 H3 fun y H4 => ∃ acc, H4 D = some (.lst acc) ∧ acc.length < sizeLine ∧ Nx (upd H4 D (.lst (acc ++ [y]))) else Nx H3) := by
  have el := hx.len
  refine lc_list (K := K) (a := a) (xs := xs) (fun j H' => LcI D H1 R ((L.take j).filterMap out) H') ⟨⟨[], upd_same, F2.none⟩, same_upd nD⟩ (fun j H' _ I => .inl (.inl (I.sm _ _ tp))) ?_ ?_
  · intro i v H hv I
    obtain ⟨x, hL, r⟩ := hx.getA hv
    exact hs v x H r (List.mem_of_getElem? hL) I.sm _ _ (fun y H4 z s e q => I.step mono nD (by rw [← el]; exact sz) hL s e q) (fun H3 s e => I.skip mono hL s e)
  · intro H I
    obtain ⟨⟨ys, hD, f⟩, sm⟩ := I
    rw [el, List.take_length] at f
    exact hd H ys hD f sm
end
theorem fm_some {α β : Type} (f : α → β) (L : List α) : L.filterMap (fun x => some (f x)) = L.map f := by
  induction L with
  | nil => rfl
  | cons x r ih => rw [List.filterMap_cons, ih]; rfl
end B
namespace B
open PySem PySem.Spec PyProof.Rows L2
theorem eqvAll_iff {α : Type} {f : α → PyData} (inj : ∀ x y, PyData.eqv (f x) (f y) = true ↔ x = y) : ∀ xs ys : List α, PyData.eqvAll (xs.map f) (ys.map f) = true ↔ xs = ys
  | [], [] => ⟨fun _ => rfl, fun _ => rfl⟩
  | x :: xs, y :: ys => by
    rw [List.map_cons, List.map_cons, PyData.eqvAll, Bool.and_eq_true, inj, eqvAll_iff inj xs ys, List.cons.injEq]
  | [], _ :: _ => ⟨(fun h => nomatch h), (fun h => nomatch h)⟩
  | _ :: _, [] => ⟨(fun h => nomatch h), (fun h => nomatch h)⟩
theorem sg_inj {a b : Nat} (h : sg a = sg b) : a = b := by
  have := tx_inj (show tx [a] = tx [b] from h)
  exact (List.cons.inj this).1
theorem wds_inj {w u : Wd} (h : w.s = u.s) : w = u := by
  have big : ∀ v : Wd, v.isLt = false → v.s.cps.size ≠ 1 := fun v hv => by
    cases v with
    | lt c => exact Bool.noConfusion (show true = false from hv)
    | _ => decide +kernel
  cases w with
  | lt a =>
    cases u with
    | lt b => rw [sg_inj h]
    | _ => exact absurd h (sg_ne (big _ rfl))
  | _ =>
    cases u with
    | lt b => exact absurd h.symm (sg_ne (big _ rfl))
    | _ => first | rfl | exact absurd h (by decide +kernel)
theorem str_iff (x y : Str) : PyData.eqv (.str x) (.str y) = true ↔ x = y := by
  rw [PyData.eqv]
  exact beq_iff_eq
theorem wdat_iff (r s : List Wd) : PyData.eqv (wdat r) (wdat s) = true ↔ r = s := by
  show PyData.eqvAll (r.map fun w => .str w.s) (s.map fun w => .str w.s) = true ↔ r = s
  exact eqvAll_iff (fun x y => (str_iff _ _).trans ⟨wds_inj, fun e => by rw [e]⟩) r s
/-- a bet with the same terms and another given -/
theorem BtAt.parts {K : PySem.W.Frag} {H : Hp} {a : Addr} {ts : List Tm} {g : List Wd} (h : BtAt K H a ts g) : ∃ (p c : Addr) (vs : List V), SqT K H a [.ref p, .ref c] ∧ SqT K H p vs ∧ F2 (TmAt K H) vs ts ∧ SqT K H c (g.map wv) := h
theorem tms_same {K : PySem.W.Frag} {H H' : Hp} {vs : List V} {ts : List Tm} (h : F2 (TmAt K H) vs ts) (e : Same H H') : F2 (TmAt K H') vs ts := h.imp fun _ _ t => t.mono fun _ _ q => Same.tup e q
theorem tms_tk {K : PySem.W.Frag} {H H' : Hp} {vs : List V} {ts : List Tm} (h : F2 (TmAt K H) vs ts) (e : Tk K H H') : F2 (TmAt K H') vs ts := h.imp fun _ _ t => t.mono e
/-- the heap that is come to -/
abbrev tgt {H H' : Hp} (_ : Same H H') : Hp := H'
end B
namespace B
open PySem PySem.Spec PyProof.Rows L2
def mulF (p q : Int × Nat) : Int × Nat := (mulT p.1 p.2 q.1 q.2, mulB p.1 p.2 q.1 q.2)
theorem Fok.mul {n m : Nat} {p q : Int × Nat} (a : Fok n p) (b : Fok m q) : Fok (n + m) (mulF p q) := ⟨mul_isF a.f.pos b.f.pos, mul_z a.f.pos b.f.pos a.z b.z⟩
/-- a bid -/
structure Bd where
  ts : List Tm
  g : List Wd
  p : Int × Nat
def BdAt (K : PySem.W.Frag) (H : Hp) (v : V) (x : Bd) : Prop := ∃ q a f : Addr, v = .ref q ∧ SqT K H q [.ref a, .ref f] ∧ BtAt K H a x.ts x.g ∧ SqT K H f [.int x.p.1, .int x.p.2]
theorem BdAt.mono {K : PySem.W.Frag} {H H' : Hp} {v : V} {x : Bd} (k : ∀ a xs, SqT K H a xs → SqT K H' a xs) (h : BdAt K H v x) : BdAt K H' v x := by
  obtain ⟨q, a, f, e, t, b, c⟩ := h
  exact ⟨q, a, f, e, k _ _ t, b.mono k, k _ _ c⟩
structure BdOk (cs : List Nat) (z zp : Nat) (x : Bd) : Prop where
  bt : BtOk cs x.ts x.g
  pz : ∀ v : Nat → Bool, Fok z (pay v x.ts)
  pp : Fok zp x.p
theorem pay_all (v : Nat → Bool) {n m : Nat} {ts : List Tm} (h : ∀ x ∈ ts, Fok n x.a) (l : ts.length ≤ m) : Fok ((n + 1) * m + 1) (pay v ts) := by
  have := pay_ok v h ts.length
  rw [List.take_length] at this
  exact this.up (by have := Nat.mul_le_mul_left (n + 1) l; omega)
/-- bids with stakes, as they stand -/
theorem zip_get {α β : Type} {as : List α} {bs : List β} {i : Nat} {a : α} {b : β} (h : as[i]? = some a) (k : bs[i]? = some b) : (as.zip bs)[i]? = some (a, b) := by
  rw [List.getElem?_zip_eq_some]
  exact ⟨h, k⟩
def kdat (x : Bd) : PyData := .tuple [bdat x.ts x.g, fdat x.p]
theorem BdAt.dp {K : PySem.W.Frag} {H : Hp} {v : V} {x : Bd} (h : BdAt K H v x) : Dp K H v (kdat x) := by
  obtain ⟨q, a, f, rfl, t, b, c⟩ := h
  exact .tup t (.cons (bdp b) (.cons (dp2 c) .nil))
theorem bds_tk {K : PySem.W.Frag} {H H' : Hp} {vs : List V} {xs : List Bd} (h : F2 (BdAt K H) vs xs) (k : Tk K H H') : F2 (BdAt K H') vs xs := h.imp fun _ _ q => q.mono k
theorem fas_tk {K : PySem.W.Frag} {H H' : Hp} {vs : List V} {xs : List (Int × Nat)} (h : F2 (FAt K H) vs xs) (k : Tk K H H') : F2 (FAt K H') vs xs := h.imp fun _ _ q => q.mono k
theorem hdat_shw3 {cs : List Nat} {rs : List (List Wd)} (h : HsOk cs rs) (k : rs.length ≤ 3) (l : ∀ r ∈ rs, r.length ≤ 14) : Shw 3 430 (hdat cs rs) := by
  have a : Shw 2 213 (.tuple (rs.map wdat)) := Shw.tup (n := 1) (m := 70) (k := 3) (fun d hd => by
    obtain ⟨r, hr, rfl⟩ := List.mem_map.mp hd
    exact wdat_shw (k := 14) h.sm (h.sy r hr).1.lt (l r hr)) (by rw [List.length_map]; exact k)
  exact (pair_shw (n := 2) (m := 213) ((tx_shw (k := 6) h.sm h.c6).up (by decide) (by decide)) a).up (by decide) (by decide)
/-- what of a table is not None -/
def somes (l : List (Option (Int × Nat))) : List (Int × Nat) := l.filterMap id
theorem odats_shaped (l : List (Int × Nat)) : SeqAt.shaped (.list (l.map fdat)) = true := by
  have a : ∀ l : List (Int × Nat), PyData.canLayAll0 (l.map fdat) = true ∧ PyData.depthAll (l.map fdat) ≤ 1 := by
    intro l
    induction l with
    | nil => exact ⟨rfl, Nat.zero_le _⟩
    | cons x r ih =>
      refine ⟨?_, ?_⟩
      · show (PyData.canLay0 (fdat x) && PyData.canLayAll0 (r.map fdat)) = true
        rw [ih.1]
        rfl
      · show max 1 (PyData.depthAll (r.map fdat)) ≤ 1
        have := ih.2
        omega
  have h := a l
  unfold SeqAt.shaped
  rw [show (PyData.list (l.map fdat)).canLay0 = true from h.1]
  have : (PyData.list (l.map fdat)).depth ≤ 64 := by
    show PyData.depthAll (l.map fdat) + 1 ≤ 64
    have := h.2
    omega
  rw [decide_eq_true this]
  rfl
theorem tabO_len (cs : List Nat) (ts : List Tm) (g : List Wd) (wl : List (List Bool)) : (tabO cs ts g wl).length = wl.length := List.length_map ..
theorem pdAt_notNone {K : PySem.W.Frag} {H : Hp} {v : V} {o : Option (Int × Nat)} (h : PdAt K H v o) : (!decide (v = .non)) = o.isSome := by
  cases o with
  | none =>
    obtain rfl : v = .non := h
    rfl
  | some p =>
    obtain ⟨a, rfl, _⟩ := h
    rfl
theorem somes_yes {cs : List Nat} {rs : List (List Wd)} (ts : List Tm) (h : wor cs rs ≠ []) : somes (tabO cs ts [.yes] (wor cs rs)) ≠ [] := by
  cases e : wor cs rs with
  | nil => exact absurd e h
  | cons b r =>
    intro z
    have : (somes (tabO cs ts [.yes] (b :: r))).length = 0 := by rw [z]; rfl
    exact absurd this (by
      show (List.filterMap id (some (pay (vl cs b) ts) :: _)).length ≠ 0
      rw [List.filterMap_cons]
      simp)
end B
namespace B
open PySem PySem.Spec PyProof.Rows L2
theorem wor_snoc (cs : List Nat) (rs : List (List Wd)) (ws : List Wd) : wor cs (rs ++ [ws]) = (wor cs rs).filter fun bs => sval (vl cs bs) ws := by
  unfold wor
  rw [List.filter_filter]
  congr 1
  funext bs
  rw [List.all_append, Bool.and_comm]
  congr 1
  show (sval (vl cs bs) ws && true) = _
  rw [Bool.and_true]
theorem F2.take {α β : Type} {R : α → β → Prop} {as : List α} {bs : List β} (h : F2 R as bs) : ∀ n, F2 R (as.take n) (bs.take n) := by
  induction h with
  | nil => intro n; rw [List.take_nil, List.take_nil]; exact .nil
  | cons r _ ih => intro n; cases n with
    | zero => exact .nil
    | succ n => exact .cons r (ih n)
theorem F2.drop {α β : Type} {R : α → β → Prop} {as : List α} {bs : List β} (h : F2 R as bs) : ∀ n, F2 R (as.drop n) (bs.drop n) := by
  induction h with
  | nil => intro n; rw [List.drop_nil, List.drop_nil]; exact .nil
  | cons r t ih => intro n; cases n with
    | zero => exact .cons r t
    | succ n => exact ih n
end B
namespace B
open PySem PySem.Spec PyProof.Rows L2
end B
namespace B
open PySem PySem.Spec PyProof.Rows L2
end B
namespace B
open PySem PySem.Spec PyProof.Rows L2
def iv (k : Nat) : V := .int (k : Int)
end B
namespace B
open PySem PySem.Spec PyProof.Rows L2
end B
namespace B
open PySem PySem.Spec PyProof.Rows L2
section
variable {prog : Program} {w : World} {A : Around} {E : Value → Shared → Prop} {s : Shared}
end
end B
namespace B
open PySem PySem.Spec PyProof.Rows L2
section
open AutoSeq1 (wpAny_loadPart')
set_option maxHeartbeats 1000000 in
theorem meets_enum1 {v : Value} {o : Obj} {H : Heap → Prop} (B : Begins v o H) :
    Meets (Builtin.«enumerate.__new__» ⟨[.type "enumerate", v], []⟩) (fun _ R s => H s.heap ∧
      R (.ok (.ret (.ref (s.heap.push o).objs.size))) { s with heap := (s.heap.push o).push { cls := .type "enumerate", data := .fields #[.none, .bool false, .ref s.heap.objs.size, rawInt 0, .none, .none] } }) :=
  .of_wp fun prog w A R s h => by
    obtain ⟨hp, g, d, tk, os⟩ := s; obtain ⟨h1, h⟩ := h
    have hsub := sub_enumerate
    have q1 : ∀ {A' : Around} {E : Value → Shared → Prop} {Q : Value → Shared → Prop}, Q (.ref hp.objs.size) ⟨hp.push o, g, d, tk, os⟩ → wpAny (model prog w) A' (pyIter v) Q E ⟨hp, g, d, tk, os⟩ :=
      fun q => B.iter prog w _ _ ⟨hp, g, d, tk, os⟩ _ h1 q
    wp_walk using q1
    refine wpAny_stack_any fun st => wpAny_pure ?_
    split
    · rename_i c _ _ _ _ _
      cases (c == Value.type "enumerate")
      · wp_walk using q1
        exact ⟨_, rfl, h⟩
      · wp_walk using q1
        exact ⟨_, rfl, h⟩
    · wp_walk using q1
      exact ⟨_, rfl, h⟩
end
section
variable {prog : Program} {w : World} {A : Around} {E : Value → Shared → Prop} {s : Shared}
theorem enum_begins1 {v : Value} {o : Obj} {H : Heap → Prop} {Q : Value → Shared → Prop} (B : Begins v o H) (h1 : H s.heap)
    (h : ∀ h', IsEnum h' (s.heap.objs.size + 1) s.heap.objs.size 0 .none → h'.get? s.heap.objs.size = some o → h'.objs.size = s.heap.objs.size + 2 →
      (∀ b o, s.heap.get? b = some o → h'.get? b = some o) → Q (.ref (s.heap.objs.size + 1)) { s with heap := h' }) :
    wpAny (model prog w) A (call (.type "enumerate") [v]) Q E s := by
  refine callType_new F.called_enumerate (by decide) (F.typeCall_enumerate_1 _) (F.newCall_enumerate_1 _) (fun obj => F.args_object_init_2 obj _) F.entry_enumerate_new
    (meets_enum1 B) ⟨h1, ?_⟩
  have hz : (s.heap.push o).objs.size = s.heap.objs.size + 1 := Heap.size_push ..
  show _ ∧ _
  rw [hz]
  have he : IsEnum ((s.heap.push o).push { cls := .type "enumerate", data := .fields #[.none, .bool false, .ref s.heap.objs.size, rawInt 0, .none, .none] }) (s.heap.objs.size + 1) s.heap.objs.size 0 .none := by
    have := Heap.get?_push_size (s.heap.push o) (o := { cls := .type "enumerate", data := .fields #[.none, .bool false, .ref s.heap.objs.size, rawInt 0, .none, .none] }) rfl
    rw [hz] at this; exact this
  exact ⟨⟨_, he, rfl⟩, h _ he (Heap.get?_push_of_some _ (Heap.get?_push_size _ B.free)) (by rw [Heap.size_push, hz]) fun b o x => Heap.get?_push_of_some _ (Heap.get?_push_of_some _ x)⟩
end
def ItE (K : PySem.W.Frag) (k1 : Kd) (v1 : V) : It :=
  ⟨fun i H => ∃ (xs : List V) (x : V), Src K H k1 v1 xs ∧ xs[i]? = some x,
    fun i H v H' => ∃ T x, v = .ref T ∧ H T = none ∧ H' = upd H T (.tup [.int (i : Nat), x]) ∧ (∀ xs, Src K H k1 v1 xs → xs[i]? = some x),
    fun i H => ∃ xs : List V, Src K H k1 v1 xs ∧ i = xs.length⟩
theorem turn_enumG {P : Program} {w : World} {K : PySem.W.Frag} {elts : List Expr} {kk : Nat} {tpos : Pos} {k1 : Kd} {v1 : V} {u1 : Value} {N : Nat} (r1 : RelV v1 u1) (l1 : ∀ a, u1 = .ref a → a < N) :
    Turn P w K (.Tuple elts kk tpos) (ItE K k1 v1) [N + 1, N] (N + 1) (fun i h => (∃ old, IsEnum h (N + 1) N (0 + (i : Int)) old) ∧ ItSt k1 u1 N i h) where
  mem := by simp
  obj := fun i h st c hc => by
    obtain ⟨⟨old, he⟩, s1⟩ := st
    have e' : c = N + 1 ∨ c = N := by simpa using hc
    rcases e' with q | q
    · rw [q]; exact ⟨_, he, fun v q => nomatch q⟩
    · rw [q]; exact s1.obj
  keep := fun i h h' st k => by
    obtain ⟨⟨old, he⟩, s1⟩ := st
    exact ⟨⟨old, k (N + 1) (by simp) _ he⟩, s1.keep fun o q => k N (by simp) o q⟩
  item := by
    intro X hP hw hK hc i pins s σ H E I hf st hg
    subst hP hw hK
    obtain ⟨he, s1⟩ := st
    obtain ⟨xs, x, hqx, hx⟩ := hg
    have hh : X.A.in1.handled = none := I.ok.hd hc
    obtain ⟨fp1, P1, St1, D1, c1, a1, b1, m1⟩ := Src.draws (it := N) I hqx r1 hh l1
    have W := GoesN.enumFrom (elts := elts) (x1 := kk) (pos := tpos) 0 D1 (N + 1) (Nat.succ_ne_self _) (notIn_new (j := 1) (i := 0) (fun b hb => l1 b (m1 b hb)) (by decide)) (List.mem_cons_self ..)
    have hi1 := (List.getElem?_eq_some_iff.mp hx).1
    refine W.goes i s (fun u s2 => ∃ x H', Inv X pins σ H' s2 ∧ RelV x u ∧ (ItE X.K k1 v1).yld i H x H' ∧ _ ∧ ∀ b ∈ [N + 1, N], H' b = none) E hi1 ⟨he, a1 i s1⟩ ?_
    rintro v h' tk ⟨T, t, p, rfl, hT, hp, ht⟩ st' hk htk
    obtain ⟨x', hx', rx⟩ := c1 i p hp
    have new : ObjOk X.prog X.w (upd H T (.tup [.int (i : Nat), x'])) h' T (.tup [.int (i : Nat), x']) := ⟨by show 2 ≤ sizeLine; decide, [.int (0 + (i : Int)) t, p], .cons ⟨t, by rw [Int.zero_add]⟩ (.cons rx .nil), ht⟩
    have I1 : Inv X pins σ (upd H T (.tup [.int (i : Nat), x'])) { s with heap := h', toks := tk } := I.turnedNew (ch := [N + 1, N]) (fun c o hb q => hk c o hb q) hf hT new
    have hTn := I.hok.fresh hT
    refine ⟨.ref T, _, I1, rfl, ⟨T, x', rfl, hTn, rfl, fun zs hz' => by rw [Src.inj I hz' hqx]; exact hx'⟩, ⟨?_, b1 _ _ st'.2⟩, fun c hc' => ?_⟩
    · obtain ⟨old, ho⟩ := st'.1
      exact ⟨old, ho⟩
    have hlt : c < s.heap.objs.size := by
      have e' : c = N + 1 ∨ c = N := by simpa using hc'
      rcases e' with q | q
      · rw [q]; obtain ⟨_, z⟩ := he; exact Heap.lt_size z
      · rw [q]; obtain ⟨_, z, _⟩ := s1.obj; exact Heap.lt_size z
    rw [upd_ne (Nat.ne_of_lt (Nat.lt_of_lt_of_le hlt hT))]
    exact (hf c hc').1
  done := by
    intro X hP hw hK hc i pins s σ H E I hf st hg
    subst hP hw hK
    obtain ⟨he, s1⟩ := st
    obtain ⟨xs, hqx, hend⟩ := hg
    have hh : X.A.in1.handled = none := I.ok.hd hc
    obtain ⟨fp1, P1, St1, D1, c1, a1, b1, m1⟩ := Src.draws (it := N) I hqx r1 hh l1
    have W := GoesN.enumFrom (elts := elts) (x1 := kk) (pos := tpos) 0 D1 (N + 1) (Nat.succ_ne_self _) (notIn_new (j := 1) (i := 0) (fun b hb => l1 b (m1 b hb)) (by decide)) (List.mem_cons_self ..)
    subst hend
    refine W.stops s (fun s1 => Inv X pins σ H s1) E ⟨he, a1 _ s1⟩ fun h' tk hk htk => ?_
    exact I.turnedL (ch := [N + 1, N]) (fun c o hb q => hk c o hb q) hf
  self := fun A i s Q E st h => let ⟨⟨_, he⟩, _⟩ := st; wpAny_pyIter_enum he h
def iEnumG (K : PySem.W.Frag) (ta : TA) : TI := fun σ H R => ta σ H fun vs H1 => ∃ k1 v1 xs, vs = [v1] ∧ Src K H1 k1 v1 xs ∧ R (ItE K k1 v1) H1
theorem pi_enumG {X : Cx} {e : Expr} {ta : TA} {p pos tpos : Pos} {elts : List Expr} {kk : Nat} (hg : Gl X "enumerate") (hm : X.mg "enumerate" = none) (ha : PA X [e] ta) (hs : starEach [e] X.env = [(false, eval e X.env)] := by rfl) :
    PI X (.Tuple elts kk tpos) (.Call (.Name "enumerate" p) [e] [] pos) (iEnumG X.K ta) := by
  refine ⟨fun pins s σ H R I h => ?_⟩
  refine Call_ (ld_blt I hg hm boot_enumerate (PyProof.Rows.callWith_type1 (thn (ha.run pos pins s σ H _ I h) fun us s1 ⟨vs, H1, I1, r1, q1⟩ => ?_) hs rfl))
  obtain ⟨k1, v1, xs, ex, hqx, q⟩ := q1
  subst ex
  cases r1 with
  | cons r rr =>
    cases rr
    obtain ⟨o1, G1, B1, g1, b1, l1⟩ := Src.begins I1 hqx r
    refine enum_begins1 B1 g1 fun h' he hit hsz hk => wpAny_pyIter_enum he ?_
    have I2 : Inv X pins σ H1 { s1 with heap := h' } := I1.kept (t' := s1.toks) hk
    refine ⟨s1.heap.objs.size + 1, [s1.heap.objs.size + 1, s1.heap.objs.size], _, _, H1, rfl, I2, turn_enumG r l1, ⟨⟨.none, he⟩, b1 h' _ hit⟩, fun b hb => ?_, q⟩
    have e' : b = s1.heap.objs.size + 1 ∨ b = s1.heap.objs.size := by simpa using hb
    have hle : s1.heap.objs.size ≤ b := by
      rcases e' with z | z
      · rw [z]; exact Nat.le_add_right _ _
      · rw [z]; exact Nat.le_refl _
    exact I1.fpOk hle (I1.hok.fresh hle)
theorem walk_enumG {K : PySem.W.Frag} {k1 : Kd} {v1 : V} {xs : List V} : Walk (ItE K k1 v1) xs.length (fun H => Src K H k1 v1 xs) (fun i H v H' => ∃ T x, v = .ref T ∧ H T = none ∧ H' = upd H T (.tup [.int (i : Nat), x]) ∧ xs[i]? = some x) :=
  ⟨fun i H hi q => ⟨xs, xs[i], q, List.getElem?_eq_getElem _⟩, fun H q => ⟨xs, q, rfl⟩,
    fun i H v H' hi q y => by
      obtain ⟨T, x, e, n, e2, h1⟩ := y
      exact ⟨T, x, e, n, e2, h1 xs q⟩⟩
end B
namespace B
open PySem PySem.Spec PyProof.Rows L2
section
variable {β : Type} {J : It} {n : Nat} {G : Hp → Prop} {Y : Nat → Hp → V → Hp → Prop} {K : PySem.W.Frag}
theorem lcpK_it (w : Walk J n G Y) {g : TG} {tt : TT} {te : TE} {vs : List Nat} {σ : L2.St} {H1 : Hp} {D : Addr} {Qd : Hp → Prop} (full : Bool) (d : Dr) (b c : Nat) (R : Hp → V → β → Prop) (mono : ∀ H H' v y, Tk K H H' → R H v y → R H' v y) (nD : H1 D = none) (sz : n < sizeLine)
    (w1 : Drw H1 d (b + c * n)) (hG : ∀ H, Kp d H1 H → G H)
    (hs : ∀ i x H H', i < n → Kp d H1 H → Drw H d (b + c * (n - i)) → Y i H x H' → ∀ (Y' : V → Hp → Prop) (N : Hp → Prop), (∀ y H4 z, Kp d H H4 → Drw H4 d (b + c * (n - (i + 1))) → R H4 y z → Y' y H4) → (∀ H3, full = false → Kp d H H3 → Drw H3 d (b + c * (n - (i + 1))) → N H3) →
      g x (wipe σ vs) H' fun σ2 H2 => wipe σ2 vs = wipe σ vs ∧ tt σ2 H2 fun b H3 => if b = true then te σ2 H3 Y' else N H3)
    (hd : ∀ H ys L, H D = some (.lst ys) → F2 (R H) ys L → L.length ≤ n → (full = true → L.length = n) → Kp d H1 H → Drw H d b → Qd H) :
    ∃ W : Nat → Nat → Hp → Prop, (∃ m, W 0 m (upd H1 D (.lst []))) ∧ ∀ i m H, W i m H →
      (J.stop i H ∧ Qd H) ∨ (J.go i H ∧ ∃ Nx : Hp → Prop, (∀ H', Nx H' → ∃ m', m' < m ∧ W (i + 1) m' H') ∧ ∀ x H', J.yld i H x H' → g x (wipe σ vs) H' fun σ2 H2 => wipe σ2 vs = wipe σ vs ∧ tt σ2 H2 fun b H3 =>
        if b = true then te σ2 H3 fun y H4 => ∃ acc, H4 D = some (.lst acc) ∧ acc.length < sizeLine ∧ Nx (upd H4 D (.lst (acc ++ [y]))) else Nx H3) := by
  have n1 := w1.no nD
  have n2 := w1.nc nD
  refine lc_it w (fun i H => ∃ (ys : List V) (L : List β), H D = some (.lst ys) ∧ F2 (R H) ys L ∧ L.length ≤ i ∧ (full = true → L.length = i) ∧ Kp d H1 H ∧ Drw H d (b + c * (n - i))) ⟨[], [], upd_same, .nil, Nat.le_refl _, fun _ => rfl, Same.kp (same_upd nD), w1.upd nD⟩ (fun i H _ ⟨_, _, _, _, _, _, k, _⟩ => hG H k) ?_ ?_
  · rintro i x H H' hi ⟨ys, L, hD, f, l1, l2, k, w2⟩ y
    have fl := f.len
    refine hs i x H H' hi k w2 y _ _ (fun v H4 z k4 w4 r => ?_) (fun H3 hf k3 w3 => ?_)
    · have hD4 := k4 _ _ hD n1.1 n1.2
      have U := fun a xs h => tup_upd (K := K) (a := a) (ys := xs) (zs := ys ++ [v]) hD4 h
      refine ⟨ys, hD4, by omega, ys ++ [v], L ++ [z], upd_same, ?_, by rw [List.length_append]; show L.length + 1 ≤ i + 1; omega, (fun e => by rw [List.length_append]; show L.length + 1 = i + 1; rw [l2 e]), kp_mut nD (k.trans k4), w4.mut n1.1 n2 n1.2⟩
      exact ((f.imp fun _ _ h => mono _ _ _ _ (fun _ _ t => Kp.tup k4 w2 t) h).app (F2.one r)).imp fun _ _ h => mono _ _ _ _ U h
    · exact ⟨ys, L, k3 _ _ hD n1.1 n1.2, f.imp fun _ _ h => mono _ _ _ _ (fun _ _ t => Kp.tup k3 w2 t) h, by omega, (fun e => by rw [hf] at e; cases e), k.trans k3, w3⟩
  · rintro H ⟨ys, L, hD, f, l1, l2, k, w2⟩
    exact hd H ys L hD f l1 l2 k (w2.less (by omega))
end
section
variable {β : Type} {J : It} {n : Nat} {G : Hp → Prop} {Y : Nat → Hp → V → Hp → Prop} {K : PySem.W.Frag}
theorem lcp_it (w : Walk J n G Y) {g : TG} {tt : TT} {te : TE} {vs : List Nat} {σ : L2.St} {H1 : Hp} {D : Addr} {Qd : Hp → Prop} (out : Nat → Option β) (R : Hp → V → β → Prop) (mono : ∀ H H' v y, Tk K H H' → R H v y → R H' v y) (nD : H1 D = none) (sz : n < sizeLine)
    (hG : ∀ H, Same H1 H → G H)
    (hs : ∀ i x H H', i < n → Same H1 H → Y i H x H' → ∀ (Y' : V → Hp → Prop) (N : Hp → Prop), (∀ y H4 z, Same H H4 → out i = some z → R H4 y z → Y' y H4) → (∀ H3, Same H H3 → out i = none → N H3) →
      g x (wipe σ vs) H' fun σ2 H2 => wipe σ2 vs = wipe σ vs ∧ tt σ2 H2 fun b H3 => if b = true then te σ2 H3 Y' else N H3)
    (hd : ∀ H ys, H D = some (.lst ys) → F2 (R H) ys ((List.range n).filterMap out) → Same H1 H → Qd H) :
    ∃ W : Nat → Nat → Hp → Prop, (∃ m, W 0 m (upd H1 D (.lst []))) ∧ ∀ i m H, W i m H →
      (J.stop i H ∧ Qd H) ∨ (J.go i H ∧ ∃ Nx : Hp → Prop, (∀ H', Nx H' → ∃ m', m' < m ∧ W (i + 1) m' H') ∧ ∀ x H', J.yld i H x H' → g x (wipe σ vs) H' fun σ2 H2 => wipe σ2 vs = wipe σ vs ∧ tt σ2 H2 fun b H3 =>
        if b = true then te σ2 H3 fun y H4 => ∃ acc, H4 D = some (.lst acc) ∧ acc.length < sizeLine ∧ Nx (upd H4 D (.lst (acc ++ [y]))) else Nx H3) := by
  refine lc_it w (fun i H => ∃ (ys : List V), H D = some (.lst ys) ∧ F2 (R H) ys ((List.range i).filterMap out) ∧ Same H1 H) ⟨[], upd_same, .nil, same_upd nD⟩ (fun i H _ ⟨_, _, _, k⟩ => hG H k) ?_ ?_
  · rintro i x H H' hi ⟨ys, hD, f, k⟩ y
    have fl := f.len
    have ll : ((List.range i).filterMap out).length ≤ i := Nat.le_trans (List.length_filterMap_le _ _) (Nat.le_of_eq List.length_range)
    have es : (List.range (i + 1)).filterMap out = (List.range i).filterMap out ++ (match out i with | some z => [z] | none => []) := by
      rw [List.range_succ, List.filterMap_append, List.filterMap_cons, List.filterMap_nil]
      cases out i <;> rfl
    refine hs i x H H' hi k y _ _ (fun v H4 z k4 e r => ?_) (fun H3 k3 e => ?_)
    · have hD4 := k4 _ _ hD
      have U := fun a xs h => tup_upd (K := K) (a := a) (ys := xs) (zs := ys ++ [v]) hD4 h
      rw [e] at es
      refine ⟨ys, hD4, by omega, ys ++ [v], upd_same, ?_, same_mut nD (k.trans k4)⟩
      rw [es]
      exact ((f.imp fun _ _ h => mono _ _ _ _ (Same.tk k4) h).app (F2.one r)).imp fun _ _ h => mono _ _ _ _ U h
    · rw [e] at es
      refine ⟨ys, k3 _ _ hD, ?_, k.trans k3⟩
      rw [es, List.append_nil]
      exact f.imp fun _ _ h => mono _ _ _ _ (Same.tk k3) h
  · rintro H ⟨ys, hD, f, k⟩
    exact hd H ys hD f k
end
end B
namespace B
open PySem PySem.Spec PyProof.Rows L2
end B
namespace B
open PySem PySem.Spec PyProof.Rows L2
end B
namespace B
open PySem PySem.Spec PyProof.Rows L2
end B
namespace B
open PySem PySem.Spec PyProof.Rows L2
end B
namespace B
open PySem PySem.Spec PyProof.Rows L2
end B
namespace B
open PySem PySem.Spec PyProof.Rows L2
section
variable {cs : List Nat} {wl : List (List Bool)} {bds : List Bd} {ss : List (Int × Nat)} {pr own : Int × Nat} {ts : List Tm} {bits : List (Int × Nat)}
end
section
variable {cs : List Nat} {wl : List (List Bool)} {bds : List Bd} {ss : List (Int × Nat)} {pr own : Int × Nat} {ts : List Tm} {bits : List (Int × Nat)}
end
end B
namespace B
open PySem PySem.Spec PyProof.Rows L2
def tMid (t u : TS) : TS := fun D σ H => ∃ Mid : L2.St → Hp → Prop, t { D with nx := Mid } σ H ∧ ∀ σ' H', Mid σ' H' → u D σ' H'
theorem pss_mid {X : Cx} {st : Stmt} {rest : List Stmt} {t u : TS} (h1 : PS X st t) (h2 : PSs X rest u) : PSs X (st :: rest) (tMid t u) := by
  refine ⟨fun pins s σ H D I h => ?_⟩
  obtain ⟨Mid, hm, hu⟩ := h
  refine wpAny_execs_cons (thn (h1.run pins s σ H { D with nx := Mid } I hm) fun f s1 q => ?_)
  cases f with
  | next =>
    obtain ⟨σ', H', I', q⟩ := q
    exact h2.run pins s1 σ' H' D I' (hu σ' H' q)
  | ret v => exact q
  | brk => exact q
  | cont => exact q
end B
namespace B
open PySem PySem.Spec PyProof.Rows L2
end B
namespace B
open PySem PySem.Spec PyProof.Rows L2
end B
namespace B
open PySem PySem.Spec PyProof.Rows L2
def kD : Key → PyData
  | .inl i => .int i
  | .inr x => .str x
mutual
inductive Dq (K : PySem.W.Frag) (H : Hp) : V → PyData → Prop
  | non : Dq K H .non .none
  | bl (b : Bool) : Dq K H (.bl b) (.bool b)
  | int (i : Int) : Dq K H (.int i) (.int i)
  | str (x : Str) : Dq K H (.str x) (.str x)
  | lst {a : Addr} {xs : List V} {ds : List PyData} : SqL K H a xs → DqAll K H xs ds → Dq K H (.ref a) (.list ds)
  | tup {a : Addr} {xs : List V} {ds : List PyData} : SqT K H a xs → DqAll K H xs ds → Dq K H (.ref a) (.tuple ds)
  | dic {a : Addr} {kvs : List (Key × V)} {xs : List V} {l : List (PyData × PyData)} : H a = some (.dK kvs) → kvs.map (·.2) = xs → l.map (·.1) = kvs.map (fun p => kD p.1) → DqAll K H xs (l.map (·.2)) → Dq K H (.ref a) (.dict l)
inductive DqAll (K : PySem.W.Frag) (H : Hp) : List V → List PyData → Prop
  | nil : DqAll K H [] []
  | cons {v : V} {vs : List V} {d : PyData} {ds : List PyData} : Dq K H v d → DqAll K H vs ds → DqAll K H (v :: vs) (d :: ds)
end
mutual
theorem dq_dp {K : PySem.W.Frag} {H : Hp} : ∀ {v : V} {d : PyData}, Dp K H v d → Dq K H v d
  | _, _, .non => .non
  | _, _, .bl b => .bl b
  | _, _, .int i => .int i
  | _, _, .str x => .str x
  | _, _, .lst a b => .lst a (dqAll_dp b)
  | _, _, .tup a b => .tup a (dqAll_dp b)
theorem dqAll_dp {K : PySem.W.Frag} {H : Hp} : ∀ {vs : List V} {ds : List PyData}, DpAll K H vs ds → DqAll K H vs ds
  | _, _, .nil => .nil
  | _, _, .cons a b => .cons (dq_dp a) (dqAll_dp b)
end
mutual
/-- no list in it -/
def noL : PyData → Bool
  | .list _ => false
  | .tuple ds => noLs ds
  | .dict l => noLk l
  | _ => true
def noLs : List PyData → Bool
  | [] => true
  | d :: r => noL d && noLs r
def noLk : List (PyData × PyData) → Bool
  | [] => true
  | (_, v) :: r => noL v && noLk r
end
theorem keys_read {h : Heap} {P : Program} {w : World} : ∀ {es : List DictEntry} {vs : List (Key × Value)} {kvs : List (Key × V)}, Pairs (mixKind P w) es vs → KV kvs vs → ReadsAll h (es.map (·.key)) (kvs.map fun p => kD p.1) []
  | _, _, kvs, .nil, r => by
    cases r
    exact .nil
  | _, _, kvs, .cons (e := e) (kv := kv) hk _ hp, r => by
    cases r with
    | @cons p q ps qs h1 h2 =>
      have t := keys_read (h := h) hp h2
      have k : Reads h e.key (kD p.1) [] := by
        rw [h1.1]
        rcases keyIs_shape (show keyIs kv.1 e.key = true from hk) with ⟨i, t, e1, e2⟩ | ⟨x, t, e1, e2⟩
        · rw [e1, e2]
          exact .int i t
        · rw [e1, e2]
          exact .str x t
      exact ReadsAll.cons (as := []) (bs := []) k t
theorem vals_rel {P : Program} {w : World} : ∀ {es : List DictEntry} {vs : List (Key × Value)} {kvs : List (Key × V)}, Pairs (mixKind P w) es vs → KV kvs vs → Vals (kvs.map (·.2)) (es.map (·.val))
  | _, _, kvs, .nil, r => by
    cases r
    exact .nil
  | _, _, kvs, .cons (e := e) (kv := kv) _ hv hp, r => by
    cases r with
    | @cons p q ps qs h1 h2 =>
      refine .cons ?_ (vals_rel hp h2)
      show RelV p.2 e.val
      rw [hv]
      exact h1.2
section
variable {X : Cx} {pins : List (Addr × Obj)} {σ : L2.St} {H : Hp} {s : Shared}
mutual
theorem Dq.reads (I : Inv X pins σ H s) : ∀ (d : PyData) (v : V) (u : Value), Dq X.K H v d → RelV v u → ∃ as, Reads s.heap u d as ∧ (noL d = true → sysModules ∉ as)
  | .none, _, _, h, r => by
    cases h
    cases r
    exact ⟨_, Reads.none, fun _ => nofun⟩
  | .bool b, _, _, h, r => by
    cases h
    cases r
    exact ⟨_, Reads.bool b, fun _ => nofun⟩
  | .int i, _, _, h, r => by
    cases h
    obtain ⟨t, rfl⟩ := r
    exact ⟨_, Reads.int i t, fun _ => nofun⟩
  | .str x, _, _, h, r => by
    cases h
    obtain ⟨t, rfl⟩ := r
    exact ⟨_, Reads.str x t, fun _ => nofun⟩
  | .list ds, _, _, h, r => by
    cases h with
    | lst hs ha =>
      cases r
      obtain ⟨its, rv, ⟨o, n, ho, hc, _, hd⟩, _⟩ := I.list hs
      obtain ⟨as, hr, _⟩ := Dq.readsAll I ds _ its ha rv
      exact ⟨_, Reads.list ho hc hd hr, fun h => nomatch (show false = true from h)⟩
  | .tuple ds, _, _, h, r => by
    cases h with
    | tup hs ha =>
      cases r
      obtain ⟨its, rv, ⟨o, ho, hc, n, hd⟩, _⟩ := I.tuple hs
      obtain ⟨as, hr, hn⟩ := Dq.readsAll I ds _ its ha rv
      exact ⟨_, Reads.tuple ho hc hd hr, fun h => hn (show noLs ds = true from h)⟩
  | .dict l, _, _, h, r => by
    cases h with
    | @dic a kvs xs _ hs ex ek ha =>
      cases r
      subst ex
      obtain ⟨_, hm, vs, rel, o, es, ep, ho, hx, hd, _, hp, _⟩ := (show ObjOk X.prog X.w H s.heap a (.dK kvs) from I.hok a _ hs)
      have k1 := keys_read (h := s.heap) hp rel
      obtain ⟨bs, k2, hn⟩ := Dq.readsVals I l _ _ ha (vals_rel hp rel)
      rw [← ek] at k1
      refine ⟨_, Reads.dict ho hx.1 hd k1 k2, fun h => ?_⟩
      intro hc
      rcases List.mem_cons.mp hc with e | hc
      · rw [e, beq_self_eq_true] at hm
        exact nomatch hm
      · exact hn (show noLk l = true from h) hc
theorem Dq.readsAll (I : Inv X pins σ H s) : ∀ (ds : List PyData) (vs : List V) (us : List Value), DqAll X.K H vs ds → Vals vs us → ∃ as, ReadsAll s.heap us ds as ∧ (noLs ds = true → sysModules ∉ as)
  | [], _, _, h, r => by
    cases h
    cases r
    exact ⟨_, ReadsAll.nil, fun _ => nofun⟩
  | d :: ds, _, _, h, r => by
    cases h with
    | cons h1 h2 =>
      cases r with
      | cons r1 r2 =>
        obtain ⟨as, q1, n1⟩ := Dq.reads I d _ _ h1 r1
        obtain ⟨bs, q2, n2⟩ := Dq.readsAll I ds _ _ h2 r2
        refine ⟨_, ReadsAll.cons q1 q2, fun h => ?_⟩
        have h : (noL d && noLs ds) = true := h
        rw [Bool.and_eq_true] at h
        exact fun hc => (List.mem_append.mp hc).elim (n1 h.1) (n2 h.2)
theorem Dq.readsVals (I : Inv X pins σ H s) : ∀ (l : List (PyData × PyData)) (vs : List V) (us : List Value), DqAll X.K H vs (l.map (·.2)) → Vals vs us → ∃ as, ReadsAll s.heap us (l.map (·.2)) as ∧ (noLk l = true → sysModules ∉ as)
  | [], _, _, h, r => by
    cases h
    cases r
    exact ⟨_, ReadsAll.nil, fun _ => nofun⟩
  | (k, d) :: l, _, _, h, r => by
    cases h with
    | cons h1 h2 =>
      cases r with
      | cons r1 r2 =>
        obtain ⟨as, q1, n1⟩ := Dq.reads I d _ _ h1 r1
        obtain ⟨bs, q2, n2⟩ := Dq.readsVals I l _ _ h2 r2
        refine ⟨_, ReadsAll.cons q1 q2, fun h => ?_⟩
        have h : (noL d && noLk l) = true := h
        rw [Bool.and_eq_true] at h
        exact fun hc => (List.mem_append.mp hc).elim (n1 h.1) (n2 h.2)
end
end
/-- what can be shown, dicts too -/
structure Shq (d : PyData) : Prop where
  shw : d.showable = true
  dep : d.depth ≤ 50
  len : d.shown.length ≤ sizeLine
  dct : d.hasDict = true → noL d = true
section
variable {X : Cx}
def rReprQ (K : PySem.W.Frag) : List V → Hp → VK → Prop := fun xs H Q => ∃ (v : V) (d : PyData), xs = [v] ∧ Dq K H v d ∧ Shq d ∧ Q (.str d.shown) H
theorem cr_reprQ (quiet : X.A.guards = some []) (room : X.A.units + 64 < cLine) : CallR X (.builtin "repr") (rReprQ X.K) := by
  rintro pins s σ H xs us Q I rel ⟨v, d, rfl, hd, sh, q⟩
  obtain ⟨u, rfl, ru⟩ := vals1 rel
  have dp := sh.dep
  have go : ∀ {a : Addr}, u = .ref a → wpAny (model X.prog X.w) X.A (call (.builtin "repr") [u]) (L2.EP X pins σ Q) X.xe s := fun {a} e => by
    subst e
    obtain ⟨as, rd, hn⟩ := Dq.reads I d v (.ref a) hd ru
    exact repr_of_reads' rd sh.shw (fun h => hn (sh.dct h)) quiet (by omega) (fun _ _ h => h) (fun h' u tk hk => ⟨.str _, H, I.kept hk, ⟨_, rfl⟩, q⟩) sh.len
  cases hd with
  | non => 
    cases ru
    exact PySem.P.repr_of_none ⟨.str _, H, I.tok _, ⟨_, rfl⟩, q⟩
  | bl b =>
    cases ru
    refine PySem.P.repr_of_bool ⟨.str _, H, I.tok _, ⟨_, rfl⟩, ?_⟩
    cases b <;> exact q
  | int i =>
    obtain ⟨t, rfl⟩ := ru
    exact PySem.P.repr_of_int (of_decide_eq_true sh.shw) ⟨.str _, H, I.tok _, ⟨_, rfl⟩, q⟩
  | str x =>
    obtain ⟨t, rfl⟩ := ru
    exact PySem.P.repr_of_str ⟨.str _, H, I.tok _, ⟨_, rfl⟩, q⟩ sh.len
  | lst h1 h2 => 
    cases ru
    exact go rfl
  | tup h1 h2 =>
    cases ru
    exact go rfl
  | dic h1 h2 h3 h4 =>
    cases ru
    exact go rfl
end
end B
namespace B
open PySem PySem.Spec PyProof.Rows L2
end B
namespace B
open PySem PySem.Spec PyProof.Rows L2
structure Elm (c : Bool) (n m : Nat) (d : PyData) : Prop where
  shw : d.showable = true
  dep : d.depth ≤ n
  blk : d.bulk ≤ m
  lvs : d.leavesShort 600 = true
  dct : if c = true then noL d = true else d.hasDict = false
theorem Elm.up {c : Bool} {n m n' m' : Nat} {d : PyData} (h : Elm c n m d) (a : n ≤ n') (b : m ≤ m') : Elm c n' m' d := ⟨h.shw, Nat.le_trans h.dep a, Nat.le_trans h.blk b, h.lvs, h.dct⟩
theorem Elm.shq {c : Bool} {n m : Nat} {d : PyData} (h : Elm c n m d) (hn : n ≤ 50) (hm : m ≤ 27000) : Shq d := by
  refine ⟨h.shw, Nat.le_trans h.dep hn, ?_, fun e => ?_⟩
  · refine Nat.le_trans (PyData.shown_le_bulk 600 (by decide) d h.lvs) ?_
    have := h.blk
    have e : sizeLine = 16777216 := by decide
    rw [e]
    omega
  · have k := h.dct
    cases c with
    | true => exact k
    | false =>
      have k : d.hasDict = false := k
      rw [k] at e
      exact nomatch e
theorem elm_dct {c : Bool} {d : PyData} (h1 : noL d = true) (h2 : d.hasDict = false) : if c = true then noL d = true else d.hasDict = false := by
  cases c with
  | true => exact h1
  | false => exact h2
theorem elm_all {c : Bool} {n m : Nat} : ∀ {ds : List PyData}, (∀ d ∈ ds, Elm c n m d) → PyData.showableAll ds = true ∧ PyData.depthAll ds ≤ n ∧ PyData.bulkAll ds ≤ ds.length * (m + 1) ∧ PyData.leavesShortAll 600 ds = true ∧ (if c = true then noLs ds = true else PyData.hasDictAll ds = false)
  | [], _ => ⟨rfl, Nat.zero_le _, Nat.zero_le _, rfl, by cases c <;> exact rfl⟩
  | d :: ds, h => by
    obtain ⟨a, b, e, f, g⟩ := elm_all fun x hx => h x (List.mem_cons_of_mem _ hx)
    have k := h d (List.mem_cons_self ..)
    refine ⟨?_, ?_, ?_, ?_, ?_⟩
    · show (d.showable && PyData.showableAll ds) = true
      rw [k.shw, a]; rfl
    · show max d.depth (PyData.depthAll ds) ≤ n
      exact Nat.max_le.mpr ⟨k.dep, b⟩
    · show d.bulk + 1 + PyData.bulkAll ds ≤ (ds.length + 1) * (m + 1)
      have := k.blk
      rw [Nat.add_mul]
      omega
    · show (d.leavesShort 600 && PyData.leavesShortAll 600 ds) = true
      rw [k.lvs, f]; rfl
    · have kd := k.dct
      cases c with
      | true =>
        show (noL d && noLs ds) = true
        rw [show noL d = true from kd, show noLs ds = true from g]; rfl
      | false =>
        show (d.hasDict || PyData.hasDictAll ds) = false
        rw [show d.hasDict = false from kd, show PyData.hasDictAll ds = false from g]; rfl
theorem Elm.tup {c : Bool} {n m k : Nat} {ds : List PyData} (h : ∀ d ∈ ds, Elm c n m d) (hk : ds.length ≤ k) : Elm c (n + 1) (k * (m + 1)) (.tuple ds) := by
  obtain ⟨a, b, e, f, g⟩ := elm_all h
  exact ⟨a, Nat.succ_le_succ b, Nat.le_trans e (Nat.mul_le_mul_right _ hk), f, g⟩
end B
namespace B
open PySem PySem.Spec PyProof.Rows L2
end B
namespace B
open PySem PySem.Spec PyProof.Rows L2
end B
namespace B
open PySem PySem.Spec PyProof.Rows L2
end B
namespace B
open PySem PySem.Spec PyProof.Rows L2
theorem Elm.intW {c : Bool} {i : Int} (h : i.natAbs < 2 ^ 1900) : Elm c 0 0 (.int i) := by
  have l : i.natAbs.log2 < 1900 := PySem.Flt.log2_lt_of (by decide) h
  refine ⟨?_, Nat.le_refl _, Nat.le_refl _, ?_, elm_dct rfl rfl⟩
  · show decide (i.natAbs.log2 < 1920) = true
    exact decide_eq_true (by omega)
  · show decide ((Str.ofString (toString i)).length ≤ 600) = true
    refine decide_eq_true ?_
    rw [PySem.ofString_length]
    exact int_text_length_le10 (k := 599) (by decide) (Nat.lt_of_lt_of_le h (by decide +kernel))
theorem Elm.app {c : Bool} {n m k : Nat} {a b : List PyData} (h : Elm c n m (.tuple a)) (h' : Elm c n k (.tuple b)) : Elm c n (m + k) (.tuple (a ++ b)) := by
  induction a generalizing m with
  | nil => exact h'.up (Nat.le_refl _) (by omega)
  | cons x r ih =>
    have h1 : (x.showable && PyData.showableAll r) = true := h.shw
    have h2 : max x.depth (PyData.depthAll r) + 1 ≤ n := h.dep
    have h3 : x.bulk + 1 + PyData.bulkAll r ≤ m := h.blk
    have h4 : (x.leavesShort 600 && PyData.leavesShortAll 600 r) = true := h.lvs
    rw [Bool.and_eq_true] at h1 h4
    have hr : Elm c n (m - (x.bulk + 1)) (.tuple r) := by
      refine ⟨h1.2, ?_, ?_, h4.2, ?_⟩
      · show PyData.depthAll r + 1 ≤ n
        omega
      · show PyData.bulkAll r ≤ _
        omega
      · have h5 := h.dct
        cases c with
        | true =>
          have h5 : (noL x && noLs r) = true := h5
          rw [Bool.and_eq_true] at h5
          exact h5.2
        | false =>
          have h5 : (x.hasDict || PyData.hasDictAll r) = false := h5
          rw [Bool.or_eq_false_iff] at h5
          exact h5.2
    have i := ih hr
    refine ⟨?_, ?_, ?_, ?_, ?_⟩
    · show (x.showable && PyData.showableAll (r ++ b)) = true
      rw [h1.1]
      exact i.shw
    · show max x.depth (PyData.depthAll (r ++ b)) + 1 ≤ n
      have : PyData.depthAll (r ++ b) + 1 ≤ n := i.dep
      omega
    · show x.bulk + 1 + PyData.bulkAll (r ++ b) ≤ m + k
      have : PyData.bulkAll (r ++ b) ≤ _ := i.blk
      omega
    · show (x.leavesShort 600 && PyData.leavesShortAll 600 (r ++ b)) = true
      rw [h4.1]
      exact i.lvs
    · have h5 := h.dct
      have h6 := i.dct
      cases c with
      | true =>
        have h5 : (noL x && noLs r) = true := h5
        rw [Bool.and_eq_true] at h5
        show (noL x && noLs (r ++ b)) = true
        rw [h5.1]
        exact h6
      | false =>
        have h5 : (x.hasDict || PyData.hasDictAll r) = false := h5
        rw [Bool.or_eq_false_iff] at h5
        show (x.hasDict || PyData.hasDictAll (r ++ b)) = false
        rw [h5.1]
        exact h6
theorem Elm.one {c : Bool} {n m : Nat} {a : PyData} (h : Elm c n m a) : Elm c (n + 1) (m + 1) (.tuple [a]) := (Elm.tup (k := 1) (fun d hd => by rw [List.mem_singleton.mp hd]; exact h) (show [a].length ≤ 1 from Nat.le_refl 1)).up (Nat.le_refl _) (by omega)
theorem Elm.two {c : Bool} {n m k : Nat} {a b : PyData} (h : Elm c n m a) (h' : Elm c n k b) : Elm c (n + 1) (m + k + 2) (.tuple [a, b]) := (h.one.app h'.one).up (Nat.le_refl _) (by omega)
theorem Elm.of_shw {c : Bool} {n m : Nat} {d : PyData} (h : Shw n m d) (k : noL d = true) : Elm c n m d := ⟨h.shw, h.dep, h.blk, h.lvs, elm_dct k h.nodict⟩
theorem noLs_map {α : Type} {f : α → PyData} : ∀ {l : List α}, (∀ x ∈ l, noL (f x) = true) → noLs (l.map f) = true
  | [], _ => rfl
  | x :: r, h => by
    show (noL (f x) && noLs (r.map f)) = true
    rw [h x (List.mem_cons_self ..), noLs_map fun y hy => h y (List.mem_cons_of_mem _ hy)]
    rfl
theorem noL_wdat (r : List Wd) : noL (wdat r) = true := noLs_map fun _ _ => rfl
theorem noL_hdat (cs : List Nat) (rs : List (List Wd)) : noL (hdat cs rs) = true := by
  show (true && (noLs (rs.map wdat) && true)) = true
  rw [noLs_map fun x _ => noL_wdat x]
  rfl
theorem wdat_elm {c : Bool} {cs : List Nat} (hs : ∀ c ∈ cs, c < 123) {r : List Wd} {k : Nat} (h : Sy cs r) (hk : r.length ≤ k) : Elm c 1 (k * 5) (wdat r) := Elm.of_shw (wdat_shw hs h.lt hk) (noL_wdat r)
theorem hdat_elm3 {c : Bool} {cs : List Nat} {rs : List (List Wd)} (h : HsOk cs rs) (k : rs.length ≤ 3) (l : ∀ r ∈ rs, r.length ≤ 14) : Elm c 3 430 (hdat cs rs) := Elm.of_shw (hdat_shw3 h k l) (noL_hdat cs rs)
theorem fdat_elmW {c : Bool} {n : Nat} {p : Int × Nat} (h : Fok n p) (hn : n ≤ 1900) : Elm c 1 2 (fdat p) := (Elm.two (Elm.intW (h.z.more hn).t) (Elm.intW (by rw [Int.natAbs_natCast]; exact (h.z.more hn).b))).up (Nat.le_refl _) (by omega)
theorem tdat_elm {c : Bool} {cs : List Nat} (hs : ∀ c ∈ cs, c < 123) {x : Tm} {n k : Nat} (h : Fok n x.a) (hn : n ≤ 1900) (y : Sy cs x.w) (hk : x.w.length ≤ k) : Elm c 2 (k * 5 + 4) (tdat x) := (((fdat_elmW h hn).up (Nat.le_refl _) (Nat.le_refl _)).two (wdat_elm hs y hk)).up (Nat.le_refl _) (by omega)
theorem kdat_elm {c : Bool} {cs : List Nat} (hs : ∀ c ∈ cs, c < 123) {x : Bd} {n k l z : Nat} (ht : ∀ t ∈ x.ts, Fok n t.a ∧ Sy cs t.w ∧ t.w.length ≤ k) (hn : n ≤ 1900) (hl : x.ts.length ≤ l) (yg : Sy cs x.g) (hg : x.g.length ≤ z) (hp : Fok n x.p) : Elm c 5 (l * (k * 5 + 5) + z * 5 + 6) (kdat x) := by
  have a : Elm c 3 (l * (k * 5 + 5)) (.tuple (x.ts.map tdat)) := Elm.tup (n := 2) (m := k * 5 + 4) (fun d hd => by
    obtain ⟨t, ht', rfl⟩ := List.mem_map.mp hd
    obtain ⟨b1, b2, b3⟩ := ht t ht'
    exact tdat_elm hs b1 hn b2 b3) (by rw [List.length_map]; exact hl)
  exact ((a.two ((wdat_elm hs yg hg).up (by decide) (Nat.le_refl _))).two ((fdat_elmW hp hn).up (by decide) (Nat.le_refl _))).up (by decide) (by omega)
theorem bds_dq {K : PySem.W.Frag} {H : Hp} : ∀ {vs : List V} {l : List Bd}, F2 (BdAt K H) vs l → DqAll K H vs (l.map kdat)
  | _, _, .nil => .nil
  | _, _, .cons h r => .cons (dq_dp h.dp) (bds_dq r)
end B
namespace B
open PySem PySem.Spec PyProof.Rows L2
end B
namespace B
open PySem PySem.Spec PyProof.Rows L2
end B
namespace B
open PySem PySem.Spec PyProof.Rows L2
end B
namespace B
open PySem PySem.Spec PyProof.Rows L2
end B
namespace B
open PySem PySem.Spec PyProof.Rows L2
end B
namespace B
open PySem PySem.Spec PyProof.Rows L2
end B
namespace B
open PySem PySem.Spec PyProof.Rows L2
end B
namespace B
open PySem PySem.Spec PyProof.Rows L2
end B
namespace B
open PySem PySem.Spec PyProof.Rows L2
end B
namespace B
open PySem PySem.Spec PyProof.Rows L2
def rNeL0 (K : PySem.W.Frag) : R2 := fun x y H Q => ∃ a b xs, x = .ref a ∧ y = .ref b ∧ SqL K H a xs ∧ SqL K H b [] ∧ Q (.bl !xs.isEmpty) H
theorem op_neL0 {X : Cx} (hu : X.A.units + 64 < cLine) : OpR X (compareOp .NotEq) (rNeL0 X.K) := by
  intro pins s σ H x y v u Q I rx ry h
  obtain ⟨a, b, xs, rfl, rfl, ha, hb, q⟩ := h
  cases xs with
  | nil => exact op_neD hu pins s σ H (.ref a) (.ref b) v u Q I rx ry ⟨.list [], .list [], .lst ha .nil, .lst hb .nil, rfl, rfl, q⟩
  | cons x xs =>
    obtain rfl : v = Value.ref a := rx
    obtain rfl : u = Value.ref b := ry
    obtain ⟨its, rv, hA, _⟩ := I.list ha
    obtain ⟨its2, rv2, hB, _⟩ := I.list hb
    have e1 := rv.length
    have e2 := rv2.length
    obtain ⟨⟨cls, dd, data, sl⟩, n, ho, hc, _, hd⟩ := hA
    obtain ⟨⟨cls2, dd2, data2, sl2⟩, n2, ho2, hc2, _, hd2⟩ := hB
    simp only at hc hd hc2 hd2
    subst hc hd hc2 hd2
    have ta : s.TypeIs (.ref a) "list" := ⟨_, ho, rfl⟩
    have tb : s.TypeIs (.ref b) "list" := ⟨_, ho2, rfl⟩
    have ne : (its.toArray.size != its2.toArray.size) = true := by
      simp only [List.size_toArray, ← e1, ← e2, List.length_cons, List.length_nil]
      rfl
    show wpAny (model X.prog X.w) X.A (richCompare .NotEq (.ref a) (.ref b)) _ _ s
    exact wpAny_richCompare_same_room (op := .NotEq) ta tb F.slot_list_ne (call_meets F.slot_list_ne ta F.entry_list_ne (F.args_list_ne_2 _ _) (PySem.SeqAt.list_ne_lengthsAt a b its.toArray its2.toArray n n2 dd dd2 sl sl2 ne)
      ⟨ho, ho2, show Value.bool true ≠ Value.notImplemented ∧ _ from ⟨(fun x => nomatch x), ⟨.bl true, H, I, rfl, q⟩⟩⟩) (by omega)
end B
namespace B
open PySem PySem.Spec PyProof.Rows L2
end B
namespace B
open PySem PySem.Spec PyProof.Rows L2
end B
namespace B
open PySem PySem.Spec PyProof.Rows L2
end B
namespace B
open PySem PySem.Spec PyProof.Rows L2
end B
namespace B
open PySem PySem.Spec PyProof.Rows L2
end B
namespace B
open PySem PySem.Spec PyProof.Rows L2
end B
namespace B
open PySem PySem.Spec PyProof.Rows L2
end B
namespace B
open PySem PySem.Spec PyProof.Rows L2
/-- a row of bids -/
def BsAt (K : PySem.W.Frag) (H : Hp) (v : V) (bds : List Bd) : Prop := ∃ (q : Addr) (vs : List V), v = .ref q ∧ SqT K H q vs ∧ F2 (BdAt K H) vs bds
theorem BsAt.mono {K : PySem.W.Frag} {H H' : Hp} {v : V} {bds : List Bd} (k : Tk K H H') (h : BsAt K H v bds) : BsAt K H' v bds := by
  obtain ⟨q, vs, e, t, f⟩ := h
  exact ⟨q, vs, e, k _ _ t, bds_tk f k⟩
end B
namespace B
open PySem PySem.Spec PyProof.Rows L2
end B
namespace B
open PySem PySem.Spec PyProof.Rows L2
end B
namespace B
open PySem PySem.Spec PyProof.Rows L2
end B
namespace B
open PySem PySem.Spec PyProof.Rows L2
end B
namespace B
open PySem PySem.Spec PyProof.Rows L2
end B
namespace B
open PySem PySem.Spec PyProof.Rows L2
theorem bss_dq {K : PySem.W.Frag} {H : Hp} : ∀ {vs : List V} {l : List (List Bd)}, F2 (BsAt K H) vs l → DqAll K H vs (l.map fun b => .tuple (b.map kdat))
  | _, _, .nil => .nil
  | _, _, .cons ⟨q, us, e, t, f⟩ r => by
    subst e
    exact .cons (.tup t (bds_dq f)) (bss_dq r)
end B
namespace B
open PySem PySem.Spec PyProof.Rows L2
end B
namespace B
open PySem PySem.Spec PyProof.Rows L2
end B
namespace B
open PySem PySem.Spec PyProof.Rows L2
end B
namespace B
open PySem PySem.Spec PyProof.Rows L2
section
variable {prog : Program} {w : World} {A : Around} {E : Value → Shared → Prop} {s : Shared}
end
end B
namespace B
open PySem PySem.Spec PyProof.Rows L2
/-- which of the fifteen -/
def flags15 (k : Nat) : List V := (List.range 15).map fun j => V.bl (decide (j = k))
theorem flags15_at {k j : Nat} (hj : j < 15) : (flags15 k)[j]? = some (.bl (decide (j = k))) := by
  unfold flags15
  rw [List.getElem?_map, List.getElem?_range hj]
  rfl
end B
namespace B
end B
namespace B
end B
namespace B
section
variable {n m : Nat} {col : Nat → Col} {rhs : Col} {T T' : Nat → Nat → Int} {D D' : Int} {R R' Bn Bn' : Nat → Nat} {st st' : Bool} {r c : Nat}
end
section
variable {n m : Nat} {col : Nat → Col} {rhs : Col} {T : Nat → Nat → Nat → Int} {D : Nat → Int} {R Bn : Nat → Nat → Nat} {st : Nat → Bool} {r c : Nat → Nat}
end
end B
namespace B
section
variable {n m : Nat} {b : Bo} {r c : Nat}
end
end B
namespace B
section
variable {n m : Nat} {rows : List (List Int)} {bounds wants : List Int}
end
section
variable {n : Nat} {f : Nat → Int} {g : Nat → Nat}
end
section
variable {n m : Nat} {A : Nat → Nat → Int} {w bb : Nat → Int} {b : Bo}
end
end B
namespace B
section
variable {n m : Nat} {A : Nat → Nat → Int} {w bb : Nat → Int} {b : Bo}
end
end B
namespace B
open PySem PySem.Spec PyProof.Rows L2
section
variable (ra rr sr : Addr) (d : Int) (n : Nat)
end
section
variable {w : Nat → Int} {R : Nat → Nat} {k j : Nat}
end
section
variable {a b : Nat → Int} {Bn : Nat → Nat} {k j : Nat}
end
/-- all but what stands at a is as it was -/
def KeepBut (a : Addr) (H H' : Hp) : Prop := ∀ x o, H x = some o → x ≠ a → H' x = some o
theorem KeepBut.refl (a : Addr) (H : Hp) : KeepBut a H H := fun _ _ h _ => h
theorem KeepBut.same {a : Addr} {H H1 H2 : Hp} (k : KeepBut a H H1) (s : Same H1 H2) : KeepBut a H H2 := fun x o h n => s _ _ (k x o h n)
theorem KeepBut.put {a : Addr} {H H1 : Hp} {v : HO} (k : KeepBut a H H1) : KeepBut a H (upd H1 a v) := fun x o h n => by
  rw [upd_ne n]
  exact k x o h n
end B
namespace B
open PySem PySem.Spec PyProof.Rows L2
end B
namespace B
open PySem PySem.Spec PyProof.Rows L2
section
variable (m : Nat) (ta ra fa : Addr)
end
end B
namespace B
open PySem PySem.Spec PyProof.Rows L2
end B
namespace B
open PySem PySem.Spec PyProof.Rows L2
section
variable {α β : Type} {f : Nat × β → α}
end
end B
namespace B
open PySem PySem.Spec PyProof.Rows L2
def rs : List Nat → (Nat → Rat) → Rat
  | [], _ => 0
  | c :: r, F => F c + rs r F
end B
namespace B
open PySem PySem.Spec PyProof.Rows L2
end B
namespace B
open PySem PySem.Spec PyProof.Rows L2
end B
namespace B
open PySem PySem.Spec PyProof.Rows L2
end B
namespace B
open PySem PySem.Spec PyProof.Rows L2
section
variable {n m : Nat} {A : Nat → Nat → Int} {w bb : Nat → Int} {b : Bo}
end
end B
namespace B
open PySem PySem.Spec PyProof.Rows L2
section
variable {cs : List Nat} {wl : List (List Bool)} {bds : List Bd} {r : Nat} {x : Bd}
end
end B
namespace B
open PySem PySem.Spec PyProof.Rows L2
section
variable {cs : List Nat} {wl : List (List Bool)} {bds : List Bd} {e B : Nat}
end
end B
namespace B
open PySem PySem.Spec PyProof.Rows L2
section
variable {cs : List Nat} {wl : List (List Bool)} {bds : List Bd} {e B : Nat}
end
section
variable {cs : List Nat} {wl : List (List Bool)} {bds : List Bd} {e B : Nat}
end
end B
namespace B
open PySem PySem.Spec PyProof.Rows L2
end B
namespace B
open PySem PySem.Spec PyProof.Rows L2
end B
namespace B
open PySem PySem.Spec PyProof.Rows L2
end B
namespace B
open PySem PySem.Spec PyProof.Rows L2
end B
namespace B
open PySem PySem.Spec PyProof.Rows L2
section
variable {cs : List Nat} {wl : List (List Bool)} {L : List (List (Int × Nat))} {D M : Nat}
end
section
variable {cs : List Nat} {wl : List (List Bool)} {L : List (List (Int × Nat))} {bds : List Bd}
end
section
variable {cs : List Nat} {wl : List (List Bool)} {L : List (List (Int × Nat))} {D M : Nat}
end
end B
namespace B
open PySem PySem.Spec PyProof.Rows L2
/-- a saying, or none of yet -/
def resB (v : Nat → Bool) (ws : List Wd) : Bool := ws.isEmpty || sval v ws
def anW (ws : List Wd) : List Wd := if ws = [] then [] else [.an]
theorem anW_an {cs : List Nat} {a b : List Wd} (ha : Sy cs a) (hb : b = [] ∨ Sy cs b) : Sy cs (a ++ b ++ anW b) ∧ ∀ v, sval v (a ++ b ++ anW b) = (sval v a && resB v b) := by
  by_cases e : b = []
  · subst e
    have : a ++ [] ++ anW [] = a := by show a ++ [] ++ [] = a; rw [List.append_nil, List.append_nil]
    rw [this]
    exact ⟨ha, fun v => (Bool.and_true _).symm⟩
  · have hb : Sy cs b := hb.resolve_left e
    have e2 : anW b = [.an] := if_neg e
    have e3 : b.isEmpty = false := by cases b with
      | nil => exact absurd rfl e
      | cons _ _ => rfl
    rw [e2]
    refine ⟨Sy.join ha hb .an, fun v => ?_⟩
    rw [(sval_join v ha hb).1]
    unfold resB
    rw [e3, Bool.false_or]
structure CelI (cs : List Nat) (i : Nat) (rw : List Wd) (C : List (List Wd)) : Prop where
  r : (rw = [] ∧ i = 0) ∨ (rw ≠ [] ∧ 0 < i ∧ Sy cs rw)
  rl : rw.length ≤ 8 * i
  cl : ∀ c ∈ C, Sy cs c ∧ c.length ≤ 32
  len : C.length = i
  dis : C.Pairwise fun a b => ∀ v, sval v a = true → sval v b = false
  dr : ∀ c ∈ C, ∀ v, sval v c = true → resB v rw = false
  cov : ∀ v, (∃ c ∈ C, sval v c = true) ∨ resB v rw = true
theorem CelI.nil {cs : List Nat} : CelI cs 0 [] [] := ⟨.inl ⟨rfl, rfl⟩, Nat.le_refl _, (fun _ h => nomatch h), rfl, .nil, (fun _ h => nomatch h), fun _ => .inr rfl⟩
theorem CelI.next {cs : List Nat} {i : Nat} {rw s : List Wd} {C : List (List Wd)} (h : CelI cs i rw C) (i4 : i ≤ 3) (hs : Sy cs s) (ls : s.length ≤ 6) : CelI cs (i + 1) (s ++ [.nt] ++ rw ++ anW rw) (C ++ [s ++ rw ++ anW rw]) := by
  have yr : rw = [] ∨ Sy cs rw := h.r.elim (fun z => .inl z.1) (fun z => .inr z.2.2)
  obtain ⟨y1, e1⟩ := anW_an hs yr
  obtain ⟨y2, e2⟩ := anW_an hs.not yr
  have la : (anW rw).length ≤ 1 := by unfold anW; split <;> decide
  have rl := h.rl
  have ne2 : s ++ [Wd.nt] ++ rw ++ anW rw ≠ [] := y2.ne
  have r2 : ∀ v, resB v (s ++ [.nt] ++ rw ++ anW rw) = (!(sval v s) && resB v rw) := fun v => by
    have : (s ++ [Wd.nt] ++ rw ++ anW rw).isEmpty = false := by
      cases e : s ++ [Wd.nt] ++ rw ++ anW rw with
      | nil => exact absurd e ne2
      | cons _ _ => rfl
    show ((s ++ [Wd.nt] ++ rw ++ anW rw).isEmpty || sval v (s ++ [Wd.nt] ++ rw ++ anW rw)) = _
    rw [this, Bool.false_or, e2, sval_not v hs]
  refine ⟨.inr ⟨ne2, Nat.succ_pos _, y2⟩, ?_, fun c hc => ?_, by rw [List.length_append, h.len]; rfl, ?_, fun c hc v hv => ?_, fun v => ?_⟩
  · rw [List.length_append, List.length_append, List.length_append]
    show s.length + 1 + rw.length + (anW rw).length ≤ _
    omega
  · rcases List.mem_append.mp hc with q | q
    · exact h.cl c q
    · rw [List.mem_singleton.mp q]
      refine ⟨y1, ?_⟩
      rw [List.length_append, List.length_append]
      omega
  · refine List.pairwise_append.mpr ⟨h.dis, List.pairwise_singleton _ _, fun a ha b hb v hv => ?_⟩
    rw [List.mem_singleton.mp hb, e1, h.dr a ha v hv, Bool.and_false]
  · rw [r2]
    rcases List.mem_append.mp hc with q | q
    · rw [h.dr c q v hv, Bool.and_false]
    · rw [List.mem_singleton.mp q, e1] at hv
      rw [Bool.and_eq_true] at hv
      rw [hv.1]
      rfl
  · rcases h.cov v with ⟨c, hc, hv⟩ | hv
    · exact .inl ⟨c, List.mem_append_left _ hc, hv⟩
    · cases es : sval v s with
      | true => exact .inl ⟨_, List.mem_append_right _ List.mem_cons_self, by rw [e1, es, hv]; rfl⟩
      | false => exact .inr (by rw [r2, es, hv]; rfl)
/-- sayings of which just one holds at each world -/
structure CelP (cs : List Nat) (C : List (List Wd)) : Prop where
  cl : ∀ c ∈ C, Sy cs c ∧ c.length ≤ 32
  len : C.length ≤ 5
  dis : C.Pairwise fun a b => ∀ v, sval v a = true → sval v b = false
  cov : ∀ v, ∃ c ∈ C, sval v c = true
theorem CelI.last {cs : List Nat} {i : Nat} {rw : List Wd} {C : List (List Wd)} (h : CelI cs i rw C) (i4 : i ≤ 4) : CelP cs (C ++ [if rw = [] then [.yes] else rw]) := by
  have rl := h.rl
  have e : ∀ v, sval v (if rw = [] then [.yes] else rw) = resB v rw := fun v => by
    by_cases z : rw = []
    · rw [if_pos z, z]
      rfl
    · rw [if_neg z]
      unfold resB
      cases rw with
      | nil => exact absurd rfl z
      | cons _ _ => rfl
  refine ⟨fun c hc => ?_, by rw [List.length_append, h.len]; show i + 1 ≤ 5; omega, ?_, fun v => ?_⟩
  · rcases List.mem_append.mp hc with q | q
    · exact h.cl c q
    · rw [List.mem_singleton.mp q]
      rcases h.r with ⟨z, _⟩ | ⟨z, _, y⟩
      · rw [if_pos z]
        exact ⟨Sy.yes, by decide⟩
      · rw [if_neg z]
        exact ⟨y, by omega⟩
  · refine List.pairwise_append.mpr ⟨h.dis, List.pairwise_singleton _ _, fun a ha b hb v hv => ?_⟩
    rw [List.mem_singleton.mp hb, e]
    exact h.dr a ha v hv
  · rcases h.cov v with ⟨c, hc, hv⟩ | hv
    · exact ⟨c, List.mem_append_left _ hc, hv⟩
    · exact ⟨_, List.mem_append_right _ List.mem_cons_self, by rw [e]; exact hv⟩
/-- the places of the worlds at which a given and a cell hold -/
def plcs (cs : List Nat) (wl : List (List Bool)) (g c : List Wd) : List Nat := (List.range wl.length).filter fun j => sval (vl cs (wl.getD j [])) g && sval (vl cs (wl.getD j [])) c
/-- a row of words -/
def WsAt (K : PySem.W.Frag) (H : Hp) (v : V) (c : List Wd) : Prop := ∃ a, v = .ref a ∧ SqT K H a (c.map wv)
theorem WsAt.mono {K : PySem.W.Frag} {H H' : Hp} {v : V} {c : List Wd} (k : Tk K H H') (h : WsAt K H v c) : WsAt K H' v c := by
  obtain ⟨a, e, t⟩ := h
  exact ⟨a, e, k _ _ t⟩
/-- [cell, places], both lists -/
def CelAt (K : PySem.W.Frag) (H : Hp) (f : List Wd → List Nat) (v : V) (c : List Wd) : Prop := ∃ q a l, v = .ref q ∧ H q = some (.lst [.ref a, .ref l]) ∧ SqT K H a (c.map wv) ∧ H l = some (.lst ((f c).map iv))
theorem rep_if (b : Bool) (x : V) : (List.replicate (if b = true then (1 : Int) else 0).toNat [x]).flatten = if b = true then [x] else [] := by
  cases b <;> rfl
end B
namespace B
open PySem PySem.Spec PyProof.Rows L2
section
variable {prog : Program} {w : World} {A : Around} {E : Value → Shared → Prop} {s : Shared} {q ti tt j1 j2 j3 : Addr} {f1 f2 f3 : List Addr} {n1 n2 n3 i : Nat} {P1 P2 P3 : Nat → Value → Prop} {S1 S2 S3 : Nat → Heap → Prop}
end
section
variable {X : Cx} {pins : List (Addr × Obj)} {σ : L2.St} {H : Hp} {s : Shared} {k1 k2 k3 : Kd} {v1 v2 v3 : V} {u1 u2 u3 : Value} {N i : Nat} {xs ys zs : List V}
end
end B
namespace B
open PySem PySem.Spec PyProof.Rows L2
section
variable {β : Type} {J : It} {n : Nat} {G : Hp → Prop} {Y : Nat → Hp → V → Hp → Prop} {K : PySem.W.Frag}
end
theorem ws_dq {K : PySem.W.Frag} {H : Hp} : ∀ {vs : List V} {C : List (List Wd)}, F2 (WsAt K H) vs C → DqAll K H vs (C.map wdat)
  | _, _, .nil => .nil
  | _, _, .cons ⟨_, e, t⟩ r => by
    subst e
    exact .cons (dq_dp (wdp t)) (ws_dq r)
end B
namespace B
open PySem PySem.Spec PyProof.Rows L2
section
variable {prog : Program} {w : World} {A : Around} {E : Value → Shared → Prop} {s : Shared} {q ti tt j1 j2 : Addr} {f1 f2 : List Addr} {n1 n2 i : Nat} {P1 P2 : Nat → Value → Prop} {S1 S2 : Nat → Heap → Prop}
end
section
variable {X : Cx} {pins : List (Addr × Obj)} {σ : L2.St} {H : Hp} {s : Shared} {k1 k2 : Kd} {v1 v2 : V} {u1 u2 : Value} {N i : Nat} {xs ys : List V}
end
end B
namespace B
open PySem PySem.Spec PyProof.Rows L2
end B
namespace B
open PySem PySem.Spec PyProof.Rows L2
section
variable {G : Gn} {left : List Nat} {tab : List (Option (Int × Nat))}
end
end B
namespace B
open PySem PySem.Spec PyProof.Rows L2
section
variable {G : Gn} {ps mo : List (Int × Nat)} {tab : List (Option (Int × Nat))} {left all : List Nat} {L : List (List (Int × Nat))}
end
end B
namespace B
open PySem PySem.Spec PyProof.Rows L2
section
variable {G : Gn} {ps : List (Int × Nat)} {tab : List (Option (Int × Nat))} {ns : List Nat} {L : List (List (Int × Nat))}
end
end B
namespace B
open PySem PySem.Spec PyProof.Rows L2
section
variable {n m : Nat} {A : Nat → Nat → Int} {w bb : Nat → Int} {b : Bo}
end
section
variable {G : Gn} {ps mo : List (Int × Nat)} {tab : List (Option (Int × Nat))} {left all : List Nat} {L : List (List (Int × Nat))} {B : Nat}
end
end B
namespace B
open PySem PySem.Spec PyProof.Rows L2
section
variable {G : Gn} {ps : List (Int × Nat)} {ns : List Nat} {tab : List (Option (Int × Nat))} {D M B k : Nat}
end
section
variable {cs : List Nat} {wl : List (List Bool)} {bds : List Bd} {ts : List Tm} {g : List Wd} {e h z B : Nat}
end
section
variable {cs : List Nat} {wl : List (List Bool)} {bds : List Bd} {e B : Nat}
end
end B
namespace B
open PySem PySem.Spec PyProof.Rows L2
section
variable {cs : List Nat} {wl : List (List Bool)} {bds : List Bd} {ts : List Tm} {g : List Wd} {e h z B : Nat}
variable {x : (Int × Nat) × List (List (Int × Nat)) × List (Int × Nat) × List (Int × Nat)}
end
end B
namespace B
open PySem PySem.Spec PyProof.Rows L2
end B
namespace B
open PySem PySem.Spec PyProof.Rows L2
section
variable {cs : List Nat} {wl : List (List Bool)} {L : List (List (Int × Nat))} {D M : Nat}
end
section
variable {cs : List Nat} {wl : List (List Bool)} {L : List (List (Int × Nat))} {G : Nat} {bds : List Bd} {x : Bd}
end
section
variable {cs : List Nat} {wl : List (List Bool)} {bds bds' : List Bd} {ts : List Tm} {g : List Wd} {e h z B e' h' z' B' : Nat} {x y : (Int × Nat) × List (List (Int × Nat)) × List (Int × Nat) × List (Int × Nat)}
end
end B
namespace B
open PySem PySem.Spec PyProof.Rows L2
end B
namespace B
open PySem PySem.Spec PyProof.Rows L2
structure Lyd (n : Nat) (d : PyData) : Prop where
  lay : d.canLay0 = true
  dep : d.depth ≤ n
theorem lyd_all {n : Nat} : ∀ {ds : List PyData}, (∀ d ∈ ds, Lyd n d) → PyData.canLayAll0 ds = true ∧ PyData.depthAll ds ≤ n
  | [], _ => ⟨rfl, Nat.zero_le _⟩
  | d :: ds, h => by
    obtain ⟨a, b⟩ := lyd_all fun x hx => h x (List.mem_cons_of_mem _ hx)
    have k := h d List.mem_cons_self
    refine ⟨?_, ?_⟩
    · show (d.canLay0 && PyData.canLayAll0 ds) = true
      rw [k.lay, a]; rfl
    · show max d.depth (PyData.depthAll ds) ≤ n
      exact Nat.max_le.mpr ⟨k.dep, b⟩
theorem Lyd.tup {n : Nat} {ds : List PyData} (h : ∀ d ∈ ds, Lyd n d) : Lyd (n + 1) (.tuple ds) := by
  obtain ⟨a, b⟩ := lyd_all h
  exact ⟨a, Nat.succ_le_succ b⟩
theorem Lyd.up {n m : Nat} {d : PyData} (h : Lyd n d) (e : n ≤ m) : Lyd m d := ⟨h.lay, Nat.le_trans h.dep e⟩
theorem Lyd.shaped {n : Nat} {d : PyData} (h : Lyd n d) (hn : n ≤ 64) : SeqAt.shaped d = true := by
  unfold SeqAt.shaped
  rw [h.lay, decide_eq_true (Nat.le_trans h.dep hn)]
  rfl
theorem Lyd.eqv {n : Nat} {d : PyData} (h : Lyd n d) : PyData.eqv d d = true := SeqAt.eqv_refl _ h.lay
theorem fdat_lyd (p : Int × Nat) : Lyd 1 (fdat p) := ⟨rfl, Nat.le_refl _⟩
end B
namespace B
open PySem PySem.Spec PyProof.Rows L2
section
variable {cs : List Nat} {wl : List (List Bool)} {bds : List Bd} {e B : Nat}
end
section
variable {cs : List Nat} {wl : List (List Bool)} {bds : List Bd} {ts : List Tm} {g : List Wd} {e h z B : Nat} {x : (Int × Nat) × List (List (Int × Nat)) × List (Int × Nat) × List (Int × Nat)}
end
section
variable {cs : List Nat} {wl : List (List Bool)} {L : List (List (Int × Nat))} {bds : List Bd}
end
end B
namespace B
open PySem PySem.Spec PyProof.Rows L2
section
variable {cs : List Nat} {wl : List (List Bool)} {L : List (List (Int × Nat))} {A X S : Nat} {bds : List Bd} {x : Bd}
end
section
variable {cs : List Nat} {wl : List (List Bool)} {bds bds' : List Bd} {ts : List Tm} {g : List Wd} {e h z B e' h' z' B' : Nat}
end
end B
namespace B
open PySem PySem.Spec PyProof.Rows L2
section
variable {cs : List Nat} {wl : List (List Bool)} {bds : List Bd} {L : List (List (Int × Nat))}
end
end B
namespace B
open PySem PySem.Spec PyProof.Rows L2
section
variable {cs : List Nat} {wl : List (List Bool)} {bds : List Bd} {L : List (List (Int × Nat))}
end
end B
namespace B
open PySem PySem.Spec PyProof.Rows L2
section
variable {cs : List Nat} {wl : List (List Bool)} {bds bds' : List Bd} {ts : List Tm} {g : List Wd} {e h z B e' h' z' B' : Nat} {L : List (List (Int × Nat))}
end
section
variable {cs : List Nat} {wl : List (List Bool)} {bds : List Bd} {ts : List Tm} {g g0 : List Wd} {p : Int × Nat} {n m : Nat} {L : List (List (Int × Nat))}
variable {z : Nat}
end
theorem bdat_lyd {cs : List Nat} (hs : ∀ c ∈ cs, c < 123) {ts : List Tm} {g : List Wd} (h : BtOk cs ts g) : Lyd 4 (bdat ts g) := ⟨(bdat_shw hs h).lay, (bdat_shw hs h).dep⟩
theorem kdat_lyd {cs : List Nat} (hs : ∀ c ∈ cs, c < 123) {x : Bd} (h : BtOk cs x.ts x.g) : Lyd 5 (kdat x) := Lyd.tup fun d hd => by
  rcases List.mem_cons.mp hd with rfl | hd
  · exact bdat_lyd hs h
  rw [List.mem_singleton.mp hd]
  exact (fdat_lyd _).up (by decide)
theorem bds_lyd {cs : List Nat} (hs : ∀ c ∈ cs, c < 123) {bds : List Bd} (h : ∀ x ∈ bds, BtOk cs x.ts x.g) : Lyd 6 (.tuple (bds.map kdat)) := Lyd.tup fun d hd => by
  obtain ⟨x, hx, rfl⟩ := List.mem_map.mp hd
  exact kdat_lyd hs (h x hx)
end B
namespace B
open PySem PySem.Spec PyProof.Rows L2
section
variable {cs : List Nat} {wl : List (List Bool)} {bds : List Bd}
end
end B
namespace B
open PySem PySem.Spec PyProof.Rows L2
section
variable {cs : List Nat} {wl : List (List Bool)} {ts : List Tm} {g : List Wd} {p lo hi : Int × Nat} {e h z B e' h' z' B' : Nat} {x y : (Int × Nat) × List (List (Int × Nat)) × List (Int × Nat) × List (Int × Nat)}
end
end B
namespace B
open PySem PySem.Spec PyProof.Rows L2
/-- a contract that speaks of the error: its address, its class, its dict -/
abbrev SpE := Addr → Value → Option Addr → Sp
section
variable {P : Program} {w : World} {K : PySem.W.Frag} {mg : Str → Option Value} {base : Heap}
end
section
variable {X : Cx} {a : Addr} {oe : Obj} {cls : Value} {d : Option Addr} {pn : List (Addr × Obj)}
/-- isinstance(e, c), e the error that is pinned -/
theorem call_isE (hm : (a, oe) ∈ X.pn) (hz : Zc cls d oe) (hf : ∃ vs, oe.data = .fields vs) : CallR X (.builtin "isinstance") (rIsX X.K a cls d) := by
  rintro pins s σ H xs us Q I r ⟨D, c, cv, b, rfl, dok, ec, rfl, hc, e, q⟩
  obtain ⟨u1, u2, rfl, r1, r2⟩ := vals2 r
  cases (show u1 = Value.ref a from r1)
  cases ClsV.eq hc r2
  have got := (I.pin (a, oe) (List.mem_append.mpr (.inl hm))).1
  obtain ⟨vs, hv⟩ := hf
  obtain ⟨od, J⟩ := inst_at I got hz hv dok
  exact PySem.W.kia_one (kit_of ec) I.kIn J e (fun z => nomatch z) fun tk => ⟨.bl b, H, I.kept (t' := tk) fun _ _ z => z, rfl, q⟩
end
end B
namespace B
open PySem PySem.Spec PyProof.Rows L2
section
variable {prog : Program} {w : World} {A : Around} {E : Value → Shared → Prop} {s : Shared}
/-- StopIteration made and raised while an error is handled -/
theorem stop_hot {α : Type} {x1 : Addr} {Q : α → Shared → Prop} (hot : HotX.HotAt A x1 s.heap)
    (last : ∀ h' e, (∀ b o, s.heap.get? b = some o → h'.get? b = some o) → (∃ o, h'.get? e = some o ∧ o.cls = .type "StopIteration") → E (.ref e) { s with heap := h' }) :
    wpAny (model prog w) A ((newExc (.type "StopIteration") [] >>= fun e => raiseNew e : Sem α)) Q E s := by
  obtain ⟨now, ob, us, at_, dat, ctx⟩ := hot
  refine wpAny_bind (?_ : wpAny _ _ (newExc _ _) _ _ _)
  unfold newExc newTuple
  refine wpAny_bind (wpAny_newObj_type (wpAny_bind (m := firstArgMember _ _) (wpAny_of_eq (a := Value.none) (by first | rfl | (unfold firstArgMember; rfl)) (wpAny_newObj_type ?_ (by size_fits)))) (by size_fits))
  have there := Heap.get?_push_of_some ({ cls := .type "tuple", data := .seq #[] } : Obj) at_
  refine HotX.raiseNew_hot ⟨now, ob, us, Heap.get?_push_of_some _ (Heap.get?_push_of_some _ at_), dat, ctx⟩ (Nat.ne_of_lt (Heap.lt_size (Heap.get?_push_of_some _ at_))) (Heap.get?_push_size _ rfl) rfl (by first | (simp; done) | (simp; omega) | (simp only [Array.size_append]; simp; omega)) ?_
  refine last _ _ (fun b o e => ?_) ⟨_, Heap.get?_update_self _ (Heap.get?_push_size _ rfl) rfl, rfl⟩
  exact (Heap.get?_update_other _ _ (Nat.ne_of_gt (Heap.lt_size (Heap.get?_push_of_some _ e)))).trans (Heap.get?_push_of_some _ (Heap.get?_push_of_some _ e))
theorem nextOf_list_end_hot {it l x1 : Addr} {i : Nat} {items : Array Value} {Q : Value → Shared → Prop} (hot : HotX.HotAt A x1 s.heap) (ne : x1 ≠ it) (hit : s.heap.IsListIter it l i) (hl : s.heap.IsList l items) (hx : items[i]? = none)
    (last : ∀ h' e, Heap.ExtBut it s.heap h' → (∃ o, h'.get? e = some o ∧ o.cls = .type "StopIteration") → E (.ref e) { s with heap := h' }) : wpAny (model prog w) A (Builtin.SmallTypes.nextOf (.ref it)) Q E s := by
  have ty := hit.typeIs
  obtain ⟨oi, gi, -, di⟩ := hit
  obtain ⟨ol, gl, -, nl, dl⟩ := hl
  unfold Builtin.SmallTypes.nextOf
  refine wpAny_bind (wpAny_callSpecial?_slot (name := Str.ofString "__next__") ty slot_listiter_next (wpAny_call_entry slot_listiter_next ty entry_listiter_next (?_ : wpAny _ _ (field (.ref it) 0 >>= _) _ _ _) (args_listiter_next _)))
  refine wpAny_bind (wpAny_field gi di (x := .ref l) rfl (?_ : wpAny _ _ (if (Value.ref l == Value.none) = true then _ else _) _ _ _))
  rw [if_neg (c := (Value.ref l == Value.none) = true) (fun z => Bool.false_ne_true z)]
  refine wpAny_bind (wpAny_field gi di (x := .int i 0) rfl (?_ : wpAny _ _ (seqItems? (.ref l) >>= _) _ _ _))
  refine wpAny_bind (wpAny_seqItems gl dl ?_)
  have none_ : items[(i : Int).toNat]? = none := by rw [Int.toNat_natCast]; exact hx
  simp only [none_]
  refine wpAny_bind (wpAny_rule (wpAny_bind (wpAny_setField gi di (by simp) (stop_hot (x1 := x1) ⟨hot.1, ?_⟩ ?_))))
  · obtain ⟨-, ob, us, at_, dat, ctx⟩ := hot
    exact ⟨ob, us, (Heap.get?_update_other _ _ (Ne.symm ne)).trans at_, dat, ctx⟩
  · intro h' e k st
    exact last h' e (fun b o nb g => k b o ((Heap.get?_update_other _ _ (Ne.symm nb)).trans g)) st
/-- a tuple's iterator at its end, there -/
theorem next_tuple_end_hot {it t x1 : Addr} {i : Nat} {items : Array Value} {Q : Option Value → Shared → Prop} (hot : HotX.HotAt A x1 s.heap) (ne : x1 ≠ it) (hit : IsTupIter s.heap it t i) (ht : IsTup s.heap t items) (hx : items[i]? = none)
    (last : ∀ h', Heap.ExtBut it s.heap h' → Q none { s with heap := h' }) : wpAny (model prog w) A (pyNext (.ref it)) Q E s := by
  have ty := hit.typeIs
  obtain ⟨oi, gi, -, di⟩ := hit
  obtain ⟨ol, gl, -, nl, dl⟩ := ht
  unfold pyNext
  refine wpAny_bind (wpAny_attempt (wpAny_callSpecial?_slot (name := Str.ofString "__next__") ty slot_tupleiter_next (wpAny_call_entry slot_tupleiter_next ty entry_tupleiter_next (?_ : wpAny _ _ (field (.ref it) 0 >>= _) _ _ _) (args_tupleiter_next _))))
  refine wpAny_bind (wpAny_field gi di (x := .ref t) rfl (?_ : wpAny _ _ (if (Value.ref t == Value.none) = true then _ else _) _ _ _))
  rw [if_neg (c := (Value.ref t == Value.none) = true) (fun z => Bool.false_ne_true z)]
  refine wpAny_bind (wpAny_field gi di (x := .int i 0) rfl (?_ : wpAny _ _ (seqItems? (.ref t) >>= _) _ _ _))
  refine wpAny_bind (wpAny_seqItems gl dl ?_)
  have none_ : items[(i : Int).toNat]? = none := by rw [Int.toNat_natCast]; exact hx
  simp only [none_]
  refine wpAny_bind (wpAny_rule (wpAny_bind (wpAny_setField gi di (by simp) (stop_hot (x1 := x1) ⟨hot.1, ?_⟩ ?_))))
  · obtain ⟨-, ob, us, at_, dat, ctx⟩ := hot
    exact ⟨ob, us, (Heap.get?_update_other _ _ (Ne.symm ne)).trans at_, dat, ctx⟩
  · intro h' e k ⟨o, st, cl⟩
    exact wpAny_bind (wpAny_isInstance (T := "StopIteration") (b := true) ⟨o, st, cl⟩ isSubtype_stop (wpAny_pure (last h' fun b o nb g => k b o ((Heap.get?_update_other _ _ (Ne.symm nb)).trans g))))
/-- a tuple taken apart, there -/
theorem unpack_hot {t x1 : Addr} {items : Array Value} {Q : List Value → Shared → Prop} (hot : HotX.HotAt A x1 s.heap) (ht : IsTup s.heap t items)
    (go : ∀ h', Heap.ExtBut s.heap.objs.size s.heap h' → Q items.toList { s with heap := h' }) : wpAny (model prog w) A (unpackItems (.ref t) items.size none) Q E s := by
  have old : t ≠ s.heap.objs.size := by
    obtain ⟨o, g, _⟩ := ht
    exact Nat.ne_of_lt (Heap.lt_size g)
  unfold unpackItems
  refine wpAny_bind (?_ : wpAny _ _ (notIterableAtAll _) _ _ _)
  unfold notIterableAtAll
  refine wpAny_bind (wpAny_specialOf ht.typeIs slot_tuple_iter.lookup (wpAny_pure ?_))
  simp only [Bool.false_eq_true, if_false]
  refine wpAny_bind (wpAny_holding (iter_tuple ht (wpAny_bind (wpAny_holding (draw_tuple old items.size 0 _ _ ⟨_, Heap.get?_push_size _ rfl, rfl, rfl⟩ (ht.push _) (by omega) fun h1 it1 sb1 => ?_)))))
  rw [show List.take items.size (List.drop 0 items.toList) = items.toList by rw [List.drop_zero]; exact List.take_of_length_le (by simp), if_neg (by simp)]
  have t1 : IsTup h1 t items := (ht.push _).extBut sb1.extBut old
  obtain ⟨now, ob, us, at_, dat, ctx⟩ := hot
  have nx : x1 ≠ s.heap.objs.size := Nat.ne_of_lt (Heap.lt_size at_)
  refine wpAny_bind (wpAny_holding (next_tuple_end_hot (x1 := x1) ⟨now, ob, us, sb1.extBut _ _ nx (Heap.get?_push_of_some _ at_), dat, ctx⟩ nx it1 t1 (by simp) fun h2 e2 => ?_))
  simp only [Option.isSome_none, Bool.false_eq_true, if_false]
  exact wpAny_pure (go h2 fun b o nb g => e2 b o nb (sb1.extBut b o nb (Heap.get?_push_of_some _ g)))
/-- what such a list's iterator draws -/
theorem draws_list_hot (it l x1 : Addr) (hne : l ≠ it) (ne : x1 ≠ it) (items : Array Value) :
    Draws prog w A it [it, l, x1] items.size (fun i v => items[i]? = some v) (fun i h => (h.IsListIter it l i ∧ h.IsList l items) ∧ HotX.HotAt A x1 h) where
  live := fun _ _ st => let ⟨o, ho, _⟩ := st.1.1; ⟨o, ho⟩
  frame := fun _ _ _ st hk => ⟨⟨st.1.1.at fun o e => hk it (by simp) o e, st.1.2.at fun o e => hk l (by simp) o e⟩, st.2.1, by
    obtain ⟨_, o, vs, a, b, c⟩ := st.2
    exact ⟨o, vs, hk x1 (by simp) o a, b, c⟩⟩
  item := fun i s Q E hi st hQ => by
    refine wpAny_nextOf_list_item st.1.1 st.1.2 (x := items[i]) (by simp [hi]) fun h' hit' hs' => ?_
    refine hQ _ h' s.toks (by simp [hi]) ⟨⟨hit', st.1.2.extBut hs'.extBut hne⟩, st.2.1, ?_⟩ hs'
    obtain ⟨_, o, vs, a, b, c⟩ := st.2
    exact ⟨o, vs, (hs'.2 _ ne).trans a, b, c⟩
  done := fun s Q E st hE => nextOf_list_end_hot st.2 ne st.1.1 st.1.2 (by simp) hE
end
/-- the turns of an iterator while the error of p is handled -/
structure TurnX (P : Program) (w : World) (K : PySem.W.Frag) (p : Addr × Obj) (tg : Expr) (J : It) (fp : List Addr) (it : Addr) (tn : Nat → Heap → Prop) : Prop where
  off : p.1 ∉ fp
  obj : ∀ i h, tn i h → ∀ b ∈ fp, ∃ o, h.get? b = some o ∧ ∀ v, o.data ≠ .cell v
  keep : ∀ i h h', tn i h → (∀ b ∈ fp, ∀ o, h.get? b = some o → h'.get? b = some o) → tn i h'
  item : ∀ (X : Cx), X.prog = P → X.w = w → X.K = K → L2H.Hot1 X.A p → ∀ (i : Nat) (pins : List (Addr × Obj)) (s : Shared) (σ : L2.St) (H : Hp) (E : Value → Shared → Prop), p ∈ X.pn ++ pins → L2.Inv X pins σ H s → (∀ b ∈ fp, FpOk X pins H b) → tn i s.heap → J.go i H →
    wpAny (model P w) X.A (pyNext (.ref it)) (fun r s1 => ∃ u, r = some u ∧ wpAny (model P w) X.A (letOwnedTupleGo tg (.ref it) u) (fun _ s2 => ∃ x H', L2.Inv X pins σ H' s2 ∧ RelV x u ∧ J.yld i H x H' ∧ tn (i + 1) s2.heap ∧ ∀ b ∈ fp, H' b = none) E s1) E s
  done : ∀ (X : Cx), X.prog = P → X.w = w → X.K = K → L2H.Hot1 X.A p → ∀ (i : Nat) (pins : List (Addr × Obj)) (s : Shared) (σ : L2.St) (H : Hp) (E : Value → Shared → Prop), p ∈ X.pn ++ pins → L2.Inv X pins σ H s → (∀ b ∈ fp, FpOk X pins H b) → tn i s.heap → J.stop i H →
    wpAny (model P w) X.A (pyNext (.ref it)) (fun r s1 => r = none ∧ L2.Inv X pins σ H s1) E s
  self : ∀ (A : Around) (i : Nat) (s : Shared) (Q : Value → Shared → Prop) (E : Value → Shared → Prop), tn i s.heap → Q (.ref it) s → wpAny (model P w) A (pyIter (.ref it)) Q E s
structure PIX (X : Cx) (p : Addr × Obj) (tg iter : Expr) (wi : TI) : Prop where
  run : ∀ (pins : List (Addr × Obj)) (s : Shared) (σ : L2.St) (H : Hp) (R : It → Hp → Prop), L2.Inv X pins σ H s → wi σ H R →
    wpAny (model X.prog X.w) X.A (eval iter X.env) (fun v s1 => wpAny (model X.prog X.w) X.A (pyIter v) (fun itv s2 => ∃ (it : Addr) (fp : List Addr) (tn : Nat → Heap → Prop) (J : It) (H' : Hp), itv = .ref it ∧ L2.Inv X pins σ H' s2 ∧ TurnX X.prog X.w X.K p tg J fp it tn ∧ tn 0 s2.heap ∧ (∀ b ∈ fp, FpOk X pins H' b) ∧ R J H') X.xe s1) X.xe s
theorem hot_at {X : Cx} {pins : List (Addr × Obj)} {σ : L2.St} {H : Hp} {s : Shared} {p : Addr × Obj} (hot : L2H.Hot1 X.A p) (hp : p ∈ X.pn ++ pins) (I : L2.Inv X pins σ H s) : HotX.HotAt X.A p.1 s.heap := by
  obtain ⟨hh, vs, e, c⟩ := hot
  exact ⟨hh, p.2, vs, (I.pin p hp).1, e, c⟩
/-- a list's draws, read by what is tracked -/
theorem list_draws_hot {X : Cx} {pins : List (Addr × Obj)} {σ : L2.St} {H : Hp} {s : Shared} {x1 : Addr} {a it : Addr} {xs : List V} (I : L2.Inv X pins σ H s) (hot : HotX.HotAt X.A x1 s.heap) (h : SqL X.K H a xs) (ne : a < it) (ne2 : x1 < it) :
    ∃ (P : Nat → Value → Prop) (St : Nat → Heap → Prop), Draws X.prog X.w X.A.in1 it (it :: [a, x1]) xs.length P St ∧ (∀ i x, P i x → ∃ y, xs[i]? = some y ∧ RelV y x) ∧ (∀ i, s.heap.IsListIter it a i → St i s.heap) ∧ (∀ i h, St i h → h.IsListIter it a i) := by
  obtain ⟨its, rv, ht, hz⟩ := I.list h
  have hl := rv.length
  have D := draws_list_hot (prog := X.prog) (w := X.w) (A := X.A.in1) it a x1 (Nat.ne_of_lt ne) (Nat.ne_of_lt ne2) its.toArray
  rw [List.size_toArray, ← hl] at D
  refine ⟨_, _, D, fun i x hx => ?_, fun i st => ⟨⟨st, ht.isList⟩, hot⟩, fun i h st => st.1.1⟩
  have hx : its[i]? = some x := by simpa using hx
  have hi : i < xs.length := by rw [hl]; exact (List.getElem?_eq_some_iff.mp hx).1
  obtain ⟨u', hu, ru⟩ := rv.get (List.getElem?_eq_getElem hi)
  rw [hx] at hu
  cases hu
  exact ⟨_, List.getElem?_eq_getElem hi, ru⟩
theorem turn_zipX {P : Program} {w : World} {K : PySem.W.Frag} {elts : List Expr} {kk : Nat} {tpos : Pos} {p : Addr × Obj} {a b N : Nat} (l1 : a < N) (l2 : b < N) (lp : p.1 < N) :
    TurnX P w K p (.Tuple elts kk tpos) (ItG K .l .l (.ref a) (.ref b)) [N + 4, N + 2, N + 3, N, N + 1] (N + 4) (fun i h => IsZip h (N + 4) (N + 2) (N + 3) .none ∧ IsTupOf2 h (N + 2) (.ref N) (.ref (N + 1)) ∧ (∃ a1 a2, IsTupOf2 h (N + 3) a1 a2) ∧ h.IsListIter N a i ∧ h.IsListIter (N + 1) b i) := by
  have T := turn_zipG (P := P) (w := w) (K := K) (elts := elts) (kk := kk) (tpos := tpos) (k1 := .l) (k2 := .l) (v1 := .ref a) (v2 := .ref b) (u1 := .ref a) (u2 := .ref b) (N := N) rfl rfl (fun c e => by cases e; exact l1) (fun c e => by cases e; exact l2)
  have off : p.1 ∉ [N + 4, N + 2, N + 3, N, N + 1] := fun z => by
    have e : p.1 = N + 4 ∨ p.1 = N + 2 ∨ p.1 = N + 3 ∨ p.1 = N ∨ p.1 = N + 1 := by simpa using z
    have up : N ≤ p.1 := by
      rcases e with e | e | e | e | e <;> rw [e]
      · exact Nat.le_add_right _ _
      · exact Nat.le_add_right _ _
      · exact Nat.le_add_right _ _
      · exact Nat.le_refl _
      · exact Nat.le_add_right _ _
    exact absurd lp (Nat.not_lt.mpr up)
  refine ⟨off, T.obj, T.keep, ?_, ?_, T.self⟩
  · intro X hP hw hK hot i pins s σ H E hp I hf st hg
    subst hP hw hK
    obtain ⟨hz, hTI, hTO, s1, s2⟩ := st
    obtain ⟨xs, ys, x, y, ⟨a', ea, hqx⟩, ⟨b', eb, hqy⟩, hx, hy⟩ := hg
    cases ea; cases eb
    have ht := hot_at hot hp I
    obtain ⟨P1, St1, D1, c1, a1, b1⟩ := list_draws_hot (it := N) I ht hqx l1 lp
    obtain ⟨P2, St2, D2, c2, a2, b2⟩ := list_draws_hot (it := N + 1) I ht hqy (Nat.lt_succ_of_lt l2) (Nat.lt_succ_of_lt lp)
    have S := zip_sep2 (N := N) (fp1 := [a, p.1]) (fp2 := [b, p.1]) (by simp; exact ⟨l1, lp⟩) (by simp; exact ⟨l2, lp⟩)
    have W := GoesN.zip2 (elts := elts) (x1 := kk) (pos := tpos) S D1 D2
    have hi1 := (List.getElem?_eq_some_iff.mp hx).1
    have hi2 := (List.getElem?_eq_some_iff.mp hy).1
    refine W.goes i s (fun u s2 => ∃ x H', L2.Inv X pins σ H' s2 ∧ RelV x u ∧ (ItG X.K .l .l (.ref a) (.ref b)).yld i H x H' ∧ _ ∧ ∀ b ∈ [N + 4, N + 2, N + 3, N, N + 1], H' b = none) E (by omega) ⟨hz, hTI, hTO, a1 i s1, a2 i s2⟩ ?_
    rintro v h' tk ⟨T', p', r, rfl, hT, hp', hr, ht'⟩ st' hk htk
    obtain ⟨x', hx', rx⟩ := c1 i p' hp'
    obtain ⟨y', hy', ry⟩ := c2 i r hr
    have new : ObjOk X.prog X.w (upd H T' (.tup [x', y'])) h' T' (.tup [x', y']) := ⟨by show 2 ≤ sizeLine; decide, [p', r], .cons rx (.cons ry .nil), ht'⟩
    have I1 : L2.Inv X pins σ (upd H T' (.tup [x', y'])) { s with heap := h', toks := tk } := I.turnedNew (ch := [N + 4, N + 2, N + 3, N, N + 1]) (fun c o hb q => hk c o (fun z => hb (by
      have z : c = N + 4 ∨ c = N + 3 ∨ c = N ∨ c = N + 1 := by simpa using z
      rcases z with z | z | z | z <;> rw [z] <;> simp)) q) hf hT new
    have hTn := I.hok.fresh hT
    refine ⟨.ref T', _, I1, rfl, ⟨T', x', y', rfl, hTn, rfl, fun zs ⟨a2, e2, z2⟩ => by cases e2; rw [I.list_inj z2 hqx]; exact hx', fun zs ⟨a2, e2, z2⟩ => by cases e2; rw [I.list_inj z2 hqy]; exact hy'⟩, ⟨st'.1, st'.2.1, st'.2.2.1, b1 _ _ st'.2.2.2.1, b2 _ _ st'.2.2.2.2⟩, fun c hc' => ?_⟩
    obtain ⟨o, eo, _⟩ := T.obj i s.heap ⟨hz, hTI, hTO, s1, s2⟩ c hc'
    rw [upd_ne (Nat.ne_of_lt (Nat.lt_of_lt_of_le (Heap.lt_size eo) hT))]
    exact (hf c hc').1
  · intro X hP hw hK hot i pins s σ H E hp I hf st hg
    subst hP hw hK
    obtain ⟨hz, hTI, hTO, s1, s2⟩ := st
    obtain ⟨xs, ys, ⟨a', ea, hqx⟩, ⟨b', eb, hqy⟩, hend⟩ := hg
    cases ea; cases eb
    have ht := hot_at hot hp I
    obtain ⟨P1, St1, D1, c1, a1, b1⟩ := list_draws_hot (it := N) I ht hqx l1 lp
    obtain ⟨P2, St2, D2, c2, a2, b2⟩ := list_draws_hot (it := N + 1) I ht hqy (Nat.lt_succ_of_lt l2) (Nat.lt_succ_of_lt lp)
    have S := zip_sep2 (N := N) (fp1 := [a, p.1]) (fp2 := [b, p.1]) (by simp; exact ⟨l1, lp⟩) (by simp; exact ⟨l2, lp⟩)
    have W := GoesN.zip2 (elts := elts) (x1 := kk) (pos := tpos) S D1 D2
    subst hend
    refine W.stops s (fun s1 => L2.Inv X pins σ H s1) E ⟨hz, hTI, hTO, a1 _ s1, a2 _ s2⟩ fun h' tk hk htk => ?_
    exact I.turnedL (ch := [N + 4, N + 2, N + 3, N, N + 1]) (fun c o hb q => hk c o (fun z => hb (by
      have z : c = N + 4 ∨ c = N + 3 ∨ c = N ∨ c = N + 1 := by simpa using z
      rcases z with z | z | z | z <;> rw [z] <;> simp)) q) hf
/-- zip(a, b) of two lists there -/
def iZipX (K : PySem.W.Frag) (ta : TA) : TI := fun σ H R => ta σ H fun vs H1 => ∃ a b xs ys, vs = [.ref a, .ref b] ∧ SqL K H1 a xs ∧ SqL K H1 b ys ∧ R (ItG K .l .l (.ref a) (.ref b)) H1
theorem pi_zipX {X : Cx} {q : Addr × Obj} {e e2 : Expr} {ta : TA} {p pos tpos : Pos} {elts : List Expr} {kk : Nat} (hot : L2H.Hot1 X.A q) (hq : q ∈ X.pn) (hg : Gl X "zip") (hm : X.mg "zip" = none) (ha : PA X [e, e2] ta)
    (hs : starEach [e, e2] X.env = (false, eval e X.env) :: starEach [e2] X.env := by rfl) (hpl : (backTo pos (starEach [e2] X.env)).any (·.1) = false := by rfl) :
    PIX X q (.Tuple elts kk tpos) (.Call (.Name "zip" p) [e, e2] [] pos) (iZipX X.K ta) := by
  refine ⟨fun pins s σ H R I h => ?_⟩
  refine Call_ (ld_blt I hg hm PyProof.Rows.boot_zip (PyProof.Rows.callWith_type1 (thn (ha.run pos pins s σ H _ I h) fun us s1 ⟨vs, H1, I1, r1, q1⟩ => ?_) hs hpl))
  obtain ⟨a, b, xs, ys, rfl, hqx, hqy, fin⟩ := q1
  obtain ⟨u1, u2, rfl, ra, rb⟩ := vals2 r1
  cases (show u1 = Value.ref a from ra)
  cases (show u2 = Value.ref b from rb)
  obtain ⟨o1, G1, B1, g1, b1, l1⟩ := Src.begins (k := .l) I1 ⟨a, rfl, hqx⟩ (show RelV (.ref a) (.ref a) from rfl)
  obtain ⟨o2, G2, B2, g2, b2, l2⟩ := Src.begins (k := .l) I1 ⟨b, rfl, hqy⟩ (show RelV (.ref b) (.ref b) from rfl)
  have new : ∀ {c : Nat}, s1.heap.objs.size ≤ c → FpOk X pins H1 c := fun h => I1.fpOk h (I1.hok.fresh h)
  refine zip_begins2 B1 B2 g1 g2 fun h' hz hTI hTO h1 h2 hsz hk => wpAny_pyIter_zip hz ?_
  refine ⟨s1.heap.objs.size + 4, _, _, _, H1, rfl, I1.kept (t' := s1.toks) hk, turn_zipX (p := q) (l1 a rfl) (l2 b rfl) (Heap.lt_size (I1.pin q (List.mem_append_left _ hq)).1), ⟨hz, hTI, ⟨_, _, hTO⟩, b1 h' _ h1, b2 h' _ h2⟩, fun c hc => ?_, fin⟩
  have e : c = s1.heap.objs.size + 4 ∨ c = s1.heap.objs.size + 2 ∨ c = s1.heap.objs.size + 3 ∨ c = s1.heap.objs.size ∨ c = s1.heap.objs.size + 1 := by simpa using hc
  rcases e with e | e | e | e | e <;> rw [e]
  · exact new (Nat.le_add_right _ _)
  · exact new (Nat.le_add_right _ _)
  · exact new (Nat.le_add_right _ _)
  · exact new (Nat.le_refl _)
  · exact new (Nat.le_add_right _ _)
/-- a target of the block, q kept there -/
structure PGq (X : Cx) (q : Addr × Obj) (target : Expr) (t : TG) : Prop where
  run : ∀ (pins : List (Addr × Obj)) (s : Shared) (σ : L2.St) (H : Hp) (v : V) (u : Value) (Q : L2.St → Hp → Prop), q ∈ X.pn ++ pins → L2.Inv X pins σ H s → RelV v u → t v σ H Q →
    wpAny (model X.prog X.w) X.A (assign target X.env u) (fun _ s' => ∃ σ' H', L2.Inv X pins σ' H' s' ∧ Q σ' H') X.xe s
theorem pg_tupX {X : Cx} {q : Addr × Obj} {es : List Expr} {k : Nat} {pos : Pos} {t : TGs} {n : Nat} (hot : L2H.Hot1 X.A q) (h : PGs X es t)
    (hn : (assignEach es X.env).length = n := by rfl) (hst : (assignEach es X.env).findIdx? (·.1) = none := by rfl) : PGq X q (.Tuple es k pos) (gTup X.K n t) := by
  constructor
  intro pins s σ H v u Q hq I r want
  obtain ⟨a, xs, rfl, tup, len, want⟩ := want
  cases r
  obtain ⟨its, rv, ht, _⟩ := I.tuple tup
  have ln : (assignEach es X.env).length = its.toArray.size := by simp [hn, ← len, rv.length]
  rw [assign_Tuple]
  unfold unpack
  rw [ln, hst]
  refine wpAny_bind (wpAny_standAt (wpAny_bind (wpAny_holding (unpack_hot (hot_at hot hq I) ht fun h' k' => ?_))))
  exact h.run pins _ σ H xs _ Q (I.kept (t' := s.toks) fun b o e => k' b o (Nat.ne_of_lt (Heap.lt_size e)) e) (by simpa using rv) want
theorem off_stack {X : Cx} (ok : X.Ok) {a : Addr} (h1 : a ≠ X.env.locals) (h2 : a ∉ X.fs) : a ∉ frs X.stack := by
  rcases ok.stk with e | ⟨e, f⟩
  · rw [e]
    exact h2
  · rw [e]
    intro hm
    obtain ⟨v, hv, q⟩ := List.mem_filterMap.mp hm
    rcases List.mem_cons.mp hv with rfl | hv
    · rw [f] at q
      exact h1 (Option.some.inj q).symm
    · exact h2 (List.mem_filterMap.mpr ⟨v, hv, q⟩)
section
variable {X : Cx} {q : Addr × Obj} {elt tg iter : Expr} {ifs : List Expr} {scope : Scope} {own : List (Str × Nat)} {pos : Pos} {g : TG} {tt : TT} {te : TE}
/-- the environment of a comprehension's block, made at s -/
abbrev ceX (X : Cx) (scope : Scope) (s : Shared) : Env := compEnvC scope (cellsFrom (s.heap.objs.size + 1) scope.names (cloFrom X.env.cells scope.names [])) s.heap.objs.size X.env
/-- the block of a comprehension, run while an error is handled -/
theorem comp_runX {pins : List (Addr × Obj)} {σ : L2.St} {H3 : Hp} {s3 : Shared} {Q : VK} {J : It} {fp : List Addr} {it D : Addr} {tn : Nat → Heap → Prop} {W : Nat → Nat → Hp → Prop} {m0 : Nat} (hot : L2H.Hot1 X.A q) (hq : q ∈ X.pn) (hN : X.N.Nodup) (ok : BlkOk X.N X.env.scope scope own)
    (I3 : L2.Inv X pins σ H3 s3) (T : TurnX X.prog X.w X.K q tg J fp it tn) (st3 : tn 0 s3.heap) (f3 : ∀ b ∈ fp, FpOk X pins H3 b ∧ b < s3.heap.objs.size)
    (pg : PGq (X.blk s3 H3 scope (ceX X scope s3) fp) q tg g) (pt : PTs (X.blk s3 H3 scope (ceX X scope s3) fp) ifs tt) (pe : PE (X.blk s3 H3 scope (ceX X scope s3) fp) elt te) (w0 : W 0 m0 H3)
    (turn : ∀ i m H, W i m H → (J.stop i H ∧ Q (.ref D) H) ∨ (J.go i H ∧ ∃ Nx : Hp → Prop, (∀ H', Nx H' → ∃ m', m' < m ∧ W (i + 1) m' H') ∧ ∀ x H', J.yld i H x H' → g x (wipe σ (own.map (·.2))) H' fun σ2 H2 => wipe σ2 (own.map (·.2)) = wipe σ (own.map (·.2)) ∧ tt σ2 H2 fun b H3 =>
      if b = true then te σ2 H3 fun y H4 => ∃ acc, H4 D = some (.lst acc) ∧ acc.length < sizeLine ∧ Nx (upd H4 D (.lst (acc ++ [y]))) else Nx H3)) :
    codeAny (model X.prog X.w) X.A (.compStart (.ListComp elt [⟨tg, iter, ifs, 0⟩] scope pos) 0 (.ref it) (.ref D) (ceX X scope s3)) (compPost (model X.prog X.w) X.A X.xe none (EP X pins σ Q) (.ref D) s3.heap.objs.size)
      { s3 with heap := pushCells (s3.heap.push { cls := .type "dict", data := .dict #[] }) scope.names } := by
  obtain ⟨q1, q2, q3, q4, q5⟩ := I3.pin q (List.mem_append_left _ hq)
  have I0 := block_start I3 ok hN f3
  have locs : (ceX X scope s3).locals = s3.heap.objs.size := rfl
  have offq : q.1 ∉ (X.blk s3 H3 scope (ceX X scope s3) fp).fs := off_stack I3.ok q3 q4
  -- q stays in the block
  have I4 : L2.Inv (X.blk s3 H3 scope (ceX X scope s3) fp) [q] (wipe σ (own.map (·.2))) H3 { s3 with heap := pushCells (s3.heap.push { cls := .type "dict", data := .dict #[] }) scope.names } := I0.pins_of fun p hp => by
    rw [List.mem_singleton.mp hp]
    exact ⟨pushCells_keeps _ _ _ _ (Heap.get?_push_of_some _ q1), q2, Nat.ne_of_lt (Heap.lt_size q1), offq, q5⟩
  have hq4 : q ∈ (X.blk s3 H3 scope (ceX X scope s3) fp).pn ++ [q] := List.mem_append_right _ (List.mem_singleton.mpr rfl)
  have st4 : tn 0 (pushCells (s3.heap.push { cls := .type "dict", data := .dict #[] }) scope.names) := T.keep _ _ _ st3 fun b _ o e => pushCells_keeps _ _ _ _ (Heap.get?_push_of_some _ e)
  have nfp : ∀ b ∈ fp, H3 b = none := fun b hb => (f3 b hb).1.1
  have own_ : ∀ {σ' : L2.St} {H' : Hp} {s' : Shared}, L2.Inv (X.blk s3 H3 scope (ceX X scope s3) fp) [q] σ' H' s' → (∀ b ∈ fp, H' b = none) → ∀ b ∈ fp, FpOk (X.blk s3 H3 scope (ceX X scope s3) fp) [q] H' b := fun {σ' H' s'} I' hn b hb =>
    ⟨hn b hb, (I'.ok.exf b hb).1, I'.ok.exfs b hb, .inl hb, fun x c e => (I'.ok.exf b hb).2 x c e, fun p hp e => T.off (by
      have hp : p = q := List.mem_singleton.mp hp
      rw [hp] at e
      rw [e]
      exact hb)⟩
  generalize hs4 : ({ s3 with heap := pushCells (s3.heap.push { cls := .type "dict", data := .dict #[] }) scope.names } : Shared) = s4 at I4 ⊢
  have st4 : tn 0 s4.heap := by rw [← hs4]; exact st4
  clear I0
  refine codeAny_compStart_list ?_ (T.self X.A 0 _ _ _ st4 ?_)
  all_goals
    refine compLoop_any (fun n s' => ∃ i H', L2.Inv (X.blk s3 H3 scope (ceX X scope s3) fp) [q] (wipe σ (own.map (·.2))) H' s' ∧ tn i s'.heap ∧ (∀ b ∈ fp, H' b = none) ∧ W i n H') ?_ m0 ⟨0, H3, I4, st4, nfp, w0⟩
    rintro n s5 ⟨i, H5, I5, st5, n5, w5⟩
    rcases turn i n H5 w5 with ⟨stop, fin⟩ | ⟨go, Nx, hNx, step⟩
    · refine thnF (T.done (X.blk s3 H3 scope (ceX X scope s3) fp) rfl rfl rfl hot i [q] s5 _ H5 (fun _ _ => False) hq4 I5 (own_ I5 n5) st5 stop) ?_
      rintro _ s6 ⟨rfl, I6⟩
      obtain ⟨m, hn, _⟩ := I6.loc
      have free : H5 s3.heap.objs.size = none := I6.free
      have I7 : L2.Inv X pins σ H5 s6 := I3.call' (ch := fp) I6.os I6.base I6.hok I6.bare fun b hb => ⟨(f3 b hb).1.2.2.2.1, (f3 b hb).1.2.1, (f3 b hb).1.2.2.2.2.1, (f3 b hb).1.2.2.2.2.2⟩
      obtain ⟨f0, f1, f2, f4, f5, f6⟩ := I3.fpOk (Nat.le_refl _) free
      exact ⟨m, hn, fun h'' sb => ⟨.ref D, H5, I7.turned (t' := s6.toks) (fun b o hb e => (sb.2 b hb).trans e) f0 f1 f4 f5 f6, rfl, fin⟩⟩
    · refine thnF (T.item (X.blk s3 H3 scope (ceX X scope s3) fp) rfl rfl rfl hot i [q] s5 _ H5 (fun _ _ => False) hq4 I5 (own_ I5 n5) st5 go) ?_
      rintro _ s6 ⟨u, rfl, h6⟩
      refine thnF h6 ?_
      rintro _ s7 ⟨x, H7, I7, r7, y7, st7, n7⟩
      have I7' := I7.pinned (own_ I7 n7) (T.obj _ _ st7)
      refine thnF (pg.run _ s7 _ H7 x u _ (List.mem_append_right _ (List.mem_append_left _ (List.mem_singleton.mpr rfl))) I7' r7 (step x H7 y7)) ?_
      rintro _ s8 ⟨σ8, H8, I8, same8, tests⟩
      refine thnF (pt.run _ s8 σ8 H8 _ I8 tests) ?_
      rintro b s9 ⟨H9, I9, q9⟩
      have again : ∀ {s' : Shared} {H' : Hp}, L2.Inv (X.blk s3 H3 scope (ceX X scope s3) fp) ([q] ++ pinsAt fp s7.heap) σ8 H' s' → Nx H' → ∃ m, m < n ∧ ∃ i H', L2.Inv (X.blk s3 H3 scope (ceX X scope s3) fp) [q] (wipe σ (own.map (·.2))) H' s' ∧ tn i s'.heap ∧ (∀ b ∈ fp, H' b = none) ∧ W i m H' := fun {s' H'} I' nx => by
        obtain ⟨m', hm, w'⟩ := hNx H' nx
        have at_ : ∀ b ∈ fp, ∀ o, s7.heap.get? b = some o → s'.heap.get? b = some o ∧ H' b = none := fun b hb o e =>
          have z := I'.pin (b, o) (List.mem_append_right _ (List.mem_append_right _ (mem_pinsAt hb e)))
          ⟨z.1, z.2.1⟩
        refine ⟨m', hm, i + 1, H', (I'.unpinned (pins := [q])).weak (by rw [← same8, wipe_length]) (fun j v e => ?_), T.keep _ _ _ st7 fun b hb o e => (at_ b hb o e).1, fun b hb => ?_, w'⟩
        · rw [← same8] at e
          exact (wipe_some e).1
        · obtain ⟨o, e, _⟩ := T.obj _ _ st7 b hb
          exact (at_ b hb o e).2
      cases b with
      | false => exact again I9 q9
      | true =>
        refine thnF (pe.run _ s9 σ8 H9 _ I9 q9) ?_
        rintro z s10 ⟨yv, H10, I10, r10, acc, hD, hz, nx⟩
        exact app_ok (X := X.blk s3 H3 scope (ceX X scope s3) fp) I10 hD hz r10 fun s11 I11 => again I11 nx
/-- [elt for .. in .. if ..] while an error is handled -/
theorem pe_lcX {wi : TI} (hot : L2H.Hot1 X.A q) (hq : q ∈ X.pn) (hN : X.N.Nodup) (hi : PIX X q tg iter wi) (ok : BlkOk X.N X.env.scope scope own)
    (hg : ∀ (s : Shared) (H : Hp) (C : Addr) (cl : List (Str × Addr)) (fp : List Addr), PGq (X.blk s H scope (compEnvC scope cl C X.env) fp) q tg g) (ht : ∀ (s : Shared) (H : Hp) (C : Addr) (cl : List (Str × Addr)) (fp : List Addr), PTs (X.blk s H scope (compEnvC scope cl C X.env) fp) ifs tt)
    (he : ∀ (s : Shared) (H : Hp) (C : Addr) (cl : List (Str × Addr)) (fp : List Addr), PE (X.blk s H scope (compEnvC scope cl C X.env) fp) elt te) (hs : ∀ x, foldedSetIterable iter X.env x = pure x := by intro _; rfl) :
    PE X (.ListComp elt [⟨tg, iter, ifs, 0⟩] scope pos) (tLc wi g tt te (own.map (·.2))) := by
  constructor
  intro pins s σ H Q I want
  rw [eval_ListComp]
  have cells : ∀ y ∈ scope.names, y.2 = .free → ∃ c, X.env.cells.lookup y.1 = some c := fun y hy e => I.ok.has _ ((ok.free y hy e).imp id id)
  refine wpAny_comprehension_free (use := none) rfl hs (closure_ok cells) ok.kind (fun y hy e => by rw [ok.uniq y hy, e]) (thn (hi.run pins s σ H _ I want) fun _ s1 h1 => thn h1 ?_)
  rintro _ s2 ⟨it, fp, tn, J, H2, rfl, I2, T, st2, f2, turns⟩
  refine wpAny_newObj_type (newEnv_comp ?_) (by show 0 ≤ sizeLine; decide)
  have freshD : H2 s2.heap.objs.size = none := I2.hok.fresh (Nat.le_refl _)
  obtain ⟨W, ⟨m0, w0⟩, turn⟩ := turns _ freshD
  refine comp_runX (s3 := { s2 with heap := s2.heap.push { cls := .type "list", data := .seq ([] : List Value).toArray } }) (H3 := upd H2 s2.heap.objs.size (.lst [])) (D := s2.heap.objs.size) hot hq hN ok ?_ T ?_ ?_ (hg ..) (ht ..) (he ..) w0 turn
  · exact I2.laid (t' := s2.toks) (fun b o e => Heap.get?_push_of_some _ e) (Nat.le_refl _) ⟨Nat.zero_le _, [], 0, .nil, Heap.get?_push_size _ rfl⟩
  · exact T.keep _ _ _ st2 fun b _ o e => Heap.get?_push_of_some _ e
  · intro b hb
    obtain ⟨o, e, _⟩ := T.obj _ _ st2 b hb
    have lt := Heap.lt_size e
    refine ⟨⟨?_, (f2 b hb).2⟩, by rw [Heap.size_push]; exact Nat.lt_succ_of_lt lt⟩
    rw [upd_ne (Nat.ne_of_lt lt)]
    exact (f2 b hb).1
end
theorem takes0N {X : Cx} : L2N.Takes X (fun _ _ _ _ => False) := fun _ _ x => by
  obtain ⟨_, _, _, _, _, _, _, _, _, _, _, _, _, _, _, _, no⟩ := x
  exact no.elim
theorem okXN {P : Program} {w : World} {K : PySem.W.Frag} {mg : Str → Option Value} {base : Heap} {x qual : Str} {st : Stmt} {f : Addr} {fd : FuncData} {N ps : List Str} {k : Nat} {sp : Sp} (F : Fun K x qual st f fd) (S : FnScope N ps (defScope st)) (arity : ∀ vs H Q E, sp vs H Q E → vs.length = ps.length)
    (body : ∀ (cdv : Value) (A : Around) (outer : List Env) (s : Shared) (H : Hp) (vs : List V) (Q : VK) (E : XK), Room k (A.deeper (envOfC qual (defScope st) s.heap.objs.size f cdv)) → sp vs H Q E →
      ∃ t, PSs (cxOf (L2N.CX P w) P w K mg base N qual (defScope st) f cdv A outer s H E) (defBody st) t ∧ t { nx := fun _ H' => Q .non H', rt := Q } (start N vs) H) : FnOk P w K mg base (L2N.CX P w) (k + 1) f fd ps sp := by
  obtain ⟨c1, c2, c3, c4, c5, c6, c7, c8, c9, rfl, at_, code⟩ := F.ex
  exact fn_of at_ code S arity fun A out s H vs Q E room want => body c7 A out s H vs Q E room want
/-- C(), its context None -/
theorem pmk_noneN {X : Cx} {x : Str} {p pos : Pos} {k : Nat} (T : Xc X.K X.mg x) (hr : Room k X.A) (gl : Gl X x) (nd : (x == ("__debug__" : Str)) = false := by decide) :
    L2N.PMk X (.Call (.Name x p) [] [] pos) (fun _ H Q => ∀ d, H d = none → Q (.ref T.C) (some d) (upd H d (.xd (wordOf x)))) := by
  intro pins s σ H Q I want
  refine wpAny_Call_Name_kw (ld_glob I gl T.g ?_ nd)
  refine PySem.W.callWith_K0 I.kIn T.kp ?_
  refine wpAny_call (ei_land (A := X.A) T hr I fun h' tk' e d oe vs G nd ne dne hoe hz hdat h1 h2 gs ge gk J => ?_)
  have ctx : PySem.PXN.CtxN oe := fun us eu => by
    rw [hdat] at eu
    cases eu
    exact h2
  have free : upd H d (.xd (wordOf x)) e = none := by
    rw [upd_ne (Ne.symm dne)]
    exact ne
  exact ⟨e, oe, vs, _, _, .ref T.C, some d, rfl, J, gs, ge, hoe, ⟨hz.1, hz.2, ctx⟩, hdat, h1, free, rfl, I.bare, raises_own T.sb T.ty, want d nd⟩
/-- a def that is handed the handled error, whose context is None -/
structure FnX (P : Program) (w : World) (K : PySem.W.Frag) (mg : Str → Option Value) (base : Heap) (k : Nat) (f : Addr) (fd : FuncData) (ps : List Str) (sp : SpE) : Prop where
  arity : ∀ a cls d vs H Q E, sp a cls d vs H Q E → vs.length = ps.length
  go : ∀ (A : Around) (out : List Env) (s : Shared) (H : Hp) (ar : Args) (us : List Value) (vs : List V) (Q : VK) (E : XK) (a : Addr) (oe : Obj) (cls : Value) (d : Option Addr), L2H.RoomH k A → L2H.Hot1 A (a, oe) → Zc cls d oe → (∃ fs, oe.data = .fields fs) → L2H.PinOk out H s (a, oe) →
    Env0 P w K mg base A out s H → BindsTo s fd ar (ps.zip us) → Vals vs us → sp a cls d vs H Q E → codeAny (model P w) A (.call (.ref f) ar) (CR CX0 out P w H s Q E) s
section
variable {P : Program} {w : World} {K : PySem.W.Frag} {mg : Str → Option Value} {base : Heap}
theorem fun_okX {x qual : Str} {st : Stmt} {f : Addr} {fd : FuncData} {N ps : List Str} {k : Nat} {sp : SpE} (F : Fun K x qual st f fd) (S : FnScope N ps (defScope st)) (ln : ∀ a cls d vs H Q E, sp a cls d vs H Q E → vs.length = ps.length)
    (body : ∀ (cdv : Value) (A : Around) (outer : List Env) (s : Shared) (H : Hp) (vs : List V) (Q : VK) (E : XK) (a : Addr) (oe : Obj) (cls : Value) (d : Option Addr), L2H.RoomH k (A.deeper (envOfC qual (defScope st) s.heap.objs.size f cdv)) → L2H.Hot1 (A.deeper (envOfC qual (defScope st) s.heap.objs.size f cdv)) (a, oe) → Zc cls d oe → (∃ fs, oe.data = .fields fs) → sp a cls d vs H Q E →
      ∃ t, PSs (L2H.cxH CX0 P w K mg base N qual (defScope st) f cdv A outer s H E (a, oe)).nox (defBody st) t ∧ t { nx := fun _ H' => Q .non H', rt := Q } (start N vs) H) :
    FnX P w K mg base (k + 1) f fd ps sp := by
  obtain ⟨oc, od, kV, doc, pm, an, cv, ct, sl, rfl, look, code⟩ := F.ex
  refine ⟨ln, ?_⟩
  intro A out s H ar us vs Q E a oe cls d room hot hz hf pin e0 hb rel want
  have up : ∀ b o, base.get? b = some o → s.heap.get? b = some o := fun b o q => (e0.bs b o q).1
  have inK := e0.mod.kin.keeps up
  refine codeAny_call_function room.depth (inK _ _ look) rfl S.co S.gen rfl (PySem.W.codeRec_of inK code) (hb _ _ _ _ ?_)
  have kinds : ∀ y ∈ ps.zip us, (defScope st).names.lookup y.1 = some .local ∨
      ((defScope st).names.lookup y.1 = some .cell ∧ ((cellsFrom (s.heap.objs.size + 1) (defScope st).names []).lookup y.1).isSome = true) := by
    intro y hy
    have par := S.par y.1 (List.of_mem_zip (a := y.1) (b := y.2) hy).1
    exact par.imp id fun c => ⟨c, PySem.W.cellsFrom_some _ _ _ (.inl c)⟩
  refine wpAny_newFunctionEnv_cells S.kind kinds fun env same s1 inC => ?_
  cases same
  refine ⟨(e0.mod.nolimit.keeps up).keeps inC.toInCall.keep, codeAny_func ?_⟩
  obtain ⟨t, tb, tq⟩ := body cv A out s H vs Q E a oe cls d (room.deeper _) ⟨hot.1, hot.2⟩ hz hf want
  have J0 := L2H.inv_startH (CX := CX0) (E := E) S pin e0 (ln _ _ _ _ _ _ _ want) rel inC
  refine wpAny_mono (tb.nox.run [] s1 (start N vs) H _ J0 tq) ?_ fun _ _ h => h
  intro fl s2 h2
  cases fl
  case ret u => obtain ⟨v, _, H2, J, rv, q⟩ := h2; exact ⟨v, H2, J.os, J.bare, J.base, J.hok, rv, q⟩
  case next => obtain ⟨_, H2, J, q⟩ := h2; exact ⟨V.non, H2, J.os, J.bare, J.base, J.hok, rfl, q⟩
  case brk => exact h2.elim fun _ a => a.elim fun _ b => b.2.elim
  case cont => exact h2.elim fun _ a => a.elim fun _ b => b.2.elim
end
section
variable {X : Cx} {a : Addr} {oe : Obj} {cls : Value} {d : Option Addr} {pn : List (Addr × Obj)}
/-- f(e, ..) within the suite, f such a def -/
theorem pe_callX {k : Nat} {f : Addr} {fd : FuncData} {ps : List Str} {sp : SpE} {x : Str} {p pos : Pos} {e : Expr} {es : List Expr} {t : TA} (hz : L2N.Zn cls d oe) (hf : ∃ fs, oe.data = .fields fs) (F : FnX X.prog X.w X.K X.mg X.base k f fd ps sp) (room : L2H.RoomH k X.A) (gl : Gl (X.suite a ((a, oe) :: pn)) x)
    (at_ : X.mg x = some (.ref f)) (kp : PySem.W.keepIn X.K (.ref f) = true) (bd : Binds X.K fd ps []) (ha : PA (X.suite a ((a, oe) :: pn)) (e :: es) t)
    (nd : (x == ("__debug__" : Str)) = false := by decide) (st : starEach (e :: es) X.env = (false, eval e X.env) :: starEach es X.env := by rfl) (nst : (backTo pos (starEach es X.env)).any (·.1) = false := by rfl) :
    PE (X.suite a ((a, oe) :: pn)) (.Call (.Name x p) (e :: es) [] pos) (tCall (sp a cls d) [] E0 t) := by
  constructor
  intro pins s σ H Q I want
  have hot : L2H.Hot1 (X.suite a ((a, oe) :: pn)).A (a, oe) := by
    obtain ⟨vs, ev⟩ := hf
    exact ⟨rfl, vs, ev, hz.2.2 vs ev⟩
  refine wpAny_Call_Name_kw (ld_glob I gl at_ ?_ nd)
  refine PySem.W.callWith_K (h₀ := X.base) I.ok.mod.kin kp ?_ st nst
  refine thn (ha.run pos pins s σ H _ I want) ?_
  rintro us s1 ⟨vs, H1, J, rel, q⟩
  rw [List.append_nil] at q
  have hl : us.length = ps.length := rel.length.symm.trans (F.arity _ _ _ _ _ _ _ q)
  have bind := bd s1 us J.kIn (by simpa using hl)
  rw [List.append_nil] at bind
  have here := J.pin (a, oe) (List.mem_append.mpr (.inl List.mem_cons_self))
  have pin : L2H.PinOk (X.suite a ((a, oe) :: pn)).stack H1 s1 (a, oe) := ⟨here.1, here.2.1, fun m => (List.mem_cons.mp (J.stkSub a m)).elim here.2.2.1 here.2.2.2.1, here.2.2.2.2⟩
  refine ⟨J.kIn, wpAny_call (codeAny_mono (F.go (X.suite a ((a, oe) :: pn)).A (X.suite a ((a, oe) :: pn)).stack s1 H1 ⟨us, []⟩ us vs Q E0 a oe cls d ⟨room.dp, room.un⟩ hot hz.zc hf pin J.env0 bind rel q) ?_)⟩
  intro r s2 h2
  match r, h2 with
  | .error _, h2 => exact h2.elim
  | .ok .next, h2 => exact h2.elim
  | .ok .brk, h2 => exact h2.elim
  | .ok .cont, h2 => exact h2.elim
  | .ok (.ret u), h2 =>
    obtain ⟨v, H2, os, bare, un, hok, rv, q2⟩ := h2
    exact ⟨v, H2, J.call' os un hok bare (fun _ h => absurd h (by simp)), rv, q2⟩
end
end B
namespace B
open PySem PySem.Spec PyProof.Rows L2
section
variable {m : Nat} {tab : List (Option (Int × Nat))}
end
end B
namespace B
open PySem PySem.Spec PyProof.Rows L2
section
variable {m : Nat} {tab tab' tab2 : List (Option (Int × Nat))} {w : List (Int × Nat)} {L : List (List (Int × Nat))} {R : Rat → Rat → Prop}
end
section
variable {cs : List Nat} {wl : List (List Bool)} {bds : List Bd} {tab tab' tab2 : List (Option (Int × Nat))} {lo hi lo' hi' lo2 hi2 : Int × Nat}
end
section
variable {cs : List Nat} {wl : List (List Bool)} {ts us : List Tm} {g h : List Wd} {R : Rat → Rat → Prop}
end
end B
namespace B
open PySem PySem.Spec PyProof.Rows L2
section
variable {cs ps : List Nat} {k : Nat} {x : Bd}
end
section
variable {cs ps : List Nat} {bds : List Bd} {ts : List Tm} {lo hi low high : Int × Nat}
end
section
variable {cs ps : List Nat} {bds : List Bd} {ts : List Tm} {lo hi low high : Int × Nat} {L : List (List (Int × Nat))}
end
end B
namespace B
open PySem PySem.Spec PyProof.Rows L2
end B
namespace B
open PySem PySem.Spec PyProof.Rows L2
end B
namespace B
open PySem PySem.Spec PyProof.Rows L2
end B
namespace B
open PySem PySem.Spec PyProof.Rows L2
section
variable {P : List Bool → Bool} {f : List Bool → Option (Int × Nat)}
end
section
variable {cs : List Nat} {rs : List (List Wd)} {ws : List Wd} {L : List (List (Int × Nat))}
end
end B
namespace B
open PySem PySem.Spec PyProof.Rows L2
section
variable {cs : List Nat} {rs : List (List Wd)} {bds : List Bd} {ws : List Wd} {L M : List (List (Int × Nat))}
end
end B
namespace B
open PySem PySem.Spec PyProof.Rows L2
end B
namespace B
open PySem PySem.Spec PyProof.Rows L2
section
variable {cs : List Nat} {rs : List (List Wd)} {L : List (List (Int × Nat))} {kss : List (List Nat)} {bds : List Bd} {ws : List Wd}
end
end B
namespace B
open PySem PySem.Spec PyProof.Rows L2
section
variable {cs : List Nat} {wl : List (List Bool)} {bds : List Bd} {L : List (List (Int × Nat))} {st : List (Int × Nat)} {z : Nat}
end
end B
namespace B
open PySem PySem.Spec PyProof.Rows L2
end B
namespace B
open PySem PySem.Spec PyProof.Rows L2
end B
namespace B
open PySem PySem.Spec PyProof.Rows L2
end B
namespace B
open PySem PySem.Spec PyProof.Rows L2
end B
namespace B
open PySem PySem.Spec PyProof.Rows L2
end B
namespace B
open PySem PySem.Spec PyProof.Rows L2
end B
namespace B
open PySem PySem.Spec PyProof.Rows L2
end B
namespace B
open PySem PySem.Spec PyProof.Rows L2
end B
namespace B
open PySem PySem.Spec PyProof.Rows L2
end B
namespace B
open PySem PySem.Spec PyProof.Rows L2
end B
namespace B
open PySem PySem.Spec PyProof.Rows L2
end B
namespace B
open PySem PySem.Spec PyProof.Rows L2
end B
namespace B
open PySem PySem.Spec PyProof.Rows L2
end B
namespace B
open PySem PySem.Spec PyProof.Rows L2
end B
namespace B
open PySem PySem.Spec PyProof.Rows L2
end B
namespace B
open PySem PySem.Spec PyProof.Rows L2
end B
namespace B
open PySem PySem.Spec PyProof.Rows L2
end B
namespace B
open PySem PySem.Spec PyProof.Rows L2
end B
namespace B
open PySem PySem.Spec PyProof.Rows L2
end B
namespace B
open PySem PySem.Spec PyProof.Rows L2
end B
namespace B
open PySem PySem.Spec PyProof.Rows L2
end B
namespace B
open PySem PySem.Spec PyProof.Rows L2
end B
namespace B
open PySem PySem.Spec PyProof.Rows L2
end B
namespace B
open PySem PySem.Spec PyProof.Rows L2
end B
namespace B
open PySem PySem.Spec PyProof.Rows L2
end B
namespace B
open PySem PySem.Spec PyProof.Rows L2
section
variable {prog : Program} {w : World} {A : Around} {s : Shared}
end
end B
namespace B
open PySem PySem.Spec PyProof.Rows L2
end B
namespace B
open PySem PySem.Spec PyProof.Rows L2
end B
namespace B
open PySem PySem.Spec PyProof.Rows L2
end B
namespace B
open PySem PySem.Spec PyProof.Rows L2
end B
namespace B
open PySem PySem.Spec PyProof.Rows L2
end B
namespace B
open PySem PySem.Spec PyProof.Rows L2
end B
namespace B
open PySem PySem.Spec PyProof.Rows L2
end B
namespace B
open PySem PySem.Spec PyProof.Rows L2
section
variable {Y : Cx} {pins : List (Addr × Obj)} {σ : L2.St} {H : Hp} {s s' : Shared} {xe : Value → Shared → Prop}
theorem inv_toE (I : L2.Inv Y pins σ H s) (xe : Value → Shared → Prop) : L2.Inv { Y with xe := xe } pins σ H s :=
  ⟨I.ok.toTry Y.pn xe, I.os, I.bare, I.base, I.loc, I.cell, I.free, I.freeC, I.pin, I.hok, I.len⟩
theorem inv_ofE (I : L2.Inv { Y with xe := xe } pins σ H s) : L2.Inv Y pins σ H s :=
  ⟨Cx.Ok.ofTry (X := Y) (pn := Y.pn) (xe := xe) I.ok, I.os, I.bare, I.base, I.loc, I.cell, I.free, I.freeC, I.pin, I.hok, I.len⟩
abbrev blkE (X : Cx) (s : Shared) (H : Hp) (scope : Scope) (cenv : Env) (fp : List Addr) (xe : Value → Shared → Prop) : Cx := { X.blk s H scope cenv fp with xe := xe }

theorem hid_none {g : Heap} {b c : Addr} (h : g.get? b = none) : (PySem.W.hideAll g [c]).get? b = none := by
  cases q : (PySem.W.hideAll g [c]).get? b with
  | none => rfl
  | some o => rw [PySem.W.of_hideAll _ q] at h; cases h
theorem sky_hid {g h : Heap} {l : List Env} {a L c : Addr} {Z : Obj → Prop} (x : Sky g l a Z L h) : Sky (PySem.W.hideAll g [c]) l a Z L h := by
  have st : g.StaysIn h → (PySem.W.hideAll g [c]).StaysIn h := fun k b o e => k b o (PySem.W.of_hideAll _ e)
  have ff : h.FunFrames g l → h.FunFrames (PySem.W.hideAll g [c]) l := fun k => funFrames_none k fun b hb => hid_none (k.mem hb).1
  have tr : ∀ {fl : Value}, HandSPX.TracedZ h g a Z fl → HandSPX.TracedZ h (PySem.W.hideAll g [c]) a Z fl := fun ⟨oe, vs, T, oT, ts, he, hz, hd, h1, nT, r⟩ => ⟨oe, vs, T, oT, ts, he, hz, hd, h1, hid_none nT, r⟩
  rcases x with ⟨k1, k2, k3, k4⟩ | ⟨k1, k2, k3, k4⟩ | ⟨k1, k2, k3, k4⟩
  · exact .inl ⟨st k1, hid_none k2, ff k3, k4⟩
  · exact .inr (.inl ⟨st k1, hid_none k2, ff k3, tr k4⟩)
  · exact .inr (.inr ⟨st k1, hid_none k2, ff k3, tr k4⟩)
/-- a note reads the frame alone -/
theorem nf_env (u : Value) {c e : Env} (h : c.frame = e.frame) : noteFrame u c = noteFrame u e := by
  unfold noteFrame PySem.frameOf
  rw [h]
end
section
variable {X : Cx} {W : WX}
def tLcE (wi : TI) (g : TG) (tt : TT) (te : L2.St → TE) (vs : List Nat) : TE := fun σ H Q => tLc wi g tt (te σ) vs σ H Q
section
variable {elt tg iter : Expr} {ifs : List Expr} {scope : Scope} {own : List (Str × Nat)} {pos spos : Pos} {wi : TI} {g : TG} {tt : TT} {te : L2.St → TE}
end
end
end B
namespace B
open PySem PySem.Spec PyProof.Rows L2
end B
namespace B
open PySem PySem.Spec PyProof.Rows L2
section
variable {cs : List Nat} {rs : List (List Wd)} {b : List Bd} {ws : List Wd}
end
end B
namespace B
open PySem PySem.Spec PyProof.Rows L2
end B
namespace B
open PySem PySem.Spec PyProof.Rows L2
end B
namespace B
open PySem PySem.Spec PyProof.Rows L2
end B
namespace B
open PySem PySem.Spec PyProof.Rows L2
section
variable {Y : Cx} {pins : List (Addr × Obj)} {σ : L2.St} {H : Hp} {s s' : Shared} {xe : Value → Shared → Prop}
end
section
variable {X : Cx} {W : WX}
end
section
variable {prog : Program} {w : World} {A : Around} {R : Result → Shared → Prop} {s : Shared} {elt ta ia tb ib : Expr} {fa fb : List Expr} {scope : Scope} {pos : Pos} {it acc : Value} {env : Env}
/-- the first clause's loop: what the second one's lets out is noted here too -/
theorem loop2_outE (hs : ∀ x, foldedSetIterable ib env x = pure x) (I : Nat → Shared → Prop)
    (turn : ∀ k z, I k z → wpAny (model prog w) A (pyNext it) (fun r z1 => match r with
      | none => R (.ok .next) z1
      | some v => wpAny (model prog w) A (letOwnedTupleGo ta it v) (fun _ z2 => wpAny (model prog w) A (assign ta env v) (fun _ z3 =>
          wpAny (model prog w) A (forIn fa true fun c r => if r = true then do let ok ← isTrue c env (eval c env); pure (ForInStep.yield ok) else pure (ForInStep.yield r)) (fun ok z4 =>
            if ok = true then wpAny (model prog w) A (eval ib env) (fun x z5 => wpAny (model prog w) A (pyIter x) (fun it1 z6 =>
              codeAny (model prog w) A (.compStart (.ListComp elt [⟨ta, ia, fa, 0⟩, ⟨tb, ib, fb, 0⟩] scope pos) 1 it1 acc env) (fun r z7 => match r with
                | .ok _ => ∃ m, m < k ∧ I m z7
                | .error e => cameBackBy (model prog w) A env (notedBy (model prog w) A env fun e z => R (.error e) z) e z7) z6) (notedBy (model prog w) A env fun e z => R (.error e) z) z5) (notedBy (model prog w) A env fun e z => R (.error e) z) z4
            else ∃ m, m < k ∧ I m z4) (notedBy (model prog w) A env fun e z => R (.error e) z) z3) (notedBy (model prog w) A env fun e z => R (.error e) z) z2) (notedBy (model prog w) A env fun e z => R (.error e) z) z1) (notedBy (model prog w) A env fun e z => R (.error e) z) z)
    (n : Nat) (h : I n s) :
    codeAny (model prog w) A (.compLoop (.ListComp elt [⟨ta, ia, fa, 0⟩, ⟨tb, ib, fb, 0⟩] scope pos) 0 it acc env) R s := by
  refine codeAny_loop rfl I (fun k z hI => ?_) n h
  show wpAny _ A ((compTurn (.ListComp elt [⟨ta, ia, fa, 0⟩, ⟨tb, ib, fb, 0⟩] scope pos) 0 it acc env).onRaise (fun x => do noteFrame x env; theTreesLotGoes x)) _ _ z
  refine wpAny_noted ?_
  rw [compTurn2_out]
  refine wpAny_bind (wpAny_standAt (wpAny_bind (wpAny_mono (turn k z hI) (fun r z1 y1 => ?_) fun _ _ y => y)))
  cases r with
  | none => exact wpAny_pure y1
  | some v =>
    refine wpAny_bind (wpAny_mono y1 (fun _ z2 y2 => ?_) fun _ _ y => y)
    refine wpAny_bind (wpAny_mono y2 (fun _ z3 y3 => wpAny_bind (wpAny_mono y3 (fun ok z4 y4 => ?_) fun _ _ y => y)) fun _ _ y => y)
    cases ok with
    | false => exact wpAny_pure ⟨rfl, y4⟩
    | true =>
      refine wpAny_bind (wpAny_mono y4 (fun x z5 y5 => ?_) fun _ _ y => y)
      refine wpAny_bind (wpAny_standAt (wpAny_bind (wpAny_of_eq (hs x) (wpAny_bind (wpAny_holding (wpAny_mono y5 (fun it1 z6 y6 => ?_) fun _ _ y => y))))))
      refine wpAny_bind (wpAny_runOwn ?_)
      rw [Around.mark_none]
      refine codeAny_mono y6 fun r z7 hr => ?_
      cases r with
      | ok f =>
        first
          | exact wpAny_pure ⟨rfl, hr⟩
          | exact wpAny_bind (wpAny_pure (wpAny_pure ⟨rfl, hr⟩))
      | error e => exact hr
end
section
variable {X : Cx} {W : WX}
def tLc2E (wi : TI) (g : TG) (tt : TT) (wi1 : TI) (g1 : TG) (tt1 : TT) (te : L2.St → TE) (vs vs1 : List Nat) : TE := fun σ H Q => tLc2 wi g tt wi1 g1 tt1 (te σ) vs vs1 σ H Q
variable {elt tg iter tg1 iter1 : Expr} {ifs ifs1 : List Expr} {scope : Scope} {own : List (Str × Nat)} {vs1 : List Nat} {pos spos : Pos} {wi wi1 : TI} {g g1 : TG} {tt tt1 : TT} {te : L2.St → TE}
end
end B
namespace B
open PySem PySem.Spec PyProof.Rows L2
section
variable {Y : Cx} {pins : List (Addr × Obj)} {σ : L2.St} {H : Hp} {s s' : Shared} {xe : Value → Shared → Prop}
/-- an exception that a call within the block let out -/
def cxBN (Y : Cx) (E : XK) : Value → Shared → Prop := fun u s' => ∃ pins σ H s, L2.Inv Y pins σ H s ∧ L2N.CX Y.prog Y.w Y.stack H s E u s'
/-- the frame notes it -/
theorem sky_noteN {M : Model} {A : Around} {E₁ : Value → Shared → Prop} {env : Env} {outer : List Env} {g : Heap} {L a : Addr} {Z : Obj → Prop} {Q : Unit → Shared → Prop} (hZ : PXN.Steady1 Z) (hfr : A.frames = some (env :: outer)) (hf : env.frame = some L)
    (x : Sky g (env :: outer) a Z L s.heap) (hQ : ∀ h', HandSPX.HeldZ g (env :: outer) a Z L h' → s.heap.UpToSlots h' → Q () { s with heap := h' }) : wpAny M A (noteFrame (.ref a) env) Q E₁ s := by
  rcases x with ⟨k1, k2, k3, _, _, e1, e2, e3, e4⟩ | x | x
  · exact PXN.look_newZ hZ hfr k3 hf e1 k1 k2 e3 e4 e2 hQ
  · exact PXN.looks_onZ hZ hfr hf x hQ
  · exact HandSPX.againZ hf x.2.2.2 (hQ _ x (Heap.UpToSlots.refl _))

theorem lcE_failN {X : Cx} {W : WX} {cenv : Env} {u : Value} {m : Str → Option Value} (I : L2.Inv X pins σ H s) (tk : L2N.Takes X W) (hst : X.stack = X.env :: X.outer) (hf : X.env.frame = some X.env.locals)
    (hcf : cenv.frame = X.env.frame) (fC : FpOk X pins H cenv.locals) (hn : s.heap.Ns cenv.locals m) (hCs : cenv.locals ∉ frs X.stack) (c : L2N.CX X.prog X.w X.stack H s (fun cls d H => W cls d σ H) u s') :
    notedBy (model X.prog X.w) X.A cenv (CompFails (model X.prog X.w) X.A X.xe cenv) u s' := by
  generalize hC : cenv.locals = C at fC hn hCs
  obtain ⟨oC, es, ep, e0, dC, r⟩ := hn
  have c2 : L2N.CX X.prog X.w X.stack H s (fun cls d H => W cls d σ H ∧ H C = none) u s' ∧ s'.heap.get? C = some oC := by
    obtain ⟨a, g, H', cls, d, rfl, fl, hok, ub, na, os, ag, hE⟩ := c
    exact ⟨⟨a, g, H', cls, d, rfl, fl, hok, ub, na, os, ag, hE, ub.free _ _ e0 fC.1⟩, fl.1 _ _ (ub.keep _ _ e0 fC.1 hCs)⟩
  obtain ⟨c2, sC⟩ := c2
  obtain ⟨a, g, sI, pins2, σ2, H2, cls, d, rfl, I2, nb, up, sky, na, os, ag, w1, w2⟩ := L2N.XE.of_call (W := fun cls d σ H => W cls d σ H ∧ H C = none) I (fun _ _ _ h => h) c2
  have hfr : X.A.frames = some (X.env :: X.outer) := by rw [I.ok.frames, hst]
  have sky3 := sky_hid (c := C) sky
  show wpAny _ _ (noteFrame (.ref a) cenv) _ _ s'
  rw [nf_env _ hcf]
  rw [hst] at sky3
  refine sky_noteN L2N.Zn.steady hfr hf sky3 fun h1 hh up1 => ?_
  unfold CompFails
  rw [hC]
  have n1 : h1.Ns C m := by
    obtain ⟨sl, e1⟩ := up1 C oC sC fun vs q => by rw [dC] at q; cases q
    exact ⟨_, es, ep, e1, dC, r⟩
  refine ⟨m, n1, fun h2 m2 hn2 hs2 => ?_⟩
  have hh2 : HandSPX.HeldZ (PySem.W.hideAll g [C]) (X.env :: X.outer) a (L2N.Zn cls d) X.env.locals h2 := by
    obtain ⟨k1, k2, k3, oe, vs, T, oT, ts, he, hz, hd, p1, nT, hTe, hT, hdT, p3⟩ := hh
    obtain ⟨o1, _, _, q1, dq, _⟩ := n1
    have ne : ∀ {b o vs}, h1.get? b = some o → o.data = .fields vs → b ≠ C := fun e1 e2 z => by
      rw [z, q1] at e1
      cases e1
      rw [dq] at e2
      cases e2
    refine ⟨fun b o e => (hs2.2 b fun z => ?_).trans (k1 b o e), k2, Heap.FunFrames.sameBut hs2 hn2 k3, oe, vs, T, oT, ts, (hs2.2 a (ne he hd)).trans he, hz, hd, p1, nT, hTe, (hs2.2 T (ne hT hdT)).trans hT, hdT, p3⟩
    rw [z, PySem.W.hideAll_none _ (by simp)] at e
    cases e
  obtain ⟨oe, vs, T, he, hd, p1⟩ : ∃ oe vs T, h2.get? a = some oe ∧ oe.data = .fields vs ∧ vs[1]? = some (.ref T) := by
    obtain ⟨_, _, _, oe, vs, T, _, _, he, _, hd, p1, _⟩ := hh2
    exact ⟨oe, vs, T, he, hd, p1⟩
  unfold PySem.passOn
  refine wpAny_bind (wpAny_field he hd p1 ?_)
  rw [if_neg (show ¬ ((Value.ref T == Value.none) = true) from by simp), hcf, hf]
  refine wpAny_bind (HandSPX.setFlight_onZ hh2 fun h3 hh3 up3 => wpAny_throw (tk _ _ ?_))
  have hid : ∀ b o, (PySem.W.hideAll sI.heap [C]).get? b = some o → sI.heap.get? b = some o ∧ b ≠ C := fun b o e => ⟨PySem.W.of_hideAll _ e, fun z => by
    rw [z, PySem.W.hideAll_none _ (by simp)] at e
    cases e⟩
  have I3 : L2.Inv X [] σ2 H2 { sI with heap := PySem.W.hideAll sI.heap [C], toks := sI.toks } :=
    (I2.pins_of (pins' := []) (fun p hp => absurd hp (by simp))).turned (fun b o hb e => PySem.W.hideAll_get _ e (by simpa using hb)) w2 fC.2.1 fC.2.2.2.1 fC.2.2.2.2.1 fun p hp => fC.2.2.2.2.2 p (by
      rw [List.append_nil] at hp
      exact List.mem_append_left _ hp)
  refine ⟨a, PySem.W.hideAll g [C], _, [], σ2, H2, cls, d, rfl, I3, fun b o e hb => ?_, fun b o e hnf => ?_, ?_, na, os, ag, w1⟩
  · obtain ⟨e1, ne⟩ := hid b o e
    exact PySem.W.hideAll_get _ (nb b o e1 hb) (by simpa using ne)
  · obtain ⟨e1, ne⟩ := hid b o e
    obtain ⟨x1, y1⟩ := up b o e1 hnf
    obtain ⟨x2, y2⟩ := up1 b _ y1 hnf
    obtain ⟨x3, y3⟩ := up3 b _ ((hs2.2 b ne).trans y2) hnf
    exact ⟨x3, y3⟩
  · rw [hst]
    exact .inr (.inr hh3)
theorem lcE_fail2N {X : Cx} {W : WX} {cenv : Env} {u : Value} {m : Str → Option Value} (I : L2.Inv X pins σ H s) (tk : L2N.Takes X W) (hst : X.stack = X.env :: X.outer) (hf : X.env.frame = some X.env.locals)
    (hcf : cenv.frame = X.env.frame) (fC : FpOk X pins H cenv.locals) (hn : s.heap.Ns cenv.locals m) (hCs : cenv.locals ∉ frs X.stack) (c : L2N.CX X.prog X.w X.stack H s (fun cls d H => W cls d σ H) u s') :
    notedBy (model X.prog X.w) X.A cenv (cameBackBy (model X.prog X.w) X.A cenv (notedBy (model X.prog X.w) X.A cenv (CompFails (model X.prog X.w) X.A X.xe cenv))) u s' := by
  generalize hC : cenv.locals = C at fC hn hCs
  obtain ⟨oC, es, ep, e0, dC, r⟩ := hn
  have c2 : L2N.CX X.prog X.w X.stack H s (fun cls d H => W cls d σ H ∧ H C = none) u s' ∧ s'.heap.get? C = some oC := by
    obtain ⟨a, g, H', cls, d, rfl, fl, hok, ub, na, os, ag, hE⟩ := c
    exact ⟨⟨a, g, H', cls, d, rfl, fl, hok, ub, na, os, ag, hE, ub.free _ _ e0 fC.1⟩, fl.1 _ _ (ub.keep _ _ e0 fC.1 hCs)⟩
  obtain ⟨c2, sC⟩ := c2
  obtain ⟨a, g, sI, pins2, σ2, H2, cls, d, rfl, I2, nb, up, sky, na, os, ag, w1, w2⟩ := L2N.XE.of_call (W := fun cls d σ H => W cls d σ H ∧ H C = none) I (fun _ _ _ h => h) c2
  have hfr : X.A.frames = some (X.env :: X.outer) := by rw [I.ok.frames, hst]
  have sky3 := sky_hid (c := C) sky
  show wpAny _ _ (noteFrame (.ref a) cenv) _ _ s'
  rw [nf_env _ hcf]
  rw [hst] at sky3
  refine sky_noteN L2N.Zn.steady hfr hf sky3 fun h0 hh0 up0 => ?_
  unfold cameBackBy
  obtain ⟨ob, vb, Tb, heb, hdb, pb⟩ : ∃ oe vs T, h0.get? a = some oe ∧ oe.data = .fields vs ∧ vs[1]? = some (.ref T) := by
    obtain ⟨_, _, _, oe, vs, T, _, _, he, _, hd, p1, _⟩ := hh0
    exact ⟨oe, vs, T, he, hd, p1⟩
  refine wpAny_bind (wpAny_field heb hdb pb ?_)
  rw [if_neg (show ¬ ((Value.ref Tb == Value.none) = true) from by simp), hcf, hf]
  refine HandSPX.setFlight_onZ hh0 fun h9 hh9 up9 => ?_
  show wpAny _ _ (noteFrame (.ref a) cenv) _ _ { s' with heap := h9 }
  rw [nf_env _ hcf]
  refine sky_noteN (s := { s' with heap := h9 }) L2N.Zn.steady hfr hf (.inr (.inr hh9)) fun h1 hh upb => ?_
  have up1 := (up0.trans up9).trans upb
  unfold CompFails
  rw [hC]
  have n1 : h1.Ns C m := by
    obtain ⟨sl, e1⟩ := up1 C oC sC fun vs q => by rw [dC] at q; cases q
    exact ⟨_, es, ep, e1, dC, r⟩
  refine ⟨m, n1, fun h2 m2 hn2 hs2 => ?_⟩
  have hh2 : HandSPX.HeldZ (PySem.W.hideAll g [C]) (X.env :: X.outer) a (L2N.Zn cls d) X.env.locals h2 := by
    obtain ⟨k1, k2, k3, oe, vs, T, oT, ts, he, hz, hd, p1, nT, hTe, hT, hdT, p3⟩ := hh
    obtain ⟨o1, _, _, q1, dq, _⟩ := n1
    have ne : ∀ {b o vs}, h1.get? b = some o → o.data = .fields vs → b ≠ C := fun e1 e2 z => by
      rw [z, q1] at e1
      cases e1
      rw [dq] at e2
      cases e2
    refine ⟨fun b o e => (hs2.2 b fun z => ?_).trans (k1 b o e), k2, Heap.FunFrames.sameBut hs2 hn2 k3, oe, vs, T, oT, ts, (hs2.2 a (ne he hd)).trans he, hz, hd, p1, nT, hTe, (hs2.2 T (ne hT hdT)).trans hT, hdT, p3⟩
    rw [z, PySem.W.hideAll_none _ (by simp)] at e
    cases e
  obtain ⟨oe, vs, T, he, hd, p1⟩ : ∃ oe vs T, h2.get? a = some oe ∧ oe.data = .fields vs ∧ vs[1]? = some (.ref T) := by
    obtain ⟨_, _, _, oe, vs, T, _, _, he, _, hd, p1, _⟩ := hh2
    exact ⟨oe, vs, T, he, hd, p1⟩
  unfold PySem.passOn
  refine wpAny_bind (wpAny_field he hd p1 ?_)
  rw [if_neg (show ¬ ((Value.ref T == Value.none) = true) from by simp), hcf, hf]
  refine wpAny_bind (HandSPX.setFlight_onZ hh2 fun h3 hh3 up3 => wpAny_throw (tk _ _ ?_))
  have hid : ∀ b o, (PySem.W.hideAll sI.heap [C]).get? b = some o → sI.heap.get? b = some o ∧ b ≠ C := fun b o e => ⟨PySem.W.of_hideAll _ e, fun z => by
    rw [z, PySem.W.hideAll_none _ (by simp)] at e
    cases e⟩
  have I3 : L2.Inv X [] σ2 H2 { sI with heap := PySem.W.hideAll sI.heap [C], toks := sI.toks } :=
    (I2.pins_of (pins' := []) (fun p hp => absurd hp (by simp))).turned (fun b o hb e => PySem.W.hideAll_get _ e (by simpa using hb)) w2 fC.2.1 fC.2.2.2.1 fC.2.2.2.2.1 fun p hp => fC.2.2.2.2.2 p (by
      rw [List.append_nil] at hp
      exact List.mem_append_left _ hp)
  refine ⟨a, PySem.W.hideAll g [C], _, [], σ2, H2, cls, d, rfl, I3, fun b o e hb => ?_, fun b o e hnf => ?_, ?_, na, os, ag, w1⟩
  · obtain ⟨e1, ne⟩ := hid b o e
    exact PySem.W.hideAll_get _ (nb b o e1 hb) (by simpa using ne)
  · obtain ⟨e1, ne⟩ := hid b o e
    obtain ⟨x1, y1⟩ := up b o e1 hnf
    obtain ⟨x2, y2⟩ := up1 b _ y1 hnf
    obtain ⟨x3, y3⟩ := up3 b _ ((hs2.2 b ne).trans y2) hnf
    exact ⟨x3, y3⟩
  · rw [hst]
    exact .inr (.inr hh3)
end
section
variable {X : Cx} {W : WX}
/-- what a block lets out reaches the def's wish -/
theorem blk_outN {scope : Scope} {cenv : Env} {fp : List Addr} {pins : List (Addr × Obj)} {σ : L2.St} {H3 : Hp} {s3 : Shared} (I3 : L2.Inv X pins σ H3 s3) (tk : L2N.Takes X W) (hst : X.stack = X.env :: X.outer) (hf : X.env.frame = some X.env.locals)
    (hcf : cenv.frame = X.env.frame) (hL : cenv.locals = s3.heap.objs.size) (hfp : ∀ b ∈ fp, FpOk X pins H3 b) {u : Value} {s' : Shared} (x : cxBN (X.blk s3 H3 scope cenv fp) (fun cls d H => W cls d σ H) u s') :
    notedBy (model X.prog X.w) X.A cenv (CompFails (model X.prog X.w) X.A X.xe cenv) u s' := by
  obtain ⟨pn, σ', H, s, I, c⟩ := x
  have J : L2.Inv X pins σ H s := I3.call' (ch := fp) I.os I.base I.hok I.bare fun b hb => ⟨(hfp b hb).2.2.2.1, (hfp b hb).2.1, (hfp b hb).2.2.2.2.1, (hfp b hb).2.2.2.2.2⟩
  obtain ⟨m, hn, _⟩ := I.loc
  have z : H cenv.locals = none := I.free
  refine lcE_failN J tk hst hf hcf ?_ hn (fun hm => ?_) c
  · rw [hL] at z ⊢
    exact I3.fpOk (Nat.le_refl _) z
  · obtain ⟨_, o, e, _⟩ := I3.stack.mem hm
    have lt := Heap.lt_size e
    rw [hL] at lt
    exact absurd lt (Nat.lt_irrefl _)
theorem blk_out2N {scope : Scope} {cenv : Env} {fp : List Addr} {pins : List (Addr × Obj)} {σ : L2.St} {H3 : Hp} {s3 : Shared} (I3 : L2.Inv X pins σ H3 s3) (tk : L2N.Takes X W) (hst : X.stack = X.env :: X.outer) (hf : X.env.frame = some X.env.locals)
    (hcf : cenv.frame = X.env.frame) (hL : cenv.locals = s3.heap.objs.size) (hfp : ∀ b ∈ fp, FpOk X pins H3 b) {u : Value} {s' : Shared} (x : cxBN (X.blk s3 H3 scope cenv fp) (fun cls d H => W cls d σ H) u s') :
    notedBy (model X.prog X.w) X.A cenv (cameBackBy (model X.prog X.w) X.A cenv (notedBy (model X.prog X.w) X.A cenv (CompFails (model X.prog X.w) X.A X.xe cenv))) u s' := by
  obtain ⟨pn, σ', H, s, I, c⟩ := x
  have J : L2.Inv X pins σ H s := I3.call' (ch := fp) I.os I.base I.hok I.bare fun b hb => ⟨(hfp b hb).2.2.2.1, (hfp b hb).2.1, (hfp b hb).2.2.2.2.1, (hfp b hb).2.2.2.2.2⟩
  obtain ⟨m, hn, _⟩ := I.loc
  have z : H cenv.locals = none := I.free
  refine lcE_fail2N J tk hst hf hcf ?_ hn (fun hm => ?_) c
  · rw [hL] at z ⊢
    exact I3.fpOk (Nat.le_refl _) z
  · obtain ⟨_, o, e, _⟩ := I3.stack.mem hm
    have lt := Heap.lt_size e
    rw [hL] at lt
    exact absurd lt (Nat.lt_irrefl _)
theorem lcE_coreN {pins : List (Addr × Obj)} {s : Shared} {σ : L2.St} {H : Hp} {Q : VK} {elt tg iter : Expr} {ifs : List Expr} {scope : Scope} {own : List (Str × Nat)} {pos pos' : Pos} {wi : TI} {g : TG} {tt : TT} {te : L2.St → TE} {use : Option (Value → Sem Unit)} {Qf : Value → Shared → Prop}
    (tk : L2N.Takes X W) (hst : X.stack = X.env :: X.outer) (hf : X.env.frame = some X.env.locals) (hc : X.calm = true) (hN : X.N.Nodup) (I : L2.Inv X pins σ H s) (hi : PI X tg iter wi) (ok : BlkOk X.N X.env.scope scope own)
    (hg : ∀ s H C cl fp xe, PG (blkE X s H scope (compEnvC scope cl C X.env) fp xe) tg g) (ht : ∀ s H C cl fp xe, PTs (blkE X s H scope (compEnvC scope cl C X.env) fp xe) ifs tt)
    (he : ∀ s H C cl fp xe σ0, (∀ σ, PassesAt (L2N.CX X.prog X.w) (blkE X s H scope (compEnvC scope cl C X.env) fp xe) σ fun cls d H => W cls d σ0 H) → PE (blkE X s H scope (compEnvC scope cl C X.env) fp xe) elt (te σ0)) (hs : ∀ x, foldedSetIterable iter X.env x = pure x)
    (h : tLcE wi g tt te (own.map (·.2)) σ H Q)
    (back : ∀ D cenv s' m H', L2.Inv X pins σ H' s' → Q (.ref D) H' → s'.heap.Ns cenv.locals m → FpOk X pins H' cenv.locals → compEnds (model X.prog X.w) X.A X.xe use Qf (.ref D) cenv (.ok .next) s') :
    wpAny (model X.prog X.w) X.A (comprehension (.ListComp elt [⟨tg, iter, ifs, 0⟩] scope pos) scope X.env pos' (newList []) false (eval iter X.env) use) Qf X.xe s := by
  have fre : ∀ y ∈ scope.names, y.2 = .free → ∃ c, X.env.cells.lookup y.1 = some c := fun y hy e => I.ok.has _ ((ok.free y hy e).elim .inl .inr)
  refine comprehension_at (use := use) rfl hs (closure_ok fre) ok.kind (fun y hy e => (ok.uniq y hy).trans (congrArg some e)) (wpAny_mono (hi.run pins s σ H _ I h) (fun xv s1 z1 => wpAny_mono z1 (fun itv s2 z2 => ?_) fun _ _ e => e) fun _ _ e => e)
  obtain ⟨it, fp, tn, J, H2, rfl, I2, T, st2, f2, q⟩ := z2
  refine wpAny_newObj_type (newEnv_comp ?_) (by show 0 ≤ sizeLine; decide)
  generalize hD : s2.heap.objs.size = D
  obtain ⟨J2, ⟨m0, w0⟩, turn⟩ := q D (I2.hok.fresh (Nat.le_of_eq hD))
  generalize hs3 : ({ s2 with heap := s2.heap.push { cls := .type "list", data := .seq ([] : List Value).toArray } } : Shared) = s3
  have h3 : s3.heap = s2.heap.push { cls := .type "list", data := .seq ([] : List Value).toArray } := by rw [← hs3]
  have I3 : L2.Inv X pins σ (upd H2 D (.lst [])) s3 := by
    rw [← hs3]
    exact I2.laid (t' := s2.toks) (fun b o e => Heap.get?_push_of_some _ e) (Nat.le_of_eq hD) ⟨Nat.zero_le _, [], 0, .nil, by rw [← hD]; exact Heap.get?_push_size _ rfl⟩
  have f3 : ∀ b ∈ fp, FpOk X pins (upd H2 D (.lst [])) b ∧ b < s3.heap.objs.size := fun b hb => by
    obtain ⟨o, e, _⟩ := T.obj _ _ st2 b hb
    have lt := Heap.lt_size e
    exact ⟨⟨(upd_ne (by rw [← hD]; exact Nat.ne_of_lt lt)).trans (f2 b hb).1, (f2 b hb).2⟩, by rw [h3, Heap.size_push]; exact Nat.lt_succ_of_lt lt⟩
  have st3 : tn 0 s3.heap := T.keep _ _ _ st2 fun b _ o e => by rw [h3]; exact Heap.get?_push_of_some _ e
  have I4 := block_start I3 ok hN f3
  generalize hcl : cellsFrom (s3.heap.objs.size + 1) scope.names (cloFrom X.env.cells scope.names []) = cl at I4 ⊢
  show codeAny _ _ (.compStart (.ListComp elt [⟨tg, iter, ifs, 0⟩] scope pos) 0 (.ref it) (.ref D) (compEnvC scope cl s3.heap.objs.size X.env)) (compEnds (model X.prog X.w) X.A X.xe use Qf (.ref D) (compEnvC scope cl s3.heap.objs.size X.env)) { s3 with heap := pushCells (s3.heap.push { cls := .type "dict", data := .dict #[] }) scope.names }
  generalize hH3 : upd H2 D (.lst []) = H3 at I3 I4 w0 f3
  have fF : ∀ b ∈ fp, FpOk X pins H3 b := fun b hb => (f3 b hb).1
  generalize hce : compEnvC scope cl s3.heap.objs.size X.env = ce at I4 ⊢
  have cL : ce.locals = s3.heap.objs.size := by subst hce; rfl
  have cF : ce.frame = X.env.frame := by subst hce; rfl
  -- the block's wish
  obtain ⟨xe, hxe⟩ : ∃ xe, xe = cxBN (X.blk s3 H3 scope ce fp) (fun cls d H => W cls d σ H) := ⟨_, rfl⟩
  have out : ∀ u s', xe u s' → notedBy (model X.prog X.w) X.A ce (CompFails (model X.prog X.w) X.A X.xe ce) u s' := fun u s' x => blk_outN I3 tk hst hf cF cL fF (hxe ▸ x)
  have pg := hg s3 H3 s3.heap.objs.size cl fp xe
  have pt := ht s3 H3 s3.heap.objs.size cl fp xe
  have pe := he s3 H3 s3.heap.objs.size cl fp xe σ
  rw [hce] at pg pt pe
  have pe := pe fun τ pn H s e s' I c => by
    show xe e s'
    rw [hxe]
    exact ⟨pn, τ, H, s, inv_ofE I, c⟩
  have I4 := inv_toE I4 xe
  have fB : ∀ {σ' : L2.St} {H' : Hp} {s' : Shared}, L2.Inv (blkE X s3 H3 scope ce fp xe) [] σ' H' s' → (∀ b ∈ fp, H' b = none) → ∀ b ∈ fp, FpOk (blkE X s3 H3 scope ce fp xe) [] H' b := fun I' hn b hb =>
    ⟨hn b hb, (I'.ok.exf b hb).1, I'.ok.exfs b hb, .inl hb, fun x c e => (I'.ok.exf b hb).2 x c e, fun p hp => absurd (show p ∈ ([] : List (Addr × Obj)) ++ [] from hp) (by simp)⟩
  generalize hs4 : ({ s3 with heap := pushCells (s3.heap.push { cls := .type "dict", data := .dict #[] }) scope.names } : Shared) = s4 at I4 ⊢
  have st4 : tn 0 s4.heap := T.keep _ _ _ st3 fun b _ o e => by rw [← hs4]; exact pushCells_keeps _ _ _ _ (Heap.get?_push_of_some _ e)
  have loop : codeAny (model X.prog X.w) X.A (.compLoop (.ListComp elt [⟨tg, iter, ifs, 0⟩] scope pos) 0 (.ref it) (.ref D) ce) (compEnds (model X.prog X.w) X.A X.xe use Qf (.ref D) ce) s4 := by
    refine compLoop_any (fun n s' => ∃ i H', L2.Inv (blkE X s3 H3 scope ce fp xe) [] (wipe σ (own.map (·.2))) H' s' ∧ tn i s'.heap ∧ (∀ b ∈ fp, H' b = none) ∧ J2 i n H') ?_ m0 ⟨0, H3, I4, st4, fun b hb => (fF b hb).1, w0⟩
    rintro n s5 ⟨i, H5, I5, st5, n5, w5⟩
    rcases turn i n H5 w5 with ⟨stop, qq⟩ | ⟨go, Nx, hNx, step⟩
    · refine wpAny_mono (T.done (blkE X s3 H3 scope ce fp xe) rfl rfl rfl hc i [] s5 _ H5 _ I5 (fB I5 n5) st5 stop) (fun r s6 ⟨hr, I6⟩ => ?_) fun _ _ e => e
      subst hr
      have nC : H5 ce.locals = none := I6.free
      obtain ⟨m, hn, _⟩ := I6.loc
      refine back D ce s6 m H5 (I3.call' (ch := fp) I6.os I6.base I6.hok I6.bare fun b hb => ⟨(fF b hb).2.2.2.1, (fF b hb).2.1, (fF b hb).2.2.2.2.1, (fF b hb).2.2.2.2.2⟩) qq hn ?_
      rw [cL] at nC ⊢
      exact I3.fpOk (Nat.le_refl _) nC
    · refine wpAny_mono (T.item (blkE X s3 H3 scope ce fp xe) rfl rfl rfl hc i [] s5 _ H5 _ I5 (fB I5 n5) st5 go) (fun r s6 ⟨u, hr, h6⟩ => ?_) fun _ _ e => e
      subst hr
      refine wpAny_mono h6 (fun _ s7 ⟨x, H7, I7, r7, y7, st7, n7⟩ => ?_) fun _ _ e => e
      refine wpAny_mono (pg.run _ s7 _ H7 x u _ (I7.pinned (fB I7 n7) (T.obj _ _ st7)) r7 (step x H7 y7)) (fun _ s8 ⟨σ8, H8, I8, hw8, q8⟩ => ?_) out
      refine wpAny_mono (pt.run _ s8 σ8 H8 _ I8 q8) (fun b s9 ⟨H9, I9, q9⟩ => ?_) out
      have next : ∀ {s' : Shared} {H' : Hp}, L2.Inv (blkE X s3 H3 scope ce fp xe) ([] ++ pinsAt fp s7.heap) σ8 H' s' → Nx H' → ∃ m, m < n ∧ ∃ i H', L2.Inv (blkE X s3 H3 scope ce fp xe) [] (wipe σ (own.map (·.2))) H' s' ∧ tn i s'.heap ∧ (∀ b ∈ fp, H' b = none) ∧ J2 i m H' := fun {s' H'} J nx => by
        obtain ⟨m', hm, w'⟩ := hNx H' nx
        have same : ∀ b ∈ fp, ∀ o, s7.heap.get? b = some o → s'.heap.get? b = some o ∧ H' b = none := fun b hb o e => by
          have z := J.pin (b, o) (List.mem_append_right _ (List.mem_append_right _ (mem_pinsAt hb e)))
          exact ⟨z.1, z.2.1⟩
        refine ⟨m', hm, i + 1, H', J.unpinned.weak (by rw [← hw8, wipe_length]) (fun j v e => (wipe_some (hw8 ▸ e)).1), T.keep _ _ _ st7 fun b hb o e => (same b hb o e).1, fun b hb => ?_, w'⟩
        obtain ⟨o, e, _⟩ := T.obj _ _ st7 b hb
        exact (same b hb o e).2
      cases b with
      | false => exact next I9 (by simpa using q9)
      | true =>
        simp only [if_true] at q9 ⊢
        refine wpAny_mono (pe.run _ s9 σ8 H9 _ I9 q9) (fun z s10 ⟨yv, H10, I10, r10, acc, hD10, hz10, nx⟩ => ?_) out
        exact app_ok (X := blkE X s3 H3 scope ce fp xe) I10 hD10 hz10 r10 fun s11 I11 => next I11 nx
  exact codeAny_compStart_list loop (T.self X.A 0 _ _ _ st4 loop)
section
variable {elt tg iter : Expr} {ifs : List Expr} {scope : Scope} {own : List (Str × Nat)} {pos spos : Pos} {wi : TI} {g : TG} {tt : TT} {te : L2.St → TE}
/-- name = [..] on one line -/
theorem ps_setLcEN {i : Nat} {y : Str} {py : Pos} (hc : X.calm = true) (hN : X.N.Nodup) (hy : X.N[i]? = some y) (hyl : X.env.scope.names.lookup y = some .local)
    (hsw : swapsWith (.ListComp elt [⟨tg, iter, ifs, 0⟩] scope pos) (some (.Name y py)) spos.line X.env = pure true) (tk : L2N.Takes X W) (hst : X.stack = X.env :: X.outer) (hf : X.env.frame = some X.env.locals) (hi : PI X tg iter wi) (ok : BlkOk X.N X.env.scope scope own)
    (hg : ∀ s H C cl fp xe, PG (blkE X s H scope (compEnvC scope cl C X.env) fp xe) tg g) (ht : ∀ s H C cl fp xe, PTs (blkE X s H scope (compEnvC scope cl C X.env) fp xe) ifs tt)
    (he : ∀ s H C cl fp xe σ0, (∀ σ, PassesAt (L2N.CX X.prog X.w) (blkE X s H scope (compEnvC scope cl C X.env) fp xe) σ fun cls d H => W cls d σ0 H) → PE (blkE X s H scope (compEnvC scope cl C X.env) fp xe) elt (te σ0)) (hs : ∀ x, foldedSetIterable iter X.env x = pure x := by intro _; rfl) :
    PS X (.Assign [.Name y py] (.ListComp elt [⟨tg, iter, ifs, 0⟩] scope pos) spos) (tAsg (tLcE wi g tt te (own.map (·.2))) (gName i)) := by
  refine ⟨fun pins s σ H D I h => ?_⟩
  rw [exec_Assign_Name_used _ _ _ _ hsw]
  refine wpAny_bind (wpAny_standAt (wpAny_bind ?_))
  show wpAny _ X.A (do let _ ← comprehension (.ListComp elt [⟨tg, iter, ifs, 0⟩] scope pos) scope X.env (firstIterPos [⟨tg, iter, ifs, 0⟩] pos) (newList []) false (eval iter X.env) (some (assign (.Name y py) X.env))) _ _ s
  refine wpAny_bind (thn (lcE_coreN (Q := fun x H1 => gName i x σ H1 D.nx) (Qf := fun _ s' => SP X pins D .next s') tk hst hf hc hN I hi ok hg ht he hs h fun L ce s' m H' J q hn f => ?_) fun _ s' z => wpAny_pure (wpAny_pure z))
  show wpAny _ _ (assign (.Name y py) X.env (.ref L)) _ _ _
  refine wpAny_assign_Name (store_ok2 (v := V.ref L) J hN hy (.inl hyl) rfl (fun s2 J2 ⟨a, sb, ha⟩ => ?_) (.inr hyl))
  have ne : ce.locals ≠ a := ha.elim (fun z => z ▸ f.2.1) fun z e => f.2.2.2.2.1 y a z e.symm
  exact ⟨m, hn.sameBut sb ne, fun h3 sb3 => ⟨_, H', J2.turned (t' := s2.toks) (fun b o hb e => (sb3.2 b hb).trans e) f.1 f.2.1 f.2.2.2.1 f.2.2.2.2.1 f.2.2.2.2.2, q⟩⟩
end
end
section
variable {X : Cx} {W : WX}
theorem lc2E_coreN {pins : List (Addr × Obj)} {s : Shared} {σ : L2.St} {H : Hp} {Q : VK} {elt tg iter tg1 iter1 : Expr} {ifs ifs1 : List Expr} {scope : Scope} {own : List (Str × Nat)} {vs1 : List Nat} {pos pos' : Pos} {wi wi1 : TI} {g g1 : TG} {tt tt1 : TT} {te : L2.St → TE}
    {use : Option (Value → Sem Unit)} {Qf : Value → Shared → Prop} (tk : L2N.Takes X W) (hst : X.stack = X.env :: X.outer) (hf : X.env.frame = some X.env.locals) (hc : X.calm = true) (hN : X.N.Nodup) (I : L2.Inv X pins σ H s) (hi : PI X tg iter wi) (ok : BlkOk X.N X.env.scope scope own) (hv : ∀ i ∈ vs1, i ∈ own.map (·.2))
    (hg : ∀ s H C cl fp xe, PG (blkE X s H scope (compEnvC scope cl C X.env) fp xe) tg g) (ht : ∀ s H C cl fp xe, PTs (blkE X s H scope (compEnvC scope cl C X.env) fp xe) ifs tt)
    (hi1 : ∀ s H C cl fp xe, PI (blkE X s H scope (compEnvC scope cl C X.env) fp xe) tg1 iter1 wi1) (hg1 : ∀ s H C cl fp xe, PG (blkE X s H scope (compEnvC scope cl C X.env) fp xe) tg1 g1) (ht1 : ∀ s H C cl fp xe, PTs (blkE X s H scope (compEnvC scope cl C X.env) fp xe) ifs1 tt1)
    (he : ∀ s H C cl fp xe σ0, (∀ σ, PassesAt (L2N.CX X.prog X.w) (blkE X s H scope (compEnvC scope cl C X.env) fp xe) σ fun cls d H => W cls d σ0 H) → PE (blkE X s H scope (compEnvC scope cl C X.env) fp xe) elt (te σ0)) (hs : ∀ x, foldedSetIterable iter X.env x = pure x) (hs1 : ∀ env x, foldedSetIterable iter1 env x = pure x)
    (h : tLc2E wi g tt wi1 g1 tt1 te (own.map (·.2)) vs1 σ H Q)
    (back : ∀ D cenv s' m H', L2.Inv X pins σ H' s' → Q (.ref D) H' → s'.heap.Ns cenv.locals m → FpOk X pins H' cenv.locals → compEnds (model X.prog X.w) X.A X.xe use Qf (.ref D) cenv (.ok .next) s') :
    wpAny (model X.prog X.w) X.A (comprehension (.ListComp elt [⟨tg, iter, ifs, 0⟩, ⟨tg1, iter1, ifs1, 0⟩] scope pos) scope X.env pos' (newList []) false (eval iter X.env) use) Qf X.xe s := by
  have fre : ∀ y ∈ scope.names, y.2 = .free → ∃ c, X.env.cells.lookup y.1 = some c := fun y hy e => I.ok.has _ ((ok.free y hy e).elim .inl .inr)
  refine comprehension_at (use := use) rfl hs (closure_ok fre) ok.kind (fun y hy e => (ok.uniq y hy).trans (congrArg some e)) (wpAny_mono (hi.run pins s σ H _ I h) (fun xv s1 z1 => wpAny_mono z1 (fun itv s2 z2 => ?_) fun _ _ e => e) fun _ _ e => e)
  obtain ⟨it, fp, tn, J, H2, rfl, I2, T, st2, f2, q⟩ := z2
  refine wpAny_newObj_type (newEnv_comp ?_) (by show 0 ≤ sizeLine; decide)
  generalize hD : s2.heap.objs.size = D
  obtain ⟨J2, ⟨m0, w0⟩, turn⟩ := q D (I2.hok.fresh (Nat.le_of_eq hD))
  generalize hs3 : ({ s2 with heap := s2.heap.push { cls := .type "list", data := .seq ([] : List Value).toArray } } : Shared) = s3
  have h3 : s3.heap = s2.heap.push { cls := .type "list", data := .seq ([] : List Value).toArray } := by rw [← hs3]
  have I3 : L2.Inv X pins σ (upd H2 D (.lst [])) s3 := by
    rw [← hs3]
    exact I2.laid (t' := s2.toks) (fun b o e => Heap.get?_push_of_some _ e) (Nat.le_of_eq hD) ⟨Nat.zero_le _, [], 0, .nil, by rw [← hD]; exact Heap.get?_push_size _ rfl⟩
  have f3 : ∀ b ∈ fp, FpOk X pins (upd H2 D (.lst [])) b ∧ b < s3.heap.objs.size := fun b hb => by
    obtain ⟨o, e, _⟩ := T.obj _ _ st2 b hb
    have lt := Heap.lt_size e
    exact ⟨⟨(upd_ne (by rw [← hD]; exact Nat.ne_of_lt lt)).trans (f2 b hb).1, (f2 b hb).2⟩, by rw [h3, Heap.size_push]; exact Nat.lt_succ_of_lt lt⟩
  have st3 : tn 0 s3.heap := T.keep _ _ _ st2 fun b _ o e => by rw [h3]; exact Heap.get?_push_of_some _ e
  have I4 := block_start I3 ok hN f3
  generalize hcl : cellsFrom (s3.heap.objs.size + 1) scope.names (cloFrom X.env.cells scope.names []) = cl at I4 ⊢
  show codeAny _ _ (.compStart (.ListComp elt [⟨tg, iter, ifs, 0⟩, ⟨tg1, iter1, ifs1, 0⟩] scope pos) 0 (.ref it) (.ref D) (compEnvC scope cl s3.heap.objs.size X.env)) (compEnds (model X.prog X.w) X.A X.xe use Qf (.ref D) (compEnvC scope cl s3.heap.objs.size X.env)) { s3 with heap := pushCells (s3.heap.push { cls := .type "dict", data := .dict #[] }) scope.names }
  generalize hH3 : upd H2 D (.lst []) = H3 at I3 I4 w0 f3
  have fF : ∀ b ∈ fp, FpOk X pins H3 b := fun b hb => (f3 b hb).1
  generalize hce : compEnvC scope cl s3.heap.objs.size X.env = ce at I4 ⊢
  have cL : ce.locals = s3.heap.objs.size := by subst hce; rfl
  have cF : ce.frame = X.env.frame := by subst hce; rfl
  obtain ⟨xe, hxe⟩ : ∃ xe, xe = cxBN (X.blk s3 H3 scope ce fp) (fun cls d H => W cls d σ H) := ⟨_, rfl⟩
  have out : ∀ u s', xe u s' → notedBy (model X.prog X.w) X.A ce (CompFails (model X.prog X.w) X.A X.xe ce) u s' := fun u s' x => blk_outN I3 tk hst hf cF cL fF (hxe ▸ x)
  have out2 : ∀ u s', xe u s' → notedBy (model X.prog X.w) X.A ce (cameBackBy (model X.prog X.w) X.A ce (notedBy (model X.prog X.w) X.A ce (CompFails (model X.prog X.w) X.A X.xe ce))) u s' := fun u s' x => blk_out2N I3 tk hst hf cF cL fF (hxe ▸ x)
  have pg := hg s3 H3 s3.heap.objs.size cl fp xe
  have pt := ht s3 H3 s3.heap.objs.size cl fp xe
  have pi1 := hi1 s3 H3 s3.heap.objs.size cl fp xe
  have pg1 := hg1 s3 H3 s3.heap.objs.size cl fp xe
  have pt1 := ht1 s3 H3 s3.heap.objs.size cl fp xe
  have pe := he s3 H3 s3.heap.objs.size cl fp xe σ
  rw [hce] at pg pt pe pi1 pg1 pt1
  have pe := pe fun τ pn H s e s' I c => by
    show xe e s'
    rw [hxe]
    exact ⟨pn, τ, H, s, inv_ofE I, c⟩
  have I4 := inv_toE I4 xe
  have fB : ∀ {σ' : L2.St} {H' : Hp} {s' : Shared}, L2.Inv (blkE X s3 H3 scope ce fp xe) [] σ' H' s' → (∀ b ∈ fp, H' b = none) → ∀ b ∈ fp, FpOk (blkE X s3 H3 scope ce fp xe) [] H' b := fun I' hn b hb =>
    ⟨hn b hb, (I'.ok.exf b hb).1, I'.ok.exfs b hb, .inl hb, fun x c e => (I'.ok.exf b hb).2 x c e, fun p hp => absurd (show p ∈ ([] : List (Addr × Obj)) ++ [] from hp) (by simp)⟩
  generalize hs4 : ({ s3 with heap := pushCells (s3.heap.push { cls := .type "dict", data := .dict #[] }) scope.names } : Shared) = s4 at I4 ⊢
  have st4 : tn 0 s4.heap := T.keep _ _ _ st3 fun b _ o e => by rw [← hs4]; exact pushCells_keeps _ _ _ _ (Heap.get?_push_of_some _ e)
  have loop : codeAny (model X.prog X.w) X.A (.compLoop (.ListComp elt [⟨tg, iter, ifs, 0⟩, ⟨tg1, iter1, ifs1, 0⟩] scope pos) 0 (.ref it) (.ref D) ce) (compEnds (model X.prog X.w) X.A X.xe use Qf (.ref D) ce) s4 := by
    refine loop2_outE (hs1 ce) (fun n s' => ∃ i H', L2.Inv (blkE X s3 H3 scope ce fp xe) [] (wipe σ (own.map (·.2))) H' s' ∧ tn i s'.heap ∧ (∀ b ∈ fp, H' b = none) ∧ J2 i n H') ?_ m0 ⟨0, H3, I4, st4, fun b hb => (fF b hb).1, w0⟩
    rintro n s5 ⟨i, H5, I5, st5, n5, w5⟩
    rcases turn i n H5 w5 with ⟨stop, qq⟩ | ⟨go, Nx, hNx, step⟩
    · refine wpAny_mono (T.done (blkE X s3 H3 scope ce fp xe) rfl rfl rfl hc i [] s5 _ H5 _ I5 (fB I5 n5) st5 stop) (fun r s6 ⟨hr, I6⟩ => ?_) fun _ _ e => e
      subst hr
      have nC : H5 ce.locals = none := I6.free
      obtain ⟨m, hn, _⟩ := I6.loc
      refine back D ce s6 m H5 (I3.call' (ch := fp) I6.os I6.base I6.hok I6.bare fun b hb => ⟨(fF b hb).2.2.2.1, (fF b hb).2.1, (fF b hb).2.2.2.2.1, (fF b hb).2.2.2.2.2⟩) qq hn ?_
      rw [cL] at nC ⊢
      exact I3.fpOk (Nat.le_refl _) nC
    · refine wpAny_mono (T.item (blkE X s3 H3 scope ce fp xe) rfl rfl rfl hc i [] s5 _ H5 _ I5 (fB I5 n5) st5 go) (fun r s6 ⟨u, hr, h6⟩ => ?_) fun _ _ e => e
      subst hr
      refine wpAny_mono h6 (fun _ s7 ⟨x, H7, I7, r7, y7, st7, n7⟩ => ?_) fun _ _ e => e
      refine wpAny_mono (pg.run _ s7 _ H7 x u _ (I7.pinned (fB I7 n7) (T.obj _ _ st7)) r7 (step x H7 y7)) (fun _ s8 ⟨σ8, H8, I8, hw8, q8⟩ => ?_) out
      refine wpAny_mono (pt.run _ s8 σ8 H8 _ I8 q8) (fun b s9 ⟨H9, I9, q9⟩ => ?_) out
      -- a turn's end, from any slots that know what the block knew
      have fin : ∀ {σ9 : L2.St} {s' : Shared} {H' : Hp}, L2.Inv (blkE X s3 H3 scope ce fp xe) ([] ++ pinsAt fp s7.heap) σ9 H' s' → (wipe σ (own.map (·.2))).length = σ9.length → (∀ (j : Nat) v, (wipe σ (own.map (·.2)))[j]? = some (some v) → σ9[j]? = some (some v)) → Nx H' →
          ∃ m, m < n ∧ ∃ i H', L2.Inv (blkE X s3 H3 scope ce fp xe) [] (wipe σ (own.map (·.2))) H' s' ∧ tn i s'.heap ∧ (∀ b ∈ fp, H' b = none) ∧ J2 i m H' := fun {σ9 s' H'} J hl hk nx => by
        obtain ⟨m', hm, w'⟩ := hNx H' nx
        have same : ∀ b ∈ fp, ∀ o, s7.heap.get? b = some o → s'.heap.get? b = some o ∧ H' b = none := fun b hb o e => by
          have z := J.pin (b, o) (List.mem_append_right _ (List.mem_append_right _ (mem_pinsAt hb e)))
          exact ⟨z.1, z.2.1⟩
        refine ⟨m', hm, i + 1, H', (J.unpinned (pins := [])).weak hl hk, T.keep _ _ _ st7 fun b hb o e => (same b hb o e).1, fun b hb => ?_, w'⟩
        obtain ⟨o, e, _⟩ := T.obj _ _ st7 b hb
        exact (same b hb o e).2
      have l8 : (wipe σ (own.map (·.2))).length = σ8.length := by rw [← hw8, wipe_length]
      have k8 : ∀ (j : Nat) v, (wipe σ (own.map (·.2)))[j]? = some (some v) → σ8[j]? = some (some v) := fun j v e => (wipe_some (hw8 ▸ e)).1
      have k9 : ∀ (j : Nat) v, (wipe σ (own.map (·.2)))[j]? = some (some v) → (wipe σ8 vs1)[j]? = some (some v) := fun j v e => by
        obtain ⟨e1, e2⟩ := wipe_some (hw8 ▸ e)
        rw [wipe_out fun z => e2 (hv j z)]
        exact e1
      cases b with
      | false => exact fin I9 l8 k8 (by simpa using q9)
      | true =>
        simp only [if_true] at q9 ⊢
        refine wpAny_mono (pi1.run _ s9 σ8 H9 _ I9 q9) (fun xv s10 zx => wpAny_mono zx (fun itv s11 z11 => ?_) out) out
        obtain ⟨it1, fp1, tn1, J1, H11, e1, I11, T1, st11, f11, W1, ⟨m1, w1⟩, turn1⟩ := z11
        subst e1
        have fB1 : ∀ {H' : Hp}, (∀ b ∈ fp1, H' b = none) → ∀ b ∈ fp1, FpOk (blkE X s3 H3 scope ce fp xe) ([] ++ pinsAt fp s7.heap) H' b := fun hn b hb => ⟨hn b hb, (f11 b hb).2⟩
        have loop1 : codeAny (model X.prog X.w) X.A (.compLoop (.ListComp elt [⟨tg, iter, ifs, 0⟩, ⟨tg1, iter1, ifs1, 0⟩] scope pos) 1 (.ref it1) (.ref D) ce)
            (fun r s' => match r with
              | .ok _ => ∃ m, m < n ∧ ∃ i H', L2.Inv (blkE X s3 H3 scope ce fp xe) [] (wipe σ (own.map (·.2))) H' s' ∧ tn i s'.heap ∧ (∀ b ∈ fp, H' b = none) ∧ J2 i m H'
              | .error e => cameBackBy (model X.prog X.w) X.A ce (notedBy (model X.prog X.w) X.A ce (CompFails (model X.prog X.w) X.A X.xe ce)) e s') s11 := by
          refine compLoop2_in (fun k s' => ∃ j H', L2.Inv (blkE X s3 H3 scope ce fp xe) ([] ++ pinsAt fp s7.heap) (wipe σ8 vs1) H' s' ∧ tn1 j s'.heap ∧ (∀ b ∈ fp1, H' b = none) ∧ W1 j k H') ?_ m1 ⟨0, H11, I11.weak (wipe_length _ _) (fun j v e => (wipe_some e).1), st11, fun b hb => (f11 b hb).1, w1⟩
          rintro k s12 ⟨j, H12, I12, st12, n12, w12⟩
          rcases turn1 j k H12 w12 with ⟨stop1, nx1⟩ | ⟨go1, Nx1, hNx1, step1⟩
          · refine wpAny_mono (T1.done (blkE X s3 H3 scope ce fp xe) rfl rfl rfl hc j _ s12 (wipe σ8 vs1) H12 _ I12 (fB1 n12) st12 stop1) (fun r s13 ⟨hr, I13⟩ => ?_) fun _ _ e => e
            subst hr
            exact fin I13 (l8.trans (wipe_length σ8 vs1).symm) k9 nx1
          · refine wpAny_mono (T1.item (blkE X s3 H3 scope ce fp xe) rfl rfl rfl hc j _ s12 (wipe σ8 vs1) H12 _ I12 (fB1 n12) st12 go1) (fun r s13 ⟨u1, hr, z13⟩ => ?_) fun _ _ e => e
            subst hr
            refine wpAny_mono z13 (fun _ s14 ⟨x1, H14, I14, r14, y14, st14, n14⟩ => ?_) fun _ _ e => e
            refine wpAny_mono (pg1.run _ s14 (wipe σ8 vs1) H14 x1 u1 _ (I14.pinned (fB1 n14) (T1.obj _ _ st14)) r14 (step1 x1 H14 y14)) (fun _ s15 ⟨σ15, H15, I15, hw15, q15⟩ => ?_) out2
            refine wpAny_mono (pt1.run _ s15 σ15 H15 _ I15 q15) (fun b1 s16 ⟨H16, I16, q16⟩ => ?_) out2
            have next1 : ∀ {s' : Shared} {H' : Hp}, L2.Inv (blkE X s3 H3 scope ce fp xe) (([] ++ pinsAt fp s7.heap) ++ pinsAt fp1 s14.heap) σ15 H' s' → Nx1 H' → ∃ m, m < k ∧ ∃ j H', L2.Inv (blkE X s3 H3 scope ce fp xe) ([] ++ pinsAt fp s7.heap) (wipe σ8 vs1) H' s' ∧ tn1 j s'.heap ∧ (∀ b ∈ fp1, H' b = none) ∧ W1 j m H' := fun {s' H'} J nx => by
              obtain ⟨m', hm, w'⟩ := hNx1 H' nx
              have same : ∀ b ∈ fp1, ∀ o, s14.heap.get? b = some o → s'.heap.get? b = some o ∧ H' b = none := fun b hb o e => by
                have z := J.pin (b, o) (List.mem_append_right _ (List.mem_append_right _ (mem_pinsAt hb e)))
                exact ⟨z.1, z.2.1⟩
              refine ⟨m', hm, j + 1, H', J.unpinned.weak (by rw [← hw15, wipe_length]) (fun j v e => (wipe_some (hw15 ▸ e)).1), T1.keep _ _ _ st14 fun b hb o e => (same b hb o e).1, fun b hb => ?_, w'⟩
              obtain ⟨o, e, _⟩ := T1.obj _ _ st14 b hb
              exact (same b hb o e).2
            cases b1 with
            | false => exact next1 I16 (by simpa using q16)
            | true =>
              simp only [if_true] at q16 ⊢
              refine wpAny_mono (pe.run _ s16 σ15 H16 _ I16 q16) (fun z s17 ⟨yv, H17, I17, r17, acc, hD17, hz17, nx⟩ => ?_) out2
              exact app_ok (X := blkE X s3 H3 scope ce fp xe) I17 hD17 hz17 r17 fun s18 I18 => next1 I18 nx
        exact compStart1_ok loop1 (T1.self X.A 0 _ _ _ st11 loop1)
  exact codeAny_compStart_list loop (T.self X.A 0 _ _ _ st4 loop)
variable {elt tg iter tg1 iter1 : Expr} {ifs ifs1 : List Expr} {scope : Scope} {own : List (Str × Nat)} {vs1 : List Nat} {pos spos : Pos} {wi wi1 : TI} {g g1 : TG} {tt tt1 : TT} {te : L2.St → TE}
/-- name = [.. for .. for ..] on one line, whose item may raise -/
theorem ps_setLc2EN {i : Nat} {y : Str} {py : Pos} (hc : X.calm = true) (hN : X.N.Nodup) (hy : X.N[i]? = some y) (hyl : X.env.scope.names.lookup y = some .local)
    (hsw : swapsWith (.ListComp elt [⟨tg, iter, ifs, 0⟩, ⟨tg1, iter1, ifs1, 0⟩] scope pos) (some (.Name y py)) spos.line X.env = pure true) (tk : L2N.Takes X W) (hst : X.stack = X.env :: X.outer) (hf : X.env.frame = some X.env.locals) (hi : PI X tg iter wi) (ok : BlkOk X.N X.env.scope scope own) (hv : ∀ i ∈ vs1, i ∈ own.map (·.2))
    (hg : ∀ s H C cl fp xe, PG (blkE X s H scope (compEnvC scope cl C X.env) fp xe) tg g) (ht : ∀ s H C cl fp xe, PTs (blkE X s H scope (compEnvC scope cl C X.env) fp xe) ifs tt)
    (hi1 : ∀ s H C cl fp xe, PI (blkE X s H scope (compEnvC scope cl C X.env) fp xe) tg1 iter1 wi1) (hg1 : ∀ s H C cl fp xe, PG (blkE X s H scope (compEnvC scope cl C X.env) fp xe) tg1 g1) (ht1 : ∀ s H C cl fp xe, PTs (blkE X s H scope (compEnvC scope cl C X.env) fp xe) ifs1 tt1)
    (he : ∀ s H C cl fp xe σ0, (∀ σ, PassesAt (L2N.CX X.prog X.w) (blkE X s H scope (compEnvC scope cl C X.env) fp xe) σ fun cls d H => W cls d σ0 H) → PE (blkE X s H scope (compEnvC scope cl C X.env) fp xe) elt (te σ0)) (hs : ∀ x, foldedSetIterable iter X.env x = pure x := by intro _; rfl) (hs1 : ∀ env x, foldedSetIterable iter1 env x = pure x := by intro _ _; rfl) :
    PS X (.Assign [.Name y py] (.ListComp elt [⟨tg, iter, ifs, 0⟩, ⟨tg1, iter1, ifs1, 0⟩] scope pos) spos) (tAsg (tLc2E wi g tt wi1 g1 tt1 te (own.map (·.2)) vs1) (gName i)) := by
  refine ⟨fun pins s σ H D I h => ?_⟩
  rw [exec_Assign_Name_used _ _ _ _ hsw]
  refine wpAny_bind (wpAny_standAt (wpAny_bind ?_))
  show wpAny _ X.A (do let _ ← comprehension (.ListComp elt [⟨tg, iter, ifs, 0⟩, ⟨tg1, iter1, ifs1, 0⟩] scope pos) scope X.env (firstIterPos [⟨tg, iter, ifs, 0⟩, ⟨tg1, iter1, ifs1, 0⟩] pos) (newList []) false (eval iter X.env) (some (assign (.Name y py) X.env))) _ _ s
  refine wpAny_bind (thn (lc2E_coreN (Q := fun x H1 => gName i x σ H1 D.nx) (Qf := fun _ s' => SP X pins D .next s') tk hst hf hc hN I hi ok hv hg ht hi1 hg1 ht1 he hs hs1 h fun L ce s' m H' J q hn f => ?_) fun _ s' z => wpAny_pure (wpAny_pure z))
  show wpAny _ _ (assign (.Name y py) X.env (.ref L)) _ _ _
  refine wpAny_assign_Name (store_ok2 (v := V.ref L) J hN hy (.inl hyl) rfl (fun s2 J2 ⟨a, sb, ha⟩ => ?_) (.inr hyl))
  have ne : ce.locals ≠ a := ha.elim (fun z => z ▸ f.2.1) fun z e => f.2.2.2.2.1 y a z e.symm
  exact ⟨m, hn.sameBut sb ne, fun h3 sb3 => ⟨_, H', J2.turned (t' := s2.toks) (fun b o hb e => (sb3.2 b hb).trans e) f.1 f.2.1 f.2.2.2.1 f.2.2.2.2.1 f.2.2.2.2.2, q⟩⟩
end
end B
namespace B
open PySem PySem.Spec PyProof.Rows L2
/-- a later bid, called off but for its cell -/
def jbJ (ws : List Wd) (x : Bd) : Bd := ⟨x.ts, x.g ++ ws ++ [.an], x.p⟩
def jlJ (L : List (List Wd × List Bd)) : List Bd := L.flatMap fun z => z.2.map (jbJ z.1)
theorem jlJ_take {L : List (List Wd × List Bd)} {i : Nat} {c : List Wd} {row : List Bd} (h : L[i]? = some (c, row)) : jlJ (L.take (i + 1)) = jlJ (L.take i) ++ row.map (jbJ c) := by
  unfold jlJ
  rw [take_one _ _ _ h, List.flatMap_append]
  show _ ++ (row.map (jbJ c) ++ []) = _
  rw [List.append_nil]
theorem jlJ_le (L : List (List Wd × List Bd)) (i : Nat) : (jlJ (L.take i)).length ≤ (jlJ L).length := by
  have e : jlJ L = jlJ (L.take i) ++ jlJ (L.drop i) := by
    unfold jlJ
    rw [← List.flatMap_append, List.take_append_drop]
  rw [e, List.length_append]
  omega
/-- a later bid would have too many words -/
def lonJ (L : List (List Wd × List Bd)) : Bool := L.any fun z => z.2.any fun x => decide (40 < x.g.length + z.1.length + 1)
theorem lonJ_no {L : List (List Wd × List Bd)} (h : ∀ z ∈ L, ∀ x ∈ z.2, x.g.length + z.1.length + 1 ≤ 40) : lonJ L = false := by
  unfold lonJ
  rw [List.any_eq_false]
  intro z hz
  rw [Bool.not_eq_true, List.any_eq_false]
  intro x hx
  rw [Bool.not_eq_true, decide_eq_false_iff_not]
  have := h z hz x hx
  omega
theorem lonJ_yes {L : List (List Wd × List Bd)} {z : List Wd × List Bd} {x : Bd} (hz : z ∈ L) (hx : x ∈ z.2) (l : 40 < x.g.length + z.1.length + 1) : lonJ L = true := List.any_eq_true.mpr ⟨z, hz, List.any_eq_true.mpr ⟨x, hx, decide_eq_true l⟩⟩
def lonA (c : List Wd) (row : List Bd) : Bool := row.any fun x => decide (40 < x.g.length + c.length + 1)
theorem lonJ_take {L : List (List Wd × List Bd)} {i : Nat} {c : List Wd} {row : List Bd} (h : L[i]? = some (c, row)) : lonJ (L.take (i + 1)) = (lonJ (L.take i) || lonA c row) := by
  unfold lonJ lonA
  rw [take_one _ _ _ h, List.any_append]
  simp
theorem lonA_take {c : List Wd} {row : List Bd} {j : Nat} {x : Bd} (h : row[j]? = some x) : lonA c (row.take (j + 1)) = (lonA c (row.take j) || decide (40 < x.g.length + c.length + 1)) := by
  unfold lonA
  rw [take_one _ _ _ h, List.any_append]
  simp
end B
namespace B
open PySem PySem.Spec PyProof.Rows L2
structure LnB (cs : List Nat) (x : Bd) : Prop where
  t : ∀ t ∈ x.ts, Fok 80 t.a ∧ Sy cs t.w ∧ t.w.length ≤ 10
  l : x.ts.length ≤ 3
  g : Sy cs x.g
  gl : x.g.length ≤ 40
  p : Fok 80 x.p
theorem LnB.of {cs : List Nat} {n : Nat} {x : Bd} (o : BdOk cs 250 80 x) (s : BtSm n x.ts x.g) (h : n ≤ 3) : LnB cs x := ⟨fun t ht => ⟨(s.tm t ht).1, (o.bt.tm t ht).sy, (s.tm t ht).2⟩, Nat.le_trans s.few h, o.bt.sy, Nat.le_trans s.ln (by decide), o.pp⟩
theorem LnB.nots {cs : List Nat} {x : Bd} (h : LnB cs x) {n : Nat} (l : x.g.length + n ≤ 40) : LnB cs ⟨x.ts, x.g ++ List.replicate n Wd.nt, x.p⟩ := ⟨h.t, h.l, h.g.nots n, (by rw [List.length_append, List.length_replicate]; exact l), h.p⟩
theorem rep_two {α : Type} (a : α) (n : Nat) : (List.replicate n [a, a]).flatten = List.replicate (n * 2) a := by
  induction n with
  | zero => rfl
  | succ n ih =>
    rw [List.replicate_succ, List.flatten_cons, ih, Nat.succ_mul, Nat.add_comm (n * 2) 2, ← List.replicate_append_replicate]
    rfl
theorem bdsn_eqv0 {bds : List Bd} (h : bds ≠ []) : PyData.eqv (.tuple (bds.map kdat)) (.tuple []) = false := by
  cases bds with
  | nil => exact absurd rfl h
  | cons => rfl
theorem LnB.e {cs : List Nat} {x : Bd} (hs : ∀ c ∈ cs, c < 123) (h : LnB cs x) : Elm false 5 371 (kdat x) := kdat_elm hs (n := 80) (k := 10) (l := 3) (z := 40) h.t (by decide) h.l h.g h.gl h.p
def dyD (cs : List Nat) (rs : List (List Wd)) (bds : List Bd) (C : List (List Wd)) (rows : List (List Bd)) : PyData := .tuple [hdat cs rs, .tuple (bds.map kdat), .tuple (C.map wdat), .tuple (rows.map fun b => .tuple (b.map kdat))]
theorem dyD_shq {cs : List Nat} {rs : List (List Wd)} {bds : List Bd} {C : List (List Wd)} {rows : List (List Bd)} (hO : HsOk cs rs) (k : rs.length ≤ 3) (l : ∀ r ∈ rs, r.length ≤ 14) (hb : ∀ x ∈ bds, LnB cs x) (lb : bds.length ≤ 8) (hc : ∀ c ∈ C, Sy cs c ∧ c.length ≤ 32) (lc : C.length ≤ 4) (hr : ∀ row ∈ rows, row.length ≤ 4 ∧ ∀ x ∈ row, LnB cs x) (lr : rows.length ≤ 4) : Shq (dyD cs rs bds C rows) := by
  have t : Elm false 6 2976 (.tuple (bds.map kdat)) := Elm.tup (n := 5) (m := 371) (k := 8) (fun d hd => by
    obtain ⟨x, hx, rfl⟩ := List.mem_map.mp hd
    exact (hb x hx).e hO.sm) (by rw [List.length_map]; exact lb)
  have u : Elm false 2 644 (.tuple (C.map wdat)) := Elm.tup (n := 1) (m := 160) (k := 4) (fun d hd => by
    obtain ⟨x, hx, rfl⟩ := List.mem_map.mp hd
    exact wdat_elm hO.sm (hc x hx).1 (hc x hx).2) (by rw [List.length_map]; exact lc)
  have v : Elm false 7 5956 (.tuple (rows.map fun b => .tuple (b.map kdat))) := Elm.tup (n := 6) (m := 1488) (k := 4) (fun d hd => by
    obtain ⟨row, hrow, rfl⟩ := List.mem_map.mp hd
    obtain ⟨a, b⟩ := hr row hrow
    exact Elm.tup (n := 5) (m := 371) (k := 4) (fun d hd => by
      obtain ⟨x, hx, rfl⟩ := List.mem_map.mp hd
      exact (b x hx).e hO.sm) (by rw [List.length_map]; exact a)) (by rw [List.length_map]; exact lr)
  refine (Elm.tup (c := false) (n := 7) (m := 5956) (k := 4) (fun d hd => ?_) (by show 4 ≤ 4; decide)).shq (by decide) (by decide)
  rcases List.mem_cons.mp hd with rfl | hd
  · exact (hdat_elm3 hO k l).up (by decide) (by decide)
  rcases List.mem_cons.mp hd with rfl | hd
  · exact t.up (by decide) (by decide)
  rcases List.mem_cons.mp hd with rfl | hd
  · exact u.up (by decide) (by decide)
  rw [List.mem_singleton.mp hd]
  exact v
end B
namespace B
open PySem PySem.Spec PyProof.Rows L2
theorem LnB.bt {cs : List Nat} {x : Bd} (h : LnB cs x) : BtOk cs x.ts x.g := ⟨fun t ht => ⟨(h.t t ht).1.up (by decide), (h.t t ht).2.1, Nat.le_trans (h.t t ht).2.2 (by decide)⟩, Nat.le_trans h.l (by decide), h.g, Nat.le_trans h.gl (by decide)⟩
theorem LnB.jb {cs : List Nat} {x : Bd} (h : LnB cs x) {c : List Wd} (k : Sy cs c) (l : x.g.length + c.length + 1 ≤ 40) : LnB cs (jbJ c x) := ⟨h.t, h.l, h.g.join k .an, (by show (x.g ++ c ++ [Wd.an]).length ≤ 40; rw [List.length_append, List.length_append]; exact l), h.p⟩
theorem lonJ_of {L : List (List Wd × List Bd)} (h : lonJ L = false) : ∀ z ∈ L, ∀ x ∈ z.2, x.g.length + z.1.length + 1 ≤ 40 := fun z hz x hx => by
  by_cases l : 40 < x.g.length + z.1.length + 1
  · rw [lonJ_yes hz hx l] at h
    cases h
  · omega
theorem jlJ_len {k : Nat} : ∀ {L : List (List Wd × List Bd)}, (∀ z ∈ L, z.2.length ≤ k) → (jlJ L).length ≤ L.length * k
  | [], _ => Nat.zero_le _
  | z :: L, h => by
    have := jlJ_len (k := k) (L := L) fun z hz => h z (List.mem_cons_of_mem _ hz)
    have := h z (List.mem_cons_self ..)
    show ((z.2.map (jbJ z.1)) ++ jlJ L).length ≤ (L.length + 1) * k
    rw [List.length_append, List.length_map, Nat.succ_mul]
    omega
def AnsJ (K : PySem.W.Frag) (H : Hp) (bds : List Bd) (L : List (List Wd × List Bd)) (v : V) : Prop := (lonJ L = true ∧ v = .str "TooLong") ∨ (lonJ L = false ∧ 12 < bds.length + (jlJ L).length ∧ v = .str "TooMany") ∨ (lonJ L = false ∧ bds.length + (jlJ L).length ≤ 12 ∧ ∃ p pvs, v = .ref p ∧ SqT K H p pvs ∧ F2 (BdAt K H) pvs (bds ++ jlJ L))
def ansJ (bds : List Bd) (L : List (List Wd × List Bd)) : PyData := if lonJ L = true then .str "TooLong" else if 12 < bds.length + (jlJ L).length then .str "TooMany" else .tuple ((bds ++ jlJ L).map kdat)
theorem AnsJ.dp {K : PySem.W.Frag} {H : Hp} {bds : List Bd} {L : List (List Wd × List Bd)} {v : V} (h : AnsJ K H bds L v) : Dp K H v (ansJ bds L) := by
  unfold ansJ
  rcases h with ⟨a, rfl⟩ | ⟨a, b, rfl⟩ | ⟨a, b, p, pvs, rfl, t, f⟩
  · rw [if_pos a]
    exact .str _
  · rw [a, if_neg (fun z => nomatch z), if_pos b]
    exact .str _
  · rw [a, if_neg (fun z => nomatch z), if_neg (by omega)]
    exact .tup t (f.dp fun _ _ h => h.dp)
theorem AnsJ.mono {K : PySem.W.Frag} {H H' : Hp} {bds : List Bd} {L : List (List Wd × List Bd)} {v : V} (h : AnsJ K H bds L v) (s : Tk K H H') : AnsJ K H' bds L v := by
  rcases h with a | a | ⟨a, b, p, pvs, e, t, f⟩
  · exact .inl a
  · exact .inr (.inl a)
  · exact .inr (.inr ⟨a, b, p, pvs, e, s _ _ t, bds_tk f s⟩)
theorem ansJ_lyd {cs : List Nat} {bds : List Bd} {L : List (List Wd × List Bd)} (sm : ∀ c ∈ cs, c < 123) (hb : ∀ x ∈ bds, LnB cs x) (hL : ∀ z ∈ L, Sy cs z.1 ∧ ∀ x ∈ z.2, LnB cs x) : Lyd 6 (ansJ bds L) := by
  unfold ansJ
  cases e : lonJ L with
  | true =>
    rw [if_pos rfl]
    exact ⟨by decide +kernel, Nat.zero_le _⟩
  | false =>
    rw [if_neg (fun z => nomatch z)]
    split
    · exact ⟨by decide +kernel, Nat.zero_le _⟩
    · refine bds_lyd sm fun x hx => LnB.bt ?_
      rcases List.mem_append.mp hx with z | z
      · exact hb x z
      · obtain ⟨u, hu, hx⟩ := List.mem_flatMap.mp z
        obtain ⟨y, hy, rfl⟩ := List.mem_map.mp hx
        exact ((hL u hu).2 y hy).jb (hL u hu).1 (lonJ_of e u hu y hy)
end B
namespace B
open PySem PySem.Spec PyProof.Rows L2

def sp_short_enough (K : PySem.W.Frag) : Sp := fun vs H Q E => ∃ (a : Addr) (xs : List V), vs = [.ref a] ∧ SqT K H a xs ∧ (40 < xs.length → ∀ C, XIs K "TooLong" C → ∀ d H', DOk H' d → Same H H' → E (.ref C) d H') ∧ (xs.length ≤ 40 → Q (.ref a) H)

section
variable {P : Program} {w : World} {K : PySem.W.Frag} {mg : Str → Option Value} {base : Heap}
theorem ok_short_enough (T : Tx K mg) (U : Unl P base) : FnOk P w K mg base (L2N.CX P w) 35 T.short_enough.f T.short_enough.fd ["words"] (sp_short_enough K) := by
  refine okXN T.short_enough.F sc_short_enough (fun vs H Q E h => ?_) (fun cdv A outer s H vs Q E hr h => ?_)
  · obtain ⟨a, xs, rfl, hA, hE, hQ⟩ := h
    rfl
  · obtain ⟨a, xs, rfl, hA, hE, hQ⟩ := h
    refine ⟨_, (pss_cons (ps_if (pt_cmpR op_gt (pe_callB call_len_seq (by rfl) T.m_len (by decide +kernel) (pa_cons (pv 0) pa_nil)) (pe_glob (v := .int 40) (by rfl) T.g_MOST_WORDS ⟨_, rfl⟩) (nomark _)) (pss_one (L2N.ps_raise rfl (L2N.takes_of rfl rfl rfl rfl) (pmk_noneN T.x_TooLong hr (by rfl)))) pss_nil)
      (pss_one (ps_ret (pv 0)))), ?_⟩
    refine ⟨_, rfl, a, _, rfl, .inr hA, _, _, rfl, rfl, _, rfl, ite2 (fun e => ?_) (fun e => ?_)⟩
    · have e : (40 : Int) < (xs.length : Int) := of_decide_eq_true e
      exact fun d nd => hE (by omega) _ T.x_TooLong.ns _ _ dok_upd (same_upd nd)
    · have e : ¬ (40 : Int) < (xs.length : Int) := fun z => e (decide_eq_true z)
      exact ⟨_, rfl, hQ (by omega)⟩
end
end B

namespace B
open PySem PySem.Spec PyProof.Rows L2
def sp_judged (_ : PySem.W.Frag) : Sp := fun _ _ _ _ => False
section
variable {P : Program} {w : World} {K : PySem.W.Frag} {mg : Str → Option Value} {base : Heap}
theorem ok_judged (T : Tx K mg) (U : Unl P base) : FnOk P w K mg base CX0 35 T.judged.f T.judged.fd ["house", "bids"] (sp_judged K) := T.judged.F.ok sc_judged (fun vs H Q E h => h.elim) (fun cdv A outer s H vs Q E hr h => h.elim)
end
end B

namespace B
open PySem PySem.Spec PyProof.Rows L2
def sp_parted (_ : PySem.W.Frag) : Sp := fun _ _ _ _ => False
section
variable {P : Program} {w : World} {K : PySem.W.Frag} {mg : Str → Option Value} {base : Heap}
theorem ok_parted (T : Tx K mg) (U : Unl P base) : FnOk P w K mg base CX0 35 T.parted.f T.parted.fd ["stakes", "lists"] (sp_parted K) := T.parted.F.ok sc_parted (fun vs H Q E h => h.elim) (fun cdv A outer s H vs Q E hr h => h.elim)
end
end B

namespace B
open PySem PySem.Spec PyProof.Rows L2
theorem cut63 {xs : List V} (h : xs.length ≤ 63) : cutV xs none (some 63) = xs := by
  unfold cutV
  rw [HT.sIx_none, show HT.sIx xs.length xs.length (some 63) = min 63 xs.length from HT.sIx_nat xs.length xs.length 63]
  rw [List.drop_zero, List.take_of_length_le (by omega)]

def sp_l_draws (K : PySem.W.Frag) : Sp := fun vs H Q _ => ∃ (a : Addr) (ns : List Int), vs = [.ref a] ∧ SqL K H a (ns.map V.int) ∧ ns.length ≤ 63 ∧ ∀ (H' : Hp) (d : Dr), Drw H' d 900000 → Same H H' → H d.dr = none → H d.rs = none → Q (.ref d.dr) H'

section
variable {P : Program} {w : World} {K : PySem.W.Frag} {mg : Str → Option Value} {base : Heap}
theorem ok_l_draws (T : Tx K mg) (U : Unl P base) : FnOk P w K mg base CX0 35 T.l_draws.f T.l_draws.fd ["_law_script"] (sp_l_draws K) := by
  refine T.l_draws.F.ok sc_l_draws (fun vs H Q E h => ?_) (fun cdv A outer s H vs Q E hr h => ?_)
  · obtain ⟨a, ns, rfl, hS, hlen, q⟩ := h
    rfl
  · obtain ⟨a, ns, rfl, hS, hlen, q⟩ := h
    refine ⟨_, (pss_cons (ps_set (i := 1) sc_l_draws.nd rfl (.inl rfl) (pe_op op_cat (pe_callTy call_list_of (by rfl) T.m_list (by decide +kernel) (pa_cons (pe_slice sl_list (pv 0) po_none (po_some pe_int)) pa_nil)) (pe_op op_rep (pe_lst (pa_cons pe_int pa_nil)) (pe_callTy call_int1 (by rfl) T.m_int (by decide +kernel) (pa_cons (pe_cmpR op_eq (pe_callB call_len_seq (by rfl) T.m_len (by decide +kernel) (pa_cons (pv 0) pa_nil)) pe_int (nomark _)) pa_nil)))))
      (pss_one (ps_ret (pe_lst (pa_cons (pv 1) (pa_cons pe_int (pa_cons (pe_lc (own := [("_law_cell", 2)]) (g := gName 2) (tt := tYes) rfl sc_l_draws.nd (pi_list (pv 1)) (blkOk_by (own := [("_law_cell", 2)]) (N := N_l_draws) (sc := defScope s_l_draws) (by decide +kernel)) (fun _ _ _ _ _ => (pg_name (i := 2) sc_l_draws.nd rfl (.inl rfl))) (fun _ _ _ _ _ => pts_nil) (fun _ _ _ _ _ => (pe_op op_mul (pv 2) (pe_callTy (T := "int") call_int1 (by rfl) T.m_int (by decide +kernel) (pa_cons (pe_cmpR op_ge (pv 2) (pe_op op_pow pe_int pe_int) (nomark _)) pa_nil))))) pa_nil))))))), ?_⟩
    have lns : (ns.map V.int).length = ns.length := List.length_map ..
    refine ⟨_, rfl, 63, rfl, a, _, rfl, hS, fun p1 np1 => ?_⟩
    have s1 := same_upd (o := .lst (cutV (ns.map V.int) none (some 63))) np1
    refine ⟨p1, _, rfl, .inl sql_upd, fun l nl => ?_⟩
    rw [cut63 (by rw [lns]; exact hlen)] at s1 nl ⊢
    have s2 := s1.trans (same_upd (o := .lst (ns.map V.int)) nl)
    refine ⟨by decide, fun z nz => ?_⟩
    have s3 := s2.trans (same_upd (o := .lst [.int 0]) nz)
    refine ⟨_, rfl, a, _, rfl, .inl (s3.seq hS), rfl, .inr ⟨_, rfl, ?_⟩⟩
    have hl3 : (upd (upd (upd H p1 (.lst (ns.map V.int))) l (.lst (ns.map V.int))) z (.lst [.int 0])) l = some (.lst (ns.map V.int)) := by
      rw [upd_ne (ne_of_none upd_same nz), upd_same]
    obtain ⟨k, hk, k2⟩ : ∃ k : Nat, (if decide (V.int ((ns.map V.int).length : Nat) = V.int 0) = true then (1 : Int) else 0) = (k : Int) ∧ ((ns = [] ∧ k = 1) ∨ (ns ≠ [] ∧ k = 0)) := by
      cases ns with
      | nil => exact ⟨1, rfl, .inl ⟨rfl, rfl⟩⟩
      | cons x r =>
        refine ⟨0, ?_, .inr ⟨by simp, rfl⟩⟩
        rw [if_neg]
        · rfl
        · intro e
          have e2 := V.int.inj (of_decide_eq_true e)
          rw [List.length_map, List.length_cons] at e2
          omega
    refine ⟨z, _, _, rfl, rfl, upd_same, ?_, ?_, ?_, fun r nr => ?_⟩
    · rw [hk]
      omega
    · rw [hk]
      omega
    · rw [hk, Int.toNat_natCast]
      show 1 * k ≤ sizeLine
      exact Nat.le_trans (show 1 * k ≤ 1 by omega) (by decide)
    rw [hk, Int.toNat_natCast]
    have s4 := s3.trans (same_upd (o := .lst (List.replicate k [V.int 0]).flatten) nr)
    obtain ⟨cs, ecs, c0, c63⟩ : ∃ cs : List Int, ns.map V.int ++ (List.replicate k [V.int 0]).flatten = cs.map V.int ∧ 0 < cs.length ∧ cs.length ≤ 63 := by
      rcases k2 with ⟨rfl, rfl⟩ | ⟨h, rfl⟩
      · exact ⟨[0], rfl, by decide, by decide⟩
      · refine ⟨ns, by simp, ?_, hlen⟩
        cases ns with
        | nil => exact absurd rfl h
        | cons x r => rw [List.length_cons]; omega
    refine ⟨l, r, ns.map V.int, _, rfl, rfl, ?_, upd_same, ?_, fun c nc => ?_⟩
    · rw [upd_ne (ne_of_none hl3 nr)]
      exact hl3
    · have e := congrArg List.length ecs
      rw [List.length_append, List.length_map] at e
      rw [List.length_map, e, List.length_map]
      exact Nat.le_trans c63 (by decide)
    rw [ecs]
    have s5 := s4.trans (same_upd (o := .lst (cs.map V.int)) nc)
    have hc5 := upd_same (H := upd (upd (upd (upd H p1 (.lst (ns.map V.int))) l (.lst (ns.map V.int))) z (.lst [.int 0])) r (.lst (List.replicate k [V.int 0]).flatten)) (a := c) (o := .lst (cs.map V.int))
    generalize upd (upd (upd (upd (upd H p1 (.lst (ns.map V.int))) l (.lst (ns.map V.int))) z (.lst [.int 0])) r (.lst (List.replicate k [V.int 0]).flatten)) c (.lst (cs.map V.int)) = H5 at s5 hc5 ⊢
    refine ⟨_, rfl, _, rfl, c, rfl, ⟨_, .inl (.inl hc5)⟩, fun D nD => ?_⟩
    refine lc_list (K := K) (a := c) (xs := cs.map V.int) (fun i H' => ∃ acc : List Int, H' D = some (.lst (acc.map V.int)) ∧ acc.length = i ∧ i ≤ cs.length ∧ Same H5 H') ⟨[], upd_same, rfl, by omega, same_upd nD⟩ (fun i H' _ ⟨_, _, _, _, e⟩ => .inl (.inl (e _ _ hc5))) ?_ ?_
    · rintro i x H' hx ⟨acc, h1, h2, h3, h4⟩
      have hi : i < cs.length := by
        have := (List.getElem?_eq_some_iff.mp hx).1
        rw [List.length_map] at this
        exact this
      obtain ⟨y, hy, rfl⟩ : ∃ y, cs[i]? = some y ∧ x = V.int y := by
        rw [List.getElem?_map] at hx
        cases e : cs[i]? with
        | none => rw [e] at hx; cases hx
        | some y => rw [e] at hx; exact ⟨y, rfl, (Option.some.inj hx).symm⟩
      refine ⟨rfl, lc_yes ?_⟩
      refine ⟨_, rfl, _, rfl, _, _, rfl, rfl, ⟨by decide, by decide, by decide⟩, _, _, rfl, rfl, .inr ⟨_, rfl, ?_⟩⟩
      refine ⟨_, _, rfl, rfl, .inr ?_, _, h1, ?_, ?_⟩
      · constructor
        · split <;> decide
        · split <;> decide
      · rw [List.length_map]
        exact Nat.lt_of_le_of_lt (show acc.length ≤ 63 by omega) (by decide)
      · refine ⟨acc ++ [_], by rw [upd_same, List.map_append]; rfl, by rw [List.length_append, h2]; rfl, hi, fun b o e => ?_⟩
        rw [upd_ne (ne_of_none e nD)]
        exact h4 b o e
    · rintro H' ⟨acc, h1, h2, h3, h4⟩
      refine ⟨by show 3 ≤ sizeLine; decide, fun p np => ?_⟩
      rw [List.length_map] at h2
      refine q _ ⟨p, c, D⟩ ⟨⟨cs, acc, 0, upd_same, ?_, ?_, h2.symm, c0, c63, by decide⟩, ?_⟩ ?_ ?_ ?_
      · rw [upd_ne (ne_of_none (h4 _ _ hc5) np)]
        exact h4 _ _ hc5
      · rw [upd_ne (ne_of_none h1 np)]
        exact h1
      · exact ne_of_none hc5 nD
      · exact (s5.trans h4).trans (same_upd np)
      · exact (s5.trans h4).free np
      · exact s5.free nD
end
end B

namespace B
open PySem PySem.Spec PyProof.Rows L2

def sp_l_next (_ : PySem.W.Frag) : Sp := fun vs H Q _ => ∃ (d : Dr) (b : Nat) (many : Int), vs = [.ref d.dr, .int many] ∧ 0 < many ∧ many.natAbs < 2 ^ 70 ∧ Drw H d (b + 1) ∧ ∀ (H' : Hp) (r : Int), 0 ≤ r → r < many → Drw H' d b → Kp d H H' → Q (.int r) H'

section
variable {P : Program} {w : World} {K : PySem.W.Frag} {mg : Str → Option Value} {base : Heap}
theorem ok_l_next (T : Tx K mg) (U : Unl P base) : FnOk P w K mg base CX0 35 T.l_next.f T.l_next.fd ["_law_drawn", "_law_many"] (sp_l_next K) := by
  refine T.l_next.F.ok sc_l_next (fun vs H Q E h => ?_) (fun cdv A outer s H vs Q E hr h => ?_)
  · obtain ⟨d, b, many, rfl, hm0, hm1, ⟨⟨cs, rr, c, h1, h2, h3, hl, hp, h63, hb⟩, ne⟩, q⟩ := h
    rfl
  · obtain ⟨d, b, many, rfl, hm0, hm1, ⟨⟨cs, rr, c, h1, h2, h3, hl, hp, h63, hb⟩, ne⟩, q⟩ := h
    refine ⟨_, (pss_cons (ps_asg (pv 0) (pg_lst rfl (pgs_cons (pg_name (i := 2) sc_l_next.nd rfl (.inl rfl)) (pgs_cons (pg_name (i := 3) sc_l_next.nd rfl (.inl rfl)) (pgs_cons (pg_name (i := 4) sc_l_next.nd rfl (.inl rfl)) pgs_nil)))))
      (pss_cons (ps_set (i := 5) sc_l_next.nd rfl (.inl rfl) (pe_op op_mod (pv 3) (pe_callB call_len_seq (by rfl) T.m_len (by decide +kernel) (pa_cons (pv 2) pa_nil))))
      (pss_cons (ps_asg (pe_op op_add (pv 3) pe_int) (pg_sub (pv 0) pe_int set_list))
      (pss_cons (ps_if (pt_cmpR op_gt (pe_ix ix_list (pv 4) (pv 5) (fun _ _ => rfl)) pe_int (nomark _)) (pss_cons (ps_set (i := 6) sc_l_next.nd rfl (.inl rfl) (pe_op op_mod (pe_ix ix_list (pv 4) (pv 5) (fun _ _ => rfl)) (pv 1)))
      (pss_cons (ps_asg (pe_op (op_fdivW U (hr.mono (by decide)) rfl sc_l_next.gen sc_l_next.co rfl rfl) (pe_ix ix_list (pv 4) (pv 5) (fun _ _ => rfl)) (pv 1)) (pg_sub (pv 4) (pv 5) set_list))
      (pss_one (ps_ret (pv 6))))) pss_nil)
      (pss_cons (ps_set (i := 7) sc_l_next.nd rfl (.inl rfl) (pe_lst (pa_cons pe_int (pa_cons pe_int (pa_cons pe_int (pa_cons pe_int (pa_cons pe_int (pa_cons pe_int (pa_cons pe_int pa_nil)))))))))
      (pss_cons (ps_set (i := 8) sc_l_next.nd rfl (.inl rfl) (pe_op op_pow (pe_op op_add (pe_op op_add (pe_op op_mod (pe_ix ix_list (pv 2) (pv 5) (fun _ _ => rfl)) pe_int) (pe_op op_mul pe_int (pv 3))) pe_int) pe_int))
      (pss_cons (ps_set (i := 8) sc_l_next.nd rfl (.inl rfl) (pe_op op_mod (pv 8) (pe_ix ix_list (pv 7) (pe_op op_mod (pv 3) pe_int) (fun _ _ => rfl))))
      (pss_cons (ps_set (i := 9) sc_l_next.nd rfl (.inl rfl) (pe_op op_mod (pe_op op_pow (pe_op op_add (pv 8) (pe_op op_mul pe_int (pv 3))) pe_int) pe_int))
      (pss_one (ps_ret (pe_op op_mod (pe_op op_mod (pe_op op_add (pe_op op_mul (pv 9) pe_int) (pv 8)) pe_int) (pv 1)))))))))))), ?_⟩
    have n1 : d.dr ≠ d.cl := ne_of h1 h2 (by intro z; cases cs with | nil => cases z | cons x r => cases z)
    have n2 : d.dr ≠ d.rs := ne_of h1 h3 (by intro z; cases rr with | nil => cases z | cons x r => cases z)
    have lc : (cs.map V.int).length = cs.length := List.length_map ..
    have lr : (rr.map V.int).length = cs.length := by rw [List.length_map, hl]
    have hj : c % (cs.map V.int).length < cs.length := by
      rw [lc]
      exact Nat.mod_lt _ hp
    obtain ⟨x, hx⟩ : ∃ x, cs[c % (cs.map V.int).length]? = some x := ⟨_, List.getElem?_eq_getElem hj⟩
    obtain ⟨y, hy⟩ : ∃ y, rr[c % (cs.map V.int).length]? = some y := ⟨_, List.getElem?_eq_getElem (by rw [← hl]; exact hj)⟩
    refine ⟨_, rfl, d.dr, _, rfl, .inl (.inl h1), rfl, _, _, rfl, _, _, rfl, _, _, rfl, rfl, ?_⟩
    refine ⟨_, rfl, _, rfl, d.cl, _, rfl, .inl (.inl (.inl h2)), _, _, rfl, rfl, (by show (0 : Int) < ((cs.map V.int).length : Int); omega), ?_⟩
    refine ⟨_, rfl, _, _, rfl, rfl, _, rfl, d.dr, _, 1, 1, rfl, rfl, h1, rfl, ?_⟩
    have H1r : (upd H d.dr (.lst ([.ref d.cl, .int c, .ref d.rs].set 1 (.int ((c : Int) + 1))))) d.rs = some (.lst (rr.map V.int)) := by rw [upd_ne n2.symm]; exact h3
    have H1c : (upd H d.dr (.lst ([.ref d.cl, .int c, .ref d.rs].set 1 (.int ((c : Int) + 1))))) d.cl = some (.lst (cs.map V.int)) := by rw [upd_ne n1.symm]; exact h2
    have ary : atI (rr.map V.int) ((c % (cs.map V.int).length : Nat) : Int) = some (.int y) := at_nat (by rw [List.getElem?_map, hy]; rfl)
    have arx : atI (cs.map V.int) ((c % (cs.map V.int).length : Nat) : Int) = some (.int x) := at_nat (by rw [List.getElem?_map, hx]; rfl)
    refine ⟨_, rfl, _, rfl, d.rs, _, ((c % (cs.map V.int).length : Nat) : Int), _, rfl, rfl, .inl (.inl H1r), ary, _, _, rfl, rfl, _, rfl, ite2 (fun e => ?_) (fun e => ?_)⟩
    · refine ⟨_, rfl, _, rfl, d.rs, _, ((c % (cs.map V.int).length : Nat) : Int), _, rfl, rfl, .inl (.inl H1r), ary, _, rfl, _, _, rfl, rfl, hm0, ?_⟩
      refine ⟨_, rfl, _, rfl, d.rs, _, ((c % (cs.map V.int).length : Nat) : Int), _, rfl, rfl, .inl (.inl H1r), ary, _, rfl, _, _, rfl, rfl, wide_div hm0 hm1 (by decide) (by decide), _, rfl, _, rfl, d.rs, _, ((c % (cs.map V.int).length : Nat) : Int), c % (cs.map V.int).length, rfl, rfl, H1r, ?_, ?_⟩
      · unfold ixN
        rw [if_pos (by omega), if_pos (by rw [lr]; omega)]
        rfl
      refine ⟨_, rfl, ?_⟩
      refine q _ _ (Int.emod_nonneg _ (by omega)) (Int.emod_lt_of_pos _ hm0) ⟨⟨cs, rr.set (c % (cs.map V.int).length) (y / many), c + 1, ?_, ?_, ?_, ?_, hp, h63, by omega⟩, ne⟩ ?_
      · rw [upd_ne n2, upd_same]
        rfl
      · rw [upd_ne ne]
        exact H1c
      · rw [upd_same, List.map_set]
      · rw [List.length_set]
        exact hl
      · intro p o hp1 a1 a2
        rw [upd_ne a2, upd_ne a1]
        exact hp1
    · refine ⟨by decide, fun pr npr => ?_⟩
      have npc : d.cl ≠ pr := ne_of_none H1c npr
      refine ⟨_, rfl, _, rfl, d.cl, _, ((c % (cs.map V.int).length : Nat) : Int), _, rfl, rfl, .inl (.inl (by rw [upd_ne npc]; exact H1c)), arx, _, _, rfl, rfl, (by show (0 : Int) < 2147483647; decide), _, rfl, _, _, rfl, rfl, .inl ⟨by decide, by decide⟩, _, _, rfl, rfl, _, _, rfl, rfl, ?_⟩
      have c7 : c % 7 < 7 := Nat.mod_lt _ (by decide)
      obtain ⟨pm, hpm, pm0, pm1⟩ : ∃ pm : Int, ([.int 2147483629, .int 2147483587, .int 2147483579, .int 2147483563, .int 2147483549, .int 2147483543, .int 2147483497] : List V)[c % 7]? = some (.int pm) ∧ 0 < pm ∧ pm < 2147483648 := by
        generalize c % 7 = z at c7
        match z, c7 with
        | 0, _ => exact ⟨_, rfl, by decide, by decide⟩
        | 1, _ => exact ⟨_, rfl, by decide, by decide⟩
        | 2, _ => exact ⟨_, rfl, by decide, by decide⟩
        | 3, _ => exact ⟨_, rfl, by decide, by decide⟩
        | 4, _ => exact ⟨_, rfl, by decide, by decide⟩
        | 5, _ => exact ⟨_, rfl, by decide, by decide⟩
        | 6, _ => exact ⟨_, rfl, by decide, by decide⟩
      refine ⟨_, _, rfl, rfl, ⟨by decide, by decide, by omega⟩, _, rfl, _, rfl, _, rfl, _, _, rfl, rfl, (by show (0 : Int) < 7; decide), pr, _, ((c % 7 : Nat) : Int), _, rfl, rfl, .inl (.inl upd_same), at_nat hpm, _, _, rfl, rfl, pm0, ?_⟩
      have m2 := Int.emod_nonneg ((x % 2147483647 + 48271 * (c : Int) + 104729) ^ (3 : Int).toNat) (show pm ≠ 0 by omega)
      have m2' := Int.emod_lt_of_pos ((x % 2147483647 + 48271 * (c : Int) + 104729) ^ (3 : Int).toNat) pm0
      refine ⟨_, rfl, _, rfl, _, _, rfl, rfl, .inl ⟨by decide, by decide⟩, _, _, rfl, rfl, _, _, rfl, rfl, ⟨by decide, by decide, by omega⟩, _, _, rfl, rfl, (by show (0 : Int) < 2147483477; decide), ?_⟩
      refine ⟨_, rfl, _, _, rfl, rfl, .inr ⟨by decide, by decide⟩, _, rfl, _, _, rfl, rfl, _, _, rfl, rfl, (by show (0 : Int) < 4611686018427387847; decide), _, rfl, _, _, rfl, rfl, hm0, ?_⟩
      refine q _ _ (Int.emod_nonneg _ (by omega)) (Int.emod_lt_of_pos _ hm0) ⟨⟨cs, rr, c + 1, ?_, ?_, ?_, hl, hp, h63, by omega⟩, ne⟩ ?_
      · rw [upd_ne (ne_of_none (upd_same (H := H)) npr), upd_same]
        rfl
      · rw [upd_ne npc]
        exact H1c
      · rw [upd_ne (ne_of_none H1r npr)]
        exact H1r
      · intro p o hp1 a1 a2
        have e1 : (upd H d.dr (.lst ([.ref d.cl, .int c, .ref d.rs].set 1 (.int ((c : Int) + 1))))) p = some o := by rw [upd_ne a1]; exact hp1
        rw [upd_ne (ne_of_none e1 npr)]
        exact e1
end
end B

namespace B
open PySem PySem.Spec PyProof.Rows L2

def sp_l_lowest (_ : PySem.W.Frag) : Sp := fun vs H Q _ => ∃ (t : Int) (b : Nat), vs = [.int t, .int b] ∧ 0 < b ∧ b < 2 ^ 900000 ∧ ∀ p, H p = none → Q (.ref p) (upd H p (.tup [.int (lowT t b), .int (lowBn t b)]))

section
variable {P : Program} {w : World} {K : PySem.W.Frag} {mg : Str → Option Value} {base : Heap}
theorem ok_l_lowest (T : Tx K mg) (U : Unl P base) : FnOk P w K mg base CX0 35 T.l_lowest.f T.l_lowest.fd ["_law_top", "_law_bottom"] (sp_l_lowest K) := by
  refine T.l_lowest.F.ok sc_l_lowest (fun vs H Q E h => ?_) (fun cdv A outer s H vs Q E hr h => ?_)
  · obtain ⟨t, b, rfl, hb, hz, q⟩ := h
    rfl
  · obtain ⟨t, b, rfl, hb, hz, q⟩ := h
    refine ⟨_, (pss_cons (ps_par (i := 2) (j := 3) (by rfl) sc_l_lowest.nd rfl rfl (by decide) rfl rfl (pa_cons (pe_callB call_abs (by rfl) T.m_abs (by decide +kernel) (pa_cons (pv 0) pa_nil)) (pa_cons (pv 1) pa_nil)) (by rfl))
      (pss_cons (ps_while PassesOwn.never (pt_cmpR op_gt (pv 3) pe_int (nomark _)) (pss_one (ps_par (i := 2) (j := 3) (by rfl) sc_l_lowest.nd rfl rfl (by decide) rfl rfl (pa_cons (pv 3) (pa_cons (pe_op op_mod (pv 2) (pv 3)) pa_nil)) (by rfl))))
      (pss_one (ps_ret (pe_tup (pa_cons (pe_op (op_fdivW U (hr.mono (by decide)) rfl sc_l_lowest.gen sc_l_lowest.co rfl rfl) (pv 0) (pv 2)) (pa_cons (pe_op (op_fdivW U (hr.mono (by decide)) rfl sc_l_lowest.gen sc_l_lowest.co rfl rfl) (pv 1) (pv 2)) pa_nil))))))), ?_⟩
    have g0 : 0 < Nat.gcd t.natAbs b := Nat.gcd_pos_of_pos_right _ hb
    have gz : ((Nat.gcd t.natAbs b : Nat) : Int).natAbs < 2 ^ 900000 := by
      rw [Int.natAbs_natCast]
      exact Nat.lt_of_le_of_lt (Nat.gcd_le_right _ hb) hz
    have q' : ∀ p, H p = none → Q (.ref p) (upd H p (.tup [.int (t / ((Nat.gcd t.natAbs b : Nat) : Int)), .int ((b : Int) / ((Nat.gcd t.natAbs b : Nat) : Int))])) := by
      rw [← lowT_nat, ← lowB_nat, lowBn_eq hb]
      exact q
    refine ⟨_, rfl, t, rfl, _, rfl, _, _, rfl, ?_⟩
    refine ⟨fun m σ H' => ∃ x y : Nat, σ = [some (.int t), some (.int b), some (.int x), some (.int y)] ∧ Nat.gcd x y = Nat.gcd t.natAbs b ∧ H' = H ∧ m = y, ⟨b, t.natAbs, b, ?_, rfl, rfl, rfl⟩, fun m σ H' hW => ?_⟩
    · rw [abs_nat]
      rfl
    obtain ⟨x, y, rfl, eg, rfl, rfl⟩ := hW
    refine ⟨_, rfl, _, _, rfl, rfl, _, rfl, ite2 (fun e => ?_) (fun e => ?_)⟩
    · have hy : 0 < m := by
        have := of_decide_eq_true e
        omega
      refine ⟨fun σ' H2 => σ' = [some (.int t), some (.int b), some (.int m), some (.int (x % m : Nat))] ∧ H2 = H', fun σ' H2 hN => ?_, ?_⟩
      · obtain ⟨rfl, rfl⟩ := hN
        exact ⟨x % m, Nat.mod_lt _ hy, m, x % m, rfl, by rw [← eg, Nat.gcd_comm m, ← Nat.gcd_rec, Nat.gcd_comm], rfl, rfl⟩
      · refine ⟨_, rfl, _, rfl, _, rfl, _, _, rfl, rfl, (by show (0 : Int) < m; omega), _, _, rfl, ?_⟩
        exact ⟨rfl, rfl⟩
    · have hy : m = 0 := by
        have : ¬ (0 : Int) < m := fun z => e (decide_eq_true z)
        omega
      subst hy
      rw [Nat.gcd_zero_right] at eg
      subst eg
      exact ⟨_, rfl, _, rfl, _, _, rfl, rfl, wide_div (by omega) gz (by decide) (by decide), _, rfl, _, rfl, _, _, rfl, rfl, wide_div (by omega) gz (by decide) (by decide), by show 2 ≤ sizeLine; decide, q'⟩
end
end B

namespace B
open PySem PySem.Spec PyProof.Rows L2

def sp_l_holds (K : PySem.W.Frag) : Sp := fun vs H Q _ => ∃ (cs : List Nat) (a : Addr) (ws : List Wd) (bs : List Bool), vs = [.str (tx cs), .ref a, .str (wtx bs)] ∧ SqT K H a (ws.map wv) ∧ Sy cs ws ∧ cs.length = bs.length ∧ bs.length ≤ 100 ∧ ws.length ≤ 10000 ∧ ∀ H', Same H H' → Q (.bl (sval (vl cs bs) ws)) H'

section
variable {P : Program} {w : World} {K : PySem.W.Frag} {mg : Str → Option Value} {base : Heap}
theorem ok_l_holds (T : Tx K mg) (U : Unl P base) : FnOk P w K mg base CX0 35 T.l_holds.f T.l_holds.fd ["_law_letters", "_law_saying_here", "_law_world"] (sp_l_holds K) := by
  refine T.l_holds.F.ok sc_l_holds (fun vs H Q E h => ?_) (fun cdv A outer s H vs Q E hr h => ?_)
  · obtain ⟨cs, a, ws, bs, rfl, hA, hY, hl, h100, hz, q⟩ := h
    rfl
  · obtain ⟨cs, a, ws, bs, rfl, hA, hY, hl, h100, hz, q⟩ := h
    refine ⟨_, (pss_cons (ps_set (i := 3) sc_l_holds.nd rfl (.inl rfl) (pe_tup pa_nil))
      (pss_cons (ps_for PassesOwn.never rfl (pi_tup (pv 1)) (pg_name (i := 4) sc_l_holds.nd rfl (.inl rfl))
      (pss_one (ps_if (pt_cmpR op_eq (pv 4) pe_str (nomark _)) (pss_one (ps_set (i := 3) sc_l_holds.nd rfl (.inl rfl) (pe_op op_catS (pe_slice sl_tupS (pv 3) po_none (po_some (pe_un un_neg pe_int))) (pe_tup (pa_cons (pe_op op_sub pe_int (pe_ix ix_tup (pv 3) (pe_un un_neg pe_int) (fun _ _ => rfl))) pa_nil))))) (pss_one (ps_if (pt_cmpR op_eq (pv 4) pe_str (nomark _)) (pss_one (ps_set (i := 3) sc_l_holds.nd rfl (.inl rfl) (pe_op op_catS (pe_slice sl_tupS (pv 3) po_none (po_some (pe_un un_neg pe_int))) (pe_tup (pa_cons (pe_op op_mul (pe_ix ix_tup (pv 3) (pe_un un_neg pe_int) (fun _ _ => rfl)) (pe_ix ix_tup (pv 3) (pe_un un_neg pe_int) (fun _ _ => rfl))) pa_nil))))) (pss_one (ps_if (pt_cmpR op_eq (pv 4) pe_str (nomark _)) (pss_one (ps_set (i := 3) sc_l_holds.nd rfl (.inl rfl) (pe_op op_catS (pe_slice sl_tupS (pv 3) po_none (po_some (pe_un un_neg pe_int))) (pe_tup (pa_cons (pe_callB (cr_maxT rfl) (by rfl) T.m_max (by decide +kernel) (pa_cons (pe_slice sl_tupS (pv 3) (po_some (pe_un un_neg pe_int)) po_none) pa_nil)) pa_nil))))) (pss_one (ps_if (pt_cmpR op_eq (pv 4) pe_str (nomark _)) (pss_one (ps_set (i := 3) sc_l_holds.nd rfl (.inl rfl) (pe_op op_catS (pe_slice sl_tupS (pv 3) po_none (po_some (pe_un un_neg pe_int))) (pe_tup (pa_cons (pe_callTy call_int1 (by rfl) T.m_int (by decide +kernel) (pa_cons (pe_cmpR op_eq (pe_ix ix_tup (pv 3) (pe_un un_neg pe_int) (fun _ _ => rfl)) (pe_ix ix_tup (pv 3) (pe_un un_neg pe_int) (fun _ _ => rfl)) (nomark _)) pa_nil)) pa_nil))))) (pss_one (ps_if (PW.pt (pw_or (pt_cmpR op_eq (pv 4) pe_str (nomark _)) (pw_or1 (pt_cmpR op_eq (pv 4) pe_str (nomark _))))) (pss_one (ps_set (i := 3) sc_l_holds.nd rfl (.inl rfl) (pe_op op_catS (pv 3) (pe_tup (pa_cons (pe_callTy call_int1 (by rfl) T.m_int (by decide +kernel) (pa_cons (pe_cmpR op_eq (pv 4) pe_str (nomark _)) pa_nil)) pa_nil))))) (pss_one (ps_set (i := 3) sc_l_holds.nd rfl (.inl rfl) (pe_op op_catS (pv 3) (pe_tup (pa_cons (pe_callTy call_int_str (by rfl) T.m_int (by decide +kernel) (pa_cons (pe_ix ix_str (pv 2) (pe_bm PySem.F.plainAttrs_str PySem.F.slot_str_find PySem.F.type_str_find mt_find (pv 0) (pa_cons (pv 4) pa_nil)) (fun _ _ => rfl)) pa_nil)) pa_nil))))))))))))))))
      (pss_one (ps_ret (pe_cmpR op_eq (pe_ix ix_tup (pv 3) pe_int (fun _ _ => rfl)) pe_int (nomark _)))))), ?_⟩
    refine ⟨by decide, fun l nl => ?_⟩
    have S0 := same_upd (o := .tup []) nl
    refine ⟨_, rfl, a, rfl, ⟨_, Same.tup S0 hA⟩, for_tup (K := K) (a := a) (xs := ws.map wv) (fun i σ H' => ∃ (l : Addr) (x4 : Option V) (st : List Bool), σ = [some (.str (tx cs)), some (.ref a), some (.str (wtx bs)), some (.ref l), x4] ∧ SqT K H' l (hq st) ∧ ht st.length (ws.drop i) = some 1 ∧ run (vl cs bs) st (ws.drop i) = [sval (vl cs bs) ws] ∧ st.length ≤ i ∧ Same H H') ⟨l, none, [], rfl, sqt_upd, hY.ht, run_sy _ hY, Nat.le_refl _, S0⟩ (fun i σ H' _ ⟨_, _, _, _, _, _, _, _, e⟩ => Same.tup e hA) ?_ ?_⟩
    · rintro i x σ H1 hx ⟨l, x4, st, rfl, h1, h2, h3, h4, s1⟩
      have hi : i < ws.length := by
        have := (List.getElem?_eq_some_iff.mp hx).1
        rw [List.length_map] at this
        exact this
      obtain ⟨w, hw, rfl⟩ : ∃ w, ws[i]? = some w ∧ x = wv w := by
        rw [List.getElem?_map, List.getElem?_eq_getElem hi] at hx
        exact ⟨_, List.getElem?_eq_getElem hi, (Option.some.inj hx).symm⟩
      have ed : ws.drop i = w :: ws.drop (i + 1) := by
        rw [List.drop_eq_getElem_cons hi]
        rw [List.getElem?_eq_getElem hi] at hw
        rw [Option.some.inj hw]
      rw [ed] at h2 h3
      have h2' := ht_step (vl cs bs) h2
      rw [run_cons] at h3
      have sz : ∀ {n : Nat}, n ≤ i → n ≤ 10000 := fun h => by omega
      refine ⟨_, rfl, rfl, _, rfl, iteW (w := w) (u := .nt) rfl (fun e => ?_) (fun e => ?_)⟩
      · have e : w = .nt := e
        subst e
        obtain ⟨b, s, rfl⟩ := ht_nt h2
        rw [hq_cons] at h1
        refine ⟨_, rfl, 1, rfl, _, rfl, l, _, rfl, h1, fun p1 H2 t2 s2 => ?_⟩
        rw [cut_last _ (by simp), List.dropLast_concat] at t2
        have h1' := Same.tup s2 h1
        refine ⟨_, rfl, 1, rfl, l, _, -1, .int (bi b), rfl, rfl, h1', atI_last _ _, _, _, rfl, rfl, by show 1 ≤ sizeLine; decide, fun p3 n3 => ?_⟩
        have s3 := same_upd (o := .tup [.int (1 - bi b)]) n3
        refine ⟨p1, p3, _, _, rfl, rfl, Same.tup s3 t2, sqt_upd, ?_, fun p4 H4 t4 s4 => ?_⟩
        · rw [hq_len]
          simp only [List.length_cons, List.length_nil] at h4 ⊢
          omega
        · have eb : 1 - bi b = bi (!b) := by cases b <;> rfl
          have t4 : SqT K H4 p4 (hq s ++ [.int (1 - bi b)]) := t4
          rw [eb, ← hq_cons] at t4
          exact ⟨p4, _, (!b) :: s, rfl, t4, h2', h3, by simp only [List.length_cons] at h4 ⊢; omega, ((s1.trans s2).trans s3).trans s4⟩
      refine ⟨_, rfl, rfl, _, rfl, iteW (w := w) (u := .an) rfl (fun e1 => ?_) (fun e1 => ?_)⟩
      · have e : w = .an := e1
        subst e
        obtain ⟨b, c, s, rfl⟩ := ht_jn .an h2
        rw [hq_cons, hq_cons] at h1
        refine ⟨_, rfl, 2, rfl, _, rfl, l, _, rfl, h1, fun p1 H2 t2 s2 => ?_⟩
        rw [cut2.1] at t2
        have h1' := Same.tup s2 h1
        refine ⟨_, rfl, 2, rfl, l, _, -2, .int (bi c), rfl, rfl, h1', at_last2, _, rfl, 1, rfl, l, _, -1, .int (bi b), rfl, rfl, h1', atI_last _ _, _, _, rfl, rfl, .inl (by cases c <;> exact ⟨by decide, by decide⟩), by show 1 ≤ sizeLine; decide, fun p3 n3 => ?_⟩
        have s3 := same_upd (o := .tup [.int (bi c * bi b)]) n3
        refine ⟨p1, p3, _, _, rfl, rfl, Same.tup s3 t2, sqt_upd, ?_, fun p4 H4 t4 s4 => ?_⟩
        · rw [hq_len]
          simp only [List.length_cons, List.length_nil] at h4 ⊢
          omega
        · have eb : bi c * bi b = bi (c && b) := by cases b <;> cases c <;> rfl
          have t4 : SqT K H4 p4 (hq s ++ [.int (bi c * bi b)]) := t4
          rw [eb, ← hq_cons] at t4
          exact ⟨p4, _, (c && b) :: s, rfl, t4, h2', h3, by simp only [List.length_cons] at h4 ⊢; omega, ((s1.trans s2).trans s3).trans s4⟩
      refine ⟨_, rfl, rfl, _, rfl, iteW (w := w) (u := .orr) rfl (fun e2 => ?_) (fun e2 => ?_)⟩
      · have e : w = .orr := e2
        subst e
        obtain ⟨b, c, s, rfl⟩ := ht_jn .orr h2
        rw [hq_cons, hq_cons] at h1
        refine ⟨_, rfl, 2, rfl, _, rfl, l, _, rfl, h1, fun p1 H2 t2 s2 => ?_⟩
        rw [cut2.1] at t2
        have h1' := Same.tup s2 h1
        refine ⟨_, rfl, 2, rfl, _, rfl, l, _, rfl, h1', fun p3 H3 t3 s3 => ?_⟩
        rw [cut2.2] at t3
        refine ⟨p3, [bi c, bi b], rfl, t3, by show 0 < 2; decide, fun m m1 m2 => ?_⟩
        refine ⟨by show 1 ≤ sizeLine; decide, fun p5 n5 => ?_⟩
        have s5 := same_upd (o := .tup [.int m]) n5
        refine ⟨p1, p5, _, _, rfl, rfl, Same.tup (s3.trans s5) t2, sqt_upd, ?_, fun p4 H4 t4 s4 => ?_⟩
        · rw [hq_len]
          simp only [List.length_cons, List.length_nil] at h4 ⊢
          omega
        · have eb : m = bi (c || b) := by
            have a1 := m2 (bi c) (by simp)
            have a2 := m2 (bi b) (by simp)
            have a3 : m = bi c ∨ m = bi b := by simpa using m1
            cases b <;> cases c <;> simp [bi] at a1 a2 a3 ⊢ <;> omega
          have t4 : SqT K H4 p4 (hq s ++ [.int (m)]) := t4
          rw [eb, ← hq_cons] at t4
          exact ⟨p4, _, (c || b) :: s, rfl, t4, h2', h3, by simp only [List.length_cons] at h4 ⊢; omega, (((s1.trans s2).trans s3).trans s5).trans s4⟩
      refine ⟨_, rfl, rfl, _, rfl, iteW (w := w) (u := .sm) rfl (fun e3 => ?_) (fun e3 => ?_)⟩
      · have e : w = .sm := e3
        subst e
        obtain ⟨b, c, s, rfl⟩ := ht_jn .sm h2
        rw [hq_cons, hq_cons] at h1
        refine ⟨_, rfl, 2, rfl, _, rfl, l, _, rfl, h1, fun p1 H2 t2 s2 => ?_⟩
        rw [cut2.1] at t2
        have h1' := Same.tup s2 h1
        refine ⟨_, rfl, 2, rfl, l, _, -2, .int (bi c), rfl, rfl, h1', at_last2, _, rfl, 1, rfl, l, _, -1, .int (bi b), rfl, rfl, h1', atI_last _ _, rfl, .inr ⟨_, rfl, by show 1 ≤ sizeLine; decide, fun p3 n3 => ?_⟩⟩
        have s3 := same_upd (o := .tup [.int (if decide (V.int (bi c) = V.int (bi b)) = true then 1 else 0)]) n3
        refine ⟨p1, p3, _, _, rfl, rfl, Same.tup s3 t2, sqt_upd, ?_, fun p4 H4 t4 s4 => ?_⟩
        · rw [hq_len]
          simp only [List.length_cons, List.length_nil] at h4 ⊢
          omega
        · have eb : (if decide (V.int (bi c) = V.int (bi b)) = true then (1 : Int) else 0) = bi (c == b) := by cases b <;> cases c <;> rfl
          have t4 : SqT K H4 p4 (hq s ++ [.int (if decide (V.int (bi c) = V.int (bi b)) = true then 1 else 0)]) := t4
          rw [eb, ← hq_cons] at t4
          exact ⟨p4, _, (c == b) :: s, rfl, t4, h2', h3, by simp only [List.length_cons] at h4 ⊢; omega, ((s1.trans s2).trans s3).trans s4⟩
      have hf : Lf cs w := by
        cases w with
        | lt c => exact .lt (hY.lt c (List.mem_of_getElem? hw))
        | yes => exact .yes
        | no => exact .no
        | nt => exact absurd rfl e
        | an => exact absurd rfl e1
        | orr => exact absurd rfl e2
        | sm => exact absurd rfl e3
      have es : stp (vl cs bs) st w = lv (vl cs bs) w :: st := by cases hf <;> rfl
      rw [es] at h2' h3
      have fin : ∀ (H2 : Hp) (p : Addr) (z : Int), z = bi (lv (vl cs bs) w) → Same H1 H2 → SqT K H2 p [.int z] → rCatS K (.ref l) (.ref p) H2 (fun x H3 => ∃ (l : Addr) (x4 : Option V) (st : List Bool), [some (.str (tx cs)), some (.ref a), some (.str (wtx bs)), some x, some (wv w)] = [some (.str (tx cs)), some (.ref a), some (.str (wtx bs)), some (.ref l), x4] ∧ SqT K H3 l (hq st) ∧ ht st.length (ws.drop (i + 1)) = some 1 ∧ run (vl cs bs) st (ws.drop (i + 1)) = [sval (vl cs bs) ws] ∧ st.length ≤ i + 1 ∧ Same H H3) := by
        intro H2 p z ez s2 hp
        subst ez
        refine ⟨l, p, _, _, rfl, rfl, Same.tup s2 h1, hp, ?_, fun p4 H4 t4 s4 => ?_⟩
        · rw [hq_len]
          show st.length + 1 ≤ 100000
          omega
        · rw [← hq_cons] at t4
          exact ⟨p4, _, lv (vl cs bs) w :: st, rfl, t4, h2', h3, by rw [List.length_cons]; omega, (s1.trans s2).trans s4⟩
      have yn : ∀ (k : Bool), (k = decide (w = .yes)) → w = .yes ∨ w = .no → (if k = true then (1 : Int) else 0) = bi (lv (vl cs bs) w) := by
        intro k hk h
        rcases h with rfl | rfl <;> rw [hk] <;> rfl
      refine ⟨_, rfl, rfl, _, rfl, iteW (w := w) (u := .yes) rfl (fun e4 => ?_) (fun e4 => ?_)⟩
      · have e : w = .yes := e4
        refine ⟨_, rfl, _, rfl, rfl, .inr ⟨_, rfl, by show 1 ≤ sizeLine; decide, fun p n => ?_⟩⟩
        exact fin _ p _ (yn _ (wd_eq w .yes rfl) (.inl e)) (same_upd n) sqt_upd
      refine ⟨_, rfl, rfl, _, rfl, iteW (w := w) (u := .no) rfl (fun e5 => ?_) (fun e5 => ?_)⟩
      · have e : w = .no := e5
        refine ⟨_, rfl, _, rfl, rfl, .inr ⟨_, rfl, by show 1 ≤ sizeLine; decide, fun p n => ?_⟩⟩
        exact fin _ p _ (yn _ (wd_eq w .yes rfl) (.inr e)) (same_upd n) sqt_upd
      cases hf with
      | yes => exact absurd rfl e4
      | no => exact absurd rfl e5
      | @lt c hc =>
        obtain ⟨j, g1, g2, g3, g4⟩ := letter_at hc
        have hj : j < bs.length := by
          rw [← hl]
          exact (List.getElem?_eq_some_iff.mp g2).1
        have hb : bs[j]? = some (vl cs bs c) := by
          unfold vl
          rw [g1, List.getD_eq_getElem?_getD, List.getElem?_eq_getElem hj]
          rfl
        refine ⟨_, rfl, _, rfl, _, rfl, rfl, _, rfl, tx cs, sg c, rfl, rfl, wtx bs, (j : Int), bc (vl cs bs c), rfl, ?_, ?_, ?_, sg (bc (vl cs bs c)), bi (vl cs bs c), rfl, bc_int _, by show 1 ≤ 640; decide, by show 1 ≤ sizeLine; decide, fun p n => fin _ p _ rfl (same_upd n) sqt_upd⟩
        · rw [g3]
        · show (bs.map bc).length ≤ sizeLine
          rw [List.length_map]
          exact Nat.le_trans h100 (by decide)
        · refine atI_nat ?_
          show (bs.map bc)[j]? = _
          rw [List.getElem?_map, hb]
          rfl
    · rintro σ H1 ⟨l, x4, st, rfl, h1, h2, h3, h4, s1⟩
      rw [List.length_map, List.drop_length] at h2 h3
      have h3 : st = [sval (vl cs bs) ws] := h3
      subst h3
      refine ⟨_, rfl, l, _, 0, .int (bi (sval (vl cs bs) ws)), rfl, rfl, h1, rfl, rfl, ?_⟩
      have : decide (V.int (bi (sval (vl cs bs) ws)) = V.int 1) = sval (vl cs bs) ws := by cases sval (vl cs bs) ws <;> rfl
      rw [this]
      exact q _ s1
end
end B

namespace B
open PySem PySem.Spec PyProof.Rows L2

def sp_l_refusal (K : PySem.W.Frag) : SpE := fun x cls d vs H Q _ => ∃ (C : Addr) (nm : Str), cls = .ref C ∧ vs = [.ref x] ∧ DOk H d ∧ ((XIs K "TooLong" C ∧ nm = "TooLong") ∨ (XIs K "TooMany" C ∧ nm = "TooMany")) ∧ ∀ (H' : Hp) (p : Addr), H' p = some (.lst [.str nm]) → Same H H' → Q (.ref p) H'

section
variable {P : Program} {w : World} {K : PySem.W.Frag} {mg : Str → Option Value} {base : Heap}
theorem ok_l_refusal (T : Tx K mg) (U : Unl P base) : FnX P w K mg base 35 T.l_refusal.f T.l_refusal.fd ["_law_e"] (sp_l_refusal K) := by
  refine fun_okX T.l_refusal.F sc_l_refusal (fun ea cls d vs H Q E h => ?_) (fun cdv A outer s H vs Q E ea eo cls d hr hq1 hz hf h => ?_)
  · obtain ⟨C, nm, rfl, rfl, hd, hC, q⟩ := h
    rfl
  · obtain ⟨C, nm, rfl, rfl, hd, hC, q⟩ := h
    refine ⟨_, (pss_cons (ps_set (i := 1) sc_l_refusal.nd rfl (.inl rfl) (pe_lst (pa_cons (pe_callB (call_isE (a := ea) (List.mem_singleton.mpr rfl) hz hf) (by rfl) T.m_isinstance (by decide +kernel) (pa_cons (pv 0) (pa_cons (pe_glob (v := .ref T.x_TooLong.C) (by rfl) T.x_TooLong.g rfl) pa_nil))) (pa_cons (pe_callB (call_isE (a := ea) (List.mem_singleton.mpr rfl) hz hf) (by rfl) T.m_isinstance (by decide +kernel) (pa_cons (pv 0) (pa_cons (pe_glob (v := .ref T.x_TooMany.C) (by rfl) T.x_TooMany.g rfl) pa_nil))) (pa_cons (pe_callB (call_isE (a := ea) (List.mem_singleton.mpr rfl) hz hf) (by rfl) T.m_isinstance (by decide +kernel) (pa_cons (pv 0) (pa_cons (pe_glob (v := .ref T.x_NoWorld.C) (by rfl) T.x_NoWorld.g rfl) pa_nil))) pa_nil)))))
      (pss_cons (ps_set (i := 1) sc_l_refusal.nd rfl (.inl rfl) (pe_op op_cat (pv 1) (pe_lst (pa_cons (pe_callB (call_isE (a := ea) (List.mem_singleton.mpr rfl) hz hf) (by rfl) T.m_isinstance (by decide +kernel) (pa_cons (pv 0) (pa_cons (pe_glob (v := .ref T.x_NotAlike.C) (by rfl) T.x_NotAlike.g rfl) pa_nil))) (pa_cons (pe_callB (call_isE (a := ea) (List.mem_singleton.mpr rfl) hz hf) (by rfl) T.m_isinstance (by decide +kernel) (pa_cons (pv 0) (pa_cons (pe_glob (v := .ref T.x_Unfair.C) (by rfl) T.x_Unfair.g rfl) pa_nil))) (pa_cons (pe_callB (call_isE (a := ea) (List.mem_singleton.mpr rfl) hz hf) (by rfl) T.m_isinstance (by decide +kernel) (pa_cons (pv 0) (pa_cons (pe_glob (v := .ref T.x_Fair.C) (by rfl) T.x_Fair.g rfl) pa_nil))) pa_nil))))))
      (pss_cons (ps_set (i := 1) sc_l_refusal.nd rfl (.inl rfl) (pe_op op_cat (pv 1) (pe_lst (pa_cons (pe_callB (call_isE (a := ea) (List.mem_singleton.mpr rfl) hz hf) (by rfl) T.m_isinstance (by decide +kernel) (pa_cons (pv 0) (pa_cons (pe_glob (v := .ref T.x_NoBet.C) (by rfl) T.x_NoBet.g rfl) pa_nil))) (pa_cons (pe_callB (call_isE (a := ea) (List.mem_singleton.mpr rfl) hz hf) (by rfl) T.m_isinstance (by decide +kernel) (pa_cons (pv 0) (pa_cons (pe_glob (v := .ref T.x_NoHolder.C) (by rfl) T.x_NoHolder.g rfl) pa_nil))) (pa_cons (pe_callB (call_isE (a := ea) (List.mem_singleton.mpr rfl) hz hf) (by rfl) T.m_isinstance (by decide +kernel) (pa_cons (pv 0) (pa_cons (pe_glob (v := .ref T.x_NoStake.C) (by rfl) T.x_NoStake.g rfl) pa_nil))) pa_nil))))))
      (pss_cons (ps_set (i := 1) sc_l_refusal.nd rfl (.inl rfl) (pe_op op_cat (pv 1) (pe_lst (pa_cons (pe_callB (call_isE (a := ea) (List.mem_singleton.mpr rfl) hz hf) (by rfl) T.m_isinstance (by decide +kernel) (pa_cons (pv 0) (pa_cons (pe_glob (v := .ref T.x_NoTicket.C) (by rfl) T.x_NoTicket.g rfl) pa_nil))) (pa_cons (pe_callB (call_isE (a := ea) (List.mem_singleton.mpr rfl) hz hf) (by rfl) T.m_isinstance (by decide +kernel) (pa_cons (pv 0) (pa_cons (pe_glob (v := .ref T.x_NoCover.C) (by rfl) T.x_NoCover.g rfl) pa_nil))) (pa_cons (pe_callB (call_isE (a := ea) (List.mem_singleton.mpr rfl) hz hf) (by rfl) T.m_isinstance (by decide +kernel) (pa_cons (pv 0) (pa_cons (pe_glob (v := .ref T.x_NoSaying.C) (by rfl) T.x_NoSaying.g rfl) pa_nil))) pa_nil))))))
      (pss_cons (ps_set (i := 1) sc_l_refusal.nd rfl (.inl rfl) (pe_op op_cat (pv 1) (pe_lst (pa_cons (pe_callB (call_isE (a := ea) (List.mem_singleton.mpr rfl) hz hf) (by rfl) T.m_isinstance (by decide +kernel) (pa_cons (pv 0) (pa_cons (pe_glob (v := .ref T.x_NoDeed.C) (by rfl) T.x_NoDeed.g rfl) pa_nil))) (pa_cons (pe_callB (call_isE (a := ea) (List.mem_singleton.mpr rfl) hz hf) (by rfl) T.m_isinstance (by decide +kernel) (pa_cons (pv 0) (pa_cons (pe_glob (v := .ref T.x_NoStep.C) (by rfl) T.x_NoStep.g rfl) pa_nil))) (pa_cons (pe_callB (call_isE (a := ea) (List.mem_singleton.mpr rfl) hz hf) (by rfl) T.m_isinstance (by decide +kernel) (pa_cons (pv 0) (pa_cons (pe_glob (v := .ref T.x_NoText.C) (by rfl) T.x_NoText.g rfl) pa_nil))) pa_nil))))))
      (pss_cons (ps_set (i := 2) sc_l_refusal.nd rfl (.inl rfl) (pe_lst (pa_cons pe_str (pa_cons pe_str (pa_cons pe_str (pa_cons pe_str (pa_cons pe_str (pa_cons pe_str (pa_cons pe_str (pa_cons pe_str pa_nil))))))))))
      (pss_cons (ps_set (i := 2) sc_l_refusal.nd rfl (.inl rfl) (pe_op op_cat (pv 2) (pe_lst (pa_cons pe_str (pa_cons pe_str (pa_cons pe_str (pa_cons pe_str (pa_cons pe_str (pa_cons pe_str (pa_cons pe_str pa_nil))))))))))
      (pss_cons (ps_if (PW.pt (pw_or (pt_not (pt_val (pe_callB (call_isE (a := ea) (List.mem_singleton.mpr rfl) hz hf) (by rfl) T.m_isinstance (by decide +kernel) (pa_cons (pv 0) (pa_cons (pe_glob (v := .ref T.x_StallError.C) (by rfl) T.x_StallError.g rfl) pa_nil))))) (pw_or1 (pt_not (pt_val (pe_callB (call_isE (a := ea) (List.mem_singleton.mpr rfl) hz hf) (by rfl) T.m_isinstance (by decide +kernel) (pa_cons (pv 0) (pa_cons (pe_bltn (v := .ty "ValueError") (u := .type "ValueError") (by rfl) T.m_ValueError (by decide +kernel) rfl) pa_nil)))))))) (pss_one (ps_ret (pe_lst (pa_cons pe_str pa_nil)))) pss_nil)
      (pss_one (ps_ret (pe_lcX (own := [("_law_word", 3), ("_law_mark", 4)]) (g := (gTup K 2 (gCons (gName 3) (gCons (gName 4) gNil)))) hq1 (List.mem_singleton.mpr rfl) sc_l_refusal.nd (pi_zipX hq1 (List.mem_singleton.mpr rfl) (by rfl) T.m_zip (pa_cons (pv 2) (pa_cons (pv 1) pa_nil))) (blkOk_by (own := [("_law_word", 3), ("_law_mark", 4)]) (N := N_l_refusal) (sc := defScope s_l_refusal) (by decide +kernel)) (fun _ _ _ _ _ => (pg_tupX hq1 (pgs_cons (pg_name (i := 3) sc_l_refusal.nd rfl (.inl rfl)) (pgs_cons (pg_name (i := 4) sc_l_refusal.nd rfl (.inl rfl)) pgs_nil)))) (fun _ _ _ _ _ => (pts_one (pt_val (pv 4)))) (fun _ _ _ _ _ => (pv 3))))))))))))), ?_⟩
    rcases hC with ⟨hX, rfl⟩ | ⟨hX, rfl⟩
    · obtain rfl := hX.eq T.x_TooLong.ns
      refine ⟨_, rfl, T.x_TooLong.C, _, _, true, rfl, hd, T.x_TooLong.ec, rfl, .own _, kit_own T.x_TooLong.ic T.x_TooLong.ty T.x_TooLong.me T.x_TooLong.me, _, rfl, T.x_TooLong.C, _, _, false, rfl, hd, T.x_TooLong.ec, rfl, .own _, kit_own T.x_TooMany.ic T.x_TooMany.ty T.x_TooLong.me T.i_TooLong_TooMany, _, rfl, T.x_TooLong.C, _, _, false, rfl, hd, T.x_TooLong.ec, rfl, .own _, kit_own T.x_NoWorld.ic T.x_NoWorld.ty T.x_TooLong.me T.i_TooLong_NoWorld, by show 3 ≤ sizeLine; decide, fun L0 n0 => ?_⟩
      have s0 := same_upd (o := .lst [.bl true, .bl false, .bl false]) n0
      have S0 := s0
      refine ⟨_, rfl, _, rfl, T.x_TooLong.C, _, _, false, rfl, (Same.dok S0 hd), T.x_TooLong.ec, rfl, .own _, kit_own T.x_NotAlike.ic T.x_NotAlike.ty T.x_TooLong.me T.i_TooLong_NotAlike, _, rfl, T.x_TooLong.C, _, _, false, rfl, (Same.dok S0 hd), T.x_TooLong.ec, rfl, .own _, kit_own T.x_Unfair.ic T.x_Unfair.ty T.x_TooLong.me T.i_TooLong_Unfair, _, rfl, T.x_TooLong.C, _, _, false, rfl, (Same.dok S0 hd), T.x_TooLong.ec, rfl, .own _, kit_own T.x_Fair.ic T.x_Fair.ty T.x_TooLong.me T.i_TooLong_Fair, by show 3 ≤ sizeLine; decide, fun G1 m1 => ?_⟩
      have u1 := same_upd (o := .lst [.bl false, .bl false, .bl false]) m1
      refine ⟨L0, G1, [.bl true, .bl false, .bl false], [.bl false, .bl false, .bl false], rfl, rfl, u1 _ _ upd_same, upd_same, by show 6 ≤ sizeLine; decide, fun L1 n1 => ?_⟩
      have s1 := same_upd (o := .lst [.bl true, .bl false, .bl false, .bl false, .bl false, .bl false]) n1
      have S1 := (S0.trans u1).trans s1
      refine ⟨_, rfl, _, rfl, T.x_TooLong.C, _, _, false, rfl, (Same.dok S1 hd), T.x_TooLong.ec, rfl, .own _, kit_own T.x_NoBet.ic T.x_NoBet.ty T.x_TooLong.me T.i_TooLong_NoBet, _, rfl, T.x_TooLong.C, _, _, false, rfl, (Same.dok S1 hd), T.x_TooLong.ec, rfl, .own _, kit_own T.x_NoHolder.ic T.x_NoHolder.ty T.x_TooLong.me T.i_TooLong_NoHolder, _, rfl, T.x_TooLong.C, _, _, false, rfl, (Same.dok S1 hd), T.x_TooLong.ec, rfl, .own _, kit_own T.x_NoStake.ic T.x_NoStake.ty T.x_TooLong.me T.i_TooLong_NoStake, by show 3 ≤ sizeLine; decide, fun G2 m2 => ?_⟩
      have u2 := same_upd (o := .lst [.bl false, .bl false, .bl false]) m2
      refine ⟨L1, G2, [.bl true, .bl false, .bl false, .bl false, .bl false, .bl false], [.bl false, .bl false, .bl false], rfl, rfl, u2 _ _ upd_same, upd_same, by show 9 ≤ sizeLine; decide, fun L2 n2 => ?_⟩
      have s2 := same_upd (o := .lst [.bl true, .bl false, .bl false, .bl false, .bl false, .bl false, .bl false, .bl false, .bl false]) n2
      have S2 := (S1.trans u2).trans s2
      refine ⟨_, rfl, _, rfl, T.x_TooLong.C, _, _, false, rfl, (Same.dok S2 hd), T.x_TooLong.ec, rfl, .own _, kit_own T.x_NoTicket.ic T.x_NoTicket.ty T.x_TooLong.me T.i_TooLong_NoTicket, _, rfl, T.x_TooLong.C, _, _, false, rfl, (Same.dok S2 hd), T.x_TooLong.ec, rfl, .own _, kit_own T.x_NoCover.ic T.x_NoCover.ty T.x_TooLong.me T.i_TooLong_NoCover, _, rfl, T.x_TooLong.C, _, _, false, rfl, (Same.dok S2 hd), T.x_TooLong.ec, rfl, .own _, kit_own T.x_NoSaying.ic T.x_NoSaying.ty T.x_TooLong.me T.i_TooLong_NoSaying, by show 3 ≤ sizeLine; decide, fun G3 m3 => ?_⟩
      have u3 := same_upd (o := .lst [.bl false, .bl false, .bl false]) m3
      refine ⟨L2, G3, [.bl true, .bl false, .bl false, .bl false, .bl false, .bl false, .bl false, .bl false, .bl false], [.bl false, .bl false, .bl false], rfl, rfl, u3 _ _ upd_same, upd_same, by show 12 ≤ sizeLine; decide, fun L3 n3 => ?_⟩
      have s3 := same_upd (o := .lst [.bl true, .bl false, .bl false, .bl false, .bl false, .bl false, .bl false, .bl false, .bl false, .bl false, .bl false, .bl false]) n3
      have S3 := (S2.trans u3).trans s3
      refine ⟨_, rfl, _, rfl, T.x_TooLong.C, _, _, false, rfl, (Same.dok S3 hd), T.x_TooLong.ec, rfl, .own _, kit_own T.x_NoDeed.ic T.x_NoDeed.ty T.x_TooLong.me T.i_TooLong_NoDeed, _, rfl, T.x_TooLong.C, _, _, false, rfl, (Same.dok S3 hd), T.x_TooLong.ec, rfl, .own _, kit_own T.x_NoStep.ic T.x_NoStep.ty T.x_TooLong.me T.i_TooLong_NoStep, _, rfl, T.x_TooLong.C, _, _, false, rfl, (Same.dok S3 hd), T.x_TooLong.ec, rfl, .own _, kit_own T.x_NoText.ic T.x_NoText.ty T.x_TooLong.me T.i_TooLong_NoText, by show 3 ≤ sizeLine; decide, fun G4 m4 => ?_⟩
      have u4 := same_upd (o := .lst [.bl false, .bl false, .bl false]) m4
      refine ⟨L3, G4, [.bl true, .bl false, .bl false, .bl false, .bl false, .bl false, .bl false, .bl false, .bl false, .bl false, .bl false, .bl false], [.bl false, .bl false, .bl false], rfl, rfl, u4 _ _ upd_same, upd_same, by show 15 ≤ sizeLine; decide, fun L4 n4 => ?_⟩
      have s4 := same_upd (o := .lst [.bl true, .bl false, .bl false, .bl false, .bl false, .bl false, .bl false, .bl false, .bl false, .bl false, .bl false, .bl false, .bl false, .bl false, .bl false]) n4
      have S4 := (S3.trans u4).trans s4
      refine ⟨by show 8 ≤ sizeLine; decide, fun W0 p0 => ?_⟩
      have v0 := same_upd (o := .lst [.str "TooLong", .str "TooMany", .str "NoWorld", .str "NotAlike", .str "Unfair", .str "Fair", .str "NoBet", .str "NoHolder"]) p0
      refine ⟨_, rfl, by show 7 ≤ sizeLine; decide, fun W1 p1 => ?_⟩
      have v1 := same_upd (o := .lst [.str "NoStake", .str "NoTicket", .str "NoCover", .str "NoSaying", .str "NoDeed", .str "NoStep", .str "NoText"]) p1
      refine ⟨W0, W1, [.str "TooLong", .str "TooMany", .str "NoWorld", .str "NotAlike", .str "Unfair", .str "Fair", .str "NoBet", .str "NoHolder"], [.str "NoStake", .str "NoTicket", .str "NoCover", .str "NoSaying", .str "NoDeed", .str "NoStep", .str "NoText"], rfl, rfl, v1 _ _ upd_same, upd_same, by show 15 ≤ sizeLine; decide, fun W2 p2 => ?_⟩
      have v2 := same_upd (o := .lst [.str "TooLong", .str "TooMany", .str "NoWorld", .str "NotAlike", .str "Unfair", .str "Fair", .str "NoBet", .str "NoHolder", .str "NoStake", .str "NoTicket", .str "NoCover", .str "NoSaying", .str "NoDeed", .str "NoStep", .str "NoText"]) p2
      have V2 := v0.trans (v1.trans v2)
      have S5 := S4.trans V2
      refine ⟨_, rfl, T.x_TooLong.C, _, _, true, rfl, Same.dok S5 hd, T.x_TooLong.ec, rfl, .own _, kit_own T.x_StallError.ic T.x_StallError.ty T.x_TooLong.me T.i_TooLong_StallError, _, rfl, iteF ?_⟩
      refine ⟨_, rfl, T.x_TooLong.C, _, _, true, rfl, Same.dok S5 hd, T.x_TooLong.ec, rfl, .ty _, kit_val (by decide +kernel) T.v_TooLong, _, rfl, iteF ?_⟩
      refine ⟨_, rfl, _, rfl, W2, L4, [.str "TooLong", .str "TooMany", .str "NoWorld", .str "NotAlike", .str "Unfair", .str "Fair", .str "NoBet", .str "NoHolder", .str "NoStake", .str "NoTicket", .str "NoCover", .str "NoSaying", .str "NoDeed", .str "NoStep", .str "NoText"], [.bl true, .bl false, .bl false, .bl false, .bl false, .bl false, .bl false, .bl false, .bl false, .bl false, .bl false, .bl false, .bl false, .bl false, .bl false], rfl, .inl (.inl upd_same), .inl (.inl (V2 _ _ upd_same)), fun D nD => ?_⟩
      refine lcp_it (K := K) (walk_zipG (xs := [V.str "TooLong", V.str "TooMany", V.str "NoWorld", V.str "NotAlike", V.str "Unfair", V.str "Fair", V.str "NoBet", V.str "NoHolder", V.str "NoStake", V.str "NoTicket", V.str "NoCover", V.str "NoSaying", V.str "NoDeed", V.str "NoStep", V.str "NoText"]) (ys := [V.bl true, V.bl false, V.bl false, V.bl false, V.bl false, V.bl false, V.bl false, V.bl false, V.bl false, V.bl false, V.bl false, V.bl false, V.bl false, V.bl false, V.bl false])) (fun i => if i = 0 then some () else none) (fun _ v _ => v = .str "TooLong") (fun _ _ _ _ _ h => h) nD (by show 15 < sizeLine; decide) (fun H' s => ⟨⟨W2, rfl, .inl (.inl (s _ _ upd_same))⟩, ⟨L4, rfl, .inl (.inl (s _ _ (V2 _ _ upd_same)))⟩⟩) ?_ ?_
      · rintro i v H2 _ hi s6 ⟨tq, y, z, rfl, nT, rfl, hy, hz⟩ Y N hYes hNo
        have hi : i < 15 := hi
        have sT := same_upd (o := .tup [y, z]) nT
        have hz : (flags15 0)[i]? = some z := hz
        rw [flags15_at hi] at hz
        cases hz
        refine ⟨tq, _, rfl, sqt_upd, rfl, _, _, rfl, _, _, rfl, rfl, rfl, ?_⟩
        refine ⟨_, rfl, _, rfl, ite2 (fun e => ?_) (fun e => ?_)⟩
        · have e : i = 0 := of_decide_eq_true e
          subst e
          cases hy
          exact ⟨_, rfl, hYes _ _ () sT (if_pos rfl) rfl⟩
        · exact hNo _ sT (if_neg fun e2 => e (decide_eq_true e2))
      intro H2 ys h2 f2 s6
      have e2 : (List.range 15).filterMap (fun i => if i = 0 then some () else none) = [()] := by decide
      have f2 : F2 (fun v _ => v = .str "TooLong") ys ((List.range 15).filterMap (fun i => if i = 0 then some () else none)) := f2
      rw [e2] at f2
      have ey : ys = [.str "TooLong"] := by
        cases f2 with
        | cons a b => cases b; rw [a]
      rw [ey] at h2
      exact q _ D h2 (S5.trans s6)
    · obtain rfl := hX.eq T.x_TooMany.ns
      refine ⟨_, rfl, T.x_TooMany.C, _, _, false, rfl, hd, T.x_TooMany.ec, rfl, .own _, kit_own T.x_TooLong.ic T.x_TooLong.ty T.x_TooMany.me T.i_TooMany_TooLong, _, rfl, T.x_TooMany.C, _, _, true, rfl, hd, T.x_TooMany.ec, rfl, .own _, kit_own T.x_TooMany.ic T.x_TooMany.ty T.x_TooMany.me T.x_TooMany.me, _, rfl, T.x_TooMany.C, _, _, false, rfl, hd, T.x_TooMany.ec, rfl, .own _, kit_own T.x_NoWorld.ic T.x_NoWorld.ty T.x_TooMany.me T.i_TooMany_NoWorld, by show 3 ≤ sizeLine; decide, fun L0 n0 => ?_⟩
      have s0 := same_upd (o := .lst [.bl false, .bl true, .bl false]) n0
      have S0 := s0
      refine ⟨_, rfl, _, rfl, T.x_TooMany.C, _, _, false, rfl, (Same.dok S0 hd), T.x_TooMany.ec, rfl, .own _, kit_own T.x_NotAlike.ic T.x_NotAlike.ty T.x_TooMany.me T.i_TooMany_NotAlike, _, rfl, T.x_TooMany.C, _, _, false, rfl, (Same.dok S0 hd), T.x_TooMany.ec, rfl, .own _, kit_own T.x_Unfair.ic T.x_Unfair.ty T.x_TooMany.me T.i_TooMany_Unfair, _, rfl, T.x_TooMany.C, _, _, false, rfl, (Same.dok S0 hd), T.x_TooMany.ec, rfl, .own _, kit_own T.x_Fair.ic T.x_Fair.ty T.x_TooMany.me T.i_TooMany_Fair, by show 3 ≤ sizeLine; decide, fun G1 m1 => ?_⟩
      have u1 := same_upd (o := .lst [.bl false, .bl false, .bl false]) m1
      refine ⟨L0, G1, [.bl false, .bl true, .bl false], [.bl false, .bl false, .bl false], rfl, rfl, u1 _ _ upd_same, upd_same, by show 6 ≤ sizeLine; decide, fun L1 n1 => ?_⟩
      have s1 := same_upd (o := .lst [.bl false, .bl true, .bl false, .bl false, .bl false, .bl false]) n1
      have S1 := (S0.trans u1).trans s1
      refine ⟨_, rfl, _, rfl, T.x_TooMany.C, _, _, false, rfl, (Same.dok S1 hd), T.x_TooMany.ec, rfl, .own _, kit_own T.x_NoBet.ic T.x_NoBet.ty T.x_TooMany.me T.i_TooMany_NoBet, _, rfl, T.x_TooMany.C, _, _, false, rfl, (Same.dok S1 hd), T.x_TooMany.ec, rfl, .own _, kit_own T.x_NoHolder.ic T.x_NoHolder.ty T.x_TooMany.me T.i_TooMany_NoHolder, _, rfl, T.x_TooMany.C, _, _, false, rfl, (Same.dok S1 hd), T.x_TooMany.ec, rfl, .own _, kit_own T.x_NoStake.ic T.x_NoStake.ty T.x_TooMany.me T.i_TooMany_NoStake, by show 3 ≤ sizeLine; decide, fun G2 m2 => ?_⟩
      have u2 := same_upd (o := .lst [.bl false, .bl false, .bl false]) m2
      refine ⟨L1, G2, [.bl false, .bl true, .bl false, .bl false, .bl false, .bl false], [.bl false, .bl false, .bl false], rfl, rfl, u2 _ _ upd_same, upd_same, by show 9 ≤ sizeLine; decide, fun L2 n2 => ?_⟩
      have s2 := same_upd (o := .lst [.bl false, .bl true, .bl false, .bl false, .bl false, .bl false, .bl false, .bl false, .bl false]) n2
      have S2 := (S1.trans u2).trans s2
      refine ⟨_, rfl, _, rfl, T.x_TooMany.C, _, _, false, rfl, (Same.dok S2 hd), T.x_TooMany.ec, rfl, .own _, kit_own T.x_NoTicket.ic T.x_NoTicket.ty T.x_TooMany.me T.i_TooMany_NoTicket, _, rfl, T.x_TooMany.C, _, _, false, rfl, (Same.dok S2 hd), T.x_TooMany.ec, rfl, .own _, kit_own T.x_NoCover.ic T.x_NoCover.ty T.x_TooMany.me T.i_TooMany_NoCover, _, rfl, T.x_TooMany.C, _, _, false, rfl, (Same.dok S2 hd), T.x_TooMany.ec, rfl, .own _, kit_own T.x_NoSaying.ic T.x_NoSaying.ty T.x_TooMany.me T.i_TooMany_NoSaying, by show 3 ≤ sizeLine; decide, fun G3 m3 => ?_⟩
      have u3 := same_upd (o := .lst [.bl false, .bl false, .bl false]) m3
      refine ⟨L2, G3, [.bl false, .bl true, .bl false, .bl false, .bl false, .bl false, .bl false, .bl false, .bl false], [.bl false, .bl false, .bl false], rfl, rfl, u3 _ _ upd_same, upd_same, by show 12 ≤ sizeLine; decide, fun L3 n3 => ?_⟩
      have s3 := same_upd (o := .lst [.bl false, .bl true, .bl false, .bl false, .bl false, .bl false, .bl false, .bl false, .bl false, .bl false, .bl false, .bl false]) n3
      have S3 := (S2.trans u3).trans s3
      refine ⟨_, rfl, _, rfl, T.x_TooMany.C, _, _, false, rfl, (Same.dok S3 hd), T.x_TooMany.ec, rfl, .own _, kit_own T.x_NoDeed.ic T.x_NoDeed.ty T.x_TooMany.me T.i_TooMany_NoDeed, _, rfl, T.x_TooMany.C, _, _, false, rfl, (Same.dok S3 hd), T.x_TooMany.ec, rfl, .own _, kit_own T.x_NoStep.ic T.x_NoStep.ty T.x_TooMany.me T.i_TooMany_NoStep, _, rfl, T.x_TooMany.C, _, _, false, rfl, (Same.dok S3 hd), T.x_TooMany.ec, rfl, .own _, kit_own T.x_NoText.ic T.x_NoText.ty T.x_TooMany.me T.i_TooMany_NoText, by show 3 ≤ sizeLine; decide, fun G4 m4 => ?_⟩
      have u4 := same_upd (o := .lst [.bl false, .bl false, .bl false]) m4
      refine ⟨L3, G4, [.bl false, .bl true, .bl false, .bl false, .bl false, .bl false, .bl false, .bl false, .bl false, .bl false, .bl false, .bl false], [.bl false, .bl false, .bl false], rfl, rfl, u4 _ _ upd_same, upd_same, by show 15 ≤ sizeLine; decide, fun L4 n4 => ?_⟩
      have s4 := same_upd (o := .lst [.bl false, .bl true, .bl false, .bl false, .bl false, .bl false, .bl false, .bl false, .bl false, .bl false, .bl false, .bl false, .bl false, .bl false, .bl false]) n4
      have S4 := (S3.trans u4).trans s4
      refine ⟨by show 8 ≤ sizeLine; decide, fun W0 p0 => ?_⟩
      have v0 := same_upd (o := .lst [.str "TooLong", .str "TooMany", .str "NoWorld", .str "NotAlike", .str "Unfair", .str "Fair", .str "NoBet", .str "NoHolder"]) p0
      refine ⟨_, rfl, by show 7 ≤ sizeLine; decide, fun W1 p1 => ?_⟩
      have v1 := same_upd (o := .lst [.str "NoStake", .str "NoTicket", .str "NoCover", .str "NoSaying", .str "NoDeed", .str "NoStep", .str "NoText"]) p1
      refine ⟨W0, W1, [.str "TooLong", .str "TooMany", .str "NoWorld", .str "NotAlike", .str "Unfair", .str "Fair", .str "NoBet", .str "NoHolder"], [.str "NoStake", .str "NoTicket", .str "NoCover", .str "NoSaying", .str "NoDeed", .str "NoStep", .str "NoText"], rfl, rfl, v1 _ _ upd_same, upd_same, by show 15 ≤ sizeLine; decide, fun W2 p2 => ?_⟩
      have v2 := same_upd (o := .lst [.str "TooLong", .str "TooMany", .str "NoWorld", .str "NotAlike", .str "Unfair", .str "Fair", .str "NoBet", .str "NoHolder", .str "NoStake", .str "NoTicket", .str "NoCover", .str "NoSaying", .str "NoDeed", .str "NoStep", .str "NoText"]) p2
      have V2 := v0.trans (v1.trans v2)
      have S5 := S4.trans V2
      refine ⟨_, rfl, T.x_TooMany.C, _, _, true, rfl, Same.dok S5 hd, T.x_TooMany.ec, rfl, .own _, kit_own T.x_StallError.ic T.x_StallError.ty T.x_TooMany.me T.i_TooMany_StallError, _, rfl, iteF ?_⟩
      refine ⟨_, rfl, T.x_TooMany.C, _, _, true, rfl, Same.dok S5 hd, T.x_TooMany.ec, rfl, .ty _, kit_val (by decide +kernel) T.v_TooMany, _, rfl, iteF ?_⟩
      refine ⟨_, rfl, _, rfl, W2, L4, [.str "TooLong", .str "TooMany", .str "NoWorld", .str "NotAlike", .str "Unfair", .str "Fair", .str "NoBet", .str "NoHolder", .str "NoStake", .str "NoTicket", .str "NoCover", .str "NoSaying", .str "NoDeed", .str "NoStep", .str "NoText"], [.bl false, .bl true, .bl false, .bl false, .bl false, .bl false, .bl false, .bl false, .bl false, .bl false, .bl false, .bl false, .bl false, .bl false, .bl false], rfl, .inl (.inl upd_same), .inl (.inl (V2 _ _ upd_same)), fun D nD => ?_⟩
      refine lcp_it (K := K) (walk_zipG (xs := [V.str "TooLong", V.str "TooMany", V.str "NoWorld", V.str "NotAlike", V.str "Unfair", V.str "Fair", V.str "NoBet", V.str "NoHolder", V.str "NoStake", V.str "NoTicket", V.str "NoCover", V.str "NoSaying", V.str "NoDeed", V.str "NoStep", V.str "NoText"]) (ys := [V.bl false, V.bl true, V.bl false, V.bl false, V.bl false, V.bl false, V.bl false, V.bl false, V.bl false, V.bl false, V.bl false, V.bl false, V.bl false, V.bl false, V.bl false])) (fun i => if i = 1 then some () else none) (fun _ v _ => v = .str "TooMany") (fun _ _ _ _ _ h => h) nD (by show 15 < sizeLine; decide) (fun H' s => ⟨⟨W2, rfl, .inl (.inl (s _ _ upd_same))⟩, ⟨L4, rfl, .inl (.inl (s _ _ (V2 _ _ upd_same)))⟩⟩) ?_ ?_
      · rintro i v H2 _ hi s6 ⟨tq, y, z, rfl, nT, rfl, hy, hz⟩ Y N hYes hNo
        have hi : i < 15 := hi
        have sT := same_upd (o := .tup [y, z]) nT
        have hz : (flags15 1)[i]? = some z := hz
        rw [flags15_at hi] at hz
        cases hz
        refine ⟨tq, _, rfl, sqt_upd, rfl, _, _, rfl, _, _, rfl, rfl, rfl, ?_⟩
        refine ⟨_, rfl, _, rfl, ite2 (fun e => ?_) (fun e => ?_)⟩
        · have e : i = 1 := of_decide_eq_true e
          subst e
          cases hy
          exact ⟨_, rfl, hYes _ _ () sT (if_pos rfl) rfl⟩
        · exact hNo _ sT (if_neg fun e2 => e (decide_eq_true e2))
      intro H2 ys h2 f2 s6
      have e2 : (List.range 15).filterMap (fun i => if i = 1 then some () else none) = [()] := by decide
      have f2 : F2 (fun v _ => v = .str "TooMany") ys ((List.range 15).filterMap (fun i => if i = 1 then some () else none)) := f2
      rw [e2] at f2
      have ey : ys = [.str "TooMany"] := by
        cases f2 with
        | cons a b => cases b; rw [a]
      rw [ey] at h2
      exact q _ D h2 (S5.trans s6)
end
end B

namespace B
open PySem PySem.Spec PyProof.Rows L2

def sp_l_due (K : PySem.W.Frag) : Sp := fun vs H Q _ => ∃ (B ct lt : Addr) (bvs cvs rvs : List V) (bds : List Bd) (C : List (List Wd)) (rows : List (List Bd)), vs = [.ref B, .ref ct, .ref lt] ∧ SqT K H B bvs ∧ F2 (BdAt K H) bvs bds ∧ SqT K H ct cvs ∧ F2 (WsAt K H) cvs C ∧ SqT K H lt rvs ∧ F2 (BsAt K H) rvs rows ∧ C.length = rows.length ∧ C.length ≤ 10 ∧ (∀ c ∈ C, c.length ≤ 100) ∧ (∀ row ∈ rows, ∀ x ∈ row, x.g.length ≤ 100) ∧ bds.length ≤ 50 ∧ (jlJ (C.zip rows)).length ≤ 50 ∧ (lonJ (C.zip rows) = true → ∀ H', Same H H' → Q (.str "TooLong") H') ∧ (lonJ (C.zip rows) = false → 12 < bds.length + (jlJ (C.zip rows)).length → ∀ H', Same H H' → Q (.str "TooMany") H') ∧ (lonJ (C.zip rows) = false → bds.length + (jlJ (C.zip rows)).length ≤ 12 → ∀ (H' : Hp) (p : Addr) (pvs : List V), SqT K H' p pvs → F2 (BdAt K H') pvs (bds ++ jlJ (C.zip rows)) → Same H H' → Q (.ref p) H')

section
variable {P : Program} {w : World} {K : PySem.W.Frag} {mg : Str → Option Value} {base : Heap}
theorem ok_l_due (T : Tx K mg) (U : Unl P base) : FnOk P w K mg base CX0 35 T.l_due.f T.l_due.fd ["_law_bids_here", "_law_cells_here", "_law_lists"] (sp_l_due K) := by
  refine T.l_due.F.ok sc_l_due (fun vs H Q E h => ?_) (fun cdv A outer s H vs Q E hr h => ?_)
  · obtain ⟨B, ct, lt, bvs, cvs, rvs, bds, C, rows, rfl, tB, fB, tC, fC, tR, fR, hl, h10, h32, h6, h50, j50, k1, k2, k3⟩ := h
    rfl
  · obtain ⟨B, ct, lt, bvs, cvs, rvs, bds, C, rows, rfl, tB, fB, tC, fC, tR, fR, hl, h10, h32, h6, h50, j50, k1, k2, k3⟩ := h
    refine ⟨_, (pss_cons (ps_set (i := 3) sc_l_due.nd rfl (.inl rfl) (pe_callTy call_list_of (by rfl) T.m_list (by decide +kernel) (pa_cons (pv 0) pa_nil)))
      (pss_cons (ps_set (i := 4) sc_l_due.nd rfl (.inl rfl) pe_bl)
      (pss_cons (ps_for PassesOwn.never rfl (pi_range1 (by rfl) T.m_range (pa_cons (pe_callB call_len_seq (by rfl) T.m_len (by decide +kernel) (pa_cons (pv 1) pa_nil)) pa_nil)) (pg_name (i := 5) sc_l_due.nd rfl (.inl rfl))
      (pss_one (ps_for PassesOwn.never rfl (pi_tup (pe_ix ix_tup (pv 2) (pv 5) (fun _ _ => rfl))) (pg_tup rfl (pgs_cons (pg_tup rfl (pgs_cons (pg_name (i := 6) sc_l_due.nd rfl (.inl rfl)) (pgs_cons (pg_name (i := 7) sc_l_due.nd rfl (.inl rfl)) pgs_nil))) (pgs_cons (pg_name (i := 8) sc_l_due.nd rfl (.inl rfl)) pgs_nil)))
      (pss_mid (ps_set (i := 4) sc_l_due.nd rfl (.inl rfl) (pe_or (pv 4) (pe_one (pe_cmpR op_gt (pe_op op_add (pe_op op_add (pe_callB call_len_seq (by rfl) T.m_len (by decide +kernel) (pa_cons (pv 7) pa_nil)) (pe_callB call_len_seq (by rfl) T.m_len (by decide +kernel) (pa_cons (pe_ix ix_tup (pv 1) (pv 5) (fun _ _ => rfl)) pa_nil))) pe_int) pe_int (nomark _)))))
      (pss_one (ps_expr (pe_bm PySem.F.plainAttrs_list PySem.F.slot_list_append PySem.F.type_list_append mt_append (pv 3) (pa_cons (pe_tup (pa_cons (pe_tup (pa_cons (pv 6) (pa_cons (pe_op op_catS (pe_op op_catS (pv 7) (pe_ix ix_tup (pv 1) (pv 5) (fun _ _ => rfl))) (pe_tup (pa_cons pe_str pa_nil))) pa_nil))) (pa_cons (pv 8) pa_nil))) pa_nil))))))))
      (pss_cons (ps_if (pt_val (pv 4)) (pss_one (ps_ret pe_str)) pss_nil)
      (pss_one (ps_ret (pe_ix ix_list (pe_lst (pa_cons (pe_callTy call_tuple_of (by rfl) T.m_tuple (by decide +kernel) (pa_cons (pv 3) pa_nil)) (pa_cons pe_str pa_nil))) (pe_callTy call_int1 (by rfl) T.m_int (by decide +kernel) (pa_cons (pe_cmpR op_gt (pe_callB call_len_seq (by rfl) T.m_len (by decide +kernel) (pa_cons (pv 3) pa_nil)) pe_int (nomark _)) pa_nil)) (fun _ _ => rfl)))))))), ?_⟩
    have lC := fC.len
    have lR := fR.len
    have lB := fB.len
    have lz : (C.zip rows).length = C.length := by rw [List.length_zip]; omega
    refine ⟨_, rfl, B, bvs, rfl, .inr tB, fun F nF => ?_⟩
    have s0 := same_upd (o := .lst bvs) nF
    refine ⟨_, rfl, ct, cvs, rfl, .inr (Same.tup s0 tC), (cvs.length : Int), rfl, by omega, by omega, for_range (lo := 0) (n := ((cvs.length : Nat) : Int).toNat) (fun i σ H' => ∃ (x5 x6 x7 x8 : Option V) (acc : List V), σ = [some (.ref B), some (.ref ct), some (.ref lt), some (.ref F), some (.bl (lonJ ((C.zip rows).take i))), x5, x6, x7, x8] ∧ H' F = some (.lst acc) ∧ F2 (BdAt K H') acc (bds ++ jlJ ((C.zip rows).take i)) ∧ Same H H') ⟨none, none, none, none, bvs, rfl, upd_same, ?_, s0⟩ ?_ ?_⟩
    · rw [List.take_zero]
      show F2 _ bvs (bds ++ [])
      rw [List.append_nil]
      exact bds_tk fB (Same.tk s0)
    · rintro i σ H1 hi ⟨x5, x6, x7, x8, acc, rfl, hF, fA, s1⟩
      rw [Int.toNat_natCast] at hi
      have hc := List.getElem?_eq_getElem (l := C) (i := i) (by omega)
      have hr := List.getElem?_eq_getElem (l := rows) (i := i) (by omega)
      generalize C[i]'(by omega) = c at hc
      generalize rows[i]'(by omega) = row at hr
      have hz : (C.zip rows)[i]? = some (c, row) := zip_get hc hr
      have c32 := h32 c (List.mem_of_getElem? hc)
      have r6 := h6 row (List.mem_of_getElem? hr)
      obtain ⟨vr, hvr, ra, bvs2, rfl, tra, fra⟩ := fR.getB hr
      obtain ⟨vc, hvc, ca, rfl, tca⟩ := fC.getB hc
      have jt := jlJ_take hz
      have jle := jlJ_le (C.zip rows) (i + 1)
      rw [jt, List.length_append, List.length_map] at jle
      have lrow := fra.len
      rw [lonJ_take hz]
      refine ⟨_, rfl, _, rfl, lt, rvs, 0 + (i : Int), .ref ra, rfl, rfl, Same.tup s1 tR, by rw [Int.zero_add]; exact atI_nat hvr, ra, rfl, ⟨_, Same.tup s1 tra⟩, for_it (walk_tup (K := K) (a := ra) (xs := bvs2)) (fun j σ H' => ∃ (x6 x7 x8 : Option V) (acc : List V), σ = [some (.ref B), some (.ref ct), some (.ref lt), some (.ref F), some (.bl (lonJ ((C.zip rows).take i) || lonA c (row.take j))), some (.int (0 + (i : Int))), x6, x7, x8] ∧ H' F = some (.lst acc) ∧ F2 (BdAt K H') acc (bds ++ jlJ ((C.zip rows).take i) ++ (row.take j).map (jbJ c)) ∧ Same H H') ⟨x6, x7, x8, acc, ?_, hF, ?_, s1⟩ (fun j σ H' _ ⟨_, _, _, _, _, _, _, e⟩ => ?_) ?_ ?_⟩
      · rw [List.take_zero]
        show _ = [some (V.ref B), some (.ref ct), some (.ref lt), some (.ref F), some (.bl (lonJ ((C.zip rows).take i) || false)), some (.int (0 + (i : Int))), x6, x7, x8]
        rw [Bool.or_false]
        rfl
      · rw [List.take_zero]
        show F2 _ acc (_ ++ [])
        rw [List.append_nil]
        exact fA
      · exact Same.tup (by assumption) tra
      · rintro j v σ H2 H3 hj ⟨x6, x7, x8, acc, rfl, hF2, fA2, s2⟩ ⟨rfl, hv⟩
        obtain ⟨bd, hbd, bq, ba, bf, rfl, t1, t2, t3⟩ := (bds_tk fra (Same.tk s2)).getA hv
        obtain ⟨ta, gp, tvs, tba, ttt, ftt, tgp⟩ := id t2
        have g6 := r6 bd (List.mem_of_getElem? hbd)
        rw [lonA_take hbd]
        refine ⟨bq, _, rfl, t1, rfl, _, _, rfl, ba, _, rfl, tba, rfl, _, _, rfl, _, _, rfl, rfl, _, _, rfl, rfl, ?_⟩
        refine ⟨fun σ H' => σ = [some (.ref B), some (.ref ct), some (.ref lt), some (.ref F), some (.bl (lonJ ((C.zip rows).take i) || (lonA c (row.take j) || decide (40 < bd.g.length + c.length + 1)))), some (.int (0 + (i : Int))), some (.ref ta), some (.ref gp), some (.ref bf)] ∧ H' = H3, ?_, ?_⟩
        · refine ⟨_, rfl, _, rfl, ?_⟩
          rw [← Bool.or_assoc]
          cases lo : (lonJ ((C.zip rows).take i) || lonA c (row.take j)) with
          | true => exact iteT ⟨rfl, rfl⟩
          | false =>
            refine iteF ⟨_, rfl, gp, _, rfl, .inr tgp, _, rfl, _, rfl, ct, cvs, 0 + (i : Int), .ref ca, rfl, rfl, Same.tup s2 tC, by rw [Int.zero_add]; exact atI_nat hvc, ca, _, rfl, .inr (Same.tup s2 tca), _, _, rfl, rfl, _, _, rfl, rfl, _, _, rfl, rfl, ?_, rfl⟩
            show _ = [some (V.ref B), some (.ref ct), some (.ref lt), some (.ref F), some (.bl (false || decide (40 < bd.g.length + c.length + 1))), some (.int (0 + (i : Int))), some (.ref ta), some (.ref gp), some (.ref bf)]
            rw [List.length_map, List.length_map, Bool.false_or]
            have e : decide ((40 : Int) < (bd.g.length : Int) + (c.length : Int) + 1) = decide (40 < bd.g.length + c.length + 1) := decide_eq_decide.mpr (by omega)
            rw [← e]
            rfl
        rintro σ _ ⟨rfl, rfl⟩
        refine ⟨_, rfl, .inl ⟨rfl, _, .inl (.inl hF2)⟩, _, rfl, _, rfl, _, rfl, _, rfl, ct, cvs, 0 + (i : Int), .ref ca, rfl, rfl, Same.tup s2 tC, by rw [Int.zero_add]; exact atI_nat hvc, gp, ca, bd.g.map wv, c.map wv, rfl, rfl, tgp, Same.tup s2 tca, by rw [List.length_map, List.length_map]; omega, fun p5 H5 t5 s5 => ?_⟩
        refine ⟨by show 1 ≤ sizeLine; decide, fun q6 n6 => ?_⟩
        have s6 := same_upd (o := .tup [.str "and"]) n6
        refine ⟨p5, q6, _, [wv .an], rfl, rfl, Same.tup s6 t5, sqt_upd, by rw [List.length_append, List.length_map, List.length_map]; show bd.g.length + c.length + 1 ≤ 100000; omega, fun p7 H7 t7 s7 => ?_⟩
        have t7 : SqT K H7 p7 ((bd.g ++ c ++ [Wd.an]).map wv) := by
          rw [List.map_append, List.map_append]
          exact t7
        refine ⟨by show 2 ≤ sizeLine; decide, fun b8 n8 => ?_⟩
        have s8 := same_upd (o := .tup [.ref ta, .ref p7]) n8
        refine ⟨_, rfl, by show 2 ≤ sizeLine; decide, fun b9 n9 => ?_⟩
        have s9 := same_upd (o := .tup [.ref b8, .ref bf]) n9
        have S57 := s5.trans (s6.trans s7)
        have S9 := S57.trans (s8.trans s9)
        have hF9 := S9 _ _ hF2
        have la := fA2.len
        rw [List.length_append, List.length_append, List.length_map, List.length_take] at la
        refine ⟨F, acc, .ref b9, rfl, rfl, hF9, Nat.lt_of_le_of_lt (show acc.length ≤ 200 by omega) (by decide), ?_⟩
        have UP := fun x xs t => tup_upd (K := K) (a := x) (ys := xs) (zs := acc ++ [.ref b9]) hF9 t
        refine ⟨_, _, _, acc ++ [.ref b9], rfl, upd_same, ?_, same_mut nF (s2.trans S9)⟩
        rw [take_one _ _ _ hbd, List.map_append, ← List.append_assoc]
        have hB5 : BtAt K (tgt s9) b8 bd.ts (bd.g ++ c ++ [.an]) := ⟨ta, p7, tvs, Same.tup s9 sqt_upd, Same.tup S9 ttt, tms_tk ftt (Same.tk S9), Same.tup (s8.trans s9) t7⟩
        exact (bds_tk fA2 fun _ _ t => UP _ _ (Same.tup S9 t)).app (F2.one ⟨b9, b8, bf, rfl, UP _ _ sqt_upd, hB5.mono fun _ _ t => UP _ _ t, UP _ _ (Same.tup S9 t3)⟩)
      · rintro σ H2 ⟨x6, x7, x8, acc, rfl, hF2, fA2, s2⟩
        rw [lrow, List.take_length] at fA2
        rw [lrow, List.take_length]
        refine ⟨_, _, _, _, acc, rfl, hF2, ?_, s2⟩
        rw [jt, ← List.append_assoc]
        exact fA2
    · rintro σ H1 ⟨x5, x6, x7, x8, acc, rfl, hF, fA, s1⟩
      rw [Int.toNat_natCast, List.take_of_length_le (by omega)] at fA
      rw [Int.toNat_natCast, List.take_of_length_le (by omega)]
      have la := fA.len
      rw [List.length_append] at la
      cases lo : lonJ (C.zip rows) with
      | true => exact ⟨_, rfl, _, rfl, iteT (k1 lo _ s1)⟩
      | false =>
      refine ⟨_, rfl, _, rfl, iteF ?_⟩
      refine ⟨_, rfl, F, acc, rfl, .inl ⟨.inl (.inl hF), fun p np => ?_⟩⟩
      have s2 := same_upd (o := .tup acc) np
      refine ⟨by show 2 ≤ sizeLine; decide, fun L nL => ?_⟩
      have s3 := same_upd (o := .lst [.ref p, .str "TooMany"]) nL
      refine ⟨_, rfl, F, acc, rfl, .inl (.inl (.inl ((s2.trans s3) _ _ hF))), _, _, rfl, rfl, .inr ⟨_, rfl, ?_⟩⟩
      by_cases c : (12 : Int) < (acc.length : Int)
      · exact ⟨L, _, 1, .str "TooMany", rfl, by rw [decide_eq_true c]; rfl, .inl (.inl upd_same), rfl, k2 lo (by omega) _ (s1.trans (s2.trans s3))⟩
      · exact ⟨L, _, 0, .ref p, rfl, by rw [decide_eq_false c]; rfl, .inl (.inl upd_same), rfl, k3 lo (by omega) _ p acc (Same.tup s3 sqt_upd) (bds_tk fA (Same.tk (s2.trans s3))) (s1.trans (s2.trans s3))⟩
end
end B

namespace B
open PySem PySem.Spec PyProof.Rows L2

def sp_both (K : PySem.W.Frag) : Sp := fun vs H Q E => ∃ (a b : Addr) (ws us : List Wd), vs = [.ref a, .ref b] ∧ SqT K H a (ws.map wv) ∧ SqT K H b (us.map wv) ∧ ws.length + us.length ≤ 1000 ∧ (40 < ws.length + us.length + 1 → ∀ C, XIs K "TooLong" C → ∀ d H', DOk H' d → Same H H' → E (.ref C) d H') ∧ (ws.length + us.length + 1 ≤ 40 → ∀ (H' : Hp) (p : Addr), SqT K H' p ((ws ++ us ++ [Wd.an]).map wv) → Same H H' → Q (.ref p) H')

section
variable {P : Program} {w : World} {K : PySem.W.Frag} {mg : Str → Option Value} {base : Heap}
theorem ok_both (T : Tx K mg) (U : Unl P base) : FnOk P w K mg base (L2N.CX P w) 36 T.both.f T.both.fd ["one", "other"] (sp_both K) := by
  refine okXN T.both.F sc_both (fun vs H Q E h => ?_) (fun cdv A outer s H vs Q E hr h => ?_)
  · obtain ⟨a, b, ws, us, rfl, hA, hB, hz, hE, hQ⟩ := h
    rfl
  · obtain ⟨a, b, ws, us, rfl, hA, hB, hz, hE, hQ⟩ := h
    refine ⟨_, (pss_one (ps_ret (pe_callS (ok_short_enough T U) (hr.mono (by decide)) (by rfl) T.short_enough.g T.short_enough.F.kp T.short_enough.b (fun σ => L2N.passAt (L2N.takes_of rfl rfl rfl rfl) σ) (pa_cons (pe_op op_catS (pe_op op_catS (pv 0) (pv 1)) (pe_tup (pa_cons pe_str pa_nil))) pa_nil)))), ?_⟩
    refine ⟨_, rfl, _, rfl, a, b, _, _, rfl, rfl, hA, hB, by rw [List.length_map, List.length_map]; omega, fun p1 H1 t1 s1 => ?_⟩
    refine ⟨by show 1 ≤ sizeLine; decide, fun p2 n2 => ?_⟩
    have s2 := same_upd (o := .tup [.str "and"]) n2
    refine ⟨p1, p2, _, [wv .an], rfl, rfl, Same.tup s2 t1, sqt_upd, by rw [List.length_append, List.length_map, List.length_map]; show ws.length + us.length + 1 ≤ 100000; omega, fun p3 H3 t3 s3 => ?_⟩
    have S := (s1.trans s2).trans s3
    have lx : (ws.map wv ++ us.map wv ++ [wv .an]).length = ws.length + us.length + 1 := by rw [List.length_append, List.length_append, List.length_map, List.length_map]; rfl
    refine ⟨p3, _, rfl, t3, fun h C hC d H4 dk s4 => hE (by omega) C hC d H4 dk (S.trans s4), fun h => hQ (by omega) _ p3 ?_ S⟩
    rw [List.map_append, List.map_append]
    exact t3
end
end B

namespace B
open PySem PySem.Spec PyProof.Rows L2

def sp_l_plus (K : PySem.W.Frag) : Sp := fun vs H Q _ => ∃ (a c : Addr) (t1 t2 : Int) (b1 b2 : Nat), vs = [.ref a, .ref c] ∧ SqT K H a [.int t1, .int b1] ∧ SqT K H c [.int t2, .int b2] ∧ IsF t1 b1 ∧ IsF t2 b2 ∧ Fz t1 b1 400000 ∧ Fz t2 b2 400000 ∧
  ∀ p, H p = none → Q (.ref p) (upd H p (.tup [.int (addT t1 b1 t2 b2), .int (addB t1 b1 t2 b2)]))

section
variable {P : Program} {w : World} {K : PySem.W.Frag} {mg : Str → Option Value} {base : Heap}
theorem ok_l_plus (T : Tx K mg) (U : Unl P base) : FnOk P w K mg base CX0 36 T.l_plus.f T.l_plus.fd ["_law_one", "_law_other"] (sp_l_plus K) := by
  refine T.l_plus.F.ok sc_l_plus (fun vs H Q E h => ?_) (fun cdv A outer s H vs Q E hr h => ?_)
  · obtain ⟨a, c, t1, t2, b1, b2, rfl, hA, hC, f1, f2, z1, z2, q⟩ := h
    rfl
  · obtain ⟨a, c, t1, t2, b1, b2, rfl, hA, hC, f1, f2, z1, z2, q⟩ := h
    refine ⟨_, (pss_one (ps_ret (pe_call (ok_l_lowest T U) (hr.mono (by decide)) (by rfl) T.l_lowest.g T.l_lowest.F.kp T.l_lowest.b .nil pass0 (pa_cons (pe_op op_add (pe_op op_mulW (pe_ix ix_tup (pv 0) pe_int (fun _ _ => rfl)) (pe_ix ix_tup (pv 1) pe_int (fun _ _ => rfl))) (pe_op op_mulW (pe_ix ix_tup (pv 1) pe_int (fun _ _ => rfl)) (pe_ix ix_tup (pv 0) pe_int (fun _ _ => rfl)))) (pa_cons (pe_op op_mulW (pe_ix ix_tup (pv 0) pe_int (fun _ _ => rfl)) (pe_ix ix_tup (pv 1) pe_int (fun _ _ => rfl))) pa_nil))))), ?_⟩
    have W : ∀ {x : Nat}, x < 2 ^ 400000 → (x : Int).natAbs < 2 ^ 400000 := fun h => by
      rw [Int.natAbs_natCast]
      exact h
    refine ⟨_, rfl, a, _, 0, .int t1, rfl, rfl, hA, rfl, _, rfl, c, _, 1, .int b2, rfl, rfl, hC, rfl, _, _, rfl, rfl, wide_mul z1.t (W z2.b) (by decide) (by decide) (by decide), _, rfl, c, _, 0, .int t2, rfl, rfl, hC, rfl, _, rfl, a, _, 1, .int b1, rfl, rfl, hA, rfl, _, _, rfl, rfl, wide_mul z2.t (W z1.b) (by decide) (by decide) (by decide), _, _, rfl, rfl, ?_⟩
    exact ⟨_, rfl, a, _, 1, .int b1, rfl, rfl, hA, rfl, _, rfl, c, _, 1, .int b2, rfl, rfl, hC, rfl, _, _, rfl, rfl, wide_mul (W z1.b) (W z2.b) (by decide) (by decide) (by decide), addX t1 b1 t2 b2, b1 * b2, rfl, Nat.mul_pos f1.pos f2.pos, Nat.lt_of_lt_of_le (mulB_z z1 z2) (Nat.pow_le_pow_right (by decide) (by decide)), q⟩
end
end B

namespace B
open PySem PySem.Spec PyProof.Rows L2

def sp_l_times (K : PySem.W.Frag) : Sp := fun vs H Q _ => ∃ (a c : Addr) (t1 t2 : Int) (b1 b2 : Nat), vs = [.ref a, .ref c] ∧ SqT K H a [.int t1, .int b1] ∧ SqT K H c [.int t2, .int b2] ∧ IsF t1 b1 ∧ IsF t2 b2 ∧ Fz t1 b1 400000 ∧ Fz t2 b2 400000 ∧
  ∀ p, H p = none → Q (.ref p) (upd H p (.tup [.int (mulT t1 b1 t2 b2), .int (mulB t1 b1 t2 b2)]))

section
variable {P : Program} {w : World} {K : PySem.W.Frag} {mg : Str → Option Value} {base : Heap}
theorem ok_l_times (T : Tx K mg) (U : Unl P base) : FnOk P w K mg base CX0 36 T.l_times.f T.l_times.fd ["_law_one", "_law_other"] (sp_l_times K) := by
  refine T.l_times.F.ok sc_l_times (fun vs H Q E h => ?_) (fun cdv A outer s H vs Q E hr h => ?_)
  · obtain ⟨a, c, t1, t2, b1, b2, rfl, hA, hC, f1, f2, z1, z2, q⟩ := h
    rfl
  · obtain ⟨a, c, t1, t2, b1, b2, rfl, hA, hC, f1, f2, z1, z2, q⟩ := h
    refine ⟨_, (pss_one (ps_ret (pe_call (ok_l_lowest T U) (hr.mono (by decide)) (by rfl) T.l_lowest.g T.l_lowest.F.kp T.l_lowest.b .nil pass0 (pa_cons (pe_op op_mulW (pe_ix ix_tup (pv 0) pe_int (fun _ _ => rfl)) (pe_ix ix_tup (pv 1) pe_int (fun _ _ => rfl))) (pa_cons (pe_op op_mulW (pe_ix ix_tup (pv 0) pe_int (fun _ _ => rfl)) (pe_ix ix_tup (pv 1) pe_int (fun _ _ => rfl))) pa_nil))))), ?_⟩
    have W : ∀ {x : Nat}, x < 2 ^ 400000 → (x : Int).natAbs < 2 ^ 400000 := fun h => by
      rw [Int.natAbs_natCast]
      exact h
    refine ⟨_, rfl, a, _, 0, .int t1, rfl, rfl, hA, rfl, _, rfl, c, _, 0, .int t2, rfl, rfl, hC, rfl, _, _, rfl, rfl, wide_mul z1.t z2.t (by decide) (by decide) (by decide), ?_⟩
    exact ⟨_, rfl, a, _, 1, .int b1, rfl, rfl, hA, rfl, _, rfl, c, _, 1, .int b2, rfl, rfl, hC, rfl, _, _, rfl, rfl, wide_mul (W z1.b) (W z2.b) (by decide) (by decide) (by decide), t1 * t2, b1 * b2, rfl, Nat.mul_pos f1.pos f2.pos, Nat.lt_of_lt_of_le (mulB_z z1 z2) (Nat.pow_le_pow_right (by decide) (by decide)), q⟩
end
end B

namespace B
open PySem PySem.Spec PyProof.Rows L2

def sp_l_fraction (_ : PySem.W.Frag) : Sp := fun vs H Q _ => ∃ (d : Dr) (n : Nat), vs = [.ref d.dr] ∧ Drw H d (n + 10) ∧ ∀ (H' : Hp) (p : Addr) (t : Int) (b : Nat), H' p = some (.tup [.int t, .int b]) → IsF t b → Fz t b 80 → Drw H' d n → Kp d H H' → Q (.ref p) H'

section
variable {P : Program} {w : World} {K : PySem.W.Frag} {mg : Str → Option Value} {base : Heap}
theorem ok_l_fraction (T : Tx K mg) (U : Unl P base) : FnOk P w K mg base CX0 36 T.l_fraction.f T.l_fraction.fd ["_law_drawn"] (sp_l_fraction K) := by
  refine T.l_fraction.F.ok sc_l_fraction (fun vs H Q E h => ?_) (fun cdv A outer s H vs Q E hr h => ?_)
  · obtain ⟨d, n, rfl, hD, q⟩ := h
    rfl
  · obtain ⟨d, n, rfl, hD, q⟩ := h
    refine ⟨_, (pss_cons (ps_set (i := 1) sc_l_fraction.nd rfl (.inl rfl) (pe_call (ok_l_next T U) (hr.mono (by decide)) (by rfl) T.l_next.g T.l_next.F.kp T.l_next.b .nil pass0 (pa_cons (pv 0) (pa_cons pe_int pa_nil))))
      (pss_cons (ps_if (pt_cmpR op_eq (pv 1) pe_int (nomark _)) (pss_one (ps_ret (pe_tup (pa_cons pe_int (pa_cons pe_int pa_nil))))) pss_nil)
      (pss_cons (ps_if (pt_cmpR op_lt (pv 1) pe_int (nomark _)) (pss_one (ps_ret (pe_tup (pa_cons (pe_op op_sub (pe_call (ok_l_next T U) (hr.mono (by decide)) (by rfl) T.l_next.g T.l_next.F.kp T.l_next.b .nil pass0 (pa_cons (pv 0) (pa_cons pe_int pa_nil))) pe_int) (pa_cons pe_int pa_nil))))) pss_nil)
      (pss_cons (ps_if (pt_cmpR op_lt (pv 1) pe_int (nomark _)) (pss_one (ps_ret (pe_call (ok_l_lowest T U) (hr.mono (by decide)) (by rfl) T.l_lowest.g T.l_lowest.F.kp T.l_lowest.b .nil pass0 (pa_cons (pe_op op_sub (pe_call (ok_l_next T U) (hr.mono (by decide)) (by rfl) T.l_next.g T.l_next.F.kp T.l_next.b .nil pass0 (pa_cons (pv 0) (pa_cons pe_int pa_nil))) pe_int) (pa_cons (pe_op op_add pe_int (pe_call (ok_l_next T U) (hr.mono (by decide)) (by rfl) T.l_next.g T.l_next.F.kp T.l_next.b .nil pass0 (pa_cons (pv 0) (pa_cons pe_int pa_nil)))) pa_nil))))) pss_nil)
      (pss_cons (ps_set (i := 2) sc_l_fraction.nd rfl (.inl rfl) (pe_op op_add (pe_op op_mul (pe_call (ok_l_next T U) (hr.mono (by decide)) (by rfl) T.l_next.g T.l_next.F.kp T.l_next.b .nil pass0 (pa_cons (pv 0) (pa_cons (pe_op op_pow pe_int pe_int) pa_nil))) (pe_op op_pow pe_int pe_int)) (pe_call (ok_l_next T U) (hr.mono (by decide)) (by rfl) T.l_next.g T.l_next.F.kp T.l_next.b .nil pass0 (pa_cons (pv 0) (pa_cons (pe_op op_pow pe_int pe_int) pa_nil)))))
      (pss_one (ps_ret (pe_call (ok_l_lowest T U) (hr.mono (by decide)) (by rfl) T.l_lowest.g T.l_lowest.F.kp T.l_lowest.b .nil pass0 (pa_cons (pe_op op_sub (pv 2) (pe_op op_mul pe_int (pe_op op_pow pe_int pe_int))) (pa_cons (pe_op op_add pe_int (pe_op op_mul (pe_call (ok_l_next T U) (hr.mono (by decide)) (by rfl) T.l_next.g T.l_next.F.kp T.l_next.b .nil pass0 (pa_cons (pv 0) (pa_cons (pe_op op_pow pe_int pe_int) pa_nil))) (pe_ix ix_list (pe_lst (pa_cons pe_int (pa_cons (pe_op op_sub (pe_op op_pow pe_int pe_int) pe_int) pa_nil))) (pe_call (ok_l_next T U) (hr.mono (by decide)) (by rfl) T.l_next.g T.l_next.F.kp T.l_next.b .nil pass0 (pa_cons (pv 0) (pa_cons pe_int pa_nil))) (fun _ _ => rfl)))) pa_nil)))))))))), ?_⟩
    refine ⟨_, rfl, d, n + 9, 8, rfl, by decide, by decide, hD, fun H1 r r0 r1 w1 k1 => ?_⟩
    refine ⟨_, rfl, rfl, _, rfl, ite2 (fun e => ?_) (fun e => ?_)⟩
    · refine ⟨by decide, fun p np => ?_⟩
      exact q _ p 0 1 upd_same ⟨by decide, by decide⟩ ⟨by decide, by decide⟩ ((w1.less (by omega)).upd np) (k1.trans (Same.kp (same_upd np)))
    refine ⟨_, rfl, _, _, rfl, rfl, _, rfl, ite2 (fun e => ?_) (fun e => ?_)⟩
    · refine ⟨_, rfl, d, n + 8, 13, rfl, by decide, by decide, w1, fun H2 r2 r20 r21 w2 k2 => ?_⟩
      refine ⟨_, _, rfl, rfl, by show 2 ≤ sizeLine; decide, fun p np => ?_⟩
      exact q _ p (r2 - 6) 1 upd_same ⟨by decide, Nat.coprime_one_right _⟩ ⟨by omega, by decide⟩ ((w2.less (by omega)).upd np) ((k1.trans k2).trans (Same.kp (same_upd np)))
    refine ⟨_, rfl, _, _, rfl, rfl, _, rfl, ite2 (fun e => ?_) (fun e => ?_)⟩
    · refine ⟨_, rfl, d, n + 8, 41, rfl, by decide, by decide, w1, fun H2 r2 r20 r21 w2 k2 => ?_⟩
      refine ⟨_, _, rfl, rfl, _, rfl, d, n + 7, 12, rfl, by decide, by decide, w2, fun H3 r3 r30 r31 w3 k3 => ?_⟩
      refine ⟨_, _, rfl, rfl, r2 - 20, (1 + r3).toNat, by rw [Int.toNat_of_nonneg (by omega)]; rfl, by omega, Nat.lt_of_lt_of_le (show (1 + r3).toNat < 2 ^ 5 by omega) (Nat.pow_le_pow_right (by decide) (by decide)), fun p np => ?_⟩
      exact q _ p _ _ upd_same (low_isF (by omega)) (low_z (by omega) (by omega) (by omega)) ((w3.less (by omega)).upd np) (((k1.trans k2).trans k3).trans (Same.kp (same_upd np)))
    refine ⟨_, rfl, _, _, rfl, rfl, ⟨by decide, by decide, by decide⟩, d, n + 8, 10 ^ 10, rfl, by decide, by decide, w1, fun H2 r2 r20 r21 w2 k2 => ?_⟩
    refine ⟨_, _, rfl, rfl, ⟨by decide, by decide, by decide⟩, _, _, rfl, rfl, .inr ⟨by decide, by decide⟩, _, rfl, _, _, rfl, rfl, ⟨by decide, by decide, by decide⟩, d, n + 7, 10 ^ 10, rfl, by decide, by decide, w2, fun H3 r3 r30 r31 w3 k3 => ?_⟩
    refine ⟨_, _, rfl, rfl, ?_⟩
    refine ⟨_, rfl, _, _, rfl, rfl, ⟨by decide, by decide, by decide⟩, _, _, rfl, rfl, .inl ⟨by decide, by decide⟩, _, _, rfl, rfl, ?_⟩
    refine ⟨_, rfl, _, _, rfl, rfl, ⟨by decide, by decide, by decide⟩, d, n + 6, 10 ^ 10, rfl, by decide, by decide, w3, fun H4 r4 r40 r41 w4 k4 => ?_⟩
    refine ⟨_, _, rfl, rfl, ⟨by decide, by decide, by decide⟩, _, _, rfl, rfl, by decide, fun l nl => ?_⟩
    refine ⟨_, rfl, d, n + 5, 2, rfl, by decide, by decide, w4.upd nl, fun H5 r5 r50 r51 w5 k5 => ?_⟩
    have hl : SqL K H5 l [.int 1, .int 9999999999] := .inl (.inl (k5 _ _ upd_same (w4.no nl).1 (w4.no nl).2))
    obtain ⟨x, hx, x0, x1⟩ : ∃ x : Int, atI [V.int 1, V.int 9999999999] r5 = some (.int x) ∧ 1 ≤ x ∧ x ≤ 9999999999 := by
      have : r5 = 0 ∨ r5 = 1 := by omega
      rcases this with rfl | rfl
      · exact ⟨1, rfl, by decide, by decide⟩
      · exact ⟨9999999999, rfl, by decide, by decide⟩
    refine ⟨l, _, r5, .int x, rfl, rfl, hl, hx, _, _, rfl, rfl, .inr ⟨by omega, by omega⟩, _, _, rfl, rfl, ?_⟩
    have m0 : 0 ≤ r4 * x := Int.mul_nonneg r40 (by omega)
    have m1 : r4 * x ≤ 9999999999 * 9999999999 := Int.mul_le_mul (by omega) x1 (by omega) (by decide)
    refine ⟨_, (1 + r4 * x).toNat, by rw [Int.toNat_of_nonneg (by omega)]; rfl, by omega, Nat.lt_of_lt_of_le (show (1 + r4 * x).toNat < 2 ^ 80 by omega) (Nat.pow_le_pow_right (by decide) (by decide)), fun p np => ?_⟩
    have p10 : (10 : Int) ^ Int.toNat 10 = 10000000000 := by decide
    have p19 : (10 : Int) ^ Int.toNat 19 = 10000000000000000000 := by decide
    exact q _ p _ _ upd_same (low_isF (by omega)) (low_z (by omega) (by rw [p10, p19]; omega) (by omega)) ((w5.less (by omega)).upd np) ((((k1.trans k2).trans k3).trans k4).trans ((Same.kp (same_upd nl)).trans (k5.trans (Same.kp (same_upd np)))))
end
end B

namespace B
open PySem PySem.Spec PyProof.Rows L2

def sp_l_saying (K : PySem.W.Frag) : Sp := fun vs H Q _ => ∃ (d : Dr) (b n : Nat) (cs : List Nat), vs = [.ref d.dr, .str (tx cs), .int n] ∧ 1 ≤ cs.length ∧ cs.length ≤ 100 ∧ 1 ≤ n ∧ n ≤ 20 ∧ Drw H d (b + 6 * n + 5) ∧ ∀ (H' : Hp) (p : Addr) (ws : List Wd), SqT K H' p (ws.map wv) → Sy cs ws → ws.length + 2 ≤ 4 * n → Drw H' d b → Kp d H H' → Q (.ref p) H'

section
variable {P : Program} {w : World} {K : PySem.W.Frag} {mg : Str → Option Value} {base : Heap}
theorem ok_l_saying (T : Tx K mg) (U : Unl P base) : FnOk P w K mg base CX0 36 T.l_saying.f T.l_saying.fd ["_law_drawn", "_law_letters", "_law_leaves"] (sp_l_saying K) := by
  refine T.l_saying.F.ok sc_l_saying (fun vs H Q E h => ?_) (fun cdv A outer s H vs Q E hr h => ?_)
  · obtain ⟨d, b, n, cs, rfl, hc1, hc2, hn1, hn2, hD, q⟩ := h
    rfl
  · obtain ⟨d, b, n, cs, rfl, hc1, hc2, hn1, hn2, hD, q⟩ := h
    refine ⟨_, (pss_cons (ps_set (i := 3) sc_l_saying.nd rfl (.inl rfl) (pe_lst pa_nil))
      (pss_cons (ps_for PassesOwn.never rfl (pi_range1 (by rfl) T.m_range (pa_cons (pe_op op_add pe_int (pe_call (ok_l_next T U) (hr.mono (by decide)) (by rfl) T.l_next.g T.l_next.F.kp T.l_next.b .nil pass0 (pa_cons (pv 0) (pa_cons (pv 2) pa_nil)))) pa_nil)) (pg_name (i := 4) sc_l_saying.nd rfl (.inl rfl))
      (pss_cons (ps_set (i := 5) sc_l_saying.nd rfl (.inl rfl) (pe_call (ok_l_next T U) (hr.mono (by decide)) (by rfl) T.l_next.g T.l_next.F.kp T.l_next.b .nil pass0 (pa_cons (pv 0) (pa_cons pe_int pa_nil))))
      (pss_cons (ps_set (i := 6) sc_l_saying.nd rfl (.inl rfl) (pe_ix ix_str (pv 1) (pe_call (ok_l_next T U) (hr.mono (by decide)) (by rfl) T.l_next.g T.l_next.F.kp T.l_next.b .nil pass0 (pa_cons (pv 0) (pa_cons (pe_callB call_len_str (by rfl) T.m_len (by decide +kernel) (pa_cons (pv 1) pa_nil)) pa_nil))) (fun _ _ => rfl)))
      (pss_cons (ps_expr (pe_bm PySem.F.plainAttrs_list PySem.F.slot_list_append PySem.F.type_list_append mt_append (pv 3) (pa_cons (pe_tup (pa_cons (pe_ix ix_list (pe_lst (pa_cons pe_str (pa_cons pe_str (pa_cons (pv 6) (pa_cons (pv 6) (pa_cons (pv 6) (pa_cons (pv 6) (pa_cons (pv 6) (pa_cons (pv 6) pa_nil))))))))) (pv 5) (fun _ _ => rfl)) pa_nil)) pa_nil)))
      (pss_one (ps_if (pt_cmpR op_gt (pv 5) pe_int (nomark _)) (pss_one (ps_asg (pe_op op_catS (pe_ix ix_list (pv 3) (pe_un un_neg pe_int) (fun _ _ => rfl)) (pe_tup (pa_cons pe_str pa_nil))) (pg_sub (pv 3) (pe_un un_neg pe_int) set_list))) pss_nil))))))
      (pss_cons (ps_for PassesOwn.never rfl (pi_range1 (by rfl) T.m_range (pa_cons (pe_op op_sub (pe_callB call_len_seq (by rfl) T.m_len (by decide +kernel) (pa_cons (pv 3) pa_nil)) pe_int) pa_nil)) (pg_name (i := 4) sc_l_saying.nd rfl (.inl rfl))
      (pss_cons (ps_set (i := 7) sc_l_saying.nd rfl (.inl rfl) (pe_call (ok_l_next T U) (hr.mono (by decide)) (by rfl) T.l_next.g T.l_next.F.kp T.l_next.b .nil pass0 (pa_cons (pv 0) (pa_cons (pe_op op_sub (pe_callB call_len_seq (by rfl) T.m_len (by decide +kernel) (pa_cons (pv 3) pa_nil)) pe_int) pa_nil))))
      (pss_cons (ps_set (i := 8) sc_l_saying.nd rfl (.inl rfl) (pe_ix ix_list (pe_lst (pa_cons pe_str (pa_cons pe_str (pa_cons pe_str (pa_cons pe_str pa_nil))))) (pe_call (ok_l_next T U) (hr.mono (by decide)) (by rfl) T.l_next.g T.l_next.F.kp T.l_next.b .nil pass0 (pa_cons (pv 0) (pa_cons pe_int pa_nil))) (fun _ _ => rfl)))
      (pss_cons (ps_set (i := 3) sc_l_saying.nd rfl (.inl rfl) (pe_op op_cat (pe_op op_cat (pe_slice sl_list (pv 3) po_none (po_some (pv 7))) (pe_lst (pa_cons (pe_op op_catS (pe_op op_catS (pe_ix ix_list (pv 3) (pv 7) (fun _ _ => rfl)) (pe_ix ix_list (pv 3) (pe_op op_add (pv 7) pe_int) (fun _ _ => rfl))) (pe_tup (pa_cons (pv 8) pa_nil))) pa_nil))) (pe_slice sl_list (pv 3) (po_some (pe_op op_add (pv 7) pe_int)) po_none)))
      (pss_one (ps_if (pt_cmpR op_eq (pe_call (ok_l_next T U) (hr.mono (by decide)) (by rfl) T.l_next.g T.l_next.F.kp T.l_next.b .nil pass0 (pa_cons (pv 0) (pa_cons pe_int pa_nil))) pe_int (nomark _)) (pss_one (ps_asg (pe_op op_catS (pe_ix ix_list (pv 3) (pv 7) (fun _ _ => rfl)) (pe_tup (pa_cons pe_str pa_nil))) (pg_sub (pv 3) (pv 7) set_list))) pss_nil))))))
      (pss_one (ps_ret (pe_ix ix_list (pv 3) pe_int (fun _ _ => rfl))))))), ?_⟩
    have csz : (tx cs).length ≤ sizeLine := Nat.le_trans hc2 (by decide)
    refine ⟨by decide, fun R nR => ?_⟩
    have nR1 := hD.no nR
    have nR2 := hD.nc nR
    refine ⟨_, rfl, _, rfl, d, b + 6 * n + 4, n, rfl, by omega, by omega, hD.upd nR, fun H1 r r0 r1 w1 k1 => ?_⟩
    refine ⟨_, _, rfl, rfl, 1 + r, rfl, by omega, by omega, for_range (lo := 0) (n := (1 + r).toNat) (fun i σ H' => ∃ (x4 x5 x6 : Option V) (vs : List V) (rs : List (List Wd)), σ = [some (.ref d.dr), some (.str (tx cs)), some (.int n), some (.ref R), x4, x5, x6, none, none] ∧ H' R = some (.lst vs) ∧ Rws K H' vs rs ∧ rs.length = i ∧ (∀ x ∈ rs, Sy cs x) ∧ tot rs ≤ 2 * i ∧ Drw H' d (b + 6 * n + 4 - 2 * i) ∧ Kp d H H') ⟨none, none, none, [], [], rfl, k1 _ _ upd_same nR1.1 nR1.2, trivial, rfl, (fun x hx => nomatch hx), Nat.le_refl _, w1, (Same.kp (same_upd nR)).trans k1⟩ ?_ ?_⟩
    · rintro i σ H2 hi ⟨x4, x5, x6, vs, rs, rfl, hR, hW, hlen, hS, ht, w2, k2⟩
      refine ⟨_, rfl, d, b + 6 * n + 4 - 2 * i - 1, 8, rfl, by decide, by decide, w2.less (by omega), fun H3 y y0 y1 w3 k3 => ?_⟩
      refine ⟨_, rfl, _, rfl, _, rfl, tx cs, rfl, csz, d, b + 6 * n + 4 - 2 * (i + 1), _, rfl, (by show (0 : Int) < (cs.length : Int); omega), (by show (cs.length : Int).natAbs < 2 ^ 70; omega), w3.less (by omega), fun H4 z z0 z1 w4 k4 => ?_⟩
      have z1 : z < (cs.length : Int) := z1
      obtain ⟨j, rfl⟩ : ∃ j : Nat, z = j := ⟨z.toNat, by omega⟩
      have hj : j < cs.length := by omega
      refine ⟨tx cs, (j : Int), cs[j], rfl, rfl, csz, atI_nat (List.getElem?_eq_getElem hj), ?_⟩
      have hcm : cs[j] ∈ cs := List.getElem_mem hj
      have hR4 := k4 _ _ (k3 _ _ hR nR1.1 nR1.2) nR1.1 nR1.2
      refine ⟨_, rfl, .inl ⟨rfl, _, .inl (.inl hR4)⟩, _, rfl, _, rfl, _, rfl, _, rfl, _, rfl, _, rfl, by show 8 ≤ sizeLine; decide, fun L nL => ?_⟩
      obtain ⟨w, hw, hf⟩ : ∃ w, atI [V.str "yes", V.str "no", V.str (sg cs[j]), V.str (sg cs[j]), V.str (sg cs[j]), V.str (sg cs[j]), V.str (sg cs[j]), V.str (sg cs[j])] y = some (wv w) ∧ Lf cs w := by
        have : y = 0 ∨ y = 1 ∨ y = 2 ∨ y = 3 ∨ y = 4 ∨ y = 5 ∨ y = 6 ∨ y = 7 := by omega
        rcases this with rfl | rfl | rfl | rfl | rfl | rfl | rfl | rfl
        · exact ⟨.yes, rfl, .yes⟩
        · exact ⟨.no, rfl, .no⟩
        · exact ⟨.lt cs[j], rfl, .lt hcm⟩
        · exact ⟨.lt cs[j], rfl, .lt hcm⟩
        · exact ⟨.lt cs[j], rfl, .lt hcm⟩
        · exact ⟨.lt cs[j], rfl, .lt hcm⟩
        · exact ⟨.lt cs[j], rfl, .lt hcm⟩
        · exact ⟨.lt cs[j], rfl, .lt hcm⟩
      refine ⟨_, rfl, L, _, y, wv w, rfl, rfl, .inl (.inl upd_same), hw, by show 1 ≤ sizeLine; decide, fun P nP => ?_⟩
      have sL := same_upd (o := .lst [V.str "yes", V.str "no", V.str ⟨#[cs[j]]⟩, V.str ⟨#[cs[j]]⟩, V.str ⟨#[cs[j]]⟩, V.str ⟨#[cs[j]]⟩, V.str ⟨#[cs[j]]⟩, V.str ⟨#[cs[j]]⟩]) nL
      have sP := same_upd (o := .tup [wv w]) nP
      have sLP := sL.trans sP
      have hR5 := sLP _ _ hR4
      have W5 := (((hW.kp w2 k3).kp w3 k4).same sLP)
      have w5 := w4.same sLP
      have K5 := ((k2.trans k3).trans k4).trans (Same.kp sLP)
      have hP : SqT K (upd (upd H4 L (.lst [V.str "yes", V.str "no", V.str ⟨#[cs[j]]⟩, V.str ⟨#[cs[j]]⟩, V.str ⟨#[cs[j]]⟩, V.str ⟨#[cs[j]]⟩, V.str ⟨#[cs[j]]⟩, V.str ⟨#[cs[j]]⟩])) P (.tup [wv w])) P ([w].map wv) := sqt_upd
      generalize upd (upd H4 L (.lst [V.str "yes", V.str "no", V.str ⟨#[cs[j]]⟩, V.str ⟨#[cs[j]]⟩, V.str ⟨#[cs[j]]⟩, V.str ⟨#[cs[j]]⟩, V.str ⟨#[cs[j]]⟩, V.str ⟨#[cs[j]]⟩])) P (.tup [wv w]) = H5 at hR5 W5 w5 K5 hP ⊢
      have vlen : vs.length = i := by rw [hW.len, hlen]
      have hSw : Sy cs [w] := by cases hf with
        | lt h => exact Sy.leaf h
        | yes => exact Sy.yes
        | no => exact Sy.no
      refine ⟨R, _, _, rfl, rfl, hR5, ?_, ?_⟩
      · exact Nat.lt_of_le_of_lt (show vs.length ≤ 100 by omega) (by decide)
      refine ⟨_, rfl, _, _, rfl, rfl, _, rfl, ite2 (fun e => ?_) (fun e => ?_)⟩
      · refine ⟨_, rfl, 1, rfl, R, _, -1, .ref P, rfl, rfl, .inl (.inl upd_same), atI_last _ _, by show 1 ≤ sizeLine; decide, fun P2 n2 => ?_⟩
        have s6 := same_upd (o := .tup [.str "not"]) n2
        refine ⟨P, P2, [wv w], [wv .nt], rfl, rfl, Same.tup s6 (tup_upd hR5 hP), sqt_upd, by show 2 ≤ 100000; decide, fun P3 H7 t7 s7 => ?_⟩
        have hR7 := s7 _ _ (s6 _ _ (upd_same (H := H5) (a := R) (o := .lst (vs ++ [.ref P]))))
        refine ⟨_, rfl, 1, rfl, R, _, -1, vs.length, rfl, rfl, hR7, last_ix, ?_⟩
        rw [last_set]
        have t7 : SqT K H7 P3 ([w, .nt].map wv) := t7
        refine ⟨_, _, _, vs ++ [.ref P3], rs ++ [[w, .nt]], rfl, upd_same, ?_, ?_, ?_, ?_, ?_, ?_⟩
        · refine Rws.mono (fun a xs h => tup_upd hR7 h) (Rws.app ?_ (Rws.one t7))
          exact Rws.mono (fun a xs h => Same.tup (s6.trans s7) (tup_upd hR5 h)) W5
        · rw [List.length_append, hlen]; rfl
        · intro x hx
          rcases List.mem_append.mp hx with h | h
          · exact hS x h
          · rw [List.mem_singleton] at h
            rw [h]
            exact hSw.not
        · rw [tot_app]
          show tot rs + 2 ≤ 2 * (i + 1)
          omega
        · exact (((w5.mut nR1.1 nR2 nR1.2).same (s6.trans s7)).mut nR1.1 nR2 nR1.2).less (by omega)
        · exact (Kp.upd ((Kp.upd K5 nR).trans (Same.kp (s6.trans s7))) nR)
      · refine ⟨_, _, _, vs ++ [.ref P], rs ++ [[w]], rfl, upd_same, ?_, ?_, ?_, ?_, ?_, ?_⟩
        · exact Rws.mono (fun a xs h => tup_upd hR5 h) (Rws.app W5 (Rws.one hP))
        · rw [List.length_append, hlen]; rfl
        · intro x hx
          rcases List.mem_append.mp hx with h | h
          · exact hS x h
          · rw [List.mem_singleton] at h
            rw [h]
            exact hSw
        · rw [tot_app]
          show tot rs + 1 ≤ 2 * (i + 1)
          omega
        · exact (w5.mut nR1.1 nR2 nR1.2).less (by omega)
        · exact Kp.upd K5 nR
    · rintro σ H2 ⟨x4, x5, x6, vs, rs, rfl, hR, hW, hlen, hS, ht, w2, k2⟩
      have hn : (1 + r).toNat ≤ n := by omega
      have hn0 : 1 ≤ (1 + r).toNat := by omega
      generalize (1 + r).toNat = m at hlen ht w2 hn hn0
      have vlen : vs.length = m := by rw [hW.len, hlen]
      refine ⟨_, rfl, R, _, rfl, .inl (.inl (.inl hR)), _, _, rfl, rfl, _, rfl, by omega, by omega, for_range (lo := 0) (n := ((vs.length : Int) - 1).toNat) (fun i σ H' => ∃ (R : Addr) (x4 x5 x6 x7 x8 : Option V) (vs : List V) (rs : List (List Wd)), σ = [some (.ref d.dr), some (.str (tx cs)), some (.int n), some (.ref R), x4, x5, x6, x7, x8] ∧ H' R = some (.lst vs) ∧ H R = none ∧ R ≠ d.dr ∧ R ≠ d.cl ∧ R ≠ d.rs ∧ Rws K H' vs rs ∧ rs.length + i = m ∧ (∀ x ∈ rs, Sy cs x) ∧ tot rs ≤ 2 * m + 2 * i ∧ Drw H' d (b + 4 * n - 3 * i) ∧ Kp d H H') ⟨R, x4, x5, x6, none, none, vs, rs, rfl, hR, nR, nR1.1, nR2, nR1.2, hW, hlen, hS, ht, w2.less (by omega), k2⟩ ?_ ?_⟩
      · clear hR hW hlen hS ht k2 w2 nR nR1 nR2
        rintro i σ H2 hi ⟨R, x4, x5, x6, x7, x8, vs, rs, rfl, hR, nR, nR1, nR2, nR3, hW, hlen, hS, ht, w2, k2⟩
        have vl2 : vs.length = rs.length := hW.len
        have hi' : i + 1 < m := by omega
        refine ⟨_, rfl, _, rfl, R, _, rfl, .inl (.inl (.inl hR)), _, _, rfl, rfl, d, b + 4 * n - 3 * i - 1, _, rfl, by omega, by omega, w2.less (by omega), fun H3 y y0 y1 w3 k3 => ?_⟩
        obtain ⟨j, rfl⟩ : ∃ j : Nat, y = j := ⟨y.toNat, by omega⟩
        have hR3 := k3 _ _ hR nR1 nR3
        refine ⟨by decide, fun L nL => ?_⟩
        refine ⟨_, rfl, d, b + 4 * n - 3 * i - 2, 4, rfl, by decide, by decide, (w3.less (by omega)).upd nL, fun H4 z z0 z1 w4 k4 => ?_⟩
        have hL4 := k4 _ _ (upd_same (H := H3) (a := L) (o := .lst [.str "and", .str "or", .str "same", .str "or"])) (w3.no nL).1 (w3.no nL).2
        have sL := same_upd (o := .lst [.str "and", .str "or", .str "same", .str "or"]) nL
        have hR4 := k4 _ _ (sL _ _ hR3) nR1 nR3
        have W4 := ((hW.kp w2 k3).same sL).kp (w3.same sL) k4
        have K4 := (k2.trans k3).trans ((Same.kp sL).trans k4)
        obtain ⟨w, hw, hjn⟩ : ∃ w, atI [V.str "and", V.str "or", V.str "same", V.str "or"] z = some (wv w) ∧ Jn w := by
          have : z = 0 ∨ z = 1 ∨ z = 2 ∨ z = 3 := by omega
          rcases this with rfl | rfl | rfl | rfl
          · exact ⟨.an, rfl, .an⟩
          · exact ⟨.orr, rfl, .orr⟩
          · exact ⟨.sm, rfl, .sm⟩
          · exact ⟨.orr, rfl, .orr⟩
        refine ⟨L, _, z, wv w, rfl, rfl, .inl (.inl hL4), hw, ?_⟩
        obtain ⟨r1, hr1⟩ : ∃ r, rs[j]? = some r := ⟨_, List.getElem?_eq_getElem (by omega)⟩
        obtain ⟨r2, hr2⟩ : ∃ r, rs[j + 1]? = some r := ⟨_, List.getElem?_eq_getElem (by omega)⟩
        obtain ⟨a1, ha1, ta1⟩ := W4.get hr1
        obtain ⟨a2, ha2, ta2⟩ := W4.get hr2
        have hS1 := hS r1 (List.mem_of_getElem? hr1)
        have hS2 := hS r2 (List.mem_of_getElem? hr2)
        have esp := split2 hr1 hr2
        have etot : tot rs = tot (rs.take j) + (r1.length + r2.length) + tot (rs.drop (j + 2)) := by
          conv => lhs; rw [esp]
          rw [tot_app, tot_app]
          show tot (rs.take j) + (r1.length + (r2.length + 0)) + tot (rs.drop (j + 2)) = _
          omega
        -- rows[:at]
        refine ⟨_, rfl, _, rfl, (j : Int), rfl, R, _, rfl, .inl (.inl hR4), fun p1 n1 => ?_⟩
        rw [cut_take]
        have s1 := same_upd (o := .lst (vs.take j)) n1
        have hR5 := s1 _ _ hR4
        refine ⟨_, rfl, _, rfl, R, _, (j : Int), .ref a1, rfl, rfl, .inl (.inl hR5), atI_nat ha1, _, rfl, _, rfl, _, _, rfl, rfl, R, _, ((j + 1 : Nat) : Int), .ref a2, rfl, rfl, .inl (.inl hR5), atI_nat ha2, a1, a2, _, _, rfl, rfl, Same.tup s1 ta1, Same.tup s1 ta2, ?_, fun p2 H6 t6 s6 => ?_⟩
        · rw [List.length_map, List.length_map]
          omega
        rw [← List.map_append] at t6
        refine ⟨_, rfl, by show 1 ≤ sizeLine; decide, fun p3 n3 => ?_⟩
        have s3 := same_upd (o := .tup [wv w]) n3
        refine ⟨p2, p3, _, [wv w], rfl, rfl, Same.tup s3 t6, sqt_upd, ?_, fun p4 H7 t7 s7 => ?_⟩
        · rw [List.length_map, List.length_append]
          show r1.length + r2.length + 1 ≤ 100000
          omega
        have t7 : SqT K H7 p4 ((r1 ++ r2 ++ [w]).map wv) := by
          rw [List.map_append]
          exact t7
        refine ⟨by show 1 ≤ sizeLine; decide, fun p5 n5 => ?_⟩
        have s5 := same_upd (o := .lst [.ref p4]) n5
        have S5 := ((s1.trans s6).trans s3).trans (s7.trans s5)
        have hp1 := (s6.trans s3).trans (s7.trans s5) _ _ (upd_same (H := H4) (a := p1) (o := .lst (vs.take j)))
        refine ⟨p1, p5, _, _, rfl, rfl, hp1, upd_same, ?_, fun p6 n6 => ?_⟩
        · refine Nat.le_trans (show (vs.take j).length + 1 ≤ 100 from ?_) (by decide)
          rw [List.length_take]
          omega
        have s6' := same_upd (o := .lst (vs.take j ++ [.ref p4])) n6
        have S6 := S5.trans s6'
        refine ⟨_, rfl, _, rfl, _, _, rfl, rfl, ((j + 2 : Nat) : Int), rfl, R, _, rfl, .inl (.inl (S6 _ _ hR4)), fun p7 n7 => ?_⟩
        rw [cut_drop]
        have s7' := same_upd (o := .lst (vs.drop (j + 2))) n7
        have S7 := S6.trans s7'
        refine ⟨p6, p7, _, _, rfl, rfl, s7' _ _ upd_same, upd_same, ?_, fun p8 n8 => ?_⟩
        · refine Nat.le_trans (show (vs.take j ++ [V.ref p4]).length + (vs.drop (j + 2)).length ≤ 100 from ?_) (by decide)
          rw [List.length_append, List.length_take, List.length_drop]
          show min j vs.length + 1 + (vs.length - (j + 2)) ≤ 100
          omega
        have s8 := same_upd (o := .lst (vs.take j ++ [.ref p4] ++ vs.drop (j + 2))) n8
        have S8 := S7.trans s8
        have W8 : Rws K _ (vs.take j ++ [.ref p4] ++ vs.drop (j + 2)) (rs.take j ++ [r1 ++ r2 ++ [w]] ++ rs.drop (j + 2)) := Rws.app (Rws.app ((W4.take j).same S8) (Rws.one (Same.tup (((s5.trans s6').trans s7').trans s8) t7))) ((W4.drop (j + 2)).same S8)
        have w7 := w4.same S7
        have w8 := w7.upd (o := .lst (vs.take j ++ [.ref p4] ++ vs.drop (j + 2))) n8
        have K7 := K4.trans (Same.kp S7)
        have K8 := K4.trans (Same.kp S8)
        have f8 := K7.free w7 n8
        have nn := w7.no n8
        have nc := w7.nc n8
        have hR8 := upd_same (H := (upd (upd (upd (upd H7 p5 (.lst [.ref p4])) p6 (.lst (vs.take j ++ [.ref p4]))) p7 (.lst (vs.drop (j + 2)))) p8 (.lst (vs.take j ++ [.ref p4] ++ vs.drop (j + 2))))) (a := p8) (o := .lst (vs.take j ++ [.ref p4] ++ vs.drop (j + 2)))
        have hR8 : (upd (upd (upd (upd H7 p5 (.lst [.ref p4])) p6 (.lst (vs.take j ++ [.ref p4]))) p7 (.lst (vs.drop (j + 2)))) p8 (.lst (vs.take j ++ [.ref p4] ++ vs.drop (j + 2)))) p8 = some (.lst (vs.take j ++ [.ref p4] ++ vs.drop (j + 2))) := upd_same
        generalize (upd (upd (upd (upd H7 p5 (.lst [.ref p4])) p6 (.lst (vs.take j ++ [.ref p4]))) p7 (.lst (vs.drop (j + 2)))) p8 (.lst (vs.take j ++ [.ref p4] ++ vs.drop (j + 2)))) = H8 at W8 w8 K8 hR8 ⊢
        have lj : (vs.take j).length = j := by rw [List.length_take]; omega
        have ljr : (rs.take j).length = j := by rw [List.length_take]; omega
        have len8 : (rs.take j ++ [r1 ++ r2 ++ [w]] ++ rs.drop (j + 2)).length + (i + 1) = m := by
          rw [List.length_append, List.length_append, ljr, List.length_drop]
          show j + 1 + (rs.length - (j + 2)) + (i + 1) = m
          omega
        have hSn : ∀ X, Sy cs X → ∀ x ∈ rs.take j ++ [X] ++ rs.drop (j + 2), Sy cs x := by
          intro X hX x hx
          rcases List.mem_append.mp hx with h | h
          · rcases List.mem_append.mp h with h | h
            · exact hS x (List.mem_of_mem_take h)
            · rw [List.mem_singleton] at h
              rw [h]
              exact hX
          · exact hS x (List.mem_of_mem_drop h)
        refine ⟨_, rfl, d, b + 4 * n - 3 * (i + 1), 6, rfl, by decide, by decide, w8.less (by omega), fun H9 u u0 u1 w9 k9 => ?_⟩
        have hR9 := k9 _ _ hR8 nn.1 nn.2
        have W9 := W8.kp w8 k9
        refine ⟨rfl, _, rfl, ite2 (fun e => ?_) (fun e => ?_)⟩
        · have hat : (vs.take j ++ [V.ref p4] ++ vs.drop (j + 2))[j]? = some (.ref p4) := by
            rw [List.append_assoc, List.getElem?_append_right (by omega), lj, Nat.sub_self]
            rfl
          have hrt : (rs.take j ++ [r1 ++ r2 ++ [w]] ++ rs.drop (j + 2))[j]? = some (r1 ++ r2 ++ [w]) := by
            rw [List.append_assoc, List.getElem?_append_right (by omega), ljr, Nat.sub_self]
            rfl
          obtain ⟨a4, ha4, ta4⟩ := W9.get hrt
          have ea : a4 = p4 := by
            rw [hat] at ha4
            exact (V.ref.inj (Option.some.inj ha4)).symm
          subst ea
          refine ⟨_, rfl, _, rfl, p8, _, (j : Int), .ref a4, rfl, rfl, .inl (.inl hR9), atI_nat hat, by show 1 ≤ sizeLine; decide, fun P2 n2 => ?_⟩
          have sa := same_upd (o := .tup [.str "not"]) n2
          refine ⟨a4, P2, _, [wv .nt], rfl, rfl, Same.tup sa ta4, sqt_upd, ?_, fun P3 Ha ta sb => ?_⟩
          · rw [List.length_map, List.length_append, List.length_append]
            show r1.length + r2.length + 1 + 1 ≤ 100000
            omega
          have ta : SqT K Ha P3 ((r1 ++ r2 ++ [w] ++ [Wd.nt]).map wv) := by
            rw [List.map_append]
            exact ta
          have hRa := sb _ _ (sa _ _ hR9)
          refine ⟨_, rfl, _, rfl, p8, _, (j : Int), j, rfl, rfl, hRa, ?_, ?_⟩
          · unfold ixN
            rw [if_pos (by omega), if_pos ?_]
            · rfl
            · rw [List.length_append, List.length_append, lj]
              show (j : Int) < ((j + 1 + (vs.drop (j + 2)).length : Nat) : Int)
              omega
          have eset : ∀ {α : Type} (A C : List α) (x y : α), A.length = j → (A ++ [x] ++ C).set j y = A ++ [y] ++ C := by
            intro α A C x y h
            rw [List.append_assoc, List.set_append_right _ _ (by omega), h, Nat.sub_self, List.append_assoc]
            rfl
          have Wb := (W9.same (sa.trans sb)).set ta j
          rw [eset _ _ _ _ lj, eset _ _ _ _ ljr] at Wb
          rw [eset _ _ _ _ lj]
          refine ⟨p8, _, _, _, _, _, _, _, rfl, upd_same, f8, nn.1, nc, nn.2, Rws.mono (fun a xs h => tup_upd hRa h) Wb, ?_, hSn _ (hS1.join hS2 hjn).not, ?_, ?_, ?_⟩
          · rw [List.length_append, List.length_append, ljr, List.length_drop]
            show j + 1 + (rs.length - (j + 2)) + (i + 1) = m
            omega
          · rw [tot_app, tot_app]
            have : tot [r1 ++ r2 ++ [w] ++ [Wd.nt]] = r1.length + r2.length + 2 := by
              show (r1 ++ r2 ++ [w] ++ [Wd.nt]).length + 0 = _
              rw [List.length_append, List.length_append, List.length_append]
              rfl
            rw [this]
            omega
          · exact ((w9.same (sa.trans sb)).mut nn.1 nc nn.2).less (by omega)
          · exact Kp.upd (((K8.trans k9)).trans (Same.kp (sa.trans sb))) f8
        · refine ⟨p8, _, _, _, _, _, _, _, rfl, hR9, f8, nn.1, nc, nn.2, W9, len8, hSn _ (hS1.join hS2 hjn), ?_, w9, K8.trans k9⟩
          rw [tot_app, tot_app]
          have : tot [r1 ++ r2 ++ [w]] = r1.length + r2.length + 1 := by
            show (r1 ++ r2 ++ [w]).length + 0 = _
            rw [List.length_append, List.length_append]
            rfl
          rw [this]
          omega
      · rintro σ H3 ⟨R, x4, x5, x6, x7, x8, vs', rs', rfl, hR, nR, nR1, nR2, nR3, hW, hlen', hS, ht, w3, k3⟩
        have e1 : ((vs.length : Int) - 1).toNat = m - 1 := by omega
        rw [e1] at hlen' ht w3
        obtain ⟨x, rfl⟩ : ∃ x, rs' = [x] := by
          match rs', hlen' with
          | [], h => simp at h; omega
          | [x], _ => exact ⟨x, rfl⟩
          | _ :: _ :: _, h => simp at h; omega
        obtain ⟨a, ha, ta⟩ := hW.get (j := 0) rfl
        refine ⟨_, rfl, R, _, 0, .ref a, rfl, rfl, .inl (.inl hR), atI_nat (j := 0) ha, q _ a x ta (hS x (by simp)) ?_ (w3.less (by omega)) k3⟩
        have : tot [x] = x.length := by
          show x.length + 0 = _
          omega
        rw [this] at ht
        omega
end
end B

namespace B
open PySem PySem.Spec PyProof.Rows L2

def sp_l_worlds (K : PySem.W.Frag) : Sp := fun vs H Q _ => ∃ (a ra : Addr) (cs : List Nat) (rvs : List V) (rs : List (List Wd)), vs = [.ref a] ∧ SqT K H a [.str (tx cs), .ref ra] ∧ SqT K H ra rvs ∧ Rws K H rvs rs ∧ (∀ r ∈ rs, Sy cs r ∧ r.length ≤ 10000) ∧ rs.length ≤ 1000 ∧ cs.length ≤ 6 ∧ (∀ c ∈ cs, c < 123) ∧ ∀ (H' : Hp) (p : Addr), SqT K H' p (wvs (wor cs rs)) → Same H H' → Q (.ref p) H'

section
variable {P : Program} {w : World} {K : PySem.W.Frag} {mg : Str → Option Value} {base : Heap}
theorem ok_l_worlds (T : Tx K mg) (U : Unl P base) : FnOk P w K mg base CX0 36 T.l_worlds.f T.l_worlds.fd ["_law_house"] (sp_l_worlds K) := by
  refine T.l_worlds.F.ok sc_l_worlds (fun vs H Q E h => ?_) (fun cdv A outer s H vs Q E hr h => ?_)
  · obtain ⟨a, ra, cs, rvs, rs, rfl, hA, hRa, hW, hY, hrl, hc6, hsm, q⟩ := h
    rfl
  · obtain ⟨a, ra, cs, rvs, rs, rfl, hA, hRa, hW, hY, hrl, hc6, hsm, q⟩ := h
    refine ⟨_, (pss_cons (ps_asg (pv 0) (pg_tup rfl (pgs_cons (pg_name (i := 1) sc_l_worlds.nd rfl (.inr rfl)) (pgs_cons (pg_name (i := 2) sc_l_worlds.nd rfl (.inl rfl)) pgs_nil))))
      (pss_cons (ps_set (i := 3) sc_l_worlds.nd rfl (.inl rfl) (pe_lst pa_nil))
      (pss_cons (ps_for PassesOwn.never rfl (pi_range1 (by rfl) T.m_range (pa_cons (pe_ix ix_list (pe_lst (pa_cons pe_int (pa_cons pe_int (pa_cons pe_int (pa_cons pe_int (pa_cons pe_int (pa_cons pe_int (pa_cons pe_int pa_nil)))))))) (pe_callB call_len_str (by rfl) T.m_len (by decide +kernel) (pa_cons (pv 1) pa_nil)) (fun _ _ => rfl)) pa_nil)) (pg_name (i := 4) sc_l_worlds.nd rfl (.inl rfl))
      (pss_cons (ps_set (i := 5) sc_l_worlds.nd rfl (.inr rfl) pe_str)
      (pss_cons (ps_set (i := 6) sc_l_worlds.nd rfl (.inl rfl) (pv 4))
      (pss_cons (ps_for PassesOwn.never rfl (pi_range1 (by rfl) T.m_range (pa_cons (pe_callB call_len_str (by rfl) T.m_len (by decide +kernel) (pa_cons (pv 1) pa_nil)) pa_nil)) (pg_name (i := 7) sc_l_worlds.nd rfl (.inl rfl))
      (pss_cons (ps_set (i := 5) sc_l_worlds.nd rfl (.inr rfl) (pe_op op_add_str (pe_callTy call_str_int (by rfl) T.m_str (by decide +kernel) (pa_cons (pe_op op_mod (pv 6) pe_int) pa_nil)) (pv 5)))
      (pss_one (ps_set (i := 6) sc_l_worlds.nd rfl (.inl rfl) (pe_op (op_fdivW U (hr.mono (by decide)) rfl sc_l_worlds.gen sc_l_worlds.co rfl rfl) (pv 6) pe_int)))))
      (pss_one (ps_if (pt_cmpR (op_eqD hr.units) (pe_lc (own := [("_law_rule", 8)]) (g := gName 8) rfl sc_l_worlds.nd (pi_tup (pv 2)) (blkOk_by (own := [("_law_rule", 8)]) (N := N_l_worlds) (sc := defScope s_l_worlds) (by decide +kernel)) (fun _ _ _ _ _ => (pg_name (i := 8) sc_l_worlds.nd rfl (.inl rfl))) (fun _ _ _ _ _ => (pts_one (pt_not (pt_val (pe_call (ok_l_holds T U) (hr.mono (by decide)) (by rfl) T.l_holds.g T.l_holds.F.kp T.l_holds.b .nil pass0 (pa_cons (pv 1) (pa_cons (pv 8) (pa_cons (pv 5) pa_nil)))))))) (fun _ _ _ _ _ => (pv 8))) (pe_lst pa_nil) (nomark _)) (pss_one (ps_expr (pe_bm PySem.F.plainAttrs_list PySem.F.slot_list_append PySem.F.type_list_append mt_append (pv 3) (pa_cons (pv 5) pa_nil)))) pss_nil))))))
      (pss_one (ps_ret (pe_callTy call_tuple_of (by rfl) T.m_tuple (by decide +kernel) (pa_cons (pv 3) pa_nil))))))), ?_⟩
    have csz : (tx cs).length ≤ sizeLine := Nat.le_trans (show cs.length ≤ 6 from hc6) (by decide)
    have pz : 2 ^ cs.length ≤ 64 := Nat.le_trans (Nat.pow_le_pow_right (by decide) hc6) (by decide)
    have rlen : rvs.length = rs.length := hW.len
    refine ⟨_, rfl, a, _, rfl, hA, rfl, _, _, rfl, _, _, rfl, rfl, ?_⟩
    refine ⟨by decide, fun F nF => ?_⟩
    refine ⟨by decide, fun L nL => ?_⟩
    have S0 := (same_upd (o := .lst []) nF).trans (same_upd (o := .lst [V.int 1, V.int 2, V.int 4, V.int 8, V.int 16, V.int 32, V.int 64]) nL)
    have hF0 := same_upd (o := .lst [V.int 1, V.int 2, V.int 4, V.int 8, V.int 16, V.int 32, V.int 64]) nL _ _ (upd_same (H := H) (a := F) (o := .lst []))
    refine ⟨_, rfl, tx cs, rfl, csz, L, _, (cs.length : Int), .int ((2 ^ cs.length : Nat) : Int), rfl, rfl, .inl (.inl upd_same), pow_at hc6, ((2 ^ cs.length : Nat) : Int), rfl, Int.le_trans (by decide) (Int.natCast_nonneg _), Int.lt_of_le_of_lt (Int.ofNat_le.mpr pz) (by decide), for_range (lo := 0) (n := ((2 ^ cs.length : Nat) : Int).toNat) (fun i σ H' => ∃ (x4 x5 x6 x7 x8 : Option V), σ = [some (.ref a), some (.str (tx cs)), some (.ref ra), some (.ref F), x4, x5, x6, x7, x8] ∧ H' F = some (.lst (wvs (((allW cs.length).take i).filter fun bs => rs.all fun r => sval (vl cs bs) r))) ∧ Same H H') ⟨none, none, none, none, none, rfl, hF0, S0⟩ ?_ ?_⟩
    · rintro i σ H1 hi ⟨x4, x5, x6, x7, x8, rfl, hF, s1⟩
      rw [Int.toNat_natCast] at hi
      refine ⟨_, rfl, ?_⟩
      refine ⟨_, rfl, tx cs, rfl, csz, (cs.length : Int), rfl, by omega, by omega, for_range (lo := 0) (n := ((cs.length : Int)).toNat) (fun p σ H' => ∃ (x7 : Option V), σ = [some (.ref a), some (.str (tx cs)), some (.ref ra), some (.ref F), some (.int (0 + (i : Int))), some (.str (wtx (bitsN p i))), some (.int ((i / 2 ^ p : Nat) : Int)), x7, x8] ∧ H' = H1) ⟨x7, ?_, rfl⟩ ?_ ?_⟩
      · have e0 : (0 : Int) + (i : Int) = ((i / 2 ^ 0 : Nat) : Int) := by rw [Nat.pow_zero, Nat.div_one]; omega
        rw [← e0]
        rfl
      · rintro p σ H2 hp ⟨x7, rfl, rfl⟩
        rw [Int.toNat_natCast] at hp
        refine ⟨_, rfl, _, _, rfl, rfl, (by show (0 : Int) < 2; decide), _, rfl, ?_, _, rfl, _, _, rfl, rfl, ?_, ?_⟩
        · have : (((i / 2 ^ p : Nat) : Int) % 2).natAbs < 2 ^ 1 := by omega
          exact Nat.lt_of_lt_of_le (PySem.Flt.log2_lt_of (by decide) this) (by decide)
        · rw [digit_len]
          refine Nat.le_trans (show 1 + ((bitsN p i).map bc).length ≤ 100 from ?_) (by decide)
          rw [List.length_map, bitsN_len]
          omega
        refine ⟨_, rfl, _, _, rfl, rfl, wide_div (b := 2) (by decide) (by decide) (by decide) (by decide), some (.int (0 + (p : Int))), ?_, rfl⟩
        have e1 : (Str.ofString (toString (((i / 2 ^ p : Nat) : Int) % 2)) : Str) ++ wtx (bitsN p i) = wtx (bitsN (p + 1) i) := digit_cons (i / 2 ^ p) (bitsN p i)
        have e2 : ((i / 2 ^ p : Nat) : Int) / 2 = ((i / 2 ^ (p + 1) : Nat) : Int) := by
          rw [Nat.pow_succ, ← Nat.div_div_eq_div_mul]
          rfl
        show [some (V.ref a), some (V.str (tx cs)), some (V.ref ra), some (V.ref F), some (V.int (0 + (i : Int))), some (V.str ((Str.ofString (toString (((i / 2 ^ p : Nat) : Int) % 2)) : Str) ++ wtx (bitsN p i))), some (V.int (((i / 2 ^ p : Nat) : Int) / 2)), some (V.int (0 + (p : Int))), x8] = _
        rw [e1, e2]
      rintro σ H2 ⟨x7, rfl, rfl⟩
      rw [Int.toNat_natCast]
      have hbl : cs.length = (bitsN cs.length i).length := (bitsN_len _ _).symm
      have hb6 : (bitsN cs.length i).length ≤ 100 := by rw [bitsN_len]; omega
      refine ⟨_, rfl, ra, rfl, ⟨_, Same.tup s1 hRa⟩, fun D nD => ?_⟩
      have sD := same_upd (o := .lst []) nD
      refine lc_tup (K := K) (a := ra) (xs := rvs) (fun j H' => ∃ (acc : List V) (as : List (List Wd)), H' D = some (.lst acc) ∧ Rws K H' acc as ∧ acc.length ≤ j ∧ (∀ r ∈ as, r ∈ rs) ∧ (as.isEmpty = (rs.take j).all fun r => sval (vl cs (bitsN cs.length i)) r) ∧ Same H2 H') ⟨[], [], upd_same, trivial, Nat.le_refl _, (fun x hx => nomatch hx), rfl, sD⟩ (fun j H' _ ⟨_, _, _, _, _, _, _, e⟩ => Same.tup (s1.trans e) hRa) ?_ ?_
      · rintro j x H3 hx ⟨acc, as, h1, h2, h3, h4, h5, s3⟩
        obtain ⟨ax, r, rfl, hr, tr⟩ := (hW.same (s1.trans s3)).getV hx
        have hrm := List.mem_of_getElem? hr
        have hj : j < rs.length := (List.getElem?_eq_some_iff.mp hr).1
        refine ⟨rfl, _, rfl, _, rfl, _, rfl, cs, ax, r, bitsN cs.length i, rfl, tr, (hY r hrm).1, hbl, hb6, (hY r hrm).2, fun H4 s4 => ⟨_, rfl, ?_⟩⟩
        have h5' := all_take (fun r => sval (vl cs (bitsN cs.length i)) r) rs j r hr
        cases ev : sval (vl cs (bitsN cs.length i)) r with
        | true =>
          refine iteF ⟨acc, as, s4 _ _ h1, h2.same s4, by omega, h4, ?_, s3.trans s4⟩
          rw [h5', h5, ev, Bool.and_true]
        | false =>
          refine iteT ⟨_, rfl, acc, s4 _ _ h1, ?_, acc ++ [.ref ax], as ++ [r], upd_same, ?_, ?_, ?_, ?_, ?_⟩
          · exact Nat.lt_of_le_of_lt (show acc.length ≤ 1000 by omega) (by decide)
          · exact Rws.mono (fun _ _ h => tup_upd (s4 _ _ h1) h) (Rws.app (h2.same s4) (Rws.one (Same.tup s4 tr)))
          · rw [List.length_append]
            show acc.length + 1 ≤ j + 1
            omega
          · intro y hy
            rcases List.mem_append.mp hy with h | h
            · exact h4 y h
            · rw [List.mem_singleton] at h
              rw [h]
              exact hrm
          · rw [h5', ev, Bool.and_false]
            cases as <;> rfl
          · intro b o e
            rw [upd_ne (ne_of_none e nD)]
            exact s4 _ _ (s3 _ _ e)
      rintro H3 ⟨acc, as, h1, h2, h3, h4, h5, s3⟩
      rw [rlen, List.take_length] at h5
      refine ⟨by decide, fun E1 nE => ?_⟩
      have sE := same_upd (o := .lst []) nE
      have hsh : SeqAt.shaped (.list (as.map wdat)) = true := rows_shaped hsm fun r hr => (hY r (h4 r hr)).1.lt
      refine ⟨_, _, .lst (.inl (.inl (sE _ _ h1))) (h2.same sE).dp, .lst sql_upd .nil, hsh, rfl, _, rfl, ?_⟩
      have ek : PyData.eqv (.list (as.map wdat)) (.list []) = rs.all fun r => sval (vl cs (bitsN cs.length i)) r := by
        rw [eqv_nil, List.isEmpty_map, h5]
      have hF3 := sE _ _ (s3 _ _ hF)
      have S3 := (s1.trans s3).trans sE
      have tf := take_filter (fun bs => rs.all fun r => sval (vl cs bs) r) (allW cs.length) i _ (allW_get hi)
      have flen : (wvs (((allW cs.length).take i).filter fun bs => rs.all fun r => sval (vl cs bs) r)).length ≤ 64 := by
        unfold wvs
        rw [List.length_map]
        refine Nat.le_trans (List.length_filter_le _ _) ?_
        rw [List.length_take]
        omega
      refine ite2 (fun e => ?_) (fun e => ?_)
      · rw [ek] at e
        refine ⟨_, rfl, .inl ⟨rfl, _, .inl (.inl hF3)⟩, _, rfl, F, _, _, rfl, rfl, hF3, ?_, ?_⟩
        · exact Nat.lt_of_le_of_lt flen (by decide)
        · refine ⟨_, _, _, _, _, rfl, ?_, fun b o e => ?_⟩
          · rw [upd_same, tf, e]
            unfold wvs
            rw [List.map_append]
            rfl
          · rw [upd_ne (ne_of_none e nF)]
            exact S3 _ _ e
      · rw [ek] at e
        have e : (rs.all fun r => sval (vl cs (bitsN cs.length i)) r) = false := by simpa using e
        refine ⟨_, _, _, _, _, rfl, ?_, S3⟩
        rw [tf, e]
        simp only [Bool.false_eq_true, if_false, List.append_nil]
        exact hF3
    · rintro σ H1 ⟨x4, x5, x6, x7, x8, rfl, hF, s1⟩
      rw [Int.toNat_natCast, List.take_of_length_le (by rw [allW_length]; exact Nat.le_refl _)] at hF
      exact ⟨_, rfl, F, _, rfl, .inl ⟨.inl (.inl hF), fun p np => q _ p sqt_upd (s1.trans (same_upd np))⟩⟩
end
end B

namespace B
open PySem PySem.Spec PyProof.Rows L2

def sp_l_longer (K : PySem.W.Frag) : Sp := fun vs H Q _ => ∃ (d : Dr) (b : Nat) (lt ct : Addr) (rvs cvs : List V) (cs : List Nat) (rows : List (List Bd)) (C : List (List Wd)), vs = [.ref d.dr, .ref lt, .ref ct] ∧ SqT K H lt rvs ∧ F2 (BsAt K H) rvs rows ∧ SqT K H ct cvs ∧ F2 (WsAt K H) cvs C ∧ C.length = rows.length ∧ 0 < rows.length ∧ rows.length ≤ 10 ∧ (∀ c ∈ cs, c < 123) ∧ (∀ c ∈ C, c.length ≤ 32) ∧ (∀ row ∈ rows, row.length ≤ 4 ∧ ∀ x ∈ row, LnB cs x ∧ x.g.length ≤ 10 ∧ BtOk cs x.ts x.g) ∧ Drw H d (b + 20) ∧ ∀ (H' : Hp) (p : Addr) (rvs' : List V) (rows' : List (List Bd)), SqT K H' p rvs' → F2 (BsAt K H') rvs' rows' → rows'.length = rows.length → (∀ row ∈ rows', row.length ≤ 4 ∧ ∀ x ∈ row, LnB cs x) → Drw H' d b → Kp d H H' → Q (.ref p) H'

section
variable {P : Program} {w : World} {K : PySem.W.Frag} {mg : Str → Option Value} {base : Heap}
theorem ok_l_longer (T : Tx K mg) (U : Unl P base) : FnOk P w K mg base CX0 36 T.l_longer.f T.l_longer.fd ["_law_drawn", "_law_lists", "_law_cells_here"] (sp_l_longer K) := by
  refine T.l_longer.F.ok sc_l_longer (fun vs H Q E h => ?_) (fun cdv A outer s H vs Q E hr h => ?_)
  · obtain ⟨d, b, lt, ct, rvs, cvs, cs, rows, C, rfl, tR, fR, tC, fC, hl, h0, h10, sm, h32, rok, hD, q⟩ := h
    rfl
  · obtain ⟨d, b, lt, ct, rvs, cvs, cs, rows, C, rfl, tR, fR, tC, fC, hl, h0, h10, sm, h32, rok, hD, q⟩ := h
    refine ⟨_, (pss_cons (ps_set (i := 3) sc_l_longer.nd rfl (.inl rfl) (pe_call (ok_l_next T U) (hr.mono (by decide)) (by rfl) T.l_next.g T.l_next.F.kp T.l_next.b .nil pass0 (pa_cons (pv 0) (pa_cons (pe_callB call_len_seq (by rfl) T.m_len (by decide +kernel) (pa_cons (pv 1) pa_nil)) pa_nil))))
      (pss_cons (ps_if (pt_cmpR (op_eqD hr.units) (pe_ix ix_tup (pv 1) (pv 3) (fun _ _ => rfl)) (pe_tup pa_nil) (nomark _)) (pss_one (ps_ret (pv 1))) pss_nil)
      (pss_cons (ps_asg (pe_ix ix_tup (pe_ix ix_tup (pv 1) (pv 3) (fun _ _ => rfl)) pe_int (fun _ _ => rfl)) (pg_tup rfl (pgs_cons (pg_tup rfl (pgs_cons (pg_name (i := 4) sc_l_longer.nd rfl (.inl rfl)) (pgs_cons (pg_name (i := 5) sc_l_longer.nd rfl (.inl rfl)) pgs_nil))) (pgs_cons (pg_name (i := 6) sc_l_longer.nd rfl (.inl rfl)) pgs_nil))))
      (pss_cons (ps_set (i := 7) sc_l_longer.nd rfl (.inl rfl) (pe_op op_sub (pe_op op_add (pe_op op_sub pe_int (pe_callB call_len_seq (by rfl) T.m_len (by decide +kernel) (pa_cons (pe_ix ix_tup (pv 2) (pv 3) (fun _ _ => rfl)) pa_nil))) (pe_call (ok_l_next T U) (hr.mono (by decide)) (by rfl) T.l_next.g T.l_next.F.kp T.l_next.b .nil pass0 (pa_cons (pv 0) (pa_cons pe_int pa_nil)))) pe_int))
      (pss_cons (ps_set (i := 5) sc_l_longer.nd rfl (.inl rfl) (pe_op op_catS (pv 5) (pe_op op_repN (pe_tup (pa_cons pe_str (pa_cons pe_str pa_nil))) (pe_op (op_fdivW U (hr.mono (by decide)) rfl sc_l_longer.gen sc_l_longer.co rfl rfl) (pe_op op_sub (pe_callB (call_min2 rfl) (by rfl) T.m_min (by decide +kernel) (pa_cons pe_int (pa_cons (pv 7) pa_nil))) (pe_callB call_len_seq (by rfl) T.m_len (by decide +kernel) (pa_cons (pv 5) pa_nil))) pe_int))))
      (pss_one (ps_ret (pe_op op_catS (pe_op op_catS (pe_slice sl_tupS (pv 1) po_none (po_some (pv 3))) (pe_tup (pa_cons (pe_op op_catS (pe_tup (pa_cons (pe_tup (pa_cons (pe_tup (pa_cons (pv 4) (pa_cons (pv 5) pa_nil))) (pa_cons (pv 6) pa_nil))) pa_nil)) (pe_slice sl_tupS (pe_ix ix_tup (pv 1) (pv 3) (fun _ _ => rfl)) (po_some pe_int) po_none)) pa_nil))) (pe_slice sl_tupS (pv 1) (po_some (pe_op op_add (pv 3) pe_int)) po_none))))))))), ?_⟩
    have lC := fC.len
    have lR := fR.len
    refine ⟨_, rfl, _, rfl, lt, _, rfl, .inr tR, d, b + 19, (rvs.length : Int), rfl, by omega, by omega, hD, fun H1 r r0 r1 w1 k1 => ?_⟩
    obtain ⟨i, rfl⟩ : ∃ i : Nat, r = (i : Int) := ⟨r.toNat, by omega⟩
    have T1 : Tk K H H1 := fun _ _ t => Kp.tup k1 hD t
    have hrow := List.getElem?_eq_getElem (l := rows) (i := i) (by omega)
    have hc := List.getElem?_eq_getElem (l := C) (i := i) (by omega)
    generalize rows[i]'(by omega) = row at hrow
    generalize C[i]'(by omega) = c at hc
    obtain ⟨vr, hvr, ra, bvs, rfl, tra, fra⟩ := (fR.imp fun _ _ z => BsAt.mono T1 z).getB hrow
    obtain ⟨vc, hvc, ca, rfl, tca⟩ := (fC.imp fun _ _ z => WsAt.mono T1 z).getB hc
    have c32 := h32 c (List.mem_of_getElem? hc)
    obtain ⟨r4, rx⟩ := rok row (List.mem_of_getElem? hrow)
    refine ⟨_, rfl, _, rfl, lt, rvs, (i : Int), .ref ra, rfl, rfl, T1 _ _ tR, atI_nat hvr, by show 0 ≤ sizeLine; decide, fun e0 ne0 => ?_⟩
    have z0 := same_upd (o := .tup []) ne0
    refine ⟨_, _, .tup (Same.tup z0 tra) ((bds_tk fra (Same.tk z0)).dp fun _ _ h => h.dp), .tup sqt_upd .nil, (bds_lyd sm fun x hx => (rx x hx).2.2).shaped (by decide), rfl, _, rfl, ?_⟩
    cases row with
    | nil =>
      exact iteK rfl ⟨_, rfl, q _ lt rvs rows (Same.tup z0 (T1 _ _ tR)) (fR.imp fun _ _ z => BsAt.mono (Same.tk z0) (BsAt.mono T1 z)) rfl (fun row hr => ⟨(rok row hr).1, fun x hx => ((rok row hr).2 x hx).1⟩) ((w1.same z0).less (by omega)) (k1.trans (Same.kp z0))⟩
    | cons y row =>
    refine iteE (bdsn_eqv0 (fun z => nomatch z)) ?_
    have w0 := w1.same z0
    have T0 : Tk K H (tgt z0) := fun _ _ t => Same.tup z0 (T1 _ _ t)
    obtain ⟨v0, hv0, bq, ba, bf, rfl, t1, t2, t3⟩ := (bds_tk fra (Same.tk z0)).getB (j := 0) rfl
    obtain ⟨ta, gp, tvs, tba, ttt, ftt, tgp⟩ := id t2
    obtain ⟨ly, g10, bty⟩ := rx y (List.mem_cons_self ..)
    refine ⟨_, rfl, _, rfl, lt, rvs, (i : Int), .ref ra, rfl, rfl, T0 _ _ tR, atI_nat hvr, ra, bvs, 0, .ref bq, rfl, rfl, Same.tup z0 tra, atI_nat hv0, bq, _, rfl, t1, rfl, _, _, rfl, ba, _, rfl, tba, rfl, _, _, rfl, _, _, rfl, rfl, _, _, rfl, rfl, ?_⟩
    refine ⟨_, rfl, _, rfl, ct, cvs, (i : Int), .ref ca, rfl, rfl, T0 _ _ tC, atI_nat hvc, ca, _, rfl, .inr (Same.tup z0 tca), _, _, rfl, rfl, _, rfl, d, b + 18, 5, rfl, by decide, by decide, w0, fun H2 r2 r20 r21 w2 k2 => ?_⟩
    have T2 : Tk K (tgt z0) H2 := fun _ _ t => Kp.tup k2 w0 t
    refine ⟨_, _, rfl, rfl, _, _, rfl, rfl, ?_⟩
    refine ⟨_, rfl, by show 2 ≤ sizeLine; decide, fun p3 n3 => ?_⟩
    have s3 := same_upd (o := .tup [.str "not", .str "not"]) n3
    refine ⟨_, rfl, _, _, rfl, _, rfl, gp, _, rfl, .inr (Same.tup s3 (T2 _ _ tgp)), _, _, rfl, rfl, _, _, rfl, rfl, by show (0 : Int) < 2; decide, ?_⟩
    obtain ⟨kk, ek⟩ : ∃ kk : Int, kk = ((if 39 - ((c.map wv).length : Int) + r2 - 2 < 40 then 39 - ((c.map wv).length : Int) + r2 - 2 else 40) - ((y.g.map wv).length : Int)) / 2 := ⟨_, rfl⟩
    show rRepN K (.ref p3) (.int (((if 39 - ((c.map wv).length : Int) + r2 - 2 < 40 then 39 - ((c.map wv).length : Int) + r2 - 2 else 40) - ((y.g.map wv).length : Int)) / 2)) _ _
    rw [← ek]
    rw [List.length_map, List.length_map] at ek
    have eb : -20 ≤ kk ∧ kk ≤ 20 ∧ (y.g.length : Int) + kk.toNat * 2 ≤ 40 := by
      split at ek <;> omega
    obtain ⟨e1, e2, e3⟩ := eb
    refine ⟨p3, kk, [.str "not", .str "not"], rfl, rfl, sqt_upd, (fun z => nomatch z), by omega, by omega, by decide, fun p4 H4 t4 s4 => ?_⟩
    rw [rep_two] at t4
    have t4 : SqT K H4 p4 ((List.replicate (kk.toNat * 2) Wd.nt).map wv) := by
      rw [List.map_replicate]
      exact t4
    have w3 := (w2.same s3).same s4
    have S34 := s3.trans s4
    refine ⟨gp, p4, _, _, rfl, rfl, Same.tup S34 (T2 _ _ tgp), t4, by rw [List.length_map, List.length_map, List.length_replicate]; omega, fun p5 H5 t5 s5 => ?_⟩
    rw [← List.map_append] at t5
    have S35 := S34.trans s5
    have T5 : Tk K H H5 := fun _ _ t => Same.tup S35 (T2 _ _ (T0 _ _ t))
    have U5 : Tk K (tgt z0) H5 := fun _ _ t => Same.tup S35 (T2 _ _ t)
    refine ⟨_, rfl, _, rfl, (i : Int), rfl, lt, rvs, rfl, T5 _ _ tR, fun c6 H6 t6 s6 => ?_⟩
    rw [cut_take] at t6
    refine ⟨_, rfl, _, rfl, by show 2 ≤ sizeLine; decide, fun p7 n7 => ?_⟩
    have s7 := same_upd (o := .tup [.ref ta, .ref p5]) n7
    refine ⟨_, rfl, by show 2 ≤ sizeLine; decide, fun p8 n8 => ?_⟩
    have s8 := same_upd (o := .tup [.ref p7, .ref bf]) n8
    refine ⟨by show 1 ≤ sizeLine; decide, fun p9 n9 => ?_⟩
    have s9 := same_upd (o := .tup [.ref p8]) n9
    have S69 := s6.trans (s7.trans (s8.trans s9))
    have U9 : Tk K (tgt z0) (tgt s9) := fun _ _ t => Same.tup S69 (U5 _ _ t)
    refine ⟨_, rfl, _, rfl, lt, rvs, (i : Int), .ref ra, rfl, rfl, U9 _ _ (T0 _ _ tR), atI_nat hvr, 1, rfl, ra, bvs, rfl, U9 _ _ (Same.tup z0 tra), fun c10 H10 t10 s10 => ?_⟩
    rw [show (1 : Int) = ((1 : Nat) : Int) from rfl, cut_drop] at t10
    have lb := fra.len
    have lb2 : bvs.length = row.length + 1 := lb
    refine ⟨p9, c10, [.ref p8], _, rfl, rfl, Same.tup s10 sqt_upd, t10, by rw [List.length_drop]; show 1 + (bvs.length - 1) ≤ 100000; omega, fun c11 H11 t11 s11 => ?_⟩
    refine ⟨by show 1 ≤ sizeLine; decide, fun p12 n12 => ?_⟩
    have s12 := same_upd (o := .tup [.ref c11]) n12
    have S12 := S69.trans (s10.trans (s11.trans s12))
    refine ⟨c6, p12, _, [.ref c11], rfl, rfl, Same.tup (s7.trans (s8.trans (s9.trans (s10.trans (s11.trans s12))))) t6, sqt_upd, by rw [List.length_take]; show min i rvs.length + 1 ≤ 100000; omega, fun c13 H13 t13 s13 => ?_⟩
    have S13 := S12.trans s13
    have T13 : Tk K H H13 := fun _ _ t => Same.tup S13 (T5 _ _ t)
    refine ⟨_, rfl, _, rfl, _, _, rfl, rfl, ((i + 1 : Nat) : Int), rfl, lt, rvs, rfl, T13 _ _ tR, fun c14 H14 t14 s14 => ?_⟩
    rw [cut_drop] at t14
    refine ⟨c13, c14, _, _, rfl, rfl, Same.tup s14 t13, t14, by rw [List.length_append, List.length_take, List.length_drop]; show min i rvs.length + 1 + (rvs.length - (i + 1)) ≤ 100000; omega, fun c15 H15 t15 s15 => ?_⟩
    have SE := S13.trans (s14.trans s15)
    have S10E := s10.trans (s11.trans (s12.trans (s13.trans (s14.trans s15))))
    have TE : Tk K H H15 := fun _ _ t => Same.tup SE (T5 _ _ t)
    have UE : Tk K (tgt z0) H15 := fun _ _ t => Same.tup SE (U5 _ _ t)
    have fE := fR.imp fun _ _ z => BsAt.mono TE z
    have lz : (rows.take i).length = i := by rw [List.length_take]; omega
    have newBd : BdAt K H15 (.ref p8) ⟨y.ts, y.g ++ List.replicate (kk.toNat * 2) Wd.nt, y.p⟩ := ⟨p8, p7, bf, rfl, Same.tup (s9.trans S10E) sqt_upd, ⟨ta, p5, tvs, Same.tup (s8.trans (s9.trans S10E)) sqt_upd, UE _ _ ttt, tms_tk ftt UE, Same.tup SE t5⟩, UE _ _ t3⟩
    have f1 : F2 (BdAt K H15) (bvs.drop 1) row := (bds_tk fra fun _ _ t => UE _ _ (Same.tup z0 t)).drop 1
    have newRow : BsAt K H15 (.ref c11) (⟨y.ts, y.g ++ List.replicate (kk.toNat * 2) Wd.nt, y.p⟩ :: row) := ⟨c11, _, rfl, Same.tup (s12.trans (s13.trans (s14.trans s15))) t11, .cons newBd f1⟩
    refine q _ c15 _ (rows.take i ++ [⟨y.ts, y.g ++ List.replicate (kk.toNat * 2) Wd.nt, y.p⟩ :: row] ++ rows.drop (i + 1)) t15 (((fE.take i).app (F2.one newRow)).app (fE.drop (i + 1))) ?_ (fun r hr => ?_) (((w3.same s5).same SE).less (by omega)) (((k1.trans (Same.kp z0)).trans k2).trans (Same.kp (S35.trans SE)))
    · rw [List.length_append, List.length_append, List.length_take, List.length_drop]
      show min i rows.length + 1 + (rows.length - (i + 1)) = rows.length
      omega
    · have old : ∀ r ∈ rows, r.length ≤ 4 ∧ ∀ x ∈ r, LnB cs x := fun r hr => ⟨(rok r hr).1, fun x hx => ((rok r hr).2 x hx).1⟩
      rcases List.mem_append.mp hr with hr | hr
      · rcases List.mem_append.mp hr with hr | hr
        · exact old r (List.mem_of_mem_take hr)
        · rw [List.mem_singleton.mp hr]
          refine ⟨r4, fun x hx => ?_⟩
          rcases List.mem_cons.mp hx with rfl | hx
          · exact ly.nots (by omega)
          · exact (rx x (List.mem_cons_of_mem _ hx)).1
      · exact old r (List.mem_of_mem_drop hr)
end
end B

namespace B
open PySem PySem.Spec PyProof.Rows L2

def sp_called_off (K : PySem.W.Frag) : Sp := fun vs H Q E => ∃ (a b : Addr) (ts : List Tm) (g ws : List Wd), vs = [.ref a, .ref b] ∧ BtAt K H a ts g ∧ SqT K H b (ws.map wv) ∧ g.length + ws.length ≤ 1000 ∧
  (40 < g.length + ws.length + 1 → ∀ C, XIs K "TooLong" C → ∀ d H', DOk H' d → Same H H' → E (.ref C) d H') ∧ (g.length + ws.length + 1 ≤ 40 → ∀ (H' : Hp) (p : Addr), BtAt K H' p ts (g ++ ws ++ [.an]) → Same H H' → Q (.ref p) H')

section
variable {P : Program} {w : World} {K : PySem.W.Frag} {mg : Str → Option Value} {base : Heap}
theorem ok_called_off (T : Tx K mg) (U : Unl P base) : FnOk P w K mg base (L2N.CX P w) 37 T.called_off.f T.called_off.fd ["bet", "saying"] (sp_called_off K) := by
  refine okXN T.called_off.F sc_called_off (fun vs H Q E h => ?_) (fun cdv A outer s H vs Q E hr h => ?_)
  · obtain ⟨a, b, ts, g, ws, rfl, hA, hB, hz, e1, q⟩ := h
    rfl
  · obtain ⟨a, b, ts, g, ws, rfl, hA, hB, hz, e1, q⟩ := h
    refine ⟨_, (pss_cons (ps_asg (pv 0) (pg_tup rfl (pgs_cons (pg_name (i := 2) sc_called_off.nd rfl (.inl rfl)) (pgs_cons (pg_name (i := 3) sc_called_off.nd rfl (.inl rfl)) pgs_nil))))
      (pss_one (ps_ret (pe_tup (pa_cons (pv 2) (pa_cons (pe_callS (ok_both T U) (hr.mono (by decide)) (by rfl) T.both.g T.both.F.kp T.both.b (fun σ => L2N.passAt (L2N.takes_of rfl rfl rfl rfl) σ) (pa_cons (pv 3) (pa_cons (pv 1) pa_nil))) pa_nil)))))), ?_⟩
    obtain ⟨pa, ca, va, tA, tpa, fa, tca⟩ := hA.parts
    refine ⟨_, rfl, a, _, rfl, tA, rfl, _, _, rfl, _, _, rfl, rfl, ?_⟩
    refine ⟨_, rfl, _, rfl, _, rfl, ca, b, g, ws, rfl, tca, hB, hz, fun z C hC d H' dk s => e1 z C hC d H' dk s, fun z H1 p1 t1 s1 => ?_⟩
    refine ⟨by show 2 ≤ sizeLine; decide, fun p2 n2 => ?_⟩
    have s2 := same_upd (o := .tup [.ref pa, .ref p1]) n2
    exact q z _ p2 ⟨pa, p1, _, sqt_upd, Same.tup (s1.trans s2) tpa, tms_same fa (s1.trans s2), Same.tup s2 t1⟩ (s1.trans s2)
end
end B

namespace B
open PySem PySem.Spec PyProof.Rows L2

def sp_l_paid (K : PySem.W.Frag) : Sp := fun vs H Q _ => ∃ (cs : List Nat) (a : Addr) (ts : List Tm) (g : List Wd) (bs : List Bool), vs = [.str (tx cs), .ref a, .str (wtx bs)] ∧ BtAt K H a ts g ∧ BtOk cs ts g ∧ cs.length = bs.length ∧ bs.length ≤ 100 ∧ ∀ (H' : Hp) (u : V), PdAt K H' u (payO (vl cs bs) ts g) → Same H H' → Q u H'

section
variable {P : Program} {w : World} {K : PySem.W.Frag} {mg : Str → Option Value} {base : Heap}
theorem ok_l_paid (T : Tx K mg) (U : Unl P base) : FnOk P w K mg base CX0 37 T.l_paid.f T.l_paid.fd ["_law_letters", "_law_bet_here", "_law_world"] (sp_l_paid K) := by
  refine T.l_paid.F.ok sc_l_paid (fun vs H Q E h => ?_) (fun cdv A outer s H vs Q E hr h => ?_)
  · obtain ⟨cs, a, ts, g, bs, rfl, hA, hO, hl, hb, q⟩ := h
    rfl
  · obtain ⟨cs, a, ts, g, bs, rfl, hA, hO, hl, hb, q⟩ := h
    refine ⟨_, (pss_cons (ps_if (pt_not (pt_val (pe_call (ok_l_holds T U) (hr.mono (by decide)) (by rfl) T.l_holds.g T.l_holds.F.kp T.l_holds.b .nil pass0 (pa_cons (pv 0) (pa_cons (pe_ix ix_tup (pv 1) pe_int (fun _ _ => rfl)) (pa_cons (pv 2) pa_nil)))))) (pss_one (ps_ret pe_non)) pss_nil)
      (pss_cons (ps_set (i := 3) sc_l_paid.nd rfl (.inl rfl) (pe_tup (pa_cons pe_int (pa_cons pe_int pa_nil))))
      (pss_cons (ps_for PassesOwn.never rfl (pi_tup (pe_ix ix_tup (pv 1) pe_int (fun _ _ => rfl))) (pg_tup rfl (pgs_cons (pg_name (i := 4) sc_l_paid.nd rfl (.inl rfl)) (pgs_cons (pg_name (i := 5) sc_l_paid.nd rfl (.inl rfl)) pgs_nil)))
      (pss_one (ps_if (pt_val (pe_call (ok_l_holds T U) (hr.mono (by decide)) (by rfl) T.l_holds.g T.l_holds.F.kp T.l_holds.b .nil pass0 (pa_cons (pv 0) (pa_cons (pv 5) (pa_cons (pv 2) pa_nil))))) (pss_one (ps_set (i := 3) sc_l_paid.nd rfl (.inl rfl) (pe_call (ok_l_plus T U) (hr.mono (by decide)) (by rfl) T.l_plus.g T.l_plus.F.kp T.l_plus.b .nil pass0 (pa_cons (pv 3) (pa_cons (pv 4) pa_nil))))) pss_nil)))
      (pss_one (ps_ret (pv 3)))))), ?_⟩
    obtain ⟨pt, pg, tvs, tA, tP, tF, tG⟩ := hA
    refine ⟨_, rfl, _, rfl, a, _, 1, .ref pg, rfl, rfl, tA, rfl, _, rfl, cs, pg, g, bs, rfl, tG, hO.sy, hl, hb, by have := hO.ln; omega, fun H1 s1 => ⟨_, rfl, ?_⟩⟩
    cases hg : sval (vl cs bs) g with
    | false => exact iteT (q _ .non (by unfold payO; rw [hg]; exact rfl) s1)
    | true =>
      refine iteF ?_
      refine ⟨by show 2 ≤ sizeLine; decide, fun u0 n0 => ?_⟩
      have s0 := s1.trans (same_upd (o := .tup [.int 0, .int 1]) n0)
      refine ⟨_, rfl, a, _, 0, .ref pt, rfl, rfl, Same.tup s0 tA, rfl, pt, rfl, ⟨_, Same.tup s0 tP⟩, for_tup (K := K) (a := pt) (xs := tvs) (fun i σ H' => ∃ (x6 x7 : Option V) (u : Addr), σ = [some (.str (tx cs)), some (.ref a), some (.str (wtx bs)), some (.ref u), x6, x7] ∧ SqT K H' u [.int (pay (vl cs bs) (ts.take i)).1, .int (pay (vl cs bs) (ts.take i)).2] ∧ Same H H') ⟨none, none, u0, rfl, sqt_upd, s0⟩ (fun i σ H' _ ⟨_, _, _, _, _, e⟩ => Same.tup e tP) ?_ ?_⟩
      · rintro i x σ H2 hx ⟨x6, x7, u, rfl, tu, s2⟩
        obtain ⟨y, hy, p, f, c, rfl, t1, t2, t3⟩ := (tF.imp fun _ _ h => TmAt.mono (fun _ _ q => Same.tup s2 q) h).getA hx
        have ym := hO.tm y (List.mem_of_getElem? hy)
        have po := (pay_okB (vl cs bs) hO i).up (show 390000 ≤ 400000 by decide)
        have ya := ym.a.up (show 240 ≤ 400000 by decide)
        refine ⟨p, _, rfl, t1, rfl, _, _, rfl, _, _, rfl, rfl, ?_⟩
        refine ⟨_, rfl, _, rfl, _, rfl, cs, c, y.w, bs, rfl, t3, ym.sy, hl, hb, by have := ym.ln; omega, fun H3 s3 => ⟨_, rfl, ?_⟩⟩
        have ep := pay_take (vl cs bs) hy
        cases hv : sval (vl cs bs) y.w with
        | false =>
          rw [hv] at ep
          exact iteF ⟨_, _, u, rfl, by rw [ep]; exact Same.tup s3 tu, s2.trans s3⟩
        | true =>
          rw [hv] at ep
          exact iteT ⟨_, rfl, _, rfl, u, f, _, _, _, _, rfl, Same.tup s3 tu, Same.tup s3 t2, po.f, ya.f, po.z, ya.z, fun p3 n3 => ⟨_, _, p3, rfl, by rw [ep]; exact sqt_upd, (s2.trans s3).trans (same_upd n3)⟩⟩
      · rintro σ H2 ⟨x6, x7, u, rfl, tu, s2⟩
        rw [tF.len, List.take_length] at tu
        exact ⟨_, rfl, q _ (.ref u) (by unfold payO; rw [hg]; exact ⟨u, rfl, tu⟩) s2⟩
end
end B

namespace B
open PySem PySem.Spec PyProof.Rows L2

def sp_l_bet (K : PySem.W.Frag) : Sp := fun vs H Q _ => ∃ (d : Dr) (n b : Nat) (cs : List Nat), vs = [.ref d.dr, .str (tx cs), .int n] ∧ n ≤ 8 ∧ 1 ≤ cs.length ∧ cs.length ≤ 100 ∧ Drw H d (b + 330) ∧ ∀ (H' : Hp) (p : Addr) (ts : List Tm) (g : List Wd), BtAt K H' p ts g → BtOk cs ts g → BtSm n ts g → Drw H' d b → Kp d H H' → Q (.ref p) H'

section
variable {P : Program} {w : World} {K : PySem.W.Frag} {mg : Str → Option Value} {base : Heap}
theorem ok_l_bet (T : Tx K mg) (U : Unl P base) : FnOk P w K mg base CX0 37 T.l_bet.f T.l_bet.fd ["_law_drawn", "_law_letters", "_law_most"] (sp_l_bet K) := by
  refine T.l_bet.F.ok sc_l_bet (fun vs H Q E h => ?_) (fun cdv A outer s H vs Q E hr h => ?_)
  · obtain ⟨d, n, b, cs, rfl, hn, hc1, hc2, hD, q⟩ := h
    rfl
  · obtain ⟨d, n, b, cs, rfl, hn, hc1, hc2, hD, q⟩ := h
    refine ⟨_, (pss_cons (ps_set (i := 3) sc_l_bet.nd rfl (.inl rfl) (pe_lst pa_nil))
      (pss_cons (ps_for PassesOwn.never rfl (pi_range1 (by rfl) T.m_range (pa_cons (pe_call (ok_l_next T U) (hr.mono (by decide)) (by rfl) T.l_next.g T.l_next.F.kp T.l_next.b .nil pass0 (pa_cons (pv 0) (pa_cons (pe_op op_add (pv 2) pe_int) pa_nil))) pa_nil)) (pg_name (i := 4) sc_l_bet.nd rfl (.inl rfl))
      (pss_cons (ps_set (i := 5) sc_l_bet.nd rfl (.inl rfl) (pe_call (ok_l_fraction T U) (hr.mono (by decide)) (by rfl) T.l_fraction.g T.l_fraction.F.kp T.l_fraction.b .nil pass0 (pa_cons (pv 0) pa_nil)))
      (pss_one (ps_expr (pe_bm PySem.F.plainAttrs_list PySem.F.slot_list_append PySem.F.type_list_append mt_append (pv 3) (pa_cons (pe_tup (pa_cons (pv 5) (pa_cons (pe_call (ok_l_saying T U) (hr.mono (by decide)) (by rfl) T.l_saying.g T.l_saying.F.kp T.l_saying.b .nil pass0 (pa_cons (pv 0) (pa_cons (pv 1) (pa_cons pe_int pa_nil)))) pa_nil))) pa_nil))))))
      (pss_cons (ps_set (i := 6) sc_l_bet.nd rfl (.inl rfl) (pe_tup (pa_cons pe_str pa_nil)))
      (pss_cons (ps_if (pt_cmpR op_eq (pe_call (ok_l_next T U) (hr.mono (by decide)) (by rfl) T.l_next.g T.l_next.F.kp T.l_next.b .nil pass0 (pa_cons (pv 0) (pa_cons pe_int pa_nil))) pe_int (nomark _)) (pss_one (ps_set (i := 6) sc_l_bet.nd rfl (.inl rfl) (pe_call (ok_l_saying T U) (hr.mono (by decide)) (by rfl) T.l_saying.g T.l_saying.F.kp T.l_saying.b .nil pass0 (pa_cons (pv 0) (pa_cons (pv 1) (pa_cons pe_int pa_nil)))))) pss_nil)
      (pss_one (ps_ret (pe_tup (pa_cons (pe_callTy call_tuple_of (by rfl) T.m_tuple (by decide +kernel) (pa_cons (pv 3) pa_nil)) (pa_cons (pv 6) pa_nil))))))))), ?_⟩
    refine ⟨by decide, fun R nR => ?_⟩
    have fR := nR
    have nR1 := hD.no nR
    have nR2 := hD.nc nR
    refine ⟨_, rfl, _, rfl, _, _, rfl, rfl, ?_⟩
    refine ⟨d, b + 329, _, rfl, by show (0 : Int) < (n : Int) + 1; omega, by show ((n : Int) + 1).natAbs < 2 ^ 70; omega, hD.upd nR, fun H2 r r0 r1 w2 k2 => ?_⟩
    have rn : r.toNat ≤ n := by have r1 : r < (n : Int) + 1 := r1; omega
    refine ⟨r, rfl, by omega, by have r1 : r < (n : Int) + 1 := r1; omega, for_range (lo := 0) (n := r.toNat) (fun i σ H' => ∃ (x4 x5 x6 : Option V) (vs : List V) (ts : List Tm), σ = [some (.ref d.dr), some (.str (tx cs)), some (.int n), some (.ref R), x4, x5, x6] ∧ H' R = some (.lst vs) ∧ F2 (TmAt K H') vs ts ∧ ts.length = i ∧ (∀ x ∈ ts, TmSm cs x) ∧ Drw H' d (b + 329 - 34 * i) ∧ Kp d H H') ⟨none, none, none, [], [], rfl, k2 _ _ upd_same nR1.1 nR1.2, .nil, rfl, (fun x hx => nomatch hx), w2, (Same.kp (same_upd nR)).trans k2⟩ ?_ ?_⟩
    · rintro i σ H3 hi ⟨x4, x5, x6, vs, ts, rfl, hR, hF, hl, hT, w3, k3⟩
      have hi8 : i < 8 := by omega
      refine ⟨_, rfl, d, b + 329 - 34 * i - 10, rfl, w3.less (by omega), fun H4 pf t z h4 f4 z4 w4 k4 => ?_⟩
      have hR4 := k4 _ _ hR nR1.1 nR1.2
      refine ⟨_, rfl, .inl ⟨rfl, _, .inl (.inl hR4)⟩, _, rfl, _, rfl, _, rfl, d, b + 329 - 34 * (i + 1), 3, cs, rfl, hc1, hc2, by decide, by decide, w4.less (by omega), fun H5 ps ws t5 y5 l5 w5 k5 => ?_⟩
      have hR5 := k5 _ _ hR4 nR1.1 nR1.2
      have tf5 : SqT K H5 pf [.int t, .int z] := Kp.tup k5 w4 (.inl (.inl h4))
      refine ⟨by show 2 ≤ sizeLine; decide, fun pp np => ?_⟩
      have s6 := same_upd (o := .tup [.ref pf, .ref ps]) np
      have hR6 := s6 _ _ hR5
      have vl : vs.length = ts.length := hF.len
      refine ⟨R, _, _, rfl, rfl, hR6, Nat.lt_of_le_of_lt (show vs.length ≤ 100 by omega) (by decide), ?_⟩
      refine ⟨_, _, _, vs ++ [.ref pp], ts ++ [⟨(t, z), ws⟩], rfl, upd_same, ?_, by rw [List.length_append, hl]; rfl, ?_, ((w5.same s6).mut nR1.1 nR2 nR1.2), ?_⟩
      · have M : ∀ a xs, SqT K H3 a xs → SqT K (upd H5 pp (.tup [.ref pf, .ref ps])) a xs := fun a xs h => Same.tup s6 (Kp.tup k5 w4 (Kp.tup k4 w3 h))
        refine ((hF.imp fun _ _ h => TmAt.mono M h).app (.one ?_)).imp fun _ _ h => TmAt.mono (fun _ _ t => tup_upd hR6 t) h
        exact ⟨pp, pf, ps, rfl, sqt_upd, Same.tup s6 tf5, Same.tup s6 t5⟩
      · intro x hx
        rcases List.mem_append.mp hx with h | h
        · exact hT x h
        · rw [List.mem_singleton] at h
          rw [h]
          exact ⟨⟨f4, z4⟩, y5, by show ws.length ≤ 10; omega⟩
      · exact kp_mut fR (((k3.trans k4).trans k5).trans (Same.kp s6))
    · rintro σ H3 ⟨x4, x5, x6, vs, ts, rfl, hR, hF, hl, hT, w3, k3⟩
      refine ⟨by show 1 ≤ sizeLine; decide, fun G0 nG => ?_⟩
      have s4 := same_upd (o := .tup [.str "yes"]) nG
      have hR4 := s4 _ _ hR
      have w4 := (w3.same s4).less (show b + 25 ≤ b + 329 - 34 * r.toNat by omega)
      have fin : ∀ (H5 : Hp) (pg : Addr) (ws : List Wd), SqT K H5 pg (ws.map wv) → Sy cs ws → ws.length ≤ 10 → H5 R = some (.lst vs) → F2 (TmAt K H5) vs ts → Drw H5 d b → Kp d H H5 → ∀ pt, H5 pt = none → ∀ pb, upd H5 pt (.tup vs) pb = none → Q (.ref pb) (upd (upd H5 pt (.tup vs)) pb (.tup [.ref pt, .ref pg])) := by
        intro H5 pg ws t5 y5 l5 h5 F5 w5 k5 pt npt pb npb
        have s6 := same_upd (o := .tup vs) npt
        have s7 := same_upd (o := .tup [.ref pt, .ref pg]) npb
        have S := s6.trans s7
        have tl : ts.length ≤ n := by omega
        refine q _ pb ts ws ⟨pt, pg, vs, sqt_upd, Same.tup s7 sqt_upd, F5.imp fun _ _ h => TmAt.mono (fun _ _ t => Same.tup S t) h, Same.tup S t5⟩ ⟨fun x hx => ⟨(hT x hx).a.up (by decide), (hT x hx).sy, by have := (hT x hx).ln; omega⟩, by omega, y5, by omega⟩ ⟨tl, fun x hx => ⟨(hT x hx).a, (hT x hx).ln⟩, l5⟩ (w5.same S) (k5.trans (Same.kp S))
      refine ⟨_, rfl, d, b + 24, 2, rfl, by decide, by decide, w4, fun H5 r5 r50 r51 w5 k5 => ?_⟩
      have hR5 := k5 _ _ hR4 nR1.1 nR1.2
      have M5 : ∀ a xs, SqT K H3 a xs → SqT K H5 a xs := fun a xs h => Kp.tup k5 w4 (Same.tup s4 h)
      have F5 : F2 (TmAt K H5) vs ts := hF.imp fun _ _ h => TmAt.mono M5 h
      have K5 := (k3.trans (Same.kp s4)).trans k5
      refine ⟨rfl, _, rfl, ite2 (fun e => ?_) (fun e => ?_)⟩
      · refine ⟨_, rfl, _, rfl, d, b, 3, cs, rfl, hc1, hc2, by decide, by decide, w5.less (by omega), fun H6 ps ws t6 y6 l6 w6 k6 => ?_⟩
        have hR6 := k6 _ _ hR5 nR1.1 nR1.2
        refine ⟨_, rfl, R, _, rfl, .inl ⟨.inl (.inl hR6), fun pt npt => ?_⟩⟩
        refine ⟨_, rfl, by show 2 ≤ sizeLine; decide, fun pb npb => ?_⟩
        exact fin H6 ps ws t6 y6 (by omega) hR6 (F5.imp fun _ _ h => TmAt.mono (fun _ _ t => Kp.tup k6 w5 t) h) w6 (K5.trans k6) pt npt pb npb
      · have tG : SqT K H5 G0 ([Wd.yes].map wv) := Kp.tup k5 w4 sqt_upd
        refine ⟨_, rfl, R, _, rfl, .inl ⟨.inl (.inl hR5), fun pt npt => ?_⟩⟩
        refine ⟨_, rfl, by show 2 ≤ sizeLine; decide, fun pb npb => ?_⟩
        exact fin H5 G0 [Wd.yes] tG Sy.yes (by decide) hR5 F5 (w5.less (by omega)) K5 pt npt pb npb
end
end B

namespace B
open PySem PySem.Spec PyProof.Rows L2

def sp_l_price (K : PySem.W.Frag) : Sp := fun vs H Q _ => ∃ (d : Dr) (b z : Nat) (t : Addr) (us : List V) (tab : List (Option (Int × Nat))), vs = [.ref d.dr, .ref t] ∧ SqT K H t us ∧ F2 (PdAt K H) us tab ∧ tab.length ≤ 1000 ∧ somes tab ≠ [] ∧ (∀ o ∈ tab, OOk z o) ∧ 80 ≤ z ∧ z ≤ 1900 ∧ Drw H d (b + 20) ∧ ∀ (H' : Hp) (p : Addr) (x : Int × Nat), SqT K H' p [.int x.1, .int x.2] → Fok (2 * z + 8) x → Drw H' d b → Kp d H H' → Q (.ref p) H'

section
variable {P : Program} {w : World} {K : PySem.W.Frag} {mg : Str → Option Value} {base : Heap}
theorem ok_l_price (T : Tx K mg) (U : Unl P base) : FnOk P w K mg base CX0 37 T.l_price.f T.l_price.fd ["_law_drawn", "_law_table_here"] (sp_l_price K) := by
  refine T.l_price.F.ok sc_l_price (fun vs H Q E h => ?_) (fun cdv A outer s H vs Q E hr h => ?_)
  · obtain ⟨d, b, z, t, us, tab, rfl, tT, fT, ltab, hne, hz, hz1, hz2, hD, q⟩ := h
    rfl
  · obtain ⟨d, b, z, t, us, tab, rfl, tT, fT, ltab, hne, hz, hz1, hz2, hD, q⟩ := h
    refine ⟨_, (pss_cons (ps_setLc (i := 3) (own := [("_law_one", 2)]) (g := gName 2) rfl sc_l_price.nd rfl rfl (sw_true rfl rfl rfl (by decide +kernel)) (pi_tup (pv 1)) (blkOk_by (own := [("_law_one", 2)]) (N := N_l_price) (sc := defScope s_l_price) (by decide +kernel)) (fun _ _ _ _ _ => (pg_name (i := 2) sc_l_price.nd rfl (.inl rfl))) (fun _ _ _ _ _ => (pts_one (pt_cmpR op_notN (pv 2) pe_non (nomark _)))) (fun _ _ _ _ _ => (pv 2)))
      (pss_cons (ps_set (i := 2) sc_l_price.nd rfl (.inl rfl) (pe_ix ix_list (pv 3) (pe_call (ok_l_next T U) (hr.mono (by decide)) (by rfl) T.l_next.g T.l_next.F.kp T.l_next.b .nil pass0 (pa_cons (pv 0) (pa_cons (pe_callB call_len_seq (by rfl) T.m_len (by decide +kernel) (pa_cons (pv 3) pa_nil)) pa_nil))) (fun _ _ => rfl)))
      (pss_cons (ps_set (i := 4) sc_l_price.nd rfl (.inl rfl) (pe_ix ix_list (pv 3) (pe_call (ok_l_next T U) (hr.mono (by decide)) (by rfl) T.l_next.g T.l_next.F.kp T.l_next.b .nil pass0 (pa_cons (pv 0) (pa_cons (pe_callB call_len_seq (by rfl) T.m_len (by decide +kernel) (pa_cons (pv 3) pa_nil)) pa_nil))) (fun _ _ => rfl)))
      (pss_cons (ps_set (i := 5) sc_l_price.nd rfl (.inl rfl) (pe_call (ok_l_next T U) (hr.mono (by decide)) (by rfl) T.l_next.g T.l_next.F.kp T.l_next.b .nil pass0 (pa_cons (pv 0) (pa_cons pe_int pa_nil))))
      (pss_cons (ps_if (pt_cmpR op_eq (pv 5) pe_int (nomark _)) (pss_one (ps_ret (pv 2))) pss_nil)
      (pss_cons (ps_if (pt_cmpR op_eq (pv 5) pe_int (nomark _)) (pss_one (ps_ret (pe_call (ok_l_fraction T U) (hr.mono (by decide)) (by rfl) T.l_fraction.g T.l_fraction.F.kp T.l_fraction.b .nil pass0 (pa_cons (pv 0) pa_nil)))) pss_nil)
      (pss_cons (ps_set (i := 6) sc_l_price.nd rfl (.inl rfl) (pe_call (ok_l_times T U) (hr.mono (by decide)) (by rfl) T.l_times.g T.l_times.F.kp T.l_times.b .nil pass0 (pa_cons (pe_tup (pa_cons pe_int (pa_cons pe_int pa_nil))) (pa_cons (pe_call (ok_l_plus T U) (hr.mono (by decide)) (by rfl) T.l_plus.g T.l_plus.F.kp T.l_plus.b .nil pass0 (pa_cons (pv 2) (pa_cons (pv 4) pa_nil))) pa_nil))))
      (pss_one (ps_ret (pe_call (ok_l_plus T U) (hr.mono (by decide)) (by rfl) T.l_plus.g T.l_plus.F.kp T.l_plus.b .nil pass0 (pa_cons (pv 6) (pa_cons (pe_ix ix_list (pe_lst (pa_cons (pe_tup (pa_cons pe_int (pa_cons pe_int pa_nil))) (pa_cons (pe_tup (pa_cons pe_int (pa_cons pe_int pa_nil))) (pa_cons (pe_tup (pa_cons pe_int (pa_cons pe_int pa_nil))) (pa_cons (pe_tup (pa_cons (pe_un un_neg pe_int) (pa_cons pe_int pa_nil))) pa_nil))))) (pe_op op_sub (pv 5) pe_int) (fun _ _ => rfl)) pa_nil)))))))))))), ?_⟩
    have ul := fT.len
    refine ⟨_, rfl, t, rfl, ⟨_, tT⟩, fun D nD => ?_⟩
    refine lcp_tup (K := K) (R := FAt K) (IR := PdAt K H) tab id (fun _ _ _ _ k h => h.mono k) fT nD tT (Nat.lt_of_le_of_lt (show us.length ≤ 1000 by omega) (by decide)) ?_ ?_
    · rintro v o H3 pv _ s3 Y N hYes hNo
      refine ⟨rfl, _, rfl, rfl, _, rfl, ?_⟩
      rw [pdAt_notNone pv]
      cases o with
      | none => exact hNo _ (fun _ _ h => h) rfl
      | some x => exact ⟨_, rfl, hYes _ _ x (fun _ _ h => h) rfl (FAt.mono (Same.tk s3) pv)⟩
    intro H1 ys h1 f1 s1
    have w1 := hD.same s1
    have yl := f1.len
    have nD1 := hD.no nD
    have sl : (List.filterMap id tab).length ≤ 1000 := Nat.le_trans (List.length_filterMap_le _ _) ltab
    have ypos : 0 < ys.length := by
      rw [yl]
      exact List.length_pos_iff.mpr hne
    have fin : ∀ x ∈ List.filterMap id tab, Fok z x := fun x hx => by
      obtain ⟨o, ho, e⟩ := List.mem_filterMap.mp hx
      have e : o = some x := e
      have := hz o ho
      rw [e] at this
      exact this
    refine ⟨_, rfl, _, rfl, _, rfl, D, _, rfl, .inl (.inl (.inl h1)), d, b + 19, _, rfl, by omega, by omega, w1, fun H2 r r0 r1 w2 k2 => ?_⟩
    obtain ⟨i, rfl⟩ : ∃ i : Nat, r = i := ⟨r.toNat, by omega⟩
    have h2 := k2 _ _ h1 nD1.1 nD1.2
    have f2 := fas_tk f1 fun _ _ t => Kp.tup k2 w1 t
    have gi := List.getElem?_eq_getElem (show i < ys.length by omega)
    obtain ⟨x, hx, a, ea, ta⟩ := f2.getA gi
    rw [ea] at gi
    refine ⟨D, ys, (i : Int), .ref a, rfl, rfl, .inl (.inl h2), atI_nat gi, ?_⟩
    refine ⟨_, rfl, _, rfl, _, rfl, D, _, rfl, .inl (.inl (.inl h2)), d, b + 18, _, rfl, by omega, by omega, w2, fun H3 r' r0' r1' w3 k3 => ?_⟩
    obtain ⟨j, rfl⟩ : ∃ j : Nat, r' = j := ⟨r'.toNat, by omega⟩
    have h3 := k3 _ _ h2 nD1.1 nD1.2
    have f3 := fas_tk f2 fun _ _ t => Kp.tup k3 w2 t
    have gj := List.getElem?_eq_getElem (show j < ys.length by omega)
    obtain ⟨y, hy, c, ec, tc⟩ := f3.getA gj
    rw [ec] at gj
    refine ⟨D, ys, (j : Int), .ref c, rfl, rfl, .inl (.inl h3), atI_nat gj, ?_⟩
    have ta3 := Kp.tup k3 w2 ta
    refine ⟨_, rfl, d, b + 17, 6, rfl, by decide, by decide, w3, fun H4 u u0 u1 w4 k4 => ?_⟩
    have ta4 := Kp.tup k4 w3 ta3
    have tc4 := Kp.tup k4 w3 tc
    have fx := fin x (List.mem_of_getElem? hx)
    have fy := fin y (List.mem_of_getElem? hy)
    have K4 := ((Same.kp s1).trans k2).trans (k3.trans k4)
    refine ⟨_, rfl, rfl, _, rfl, ite2 (fun e => ?_) (fun e => ?_)⟩
    · exact ⟨_, rfl, q _ a x ta4 (fx.up (by omega)) (w4.less (by omega)) K4⟩
    have e0 : u ≠ 0 := fun z => e (by rw [z]; rfl)
    refine ⟨_, rfl, rfl, _, rfl, ite2 (fun e => ?_) (fun e => ?_)⟩
    · exact ⟨_, rfl, d, b, rfl, w4.less (by omega), fun H5 p t' b' h5 f5 z5 w5 k5 => q _ p (t', b') (.inl (.inl h5)) (Fok.up ⟨f5, z5⟩ (by omega)) w5 (K4.trans k5)⟩
    have e1 : u ≠ 1 := fun z => e (by rw [z]; rfl)
    refine ⟨by show 2 ≤ sizeLine; decide, fun hf nh => ?_⟩
    have s5 := same_upd (o := .tup [.int 1, .int 2]) nh
    have ho : Fok 2 ((1, 2) : Int × Nat) := ⟨⟨by decide, by decide⟩, ⟨by decide, by decide⟩⟩
    refine ⟨_, rfl, _, rfl, a, c, _, _, _, _, rfl, Same.tup s5 ta4, Same.tup s5 tc4, fx.f, fy.f, (fx.up (show z ≤ 400000 by omega)).z, (fy.up (show z ≤ 400000 by omega)).z, fun m nm => ?_⟩
    have s6 := same_upd (o := .tup [.int (addT x.1 x.2 y.1 y.2), .int (addB x.1 x.2 y.1 y.2)]) nm
    have mo : Fok (z + z + 1) (addF x y) := fx.add fy
    refine ⟨hf, m, _, _, _, _, rfl, Same.tup s6 sqt_upd, sqt_upd, ho.f, mo.f, (ho.up (show 2 ≤ 400000 by decide)).z, (mo.up (show z + z + 1 ≤ 400000 by omega)).z, fun k nk => ?_⟩
    have ko : Fok (2 + (z + z + 1)) (mulF (1, 2) (addF x y)) := ho.mul mo
    have s7 := same_upd (o := .tup [.int (mulF (1, 2) (addF x y)).1, .int (mulF (1, 2) (addF x y)).2]) nk
    refine ⟨_, rfl, by show 2 ≤ sizeLine; decide, fun z1 n1 => ?_⟩
    have v1 := same_upd (o := .tup [.int 0, .int 1]) n1
    refine ⟨by show 2 ≤ sizeLine; decide, fun z2 n2 => ?_⟩
    have v2 := same_upd (o := .tup [.int 0, .int 1]) n2
    refine ⟨by show 2 ≤ sizeLine; decide, fun z3 n3 => ?_⟩
    have v3 := same_upd (o := .tup [.int 1, .int 7]) n3
    refine ⟨_, rfl, by show 2 ≤ sizeLine; decide, fun z4 n4 => ?_⟩
    have v4 := same_upd (o := .tup [.int (-1), .int 3]) n4
    refine ⟨by show 4 ≤ sizeLine; decide, fun L nL => ?_⟩
    have v5 := same_upd (o := .lst [.ref z1, .ref z2, .ref z3, .ref z4]) nL
    have V4 := v4.trans v5
    have V3 := v3.trans V4
    have V2 := v2.trans V3
    have V1 := v1.trans V2
    obtain ⟨g, y', hg, tg, fg⟩ : ∃ (g : Addr) (y' : Int × Nat), atI [V.ref z1, .ref z2, .ref z3, .ref z4] (u - 2) = some (.ref g) ∧ SqT K (tgt V1) g [.int y'.1, .int y'.2] ∧ Fok 3 y' := by
      have : u = 2 ∨ u = 3 ∨ u = 4 ∨ u = 5 := by omega
      rcases this with rfl | rfl | rfl | rfl
      · exact ⟨z1, (0, 1), rfl, Same.tup V2 sqt_upd, ⟨⟨by decide, by decide⟩, ⟨by decide, by decide⟩⟩⟩
      · exact ⟨z2, (0, 1), rfl, Same.tup V3 sqt_upd, ⟨⟨by decide, by decide⟩, ⟨by decide, by decide⟩⟩⟩
      · exact ⟨z3, (1, 7), rfl, Same.tup V4 sqt_upd, ⟨⟨by decide, by decide⟩, ⟨by decide, by decide⟩⟩⟩
      · exact ⟨z4, (-1, 3), rfl, Same.tup v5 sqt_upd, ⟨⟨by decide, by decide⟩, ⟨by decide, by decide⟩⟩⟩
    refine ⟨_, rfl, _, _, rfl, rfl, L, _, _, .ref g, rfl, rfl, sql_upd, hg, ?_⟩
    refine ⟨k, g, _, _, _, _, rfl, Same.tup V1 sqt_upd, tg, ko.f, fg.f, (ko.up (show 2 + (z + z + 1) ≤ 400000 by omega)).z, (fg.up (show 3 ≤ 400000 by decide)).z, fun r nr => ?_⟩
    have s8 := same_upd (o := .tup [.int (addF (mulF (1, 2) (addF x y)) y').1, .int (addF (mulF (1, 2) (addF x y)) y').2]) nr
    have S8 := ((s5.trans s6).trans s7).trans (V1.trans s8)
    exact q _ r _ (sqt_upd) ((ko.add fg).up (by omega)) ((w4.less (by omega)).same S8) (K4.trans (Same.kp S8))
end
end B

namespace B
open PySem PySem.Spec PyProof.Rows L2

def sp_l_short (K : PySem.W.Frag) : Sp := fun vs H Q _ => ∃ (d : Dr) (b z : Nat) (a : Addr) (x : Int × Nat), vs = [.ref d.dr, .ref a] ∧ SqT K H a [.int x.1, .int x.2] ∧ Fok z x ∧ Drw H d (b + 10) ∧ ∀ (H' : Hp) (p : Addr) (y : Int × Nat), SqT K H' p [.int y.1, .int y.2] → Fok 80 y → Drw H' d b → Kp d H H' → Q (.ref p) H'

section
variable {P : Program} {w : World} {K : PySem.W.Frag} {mg : Str → Option Value} {base : Heap}
theorem ok_l_short (T : Tx K mg) (U : Unl P base) : FnOk P w K mg base CX0 37 T.l_short.f T.l_short.fd ["_law_drawn", "_law_one"] (sp_l_short K) := by
  refine T.l_short.F.ok sc_l_short (fun vs H Q E h => ?_) (fun cdv A outer s H vs Q E hr h => ?_)
  · obtain ⟨d, b, z, a, x, rfl, tA, fx, hD, q⟩ := h
    rfl
  · obtain ⟨d, b, z, a, x, rfl, tA, fx, hD, q⟩ := h
    refine ⟨_, (pss_cons (ps_if (PW.pt (pw_or (pt_cmpR op_ge (pe_callB call_abs (by rfl) T.m_abs (by decide +kernel) (pa_cons (pe_ix ix_tup (pv 1) pe_int (fun _ _ => rfl)) pa_nil)) (pe_op op_pow pe_int pe_int) (nomark _)) (pw_or1 (pt_cmpR op_ge (pe_ix ix_tup (pv 1) pe_int (fun _ _ => rfl)) (pe_op op_pow pe_int pe_int) (nomark _))))) (pss_one (ps_ret (pe_call (ok_l_fraction T U) (hr.mono (by decide)) (by rfl) T.l_fraction.g T.l_fraction.F.kp T.l_fraction.b .nil pass0 (pa_cons (pv 0) pa_nil)))) pss_nil)
      (pss_one (ps_ret (pv 1)))), ?_⟩
    have e20 : (10 : Int) ^ Int.toNat 20 = 100000000000000000000 := by decide
    refine ⟨_, rfl, a, _, 0, .int x.1, rfl, rfl, tA, rfl, _, rfl, _, _, rfl, rfl, ⟨by decide, by decide, by decide⟩, _, _, rfl, rfl, _, rfl, ite2 (fun e => ?_) (fun e => ?_)⟩
    · exact ⟨_, rfl, d, b, rfl, hD, fun H5 p t' b' h5 f5 z5 w5 k5 => q _ p (t', b') (.inl (.inl h5)) ⟨f5, z5⟩ w5 k5⟩
    refine ⟨_, rfl, a, _, 1, .int x.2, rfl, rfl, tA, rfl, _, _, rfl, rfl, ⟨by decide, by decide, by decide⟩, _, _, rfl, rfl, _, rfl, ite2 (fun e2 => ?_) (fun e2 => ?_)⟩
    · exact ⟨_, rfl, d, b, rfl, hD, fun H5 p t' b' h5 f5 z5 w5 k5 => q _ p (t', b') (.inl (.inl h5)) ⟨f5, z5⟩ w5 k5⟩
    refine ⟨_, rfl, q _ a x tA ⟨fx.f, ?_, ?_⟩ (hD.less (by omega)) (Kp.refl d H)⟩
    · have e : ¬ ((10 : Int) ^ Int.toNat 20 ≤ (if x.1 < 0 then -x.1 else x.1)) := fun z => e (decide_eq_true z)
      rw [e20, abs_nat] at e
      omega
    · have e2 : ¬ ((10 : Int) ^ Int.toNat 20 ≤ (x.2 : Int)) := fun z => e2 (decide_eq_true z)
      rw [e20] at e2
      omega
end
end B

namespace B
open PySem PySem.Spec PyProof.Rows L2

def sp_l_room (K : PySem.W.Frag) : Sp := fun vs H Q _ => ∃ (d : Dr) (n b : Nat), vs = [.ref d.dr, .int n] ∧ 1 ≤ n ∧ n ≤ 6 ∧ Drw H d (b + 130) ∧ ∀ (H' : Hp) (p : Addr) (cs : List Nat) (rs : List (List Wd)), HsAt K H' p cs rs → HsOk cs rs → Ls n cs → wor cs rs ≠ [] → rs.length ≤ 2 → (∀ r ∈ rs, r.length ≤ 10) → Drw H' d b → Kp d H H' → Q (.ref p) H'

section
variable {P : Program} {w : World} {K : PySem.W.Frag} {mg : Str → Option Value} {base : Heap}
theorem ok_l_room (T : Tx K mg) (U : Unl P base) : FnOk P w K mg base CX0 37 T.l_room.f T.l_room.fd ["_law_drawn", "_law_most"] (sp_l_room K) := by
  refine T.l_room.F.ok sc_l_room (fun vs H Q E h => ?_) (fun cdv A outer s H vs Q E hr h => ?_)
  · obtain ⟨d, n, b, rfl, hn1, hn2, hD, q⟩ := h
    rfl
  · obtain ⟨d, n, b, rfl, hn1, hn2, hD, q⟩ := h
    refine ⟨_, (pss_cons (ps_set (i := 2) sc_l_room.nd rfl (.inr rfl) (pe_callTy (cr_listS rfl) (by rfl) T.m_list (by decide +kernel) (pa_cons pe_str pa_nil)))
      (pss_cons (ps_set (i := 3) sc_l_room.nd rfl (.inl rfl) (pe_op op_add pe_int (pe_call (ok_l_next T U) (hr.mono (by decide)) (by rfl) T.l_next.g T.l_next.F.kp T.l_next.b .nil pass0 (pa_cons (pv 0) (pa_cons (pv 1) pa_nil)))))
      (pss_cons (ps_set (i := 5) sc_l_room.nd rfl (.inl rfl) (pe_bm PySem.F.plainAttrs_str PySem.F.slot_str_join PySem.F.type_str_join mt_join pe_str (pa_cons (pe_callB cr_sortedS (by rfl) T.m_sorted (by decide +kernel) (pa_cons (pe_lc (own := [("_law_k", 4)]) (g := gName 4) (tt := tYes) rfl sc_l_room.nd (pi_range1 (by rfl) T.m_range (pa_cons (pv 3) pa_nil)) (blkOk_by (own := [("_law_k", 4)]) (N := N_l_room) (sc := defScope s_l_room) (by decide +kernel)) (fun _ _ _ _ _ => (pg_name (i := 4) sc_l_room.nd rfl (.inl rfl))) (fun _ _ _ _ _ => pts_nil) (fun _ _ _ _ _ => (pe_bmK (K := K) rfl PySem.F.plainAttrs_list PySem.F.slot_list_pop PySem.F.type_list_pop mt_popAt (pv 2) (pa_cons (pe_call (ok_l_next T U) (hr.mono (by decide)) (by rfl) T.l_next.g T.l_next.F.kp T.l_next.b .nil pass0 (pa_cons (pv 0) (pa_cons (pe_callB (id := "len") (r := fun xs H Q => ∃ p ys, xs = [.ref p] ∧ (SqL K H p ys ∨ SqT K H p ys) ∧ Q (.int ys.length) H) call_len_seq (by rfl) T.m_len (by decide +kernel) (pa_cons (pv 2) pa_nil)) pa_nil))) pa_nil)))) pa_nil)) pa_nil)))
      (pss_cons (ps_set (i := 6) sc_l_room.nd rfl (.inl rfl) (pe_tup pa_nil))
      (pss_cons (ps_for PassesOwn.never rfl (pi_range1 (by rfl) T.m_range (pa_cons (pe_call (ok_l_next T U) (hr.mono (by decide)) (by rfl) T.l_next.g T.l_next.F.kp T.l_next.b .nil pass0 (pa_cons (pv 0) (pa_cons pe_int pa_nil))) pa_nil)) (pg_name (i := 4) sc_l_room.nd rfl (.inl rfl))
      (pss_cons (ps_set (i := 7) sc_l_room.nd rfl (.inl rfl) (pe_call (ok_l_saying T U) (hr.mono (by decide)) (by rfl) T.l_saying.g T.l_saying.F.kp T.l_saying.b .nil pass0 (pa_cons (pv 0) (pa_cons (pv 5) (pa_cons pe_int pa_nil)))))
      (pss_one (ps_if (pt_cmpR (op_neD hr.units) (pe_call (ok_l_worlds T U) (hr.mono (by decide)) (by rfl) T.l_worlds.g T.l_worlds.F.kp T.l_worlds.b .nil pass0 (pa_cons (pe_tup (pa_cons (pv 5) (pa_cons (pe_op op_catS (pv 6) (pe_tup (pa_cons (pv 7) pa_nil))) pa_nil))) pa_nil)) (pe_tup pa_nil) (nomark _)) (pss_one (ps_set (i := 6) sc_l_room.nd rfl (.inl rfl) (pe_op op_catS (pv 6) (pe_tup (pa_cons (pv 7) pa_nil))))) pss_nil))))
      (pss_one (ps_ret (pe_tup (pa_cons (pv 5) (pa_cons (pv 6) pa_nil)))))))))), ?_⟩
    have alp : (Str.ofString "abcdefghijklmnopqrstuvwxyz").cps.toList = List.range' 97 26 := by decide +kernel
    refine ⟨Str.ofString "abcdefghijklmnopqrstuvwxyz", rfl, by decide +kernel, fun l nl => ?_⟩
    rw [alp]
    have w0 := hD.upd (o := .lst ((List.range' 97 26).map fun c => V.str (sg c))) nl
    have s0 := same_upd (o := .lst ((List.range' 97 26).map fun c => V.str (sg c))) nl
    have nl1 := hD.no nl
    have nl2 := hD.nc nl
    refine ⟨_, rfl, _, rfl, d, b + 129, n, rfl, by omega, by omega, w0, fun H1 r r0 r1 w1 k1 => ?_⟩
    obtain ⟨m, hm⟩ : ∃ m : Nat, 1 + r = (m : Int) := ⟨(1 + r).toNat, by omega⟩
    have m6 : m ≤ n := by omega
    have k0 : Kp d H H1 := (Same.kp s0).trans k1
    have hl1 := k1 _ _ (upd_same (a := l)) nl1.1 nl1.2
    refine ⟨1, r, rfl, rfl, rfl, _, rfl, 1 + r, rfl, by omega, by omega, fun D nD => ?_⟩
    have nD1 := w1.no nD
    have nD2 := w1.nc nD
    have nlD : l ≠ D := ne_of_none hl1 nD
    refine lc_range (lo := 0) (n := (1 + r).toNat) (fun i H' => ∃ (lf fd : List Nat), H' l = some (.lst (lf.map fun c => V.str (sg c))) ∧ H' D = some (.lst (fd.map fun c => V.str (sg c))) ∧ (fd ++ lf).Perm (List.range' 97 26) ∧ fd.length = i ∧ Drw H' d (b + 128 - i) ∧ Kp d H H') ⟨List.range' 97 26, [], by rw [upd_ne nlD]; exact hl1, upd_same, List.Perm.refl _, rfl, (w1.upd nD).less (by omega), k0.trans (Same.kp (same_upd nD))⟩ ?_ ?_
    · rintro i H4 hi ⟨lf, fd, h1, h2, hp, hlen, w4, k4⟩
      have hll : fd.length + lf.length = 26 := by
        have := hp.length_eq
        rw [List.length_append] at this
        exact this
      have llen : (lf.map fun c => V.str (sg c)).length = lf.length := List.length_map ..
      refine ⟨rfl, lc_yes ?_⟩
      refine ⟨_, rfl, .inl ⟨rfl, _, .inl (.inl h1)⟩, _, rfl, _, rfl, l, _, rfl, .inl (.inl (.inl h1)), d, b + 128 - (i + 1), _, rfl, by rw [llen]; omega, by rw [llen]; omega, w4.less (by omega), fun H5 y y0 y1 w5 k5 => ?_⟩
      rw [llen] at y1
      have h1' := k5 _ _ h1 nl1.1 nl1.2
      have h2' := k5 _ _ h2 nD1.1 nD1.2
      have hy : y.toNat < lf.length := by omega
      refine ⟨l, _, y, y.toNat, V.str (sg lf[y.toNat]), rfl, rfl, h1', by omega, by omega, ?_, ?_, ?_⟩
      · rw [llen]
        exact PySem.seqIndex_of y0 y1
      · rw [List.getElem?_map, List.getElem?_eq_getElem hy]
        rfl
      have h2'' : (upd H5 l (.lst ((lf.map fun c => V.str (sg c)).eraseIdx y.toNat))) D = some (.lst (fd.map fun c => V.str (sg c))) := by
        rw [upd_ne nlD.symm]
        exact h2'
      refine ⟨_, h2'', ?_, lf.eraseIdx y.toNat, fd ++ [lf[y.toNat]], ?_, ?_, ?_, ?_, ?_, ?_⟩
      · rw [List.length_map]
        exact Nat.lt_of_le_of_lt (show fd.length ≤ 26 by omega) (by decide)
      · rw [upd_ne nlD, upd_same, eraseIdx_map]
      · rw [upd_same, List.map_append]
        rfl
      · refine List.Perm.trans ?_ hp
        rw [List.append_assoc]
        exact List.Perm.append_left _ (perm_erase (List.getElem?_eq_getElem hy))
      · rw [List.length_append, hlen]
        rfl
      · exact ((w5.mut nl1.1 nl2 nl1.2).mut nD1.1 nD2 nD1.2).less (by omega)
      · exact kp_mut (by
          cases e : H D with
          | none => rfl
          | some o =>
            have := k0 _ _ e nD1.1 nD1.2
            rw [nD] at this
            cases this) (kp_mut nl (k4.trans k5))
    rintro H4 ⟨lf, fd, h1, h2, hp, hlen, w4, k4⟩
    have nd : (fd ++ lf).Nodup := hp.symm.nodup (by decide)
    have ndf : fd.Nodup := (List.nodup_append.mp nd).1
    have hr' : ∀ c ∈ fd, 97 ≤ c ∧ c < 123 := fun c hc => by
      have := hp.mem_iff.mp (List.mem_append_left lf hc)
      rw [List.mem_range'] at this
      obtain ⟨j, hj, rfl⟩ := this
      omega
    refine ⟨D, fd.map sg, rfl, .inl (.inl (by rw [h2, List.map_map]; rfl)), by rw [List.length_map]; omega, fun ys p hperm hsort np => ?_⟩
    obtain ⟨zs, rfl, hz⟩ := perm_sg hperm
    have lz : zs.length = fd.length := hz.length_eq
    refine ⟨_, p, zs.map sg, rfl, rfl, .inl (.inl (.inl upd_same)), ?_, ?_⟩
    · rw [List.map_map]
      have : (zs.map sg).length * Str.length "" = 0 := rfl
      rw [sum_one, List.length_map]
      show zs.length + zs.length * 0 ≤ 16777216
      omega
    rw [join_sg]
    have hL : Ls n zs := ⟨by omega, by omega, rise_of (hz.symm.nodup ndf) hsort, fun c hc => hr' c (hz.mem_iff.mp hc)⟩
    have w5 := w4.upd (o := .lst ((zs.map sg).map V.str)) np
    have k5 : Kp d H (upd H4 p (.lst ((zs.map sg).map V.str))) := k4.trans (Same.kp (same_upd np))
    generalize upd H4 p (.lst ((zs.map sg).map V.str)) = H5 at *
    obtain ⟨cs, ecs⟩ : ∃ cs, cs = zs := ⟨_, rfl⟩
    rw [← ecs] at hL ⊢
    have c6 : cs.length ≤ 6 := Nat.le_trans hL.most hn2
    have sm : ∀ c ∈ cs, c < 123 := fun c hc => (hL.small c hc).2
    refine ⟨by decide, fun R0 n0 => ?_⟩
    have s1 := same_upd (o := .tup []) n0
    refine ⟨_, rfl, d, b + 100, 3, rfl, by decide, by decide, (w5.upd n0).less (by omega), fun H2 r' r0' r1' w2 k2 => ?_⟩
    have tR0 := Kp.tup k2 (w5.upd n0) (sqt_upd (K := K) (H := H5) (p := R0) (xs := []))
    have ew0 : wor cs [] ≠ [] := by
      have e : wor cs [] = allW cs.length := List.filter_eq_self.mpr fun _ _ => rfl
      rw [e]
      intro z
      have := congrArg List.length z
      rw [allW_length] at this
      exact absurd this (Nat.ne_of_gt (Nat.pow_pos (by decide)))
    refine ⟨r', rfl, by omega, by omega, for_range (lo := 0) (n := r'.toNat) (fun i σ H' => ∃ (x2 x3 x4 x7 : Option V) (ra : Addr) (rvs : List V) (rs : List (List Wd)), σ = [some (.ref d.dr), some (.int n), x2, x3, x4, some (.str (tx cs)), some (.ref ra), x7] ∧ SqT K H' ra rvs ∧ Rws K H' rvs rs ∧ (∀ x ∈ rs, Sy cs x ∧ x.length ≤ 10) ∧ rs.length ≤ i ∧ wor cs rs ≠ [] ∧ Drw H' d (b + 100 - 30 * i) ∧ Kp d H H') ⟨_, _, _, _, R0, [], [], rfl, tR0, trivial, (fun x hx => nomatch hx), Nat.le_refl _, ew0, w2.less (by omega), (k5.trans (Same.kp s1)).trans k2⟩ ?_ ?_⟩
    · rintro i σ H3 hi ⟨x2, x3, x4, x7, ra, rvs, rs, rfl, hRa, hW, hY, hl, hne, w3, k3⟩
      have hi3 : i < 2 := by omega
      refine ⟨_, rfl, _, rfl, d, b + 100 - 30 * (i + 1), 3, cs, rfl, hL.pos, by omega, by decide, by decide, w3.less (by omega), fun H4 p ws t4 hYw hz w4 k4 => ?_⟩
      have hRa4 := Kp.tup k4 w3 hRa
      have hW4 := hW.kp w3 k4
      have rl : rvs.length = rs.length := hW.len
      refine ⟨_, rfl, _, rfl, _, rfl, by show 1 ≤ sizeLine; decide, fun P nP => ?_⟩
      have sP := same_upd (o := .tup [.ref p]) nP
      refine ⟨ra, P, rvs, [V.ref p], rfl, rfl, Same.tup sP hRa4, sqt_upd, by show rvs.length + 1 ≤ 100000; omega, fun p2 H5 t5 s5 => ?_⟩
      refine ⟨by show 2 ≤ sizeLine; decide, fun hs nhs => ?_⟩
      have s6 := same_upd (o := .tup [.str (tx cs), .ref p2]) nhs
      have S6 := (sP.trans s5).trans s6
      have hY' : ∀ x ∈ rs ++ [ws], Sy cs x ∧ x.length ≤ 10 := by
        intro x hx
        rcases List.mem_append.mp hx with h | h
        · exact hY x h
        · rw [List.mem_singleton] at h
          rw [h]
          exact ⟨hYw, by omega⟩
      have W6 : Rws K _ (rvs ++ [V.ref p]) (rs ++ [ws]) := Rws.app (hW4.same S6) (Rws.one (Same.tup S6 t4))
      refine ⟨hs, p2, cs, rvs ++ [V.ref p], rs ++ [ws], rfl, sqt_upd, Same.tup s6 t5, W6, (fun x hx => ⟨(hY' x hx).1, Nat.le_trans (hY' x hx).2 (by decide)⟩), by rw [List.length_append]; show rs.length + 1 ≤ 1000; omega, c6, sm, fun H7 pw tw s7 => ?_⟩
      refine ⟨by decide, fun e ne => ?_⟩
      have s8 := same_upd (o := .tup []) ne
      refine ⟨_, _, wsdp (Same.tup s8 tw), .tup sqt_upd .nil, wsdat_shaped _, rfl, _, rfl, ?_⟩
      have S8 := (S6.trans s7).trans s8
      have K8 := (k3.trans k4).trans (Same.kp S8)
      refine ite2 (fun ec => ?_) (fun ec => ?_)
      · have hne2 : wor cs (rs ++ [ws]) ≠ [] := by
          intro z
          rw [ws_empty, z] at ec
          exact absurd ec (by decide)
        refine ⟨_, rfl, _, rfl, by show 1 ≤ sizeLine; decide, fun P2 nP2 => ?_⟩
        have s9 := same_upd (o := .tup [.ref p]) nP2
        refine ⟨ra, P2, rvs, [V.ref p], rfl, rfl, Same.tup (S8.trans s9) hRa4, sqt_upd, by show rvs.length + 1 ≤ 100000; omega, fun p3 H10 t10 s10 => ?_⟩
        have S10 := (S8.trans s9).trans s10
        exact ⟨_, _, _, _, p3, _, _, rfl, t10, Rws.app (hW4.same S10) (Rws.one (Same.tup S10 t4)), hY', by rw [List.length_append]; show rs.length + 1 ≤ i + 1; omega, hne2, w4.same S10, (k3.trans k4).trans (Same.kp S10)⟩
      · exact ⟨_, _, _, _, ra, rvs, rs, rfl, Same.tup S8 hRa4, hW4.same S8, hY, by omega, hne, w4.same S8, K8⟩
    · rintro σ H3 ⟨x2, x3, x4, x7, ra, rvs, rs, rfl, hRa, hW, hY, hl, hne, w3, k3⟩
      refine ⟨_, rfl, _, rfl, by show 2 ≤ sizeLine; decide, fun hs nhs => ?_⟩
      have s6 := same_upd (o := .tup [.str (tx cs), .ref ra]) nhs
      exact q _ hs cs rs ⟨ra, rvs, sqt_upd, Same.tup s6 hRa, hW.same s6⟩ ⟨c6, sm, fun r hr => ⟨(hY r hr).1, Nat.le_trans (hY r hr).2 (by decide)⟩, by omega⟩ hL hne (by omega) (fun r hr => (hY r hr).2) ((w3.same s6).less (by omega)) (k3.trans (Same.kp s6))
end
end B

namespace B
open PySem PySem.Spec PyProof.Rows L2
theorem KeepBut.tk {K : PySem.W.Frag} {a : Addr} {H H' : Hp} {xs : List V} (k : KeepBut a H H') (h : H a = some (.lst xs)) : Tk K H H' := fun b ys t => by
  rcases t with (t | ⟨o, t⟩) | t
  · exact .inl (.inl (k _ _ t fun e => by rw [e, h] at t; cases t))
  · exact .inl (.inr ⟨o, k _ _ t fun e => by rw [e, h] at t; cases t⟩)
  · exact .inr t
theorem KeepBut.then {a : Addr} {H H1 H2 : Hp} (k : KeepBut a H H1) (l : KeepBut a H1 H2) : KeepBut a H H2 := fun x o h n => l _ _ (k _ _ h n) n
theorem Drw.but {d : Dr} {a : Addr} {H H' : Hp} {b : Nat} (w : Drw H d b) (k : KeepBut a H H') (n1 : a ≠ d.dr) (n2 : a ≠ d.cl) (n3 : a ≠ d.rs) : Drw H' d b := by
  obtain ⟨⟨cs, rr, c, h1, h2, h3, h4⟩, ne⟩ := w
  exact ⟨⟨cs, rr, c, k _ _ h1 n1.symm, k _ _ h2 n2.symm, k _ _ h3 n3.symm, h4⟩, ne⟩
/-- [cell, places], none of them the list F -/
def CelX (K : PySem.W.Frag) (H : Hp) (F : Addr) (f : List Wd → List Nat) (v : V) (c : List Wd) : Prop := ∃ q a l, v = .ref q ∧ q ≠ F ∧ l ≠ F ∧ H q = some (.lst [.ref a, .ref l]) ∧ SqT K H a (c.map wv) ∧ H l = some (.lst ((f c).map iv))
theorem CelX.but {K : PySem.W.Frag} {H H' : Hp} {F : Addr} {f : List Wd → List Nat} {v : V} {c : List Wd} {xs : List V} (h : CelX K H F f v c) (hF : H F = some (.lst xs)) (k : KeepBut F H H') : CelX K H' F f v c := by
  obtain ⟨q, a, l, e, n1, n2, h1, t, h2⟩ := h
  exact ⟨q, a, l, e, n1, n2, k _ _ h1 n1, k.tk hF _ _ t, k _ _ h2 n2⟩
theorem filt1 {α : Type} (p : α → Bool) (x : α) : [x].filter p = if p x = true then [x] else [] := by
  rw [List.filter_cons, List.filter_nil]
theorem plcs_take (cs : List Nat) (wl : List (List Bool)) (g c : List Wd) {j : Nat} {bs : List Bool} (h : wl[j]? = some bs) : (List.range (j + 1)).filter (fun j => sval (vl cs (wl.getD j [])) g && sval (vl cs (wl.getD j [])) c) = (List.range j).filter (fun j => sval (vl cs (wl.getD j [])) g && sval (vl cs (wl.getD j [])) c) ++ (if sval (vl cs bs) g && sval (vl cs bs) c then [j] else []) := by
  have e : wl.getD j [] = bs := by rw [List.getD_eq_getElem?_getD, h]; rfl
  rw [List.range_succ, List.filter_append, filt1, e]

def sp_l_cells (K : PySem.W.Frag) : Sp := fun vs H Q _ => ∃ (d : Dr) (n b : Nat) (h ga : Addr) (cs : List Nat) (rs : List (List Wd)) (g : List Wd), vs = [.ref d.dr, .ref h, .ref ga, .int n] ∧ 1 ≤ n ∧ n ≤ 5 ∧ HsAt K H h cs rs ∧ HsOk cs rs ∧ 1 ≤ cs.length ∧ SqT K H ga (g.map wv) ∧ Sy cs g ∧ g.length ≤ 50 ∧ Drw H d (b + 100) ∧ ∀ (H' : Hp) (p : Addr) (vs' : List V) (C : List (List Wd)), H' p = some (.lst vs') → p ≠ d.dr ∧ p ≠ d.rs → CelP cs C → C.length ≤ n → F2 (CelAt K H' (plcs cs (wor cs rs) g)) vs' (C.filter fun c => !(plcs cs (wor cs rs) g c).isEmpty) → Drw H' d b → Kp d H H' → Q (.ref p) H'

section
variable {P : Program} {w : World} {K : PySem.W.Frag} {mg : Str → Option Value} {base : Heap}
theorem ok_l_cells (T : Tx K mg) (U : Unl P base) : FnOk P w K mg base CX0 37 T.l_cells.f T.l_cells.fd ["_law_drawn", "_law_house", "_law_given", "_law_most"] (sp_l_cells K) := by
  refine T.l_cells.F.ok sc_l_cells (fun vs H Q E h => ?_) (fun cdv A outer s H vs Q E hr h => ?_)
  · obtain ⟨d, n, b, h, ga, cs, rs, g, rfl, hn1, hn5, hH, hO, c1, tG, yG, lG, hD, q⟩ := h
    rfl
  · obtain ⟨d, n, b, h, ga, cs, rs, g, rfl, hn1, hn5, hH, hO, c1, tG, yG, lG, hD, q⟩ := h
    refine ⟨_, (pss_cons (ps_set (i := 4) sc_l_cells.nd rfl (.inl rfl) (pe_tup pa_nil))
      (pss_cons (ps_set (i := 5) sc_l_cells.nd rfl (.inl rfl) (pe_lst pa_nil))
      (pss_cons (ps_for PassesOwn.never rfl (pi_range1 (by rfl) T.m_range (pa_cons (pe_call (ok_l_next T U) (hr.mono (by decide)) (by rfl) T.l_next.g T.l_next.F.kp T.l_next.b .nil pass0 (pa_cons (pv 0) (pa_cons (pv 3) pa_nil))) pa_nil)) (pg_name (i := 6) sc_l_cells.nd rfl (.inl rfl))
      (pss_cons (ps_set (i := 7) sc_l_cells.nd rfl (.inl rfl) (pe_call (ok_l_saying T U) (hr.mono (by decide)) (by rfl) T.l_saying.g T.l_saying.F.kp T.l_saying.b .nil pass0 (pa_cons (pv 0) (pa_cons (pe_ix ix_tup (pv 1) pe_int (fun _ _ => rfl)) (pa_cons pe_int pa_nil)))))
      (pss_cons (ps_expr (pe_bm PySem.F.plainAttrs_list PySem.F.slot_list_append PySem.F.type_list_append mt_append (pv 5) (pa_cons (pe_op op_catS (pe_op op_catS (pv 7) (pv 4)) (pe_op op_repN (pe_tup (pa_cons pe_str pa_nil)) (pe_callTy call_int1 (by rfl) T.m_int (by decide +kernel) (pa_cons (pe_cmpR (op_neD hr.units) (pv 4) (pe_tup pa_nil) (nomark _)) pa_nil)))) pa_nil)))
      (pss_one (ps_set (i := 4) sc_l_cells.nd rfl (.inl rfl) (pe_op op_catS (pe_op op_catS (pe_op op_catS (pv 7) (pe_tup (pa_cons pe_str pa_nil))) (pv 4)) (pe_op op_repN (pe_tup (pa_cons pe_str pa_nil)) (pe_callTy call_int1 (by rfl) T.m_int (by decide +kernel) (pa_cons (pe_cmpR (op_neD hr.units) (pv 4) (pe_tup pa_nil) (nomark _)) pa_nil)))))))))
      (pss_cons (ps_expr (pe_bm PySem.F.plainAttrs_list PySem.F.slot_list_append PySem.F.type_list_append mt_append (pv 5) (pa_cons (pe_ix ix_list (pe_lst (pa_cons (pv 4) (pa_cons (pe_tup (pa_cons pe_str pa_nil)) pa_nil))) (pe_callTy call_int1 (by rfl) T.m_int (by decide +kernel) (pa_cons (pe_cmpR (op_eqD hr.units) (pv 4) (pe_tup pa_nil) (nomark _)) pa_nil)) (fun _ _ => rfl)) pa_nil)))
      (pss_cons (ps_set (i := 8) sc_l_cells.nd rfl (.inl rfl) (pe_lst pa_nil))
      (pss_cons (ps_for PassesOwn.never rfl (pi_list (pv 5)) (pg_name (i := 9) sc_l_cells.nd rfl (.inl rfl))
      (pss_cons (ps_set (i := 10) sc_l_cells.nd rfl (.inl rfl) (pe_lst pa_nil))
      (pss_cons (ps_for PassesOwn.never rfl (pi_enumG (by rfl) T.m_enumerate (pa_cons (pe_call (ok_l_worlds T U) (hr.mono (by decide)) (by rfl) T.l_worlds.g T.l_worlds.F.kp T.l_worlds.b .nil pass0 (pa_cons (pv 1) pa_nil)) pa_nil)) (pg_tup rfl (pgs_cons (pg_name (i := 11) sc_l_cells.nd rfl (.inl rfl)) (pgs_cons (pg_name (i := 12) sc_l_cells.nd rfl (.inl rfl)) pgs_nil)))
      (pss_one (ps_if (PW.pt (pw_and (pt_val (pe_call (ok_l_holds T U) (hr.mono (by decide)) (by rfl) T.l_holds.g T.l_holds.F.kp T.l_holds.b .nil pass0 (pa_cons (pe_ix ix_tup (pv 1) pe_int (fun _ _ => rfl)) (pa_cons (pv 2) (pa_cons (pv 12) pa_nil))))) (pw_and1 (pt_val (pe_call (ok_l_holds T U) (hr.mono (by decide)) (by rfl) T.l_holds.g T.l_holds.F.kp T.l_holds.b .nil pass0 (pa_cons (pe_ix ix_tup (pv 1) pe_int (fun _ _ => rfl)) (pa_cons (pv 9) (pa_cons (pv 12) pa_nil)))))))) (pss_one (ps_expr (pe_bm PySem.F.plainAttrs_list PySem.F.slot_list_append PySem.F.type_list_append mt_append (pv 10) (pa_cons (pv 11) pa_nil)))) pss_nil)))
      (pss_one (ps_if (pt_cmpR (op_neL0 hr.units) (pv 10) (pe_lst pa_nil) (nomark _)) (pss_one (ps_expr (pe_bm PySem.F.plainAttrs_list PySem.F.slot_list_append PySem.F.type_list_append mt_append (pv 8) (pa_cons (pe_lst (pa_cons (pv 9) (pa_cons (pv 10) pa_nil))) pa_nil)))) pss_nil)))))
      (pss_one (ps_ret (pv 8))))))))), ?_⟩
    have sm := hO.sm
    have c6 := hO.c6
    have nore : ∀ (r : List Wd), (!PyData.eqv (wdat r) (.tuple [])) = !decide (r = []) := fun r => by
      congr 1
      rw [Bool.eq_iff_iff, decide_eq_true_eq]
      exact wdat_iff r []
    refine ⟨by show 0 ≤ sizeLine; decide, fun R0 n0 => ?_⟩
    have s0 := same_upd (o := .tup []) n0
    refine ⟨by show 0 ≤ sizeLine; decide, fun CL nC => ?_⟩
    have s1 := same_upd (o := .lst []) nC
    have w0 := hD.same s0
    have nC1 := w0.no nC
    have nC2 := w0.nc nC
    have nCH : H CL = none := by
      cases e : H CL with
      | none => rfl
      | some o => rw [s0 _ _ e] at nC; cases nC
    refine ⟨_, rfl, _, rfl, d, b + 99, n, rfl, by omega, by omega, w0.same s1, fun H2 r r0 r1 w2 k2 => ?_⟩
    have k02 : Kp d H H2 := (Same.kp (s0.trans s1)).trans k2
    have hC2 := k2 _ _ (upd_same (a := CL)) nC1.1 nC1.2
    have tR2 : SqT K H2 R0 (([] : List Wd).map wv) := Kp.tup k2 (w0.same s1) (Same.tup s1 sqt_upd)
    refine ⟨r, rfl, by omega, by omega, for_range (lo := 0) (n := r.toNat) (fun i σ H' => ∃ (x6 x7 x8 x9 x10 x11 x12 : Option V) (ra : Addr) (rw : List Wd) (vs : List V) (C : List (List Wd)), σ = [some (.ref d.dr), some (.ref h), some (.ref ga), some (.int n), some (.ref ra), some (.ref CL), x6, x7, x8, x9, x10, x11, x12] ∧ H' CL = some (.lst vs) ∧ F2 (WsAt K H') vs C ∧ SqT K H' ra (rw.map wv) ∧ CelI cs i rw C ∧ Drw H' d (b + 99 - 20 * i) ∧ Kp d H H') ⟨none, none, none, none, none, none, none, R0, [], [], [], rfl, hC2, .nil, tR2, CelI.nil, w2, k02⟩ ?_ ?_⟩
    · rintro i σ H3 hi ⟨x6, x7, x8, x9, x10, x11, x12, ra, rw, vs, C, rfl, hC, fC, tR, cI, w3, k3⟩
      have i4 : i < 4 := by omega
      have hH3 := hH.mono fun _ _ t => Kp.tup k3 hD t
      obtain ⟨rua, rvs, tA, _, _⟩ := id hH3
      have rl := cI.rl
      have cl := cI.len
      have fl := fC.len
      refine ⟨_, rfl, _, rfl, h, _, 0, .str (tx cs), rfl, rfl, tA, rfl, d, b + 99 - 20 * (i + 1), 2, cs, rfl, c1, by omega, by decide, by decide, w3.less (by omega), fun H4 pa ws t4 yw lw w4 k4 => ?_⟩
      have hC4 := k4 _ _ hC nC1.1 nC1.2
      have tR4 := Kp.tup k4 w3 tR
      have T34 : Tk K H3 H4 := fun _ _ t => Kp.tup k4 w3 t
      have lw6 : ws.length ≤ 6 := by omega
      have dpR : ∀ {H' : Hp}, Tk K H4 H' → Dp K H' (.ref ra) (wdat rw) := fun {H'} k => wdp (k _ _ tR4)
      have shR : SeqAt.shaped (wdat rw) = true := wdat_shaped sm (cI.r.elim (fun z => by rw [z.1]; exact fun _ h => nomatch h) (fun z => z.2.2.lt))
      obtain ⟨bb, ebb⟩ : ∃ bb : Bool, bb = !PyData.eqv (wdat rw) (.tuple []) := ⟨_, rfl⟩
      have ban : (if bb = true then [V.str "and"] else []) = (anW rw).map wv := by
        rw [ebb, nore]
        unfold anW
        by_cases z : rw = []
        · rw [if_pos z, decide_eq_true z]; rfl
        · rw [if_neg z, decide_eq_false z]; rfl
      have lan : (anW rw).length ≤ 1 := by unfold anW; split <;> decide
      -- the cell
      refine ⟨_, rfl, .inl ⟨rfl, _, .inl (.inl hC4)⟩, _, rfl, _, rfl, pa, ra, ws.map wv, rw.map wv, rfl, rfl, t4, tR4, by rw [List.length_map, List.length_map]; omega, fun p5 H5 t5 s5 => ?_⟩
      refine ⟨by show 1 ≤ sizeLine; decide, fun q1 m1 => ?_⟩
      have u1 := same_upd (o := .tup [.str "and"]) m1
      refine ⟨_, rfl, by show 0 ≤ sizeLine; decide, fun q2 m2 => ?_⟩
      have u2 := same_upd (o := .tup []) m2
      have S7 := s5.trans (u1.trans u2)
      refine ⟨_, _, dpR (Same.tk S7), .tup sqt_upd .nil, shR, rfl, ?_⟩
      rw [← ebb]
      refine .inr ⟨bb, rfl, q1, _, [.str "and"], rfl, rfl, Same.tup u2 sqt_upd, (fun z => nomatch z), by cases bb <;> decide, by cases bb <;> decide, (by show 1 ≤ 1000; decide), fun p8 H8 t8 s8 => ?_⟩
      have t8 : SqT K H8 p8 (List.replicate (if bb = true then (1 : Int) else 0).toNat [V.str "and"]).flatten := t8
      rw [rep_if, ban] at t8
      have t58 : SqT K H8 p5 (ws.map wv ++ rw.map wv) := Same.tup ((u1.trans u2).trans s8) t5
      refine ⟨p5, p8, _, _, rfl, rfl, t58, t8, by rw [List.length_append, List.length_map, List.length_map, List.length_map]; omega, fun p9 H9 t9 s9 => ?_⟩
      have t9 : SqT K H9 p9 (ws.map wv ++ rw.map wv ++ (anW rw).map wv) := t9
      rw [← List.map_append, ← List.map_append] at t9
      have S9 := S7.trans (s8.trans s9)
      have hC9 := S9 _ _ hC4
      refine ⟨CL, _, _, rfl, rfl, hC9, Nat.lt_of_le_of_lt (show vs.length ≤ 100 by omega) (by decide), ?_⟩
      have UP := fun x xs t => tup_upd (K := K) (a := x) (ys := xs) (zs := vs ++ [.ref p9]) hC9 t
      have T10 : Tk K H4 (upd H9 CL (.lst (vs ++ [.ref p9]))) := fun _ _ t => UP _ _ (Same.tup S9 t)
      have w10 := (w4.same S9).mut (o := .lst (vs ++ [.ref p9])) nC1.1 nC2 nC1.2
      have k10 : Kp d H (upd H9 CL (.lst (vs ++ [.ref p9]))) := kp_mut nCH ((k3.trans k4).trans (Same.kp S9))
      have t9' := UP _ _ t9
      have hC10 : (upd H9 CL (.lst (vs ++ [.ref p9]))) CL = some (.lst (vs ++ [.ref p9])) := upd_same
      have fC10 : F2 (WsAt K (upd H9 CL (.lst (vs ++ [.ref p9])))) (vs ++ [.ref p9]) (C ++ [ws ++ rw ++ anW rw]) := (fC.imp fun _ _ z => z.mono fun _ _ t => T10 _ _ (T34 _ _ t)).app (F2.one ⟨p9, rfl, t9'⟩)
      generalize upd H9 CL (.lst (vs ++ [.ref p9])) = H10 at *
      -- what is left
      refine ⟨_, rfl, by show 1 ≤ sizeLine; decide, fun g1 n1 => ?_⟩
      have v1 := same_upd (o := .tup [.str "not"]) n1
      refine ⟨pa, g1, ws.map wv, [.str "not"], rfl, rfl, Same.tup v1 (T10 _ _ t4), sqt_upd, by rw [List.length_map]; show ws.length + 1 ≤ 100000; omega, fun p11 H11 t11 s11 => ?_⟩
      have t11 : SqT K H11 p11 (ws.map wv ++ [.str "not"]) := t11
      have V11 := v1.trans s11
      refine ⟨_, rfl, p11, ra, _, rw.map wv, rfl, rfl, t11, Same.tup V11 (T10 _ _ tR4), by rw [List.length_append, List.length_map, List.length_map]; show ws.length + 1 + rw.length ≤ 100000; omega, fun p12 H12 t12 s12 => ?_⟩
      have t12 : SqT K H12 p12 (ws.map wv ++ [.str "not"] ++ rw.map wv) := t12
      refine ⟨by show 1 ≤ sizeLine; decide, fun g3 n3 => ?_⟩
      have v3 := same_upd (o := .tup [.str "and"]) n3
      refine ⟨_, rfl, by show 0 ≤ sizeLine; decide, fun g4 n4 => ?_⟩
      have v4 := same_upd (o := .tup []) n4
      have V14 := (V11.trans s12).trans (v3.trans v4)
      refine ⟨_, _, dpR (fun _ _ t => Same.tup V14 (T10 _ _ t)), .tup sqt_upd .nil, shR, rfl, ?_⟩
      rw [← ebb]
      refine .inr ⟨bb, rfl, g3, _, [.str "and"], rfl, rfl, Same.tup v4 sqt_upd, (fun z => nomatch z), by cases bb <;> decide, by cases bb <;> decide, (by show 1 ≤ 1000; decide), fun p15 H15 t15 s15 => ?_⟩
      have t15 : SqT K H15 p15 (List.replicate (if bb = true then (1 : Int) else 0).toNat [V.str "and"]).flatten := t15
      rw [rep_if, ban] at t15
      refine ⟨p12, p15, _, _, rfl, rfl, Same.tup ((v3.trans v4).trans s15) t12, t15, by rw [List.length_append, List.length_append, List.length_map, List.length_map, List.length_map]; show ws.length + 1 + rw.length + _ ≤ 100000; omega, fun p16 H16 t16 s16 => ?_⟩
      have t16 : SqT K H16 p16 (ws.map wv ++ [wv .nt] ++ rw.map wv ++ (anW rw).map wv) := t16
      have e16 : ws.map wv ++ [wv .nt] ++ rw.map wv ++ (anW rw).map wv = (ws ++ [Wd.nt] ++ rw ++ anW rw).map wv := by
        rw [List.map_append, List.map_append, List.map_append]
        rfl
      rw [e16] at t16
      have V16 := V14.trans (s15.trans s16)
      exact ⟨_, _, _, _, _, _, _, p16, _, vs ++ [.ref p9], _, rfl, V16 _ _ hC10, fC10.imp fun _ _ z => z.mono (Same.tk V16), t16, cI.next (by omega) yw lw6, (w10.same V16).less (by omega), k10.trans (Same.kp V16)⟩
    · rintro σ H3 ⟨x6, x7, x8, x9, x10, x11, x12, ra, rw, vs, C, rfl, hC, fC, tR, cI, w3, k3⟩
      have i3 : r.toNat ≤ 4 := by omega
      have cP := cI.last i3
      have shR : SeqAt.shaped (wdat rw) = true := wdat_shaped sm (cI.r.elim (fun z => by rw [z.1]; exact fun _ h => nomatch h) (fun z => z.2.2.lt))
      refine ⟨_, rfl, .inl ⟨rfl, _, .inl (.inl hC)⟩, _, rfl, by show 1 ≤ sizeLine; decide, fun y1 n1 => ?_⟩
      have u1 := same_upd (o := .tup [.str "yes"]) n1
      refine ⟨by show 2 ≤ sizeLine; decide, fun L2 n2 => ?_⟩
      have u2 := same_upd (o := .lst [.ref ra, .ref y1]) n2
      refine ⟨_, rfl, by show 0 ≤ sizeLine; decide, fun e3 n3 => ?_⟩
      have u3 := same_upd (o := .tup []) n3
      have U := (u1.trans u2).trans u3
      refine ⟨_, _, wdp (Same.tup U tR), .tup sqt_upd .nil, shR, rfl, ?_⟩
      obtain ⟨bb, ebb⟩ : ∃ bb : Bool, bb = PyData.eqv (wdat rw) (.tuple []) := ⟨_, rfl⟩
      have eb2 : bb = decide (rw = []) := by
        rw [ebb, Bool.eq_iff_iff, decide_eq_true_eq]
        exact wdat_iff rw []
      obtain ⟨la, ela, tla⟩ : ∃ la : Addr, atI [V.ref ra, .ref y1] (if bb = true then 1 else 0) = some (.ref la) ∧ SqT K (tgt u3) la ((if rw = [] then [Wd.yes] else rw).map wv) := by
        rw [eb2]
        by_cases z : rw = []
        · rw [decide_eq_true z, if_pos z, if_pos rfl]
          exact ⟨y1, rfl, Same.tup (u2.trans u3) sqt_upd⟩
        · rw [decide_eq_false z, if_neg z]
          exact ⟨ra, rfl, Same.tup U tR⟩
      refine .inr ⟨bb, by rw [ebb], L2, _, _, _, rfl, rfl, .inl (.inl (u3 _ _ upd_same)), ela, ?_⟩
      have fl := fC.len
      have cl := cI.len
      have hC3 := U _ _ hC
      refine ⟨CL, _, _, rfl, rfl, hC3, Nat.lt_of_le_of_lt (show vs.length ≤ 100 by omega) (by decide), ?_⟩
      have UP := fun x xs t => tup_upd (K := K) (a := x) (ys := xs) (zs := vs ++ [.ref la]) hC3 t
      have w4 := ((w3.same U).mut (o := .lst (vs ++ [.ref la])) nC1.1 nC2 nC1.2).less (show b ≤ b + 99 - 20 * r.toNat by omega)
      have k4 : Kp d H (upd (tgt u3) CL (.lst (vs ++ [.ref la]))) := kp_mut nCH (k3.trans (Same.kp U))
      have fC4 : F2 (WsAt K (upd (tgt u3) CL (.lst (vs ++ [.ref la])))) (vs ++ [.ref la]) (C ++ [if rw = [] then [Wd.yes] else rw]) := (fC.imp fun _ _ z => z.mono fun _ _ t => UP _ _ (Same.tup U t)).app (F2.one ⟨la, rfl, UP _ _ tla⟩)
      have hC4 : (upd (tgt u3) CL (.lst (vs ++ [.ref la]))) CL = some (.lst (vs ++ [.ref la])) := upd_same
      generalize upd (tgt u3) CL (.lst (vs ++ [.ref la])) = H4 at *
      generalize vs ++ [V.ref la] = vs1 at *
      have ln1 : (C ++ [if rw = [] then [Wd.yes] else rw]).length ≤ n := by rw [List.length_append, cl]; show r.toNat + 1 ≤ n; omega
      generalize C ++ [if rw = [] then [Wd.yes] else rw] = C1 at *
      have l1 := fC4.len
      have c5 := cP.len
      refine ⟨by show 0 ≤ sizeLine; decide, fun FL nF => ?_⟩
      have s5 := same_upd (o := .lst []) nF
      have nF1 := w4.no nF
      have nF2 := w4.nc nF
      have nCF : CL ≠ FL := ne_of_none hC4 nF
      have hC5 := s5 _ _ hC4
      have fC5 := fC4.imp fun _ _ z => z.mono (Same.tk s5 (K := K))
      have hF5 : (upd H4 FL (.lst [])) FL = some (.lst []) := upd_same
      have w5 := w4.same s5
      have k5 := k4.trans (Same.kp s5)
      have nFH : H FL = none := by
        cases e : H FL with
        | none => rfl
        | some o =>
          have := k4 _ _ e nF1.1 nF1.2
          rw [nF] at this
          cases this
      generalize upd H4 FL (.lst []) = H5 at *
      have hH5 := hH.mono fun _ _ t => Kp.tup k5 hD t
      have tG5 := Kp.tup k5 hD tG
      obtain ⟨f, ef⟩ : ∃ f, f = plcs cs (wor cs rs) g := ⟨_, rfl⟩
      rw [← ef] at q
      refine ⟨_, rfl, CL, rfl, ⟨_, .inl (.inl hC5)⟩, for_list (K := K) (a := CL) (xs := vs1) (fun i σ H' => ∃ (x9 x10 x11 x12 : Option V) (fs : List V), σ = [some (.ref d.dr), some (.ref h), some (.ref ga), some (.int n), some (.ref ra), some (.ref CL), x6, x7, some (.ref FL), x9, x10, x11, x12] ∧ H' FL = some (.lst fs) ∧ F2 (CelX K H' FL f) fs ((C1.take i).filter fun c => !(f c).isEmpty) ∧ KeepBut FL H5 H') ⟨_, _, _, _, [], rfl, hF5, .nil, KeepBut.refl _ _⟩ (fun i σ H' _ ⟨_, _, _, _, _, _, _, _, kb⟩ => .inl (.inl (kb _ _ hC5 nCF))) ?_ ?_⟩
      · rintro i v σ H6 hv ⟨x9, x10, x11, x12, fs, rfl, hF, fF, kb⟩
        have T6 : Tk K H5 H6 := kb.tk hF5
        obtain ⟨c, hc, a, rfl, ta⟩ := fC5.getA hv
        have cm := List.mem_of_getElem? hc
        obtain ⟨yc, lc⟩ := cP.cl c cm
        have hH6 := hH5.mono T6
        refine ⟨by show 0 ≤ sizeLine; decide, fun PL nP => ?_⟩
        have v1 := same_upd (o := .lst []) nP
        have nPF : PL ≠ FL := (ne_of_none hF nP).symm
        obtain ⟨rua, rvs, tA, tRr, tWr⟩ := id (hH6.same v1)
        refine ⟨_, rfl, h, rua, cs, rvs, rs, rfl, tA, tRr, tWr, (fun r hr => ⟨(hO.sy r hr).1, Nat.le_trans (hO.sy r hr).2 (by decide)⟩), Nat.le_trans hO.few (by decide), c6, sm, fun H7 pw tw v2 => ?_⟩
        have hP7 := v2 _ _ (upd_same (a := PL))
        have VV := v1.trans v2
        have ew : (wvs (wor cs rs)).length = (wor cs rs).length := wvs_len _
        have wle := wor_le (rs := rs) c6
        have ta7 := Same.tup VV (T6 _ _ ta)
        have tG7 := Same.tup VV (T6 _ _ tG5)
        have hF7 := VV _ _ hF
        refine ⟨.t, .ref pw, _, rfl, ⟨pw, rfl, tw⟩, for_it (walk_enumG (K := K) (xs := wvs (wor cs rs))) (fun j σ H' => ∃ (x11 x12 : Option V), σ = [some (.ref d.dr), some (.ref h), some (.ref ga), some (.int n), some (.ref ra), some (.ref CL), x6, x7, some (.ref FL), some (.ref a), some (.ref PL), x11, x12] ∧ H' PL = some (.lst (((List.range j).filter fun j => sval (vl cs ((wor cs rs).getD j [])) g && sval (vl cs ((wor cs rs).getD j [])) c).map iv)) ∧ KeepBut PL H7 H') ⟨_, _, rfl, hP7, KeepBut.refl _ _⟩ (fun j σ H' _ ⟨_, _, _, _, kp⟩ => ⟨pw, rfl, kp.tk hP7 _ _ tw⟩) ?_ ?_⟩
        · rintro j x σ H8 _ hj ⟨x11, x12, rfl, hP, kp⟩ ⟨T', w, rfl, nT, rfl, hx⟩
          obtain ⟨bs, hbs, rfl⟩ := wvs_get hx
          have lb := wor_len (List.mem_of_getElem? hbs)
          have sT := same_upd (o := .tup [.int (j : Nat), .str (wtx bs)]) nT
          have T8 : Tk K H7 (tgt sT) := fun _ _ t => Same.tup sT (kp.tk hP7 _ _ t)
          have kp9 := kp.same sT
          have hP9 := sT _ _ hP
          have tA9 := T8 _ _ (Same.tup v2 tA)
          have lp : ((List.range j).filter fun j => sval (vl cs ((wor cs rs).getD j [])) g && sval (vl cs ((wor cs rs).getD j [])) c).length ≤ j := by
            have := List.length_filter_le (fun j => sval (vl cs ((wor cs rs).getD j [])) g && sval (vl cs ((wor cs rs).getD j [])) c) (List.range j)
            rw [List.length_range] at this
            exact this
          refine ⟨T', _, rfl, sqt_upd, rfl, _, _, rfl, _, _, rfl, rfl, ?_⟩
          refine ⟨_, rfl, h, _, 0, .str (tx cs), rfl, rfl, tA9, rfl, _, rfl, _, rfl, cs, ga, g, bs, rfl, T8 _ _ tG7, yG, lb.symm, by omega, by omega, fun H10 s10 => ⟨_, rfl, ?_⟩⟩
          have tk := plcs_take cs (wor cs rs) g c hbs
          refine ite2 (fun eg => ?_) (fun eg => ?_)
          · refine ⟨_, rfl, h, _, 0, .str (tx cs), rfl, rfl, Same.tup s10 tA9, rfl, _, rfl, _, rfl, cs, a, c, bs, rfl, Same.tup s10 (T8 _ _ ta7), yc, lb.symm, by omega, by omega, fun H11 s11 => ⟨_, rfl, ?_⟩⟩
            have S11 := s10.trans s11
            refine ite2 (fun ec => ?_) (fun ec => ?_)
            · rw [eg, ec] at tk
              have hP11 := S11 _ _ hP9
              refine ⟨_, rfl, .inl ⟨rfl, _, .inl (.inl hP11)⟩, _, rfl, PL, _, _, rfl, rfl, hP11, Nat.lt_of_le_of_lt (show _ ≤ 100 by rw [List.length_map]; omega) (by decide), ?_⟩
              refine ⟨_, _, rfl, ?_, (kp9.same S11).put⟩
              rw [upd_same, tk, List.map_append]
              rfl
            · have ec : sval (vl cs bs) c = false := by cases h : sval (vl cs bs) c with
                | true => exact absurd h ec
                | false => rfl
              rw [eg, ec] at tk
              refine ⟨_, _, rfl, ?_, kp9.same S11⟩
              rw [tk, S11 _ _ hP9]
              show _ = some (HO.lst ((_ ++ ([] : List Nat)).map iv))
              rw [List.append_nil]
          · have eg : sval (vl cs bs) g = false := by cases h : sval (vl cs bs) g with
              | true => exact absurd h eg
              | false => rfl
            rw [eg] at tk
            refine ⟨_, _, rfl, ?_, kp9.same s10⟩
            rw [tk, s10 _ _ hP9]
            show _ = some (HO.lst ((_ ++ ([] : List Nat)).map iv))
            rw [List.append_nil]
        · rintro σ H8 ⟨x11, x12, rfl, hP, kp⟩
          rw [ew] at hP
          have hP : H8 PL = some (.lst ((f c).map iv)) := by rw [ef]; exact hP
          refine ⟨_, rfl, by show 0 ≤ sizeLine; decide, fun e0 ne => ?_⟩
          have s9 := same_upd (o := .lst []) ne
          have hP9 := s9 _ _ hP
          have kF : KeepBut FL H5 (tgt s9) := fun x o hx n => by
            have h6 := kb _ _ hx n
            exact s9 _ _ (kp _ _ (VV _ _ h6) (ne_of_none h6 nP))
          have kF6 : KeepBut FL H6 (tgt s9) := fun x o hx n => s9 _ _ (kp _ _ (VV _ _ hx) (ne_of_none hx nP))
          have hF9 : (tgt s9) FL = some (.lst fs) := s9 _ _ (kp _ _ hF7 nPF.symm)
          have fF9 := fF.imp fun _ _ z => z.but hF kF6
          have ht : C1.take (i + 1) = C1.take i ++ [c] := take_one _ _ _ hc
          refine ⟨PL, e0, _, rfl, rfl, .inl (.inl hP9), sql_upd, _, rfl, ite2 (fun e => ?_) (fun e => ?_)⟩
          · have ee : (!(f c).isEmpty) = true := by
              cases z : f c with
              | nil => rw [z] at e; exact absurd e (by decide)
              | cons _ _ => rfl
            refine ⟨_, rfl, .inl ⟨rfl, _, .inl (.inl hF9)⟩, _, rfl, _, rfl, by show 2 ≤ sizeLine; decide, fun q1 nq => ?_⟩
            have s10 := same_upd (o := .lst [.ref a, .ref PL]) nq
            have hF10 := s10 _ _ hF9
            have nqF : q1 ≠ FL := (ne_of_none hF9 nq).symm
            have lf := fF.len
            have : ((C1.take i).filter fun c => !(f c).isEmpty).length ≤ C1.length := Nat.le_trans (List.length_filter_le _ _) (by rw [List.length_take]; omega)
            refine ⟨FL, _, _, rfl, rfl, hF10, Nat.lt_of_le_of_lt (show fs.length ≤ 100 by omega) (by decide), ?_⟩
            have kU : KeepBut FL (tgt s9) (upd (tgt s10) FL (.lst (fs ++ [.ref q1]))) := ((KeepBut.refl FL _).same s10).put
            refine ⟨_, _, _, _, fs ++ [.ref q1], rfl, upd_same, ?_, kF.then kU⟩
            rw [ht, List.filter_append, filt1, ee]
            refine (fF9.imp fun _ _ z => z.but hF9 kU).app (F2.one ⟨q1, a, PL, rfl, nqF, nPF, ?_, kU.tk hF9 _ _ (Same.tup s9 (kp.tk hP7 _ _ ta7)), kU _ _ hP9 nPF⟩)
            rw [upd_ne nqF]
            exact upd_same
          · have ee : (!(f c).isEmpty) = false := by
              cases z : f c with
              | nil => rfl
              | cons _ _ => rw [z] at e; exact absurd rfl e
            refine ⟨_, _, _, _, fs, rfl, hF9, ?_, kF⟩
            rw [ht, List.filter_append, filt1, ee]
            show F2 _ fs (_ ++ [])
            rw [List.append_nil]
            exact fF9
      · rintro σ H6 ⟨x9, x10, x11, x12, fs, rfl, hF, fF, kb⟩
        rw [l1, List.take_length] at fF
        refine ⟨_, rfl, q _ FL fs C1 hF nF1 cP ln1 (fF.imp fun _ _ ⟨q', a, l, e, _, _, z⟩ => ⟨q', a, l, e, z⟩) (w5.but kb nF1.1 nF2 nF1.2) fun x o hx m1 m2 => kb _ _ (k5 _ _ hx m1 m2) (ne_of_none hx nFH)⟩
end
end B

namespace B
open PySem PySem.Spec PyProof.Rows L2

def sp_joined (K : PySem.W.Frag) : Sp := fun vs H Q E => ∃ (hv : V) (B ct lt : Addr) (bvs cvs rvs : List V) (bds : List Bd) (C : List (List Wd)) (rows : List (List Bd)), vs = [hv, .ref B, .ref ct, .ref lt] ∧ SqT K H B bvs ∧ F2 (BdAt K H) bvs bds ∧ SqT K H ct cvs ∧ F2 (WsAt K H) cvs C ∧ SqT K H lt rvs ∧ F2 (BsAt K H) rvs rows ∧ C.length = rows.length ∧ (∀ c ∈ C, c.length ≤ 100) ∧ (∀ row ∈ rows, ∀ x ∈ row, x.g.length ≤ 100) ∧ bds.length ≤ 50 ∧ (jlJ (C.zip rows)).length ≤ 50 ∧ (lonJ (C.zip rows) = true → ∀ C, XIs K "TooLong" C → ∀ d H', DOk H' d → Same H H' → E (.ref C) d H') ∧ (lonJ (C.zip rows) = false → 12 < bds.length + (jlJ (C.zip rows)).length → ∀ C, XIs K "TooMany" C → ∀ d H', DOk H' d → Same H H' → E (.ref C) d H') ∧ (lonJ (C.zip rows) = false → bds.length + (jlJ (C.zip rows)).length ≤ 12 → ∀ (H' : Hp) (p : Addr) (pvs : List V), SqT K H' p pvs → F2 (BdAt K H') pvs (bds ++ jlJ (C.zip rows)) → Same H H' → Q (.ref p) H')

section
variable {P : Program} {w : World} {K : PySem.W.Frag} {mg : Str → Option Value} {base : Heap}
theorem ok_joined (T : Tx K mg) (U : Unl P base) : FnOk P w K mg base (L2N.CX P w) 38 T.joined.f T.joined.fd ["house", "bids", "cells", "lists"] (sp_joined K) := by
  refine okXN T.joined.F sc_joined (fun vs H Q E h => ?_) (fun cdv A outer s H vs Q E hr h => ?_)
  · obtain ⟨hv, B, ct, lt, bvs, cvs, rvs, bds, C, rows, rfl, tB, fB, tC, fC, tR, fR, hl, h32, h6, h50, j50, eL, eM, q⟩ := h
    rfl
  · obtain ⟨hv, B, ct, lt, bvs, cvs, rvs, bds, C, rows, rfl, tB, fB, tC, fC, tR, fR, hl, h32, h6, h50, j50, eL, eM, q⟩ := h
    refine ⟨_, (pss_cons (ps_setLc2EN (i := 8) (own := [("cell", 4), ("row", 5), ("bet", 6), ("price", 7)]) (vs1 := [6, 7]) (g := (gTup K 2 (gCons (gName 4) (gCons (gName 5) gNil)))) (g1 := (gTup K 2 (gCons (gName 6) (gCons (gName 7) gNil)))) (tt := tYes) (tt1 := tYes) (wi1 := iTup K (tVar 5)) rfl sc_joined.nd rfl rfl (sw_true rfl rfl rfl (by decide +kernel)) (L2N.takes_of rfl rfl rfl rfl) rfl rfl (pi_zipG (by rfl) T.m_zip (pa_cons (pv 2) (pa_cons (pv 3) pa_nil))) (blkOk_by (own := [("cell", 4), ("row", 5), ("bet", 6), ("price", 7)]) (N := N_joined) (sc := defScope s_joined) (by decide +kernel)) (by decide) (fun _ _ _ _ _ _ => (pg_tup rfl (pgs_cons (pg_name (i := 4) sc_joined.nd rfl (.inl rfl)) (pgs_cons (pg_name (i := 5) sc_joined.nd rfl (.inl rfl)) pgs_nil)))) (fun _ _ _ _ _ _ => pts_nil) (fun _ _ _ _ _ _ => (pi_tup (pv 5))) (fun _ _ _ _ _ _ => (pg_tup rfl (pgs_cons (pg_name (i := 6) sc_joined.nd rfl (.inl rfl)) (pgs_cons (pg_name (i := 7) sc_joined.nd rfl (.inl rfl)) pgs_nil)))) (fun _ _ _ _ _ _ => pts_nil) (fun _ _ _ _ _ _ _ px => (pe_tup (pa_cons (pe_callS (ok_called_off T U) (hr.mono (by decide)) (by rfl) T.called_off.g T.called_off.F.kp T.called_off.b (E := fun _ => _) px (pa_cons (pv 6) (pa_cons (pv 4) pa_nil))) (pa_cons (pv 7) pa_nil)))))
      (pss_cons (ps_if (pt_cmpR op_gt (pe_op op_add (pe_callB call_len_seq (by rfl) T.m_len (by decide +kernel) (pa_cons (pv 1) pa_nil)) (pe_callB call_len_seq (by rfl) T.m_len (by decide +kernel) (pa_cons (pv 8) pa_nil))) (pe_glob (v := .int 12) (by rfl) T.g_MOST_BIDS ⟨_, rfl⟩) (nomark _)) (pss_one (L2N.ps_raise rfl (L2N.takes_of rfl rfl rfl rfl) (pmk_noneN T.x_TooMany hr (by rfl)))) pss_nil)
      (pss_one (ps_ret (pe_op op_catS (pv 1) (pe_callTy call_tuple_of (by rfl) T.m_tuple (by decide +kernel) (pa_cons (pv 8) pa_nil))))))), ?_⟩
    have lC := fC.len
    have lR := fR.len
    have lB := fB.len
    refine ⟨_, rfl, _, rfl, .t, .t, .ref ct, .ref lt, cvs, rvs, rfl, ⟨ct, rfl, tC⟩, ⟨lt, rfl, tR⟩, fun D nD => ?_⟩
    obtain ⟨wg, ws', wy⟩ := walk_zipG (K := K) (k1 := .t) (k2 := .t) (v1 := .ref ct) (v2 := .ref lt) (xs := cvs) (ys := rvs)
    have mn : min cvs.length rvs.length = C.length := by omega
    rw [mn] at wg ws' wy
    refine ⟨fun i m H' => m = C.length - i ∧ i ≤ C.length ∧ ∃ acc, H' D = some (.lst acc) ∧ F2 (BdAt K H') acc (jlJ ((C.zip rows).take i)) ∧ (∀ z ∈ (C.zip rows).take i, ∀ x ∈ z.2, x.g.length + z.1.length + 1 ≤ 40) ∧ Same H H', ⟨C.length, by omega, Nat.zero_le _, [], upd_same, by show F2 _ [] []; exact .nil, (by rw [List.take_zero]; nofun), same_upd nD⟩, ?_⟩
    rintro i m H1 ⟨rfl, hi, acc, hD, fA, fS, s1⟩
    have T1 : Tk K H H1 := Same.tk s1
    by_cases hlt : i < C.length
    · refine .inr ⟨wg i H1 hlt ⟨⟨ct, rfl, T1 _ _ tC⟩, ⟨lt, rfl, T1 _ _ tR⟩⟩, fun H' => ∃ acc, H' D = some (.lst acc) ∧ F2 (BdAt K H') acc (jlJ ((C.zip rows).take (i + 1))) ∧ (∀ z ∈ (C.zip rows).take (i + 1), ∀ x ∈ z.2, x.g.length + z.1.length + 1 ≤ 40) ∧ Same H H', fun H' z => ⟨C.length - (i + 1), by omega, rfl, hlt, z⟩, fun x H' y => ?_⟩
      obtain ⟨Tp, xv, yv, rfl, nT, rfl, hx, hy⟩ := wy i H1 x H' hlt ⟨⟨ct, rfl, T1 _ _ tC⟩, ⟨lt, rfl, T1 _ _ tR⟩⟩ y
      have hx : cvs[i]? = some xv := hx
      have hy : rvs[i]? = some yv := hy
      have sT := same_upd (o := .tup [xv, yv]) nT
      obtain ⟨c, hc, ca, rfl, tca⟩ := fC.getA hx
      obtain ⟨row, hrow, ra, bvs2, rfl, tra, fra⟩ := fR.getA hy
      have hz : (C.zip rows)[i]? = some (c, row) := zip_get hc hrow
      have c32 := h32 c (List.mem_of_getElem? hc)
      have r6 := h6 row (List.mem_of_getElem? hrow)
      have lr := fra.len
      have hD2 := sT _ _ hD
      have jt := jlJ_take hz
      have jle := jlJ_le (C.zip rows) (i + 1)
      rw [jt, List.length_append, List.length_map] at jle
      refine ⟨Tp, _, rfl, sqt_upd, rfl, _, _, rfl, _, _, rfl, rfl, rfl, lc_yes ?_⟩
      refine ⟨_, rfl, ra, rfl, ⟨_, Same.tup sT (T1 _ _ tra)⟩, ?_⟩
      refine ⟨fun j k H' => k = row.length - j ∧ j ≤ row.length ∧ ∃ acc, H' D = some (.lst acc) ∧ F2 (BdAt K H') acc (jlJ ((C.zip rows).take i) ++ (row.take j).map (jbJ c)) ∧ (∀ x ∈ row.take j, x.g.length + c.length + 1 ≤ 40) ∧ Same H H', ⟨row.length, by omega, Nat.zero_le _, acc, hD2, by show F2 _ acc (_ ++ []); rw [List.append_nil]; exact bds_tk fA (Same.tk sT), (by rw [List.take_zero]; nofun), s1.trans sT⟩, ?_⟩
      rintro j k H3 ⟨rfl, hj, acc3, hD3, fA3, fS3, s3⟩
      have T3 : Tk K H H3 := Same.tk s3
      by_cases jlt : j < row.length
      · have hb := List.getElem?_eq_getElem (show j < bvs2.length by omega)
        refine .inr ⟨⟨bvs2, bvs2[j]'(by omega), T3 _ _ tra, hb⟩, fun H' => ∃ acc, H' D = some (.lst acc) ∧ F2 (BdAt K H') acc (jlJ ((C.zip rows).take i) ++ (row.take (j + 1)).map (jbJ c)) ∧ (∀ x ∈ row.take (j + 1), x.g.length + c.length + 1 ≤ 40) ∧ Same H H', fun H' z => ⟨row.length - (j + 1), by omega, rfl, jlt, z⟩, fun x H' y => ?_⟩
        obtain ⟨rfl, y⟩ := y
        have hbv := y bvs2 (T3 _ _ tra)
        obtain ⟨bd, hbd, bq, ba, bf, rfl, t1, t2, t3⟩ := (bds_tk fra T3).getA hbv
        have g6 := r6 bd (List.mem_of_getElem? hbd)
        refine ⟨bq, _, rfl, t1, rfl, _, _, rfl, _, _, rfl, rfl, rfl, lc_yes ?_⟩
        refine ⟨_, rfl, _, rfl, ba, ca, bd.ts, bd.g, c, rfl, t2, T3 _ _ tca, by omega, (fun lt C hC d H5 dk s5 => eL (lonJ_yes (List.mem_of_getElem? hz) (List.mem_of_getElem? hbd) lt) C hC d H5 dk (s3.trans s5)), fun le H5 p5 hB5 s5 => ?_⟩
        refine ⟨_, rfl, by show 2 ≤ sizeLine; decide, fun q6 n6 => ?_⟩
        have s6 := same_upd (o := .tup [.ref p5, .ref bf]) n6
        have S6 := s5.trans s6
        have hD6 := S6 _ _ hD3
        have la := fA3.len
        rw [List.length_append, List.length_map, List.length_take] at la
        refine ⟨acc3, hD6, Nat.lt_of_le_of_lt (show acc3.length ≤ 50 by omega) (by decide), acc3 ++ [.ref q6], upd_same, ?_, (fun x hx => ?_), same_mut nD (s3.trans S6)⟩
        rotate_left
        · rw [take_one _ _ _ hbd] at hx
          rcases List.mem_append.mp hx with z | z
          · exact fS3 x z
          · rw [List.mem_singleton.mp z]
            exact le
        have UP := fun x xs t => tup_upd (K := K) (a := x) (ys := xs) (zs := acc3 ++ [.ref q6]) hD6 t
        rw [take_one _ _ _ hbd, List.map_append, ← List.append_assoc]
        exact (bds_tk fA3 fun _ _ t => UP _ _ (Same.tup S6 t)).app (F2.one ⟨q6, p5, bf, rfl, UP _ _ sqt_upd, hB5.mono fun _ _ t => UP _ _ (Same.tup s6 t), UP _ _ (Same.tup S6 t3)⟩)
      · have ej : j = row.length := by omega
        subst ej
        rw [List.take_length] at fA3 fS3
        refine .inl ⟨⟨bvs2, T3 _ _ tra, by omega⟩, acc3, hD3, ?_, (fun z hz' x hx => ?_), s3⟩
        rotate_left
        · rw [take_one _ _ _ hz] at hz'
          rcases List.mem_append.mp hz' with z' | z'
          · exact fS z z' x hx
          · rw [List.mem_singleton.mp z'] at hx ⊢
            exact fS3 x hx
        rw [jt]
        exact fA3
    · have ei : i = C.length := by omega
      subst ei
      have lz : (C.zip rows).length = C.length := by rw [List.length_zip]; omega
      rw [List.take_of_length_le (by omega)] at fA fS
      have lo := lonJ_no fS
      have la := fA.len
      refine .inl ⟨ws' H1 ⟨⟨ct, rfl, T1 _ _ tC⟩, ⟨lt, rfl, T1 _ _ tR⟩⟩, ?_⟩
      have TL := Same.tk s1 (K := K)
      refine ⟨_, rfl, B, bvs, rfl, .inr (TL _ _ tB), _, rfl, D, acc, rfl, .inl (.inl (.inl hD)), _, _, rfl, rfl, _, _, rfl, rfl, _, rfl, ?_⟩
      refine ite2 (fun c => ?_) (fun c => ?_)
      · have c := of_decide_eq_true c
        exact fun d nd => eM lo (by omega) _ T.x_TooMany.ns _ _ dok_upd (s1.trans (same_upd nd))
      have c : ¬ _ := fun z => c (decide_eq_true z)
      refine ⟨_, rfl, _, rfl, D, _, rfl, .inl ⟨.inl (.inl hD), fun p np => ?_⟩⟩
      have s2 := same_upd (o := .tup acc) np
      refine ⟨B, p, bvs, acc, rfl, rfl, Same.tup s2 (TL _ _ tB), sqt_upd, Nat.le_trans (show bvs.length + acc.length ≤ 100 by omega) (by decide), fun p2 H3 t3 s3 => ?_⟩
      have S := s1.trans (s2.trans s3)
      exact q lo (by omega) _ p2 (bvs ++ acc) t3 ((bds_tk fB (Same.tk S)).app (bds_tk fA (Same.tk (s2.trans s3)))) S
end
end B

namespace B
open PySem PySem.Spec PyProof.Rows L2

def sp_l_table (K : PySem.W.Frag) : Sp := fun vs H Q _ => ∃ (h a : Addr) (cs : List Nat) (rs : List (List Wd)) (ts : List Tm) (g : List Wd), vs = [.ref h, .ref a] ∧ HsAt K H h cs rs ∧ HsOk cs rs ∧ BtAt K H a ts g ∧ BtOk cs ts g ∧ ∀ (H' : Hp) (p : Addr) (us : List V), SqT K H' p us → F2 (PdAt K H') us (tabO cs ts g (wor cs rs)) → Same H H' → Q (.ref p) H'

section
variable {P : Program} {w : World} {K : PySem.W.Frag} {mg : Str → Option Value} {base : Heap}
theorem ok_l_table (T : Tx K mg) (U : Unl P base) : FnOk P w K mg base CX0 38 T.l_table.f T.l_table.fd ["_law_house", "_law_bet_here"] (sp_l_table K) := by
  refine T.l_table.F.ok sc_l_table (fun vs H Q E h => ?_) (fun cdv A outer s H vs Q E hr h => ?_)
  · obtain ⟨h, a, cs, rs, ts, g, rfl, hH, hO, hA, hB, q⟩ := h
    rfl
  · obtain ⟨h, a, cs, rs, ts, g, rfl, hH, hO, hA, hB, q⟩ := h
    refine ⟨_, (pss_one (ps_ret (pe_callTy call_tuple_of (by rfl) T.m_tuple (by decide +kernel) (pa_cons (pe_lc (own := [("_law_world", 2)]) (g := gName 2) (tt := tYes) rfl sc_l_table.nd (pi_tup (pe_call (ok_l_worlds T U) (hr.mono (by decide)) (by rfl) T.l_worlds.g T.l_worlds.F.kp T.l_worlds.b .nil pass0 (pa_cons (pv 0) pa_nil))) (blkOk_by (own := [("_law_world", 2)]) (N := N_l_table) (sc := defScope s_l_table) (by decide +kernel)) (fun _ _ _ _ _ => (pg_name (i := 2) sc_l_table.nd rfl (.inl rfl))) (fun _ _ _ _ _ => pts_nil) (fun _ _ _ _ _ => (pe_call (ok_l_paid T U) (hr.mono (by decide)) (by rfl) T.l_paid.g T.l_paid.F.kp T.l_paid.b .nil pass0 (pa_cons (pe_ix (r := rIxT K) ix_tup (pv 0) pe_int (fun _ _ => rfl)) (pa_cons (pv 1) (pa_cons (pv 2) pa_nil)))))) pa_nil)))), ?_⟩
    obtain ⟨ra, rvs, tA, tRa, tW⟩ := id hH
    refine ⟨_, rfl, h, ra, cs, rvs, rs, rfl, tA, tRa, tW, (fun r hr => ⟨(hO.sy r hr).1, Nat.le_trans (hO.sy r hr).2 (by decide)⟩), Nat.le_trans hO.few (by decide), hO.c6, hO.sm, fun H0 pw tw s0 => ?_⟩
    refine ⟨pw, rfl, ⟨_, tw⟩, fun D nD => ?_⟩
    refine lc_tup (K := K) (a := pw) (xs := wvs (wor cs rs)) (fun j H' => ∃ us, H' D = some (.lst us) ∧ F2 (PdAt K H') us (tabO cs ts g ((wor cs rs).take j)) ∧ Same H0 H') ⟨[], upd_same, .nil, same_upd nD⟩ (fun j H' _ ⟨_, _, _, e⟩ => Same.tup e tw) ?_ ?_
    · rintro j x H1 hx ⟨us, h1, f1, s1⟩
      obtain ⟨bs, hbs, rfl⟩ := wvs_get hx
      have lb := wor_len (List.mem_of_getElem? hbs)
      have c6 := hO.c6
      refine ⟨rfl, lc_yes ?_⟩
      refine ⟨_, rfl, h, _, 0, .str (tx cs), rfl, rfl, Same.tup (s0.trans s1) tA, rfl, _, rfl, _, rfl, cs, a, ts, g, bs, rfl, hA.same (s0.trans s1), hB, lb.symm, by omega, fun H2 u pu s2 => ?_⟩
      have ul := f1.len
      refine ⟨us, s2 _ _ h1, ?_, us ++ [u], upd_same, ?_, same_mut nD (s1.trans s2)⟩
      · unfold tabO at ul
        rw [List.length_map, List.length_take] at ul
        have := wor_le (rs := rs) c6
        exact Nat.lt_of_le_of_lt (show us.length ≤ 64 by omega) (by decide)
      · have e := tabO_take (cs := cs) (ts := ts) (g := g) hbs
        rw [e]
        exact ((f1.imp fun _ _ h => PdAt.mono (fun _ _ t => Same.tup s2 t) h).app (.one pu)).imp fun _ _ h => PdAt.mono (fun _ _ t => tup_upd (s2 _ _ h1) t) h
    · rintro H1 ⟨us, h1, f1, s1⟩
      rw [wvs_len, List.take_length] at f1
      refine ⟨D, us, rfl, .inl ⟨.inl (.inl h1), fun p np => ?_⟩⟩
      have s2 := same_upd (o := .tup us) np
      exact q _ p us sqt_upd (f1.imp fun _ _ h => PdAt.mono (fun _ _ t => Same.tup s2 t) h) ((s0.trans s1).trans s2)
end
end B

namespace B
open PySem PySem.Spec PyProof.Rows L2
/-- a house with a cell as a rule more -/
def HcAt (K : PySem.W.Frag) (H : Hp) (cs : List Nat) (rs : List (List Wd)) (v : V) (c : List Wd) : Prop := ∃ h, v = .ref h ∧ HsAt K H h cs (rs ++ [c])
theorem HcAt.mono {K : PySem.W.Frag} {H H' : Hp} {cs : List Nat} {rs : List (List Wd)} {v : V} {c : List Wd} (k : Tk K H H') (h : HcAt K H cs rs v c) : HcAt K H' cs rs v c := by
  obtain ⟨p, e, t⟩ := h
  exact ⟨p, e, t.mono k⟩
/-- the cells of a day: sayings of which just one holds at each world of the house, each at one of them -/
structure CelD (cs : List Nat) (rs : List (List Wd)) (C : List (List Wd)) : Prop where
  cl : ∀ c ∈ C, Sy cs c ∧ c.length ≤ 32
  len : C.length ≤ 5
  dis : C.Pairwise fun a b => ∀ v, sval v a = true → sval v b = false
  cov : ∀ bs ∈ wor cs rs, ∃ c ∈ C, sval (vl cs bs) c = true
  live : ∀ c ∈ C, wor cs (rs ++ [c]) ≠ []
theorem CelP.day {cs : List Nat} {rs : List (List Wd)} {C : List (List Wd)} {g : List Wd} (h : CelP cs C) (hg : ∀ v, sval v g = true) : CelD cs rs (C.filter fun c => !(plcs cs (wor cs rs) g c).isEmpty) := by
  have mm : ∀ c, c ∈ C.filter (fun c => !(plcs cs (wor cs rs) g c).isEmpty) → c ∈ C ∧ plcs cs (wor cs rs) g c ≠ [] := fun c hc => by
    obtain ⟨a, b⟩ := List.mem_filter.mp hc
    refine ⟨a, fun z => ?_⟩
    rw [z] at b
    exact absurd b (by decide)
  refine ⟨fun c hc => h.cl c (mm c hc).1, Nat.le_trans (List.length_filter_le _ _) h.len, h.dis.sublist List.filter_sublist, fun bs hb => ?_, fun c hc => ?_⟩
  · obtain ⟨c, hc, hv⟩ := h.cov (vl cs bs)
    refine ⟨c, List.mem_filter.mpr ⟨hc, ?_⟩, hv⟩
    obtain ⟨j, hj⟩ := List.getElem?_of_mem hb
    have jl := (List.getElem?_eq_some_iff.mp hj).1
    have e : (wor cs rs).getD j [] = bs := by rw [List.getD_eq_getElem?_getD, hj]; rfl
    have : j ∈ plcs cs (wor cs rs) g c := List.mem_filter.mpr ⟨List.mem_range.mpr jl, by rw [e, hg, hv]; rfl⟩
    cases z : plcs cs (wor cs rs) g c with
    | nil => rw [z] at this; cases this
    | cons _ _ => rfl
  · obtain ⟨j, hj⟩ := List.exists_mem_of_ne_nil _ (mm c hc).2
    obtain ⟨jm, jv⟩ := List.mem_filter.mp hj
    have jl := List.mem_range.mp jm
    have e : (wor cs rs).getD j [] = (wor cs rs)[j] := by rw [List.getD_eq_getElem?_getD, List.getElem?_eq_getElem jl]; rfl
    rw [e, Bool.and_eq_true] at jv
    rw [wor_snoc]
    exact List.ne_nil_of_mem (List.mem_filter.mpr ⟨List.getElem_mem jl, jv.2⟩)

def sp_l_days (K : PySem.W.Frag) : Sp := fun vs H Q _ => ∃ (d : Dr) (n b : Nat) (h : Addr) (cs : List Nat) (rs : List (List Wd)), vs = [.ref d.dr, .ref h, .int n] ∧ 1 ≤ n ∧ n ≤ 5 ∧ HsAt K H h cs rs ∧ HsOk cs rs ∧ 1 ≤ cs.length ∧ Drw H d (b + 100) ∧ ∀ (H' : Hp) (p ct hl : Addr) (cvs hvs : List V) (C : List (List Wd)), H' p = some (.lst [.ref ct, .ref hl]) → p ≠ d.dr ∧ p ≠ d.rs → SqT K H' ct cvs → F2 (WsAt K H') cvs C → H' hl = some (.lst hvs) → hl ≠ d.dr ∧ hl ≠ d.rs → F2 (HcAt K H' cs rs) hvs C → CelD cs rs C → C.length ≤ n → Drw H' d b → Kp d H H' → Q (.ref p) H'

section
variable {P : Program} {w : World} {K : PySem.W.Frag} {mg : Str → Option Value} {base : Heap}
theorem ok_l_days (T : Tx K mg) (U : Unl P base) : FnOk P w K mg base CX0 38 T.l_days.f T.l_days.fd ["_law_drawn", "_law_house", "_law_most"] (sp_l_days K) := by
  refine T.l_days.F.ok sc_l_days (fun vs H Q E h => ?_) (fun cdv A outer s H vs Q E hr h => ?_)
  · obtain ⟨d, n, b, h, cs, rs, rfl, hn1, hn5, hH, hO, c1, hD, q⟩ := h
    rfl
  · obtain ⟨d, n, b, h, cs, rs, rfl, hn1, hn5, hH, hO, c1, hD, q⟩ := h
    refine ⟨_, (pss_cons (ps_setLc (i := 5) (own := [("_law_cell", 3), ("_law_places", 4)]) (g := (gLst K 2 (gCons (gName 3) (gCons (gName 4) gNil)))) (tt := tYes) rfl sc_l_days.nd rfl rfl (sw_true rfl rfl rfl (by decide +kernel)) (pi_list (pe_call (ok_l_cells T U) (hr.mono (by decide)) (by rfl) T.l_cells.g T.l_cells.F.kp T.l_cells.b .nil pass0 (pa_cons (pv 0) (pa_cons (pv 1) (pa_cons (pe_tup (pa_cons pe_str pa_nil)) (pa_cons (pv 2) pa_nil)))))) (blkOk_by (own := [("_law_cell", 3), ("_law_places", 4)]) (N := N_l_days) (sc := defScope s_l_days) (by decide +kernel)) (fun _ _ _ _ _ => (pg_lst rfl (pgs_cons (pg_name (i := 3) sc_l_days.nd rfl (.inl rfl)) (pgs_cons (pg_name (i := 4) sc_l_days.nd rfl (.inl rfl)) pgs_nil)))) (fun _ _ _ _ _ => pts_nil) (fun _ _ _ _ _ => (pv 3)))
      (pss_one (ps_ret (pe_lst (pa_cons (pe_callTy call_tuple_of (by rfl) T.m_tuple (by decide +kernel) (pa_cons (pv 5) pa_nil)) (pa_cons (pe_lc (own := [("_law_cell", 3)]) (g := gName 3) (tt := tYes) rfl sc_l_days.nd (pi_list (pv 5)) (blkOk_by (own := [("_law_cell", 3)]) (N := N_l_days) (sc := defScope s_l_days) (by decide +kernel)) (fun _ _ _ _ _ => (pg_name (i := 3) sc_l_days.nd rfl (.inl rfl))) (fun _ _ _ _ _ => pts_nil) (fun _ _ _ _ _ => (pe_tup (pa_cons (pe_ix (r := rIxT K) ix_tup (pv 1) pe_int (fun _ _ => rfl)) (pa_cons (pe_op (r := rCatS K) op_catS (pe_ix (r := rIxT K) ix_tup (pv 1) pe_int (fun _ _ => rfl)) (pe_tup (pa_cons (pv 3) pa_nil))) pa_nil))))) pa_nil)))))), ?_⟩
    refine ⟨_, rfl, _, rfl, by show 1 ≤ sizeLine; decide, fun ga nga => ?_⟩
    have s0 := same_upd (o := .tup [.str "yes"]) nga
    refine ⟨_, rfl, d, n, b, h, ga, cs, rs, [.yes], rfl, hn1, hn5, hH.same s0, hO, c1, sqt_upd, Sy.yes, by decide, hD.same s0, fun H1 pc vs' C0 hp np cP ln0 fC w1 k1 => ?_⟩
    have k01 : Kp d H H1 := (Same.kp s0).trans k1
    have cD := cP.day (rs := rs) (g := [.yes]) fun v => rfl
    have lnf : (C0.filter (fun c => !(plcs cs (wor cs rs) [.yes] c).isEmpty)).length ≤ n := Nat.le_trans (List.length_filter_le _ _) ln0
    generalize C0.filter (fun c => !(plcs cs (wor cs rs) [.yes] c).isEmpty) = C at *
    have lC := fC.len
    have c5 := cD.len
    have hH1 := hH.mono fun _ _ t => Kp.tup k01 hD t
    obtain ⟨ra, rvs, tA, tR, fR⟩ := id hH1
    refine ⟨pc, rfl, ⟨_, .inl (.inl hp)⟩, fun D nD => ?_⟩
    refine lcp_list (K := K) (R := WsAt K) (IR := CelAt K H1 (plcs cs (wor cs rs) [.yes])) C (fun c => some c) (fun _ _ _ _ k h => h.mono k) fC nD hp (Nat.lt_of_le_of_lt (show vs'.length ≤ 100 by omega) (by decide)) ?_ ?_
    · rintro v c H2 ⟨q', a, l, rfl, h1, t1, h2⟩ hm s2 Y N hY hN
      exact ⟨q', _, rfl, .inl (.inl (s2 _ _ h1)), rfl, _, _, rfl, _, _, rfl, rfl, rfl, lc_yes ⟨_, rfl, hY _ _ c (Same.refl _) rfl ⟨a, rfl, Same.tup s2 t1⟩⟩⟩
    intro H2 ys h2 f2 s2
    rw [fm_some, List.map_id'] at f2
    have ly := f2.len
    refine ⟨_, rfl, D, _, rfl, .inl ⟨.inl (.inl h2), fun ct nct => ?_⟩⟩
    have s3 := same_upd (o := .tup ys) nct
    have h3 := s3 _ _ h2
    have f3 := f2.imp fun _ _ z => z.mono (Same.tk s3 (K := K))
    have T13 : Tk K H1 (tgt s3) := fun _ _ t => Same.tup (s2.trans s3) t
    refine ⟨_, rfl, D, rfl, ⟨_, .inl (.inl h3)⟩, fun D2 nD2 => ?_⟩
    refine lcp_list (K := K) (R := fun H => HcAt K H cs rs) (IR := WsAt K (tgt s3)) C (fun c => some c) (fun _ _ _ _ k h => h.mono k) f3 nD2 h3 (Nat.lt_of_le_of_lt (show ys.length ≤ 100 by omega) (by decide)) ?_ ?_
    · rintro v c H4 ⟨a, rfl, ta⟩ hm s4 Y N hY hN
      have T14 : Tk K H1 H4 := fun _ _ t => Same.tup s4 (T13 _ _ t)
      have rl := fR.len
      have fw := hO.few
      refine ⟨rfl, lc_yes ?_⟩
      refine ⟨_, rfl, h, _, 0, .str (tx cs), rfl, rfl, T14 _ _ tA, rfl, _, rfl, h, _, 1, .ref ra, rfl, rfl, T14 _ _ tA, rfl, _, rfl, by show 1 ≤ sizeLine; decide, fun q1 m1 => ?_⟩
      have u1 := same_upd (o := .tup [.ref a]) m1
      refine ⟨ra, q1, rvs, [.ref a], rfl, rfl, Same.tup u1 (T14 _ _ tR), sqt_upd, by show rvs.length + 1 ≤ 100000; omega, fun q2 H6 t6 s6 => ?_⟩
      have t6 : SqT K H6 q2 (rvs ++ [.ref a]) := t6
      refine ⟨by show 2 ≤ sizeLine; decide, fun q3 m3 => ?_⟩
      have u3 := same_upd (o := .tup [.str (tx cs), .ref q2]) m3
      have S := u1.trans (s6.trans u3)
      exact hY _ _ c S rfl ⟨q3, rfl, ⟨q2, rvs ++ [.ref a], sqt_upd, Same.tup u3 t6, Rws.app ((fR.mono T14).same S) (Rws.one (Same.tup (s4.trans S) ta))⟩⟩
    intro H4 zs h4 f4 s4
    rw [fm_some, List.map_id'] at f4
    refine ⟨by show 2 ≤ sizeLine; decide, fun p5 n5 => ?_⟩
    have s5 := same_upd (o := .lst [.ref ct, .ref D2]) n5
    have S := ((s2.trans s3).trans s4).trans s5
    have w2 := (w1.same (s2.trans s3))
    exact q _ p5 ct D2 ys zs C upd_same ((w2.same s4).no n5) (Same.tup (s4.trans s5) sqt_upd) (f3.imp fun _ _ z => z.mono (Same.tk (s4.trans s5))) (s5 _ _ h4) (w2.no nD2) (f4.imp fun _ _ z => z.mono (Same.tk s5)) cD lnf (w1.same S) (k01.trans (Same.kp S))
end
end B

namespace B
open PySem PySem.Spec PyProof.Rows L2

def sp_judged_days (K : PySem.W.Frag) : Sp := fun vs H Q E => ∃ (hv : V) (B ct lt : Addr) (bvs cvs rvs : List V) (bds : List Bd) (C : List (List Wd)) (rows : List (List Bd)), vs = [hv, .ref B, .ref ct, .ref lt] ∧ SqT K H B bvs ∧ F2 (BdAt K H) bvs bds ∧ SqT K H ct cvs ∧ F2 (WsAt K H) cvs C ∧ SqT K H lt rvs ∧ F2 (BsAt K H) rvs rows ∧ C.length = rows.length ∧ (∀ c ∈ C, c.length ≤ 100) ∧ (∀ row ∈ rows, ∀ x ∈ row, x.g.length ≤ 100) ∧ bds.length ≤ 50 ∧ (jlJ (C.zip rows)).length ≤ 50 ∧ (lonJ (C.zip rows) = true → ∀ C, XIs K "TooLong" C → ∀ d H', DOk H' d → Same H H' → E (.ref C) d H') ∧ (lonJ (C.zip rows) = false → ∀ C, XIs K "TooMany" C → ∀ d H', DOk H' d → Same H H' → E (.ref C) d H') ∧ (lonJ (C.zip rows) = false → 12 < bds.length + (jlJ (C.zip rows)).length)

section
variable {P : Program} {w : World} {K : PySem.W.Frag} {mg : Str → Option Value} {base : Heap}
theorem ok_judged_days (T : Tx K mg) (U : Unl P base) : FnOk P w K mg base (L2N.CX P w) 39 T.judged_days.f T.judged_days.fd ["house", "bids", "cells", "lists"] (sp_judged_days K) := by
  refine okXN T.judged_days.F sc_judged_days (fun vs H Q E h => ?_) (fun cdv A outer s H vs Q E hr h => ?_)
  · obtain ⟨hv, B, ct, lt, bvs, cvs, rvs, bds, C, rows, rfl, tB, fB, tC, fC, tR, fR, hl, h32, h6, h50, j50, eL, eM, e12⟩ := h
    rfl
  · obtain ⟨hv, B, ct, lt, bvs, cvs, rvs, bds, C, rows, rfl, tB, fB, tC, fC, tR, fR, hl, h32, h6, h50, j50, eL, eM, e12⟩ := h
    refine ⟨_, (pss_cons (ps_asg (pe_call (ok_judged T U) (hr.mono (by decide)) (by rfl) T.judged.g T.judged.F.kp T.judged.b .nil pass0 (pa_cons (pv 0) (pa_cons (pe_callS (ok_joined T U) (hr.mono (by decide)) (by rfl) T.joined.g T.joined.F.kp T.joined.b (fun σ => L2N.passAt (L2N.takes_of rfl rfl rfl rfl) σ) (pa_cons (pv 0) (pa_cons (pv 1) (pa_cons (pv 2) (pa_cons (pv 3) pa_nil))))) pa_nil))) (pg_tup rfl (pgs_cons (pg_name (i := 4) sc_judged_days.nd rfl (.inl rfl)) (pgs_cons (pg_name (i := 5) sc_judged_days.nd rfl (.inl rfl)) pgs_nil))))
      (pss_cons (ps_if (pt_cmpR op_eq (pv 4) pe_str (nomark _)) (pss_one (ps_ret (pe_tup (pa_cons (pv 4) (pa_cons (pv 5) pa_nil))))) pss_nil)
      (pss_cons (ps_set (i := 6) sc_judged_days.nd rfl (.inl rfl) (pe_callB call_len_seq (by rfl) T.m_len (by decide +kernel) (pa_cons (pv 1) pa_nil)))
      (pss_one (ps_ret (pe_tup (pa_cons (pv 4) (pa_cons (pe_tup (pa_cons (pe_slice sl_list (pv 5) po_none (po_some (pv 6))) (pa_cons (pe_call (ok_parted T U) (hr.mono (by decide)) (by rfl) T.parted.g T.parted.F.kp T.parted.b .nil pass0 (pa_cons (pe_slice sl_list (pv 5) (po_some (pv 6)) po_none) (pa_cons (pv 3) pa_nil))) pa_nil))) pa_nil)))))))), ?_⟩
    exact ⟨_, rfl, _, rfl, _, rfl, _, rfl, _, rfl, hv, B, ct, lt, bvs, cvs, rvs, bds, C, rows, rfl, tB, fB, tC, fC, tR, fR, hl, h32, h6, h50, j50, eL, (fun lo _ => eM lo), fun lo le => absurd (e12 lo) (by omega)⟩
end
end B

namespace B
open PySem PySem.Spec PyProof.Rows L2

def sp_l_living (K : PySem.W.Frag) : Sp := fun vs H Q _ => ∃ (d : Dr) (n b : Nat) (h : Addr) (cs : List Nat) (rs : List (List Wd)), vs = [.ref d.dr, .ref h, .int n] ∧ n ≤ 8 ∧ HsAt K H h cs rs ∧ HsOk cs rs ∧ 1 ≤ cs.length ∧ wor cs rs ≠ [] ∧ Drw H d (b + 330) ∧ ∀ (H' : Hp) (p : Addr) (ts : List Tm) (g : List Wd), BtAt K H' p ts g → BtOk cs ts g → BtSm n ts g → somes (tabO cs ts g (wor cs rs)) ≠ [] → Drw H' d b → Kp d H H' → Q (.ref p) H'

section
variable {P : Program} {w : World} {K : PySem.W.Frag} {mg : Str → Option Value} {base : Heap}
theorem ok_l_living (T : Tx K mg) (U : Unl P base) : FnOk P w K mg base CX0 39 T.l_living.f T.l_living.fd ["_law_drawn", "_law_house", "_law_most"] (sp_l_living K) := by
  refine T.l_living.F.ok sc_l_living (fun vs H Q E h => ?_) (fun cdv A outer s H vs Q E hr h => ?_)
  · obtain ⟨d, n, b, h, cs, rs, rfl, hn, hH, hO, hc1, hne, hD, q⟩ := h
    rfl
  · obtain ⟨d, n, b, h, cs, rs, rfl, hn, hH, hO, hc1, hne, hD, q⟩ := h
    refine ⟨_, (pss_cons (ps_set (i := 3) sc_l_living.nd rfl (.inl rfl) (pe_call (ok_l_bet T U) (hr.mono (by decide)) (by rfl) T.l_bet.g T.l_bet.F.kp T.l_bet.b .nil pass0 (pa_cons (pv 0) (pa_cons (pe_ix ix_tup (pv 1) pe_int (fun _ _ => rfl)) (pa_cons (pv 2) pa_nil)))))
      (pss_cons (ps_if (pt_cmpR (op_eqD hr.units) (pe_lc (own := [("_law_one", 4)]) (g := gName 4) rfl sc_l_living.nd (pi_tup (pe_call (ok_l_table T U) (hr.mono (by decide)) (by rfl) T.l_table.g T.l_table.F.kp T.l_table.b .nil pass0 (pa_cons (pv 1) (pa_cons (pv 3) pa_nil)))) (blkOk_by (own := [("_law_one", 4)]) (N := N_l_living) (sc := defScope s_l_living) (by decide +kernel)) (fun _ _ _ _ _ => (pg_name (i := 4) sc_l_living.nd rfl (.inl rfl))) (fun _ _ _ _ _ => (pts_one (pt_cmpR op_notN (pv 4) pe_non (nomark _)))) (fun _ _ _ _ _ => (pv 4))) (pe_lst pa_nil) (nomark _)) (pss_one (ps_ret (pe_tup (pa_cons (pe_ix ix_tup (pv 3) pe_int (fun _ _ => rfl)) (pa_cons (pe_tup (pa_cons pe_str pa_nil)) pa_nil))))) pss_nil)
      (pss_one (ps_ret (pv 3))))), ?_⟩
    have h6 := hO.c6
    obtain ⟨ra, rvs, tA, _, _⟩ := id hH
    refine ⟨_, rfl, _, rfl, h, _, 0, .str (tx cs), rfl, rfl, tA, rfl, _, rfl, d, n, b, cs, rfl, hn, hc1, by omega, hD, fun H1 a ts g hB oB sB w1 k1 => ?_⟩
    have hH1 := hH.mono fun _ _ t => Kp.tup k1 hD t
    refine ⟨_, rfl, _, rfl, h, a, cs, rs, ts, g, rfl, hH1, hO, hB, oB, fun H2 p us tp f2 s2 => ?_⟩
    refine ⟨p, rfl, ⟨_, tp⟩, fun D nD => ?_⟩
    have ul := f2.len
    rw [tabO_len] at ul
    have wl := wor_le (rs := rs) h6
    refine lcp_tup (K := K) (R := FAt K) (IR := PdAt K H2) (tabO cs ts g (wor cs rs)) id (fun _ _ _ _ k h => h.mono k) f2 nD tp (Nat.lt_of_le_of_lt (show us.length ≤ 64 by omega) (by decide)) ?_ ?_
    · rintro v o H3 pv _ s3 Y N hYes hNo
      refine ⟨rfl, _, rfl, rfl, _, rfl, ?_⟩
      rw [pdAt_notNone pv]
      cases o with
      | none => exact hNo _ (fun _ _ h => h) rfl
      | some x => exact ⟨_, rfl, hYes _ _ x (fun _ _ h => h) rfl (FAt.mono (Same.tk s3) pv)⟩
    intro H3 ys h3 f3 s3
    refine ⟨by decide, fun e1 m1 => ?_⟩
    have s4 := same_upd (o := .lst []) m1
    refine ⟨_, _, .lst (.inl (.inl (s4 _ _ h3))) ((fas_tk f3 (Same.tk s4)).dp fun _ _ h => h.dp), .lst sql_upd .nil, odats_shaped _, rfl, _, rfl, ?_⟩
    rw [eqv_nil, List.isEmpty_map]
    have S4 := (s2.trans s3).trans s4
    obtain ⟨pa, ca, va, tB, tpa, fa, tca⟩ := (hB.same S4).parts
    cases e : (List.filterMap id (tabO cs ts g (wor cs rs))).isEmpty with
    | true =>
      refine iteT ⟨_, rfl, a, _, 0, .ref pa, rfl, rfl, tB, rfl, by show 1 ≤ sizeLine; decide, fun y1 n1 => ?_⟩
      have s5 := same_upd (o := .tup [.str "yes"]) n1
      refine ⟨by show 2 ≤ sizeLine; decide, fun r nr => ?_⟩
      have s6 := same_upd (o := .tup [.ref pa, .ref y1]) nr
      have S6 := S4.trans (s5.trans s6)
      exact q _ r ts [.yes] ⟨pa, y1, va, sqt_upd, Same.tup (s5.trans s6) tpa, tms_same fa (s5.trans s6), Same.tup s6 sqt_upd⟩ ⟨oB.tm, oB.few, Sy.yes, by decide⟩ ⟨sB.few, sB.tm, by decide⟩ (somes_yes ts hne) (w1.same S6) (k1.trans (Same.kp S6))
    | false =>
      refine iteF ⟨_, rfl, ?_⟩
      refine q _ a ts g (hB.same S4) oB sB ?_ (w1.same S4) (k1.trans (Same.kp S4))
      intro z
      unfold somes at z
      rw [z] at e
      exact absurd e (by decide)
end
end B

namespace B
open PySem PySem.Spec PyProof.Rows L2

def sp_l_told (K : PySem.W.Frag) : Sp := fun vs H Q _ => ∃ (hv : V) (B ct lt : Addr) (bvs cvs rvs : List V) (bds : List Bd) (C : List (List Wd)) (rows : List (List Bd)), vs = [hv, .ref B, .ref ct, .ref lt] ∧ SqT K H B bvs ∧ F2 (BdAt K H) bvs bds ∧ SqT K H ct cvs ∧ F2 (WsAt K H) cvs C ∧ SqT K H lt rvs ∧ F2 (BsAt K H) rvs rows ∧ C.length = rows.length ∧ (∀ c ∈ C, c.length ≤ 100) ∧ (∀ row ∈ rows, ∀ x ∈ row, x.g.length ≤ 100) ∧ bds.length ≤ 50 ∧ (jlJ (C.zip rows)).length ≤ 50 ∧ (lonJ (C.zip rows) = true → ∀ H', Same H H' → Q (.str "TooLong") H') ∧ (lonJ (C.zip rows) = false → 12 < bds.length + (jlJ (C.zip rows)).length → ∀ H', Same H H' → Q (.str "TooMany") H') ∧ (lonJ (C.zip rows) = false → bds.length + (jlJ (C.zip rows)).length ≤ 12 → ∀ (H' : Hp) (p : Addr) (pvs : List V), SqT K H' p pvs → F2 (BdAt K H') pvs (bds ++ jlJ (C.zip rows)) → Same H H' → Q (.ref p) H')

section
variable {P : Program} {w : World} {K : PySem.W.Frag} {mg : Str → Option Value} {base : Heap}
theorem ok_l_told (T : Tx K mg) (U : Unl P base) : FnOk P w K mg base CX0 39 T.l_told.f T.l_told.fd ["_law_house", "_law_bids_here", "_law_cells_here", "_law_lists"] (sp_l_told K) := by
  refine T.l_told.F.ok sc_l_told (fun vs H Q E h => ?_) (fun cdv A outer s H vs Q E hr h => ?_)
  · obtain ⟨hv, B, ct, lt, bvs, cvs, rvs, bds, C, rows, rfl, tB, fB, tC, fC, tR, fR, hl, h32, h6, h50, j50, k1, k2, k3⟩ := h
    rfl
  · obtain ⟨hv, B, ct, lt, bvs, cvs, rvs, bds, C, rows, rfl, tB, fB, tC, fC, tR, fR, hl, h32, h6, h50, j50, k1, k2, k3⟩ := h
    refine ⟨_, (pss_cons (ps_set (i := 4) sc_l_told.nd rfl (.inl rfl) (pe_lst pa_nil))
      (pss_cons (L2N.ps_try_as (i := 5) (Wout := fun _ _ _ _ => False) rfl rfl sc_l_told.nd rfl rfl ⟨rfl, by decide, Or.inl T.x_StallError.g⟩ takes0N (fun W pn xe tk _ => (pss_one (ps_ret (by exact (pe_callS (ok_joined T U) (hr.mono (by decide)) (by rfl) T.joined.g T.joined.F.kp T.joined.b (fun σ => L2N.passAt tk σ) (pa_cons (pv 0) (pa_cons (pv 1) (pa_cons (pv 2) (pa_cons (pv 3) pa_nil))))))))) (fun a oe cls d pn hz hf => (pss_one (ps_set (i := 4) sc_l_told.nd rfl (.inl rfl) (by exact (pe_callX hz hf (ok_l_refusal T U) (L2H.roomH_of (hr.mono (by decide))) (by rfl) T.l_refusal.g T.l_refusal.F.kp T.l_refusal.b (pa_cons (pv 5) pa_nil)))))))
      (pss_one (ps_ret (pe_bm PySem.F.plainAttrs_str PySem.F.slot_str_join PySem.F.type_str_join mt_join pe_str (pa_cons (pv 4) pa_nil)))))), ?_⟩
    refine ⟨by show 0 ≤ sizeLine; decide, fun l0 n0 => ?_⟩
    have s0 := same_upd (o := .lst []) n0
    refine ⟨_, rfl, _, rfl, _, rfl, _, rfl, hv, B, ct, lt, bvs, cvs, rvs, bds, C, rows, rfl, Same.tup s0 tB, bds_tk fB (Same.tk s0), Same.tup s0 tC, fC.imp fun _ _ z => z.mono (Same.tk s0), Same.tup s0 tR, fR.imp fun _ _ z => BsAt.mono (Same.tk s0) z, hl, h32, h6, h50, j50, (fun e C hX d H1 dk s1 => ?_), (fun e e2 C hX d H1 dk s1 => ?_), fun e e2 H1 p pvs h1 h2 s1 => k3 e e2 H1 p pvs h1 h2 (s0.trans s1)⟩
    · obtain rfl := hX.eq T.x_TooLong.ns
      refine ⟨true, exm_own T.x_StallError.sb T.x_StallError.ic T.x_StallError.ty T.i_TooLong_StallError, fun _ x nx => ?_, fun z => nomatch z⟩
      refine ⟨_, rfl, T.x_TooLong.C, "TooLong", rfl, rfl, dk, .inl ⟨T.x_TooLong.ns, rfl⟩, fun H2 p hp s2 => ?_⟩
      refine ⟨rfl, _, rfl, " ", p, ["TooLong"], rfl, rfl, .inl (.inl (.inl hp)), by decide, ?_⟩
      rw [show Txt.join " " ["TooLong"] = "TooLong" by decide +kernel]
      exact k1 e _ ((s0.trans s1).trans s2)
    · obtain rfl := hX.eq T.x_TooMany.ns
      refine ⟨true, exm_own T.x_StallError.sb T.x_StallError.ic T.x_StallError.ty T.i_TooMany_StallError, fun _ x nx => ?_, fun z => nomatch z⟩
      refine ⟨_, rfl, T.x_TooMany.C, "TooMany", rfl, rfl, dk, .inr ⟨T.x_TooMany.ns, rfl⟩, fun H2 p hp s2 => ?_⟩
      refine ⟨rfl, _, rfl, " ", p, ["TooMany"], rfl, rfl, .inl (.inl (.inl hp)), by decide, ?_⟩
      rw [show Txt.join " " ["TooMany"] = "TooMany" by decide +kernel]
      exact k2 e e2 _ ((s0.trans s1).trans s2)
end
end B

namespace B
open PySem PySem.Spec PyProof.Rows L2

def sp_l_bids (K : PySem.W.Frag) : Sp := fun vs H Q _ => ∃ (d : Dr) (m b n : Nat) (h : Addr) (cs : List Nat) (rs : List (List Wd)), vs = [.ref d.dr, .ref h, .int m, .int n] ∧ m ≤ 20 ∧ n ≤ 3 ∧ HsAt K H h cs rs ∧ HsOk cs rs ∧ 1 ≤ cs.length ∧ wor cs rs ≠ [] ∧ Drw H d (b + 400 * m) ∧ ∀ (H' : Hp) (p : Addr) (bvs : List V) (bds : List Bd), SqT K H' p bvs → F2 (BdAt K H') bvs bds → bds.length = m → (∀ x ∈ bds, BdOk cs 250 80 x ∧ BtSm n x.ts x.g ∧ somes (tabO cs x.ts x.g (wor cs rs)) ≠ []) → Drw H' d b → Kp d H H' → Q (.ref p) H'

section
variable {P : Program} {w : World} {K : PySem.W.Frag} {mg : Str → Option Value} {base : Heap}
theorem ok_l_bids (T : Tx K mg) (U : Unl P base) : FnOk P w K mg base CX0 40 T.l_bids.f T.l_bids.fd ["_law_drawn", "_law_house", "_law_many", "_law_most"] (sp_l_bids K) := by
  refine T.l_bids.F.ok sc_l_bids (fun vs H Q E h => ?_) (fun cdv A outer s H vs Q E hr h => ?_)
  · obtain ⟨d, m, b, nm, h, cs, rs, rfl, hm, hn3, hH, hO, hc1, hne, hD, q⟩ := h
    rfl
  · obtain ⟨d, m, b, nm, h, cs, rs, rfl, hm, hn3, hH, hO, hc1, hne, hD, q⟩ := h
    refine ⟨_, (pss_cons (ps_set (i := 4) sc_l_bids.nd rfl (.inl rfl) (pe_lst pa_nil))
      (pss_cons (ps_for PassesOwn.never rfl (pi_range1 (by rfl) T.m_range (pa_cons (pv 2) pa_nil)) (pg_name (i := 5) sc_l_bids.nd rfl (.inl rfl))
      (pss_cons (ps_set (i := 6) sc_l_bids.nd rfl (.inl rfl) (pe_call (ok_l_living T U) (hr.mono (by decide)) (by rfl) T.l_living.g T.l_living.F.kp T.l_living.b .nil pass0 (pa_cons (pv 0) (pa_cons (pv 1) (pa_cons (pv 3) pa_nil)))))
      (pss_one (ps_expr (pe_bm PySem.F.plainAttrs_list PySem.F.slot_list_append PySem.F.type_list_append mt_append (pv 4) (pa_cons (pe_tup (pa_cons (pv 6) (pa_cons (pe_call (ok_l_short T U) (hr.mono (by decide)) (by rfl) T.l_short.g T.l_short.F.kp T.l_short.b .nil pass0 (pa_cons (pv 0) (pa_cons (pe_call (ok_l_price T U) (hr.mono (by decide)) (by rfl) T.l_price.g T.l_price.F.kp T.l_price.b .nil pass0 (pa_cons (pv 0) (pa_cons (pe_call (ok_l_table T U) (hr.mono (by decide)) (by rfl) T.l_table.g T.l_table.F.kp T.l_table.b .nil pass0 (pa_cons (pv 1) (pa_cons (pv 6) pa_nil))) pa_nil))) pa_nil))) pa_nil))) pa_nil))))))
      (pss_one (ps_ret (pe_callTy call_tuple_of (by rfl) T.m_tuple (by decide +kernel) (pa_cons (pv 4) pa_nil)))))), ?_⟩
    have h6 := hO.c6
    refine ⟨by decide, fun R nR => ?_⟩
    have nR1 := hD.no nR
    have nR2 := hD.nc nR
    refine ⟨_, rfl, (m : Int), rfl, by omega, by omega, for_range (lo := 0) (n := ((m : Int)).toNat) (fun i σ H' => ∃ (x5 x6 : Option V) (bvs : List V) (bds : List Bd), σ = [some (.ref d.dr), some (.ref h), some (.int m), some (.int nm), some (.ref R), x5, x6] ∧ H' R = some (.lst bvs) ∧ F2 (BdAt K H') bvs bds ∧ bds.length = i ∧ (∀ x ∈ bds, BdOk cs 250 80 x ∧ BtSm nm x.ts x.g ∧ somes (tabO cs x.ts x.g (wor cs rs)) ≠ []) ∧ HsAt K H' h cs rs ∧ Drw H' d (b + 400 * m - 400 * i) ∧ Kp d H H') ⟨none, none, [], [], rfl, upd_same, .nil, rfl, (fun x hx => nomatch hx), hH.same (same_upd nR), (hD.upd nR).less (by omega), Same.kp (same_upd nR)⟩ ?_ ?_⟩
    · rintro i σ H1 hi ⟨x5, x6, bvs, bds, rfl, hR, fB, hl, okB, hH1, w1, k1⟩
      rw [Int.toNat_natCast] at hi
      have bl := fB.len
      refine ⟨_, rfl, _, rfl, _, rfl, d, nm, b + 400 * m - 400 * i - 330, h, cs, rs, rfl, by omega, hH1, hO, hc1, hne, w1.less (by omega), fun H2 a ts g hB oB sB lv w2 k2 => ?_⟩
      have hR2 := k2 _ _ hR nR1.1 nR1.2
      have hH2 := hH1.mono fun _ _ t => Kp.tup k2 w1 t
      refine ⟨_, rfl, .inl ⟨rfl, _, .inl (.inl hR2)⟩, _, rfl, _, rfl, _, rfl, _, rfl, _, rfl, h, a, cs, rs, ts, g, rfl, hH2, hO, hB, oB, fun H3 pt us tp ft s3 => ?_⟩
      have w3 := w2.same s3
      have tl := tabO_len cs ts g (wor cs rs)
      have wl := wor_le (rs := rs) h6
      have pz : ∀ v : Nat → Bool, Fok 250 (pay v ts) := fun v => (pay_all v (n := 80) (m := 3) (fun x hx => (sB.tm x hx).1) (Nat.le_trans sB.few hn3)).up (by decide)
      refine ⟨d, b + 400 * m - 400 * i - 350, 250, pt, us, _, rfl, tp, ft, by omega, lv, ?_, by decide, by decide, w3.less (by omega), fun H4 pp x tx' fx w4 k4 => ?_⟩
      · intro o ho
        obtain ⟨bs, _, rfl⟩ := List.mem_map.mp ho
        show OOk 250 (payO _ _ _)
        unfold payO
        split
        · exact pz _
        · exact trivial
      refine ⟨d, b + 400 * m - 400 * i - 360, _, pp, x, rfl, tx', fx, w4.less (by omega), fun H5 ps y ty fy w5 k5 => ?_⟩
      have M5 : Tk K H2 H5 := fun _ _ t => Kp.tup k5 w4 (Kp.tup k4 w3 (Same.tup s3 t))
      refine ⟨by show 2 ≤ sizeLine; decide, fun pr npr => ?_⟩
      have s6 := same_upd (o := .tup [.ref a, .ref ps]) npr
      have hR6 := s6 _ _ (k5 _ _ (k4 _ _ (s3 _ _ hR2) nR1.1 nR1.2) nR1.1 nR1.2)
      have U := fun x xs h => tup_upd (K := K) (a := x) (ys := xs) (zs := bvs ++ [.ref pr]) hR6 h
      have M : Tk K H1 (upd (upd H5 pr (.tup [.ref a, .ref ps])) R (.lst (bvs ++ [.ref pr]))) := fun _ _ t => U _ _ (Same.tup s6 (M5 _ _ (Kp.tup k2 w1 t)))
      refine ⟨R, _, _, rfl, rfl, hR6, Nat.lt_of_le_of_lt (show bvs.length ≤ 100 by omega) (by decide), ?_⟩
      refine ⟨_, _, bvs ++ [.ref pr], bds ++ [⟨ts, g, y⟩], rfl, upd_same, (bds_tk fB M).app (F2.one ⟨pr, a, ps, rfl, U _ _ sqt_upd, (hB.mono M5).mono fun _ _ t => U _ _ (Same.tup s6 t), U _ _ (Same.tup s6 ty)⟩), by rw [List.length_append, hl]; rfl, ?_, hH1.mono M, ((w5.same s6).mut nR1.1 nR2 nR1.2).less (by omega), kp_mut nR ((((k1.trans k2).trans (Same.kp s3)).trans (k4.trans k5)).trans (Same.kp s6))⟩
      intro x hx
      rcases List.mem_append.mp hx with k | k
      · exact okB x k
      · rw [List.mem_singleton] at k
        rw [k]
        exact ⟨⟨oB, pz, fy⟩, sB, lv⟩
    · rintro σ H1 ⟨x5, x6, bvs, bds, rfl, hR, fB, hl, okB, hH1, w1, k1⟩
      rw [Int.toNat_natCast] at hl w1
      refine ⟨_, rfl, R, _, rfl, .inl ⟨.inl (.inl hR), fun p np => ?_⟩⟩
      have s2 := same_upd (o := .tup bvs) np
      exact q _ p bvs bds sqt_upd (bds_tk fB (Same.tk s2)) hl okB ((w1.less (by omega)).same s2) (k1.trans (Same.kp s2))
end
end B

namespace B
open PySem PySem.Spec PyProof.Rows L2

def sp_l_judged (K : PySem.W.Frag) : Sp := fun vs H Q _ => ∃ (hv : V) (B ct lt : Addr) (bvs cvs rvs : List V) (bds : List Bd) (C : List (List Wd)) (rows : List (List Bd)), vs = [hv, .ref B, .ref ct, .ref lt] ∧ SqT K H B bvs ∧ F2 (BdAt K H) bvs bds ∧ SqT K H ct cvs ∧ F2 (WsAt K H) cvs C ∧ SqT K H lt rvs ∧ F2 (BsAt K H) rvs rows ∧ C.length = rows.length ∧ (∀ c ∈ C, c.length ≤ 100) ∧ (∀ row ∈ rows, ∀ x ∈ row, x.g.length ≤ 100) ∧ bds.length ≤ 50 ∧ (jlJ (C.zip rows)).length ≤ 50 ∧ (lonJ (C.zip rows) = true → ∀ H', Same H H' → Q (.str "TooLong") H') ∧ (lonJ (C.zip rows) = false → ∀ H', Same H H' → Q (.str "TooMany") H') ∧ (lonJ (C.zip rows) = false → 12 < bds.length + (jlJ (C.zip rows)).length)

section
variable {P : Program} {w : World} {K : PySem.W.Frag} {mg : Str → Option Value} {base : Heap}
theorem ok_l_judged (T : Tx K mg) (U : Unl P base) : FnOk P w K mg base CX0 40 T.l_judged.f T.l_judged.fd ["_law_house", "_law_bids_here", "_law_cells_here", "_law_lists"] (sp_l_judged K) := by
  refine T.l_judged.F.ok sc_l_judged (fun vs H Q E h => ?_) (fun cdv A outer s H vs Q E hr h => ?_)
  · obtain ⟨hv, B, ct, lt, bvs, cvs, rvs, bds, C, rows, rfl, tB, fB, tC, fC, tR, fR, hl, h32, h6, h50, j50, k1, k2, e12⟩ := h
    rfl
  · obtain ⟨hv, B, ct, lt, bvs, cvs, rvs, bds, C, rows, rfl, tB, fB, tC, fC, tR, fR, hl, h32, h6, h50, j50, k1, k2, e12⟩ := h
    refine ⟨_, (pss_cons (ps_set (i := 4) sc_l_judged.nd rfl (.inl rfl) (pe_lst pa_nil))
      (pss_cons (L2N.ps_try_as (i := 5) (Wout := fun _ _ _ _ => False) rfl rfl sc_l_judged.nd rfl rfl ⟨rfl, by decide, Or.inl T.x_StallError.g⟩ takes0N (fun W pn xe tk _ => (pss_one (ps_expr (by exact (pe_callS (ok_judged_days T U) (hr.mono (by decide)) (by rfl) T.judged_days.g T.judged_days.F.kp T.judged_days.b (fun σ => L2N.passAt tk σ) (pa_cons (pv 0) (pa_cons (pv 1) (pa_cons (pv 2) (pa_cons (pv 3) pa_nil))))))))) (fun a oe cls d pn hz hf => (pss_one (ps_set (i := 4) sc_l_judged.nd rfl (.inl rfl) (by exact (pe_callX hz hf (ok_l_refusal T U) (L2H.roomH_of (hr.mono (by decide))) (by rfl) T.l_refusal.g T.l_refusal.F.kp T.l_refusal.b (pa_cons (pv 5) pa_nil)))))))
      (pss_one (ps_ret (pe_bm PySem.F.plainAttrs_str PySem.F.slot_str_join PySem.F.type_str_join mt_join pe_str (pa_cons (pv 4) pa_nil)))))), ?_⟩
    refine ⟨by show 0 ≤ sizeLine; decide, fun l0 n0 => ?_⟩
    have s0 := same_upd (o := .lst []) n0
    refine ⟨_, rfl, _, rfl, _, rfl, _, rfl, hv, B, ct, lt, bvs, cvs, rvs, bds, C, rows, rfl, Same.tup s0 tB, bds_tk fB (Same.tk s0), Same.tup s0 tC, fC.imp fun _ _ z => z.mono (Same.tk s0), Same.tup s0 tR, fR.imp fun _ _ z => BsAt.mono (Same.tk s0) z, hl, h32, h6, h50, j50, (fun e C hX d H1 dk s1 => ?_), (fun e C hX d H1 dk s1 => ?_), e12⟩
    · obtain rfl := hX.eq T.x_TooLong.ns
      refine ⟨true, exm_own T.x_StallError.sb T.x_StallError.ic T.x_StallError.ty T.i_TooLong_StallError, fun _ x nx => ?_, fun z => nomatch z⟩
      refine ⟨_, rfl, T.x_TooLong.C, "TooLong", rfl, rfl, dk, .inl ⟨T.x_TooLong.ns, rfl⟩, fun H2 p hp s2 => ?_⟩
      refine ⟨rfl, _, rfl, " ", p, ["TooLong"], rfl, rfl, .inl (.inl (.inl hp)), by decide, ?_⟩
      rw [show Txt.join " " ["TooLong"] = "TooLong" by decide +kernel]
      exact k1 e _ ((s0.trans s1).trans s2)
    · obtain rfl := hX.eq T.x_TooMany.ns
      refine ⟨true, exm_own T.x_StallError.sb T.x_StallError.ic T.x_StallError.ty T.i_TooMany_StallError, fun _ x nx => ?_, fun z => nomatch z⟩
      refine ⟨_, rfl, T.x_TooMany.C, "TooMany", rfl, rfl, dk, .inr ⟨T.x_TooMany.ns, rfl⟩, fun H2 p hp s2 => ?_⟩
      refine ⟨rfl, _, rfl, " ", p, ["TooMany"], rfl, rfl, .inl (.inl (.inl hp)), by decide, ?_⟩
      rw [show Txt.join " " ["TooMany"] = "TooMany" by decide +kernel]
      exact k2 e _ ((s0.trans s1).trans s2)
end
end B

namespace B
open PySem PySem.Spec PyProof.Rows L2
theorem use_due {K : PySem.W.Frag} {H : Hp} {Q : VK} {E : XK} {B ct lt : Addr} {bvs cvs rvs : List V} {bds : List Bd} {C : List (List Wd)} {rows : List (List Bd)} (tB : SqT K H B bvs) (fB : F2 (BdAt K H) bvs bds) (tC : SqT K H ct cvs) (fC : F2 (WsAt K H) cvs C) (tR : SqT K H lt rvs) (fR : F2 (BsAt K H) rvs rows) (hl : C.length = rows.length) (h10 : C.length ≤ 10) (h32 : ∀ c ∈ C, c.length ≤ 100) (h6 : ∀ row ∈ rows, ∀ x ∈ row, x.g.length ≤ 100) (h50 : bds.length ≤ 50) (j50 : (jlJ (C.zip rows)).length ≤ 50) (G : ∀ H' v, AnsJ K H' bds (C.zip rows) v → Same H H' → Q v H') : sp_l_due K [.ref B, .ref ct, .ref lt] H Q E := ⟨B, ct, lt, bvs, cvs, rvs, bds, C, rows, rfl, tB, fB, tC, fC, tR, fR, hl, h10, h32, h6, h50, j50, fun a H' s => G H' _ (.inl ⟨a, rfl⟩) s, fun a b H' s => G H' _ (.inr (.inl ⟨a, b, rfl⟩)) s, fun a b H' p pvs t f s => G H' _ (.inr (.inr ⟨a, b, p, pvs, rfl, t, f⟩)) s⟩
theorem use_told {K : PySem.W.Frag} {H : Hp} {Q : VK} {E : XK} {hv : V} {B ct lt : Addr} {bvs cvs rvs : List V} {bds : List Bd} {C : List (List Wd)} {rows : List (List Bd)} (tB : SqT K H B bvs) (fB : F2 (BdAt K H) bvs bds) (tC : SqT K H ct cvs) (fC : F2 (WsAt K H) cvs C) (tR : SqT K H lt rvs) (fR : F2 (BsAt K H) rvs rows) (hl : C.length = rows.length) (h32 : ∀ c ∈ C, c.length ≤ 100) (h6 : ∀ row ∈ rows, ∀ x ∈ row, x.g.length ≤ 100) (h50 : bds.length ≤ 50) (j50 : (jlJ (C.zip rows)).length ≤ 50) (G : ∀ H' v, AnsJ K H' bds (C.zip rows) v → Same H H' → Q v H') : sp_l_told K [hv, .ref B, .ref ct, .ref lt] H Q E := ⟨hv, B, ct, lt, bvs, cvs, rvs, bds, C, rows, rfl, tB, fB, tC, fC, tR, fR, hl, h32, h6, h50, j50, fun a H' s => G H' _ (.inl ⟨a, rfl⟩) s, fun a b H' s => G H' _ (.inr (.inl ⟨a, b, rfl⟩)) s, fun a b H' p pvs t f s => G H' _ (.inr (.inr ⟨a, b, p, pvs, rfl, t, f⟩)) s⟩
theorem use_judged {K : PySem.W.Frag} {H : Hp} {Q : VK} {E : XK} {hv : V} {B ct lt : Addr} {bvs cvs rvs : List V} {bds : List Bd} {C : List (List Wd)} {rows : List (List Bd)} (tB : SqT K H B bvs) (fB : F2 (BdAt K H) bvs bds) (tC : SqT K H ct cvs) (fC : F2 (WsAt K H) cvs C) (tR : SqT K H lt rvs) (fR : F2 (BsAt K H) rvs rows) (hl : C.length = rows.length) (h32 : ∀ c ∈ C, c.length ≤ 100) (h6 : ∀ row ∈ rows, ∀ x ∈ row, x.g.length ≤ 100) (h50 : bds.length ≤ 50) (j50 : (jlJ (C.zip rows)).length ≤ 50) (e12 : lonJ (C.zip rows) = false → 12 < bds.length + (jlJ (C.zip rows)).length) (G : ∀ H' v, AnsJ K H' bds (C.zip rows) v → Same H H' → Q v H') : sp_l_judged K [hv, .ref B, .ref ct, .ref lt] H Q E := ⟨hv, B, ct, lt, bvs, cvs, rvs, bds, C, rows, rfl, tB, fB, tC, fC, tR, fR, hl, h32, h6, h50, j50, fun a H' s => G H' _ (.inl ⟨a, rfl⟩) s, fun a H' s => G H' _ (.inr (.inl ⟨a, e12 a, rfl⟩)) s, e12⟩

def sp_law (K : PySem.W.Frag) : Sp := fun vs H Q _ => ∃ (a : Addr) (ns : List Int), vs = [.ref a] ∧ SqL K H a (ns.map V.int) ∧ ns.length ≤ 63 ∧ (∀ z ∈ ns, Builtin.Int.intBits z ≤ 1048576) ∧ ∀ H', Q (.bl true) H'

section
variable {P : Program} {w : World} {K : PySem.W.Frag} {mg : Str → Option Value} {base : Heap}
theorem ok_law (T : Tx K mg) (U : Unl P base) : FnG P w K mg base 41 T.law.f T.law.fd ["_law_script"] (sp_law K) := by
  refine fun_okG T.law.F sc_law (fun vs H Q E h => ?_) (fun cdv A outer s H vs Q E hr hg h => ?_)
  · obtain ⟨a, ns, rfl, hS, hlen, _, q⟩ := h
    rfl
  · obtain ⟨a, ns, rfl, hS, hlen, _, q⟩ := h
    refine ⟨_, (pss_cons (ps_set (i := 1) sc_law.nd rfl (.inr rfl) (pe_call (ok_l_draws T U) (hr.mono (by decide)) (by rfl) T.l_draws.g T.l_draws.F.kp T.l_draws.b .nil pass0 (pa_cons (pv 0) pa_nil)))
      (pss_cons (ps_for PassesOwn.never rfl (pi_range1 (by rfl) T.m_range (pa_cons pe_int pa_nil)) (pg_name (i := 2) sc_law.nd rfl (.inl rfl))
      (pss_cons (ps_set (i := 3) sc_law.nd rfl (.inl rfl) (pe_call (ok_l_room T U) (hr.mono (by decide)) (by rfl) T.l_room.g T.l_room.F.kp T.l_room.b .nil pass0 (pa_cons (pv 1) (pa_cons pe_int pa_nil))))
      (pss_cons (ps_set (i := 4) sc_law.nd rfl (.inl rfl) (pe_call (ok_l_bids T U) (hr.mono (by decide)) (by rfl) T.l_bids.g T.l_bids.F.kp T.l_bids.b .nil pass0 (pa_cons (pv 1) (pa_cons (pv 3) (pa_cons (pe_call (ok_l_next T U) (hr.mono (by decide)) (by rfl) T.l_next.g T.l_next.F.kp T.l_next.b .nil pass0 (pa_cons (pv 1) (pa_cons pe_int pa_nil))) (pa_cons pe_int pa_nil))))))
      (pss_cons (ps_asg (pe_call (ok_l_days T U) (hr.mono (by decide)) (by rfl) T.l_days.g T.l_days.F.kp T.l_days.b .nil pass0 (pa_cons (pv 1) (pa_cons (pv 3) (pa_cons pe_int pa_nil)))) (pg_lst rfl (pgs_cons (pg_name (i := 5) sc_law.nd rfl (.inl rfl)) (pgs_cons (pg_name (i := 6) sc_law.nd rfl (.inl rfl)) pgs_nil))))
      (pss_cons (ps_set (i := 8) sc_law.nd rfl (.inl rfl) (pe_callTy call_tuple_of (by rfl) T.m_tuple (by decide +kernel) (pa_cons (pe_lc (own := [("_law_one", 7)]) (g := gName 7) (tt := tYes) rfl sc_law.nd (pi_list (pv 6)) (blkOk_by (own := [("_law_one", 7)]) (N := N_law) (sc := defScope s_law) (by decide +kernel)) (fun _ _ _ _ _ => (pg_name (i := 7) sc_law.nd rfl (.inl rfl))) (fun _ _ _ _ _ => pts_nil) (fun _ _ _ _ _ => (pe_call (ok_l_bids T U) (hr.mono (by decide)) (by rfl) T.l_bids.g T.l_bids.F.kp T.l_bids.b .nil pass0 (pa_cons (pv 1) (pa_cons (pv 7) (pa_cons (pe_call (ok_l_next T U) (hr.mono (by decide)) (by rfl) T.l_next.g T.l_next.F.kp T.l_next.b .nil pass0 (pa_cons (pv 1) (pa_cons pe_int pa_nil))) (pa_cons pe_int pa_nil))))))) pa_nil)))
      (pss_mid (ps_if (pt_cmpR op_eq (pe_call (ok_l_next T U) (hr.mono (by decide)) (by rfl) T.l_next.g T.l_next.F.kp T.l_next.b .nil pass0 (pa_cons (pv 1) (pa_cons pe_int pa_nil))) pe_int (nomark _)) (pss_one (ps_set (i := 8) sc_law.nd rfl (.inl rfl) (pe_call (ok_l_longer T U) (hr.mono (by decide)) (by rfl) T.l_longer.g T.l_longer.F.kp T.l_longer.b .nil pass0 (pa_cons (pv 1) (pa_cons (pv 8) (pa_cons (pv 5) pa_nil)))))) pss_nil)
      (pss_cons (ps_set (i := 9) sc_law.nd rfl (.inl rfl) (pe_callB (cr_reprQ hg hr.units) (by rfl) T.m_repr (by decide +kernel) (pa_cons (pe_tup (pa_cons (pv 3) (pa_cons (pv 4) (pa_cons (pv 5) (pa_cons (pv 8) pa_nil))))) pa_nil)))
      (pss_cons (ps_set (i := 10) sc_law.nd rfl (.inl rfl) (pe_call (ok_l_due T U) (hr.mono (by decide)) (by rfl) T.l_due.g T.l_due.F.kp T.l_due.b .nil pass0 (pa_cons (pv 4) (pa_cons (pv 5) (pa_cons (pv 8) pa_nil)))))
      (pss_cons (ps_set (i := 11) sc_law.nd rfl (.inl rfl) (pe_call (ok_l_told T U) (hr.mono (by decide)) (by rfl) T.l_told.g T.l_told.F.kp T.l_told.b .nil pass0 (pa_cons (pv 3) (pa_cons (pv 4) (pa_cons (pv 5) (pa_cons (pv 8) pa_nil))))))
      (pss_cons (ps_if (PW.pt (pw_or (pt_cmpR (op_neD hr.units) (pv 11) (pv 10) (nomark _)) (pw_or1 (pt_cmpR op_ne (pe_callB (cr_reprQ hg hr.units) (by rfl) T.m_repr (by decide +kernel) (pa_cons (pe_tup (pa_cons (pv 3) (pa_cons (pv 4) (pa_cons (pv 5) (pa_cons (pv 8) pa_nil))))) pa_nil)) (pv 9) (nomark _))))) (pss_one (ps_ret pe_bl)) pss_nil)
      (pss_cons (ps_if (pt_cmpR (op_neD hr.units) (pe_call (ok_l_told T U) (hr.mono (by decide)) (by rfl) T.l_told.g T.l_told.F.kp T.l_told.b .nil pass0 (pa_cons (pv 3) (pa_cons (pv 4) (pa_cons (pv 5) (pa_cons (pv 8) pa_nil))))) (pv 10) (nomark _)) (pss_one (ps_ret pe_bl)) pss_nil)
      (pss_one (ps_if (PW.pt (pw_and (pt_val (pe_callB call_isi (by rfl) T.m_isinstance (by decide +kernel) (pa_cons (pv 10) (pa_cons (pe_bltn (v := .ty "str") (u := .type "str") (by rfl) T.m_str (by decide +kernel) rfl) pa_nil)))) (pw_and1 (pt_cmpR (op_neD hr.units) (pe_call (ok_l_judged T U) (hr.mono (by decide)) (by rfl) T.l_judged.g T.l_judged.F.kp T.l_judged.b .nil pass0 (pa_cons (pv 3) (pa_cons (pv 4) (pa_cons (pv 5) (pa_cons (pv 8) pa_nil))))) (pv 10) (nomark _))))) (pss_one (ps_ret pe_bl)) pss_nil)))))))))))))
      (pss_one (ps_ret pe_bl)))), ?_⟩
    refine ⟨_, rfl, a, ns, rfl, hS, hlen, fun H1 d w1 _ _ _ => ?_⟩
    refine ⟨2, rfl, by decide, by decide, for_range (lo := 0) (n := 2) (fun i σ H' => ∃ (x2 x3 x4 x5 x6 x8 x9 x10 x11 : Option V), σ = [some (.ref a), some (.ref d.dr), x2, x3, x4, x5, x6, none, x8, x9, x10, x11] ∧ Drw H' d (40000 - 20000 * i)) ⟨none, none, none, none, none, none, none, none, none, rfl, w1.less (by decide)⟩ ?_ (fun σ H' _ => q _)⟩
    rintro i σ H0 hi ⟨x2, x3, x4, x5, x6, x8, x9, x10, x11, rfl, w0⟩
    obtain ⟨N, eN⟩ : ∃ N, 40000 - 20000 * i = N + 20000 := ⟨40000 - 20000 * i - 20000, by omega⟩
    have eN2 : 40000 - 20000 * (i + 1) = N := by omega
    rw [eN] at w0
    rw [eN2]
    refine ⟨_, rfl, d, 4, N + 19000, rfl, by decide, by decide, w0.less (by omega), fun H2 h cs rs hH hO hL hne r2 r10 w2 k2 => ?_⟩
    have c1 := hL.pos
    have wle := wor_le (rs := rs) hO.c6
    refine ⟨_, rfl, _, rfl, _, rfl, d, N + 18000, 9, rfl, by decide, by decide, w2.less (by omega), fun H3 r r0 r1 w3 k3 => ?_⟩
    obtain ⟨nb, rfl⟩ : ∃ nb : Nat, r = (nb : Int) := ⟨r.toNat, by omega⟩
    have T3 : Tk K H2 H3 := fun _ _ t => Kp.tup k3 w2 t
    refine ⟨d, nb, N + 14000, 3, h, cs, rs, rfl, by omega, by decide, hH.mono T3, hO, c1, hne, w3.less (by omega), fun H4 B bvs bds tB fB hl okB w4 k4 => ?_⟩
    have T4 : Tk K H3 H4 := fun _ _ t => Kp.tup k4 w3 t
    have hH4 : HsAt K H4 h cs rs := hH.mono fun _ _ t => T4 _ _ (T3 _ _ t)
    refine ⟨_, rfl, _, rfl, d, 4, N + 13000, h, cs, rs, rfl, by decide, by decide, hH4, hO, c1, w4.less (by omega), fun H5 pd ct hl5 cvs hvs C hpd npd tC fC hhl nhl fH cD lc4 w5 k5 => ?_⟩
    have T5 : Tk K H4 H5 := fun _ _ t => Kp.tup k5 w4 t
    have okB2 : ∀ x ∈ bds, LnB cs x := fun x hx => LnB.of (okB x hx).1 (okB x hx).2.1 (by decide)
    have lH := fH.len
    refine ⟨pd, _, rfl, .inl (.inl hpd), rfl, _, _, rfl, _, _, rfl, rfl, ?_⟩
    -- the later days' bids
    refine ⟨_, rfl, hl5, rfl, ⟨_, .inl (.inl hhl)⟩, fun D nD => ?_⟩
    refine lcpK_it (K := K) (β := List Bd) (walk_list (K := K) (a := hl5) (xs := hvs)) true d (N + 2000) 1700 (fun H v row => BsAt K H v row ∧ row.length ≤ 4 ∧ ∀ x ∈ row, LnB cs x ∧ x.g.length ≤ 10 ∧ BtOk cs x.ts x.g) (fun _ _ _ _ k h => ⟨BsAt.mono k h.1, h.2⟩) nD (Nat.lt_of_le_of_lt (show hvs.length ≤ 100 by omega) (by decide)) (w5.less (by omega)) (fun H k => .inl (.inl (k _ _ hhl nhl.1 nhl.2))) ?_ ?_
    · rintro j x H6 H6' hj k6 w6 ⟨rfl, hx⟩ Y N' hY hN
      obtain ⟨c, hc, hh, rfl, hHc⟩ := (fH.imp fun _ _ z => HcAt.mono (fun _ _ t => Kp.tup k6 w5 t) z).getA hx
      have cm := List.mem_of_getElem? hc
      have hOc : HsOk cs (rs ++ [c]) := ⟨hO.c6, hO.sm, fun r hr => by
        rcases List.mem_append.mp hr with z | z
        · exact hO.sy r z
        · rw [List.mem_singleton.mp z]
          exact ⟨(cD.cl c cm).1, Nat.le_trans (cD.cl c cm).2 (by decide)⟩, by rw [List.length_append]; show rs.length + 1 ≤ 20; omega⟩
      refine ⟨rfl, lc_yes ?_⟩
      refine ⟨_, rfl, _, rfl, _, rfl, d, N + 2000 + 1700 * (hvs.length - (j + 1)) + 1650, 5, rfl, by decide, by decide, w6.less (by omega), fun H7 r7 s0 s1 w7 k7 => ?_⟩
      obtain ⟨n7, rfl⟩ : ∃ n7 : Nat, r7 = (n7 : Int) := ⟨r7.toNat, by omega⟩
      refine ⟨d, n7, N + 2000 + 1700 * (hvs.length - (j + 1)), 2, hh, cs, rs ++ [c], rfl, by omega, by decide, hHc.mono (fun _ _ t => Kp.tup k7 w6 t), hOc, c1, cD.live c cm, w7.less (by omega), fun H8 p8 vs8 row tp8 fp8 hl8 ok8 w8 k8 => ?_⟩
      exact hY _ _ row (k7.trans k8) w8 ⟨⟨p8, vs8, rfl, tp8, fp8⟩, by omega, fun x hx => ⟨LnB.of (ok8 x hx).1 (ok8 x hx).2.1 (by decide), (ok8 x hx).2.1.ln, (ok8 x hx).1.bt⟩⟩
    intro H6 rvs rows h6 f6 l6 full6 k6 w6
    have lr := full6 rfl
    have fl6 := f6.len
    have rOk : ∀ row ∈ rows, row.length ≤ 4 ∧ ∀ x ∈ row, LnB cs x ∧ x.g.length ≤ 10 ∧ BtOk cs x.ts x.g := fun row hr => by
      obtain ⟨j, hj⟩ := List.getElem?_of_mem hr
      obtain ⟨v, _, hv⟩ := f6.getB hj
      exact hv.2
    have T6 : Tk K H5 H6 := fun _ _ t => Kp.tup k6 w5 t
    refine ⟨D, rvs, rfl, .inl ⟨.inl (.inl h6), fun lt nlt => ?_⟩⟩
    have s7 := same_upd (o := .tup rvs) nlt
    have w7 := w6.same s7
    have T7 : Tk K H5 (tgt s7) := fun _ _ t => Same.tup s7 (T6 _ _ t)
    have tR7 : SqT K (tgt s7) lt rvs := sqt_upd
    have fR7 : F2 (BsAt K (tgt s7)) rvs rows := f6.imp fun _ _ z => BsAt.mono (Same.tk s7) z.1
    have hH7 : HsAt K (tgt s7) h cs rs := hH4.mono fun _ _ t => T7 _ _ (T5 _ _ t)
    have tB7 : SqT K (tgt s7) B bvs := T7 _ _ (T5 _ _ tB)
    have fB7 : F2 (BdAt K (tgt s7)) bvs bds := bds_tk fB fun _ _ t => T7 _ _ (T5 _ _ t)
    have tC7 : SqT K (tgt s7) ct cvs := T7 _ _ tC
    have fC7 : F2 (WsAt K (tgt s7)) cvs C := fC.imp fun _ _ z => z.mono T7
    clear f6 fC fB
    have lB := fB7.len
    have lC := fC7.len
    have C0 : 0 < rows.length := by
      obtain ⟨bs, hbs⟩ := List.exists_mem_of_ne_nil _ hne
      obtain ⟨c, hc, _⟩ := cD.cov bs hbs
      have := List.length_pos_of_mem hc
      omega
    refine ⟨fun σ H' => ∃ (lt2 : Addr) (rvs2 : List V) (rows2 : List (List Bd)), σ = [some (.ref a), some (.ref d.dr), some (.int (0 + (i : Int))), some (.ref h), some (.ref B), some (.ref ct), some (.ref hl5), none, some (.ref lt2), x9, x10, x11] ∧ SqT K H' lt2 rvs2 ∧ F2 (BsAt K H') rvs2 rows2 ∧ rows2.length = rows.length ∧ (∀ row ∈ rows2, row.length ≤ 4 ∧ ∀ x ∈ row, LnB cs x) ∧ Drw H' d (N + 100) ∧ Kp d (tgt s7) H', ?_, ?_⟩
    · refine ⟨_, rfl, d, N + 1000, 3, rfl, by decide, by decide, w7.less (by omega), fun H8 r8 _ _ w8 k8 => ?_⟩
      have T8 : Tk K (tgt s7) H8 := fun _ _ t => Kp.tup k8 w7 t
      refine ⟨rfl, _, rfl, ?_⟩
      refine ite2 (fun c => ?_) (fun c => ?_)
      · exact ⟨_, rfl, _, rfl, _, rfl, d, N + 500, lt, ct, rvs, cvs, cs, rows, C, rfl, T8 _ _ tR7, fR7.imp fun _ _ z => BsAt.mono T8 z, T8 _ _ tC7, fC7.imp fun _ _ z => WsAt.mono T8 z, by omega, C0, by omega, hO.sm, fun c hc => (cD.cl c hc).2, rOk, w8.less (by omega), fun H9 p rvs' rows' t f l ok w9 k9 => ⟨p, rvs', rows', rfl, t, f, l, ok, w9.less (by omega), k8.trans k9⟩⟩
      · exact ⟨lt, rvs, rows, rfl, T8 _ _ tR7, fR7.imp fun _ _ z => BsAt.mono T8 z, rfl, fun row hr => ⟨(rOk row hr).1, fun x hx => ((rOk row hr).2 x hx).1⟩, w8.less (by omega), k8⟩
    rintro σ H8 ⟨lt2, rvs2, rows2, rfl, tR8, fR8, lr2, ok2, w8, k8⟩
    have T8 : Tk K (tgt s7) H8 := fun _ _ t => Kp.tup k8 w7 t
    have hH8 := hH7.mono T8
    have tB8 := T8 _ _ tB7
    have fB8 := bds_tk fB7 T8
    have tC8 := T8 _ _ tC7
    have fC8 := fC7.imp fun _ _ z => WsAt.mono T8 z
    have shq := dyD_shq (C := C) (rows := rows2) hO (by omega) (fun r hr => Nat.le_trans (r10 r hr) (by decide)) okB2 (by omega) cD.cl lc4 ok2 (by omega)
    have dqs : ∀ {H' : Hp} {p : Addr}, SqT K H' p [.ref h, .ref B, .ref ct, .ref lt2] → Same H8 H' → Dq K H' (.ref p) (dyD cs rs bds C rows2) := fun {H' p} t k => by
      obtain ⟨ra', rvs', t1, t2, t3⟩ := hH8.mono (Same.tk k)
      exact .tup t (.cons (dq_dp (.tup t1 (.cons (.str _) (.cons (.tup t2 (Rws.dp t3)) .nil)))) (.cons (.tup (Same.tup k tB8) (bds_dq (bds_tk fB8 (Same.tk k)))) (.cons (.tup (Same.tup k tC8) (ws_dq (fC8.imp fun _ _ z => z.mono (Same.tk k)))) (.cons (.tup (Same.tup k tR8) (bss_dq (fR8.imp fun _ _ z => BsAt.mono (Same.tk k) z))) .nil))))
    refine ⟨_, rfl, _, rfl, _, rfl, _, rfl, by show 4 ≤ sizeLine; decide, fun q1 m1 => ?_⟩
    have u1 := same_upd (o := .tup [.ref h, .ref B, .ref ct, .ref lt2]) m1
    refine ⟨.ref q1, _, rfl, dqs sqt_upd u1, shq, ?_⟩
    obtain ⟨sw, esw⟩ : ∃ sw, sw = (dyD cs rs bds C rows2).shown := ⟨_, rfl⟩
    rw [← esw]
    have lz : (C.zip rows2).length ≤ 4 := by rw [List.length_zip]; omega
    have h32 : ∀ c ∈ C, c.length ≤ 100 := fun c hc => Nat.le_trans (cD.cl c hc).2 (by decide)
    have hg : ∀ row ∈ rows2, ∀ x ∈ row, x.g.length ≤ 100 := fun row hr x hx => Nat.le_trans ((ok2 row hr).2 x hx).gl (by decide)
    have j50 : (jlJ (C.zip rows2)).length ≤ 50 := by
      have := jlJ_len (k := 4) (L := C.zip rows2) fun z hz => (ok2 z.2 (List.of_mem_zip hz).2).1
      omega
    have lyd : Lyd 6 (ansJ bds (C.zip rows2)) := ansJ_lyd hO.sm okB2 fun z hz => ⟨(cD.cl z.1 (List.of_mem_zip hz).1).1, (ok2 z.2 (List.of_mem_zip hz).2).2⟩
    have shp := lyd.shaped (by decide)
    have cr : C.length = rows2.length := by omega
    refine ⟨_, rfl, _, rfl, _, rfl, ?_⟩
    dsimp only [tNil]
    refine use_due (Same.tup u1 tB8) (bds_tk fB8 (Same.tk u1)) (Same.tup u1 tC8) (fC8.imp fun _ _ z => z.mono (Same.tk u1)) (Same.tup u1 tR8) (fR8.imp fun _ _ z => BsAt.mono (Same.tk u1) z) cr (by omega) h32 hg (by omega) j50 fun H9 v9 a9 s9 => ?_
    have S9 := u1.trans s9
    refine ⟨_, rfl, _, rfl, _, rfl, _, rfl, ?_⟩
    dsimp only [tNil]
    refine use_told (Same.tup S9 tB8) (bds_tk fB8 (Same.tk S9)) (Same.tup S9 tC8) (fC8.imp fun _ _ z => z.mono (Same.tk S9)) (Same.tup S9 tR8) (fR8.imp fun _ _ z => BsAt.mono (Same.tk S9) z) cr h32 hg (by omega) j50 fun H10 v10 a10 s10 => ?_
    have S10 := S9.trans s10
    have neq : (!PyData.eqv (ansJ bds (C.zip rows2)) (ansJ bds (C.zip rows2))) = false := by
      rw [lyd.eqv]
      rfl
    refine ⟨_, rfl, _, rfl, _, _, a10.dp, (a9.mono (Same.tk s10)).dp, shp, shp, _, rfl, iteE neq ?_⟩
    refine ⟨_, rfl, _, rfl, _, rfl, _, rfl, by show 4 ≤ sizeLine; decide, fun q2 m2 => ?_⟩
    have u2 := same_upd (o := .tup [.ref h, .ref B, .ref ct, .ref lt2]) m2
    have S11 := S10.trans u2
    refine ⟨.ref q2, _, rfl, dqs sqt_upd S11, shq, ?_⟩
    rw [← esw]
    refine ⟨_, rfl, rfl, _, rfl, iteE (by rw [decide_eq_true rfl]; rfl) ?_⟩
    refine ⟨_, rfl, _, rfl, _, rfl, _, rfl, ?_⟩
    dsimp only [tNil]
    refine use_told (Same.tup S11 tB8) (bds_tk fB8 (Same.tk S11)) (Same.tup S11 tC8) (fC8.imp fun _ _ z => z.mono (Same.tk S11)) (Same.tup S11 tR8) (fR8.imp fun _ _ z => BsAt.mono (Same.tk S11) z) cr h32 hg (by omega) j50 fun H12 v12 a12 s12 => ?_
    have S12 := S11.trans s12
    refine ⟨_, rfl, _, _, a12.dp, (a9.mono (Same.tk (s10.trans (u2.trans s12)))).dp, shp, shp, _, rfl, iteE neq ?_⟩
    have two : ((∃ x, v9 = .str x) ∧ (lonJ (C.zip rows2) = false → 12 < bds.length + (jlJ (C.zip rows2)).length)) ∨ ∃ p pvs, v9 = .ref p ∧ SqT K H9 p pvs := by
      rcases a9 with ⟨e, rfl⟩ | ⟨e, l, rfl⟩ | ⟨e, l, p, pvs, rfl, t, _⟩
      · exact .inl ⟨⟨_, rfl⟩, fun z => by rw [e] at z; cases z⟩
      · exact .inl ⟨⟨_, rfl⟩, fun _ => l⟩
      · exact .inr ⟨p, pvs, rfl, t⟩
    rcases two with ⟨⟨x, rfl⟩, l⟩ | ⟨p, pvs, rfl, t⟩
    · refine ⟨_, rfl, _, .ty "str", .type "str", .type "str", true, rfl, .ty _, .base (.str _), kit_ty (by decide +kernel), _, rfl, iteT ?_⟩
      refine ⟨_, rfl, _, rfl, _, rfl, _, rfl, ?_⟩
      dsimp only [tNil]
      refine use_judged (Same.tup S12 tB8) (bds_tk fB8 (Same.tk S12)) (Same.tup S12 tC8) (fC8.imp fun _ _ z => z.mono (Same.tk S12)) (Same.tup S12 tR8) (fR8.imp fun _ _ z => BsAt.mono (Same.tk S12) z) cr h32 hg (by omega) j50 l fun H13 v13 a13 s13 => ?_
      exact ⟨_, rfl, _, _, a13.dp, (a9.mono (Same.tk (s10.trans (u2.trans (s12.trans s13))))).dp, shp, shp, _, rfl, iteE neq ⟨_, _, _, _, _, _, _, _, _, rfl, (w8.same (S12.trans s13)).less (by omega)⟩⟩
    · refine ⟨_, rfl, _, .ty "str", .type "tuple", .type "str", false, rfl, .ty _, ty_tup (Same.tup (s10.trans (u2.trans s12)) t), kit_ty (by decide +kernel), _, rfl, iteF (iteF ?_)⟩
      exact ⟨_, _, _, _, _, _, _, _, _, rfl, (w8.same S12).less (by omega)⟩
end
end B
namespace B
open PySem PySem.Spec PyProof.Rows L2
theorem lt_end {l : PySem.W.OpenLaw} {w : World} {K : PySem.W.Frag} {h : Heap} {mg : Str → Option Value} {fa : Addr} (tree : l.prog.given.tree = none) (X : K.In h) (G : h.Ns mainGlobals mg) (hfa : mg "law" = some (.ref fa)) (c : SaysL lt_fa lt_fn lt_lf K) :
    ∃ fd : FuncData, (∀ (s : Shared) (v : Value), BindsTo s fd ⟨[v], []⟩ [("_law_script", v)]) ∧ ∀ base : Heap, K.In base → base.Ns mainGlobals mg → base.NoSeer → FnG l.prog w K mg base 41 fa fd ["_law_script"] (sp_law K) := by
  obtain ⟨fd0, D00⟩ := c.d.def_ 0 rfl
  have D0 : FunD K "short_enough" "short_enough" (defArgs s_short_enough) (defBody s_short_enough) (defScope s_short_enough) [] [] (He.ga K "short_enough") fd0 := D00
  have g0 := He.glo_ok X G (c.d.fact 0 (f := .glo "short_enough") rfl)
  obtain ⟨T0, ef0, efd0⟩ := df_of (ps := ["words"]) D0 g0 (fun _ _ _ _ _ _ us hl => match us, hl with | [_], _ => rfl)
  obtain ⟨fd1, D10⟩ := c.d.def_ 1 rfl
  have D1 : FunD K "both" "both" (defArgs s_both) (defBody s_both) (defScope s_both) [] [] (He.ga K "both") fd1 := D10
  have g1 := He.glo_ok X G (c.d.fact 1 (f := .glo "both") rfl)
  obtain ⟨T1, ef1, efd1⟩ := df_of (ps := ["one", "other"]) D1 g1 (fun _ _ _ _ _ _ us hl => match us, hl with | [_, _], _ => rfl)
  obtain ⟨fd2, D20⟩ := c.d.def_ 2 rfl
  have D2 : FunD K "called_off" "called_off" (defArgs s_called_off) (defBody s_called_off) (defScope s_called_off) [] [] (He.ga K "called_off") fd2 := D20
  have g2 := He.glo_ok X G (c.d.fact 2 (f := .glo "called_off") rfl)
  obtain ⟨T2, ef2, efd2⟩ := df_of (ps := ["bet", "saying"]) D2 g2 (fun _ _ _ _ _ _ us hl => match us, hl with | [_, _], _ => rfl)
  obtain ⟨fd3, D30⟩ := c.d.def_ 3 rfl
  have D3 : FunD K "joined" "joined" (defArgs s_joined) (defBody s_joined) (defScope s_joined) [] [] (He.ga K "joined") fd3 := D30
  have g3 := He.glo_ok X G (c.d.fact 3 (f := .glo "joined") rfl)
  obtain ⟨T3, ef3, efd3⟩ := df_of (ps := ["house", "bids", "cells", "lists"]) D3 g3 (fun _ _ _ _ _ _ us hl => match us, hl with | [_, _, _, _], _ => rfl)
  obtain ⟨fd4, D40⟩ := c.d.def_ 4 rfl
  have D4 : FunD K "judged" "judged" (defArgs s_judged) (defBody s_judged) (defScope s_judged) [] [] (He.ga K "judged") fd4 := D40
  have g4 := He.glo_ok X G (c.d.fact 4 (f := .glo "judged") rfl)
  obtain ⟨T4, ef4, efd4⟩ := df_of (ps := ["house", "bids"]) D4 g4 (fun _ _ _ _ _ _ us hl => match us, hl with | [_, _], _ => rfl)
  obtain ⟨fd5, D50⟩ := c.d.def_ 5 rfl
  have D5 : FunD K "parted" "parted" (defArgs s_parted) (defBody s_parted) (defScope s_parted) [] [] (He.ga K "parted") fd5 := D50
  have g5 := He.glo_ok X G (c.d.fact 5 (f := .glo "parted") rfl)
  obtain ⟨T5, ef5, efd5⟩ := df_of (ps := ["stakes", "lists"]) D5 g5 (fun _ _ _ _ _ _ us hl => match us, hl with | [_, _], _ => rfl)
  obtain ⟨fd6, D60⟩ := c.d.def_ 6 rfl
  have D6 : FunD K "judged_days" "judged_days" (defArgs s_judged_days) (defBody s_judged_days) (defScope s_judged_days) [] [] (He.ga K "judged_days") fd6 := D60
  have g6 := He.glo_ok X G (c.d.fact 6 (f := .glo "judged_days") rfl)
  obtain ⟨T6, ef6, efd6⟩ := df_of (ps := ["house", "bids", "cells", "lists"]) D6 g6 (fun _ _ _ _ _ _ us hl => match us, hl with | [_, _, _, _], _ => rfl)
  obtain ⟨fd7, D70⟩ := c.d.def_ 7 rfl
  have D7 : FunD K "_law_draws" "_law_draws" (defArgs s_l_draws) (defBody s_l_draws) (defScope s_l_draws) [] [] (He.ga K "_law_draws") fd7 := D70
  have g7 := He.glo_ok X G (c.d.fact 7 (f := .glo "_law_draws") rfl)
  obtain ⟨T7, ef7, efd7⟩ := df_of (ps := ["_law_script"]) D7 g7 (fun _ _ _ _ _ _ us hl => match us, hl with | [_], _ => rfl)
  obtain ⟨fd8, D80⟩ := c.d.def_ 8 rfl
  have D8 : FunD K "_law_next" "_law_next" (defArgs s_l_next) (defBody s_l_next) (defScope s_l_next) [] [] (He.ga K "_law_next") fd8 := D80
  have g8 := He.glo_ok X G (c.d.fact 8 (f := .glo "_law_next") rfl)
  obtain ⟨T8, ef8, efd8⟩ := df_of (ps := ["_law_drawn", "_law_many"]) D8 g8 (fun _ _ _ _ _ _ us hl => match us, hl with | [_, _], _ => rfl)
  obtain ⟨fd9, D90⟩ := c.d.def_ 9 rfl
  have D9 : FunD K "_law_lowest" "_law_lowest" (defArgs s_l_lowest) (defBody s_l_lowest) (defScope s_l_lowest) [] [] (He.ga K "_law_lowest") fd9 := D90
  have g9 := He.glo_ok X G (c.d.fact 9 (f := .glo "_law_lowest") rfl)
  obtain ⟨T9, ef9, efd9⟩ := df_of (ps := ["_law_top", "_law_bottom"]) D9 g9 (fun _ _ _ _ _ _ us hl => match us, hl with | [_, _], _ => rfl)
  obtain ⟨fd10, D100⟩ := c.d.def_ 10 rfl
  have D10 : FunD K "_law_plus" "_law_plus" (defArgs s_l_plus) (defBody s_l_plus) (defScope s_l_plus) [] [] (He.ga K "_law_plus") fd10 := D100
  have g10 := He.glo_ok X G (c.d.fact 10 (f := .glo "_law_plus") rfl)
  obtain ⟨T10, ef10, efd10⟩ := df_of (ps := ["_law_one", "_law_other"]) D10 g10 (fun _ _ _ _ _ _ us hl => match us, hl with | [_, _], _ => rfl)
  obtain ⟨fd11, D110⟩ := c.d.def_ 11 rfl
  have D11 : FunD K "_law_times" "_law_times" (defArgs s_l_times) (defBody s_l_times) (defScope s_l_times) [] [] (He.ga K "_law_times") fd11 := D110
  have g11 := He.glo_ok X G (c.d.fact 11 (f := .glo "_law_times") rfl)
  obtain ⟨T11, ef11, efd11⟩ := df_of (ps := ["_law_one", "_law_other"]) D11 g11 (fun _ _ _ _ _ _ us hl => match us, hl with | [_, _], _ => rfl)
  obtain ⟨fd12, D120⟩ := c.d.def_ 12 rfl
  have D12 : FunD K "_law_fraction" "_law_fraction" (defArgs s_l_fraction) (defBody s_l_fraction) (defScope s_l_fraction) [] [] (He.ga K "_law_fraction") fd12 := D120
  have g12 := He.glo_ok X G (c.d.fact 12 (f := .glo "_law_fraction") rfl)
  obtain ⟨T12, ef12, efd12⟩ := df_of (ps := ["_law_drawn"]) D12 g12 (fun _ _ _ _ _ _ us hl => match us, hl with | [_], _ => rfl)
  obtain ⟨fd13, D130⟩ := c.d.def_ 13 rfl
  have D13 : FunD K "_law_saying" "_law_saying" (defArgs s_l_saying) (defBody s_l_saying) (defScope s_l_saying) [] [] (He.ga K "_law_saying") fd13 := D130
  have g13 := He.glo_ok X G (c.d.fact 13 (f := .glo "_law_saying") rfl)
  obtain ⟨T13, ef13, efd13⟩ := df_of (ps := ["_law_drawn", "_law_letters", "_law_leaves"]) D13 g13 (fun _ _ _ _ _ _ us hl => match us, hl with | [_, _, _], _ => rfl)
  obtain ⟨fd14, D140⟩ := c.d.def_ 14 rfl
  have D14 : FunD K "_law_holds" "_law_holds" (defArgs s_l_holds) (defBody s_l_holds) (defScope s_l_holds) [] [] (He.ga K "_law_holds") fd14 := D140
  have g14 := He.glo_ok X G (c.d.fact 14 (f := .glo "_law_holds") rfl)
  obtain ⟨T14, ef14, efd14⟩ := df_of (ps := ["_law_letters", "_law_saying_here", "_law_world"]) D14 g14 (fun _ _ _ _ _ _ us hl => match us, hl with | [_, _, _], _ => rfl)
  obtain ⟨fd15, D150⟩ := c.d.def_ 15 rfl
  have D15 : FunD K "_law_worlds" "_law_worlds" (defArgs s_l_worlds) (defBody s_l_worlds) (defScope s_l_worlds) [] [] (He.ga K "_law_worlds") fd15 := D150
  have g15 := He.glo_ok X G (c.d.fact 15 (f := .glo "_law_worlds") rfl)
  obtain ⟨T15, ef15, efd15⟩ := df_of (ps := ["_law_house"]) D15 g15 (fun _ _ _ _ _ _ us hl => match us, hl with | [_], _ => rfl)
  obtain ⟨fd16, D160⟩ := c.d.def_ 16 rfl
  have D16 : FunD K "_law_paid" "_law_paid" (defArgs s_l_paid) (defBody s_l_paid) (defScope s_l_paid) [] [] (He.ga K "_law_paid") fd16 := D160
  have g16 := He.glo_ok X G (c.d.fact 16 (f := .glo "_law_paid") rfl)
  obtain ⟨T16, ef16, efd16⟩ := df_of (ps := ["_law_letters", "_law_bet_here", "_law_world"]) D16 g16 (fun _ _ _ _ _ _ us hl => match us, hl with | [_, _, _], _ => rfl)
  obtain ⟨fd17, D170⟩ := c.d.def_ 17 rfl
  have D17 : FunD K "_law_table" "_law_table" (defArgs s_l_table) (defBody s_l_table) (defScope s_l_table) [] [] (He.ga K "_law_table") fd17 := D170
  have g17 := He.glo_ok X G (c.d.fact 17 (f := .glo "_law_table") rfl)
  obtain ⟨T17, ef17, efd17⟩ := df_of (ps := ["_law_house", "_law_bet_here"]) D17 g17 (fun _ _ _ _ _ _ us hl => match us, hl with | [_, _], _ => rfl)
  obtain ⟨fd18, D180⟩ := c.d.def_ 18 rfl
  have D18 : FunD K "_law_bet" "_law_bet" (defArgs s_l_bet) (defBody s_l_bet) (defScope s_l_bet) [] [] (He.ga K "_law_bet") fd18 := D180
  have g18 := He.glo_ok X G (c.d.fact 18 (f := .glo "_law_bet") rfl)
  obtain ⟨T18, ef18, efd18⟩ := df_of (ps := ["_law_drawn", "_law_letters", "_law_most"]) D18 g18 (fun _ _ _ _ _ _ us hl => match us, hl with | [_, _, _], _ => rfl)
  obtain ⟨fd19, D190⟩ := c.d.def_ 19 rfl
  have D19 : FunD K "_law_living" "_law_living" (defArgs s_l_living) (defBody s_l_living) (defScope s_l_living) [] [] (He.ga K "_law_living") fd19 := D190
  have g19 := He.glo_ok X G (c.d.fact 19 (f := .glo "_law_living") rfl)
  obtain ⟨T19, ef19, efd19⟩ := df_of (ps := ["_law_drawn", "_law_house", "_law_most"]) D19 g19 (fun _ _ _ _ _ _ us hl => match us, hl with | [_, _, _], _ => rfl)
  obtain ⟨fd20, D200⟩ := c.d.def_ 20 rfl
  have D20 : FunD K "_law_price" "_law_price" (defArgs s_l_price) (defBody s_l_price) (defScope s_l_price) [] [] (He.ga K "_law_price") fd20 := D200
  have g20 := He.glo_ok X G (c.d.fact 20 (f := .glo "_law_price") rfl)
  obtain ⟨T20, ef20, efd20⟩ := df_of (ps := ["_law_drawn", "_law_table_here"]) D20 g20 (fun _ _ _ _ _ _ us hl => match us, hl with | [_, _], _ => rfl)
  obtain ⟨fd21, D210⟩ := c.d.def_ 21 rfl
  have D21 : FunD K "_law_short" "_law_short" (defArgs s_l_short) (defBody s_l_short) (defScope s_l_short) [] [] (He.ga K "_law_short") fd21 := D210
  have g21 := He.glo_ok X G (c.d.fact 21 (f := .glo "_law_short") rfl)
  obtain ⟨T21, ef21, efd21⟩ := df_of (ps := ["_law_drawn", "_law_one"]) D21 g21 (fun _ _ _ _ _ _ us hl => match us, hl with | [_, _], _ => rfl)
  obtain ⟨fd22, D220⟩ := c.d.def_ 22 rfl
  have D22 : FunD K "_law_bids" "_law_bids" (defArgs s_l_bids) (defBody s_l_bids) (defScope s_l_bids) [] [] (He.ga K "_law_bids") fd22 := D220
  have g22 := He.glo_ok X G (c.d.fact 22 (f := .glo "_law_bids") rfl)
  obtain ⟨T22, ef22, efd22⟩ := df_of (ps := ["_law_drawn", "_law_house", "_law_many", "_law_most"]) D22 g22 (fun _ _ _ _ _ _ us hl => match us, hl with | [_, _, _, _], _ => rfl)
  obtain ⟨fd23, D230⟩ := c.d.def_ 23 rfl
  have D23 : FunD K "_law_refusal" "_law_refusal" (defArgs s_l_refusal) (defBody s_l_refusal) (defScope s_l_refusal) [] [] (He.ga K "_law_refusal") fd23 := D230
  have g23 := He.glo_ok X G (c.d.fact 23 (f := .glo "_law_refusal") rfl)
  obtain ⟨T23, ef23, efd23⟩ := df_of (ps := ["_law_e"]) D23 g23 (fun _ _ _ _ _ _ us hl => match us, hl with | [_], _ => rfl)
  obtain ⟨fd24, D240⟩ := c.d.def_ 24 rfl
  have D24 : FunD K "_law_room" "_law_room" (defArgs s_l_room) (defBody s_l_room) (defScope s_l_room) [] [] (He.ga K "_law_room") fd24 := D240
  have g24 := He.glo_ok X G (c.d.fact 24 (f := .glo "_law_room") rfl)
  obtain ⟨T24, ef24, efd24⟩ := df_of (ps := ["_law_drawn", "_law_most"]) D24 g24 (fun _ _ _ _ _ _ us hl => match us, hl with | [_, _], _ => rfl)
  obtain ⟨fd25, D250⟩ := c.d.def_ 25 rfl
  have D25 : FunD K "_law_cells" "_law_cells" (defArgs s_l_cells) (defBody s_l_cells) (defScope s_l_cells) [] [] (He.ga K "_law_cells") fd25 := D250
  have g25 := He.glo_ok X G (c.d.fact 25 (f := .glo "_law_cells") rfl)
  obtain ⟨T25, ef25, efd25⟩ := df_of (ps := ["_law_drawn", "_law_house", "_law_given", "_law_most"]) D25 g25 (fun _ _ _ _ _ _ us hl => match us, hl with | [_, _, _, _], _ => rfl)
  obtain ⟨fd26, D260⟩ := c.d.def_ 26 rfl
  have D26 : FunD K "_law_days" "_law_days" (defArgs s_l_days) (defBody s_l_days) (defScope s_l_days) [] [] (He.ga K "_law_days") fd26 := D260
  have g26 := He.glo_ok X G (c.d.fact 26 (f := .glo "_law_days") rfl)
  obtain ⟨T26, ef26, efd26⟩ := df_of (ps := ["_law_drawn", "_law_house", "_law_most"]) D26 g26 (fun _ _ _ _ _ _ us hl => match us, hl with | [_, _, _], _ => rfl)
  obtain ⟨fd27, D270⟩ := c.d.def_ 27 rfl
  have D27 : FunD K "_law_told" "_law_told" (defArgs s_l_told) (defBody s_l_told) (defScope s_l_told) [] [] (He.ga K "_law_told") fd27 := D270
  have g27 := He.glo_ok X G (c.d.fact 27 (f := .glo "_law_told") rfl)
  obtain ⟨T27, ef27, efd27⟩ := df_of (ps := ["_law_house", "_law_bids_here", "_law_cells_here", "_law_lists"]) D27 g27 (fun _ _ _ _ _ _ us hl => match us, hl with | [_, _, _, _], _ => rfl)
  obtain ⟨fd28, D280⟩ := c.d.def_ 28 rfl
  have D28 : FunD K "_law_judged" "_law_judged" (defArgs s_l_judged) (defBody s_l_judged) (defScope s_l_judged) [] [] (He.ga K "_law_judged") fd28 := D280
  have g28 := He.glo_ok X G (c.d.fact 28 (f := .glo "_law_judged") rfl)
  obtain ⟨T28, ef28, efd28⟩ := df_of (ps := ["_law_house", "_law_bids_here", "_law_cells_here", "_law_lists"]) D28 g28 (fun _ _ _ _ _ _ us hl => match us, hl with | [_, _, _, _], _ => rfl)
  obtain ⟨fd29, D290⟩ := c.d.def_ 29 rfl
  have D29 : FunD K "_law_longer" "_law_longer" (defArgs s_l_longer) (defBody s_l_longer) (defScope s_l_longer) [] [] (He.ga K "_law_longer") fd29 := D290
  have g29 := He.glo_ok X G (c.d.fact 29 (f := .glo "_law_longer") rfl)
  obtain ⟨T29, ef29, efd29⟩ := df_of (ps := ["_law_drawn", "_law_lists", "_law_cells_here"]) D29 g29 (fun _ _ _ _ _ _ us hl => match us, hl with | [_, _, _], _ => rfl)
  obtain ⟨fd30, D300⟩ := c.d.def_ 30 rfl
  have D30 : FunD K "_law_due" "_law_due" (defArgs s_l_due) (defBody s_l_due) (defScope s_l_due) [] [] (He.ga K "_law_due") fd30 := D300
  have g30 := He.glo_ok X G (c.d.fact 30 (f := .glo "_law_due") rfl)
  obtain ⟨T30, ef30, efd30⟩ := df_of (ps := ["_law_bids_here", "_law_cells_here", "_law_lists"]) D30 g30 (fun _ _ _ _ _ _ us hl => match us, hl with | [_, _, _], _ => rfl)
  obtain ⟨fd31, D310⟩ := c.d.def_ 31 rfl
  have D31 : FunD K "law" "law" (defArgs s_law) (defBody s_law) (defScope s_law) [] [] (He.ga K "law") fd31 := D310
  have g31 := He.glo_ok X G (c.d.fact 31 (f := .glo "law") rfl)
  obtain ⟨T31, ef31, efd31⟩ := df_of (ps := ["_law_script"]) D31 g31 (fun _ _ _ _ _ _ us hl => match us, hl with | [_], _ => rfl)
  obtain ⟨tc0, gc0⟩ := He.int_ok X G (c.d.fact 47 (f := .int "MOST_WORDS" 40) rfl)
  obtain ⟨tc1, gc1⟩ := He.int_ok X G (c.d.fact 48 (f := .int "MOST_BIDS" 12) rfl)
  obtain ⟨fe0, E0⟩ := c.d.def_ 32 (d := errD "StallError" "StallError.__init__" ⟨4, 17, 4, 21⟩ ⟨5, 8, 5, 12⟩ ⟨5, 8, 5, 18⟩ ⟨5, 21, 5, 33⟩ ⟨5, 8, 5, 33⟩) rfl
  obtain ⟨Y0, y0⟩ := err_mk X G (c.fact 0 (f := .err "StallError") rfl) E0
  obtain ⟨fe1, E1⟩ := c.d.def_ 33 (d := errD "TooLong" "TooLong.__init__" ⟨8, 17, 8, 21⟩ ⟨9, 8, 9, 12⟩ ⟨9, 8, 9, 18⟩ ⟨9, 21, 9, 30⟩ ⟨9, 8, 9, 30⟩) rfl
  obtain ⟨Y1, y1⟩ := err_mk X G (c.fact 1 (f := .err "TooLong") rfl) E1
  obtain ⟨fe2, E2⟩ := c.d.def_ 34 (d := errD "TooMany" "TooMany.__init__" ⟨12, 17, 12, 21⟩ ⟨13, 8, 13, 12⟩ ⟨13, 8, 13, 18⟩ ⟨13, 21, 13, 30⟩ ⟨13, 8, 13, 30⟩) rfl
  obtain ⟨Y2, y2⟩ := err_mk X G (c.fact 2 (f := .err "TooMany") rfl) E2
  obtain ⟨fe3, E3⟩ := c.d.def_ 35 (d := errD "NoWorld" "NoWorld.__init__" ⟨16, 17, 16, 21⟩ ⟨17, 8, 17, 12⟩ ⟨17, 8, 17, 18⟩ ⟨17, 21, 17, 30⟩ ⟨17, 8, 17, 30⟩) rfl
  obtain ⟨Y3, y3⟩ := err_mk X G (c.fact 3 (f := .err "NoWorld") rfl) E3
  obtain ⟨fe4, E4⟩ := c.d.def_ 36 (d := errD "NotAlike" "NotAlike.__init__" ⟨20, 17, 20, 21⟩ ⟨21, 8, 21, 12⟩ ⟨21, 8, 21, 18⟩ ⟨21, 21, 21, 31⟩ ⟨21, 8, 21, 31⟩) rfl
  obtain ⟨Y4, y4⟩ := err_mk X G (c.fact 4 (f := .err "NotAlike") rfl) E4
  obtain ⟨fe5, E5⟩ := c.d.def_ 37 (d := errD "Unfair" "Unfair.__init__" ⟨24, 17, 24, 21⟩ ⟨25, 8, 25, 12⟩ ⟨25, 8, 25, 18⟩ ⟨25, 21, 25, 29⟩ ⟨25, 8, 25, 29⟩) rfl
  obtain ⟨Y5, y5⟩ := err_mk X G (c.fact 5 (f := .err "Unfair") rfl) E5
  obtain ⟨fe6, E6⟩ := c.d.def_ 38 (d := errD "Fair" "Fair.__init__" ⟨28, 17, 28, 21⟩ ⟨29, 8, 29, 12⟩ ⟨29, 8, 29, 18⟩ ⟨29, 21, 29, 27⟩ ⟨29, 8, 29, 27⟩) rfl
  obtain ⟨Y6, y6⟩ := err_mk X G (c.fact 6 (f := .err "Fair") rfl) E6
  obtain ⟨fe7, E7⟩ := c.d.def_ 39 (d := errD "NoBet" "NoBet.__init__" ⟨32, 17, 32, 21⟩ ⟨33, 8, 33, 12⟩ ⟨33, 8, 33, 18⟩ ⟨33, 21, 33, 28⟩ ⟨33, 8, 33, 28⟩) rfl
  obtain ⟨Y7, y7⟩ := err_mk X G (c.fact 7 (f := .err "NoBet") rfl) E7
  obtain ⟨fe8, E8⟩ := c.d.def_ 40 (d := errD "NoHolder" "NoHolder.__init__" ⟨36, 17, 36, 21⟩ ⟨37, 8, 37, 12⟩ ⟨37, 8, 37, 18⟩ ⟨37, 21, 37, 31⟩ ⟨37, 8, 37, 31⟩) rfl
  obtain ⟨Y8, y8⟩ := err_mk X G (c.fact 8 (f := .err "NoHolder") rfl) E8
  obtain ⟨fe9, E9⟩ := c.d.def_ 41 (d := errD "NoStake" "NoStake.__init__" ⟨40, 17, 40, 21⟩ ⟨41, 8, 41, 12⟩ ⟨41, 8, 41, 18⟩ ⟨41, 21, 41, 30⟩ ⟨41, 8, 41, 30⟩) rfl
  obtain ⟨Y9, y9⟩ := err_mk X G (c.fact 9 (f := .err "NoStake") rfl) E9
  obtain ⟨fe10, E10⟩ := c.d.def_ 42 (d := errD "NoTicket" "NoTicket.__init__" ⟨44, 17, 44, 21⟩ ⟨45, 8, 45, 12⟩ ⟨45, 8, 45, 18⟩ ⟨45, 21, 45, 31⟩ ⟨45, 8, 45, 31⟩) rfl
  obtain ⟨Y10, y10⟩ := err_mk X G (c.fact 10 (f := .err "NoTicket") rfl) E10
  obtain ⟨fe11, E11⟩ := c.d.def_ 43 (d := errD "NoCover" "NoCover.__init__" ⟨48, 17, 48, 21⟩ ⟨49, 8, 49, 12⟩ ⟨49, 8, 49, 18⟩ ⟨49, 21, 49, 30⟩ ⟨49, 8, 49, 30⟩) rfl
  obtain ⟨Y11, y11⟩ := err_mk X G (c.fact 11 (f := .err "NoCover") rfl) E11
  obtain ⟨fe12, E12⟩ := c.d.def_ 44 (d := errD "NoSaying" "NoSaying.__init__" ⟨52, 17, 52, 21⟩ ⟨53, 8, 53, 12⟩ ⟨53, 8, 53, 18⟩ ⟨53, 21, 53, 31⟩ ⟨53, 8, 53, 31⟩) rfl
  obtain ⟨Y12, y12⟩ := err_mk X G (c.fact 12 (f := .err "NoSaying") rfl) E12
  obtain ⟨fe13, E13⟩ := c.d.def_ 45 (d := errD "NoDeed" "NoDeed.__init__" ⟨56, 17, 56, 21⟩ ⟨57, 8, 57, 12⟩ ⟨57, 8, 57, 18⟩ ⟨57, 21, 57, 29⟩ ⟨57, 8, 57, 29⟩) rfl
  obtain ⟨Y13, y13⟩ := err_mk X G (c.fact 13 (f := .err "NoDeed") rfl) E13
  obtain ⟨fe14, E14⟩ := c.d.def_ 46 (d := errD "NoStep" "NoStep.__init__" ⟨60, 17, 60, 21⟩ ⟨61, 8, 61, 12⟩ ⟨61, 8, 61, 18⟩ ⟨61, 21, 61, 29⟩ ⟨61, 8, 61, 29⟩) rfl
  obtain ⟨Y14, y14⟩ := err_mk X G (c.fact 14 (f := .err "NoStep") rfl) E14
  obtain ⟨fe15, E15⟩ := c.d.def_ 47 (d := errD "NoText" "NoText.__init__" ⟨64, 17, 64, 21⟩ ⟨65, 8, 65, 12⟩ ⟨65, 8, 65, 18⟩ ⟨65, 21, 65, 29⟩ ⟨65, 8, 65, 29⟩) rfl
  obtain ⟨Y15, y15⟩ := err_mk X G (c.fact 15 (f := .err "NoText") rfl) E15
  have e : fa = T31.f := by rw [ef31]; exact Value.ref.inj (Option.some.inj (hfa.symm.trans g31))
  subst e
  have b := FunD.bindsA (ps := ["_law_script"]) D31 fun _ _ _ _ _ _ us hl => match us, hl with | [_], _ => rfl
  refine ⟨T31.fd, fun s v => by rw [efd31]; exact b s [v] rfl, fun base _ _ seen => ?_⟩
  exact (ok_law ⟨T0, T1, T2, T3, T4, T5, T6, T7, T8, T9, T10, T11, T12, T13, T14, T15, T16, T17, T18, T19, T20, T21, T22, T23, T24, T25, T26, T27, T28, T29, T30, T31, He.free_ok X G (c.d.fact 32 (f := .free "ValueError") rfl), He.free_ok X G (c.d.fact 33 (f := .free "abs") rfl), He.free_ok X G (c.d.fact 34 (f := .free "enumerate") rfl), He.free_ok X G (c.d.fact 35 (f := .free "int") rfl), He.free_ok X G (c.d.fact 36 (f := .free "isinstance") rfl), He.free_ok X G (c.d.fact 37 (f := .free "len") rfl), He.free_ok X G (c.d.fact 38 (f := .free "list") rfl), He.free_ok X G (c.d.fact 39 (f := .free "max") rfl), He.free_ok X G (c.d.fact 40 (f := .free "min") rfl), He.free_ok X G (c.d.fact 41 (f := .free "range") rfl), He.free_ok X G (c.d.fact 42 (f := .free "repr") rfl), He.free_ok X G (c.d.fact 43 (f := .free "sorted") rfl), He.free_ok X G (c.d.fact 44 (f := .free "str") rfl), He.free_ok X G (c.d.fact 45 (f := .free "tuple") rfl), He.free_ok X G (c.d.fact 46 (f := .free "zip") rfl), tc0, gc0, tc1, gc1, Y0, Y1, Y2, Y3, Y4, Y5, Y6, Y7, Y8, Y9, Y10, Y11, Y12, Y13, Y14, Y15, sub_of y1 y0 (c.fact 16 (f := .sub "TooLong" "StallError" true) rfl), sub_of y1 y1 (c.fact 17 (f := .sub "TooLong" "TooLong" true) rfl), sub_of y1 y2 (c.fact 18 (f := .sub "TooLong" "TooMany" false) rfl), sub_of y1 y3 (c.fact 19 (f := .sub "TooLong" "NoWorld" false) rfl), sub_of y1 y4 (c.fact 20 (f := .sub "TooLong" "NotAlike" false) rfl), sub_of y1 y5 (c.fact 21 (f := .sub "TooLong" "Unfair" false) rfl), sub_of y1 y6 (c.fact 22 (f := .sub "TooLong" "Fair" false) rfl), sub_of y1 y7 (c.fact 23 (f := .sub "TooLong" "NoBet" false) rfl), sub_of y1 y8 (c.fact 24 (f := .sub "TooLong" "NoHolder" false) rfl), sub_of y1 y9 (c.fact 25 (f := .sub "TooLong" "NoStake" false) rfl), sub_of y1 y10 (c.fact 26 (f := .sub "TooLong" "NoTicket" false) rfl), sub_of y1 y11 (c.fact 27 (f := .sub "TooLong" "NoCover" false) rfl), sub_of y1 y12 (c.fact 28 (f := .sub "TooLong" "NoSaying" false) rfl), sub_of y1 y13 (c.fact 29 (f := .sub "TooLong" "NoDeed" false) rfl), sub_of y1 y14 (c.fact 30 (f := .sub "TooLong" "NoStep" false) rfl), sub_of y1 y15 (c.fact 31 (f := .sub "TooLong" "NoText" false) rfl), subT_of y1 (c.fact 32 (f := .subT "TooLong" "ValueError" true) rfl), sub_of y2 y0 (c.fact 33 (f := .sub "TooMany" "StallError" true) rfl), sub_of y2 y1 (c.fact 34 (f := .sub "TooMany" "TooLong" false) rfl), sub_of y2 y2 (c.fact 35 (f := .sub "TooMany" "TooMany" true) rfl), sub_of y2 y3 (c.fact 36 (f := .sub "TooMany" "NoWorld" false) rfl), sub_of y2 y4 (c.fact 37 (f := .sub "TooMany" "NotAlike" false) rfl), sub_of y2 y5 (c.fact 38 (f := .sub "TooMany" "Unfair" false) rfl), sub_of y2 y6 (c.fact 39 (f := .sub "TooMany" "Fair" false) rfl), sub_of y2 y7 (c.fact 40 (f := .sub "TooMany" "NoBet" false) rfl), sub_of y2 y8 (c.fact 41 (f := .sub "TooMany" "NoHolder" false) rfl), sub_of y2 y9 (c.fact 42 (f := .sub "TooMany" "NoStake" false) rfl), sub_of y2 y10 (c.fact 43 (f := .sub "TooMany" "NoTicket" false) rfl), sub_of y2 y11 (c.fact 44 (f := .sub "TooMany" "NoCover" false) rfl), sub_of y2 y12 (c.fact 45 (f := .sub "TooMany" "NoSaying" false) rfl), sub_of y2 y13 (c.fact 46 (f := .sub "TooMany" "NoDeed" false) rfl), sub_of y2 y14 (c.fact 47 (f := .sub "TooMany" "NoStep" false) rfl), sub_of y2 y15 (c.fact 48 (f := .sub "TooMany" "NoText" false) rfl), subT_of y2 (c.fact 49 (f := .subT "TooMany" "ValueError" true) rfl)⟩ ⟨tree, seen⟩)
end B
open PySem PySem.W PySem.Calls PyProof.Rows
set_option maxRecDepth 100000 in
set_option maxHeartbeats 0 in
theorem PySem.Challenge.cw_betstall_k60_joined_holds : PySem.Challenge.rw_betstall_k60_joined.Holds := by
  w_on; o_law
  refine HandSHeadRun.head_any (r := OpenLaw.row PySem.Challenge.rw_betstall_k60_joined) (q := view (OpenLaw.row PySem.Challenge.rw_betstall_k60_joined).prog [90]) (H := B.lt_hk) (ob := B.lt_ob) (M := 200000) (loose := B.lt_nm) (d := HandSHeadRun.topDef (OpenLaw.row PySem.Challenge.rw_betstall_k60_joined).prog 90) (kwd := []) B.lt_ob_eq
    (by kernel_rfl) (fun s => by kernel_rfl) B.lt_run (by kernel_rfl) (by kernel_rfl) (by kernel_rfl) (by rfl) (by first | assumption | decide +kernel) (by decide +kernel) ⟨rfl, rfl, rfl, rfl, rfl, by decide +kernel⟩ ?hw ?hc
  case hw => w_witness2
  case hc =>
    refine B.walkL (l := PySem.Challenge.rw_betstall_k60_joined) (n := 63) (k := 41) (x := "_law_script") (by decide +kernel) rfl (by decide) (by kernel_rfl) ⟨rfl, by decide, by decide⟩ ?F
    intro w mg fa h Y G hmg0
    obtain ⟨K, KX, c⟩ := Y
    have hmg : mg ("law" : PySem.Str) = some (.ref fa) := by
      have e : (HandSHeadRun.topDef (OpenLaw.row PySem.Challenge.rw_betstall_k60_joined).prog 90).name = ("law" : PySem.Str) := by kernel_rfl
      rw [← e]
      exact hmg0
    obtain ⟨fd, hb, hF⟩ := B.lt_end (l := PySem.Challenge.rw_betstall_k60_joined) (w := w) rfl KX G hmg c
    exact ⟨K, fd, B.sp_law K, KX, hb, hF, fun _ a ns hl hb _ hS => ⟨a, ns, rfl, hS, hl, hb, fun _ => rfl⟩⟩
