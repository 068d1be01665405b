import PyProof.Rows.All
import Wide.All
import OpenK.AllK
import Wide.FinOn
import HandS.Base
import HandS.Call
import HandS.List
import HandS.Comp
import HandS.Ends
import HandS.Dict
import HandS.Iter
import HandS.Text
import HandS.Words
import HandS.TryOnly
import HandS.Wide
import HandS.IsInst
import HandS.EndBits
import HandS.TupAny
import HandS.TupMul
import HandS.Replace
import HandS.SortInts
import HandS.Evl
import HandS.Zip
import HandS.Exc
import HandS.ExcOwn
import HandS.ExcValue
import HandS.ExcIs
import HandS.WordsExc
import HandS.TryMany
import HandS.Walk
import HandS.TupLe
import HandS.Defaults
import HandS.CallSlots
import HandS.Conv
import PyProof.TupleOfStr
import HandS.Strs
import HandS.SetFor
import KE.GoesMore
import KE.GoesEnum
import KE.GoesNew
import KE.KExcIs
import KE.KDictZip
import HandS.HotCalls
import KE.KStateDown
import HandS.Head0
import HandS.Head1
import HandS.Head2
import HandS.HeadEnd
import HandS.HeadHook1
import HandS.HeadHook2
import HandS.HeadHook3
import HandS.More
import PySem.Challenge.RW_betstall_k79_refusals_in_order
set_option Elab.async false
set_option linter.all false
set_option maxRecDepth 100000
set_option maxHeartbeats 4000000
namespace B
open PySem PySem.Spec PyProof.Rows L2
structure Df (K : PySem.W.Frag) (mg : Str → Option Value) (x : Str) (st : Stmt) (ps : List Str) where
  f : Addr
  fd : FuncData
  F : Fun K x x st f fd
  b : Binds K fd ps []
  g : mg x = some (.ref f)
theorem same_upd {H : Hp} {p : Addr} {o : HO} (h : H p = none) : Same H (upd H p o) := fun b x e => by
  rw [upd_ne (ne_of_none e h)]
  exact e
theorem Same.tup {K : PySem.W.Frag} {H H' : Hp} {a : Addr} {xs : List V} (e : Same H H') (h : SqT K H a xs) : SqT K H' a xs := by
  rcases h with (h | ⟨o, h⟩) | h
  · exact .inl (.inl (e _ _ h))
  · exact .inl (.inr ⟨o, e _ _ h⟩)
  · exact .inr h
theorem sqt_upd {K : PySem.W.Frag} {H : Hp} {p : Addr} {xs : List V} : SqT K (upd H p (.tup xs)) p xs := .inl (.inl upd_same)
theorem sql_upd {K : PySem.W.Frag} {H : Hp} {p : Addr} {xs : List V} : SqL K (upd H p (.lst xs)) p xs := .inl (.inl upd_same)
/-- the three objects of a row of draws -/
structure Dr where
  dr : Addr
  cl : Addr
  rs : Addr
/-- such a row stands at d, and b further draws may be asked -/
structure Drw (H : Hp) (d : Dr) (b : Nat) : Prop where
  ex : ∃ (cs rr : List Int) (c : Nat), H d.dr = some (.lst [.ref d.cl, .int c, .ref d.rs]) ∧ H d.cl = some (.lst (cs.map V.int)) ∧ H d.rs = some (.lst (rr.map V.int)) ∧ cs.length = rr.length ∧ 0 < cs.length ∧ cs.length ≤ 63 ∧ c + b ≤ 1000000
  ne : d.cl ≠ d.rs
/-- all else that was tracked is as it was -/
def Kp (d : Dr) (H H' : Hp) : Prop := ∀ b o, H b = some o → b ≠ d.dr → b ≠ d.rs → H' b = some o
theorem Kp.refl (d : Dr) (H : Hp) : Kp d H H := fun _ _ h _ _ => h
theorem Kp.trans {d : Dr} {H H1 H2 : Hp} (a : Kp d H H1) (b : Kp d H1 H2) : Kp d H H2 := fun x o h n m => b x o (a x o h n m) n m
theorem Same.kp {d : Dr} {H H' : Hp} (e : Same H H') : Kp d H H' := fun b o h _ _ => e b o h
theorem Kp.upd {d : Dr} {H H' : Hp} {p : Addr} {o : HO} (k : Kp d H H') (h : H p = none) : Kp d H (upd H' p o) := fun b x e n m => by
  rw [upd_ne (ne_of_none e h)]
  exact k b x e n m
theorem Drw.less {H : Hp} {d : Dr} {b c : Nat} (h : Drw H d b) (e : c ≤ b) : Drw H d c := by
  obtain ⟨⟨cs, rr, k, h1, h2, h3, h4, h5, h6, h7⟩, ne⟩ := h
  exact ⟨⟨cs, rr, k, h1, h2, h3, h4, h5, h6, by omega⟩, ne⟩
theorem Drw.same {H H' : Hp} {d : Dr} {b : Nat} (h : Drw H d b) (e : Same H H') : Drw H' d b := by
  obtain ⟨⟨cs, rr, k, h1, h2, h3, h4⟩, ne⟩ := h
  exact ⟨⟨cs, rr, k, e _ _ h1, e _ _ h2, e _ _ h3, h4⟩, ne⟩
theorem Drw.dr {H : Hp} {d : Dr} {b : Nat} (h : Drw H d b) : ∃ xs, H d.dr = some (.lst xs) := by
  obtain ⟨⟨cs, rr, k, h1, h2, h3, h4⟩, ne⟩ := h
  exact ⟨_, h1⟩
theorem Drw.rs {H : Hp} {d : Dr} {b : Nat} (h : Drw H d b) : ∃ xs, H d.rs = some (.lst xs) := by
  obtain ⟨⟨cs, rr, k, h1, h2, h3, h4⟩, ne⟩ := h
  exact ⟨_, h3⟩
theorem Drw.no {H : Hp} {d : Dr} {b : Nat} {p : Addr} (h : Drw H d b) (n : H p = none) : p ≠ d.dr ∧ p ≠ d.rs := by
  obtain ⟨x, hx⟩ := h.dr
  obtain ⟨y, hy⟩ := h.rs
  exact ⟨(ne_of_none hx n).symm, (ne_of_none hy n).symm⟩
/-- a tuple stays as it is, whatever is drawn -/
theorem Kp.tup {K : PySem.W.Frag} {d : Dr} {b : Nat} {H H' : Hp} {a : Addr} {xs : List V} (k : Kp d H H') (w : Drw H d b) (h : SqT K H a xs) : SqT K H' a xs := by
  obtain ⟨ys, hy⟩ := w.dr
  obtain ⟨zs, hz⟩ := w.rs
  rcases h with (h | ⟨o, h⟩) | h
  · exact .inl (.inl (k _ _ h (ne_of h hy (by intro q; cases q)) (ne_of h hz (by intro q; cases q))))
  · exact .inl (.inr ⟨o, k _ _ h (ne_of h hy (by intro q; cases q)) (ne_of h hz (by intro q; cases q))⟩)
  · exact .inr h
/-- what a division of any size asks of the run: nothing looks on -/
structure Unl (P : Program) (base : Heap) : Prop where
  tree : P.given.tree = none
  seer : base.NoSeer
/-- // by any divisor but 0, by any divisor above 0 -/
def CDivN (_ j : Int) : Prop := j ≠ 0
def CDivW (_ j : Int) : Prop := 0 < j
section
variable {X : Cx} {env : Env} {l : List Env}
theorem op_fdivNW (U : Unl X.prog X.base) (room : Room 34 X.A) (top : X.stack = env :: l) (ge : env.scope.isGenerator = false) (co : env.scope.isCoroutine = false) (bu : env.builtins = builtinsNs) (gl : env.globals = mainGlobals) : OpR X (binaryOp .FloorDiv) (rI CDivN fun i j => .int (i.fdiv j)) := by
  rintro pins s σ H _ _ _ _ Q I rx ry ⟨i, j, rfl, rfl, nz, q⟩
  obtain ⟨t, rfl⟩ := rx
  obtain ⟨t', rfl⟩ := ry
  have frames : X.A.frames = some (env :: l) := I.ok.frames.trans (congrArg some top)
  have deep : X.A.depth + Builtin.pylongFrames < recursionLimit := by
    have := room.dp
    show X.A.depth + 100 < _
    omega
  exact floordiv_int nz ⟨.int (i.fdiv j), H, I.tok _, ⟨_, rfl⟩, q⟩ (.inr (PySem.PylongRoom.of (I.ok.mod.nolimit.keeps I.bk) deep (PySem.SeerAt.of (U.seer.keeps I.bk) U.tree frames ge co bu gl)))
theorem op_fdivW (U : Unl X.prog X.base) (room : Room 34 X.A) (top : X.stack = env :: l) (ge : env.scope.isGenerator = false) (co : env.scope.isCoroutine = false) (bu : env.builtins = builtinsNs) (gl : env.globals = mainGlobals) : OpR X (binaryOp .FloorDiv) (rI CDivW fun i j => .int (i / j)) := by
  rintro pins s σ H x y v u Q I rx ry ⟨i, j, ex, ey, pos, q⟩
  have pos : 0 < j := pos
  refine op_fdivNW U room top ge co bu gl pins s σ H x y v u Q I rx ry ⟨i, j, ex, ey, by show j ≠ 0; omega, ?_⟩
  show Q (.int (i.fdiv j)) H
  rw [Int.fdiv_eq_ediv_of_nonneg i (by omega)]
  exact q
end
/-- * of two factors of together less than a hundred million bits -/
def CMulW (i j : Int) : Prop := Nat.log2 i.natAbs + Nat.log2 j.natAbs < 100000000
theorem CMulW.fits {i j : Int} (h : CMulW i j) : IntMulOk i j := by
  have len : ∀ k : Int, Builtin.Int.intBits k ≤ Nat.log2 k.natAbs + 1 := by
    intro k
    unfold Builtin.Int.intBits
    split <;> omega
  have li := len i
  have lj := len j
  unfold CMulW at h
  have line : bitsLine = 134217728 := by decide
  intro great
  have great := (Bool.and_eq_true_iff.mp great).2
  unfold Builtin.Int.intTooBig at great
  have great := of_decide_eq_true great
  omega
theorem op_mulW {X : Cx} : OpR X (binaryOp .Mult) (rI CMulW fun i j => .int (i * j)) := opI fun _ _ _ _ _ _ _ c q => mul_int q c.fits
theorem wide_mul {i j : Int} {a b : Nat} (ai : i.natAbs < 2 ^ a) (bj : j.natAbs < 2 ^ b) (a0 : 0 < a) (b0 : 0 < b) (few : a + b ≤ 100000000) : CMulW i j := by
  have u := PySem.Flt.log2_lt_of a0 ai
  have v := PySem.Flt.log2_lt_of b0 bj
  show Nat.log2 i.natAbs + Nat.log2 j.natAbs < 100000000
  omega
theorem wide_div {i j : Int} {b : Nat} (h : 0 < j) (_ : j.natAbs < 2 ^ b) (_ : 0 < b) (_ : b ≤ 900000) : CDivW i j := h
theorem abs_nat (i : Int) : (if i < 0 then -i else i) = (i.natAbs : Int) := by
  split <;> omega
theorem iteE {k : Bool} {A B : Prop} (h : k = false) (q : B) : if k = true then A else B := by
  subst h
  exact iteF q
theorem iteK {k : Bool} {A B : Prop} (h : k = true) (q : A) : if k = true then A else B := by
  subst h
  exact iteT q
theorem lc_yes {σ : L2.St} {H : Hp} {X Y : Hp → Prop} (h : X H) : tYes σ H (fun b H3 => if b = true then X H3 else Y H3) := by
  show if true = true then X H else Y H
  rw [if_pos rfl]
  exact h
theorem ty_tup {K : PySem.W.Frag} {H : Hp} {a : Addr} {xs : List V} (h : SqT K H a xs) : TyX K H (.ref a) (.type "tuple") := by
  rcases h with (h | ⟨o, h⟩) | ⟨o, its, n, e, c, _⟩
  · exact .base (.tup h)
  · exact .fTuple h
  · exact .kTuple e c
theorem dp2 {K : PySem.W.Frag} {H : Hp} {a : Addr} {x y : Int} (h : SqT K H a [.int x, .int y]) : Dp K H (.ref a) (.tuple [.int x, .int y]) := .tup h (.cons (.int x) (.cons (.int y) .nil))
theorem at_nat {xs : List V} {j : Nat} {v : V} (h : xs[j]? = some v) : atI xs (j : Int) = some v := atI_nat h
end B
namespace B
open PySem PySem.Spec PyProof.Rows L2
end B
namespace B
open PySem PySem.Spec PyProof.Rows L2
end B
namespace B
open PySem PySem.Spec PyProof.Rows L2
/-- the text of such a class's maker: one word, told to the new error -/
def eiA (p : Pos) : Arguments := { posonlyargs := [], args := [{ arg := "self", annotation := none, pos := p }], vararg := none, kwonlyargs := [], kw_defaults := [], kwarg := none, defaults := [] }
def eiB (x : Str) (q1 q2 q3 q4 : Pos) : List Stmt := [.Assign [.Attribute (.Name "self" q1) "named" q2] (.Constant (.str x) 0 q3) q4]
def eiS : Scope := { kind := .function, names := [(PySem.Str.ofString "self", .local)], isGenerator := false, isCoroutine := false, more := [] }
/-- what the top says of an own class of errors (of ValueError's) -/
structure Xc (K : PySem.W.Frag) (mg : Str → Option Value) (x : Str) where
  C : Addr
  ns : PySem.W.nsIn K mainGlobals x = some (some (.ref C))
  g : mg x = some (.ref C)
  kp : PySem.W.keepIn K (.ref C) = true
  sb : PySem.W.subIn K (.ref C) (.type "BaseException") = some true
  ty : PySem.W.typeIn K (.ref C) = some (.type "type")
  ic : PySem.W.isClsIn K C = true
  me : PySem.W.subIn K (.ref C) (.ref C) = some true
  ec : ExcC K C
  cls : ∃ nm q N bs bm sn sub ab col dd k0 k1 k2 k3 k5, K.lookup C = some (excClassObj nm q C N bs bm true sn sub ab col dd k0 k1 k2 k3 k5 "ValueError.__new__") ∧ PySem.HandSPX.refsVE bm = true
  sa : PySem.W.findIn K (.ref C) "__setattr__" = some (some (.builtin "object.__setattr__"))
  no : PySem.W.findIn K (.ref C) "named" = some none
  fI : Addr
  iC : PySem.W.findIn K (.ref C) "__init__" = some (some (.ref fI))
  tI : PySem.W.typeIn K (.ref fI) = some (.type "function")
  fn : ∃ (oc : Value) (od : Option Addr) (doc pm : Value) (an : Option Addr) (cdv ct : Value) (osl : Array (Option Value)) (qn : Str) (p q1 q2 q3 q4 : Pos), K.lookup fI = some ⟨oc, od, .func (PySem.W.fnOf "__init__" qn (eiA p) (eiB x q1 q2 q3 q4) eiS .none .none doc pm an cdv ct), osl⟩ ∧ PySem.W.codeIn K cdv qn = true
/-- the class of that name -/
def XIs (K : PySem.W.Frag) (x : Str) (C : Addr) : Prop := PySem.W.nsIn K mainGlobals x = some (some (.ref C))
theorem XIs.eq {K : PySem.W.Frag} {x : Str} {C D : Addr} (h : XIs K x C) (k : PySem.W.nsIn K mainGlobals x = some (some (.ref D))) : C = D := by
  have e := (show PySem.W.nsIn K mainGlobals x = some (some (.ref C)) from h).symm.trans k
  cases e
  rfl
/-- what such a maker leaves of the new error at y: its dict at dx holds the word -/
structure EiEnd (h h' : Heap) (y C dx t1 : Addr) (v : Value) : Prop where
  rest : ∀ b o, b ≠ y → h.get? b = some o → h'.get? b = some o
  err : h'.get? y = some { cls := .ref C, dict := some dx, data := .fields #[.ref t1, .none, .none, .none, .bool false, .none] }
  far : h.objs.size ≤ dx
  two : dx ≠ y
  dct : h'.Ns1 dx (fun z => if z = "named" then some v else none)
section
open PySem.W PySem.Calls PySem.HandSPX
variable {prog : Program} {w : World} {A : Around} {R : Result → Shared → Prop} {s : Shared} {K : Frag} {mg : Str → Option Value} {x : Str}
theorem ei_run (T : Xc K mg x) {y t0 : Addr} (X : K.In s.heap) (hlim : s.heap.NoLimit) (hy : s.heap.get? y = some (excO T.C t0)) (hroom : A.depth < recursionLimit)
    (go : ∀ h' tk dx tv, EiEnd s.heap h' y T.C dx t0 (.str x tv) → R (.ok (.ret .none)) { s with heap := h', toks := tk }) :
    codeAny (model prog w) A (.call (.ref T.fI) ⟨[.ref y], []⟩) R s := by
  obtain ⟨oc, od, doc, pm, an, cdv, ct, osl, qn, p, q1, q2, q3, q4, ho, hcd⟩ := T.fn
  obtain ⟨nm, q, N, bs, bm, sn, sub, ab, col, dd, k0, k1, k2, k3, k5, hC, hbm⟩ := T.cls
  have hcl : clsIn K T.C = some { name := nm, bases := bs, mro := .ref T.C :: bm, ns := N, qualname := q, hasDict := true, slotNames := sn, subclasses := sub, abstract := ab, collection := col, hasDel := false } := by unfold clsIn; rw [hC] <;> rfl
  refine Att.call_fn (binds := [("self", .ref y)]) X hlim ho hcd hroom (BindsTo.of_eq (by first | rfl | with_unfolding_all rfl)) (by first | rfl | decide | with_unfolding_all rfl) (fun s₁ IC => ?_) rfl rfl rfl
  obtain ⟨h₁, tk₁, rfl⟩ := IC.toInCall.same
  have k := IC.toInCall.keep
  have hn := IC.toInCall.ns
  have hx₁ := k _ _ hy
  have X₁ : K.In h₁ := X.keeps k
  show wpAny _ _ (execs _ _) _ _ _
  refine wpAny_execs_cons (plainObj_wpAny_Assign_Attribute (Calls.Constant_str ?_))
  refine wpAny_Name (wpAny_loadName_local (m := bindL (envOfC qn eiS s.heap.objs.size T.fI cdv).kindOf [("self", Value.ref y)] fun _ => none) (v := .ref y) rfl (by first | rfl | with_unfolding_all rfl) hn (by first | rfl | with_unfolding_all rfl | kernel_rfl) ?_) (by decide)
  refine set_plain X₁ (ox := excO T.C t0) (od := none) ⟨hx₁, rfl, rfl, trivial⟩ T.sa ?_
  refine exc_osa X₁ hx₁ hcl (show refsVE (.ref T.C :: bm) = true from hbm) rfl T.no (fun h₃ tk₃ dx k₃ dn dne hx₃ hn₃ => ?_)
  show wpAny _ _ (execs _ _) _ _ _
  have z : s.heap.objs.size < h₁.objs.size := hn.lt
  exact wpAny_execs_nil (go h₃ tk₃ dx _ ⟨fun b o hb e => k₃ b o hb (k b o e), hx₃, Nat.le_of_lt (Nat.lt_of_lt_of_le z dn), dne, hn₃⟩)
/-- a made one -/
structure EiMade (h h' : Heap) (e C d : Addr) (v : Value) : Prop where
  keep : ∀ b o, h.get? b = some o → h'.get? b = some o
  new : h.objs.size ≤ e
  obj : ∃ oe vs, h'.get? e = some oe ∧ oe.cls = .ref C ∧ oe.dict = some d ∧ oe.data = .fields vs ∧ vs[1]? = some .none ∧ vs[2]? = some .none
  far : h.objs.size ≤ d
  two : d ≠ e
  dct : h'.Ns1 d (fun z => if z = "named" then some v else none)
theorem ei_made (T : Xc K mg x) (X : K.In s.heap) (hlim : s.heap.NoLimit) (hroom : A.depth + 1 < recursionLimit)
    (go : ∀ h' tk e d tv, EiMade s.heap h' e T.C d (.str x tv) → R (.ok (.ret (.ref e))) { s with heap := h', toks := tk }) :
    codeAny (model prog w) A (.call (.ref T.C) ⟨[], []⟩) R s := by
  obtain ⟨nm, q, N, bs, bm, sn, sub, ab, col, dd, k0, k1, k2, k3, k5, hC, hbm⟩ := T.cls
  obtain ⟨hp, g, dr, tk, os⟩ := s
  have k : ∀ b o, hp.get? b = some o → ((hp.push (kdv_tup [])).push (excO T.C hp.objs.size)).get? b = some o := fun b o e => Heap.get?_push_of_some _ (Heap.get?_push_of_some _ e)
  have hget : ((hp.push (kdv_tup [])).push (excO T.C hp.objs.size)).get? (hp.objs.size + 1) = some (excO T.C hp.objs.size) := by heap_get
  refine call_own F.excBase_ValueError (fun Y => refsVE_contains Y bm hbm) (X _ _ hC) (looks_findIn X T.iC) (fun self => bind_fn X self T.tI) (Nat.zero_le _) ?_
  refine ei_run (s := ⟨(hp.push (kdv_tup [])).push (excO T.C hp.objs.size), g, dr, tk, os⟩) T (X.keeps k) (hlim.keeps k) hget ?_ fun h' tk' dx tv ⟨k', hx, dn, dne, hns⟩ => ?_
  · show A.depth + 1 < recursionLimit
    exact hroom
  · have old : ∀ b o, hp.get? b = some o → h'.get? b = some o := fun b o e => k' b o (Nat.ne_of_lt (Nat.lt_succ_of_lt (Heap.lt_size e))) (k b o e)
    have z : hp.objs.size + 1 + 1 ≤ dx := by
      have q := dn
      simp only [Heap.size_push] at q
      exact q
    exact ⟨rfl, go h' tk' (hp.objs.size + 1) dx tv ⟨old, Nat.le_succ _, ⟨_, _, hx, rfl, rfl, rfl, rfl, rfl⟩, Nat.le_trans (Nat.le_trans (Nat.le_succ _) (Nat.le_succ _)) z, dne, hns⟩⟩
end
/-- the dict of such an error -/
abbrev wordOf (x : Str) : List (Str × V) := [("named", .str x)]
theorem relO_word {x : Str} {tv : Tok} (f : Str) : RelO (List.lookup f (wordOf x)) (if f = "named" then some (.str x tv) else none) := by
  show RelO (List.lookup f [("named", V.str x)]) _
  by_cases h : f = "named"
  · rw [if_pos h, h]
    have e : List.lookup ("named" : Str) [(("named" : Str), V.str x)] = some (V.str x) := by simp [List.lookup]
    rw [e]
    exact ⟨_, rfl⟩
  · rw [if_neg h]
    have e : (f == ("named" : Str)) = false := by simpa using h
    have e2 : List.lookup f [(("named" : Str), V.str x)] = none := by simp [List.lookup, e]
    rw [e2]
    trivial
section
variable {X : Cx} {x : Str} {pins : List (Addr × Obj)} {σ : L2.St} {H : Hp} {s : Shared}
/-- the heap behind C(): the dict is tracked, the error itself not -/
theorem ei_land {A : Around} {R : Result → Shared → Prop} (T : Xc X.K X.mg x) {k : Nat} (hr : Room k X.A) (I : L2.Inv X pins σ H s)
    (go : ∀ h' tk' e d oe vs (G : Heap), H d = none → H e = none → d ≠ e → h'.get? e = some oe → Zc (.ref T.C) (some d) oe → oe.data = .fields vs → vs[1]? = some .none → vs[2]? = some .none → (∀ b o, G.get? b = some o → h'.get? b = some o) → G.get? e = none →
      (∀ b, b ≠ e → G.get? b = h'.get? b) → L2.Inv X pins σ (upd H d (.xd (wordOf x))) { s with heap := G, toks := tk' } → R (.ok (.ret (.ref e))) { s with heap := h', toks := tk' }) :
    codeAny (model X.prog X.w) X.A (.call (.ref T.C) ⟨[], []⟩) R s := by
  have hlim := I.nolimit
  refine ei_made T I.kIn hlim (by have := hr.dp; omega) fun h' tk' e d tv M => ?_
  obtain ⟨oe, fv, hoe, hc, hd, hdat, h1, h2⟩ := M.obj
  have hns := M.dct
  obtain ⟨G, g1, g2⟩ := restrict h' fun b => decide (b ≠ e)
  have gk : ∀ b, b ≠ e → G.get? b = h'.get? b := fun b hb => g1 b (decide_eq_true hb)
  have ge : G.get? e = none := g2 e (by simp)
  have old : ∀ b o, s.heap.get? b = some o → G.get? b = some o := fun b o q => (gk b (Nat.ne_of_lt (Nat.lt_of_lt_of_le (Heap.lt_size q) M.new))).trans (M.keep b o q)
  have ob : ObjOk X.prog X.w (upd H d (.xd (wordOf x))) G d (.xd (wordOf x)) := ⟨_, hns.at (fun o q => (gk d M.two).trans q), fun f => relO_word f⟩
  refine go h' tk' e d oe fv G (I.hok.fresh M.far) (I.hok.fresh M.new) M.two hoe ⟨hc, hd⟩ hdat h1 h2 (fun b o q => ?_) ge gk (I.laid (t' := tk') old M.far ob)
  by_cases hb : b = e
  · rw [hb, ge] at q; cases q
  · exact (gk b hb).symm.trans q
/-- C() -/
theorem pmk_none {p pos : Pos} {k : Nat} (T : Xc X.K X.mg x) (hr : Room k X.A) (gl : Gl X x) (nd : (x == ("__debug__" : Str)) = false := by decide) :
    PMk X (.Call (.Name x p) [] [] pos) (fun _ H Q => ∀ d, H d = none → Q (.ref T.C) (some d) (upd H d (.xd (wordOf x)))) := by
  intro pins s σ H Q I want
  refine wpAny_Call_Name_kw (ld_glob I gl T.g ?_ nd)
  refine PySem.W.callWith_K0 I.kIn T.kp ?_
  refine wpAny_call (ei_land (A := X.A) T hr I fun h' tk' e d oe vs G nd ne dne hoe hz hdat h1 _ gs ge gk J => ?_)
  refine ⟨e, oe, vs, _, _, .ref T.C, some d, rfl, J, gs, ge, hoe, hz, hdat, h1, ?_, rfl, I.bare, raises_own T.sb T.ty, want d nd⟩
  rw [upd_ne (Ne.symm dne)]
  exact ne
end
/-- such a dict stands there, where the error has one -/
def DOk (H : Hp) : Option Addr → Prop
  | none => True
  | some d => ∃ fs, H d = some (.xd fs)
theorem Same.dok {H H' : Hp} {d : Option Addr} (e : Same H H') (h : DOk H d) : DOk H' d := by
  cases d with
  | none => trivial
  | some d => obtain ⟨fs, h⟩ := h; exact ⟨fs, e _ _ h⟩
theorem dok_upd {H : Hp} {d : Addr} {fs : List (Str × V)} : DOk (upd H d (.xd fs)) (some d) := ⟨fs, upd_same⟩
theorem inst_at {X : Cx} {pins : List (Addr × Obj)} {σ : L2.St} {H : Hp} {s : Shared} {a D : Addr} {d : Option Addr} {oe : Obj} {vs : Array Value} (I : L2.Inv X pins σ H s) (got : s.heap.get? a = some oe) (z : Zc (.ref D) d oe) (fl : oe.data = .fields vs) (h : DOk H d) : ∃ od, PySem.W.InstAt s.heap a oe D od := by
  cases d with
  | none => exact ⟨none, got, z.1, by unfold PySem.W.notCls; rw [fl] <;> rfl, by rw [z.2]; trivial⟩
  | some d =>
    obtain ⟨fs, h⟩ := h
    obtain ⟨mA, hns, _⟩ := (show ObjOk X.prog X.w H s.heap d (.xd fs) from I.hok d _ h)
    obtain ⟨od, ho, _⟩ := lookIn_ns hns
    exact ⟨some od, got, z.1, by unfold PySem.W.notCls; rw [fl] <;> rfl, by rw [z.2]; exact ho⟩
theorem kit_of {K : PySem.W.Frag} {a D : Addr} {oe : Obj} {od : Option Obj} (ec : ExcC K D) : PySem.W.KitX K (.ref a) (.ref D) (fun h => PySem.W.InstAt h a oe D od) :=
  PySem.W.kitx_exc (by obtain ⟨cd, hc, _⟩ := PySem.W.any_some ec.hd; rw [hc]; rfl) ec.hg ec.hk ec.hs ec.ha ec.hn ec.ht ec.hm
section
variable {X : Cx} {a : Addr} {oe : Obj} {pn : List (Addr × Obj)} {cls : Value} {d : Option Addr}
/-- isinstance(e, c), e the error of the suite -/
def rIsX (K : PySem.W.Frag) (a : Addr) (cls : Value) (d : Option Addr) : List V → Hp → VK → Prop := fun xs H Q => ∃ (D : Addr) (c : V) (cv : Value) (b : Bool), cls = .ref D ∧ DOk H d ∧ ExcC K D ∧ xs = [.ref a, c] ∧ ClsV c cv ∧ PySem.W.kitOne K (.ref D) cv = some b ∧ Q (.bl b) H
/-- isinstance(e, (c, ..)) -/
def rIsXT (K : PySem.W.Frag) (a : Addr) (cls : Value) (d : Option Addr) : List V → Hp → VK → Prop := fun xs H Q => ∃ (D tp : Addr) (cs : List V) (us : List Value) (b : Bool), cls = .ref D ∧ DOk H d ∧ ExcC K D ∧ xs = [.ref a, .ref tp] ∧ H tp = some (.tup cs) ∧ Paired ClsV cs us ∧ PySem.W.kitAny K (.ref D) us = some b ∧ Q (.bl b) H
end
theorem kitCls_own {K : PySem.W.Frag} {D : Value} {C : Addr} {b : Bool} (i : PySem.W.isClsIn K C = true) (t : PySem.W.typeIn K (.ref C) = some (.type "type")) (h : PySem.W.subIn K D (.ref C) = some b) : PySem.W.kitCls K D (.ref C) = some b := by
  have e : ((PySem.W.clsIn K C).isSome && PySem.W.typeIn K (.ref C) == some (.type "type")) = true := by
    have i' : (PySem.W.clsIn K C).isSome = true := i
    rw [i', t]
    rfl
  show (if ((PySem.W.clsIn K C).isSome && PySem.W.typeIn K (.ref C) == some (.type "type")) = true then PySem.W.subIn K D (.ref C) else none) = some b
  rw [if_pos e]
  exact h
theorem kit_own {K : PySem.W.Frag} {D C : Addr} {b : Bool} (i : PySem.W.isClsIn K C = true) (t : PySem.W.typeIn K (.ref C) = some (.type "type")) (me : PySem.W.subIn K (.ref D) (.ref D) = some true) (h : PySem.W.subIn K (.ref D) (.ref C) = some b) : PySem.W.kitOne K (.ref D) (.ref C) = some b := by
  unfold PySem.W.kitOne
  by_cases e : (Value.ref D == Value.ref C) = true
  · rw [if_pos e]
    have e2 : Value.ref D = Value.ref C := eq_of_beq e
    cases e2
    rw [me] at h
    exact h
  · rw [if_neg e]
    exact kitCls_own i t h
theorem kit_val {K : PySem.W.Frag} {D : Addr} {n : String} {b : Bool} (m : PySem.W.kitMeta n = true) (h : PySem.W.subIn K (.ref D) (.type n) = some b) : PySem.W.kitOne K (.ref D) (.type n) = some b := by
  have e : ¬ (Value.ref D == Value.type n) = true := by intro z; cases eq_of_beq z
  unfold PySem.W.kitOne
  rw [if_neg e]
  show (if PySem.W.kitMeta n = true then PySem.W.subIn K (.ref D) (.type n) else none) = some b
  rw [if_pos m]
  exact h
theorem kn_nil {K : PySem.W.Frag} {t : Value} : PySem.W.kitAny K t [] = some false := rfl
theorem kn_cons {K : PySem.W.Frag} {t c : Value} {cs : List Value} (h : PySem.W.kitOne K t c = some false) (k : PySem.W.kitAny K t cs = some false) : PySem.W.kitAny K t (c :: cs) = some false := kitAny_cons h (fun _ => k) (fun z => nomatch z)
theorem exm_own {K : PySem.W.Frag} {D C : Addr} {b : Bool} (s : PySem.W.subIn K (.ref C) (.type "BaseException") = some true) (i : PySem.W.isClsIn K C = true) (t : PySem.W.typeIn K (.ref C) = some (.type "type")) (h : PySem.W.subIn K (.ref D) (.ref C) = some b) : PySem.W.exmOne K (.ref D) (.ref C) = some b := by
  have e : (PySem.W.subIn K (.ref C) (.type "BaseException") == some true) = true := by rw [s]; rfl
  unfold PySem.W.exmOne
  rw [if_pos e]
  exact kitCls_own i t h
end B
namespace B
open PySem PySem.Spec PyProof.Rows L2
section
variable {X : Cx} {pins : List (Addr × Obj)} {σ : L2.St} {H : Hp} {s : Shared}
end
section
variable {X : Cx} {n : Str} {i : Nat} {body : List Stmt} {h0 : ExceptHandler} {hds : List ExceptHandler} {l : List (Value × (Addr → Value → TS))} {pos : Pos} {tb : WX → TS}
end
end B
namespace B
open PySem PySem.Spec PyProof.Rows L2
inductive Kd where
  | l
  | t
  | s
/-- the items of v, by its kind -/
def Src (K : PySem.W.Frag) (H : Hp) : Kd → V → List V → Prop
  | .l, v, xs => ∃ a, v = .ref a ∧ SqL K H a xs
  | .t, v, xs => ∃ a, v = .ref a ∧ SqT K H a xs
  | .s, v, xs => ∃ x : Str, v = .str x ∧ xs = x.cps.toList.map fun c => V.str ⟨#[c]⟩
/-- its iterator, at it, ahead of item i -/
def ItSt : Kd → Value → Addr → Nat → Heap → Prop
  | .l, .ref a, it, i, h => h.IsListIter it a i
  | .t, .ref a, it, i, h => h.IsTupleIter it a i
  | .s, .str x t, it, i, h => h.IsStrIter it (strIterType x) x t i
  | _, _, _, _, _ => False
theorem ItSt.keep {k : Kd} {u : Value} {it : Addr} {i : Nat} {h h' : Heap} (st : ItSt k u it i h) (e : ∀ o, h.get? it = some o → h'.get? it = some o) : ItSt k u it i h' := by
  cases k <;> cases u <;> first | exact st.elim | (exact Heap.IsListIter.at st e) | (exact Heap.IsTupleIter.at st e) | (obtain ⟨o, a, b⟩ := st; exact ⟨o, e o a, b⟩)
theorem ItSt.obj {k : Kd} {u : Value} {it : Addr} {i : Nat} {h : Heap} (st : ItSt k u it i h) : ∃ o, h.get? it = some o ∧ ∀ v, o.data ≠ .cell v := by
  cases k <;> cases u <;> first | exact st.elim | (obtain ⟨o, e, c, d⟩ := st; exact ⟨o, e, fun v z => by rw [d] at z; cases z⟩)
section
variable {X : Cx} {pins : List (Addr × Obj)} {σ : L2.St} {H : Hp} {s : Shared}
theorem Src.inj {k : Kd} {v : V} {xs ys : List V} (I : Inv X pins σ H s) (h : Src X.K H k v xs) (h' : Src X.K H k v ys) : xs = ys := by
  cases k with
  | l =>
    obtain ⟨a, rfl, p⟩ := h
    obtain ⟨b, e, p'⟩ := h'
    cases e
    exact I.list_inj p p'
  | t =>
    obtain ⟨a, rfl, p⟩ := h
    obtain ⟨b, e, p'⟩ := h'
    cases e
    exact I.tuple_inj p p'
  | s =>
    obtain ⟨a, rfl, p⟩ := h
    obtain ⟨b, e, p'⟩ := h'
    cases e
    rw [p, p']
/-- what its iterator draws -/
theorem Src.draws {k : Kd} {v : V} {u : Value} {xs : List V} {A : Around} {it : Addr} (I : Inv X pins σ H s) (h : Src X.K H k v xs) (r : RelV v u) (hh : A.handled = none) (ne : ∀ a, u = .ref a → a < it) :
    ∃ (fp : List Addr) (P : Nat → Value → Prop) (St : Nat → Heap → Prop), Draws X.prog X.w A it (it :: fp) xs.length P St ∧ (∀ i x, P i x → ∃ y, xs[i]? = some y ∧ RelV y x) ∧ (∀ i, ItSt k u it i s.heap → St i s.heap) ∧ (∀ i h, St i h → ItSt k u it i h) ∧ (∀ b ∈ fp, u = .ref b) := by
  cases k with
  | l =>
    obtain ⟨a, rfl, p⟩ := h
    cases r
    obtain ⟨its, rv, ht, hz⟩ := I.list p
    have hl := rv.length
    have D := Draws.list (prog := X.prog) (w := X.w) hh it a (Nat.ne_of_lt (ne a rfl)) its.toArray
    rw [List.size_toArray, ← hl] at D
    refine ⟨[a], _, _, D, fun i x hx => ?_, fun i st => ⟨st, ht.isList⟩, fun i h st => st.1, fun b hb => by rw [List.mem_singleton] at hb; rw [hb]⟩
    have hx : its[i]? = some x := by simpa using hx
    have hi : i < xs.length := by rw [hl]; exact (List.getElem?_eq_some_iff.mp hx).1
    obtain ⟨u', hu, ru⟩ := rv.get (List.getElem?_eq_getElem hi)
    rw [hx] at hu
    cases hu
    exact ⟨_, List.getElem?_eq_getElem hi, ru⟩
  | t =>
    obtain ⟨a, rfl, p⟩ := h
    cases r
    obtain ⟨its, rv, ht, hz⟩ := I.tuple p
    have hl := rv.length
    have D := Draws.tuple (prog := X.prog) (w := X.w) hh it a (Nat.ne_of_lt (ne a rfl)) its.toArray
    rw [List.size_toArray, ← hl] at D
    refine ⟨[a], _, _, D, fun i x hx => ?_, fun i st => ⟨st, ht⟩, fun i h st => st.1, fun b hb => by rw [List.mem_singleton] at hb; rw [hb]⟩
    have hx : its[i]? = some x := by simpa using hx
    have hi : i < xs.length := by rw [hl]; exact (List.getElem?_eq_some_iff.mp hx).1
    obtain ⟨u', hu, ru⟩ := rv.get (List.getElem?_eq_getElem hi)
    rw [hx] at hu
    cases hu
    exact ⟨_, List.getElem?_eq_getElem hi, ru⟩
  | s =>
    obtain ⟨x, rfl, p⟩ := h
    obtain ⟨t, rfl⟩ := r
    have D := Draws.text (prog := X.prog) (w := X.w) hh it x t
    have hl : xs.length = x.cps.size := by rw [p, List.length_map, Array.length_toList]
    rw [← hl] at D
    refine ⟨[], _, _, D, fun i v hv => ?_, fun i st => st, fun i h st => st, fun b hb => nomatch hb⟩
    obtain ⟨c, w, hc, rfl⟩ := hv
    refine ⟨.str ⟨#[c]⟩, ?_, ⟨w, rfl⟩⟩
    rw [p, List.getElem?_map, Array.getElem?_toList, hc]
    rfl
/-- how it begins -/
theorem Src.begins {k : Kd} {v : V} {u : Value} {xs : List V} (I : Inv X pins σ H s) (h : Src X.K H k v xs) (r : RelV v u) :
    ∃ (o : Obj) (G : Heap → Prop), Begins u o G ∧ G s.heap ∧ (∀ (h' : Heap) (it : Addr), h'.get? it = some o → ItSt k u it 0 h') ∧ ∀ a, u = .ref a → a < s.heap.objs.size := by
  cases k with
  | l =>
    obtain ⟨a, rfl, p⟩ := h
    cases r
    obtain ⟨its, rv, ht, hz⟩ := I.list p
    exact ⟨_, _, begins_list a its.toArray, ht.isList, fun h' it e => ⟨_, e, rfl, rfl⟩, fun b e => by cases e; exact ht.lt⟩
  | t =>
    obtain ⟨a, rfl, p⟩ := h
    cases r
    obtain ⟨its, rv, ht, hz⟩ := I.tuple p
    exact ⟨_, _, begins_tuple a its.toArray, ht, fun h' it e => ⟨_, e, rfl, rfl⟩, fun b e => by cases e; obtain ⟨o, ho, _⟩ := ht; exact Heap.lt_size ho⟩
  | s =>
    obtain ⟨x, rfl, p⟩ := h
    obtain ⟨t, rfl⟩ := r
    exact ⟨_, _, begins_text x t, trivial, fun h' it e => ⟨_, e, rfl, rfl⟩, fun b e => by cases e⟩
end
/-- the two as they stand at each turn, the items in new pairs -/
def ItG (K : PySem.W.Frag) (k1 k2 : Kd) (v1 v2 : V) : It :=
  ⟨fun i H => ∃ (xs ys : List V) (x y : V), Src K H k1 v1 xs ∧ Src K H k2 v2 ys ∧ xs[i]? = some x ∧ ys[i]? = some y,
    fun i H v H' => ∃ T x y, v = .ref T ∧ H T = none ∧ H' = upd H T (.tup [x, y]) ∧ (∀ xs, Src K H k1 v1 xs → xs[i]? = some x) ∧ ∀ ys, Src K H k2 v2 ys → ys[i]? = some y,
    fun i H => ∃ xs ys : List V, Src K H k1 v1 xs ∧ Src K H k2 v2 ys ∧ i = min xs.length ys.length⟩
theorem turn_zipG {P : Program} {w : World} {K : PySem.W.Frag} {elts : List Expr} {kk : Nat} {tpos : Pos} {k1 k2 : Kd} {v1 v2 : V} {u1 u2 : Value} {N : Nat} (r1 : RelV v1 u1) (r2 : RelV v2 u2) (l1 : ∀ a, u1 = .ref a → a < N) (l2 : ∀ a, u2 = .ref a → a < N) :
    Turn P w K (.Tuple elts kk tpos) (ItG K k1 k2 v1 v2) [N + 4, N + 2, N + 3, N, N + 1] (N + 4) (fun i h => IsZip h (N + 4) (N + 2) (N + 3) .none ∧ IsTupOf2 h (N + 2) (.ref N) (.ref (N + 1)) ∧ (∃ a1 a2, IsTupOf2 h (N + 3) a1 a2) ∧ ItSt k1 u1 N i h ∧ ItSt k2 u2 (N + 1) i h) where
  mem := by simp
  obj := fun i h st c hc => by
    obtain ⟨hz, hTI, ⟨x, y, hTO⟩, s1, s2⟩ := st
    have e' : c = N + 4 ∨ c = N + 2 ∨ c = N + 3 ∨ c = N ∨ c = N + 1 := by simpa using hc
    rcases e' with q | q | q | q | q
    · rw [q]; exact ⟨_, hz, fun v q => nomatch q⟩
    · rw [q]; exact ⟨_, hTI, fun v q => nomatch q⟩
    · rw [q]; exact ⟨_, hTO, fun v q => nomatch q⟩
    · rw [q]; exact s1.obj
    · rw [q]; exact s2.obj
  keep := fun i h h' st k => by
    obtain ⟨hz, hTI, ⟨x, y, hTO⟩, s1, s2⟩ := st
    exact ⟨k (N + 4) (by simp) _ hz, k (N + 2) (by simp) _ hTI, ⟨x, y, k (N + 3) (by simp) _ hTO⟩, s1.keep fun o q => k N (by simp) o q, s2.keep fun o q => k (N + 1) (by simp) o q⟩
  item := by
    intro X hP hw hK hc i pins s σ H E I hf st hg
    subst hP hw hK
    obtain ⟨hz, hTI, hTO, s1, s2⟩ := st
    obtain ⟨xs, ys, x, y, hqx, hqy, hx, hy⟩ := hg
    have hh : X.A.in1.handled = none := I.ok.hd hc
    obtain ⟨fp1, P1, St1, D1, c1, a1, b1, m1⟩ := Src.draws (it := N) I hqx r1 hh l1
    obtain ⟨fp2, P2, St2, D2, c2, a2, b2, m2⟩ := Src.draws (it := N + 1) I hqy r2 hh fun a e => Nat.lt_succ_of_lt (l2 a e)
    have S := zip_sep2 (N := N) (fp1 := fp1) (fp2 := fp2) (fun b hb => l1 b (m1 b hb)) (fun b hb => l2 b (m2 b hb))
    have W := GoesN.zip2 (elts := elts) (x1 := kk) (pos := tpos) S D1 D2
    have hi1 := (List.getElem?_eq_some_iff.mp hx).1
    have hi2 := (List.getElem?_eq_some_iff.mp hy).1
    refine W.goes i s (fun u s2 => ∃ x H', Inv X pins σ H' s2 ∧ RelV x u ∧ (ItG X.K k1 k2 v1 v2).yld i H x H' ∧ _ ∧ ∀ b ∈ [N + 4, N + 2, N + 3, N, N + 1], H' b = none) E (by omega) ⟨hz, hTI, hTO, a1 i s1, a2 i s2⟩ ?_
    rintro v h' tk ⟨T, p, r, rfl, hT, hp, hr, ht⟩ st' hk htk
    obtain ⟨x', hx', rx⟩ := c1 i p hp
    obtain ⟨y', hy', ry⟩ := c2 i r hr
    have new : ObjOk X.prog X.w (upd H T (.tup [x', y'])) h' T (.tup [x', y']) := ⟨by show 2 ≤ sizeLine; decide, [p, r], .cons rx (.cons ry .nil), ht⟩
    have I1 : Inv X pins σ (upd H T (.tup [x', y'])) { s with heap := h', toks := tk } := I.turnedNew (ch := [N + 4, N + 2, N + 3, N, N + 1]) (fun c o hb q => hk c o (fun z => hb (by
      have z : c = N + 4 ∨ c = N + 3 ∨ c = N ∨ c = N + 1 := by simpa using z
      rcases z with z | z | z | z <;> rw [z] <;> simp)) q) hf hT new
    have hTn := I.hok.fresh hT
    refine ⟨.ref T, _, I1, rfl, ⟨T, x', y', rfl, hTn, rfl, fun zs hz' => by rw [Src.inj I hz' hqx]; exact hx', fun zs hz' => by rw [Src.inj I hz' hqy]; exact hy'⟩, ⟨st'.1, st'.2.1, st'.2.2.1, b1 _ _ st'.2.2.2.1, b2 _ _ st'.2.2.2.2⟩, fun c hc' => ?_⟩
    have hlt : c < s.heap.objs.size := by
      have e' : c = N + 4 ∨ c = N + 2 ∨ c = N + 3 ∨ c = N ∨ c = N + 1 := by simpa using hc'
      rcases e' with q | q | q | q | q
      · rw [q]; exact Heap.lt_size hz
      · rw [q]; exact Heap.lt_size hTI
      · rw [q]; obtain ⟨_, _, z⟩ := hTO; exact Heap.lt_size z
      · rw [q]; obtain ⟨_, z, _⟩ := s1.obj; exact Heap.lt_size z
      · rw [q]; obtain ⟨_, z, _⟩ := s2.obj; exact Heap.lt_size z
    rw [upd_ne (Nat.ne_of_lt (Nat.lt_of_lt_of_le hlt hT))]
    exact (hf c hc').1
  done := by
    intro X hP hw hK hc i pins s σ H E I hf st hg
    subst hP hw hK
    obtain ⟨hz, hTI, hTO, s1, s2⟩ := st
    obtain ⟨xs, ys, hqx, hqy, hend⟩ := hg
    have hh : X.A.in1.handled = none := I.ok.hd hc
    obtain ⟨fp1, P1, St1, D1, c1, a1, b1, m1⟩ := Src.draws (it := N) I hqx r1 hh l1
    obtain ⟨fp2, P2, St2, D2, c2, a2, b2, m2⟩ := Src.draws (it := N + 1) I hqy r2 hh fun a e => Nat.lt_succ_of_lt (l2 a e)
    have S := zip_sep2 (N := N) (fp1 := fp1) (fp2 := fp2) (fun b hb => l1 b (m1 b hb)) (fun b hb => l2 b (m2 b hb))
    have W := GoesN.zip2 (elts := elts) (x1 := kk) (pos := tpos) S D1 D2
    subst hend
    refine W.stops s (fun s1 => Inv X pins σ H s1) E ⟨hz, hTI, hTO, a1 _ s1, a2 _ s2⟩ fun h' tk hk htk => ?_
    exact I.turnedL (ch := [N + 4, N + 2, N + 3, N, N + 1]) (fun c o hb q => hk c o (fun z => hb (by
      have z : c = N + 4 ∨ c = N + 3 ∨ c = N ∨ c = N + 1 := by simpa using z
      rcases z with z | z | z | z <;> rw [z] <;> simp)) q) hf
  self := fun A i s Q E st h => wpAny_pyIter_zip st.1 h
def iZipG (K : PySem.W.Frag) (ta : TA) : TI := fun σ H R => ta σ H fun vs H1 => ∃ k1 k2 v1 v2 xs ys, vs = [v1, v2] ∧ Src K H1 k1 v1 xs ∧ Src K H1 k2 v2 ys ∧ R (ItG K k1 k2 v1 v2) H1
theorem pi_zipG {X : Cx} {e e2 : Expr} {ta : TA} {p pos tpos : Pos} {elts : List Expr} {kk : Nat} (hg : Gl X "zip") (hm : X.mg "zip" = none) (ha : PA X [e, e2] ta)
    (hs : starEach [e, e2] X.env = (false, eval e X.env) :: starEach [e2] X.env := by rfl) (hpl : (backTo pos (starEach [e2] X.env)).any (·.1) = false := by rfl) :
    PI X (.Tuple elts kk tpos) (.Call (.Name "zip" p) [e, e2] [] pos) (iZipG X.K ta) := by
  refine ⟨fun pins s σ H R I h => ?_⟩
  refine Call_ (ld_blt I hg hm PyProof.Rows.boot_zip (PyProof.Rows.callWith_type1 (thn (ha.run pos pins s σ H _ I h) fun us s1 ⟨vs, H1, I1, r1, q1⟩ => ?_) hs hpl))
  obtain ⟨k1, k2, v1, v2, xs, ys, ex, hqx, hqy, q⟩ := q1
  subst ex
  cases r1 with
  | cons r rr =>
    rename_i u1 us1
    cases rr with
    | cons r' rr =>
      rename_i u2 us2
      cases rr
      have fresh5 : ∀ c, c ∈ [s1.heap.objs.size + 4, s1.heap.objs.size + 2, s1.heap.objs.size + 3, s1.heap.objs.size, s1.heap.objs.size + 1] → FpOk X pins H1 c := fun c hcm => by
        have e' : c = s1.heap.objs.size + 4 ∨ c = s1.heap.objs.size + 2 ∨ c = s1.heap.objs.size + 3 ∨ c = s1.heap.objs.size ∨ c = s1.heap.objs.size + 1 := by simpa using hcm
        have hle : s1.heap.objs.size ≤ c := by
          rcases e' with z | z | z | z | z
          · rw [z]; exact Nat.le_add_right _ _
          · rw [z]; exact Nat.le_add_right _ _
          · rw [z]; exact Nat.le_add_right _ _
          · rw [z]; exact Nat.le_refl _
          · rw [z]; exact Nat.le_add_right _ _
        exact I1.fpOk hle (I1.hok.fresh hle)
      obtain ⟨o1, G1, B1, g1, b1, l1⟩ := Src.begins I1 hqx r
      obtain ⟨o2, G2, B2, g2, b2, l2⟩ := Src.begins I1 hqy r'
      refine zip_begins2 B1 B2 g1 g2 fun h' hz hTI hTO h1 h2 hsz hk => wpAny_pyIter_zip hz ?_
      have I2 : Inv X pins σ H1 { s1 with heap := h' } := I1.kept (t' := s1.toks) hk
      exact ⟨s1.heap.objs.size + 4, _, _, _, H1, rfl, I2, turn_zipG r r' l1 l2, ⟨hz, hTI, ⟨_, _, hTO⟩, b1 h' _ h1, b2 h' _ h2⟩, fresh5, q⟩
theorem walk_zipG {K : PySem.W.Frag} {k1 k2 : Kd} {v1 v2 : V} {xs ys : List V} : Walk (ItG K k1 k2 v1 v2) (min xs.length ys.length) (fun H => Src K H k1 v1 xs ∧ Src K H k2 v2 ys) (YPair (fun i => xs[i]?) (fun i => ys[i]?)) :=
  ⟨fun i H hi q => ⟨xs, ys, xs[i]'(by omega), ys[i]'(by omega), q.1, q.2, List.getElem?_eq_getElem _, List.getElem?_eq_getElem _⟩, fun H q => ⟨xs, ys, q.1, q.2, rfl⟩,
    fun i H v H' hi q y => by
      obtain ⟨T, x, y', e, n, e2, h1, h2⟩ := y
      exact ⟨T, x, y', e, n, e2, h1 xs q.1, h2 ys q.2⟩⟩
end B
namespace B
open PySem PySem.Spec PyProof.Rows L2
end B
namespace B
open PySem PySem.Spec PyProof.Rows L2
/-- like a def's promise, but asked only where no showing is under way -/
structure FnG (P : Program) (w : World) (K : PySem.W.Frag) (mg : Str → Option Value) (base : Heap) (k : Nat) (f : Addr) (fd : FuncData) (ps : List Str) (sp : Sp) : Prop where
  arity : ∀ vs H Q E, sp vs H Q E → vs.length = ps.length
  go : ∀ (A : Around) (out : List Env) (s : Shared) (H : Hp) (ar : Args) (us : List Value) (vs : List V) (Q : VK) (E : XK), Room k A ∧ A.guards = some [] → Env0 P w K mg base A out s H →
    BindsTo s fd ar (ps.zip us) → Vals vs us → sp vs H Q E → codeAny (model P w) A (.call (.ref f) ar) (CR CX0 out P w H s Q E) s
section
variable {P : Program} {w : World} {K : PySem.W.Frag} {mg : Str → Option Value} {base : Heap}
end
section
variable {X : Cx}
end
end B
namespace B
open PySem PySem.Spec PyProof.Rows L2
/-- a heap in which at most the script is tracked -/
theorem script_heap {P : Program} {w : World} {K : PySem.W.Frag} {h : Heap} {a : Addr} {vs : List Value} {ns : List Int} (inK : K.In h) (ha : h.get? a = some { cls := .type "list", data := .seq vs.toArray }) (hi : IntsAre vs ns)
    (hl : ns.length ≤ sizeLine) : ∃ H : Hp, Only H ∧ SqL K H a (ns.map V.int) ∧ HOk P w H h ∧ ∀ b, H b = none ∨ (b = a ∧ K.lookup a = none) := by
  have rel := vals_ints hi
  have ln := hi.length
  rcases Option.eq_none_or_eq_some (K.lookup a) with no | ⟨o, yes⟩
  · let ob : Obj := { cls := .type "list", data := .seq vs.toArray }
    let H : Hp := fun b => if b = a then some (.frz ob (.lst (ns.map V.int))) else none
    have on : H a = some (.frz ob (.lst (ns.map V.int))) := if_pos rfl
    have off : ∀ b, b ≠ a → H b = none := fun b n => if_neg n
    refine ⟨H, fun b => ?_, .inl (.inr ⟨ob, on⟩), fun b u z => ?_, fun b => ?_⟩
    · rcases Nat.decEq b a with n | y
      · exact .inl (off b n)
      · subst y; exact .inr ⟨_, _, on⟩
    · rcases Nat.decEq b a with n | y
      · rw [off b n] at z; cases z
      · subst y
        rw [on] at z
        cases z
        exact ⟨ha, by rw [List.length_map]; exact hl, vs, _, rel, ha⟩
    · rcases Nat.decEq b a with n | y
      · exact .inl (off b n)
      · exact .inr ⟨y, no⟩
  · have same := inK a o yes
    rw [ha] at same
    cases same
    exact ⟨fun _ => none, fun _ => .inl rfl, .inr ⟨_, vs.toArray, _, yes, rfl, rfl, rfl, by simpa [ln] using hl, by simpa using rel⟩, fun _ _ z => (nomatch z), fun _ => .inl rfl⟩
theorem head_call {P : Program} {w : World} {K : PySem.W.Frag} {mg mb : Str → Option Value} {k : Nat} {fa a : Addr} {fd : FuncData} {x : Str} {sp : Sp} {s : Shared} {vs : List Value} {ns : List Int} (inK : K.In s.heap) (top : s.heap.Ns mainGlobals mg)
    (bu : s.heap.Ns builtinsNs mb) (boot : ∀ x : Str, x ≠ "__name__" → mb x = bootBuiltins x) (lim : s.heap.NoLimit) (noG : s.gens = #[]) (ha : s.heap.get? a = some { cls := .type "list", data := .seq vs.toArray }) (hi : IntsAre vs ns) (hl : ns.length ≤ sizeLine)
    (room : Room k callerA) (seen : s.heap.NoSeer) (F : ∀ base : Heap, K.In base → base.Ns mainGlobals mg → base.NoSeer → FnG P w K mg base k fa fd [x] sp) (bind : ∀ (s : Shared) (u : Value), BindsTo s fd ⟨[u], []⟩ [(x, u)])
    (want : ∀ H : Hp, Only H → SqL K H a (ns.map V.int) → sp [.ref a] H (fun v _ => v = .bl true) E0) :
    codeAny (model P w) callerA (.call (.ref fa) ⟨[.ref a], []⟩) (fun r s' => r = .ok (.ret (.bool true)) ∧ OldK s.heap s'.heap ∧ s'.os = s.os ∧ AllBare s'.gens) s := by
  obtain ⟨H, only, script, hok, free⟩ := script_heap (P := P) (w := w) inK ha hi hl
  have old : ∀ {b : Addr} {o : Obj}, s.heap.get? b = some o → H b = none → (hidT s.heap H).get? b = some o := fun e n => hidT_get e n
  have ns' : ∀ {b : Addr} {m : Str → Option Value}, s.heap.Ns b m → (hidT s.heap H).Ns b m := by
    rintro b m ⟨o, es, ep, e, d, r⟩
    refine ⟨o, es, ep, old e ?_, d, r⟩
    rcases free b with n | ⟨rfl, _⟩
    · exact n
    · rw [ha] at e
      cases e
      cases d
  have inB : K.In (hidT s.heap H) := by
    intro b o e
    refine old (inK b o e) ?_
    rcases free b with n | ⟨rfl, n⟩
    · exact n
    · rw [n] at e
      cases e
  obtain ⟨mc, l1, l2⟩ := lim
  have seen' : (hidT s.heap H).NoSeer := by
    obtain ⟨⟨c, c1, c2⟩, ⟨m, m1, m2⟩, ⟨i, i1, i2⟩, ⟨g, bm, ob, g1, g2, g3, g4, g5⟩⟩ := seen
    refine ⟨⟨c, ns' c1, c2⟩, ⟨m, ns' m1, m2⟩, ⟨i, ns' i1, i2⟩, ⟨g, bm, ob, ns' g1, g2, old g3 ?_, g4, g5⟩⟩
    rcases free bm with n | ⟨rfl, _⟩
    · exact n
    · rw [ha] at g3
      cases g3
      exact absurd g4 fun z => by
        injection z with z
        exact absurd z (by decide)
  have env : Env0 P w K mg (hidT s.heap H) callerA [] s H :=
    ⟨rfl, ⟨inB, ns' top, ⟨mb, ns' bu, boot⟩, ⟨mc, ns' l1, l2⟩⟩, fun _ _ e => of_hidT e, Nat.le_of_eq (hidT_size _ _), trivial, fun _ h => (nomatch h), hok, .of_eq noG⟩
  refine codeAny_mono ((F _ inB (ns' top) seen').go callerA [] s H _ [.ref a] [.ref a] _ _ ⟨room, rfl⟩ env (bind s (.ref a)) (.cons rfl .nil) (want H only script)) ?_
  intro r s2 h2
  match r, h2 with
  | .error _, h2 => exact h2.elim
  | .ok .next, h2 => exact h2.elim
  | .ok .brk, h2 => exact h2.elim
  | .ok .cont, h2 => exact h2.elim
  | .ok (.ret u), h2 =>
    obtain ⟨v, H2, os, bare, un, hok2, rv, q⟩ := h2
    cases (show v = .bl true from q)
    cases (show u = Value.bool true from rv)
    refine ⟨rfl, OldK.of_keep fun b o e => ?_, os, bare⟩
    rcases only b with n | ⟨ob, xs, z⟩
    · exact un.keep b o e n (fun h => (nomatch h)) (fun h => (nomatch h))
    · have e1 := (hok b _ z).1
      rw [e] at e1
      cases e1
      exact (hok2 b _ (un.frzs b _ _ z)).1
/-- a def that shows nothing, too -/
theorem g_of {P : Program} {w : World} {K : PySem.W.Frag} {mg : Str → Option Value} {base : Heap} {k : Nat} {f : Addr} {fd : FuncData} {ps : List Str} {sp : Sp} (F : FnOk P w K mg base CX0 k f fd ps sp) : FnG P w K mg base k f fd ps sp :=
  ⟨F.len, fun A out s H ar us vs Q E room e b r q => F.run A out s H ar us vs Q E room.1 e b r q⟩
end B
namespace B
open PySem PySem.Spec PyProof.Rows L2
def kwNo (K : PySem.W.Frag) (f : Addr) : Bool :=
  match K.lookup f with
  | some o => (match o.data with
    | .func fd => (match fd.kwdefaults with
      | .none => true
      | _ => false)
    | _ => false)
  | none => false
theorem kwNo_ok {K : PySem.W.Frag} {f : Addr} {oc : Value} {od : Option Addr} {fd : FuncData} {osl : Array (Option Value)} (h : kwNo K f = true) (lk : K.lookup f = some ⟨oc, od, .func fd, osl⟩) : fd.kwdefaults = .none := by
  unfold kwNo at h
  rw [lk] at h
  dsimp only at h
  split at h
  · assumption
  · cases h
/-- the object of an own class of errors -/
def errO (K : PySem.W.Frag) (C : Addr) : Bool :=
  match K.lookup C with
  | some o => (match o.cls, o.data, o.slots.toList with
    | .type t, .cls cd, [_, _, _, _, some (.builtin b), _] => (match cd.mro with
      | .ref D :: bm => decide (t = "type") && (decide (b = "ValueError.__new__") && (decide (D = C) && ((cd.hasDel == false) && ((cd.hasDict == true) && PySem.HandSPX.refsVE bm))))
      | _ => false)
    | _, _, _ => false)
  | none => false
theorem errO_ok {K : PySem.W.Frag} {C : Addr} (h : errO K C = true) : ∃ nm q N bs bm sn sub ab col dd k0 k1 k2 k3 k5, K.lookup C = some (excClassObj nm q C N bs bm true sn sub ab col dd k0 k1 k2 k3 k5 "ValueError.__new__") ∧ PySem.HandSPX.refsVE bm = true := by
  unfold errO at h
  split at h
  · rename_i o lk
    obtain ⟨oc, od, dt, sl⟩ := o
    dsimp only at h
    split at h
    · rename_i t cd k0 k1 k2 k3 b k5 hsl
      obtain ⟨nm, bs, mro, ns, qn, hd, sn, sub, ab, col, del⟩ := cd
      dsimp only at h
      split at h
      · rename_i D bm
        simp only [Bool.and_eq_true, decide_eq_true_eq, beq_iff_eq] at h
        obtain ⟨rfl, rfl, rfl, rfl, rfl, hr⟩ := h
        obtain ⟨sll⟩ := sl
        dsimp only at hsl
        subst hsl
        exact ⟨nm, qn, ns, bs, bm, sn, sub, ab, col, od, k0, k1, k2, k3, k5, lk, hr⟩
      · cases h
    · cases h
  · cases h
/-- what is asked of an own class of errors -/
def errB (K : PySem.W.Frag) (x : Str) : Bool :=
  He.eqO (PySem.W.nsIn K mainGlobals x) (some (some (.ref (He.ga K x)))) && (PySem.W.keepIn K (.ref (He.ga K x)) && (decide (PySem.W.subIn K (.ref (He.ga K x)) (.type "BaseException") = some true) && (decide (PySem.W.typeIn K (.ref (He.ga K x)) = some (.type "type")) && (PySem.W.isClsIn K (He.ga K x) &&
  (decide (PySem.W.subIn K (.ref (He.ga K x)) (.ref (He.ga K x)) = some true) && (He.eqO (PySem.W.findIn K (.ref (He.ga K x)) "__getattribute__") (some (some (.builtin "BaseException.__getattribute__"))) && (He.eqO (PySem.W.findIn K (.ref (He.ga K x)) "__getattr__") (some none) && (PySem.W.hasDictIn K (He.ga K x) &&
  (He.eqO (PySem.W.findIn K (.ref (He.ga K x)) "__class__") (some (some (.builtin "object.__class__"))) && (He.eqO (PySem.W.specialIn K (.builtin "object.__class__") "__get__") (some (some (.builtin "getset_descriptor.__get__"))) && (decide (PySem.W.takesIn K (.builtin "object.__class__") = some true) && (decide (PySem.W.mroIn K (He.ga K x) (.type "object") = some true) &&
  (errO K (He.ga K x) && (He.eqO (PySem.W.findIn K (.ref (He.ga K x)) "__setattr__") (some (some (.builtin "object.__setattr__"))) && (He.eqO (PySem.W.findIn K (.ref (He.ga K x)) "named") (some none) && (He.eqO (PySem.W.findIn K (.ref (He.ga K x)) "__init__") (some (some (.ref (He.fAd K (x, some "__init__"))))) &&
  (decide (PySem.W.typeIn K (.ref (He.fAd K (x, some "__init__"))) = some (.type "function")) && kwNo K (He.fAd K (x, some "__init__")))))))))))))))))))
/-- the row of the maker of such a class -/
def errD (x : Str) (qn : Str) (p q1 q2 q3 q4 : Pos) : He.DefD := ⟨(x, some "__init__"), "__init__", qn, eiA p, eiB x q1 q2 q3 q4, eiS, [], []⟩
theorem err_mk {K : PySem.W.Frag} {h : Heap} {mg : Str → Option Value} {x qn : Str} {p q1 q2 q3 q4 : Pos} {fd : FuncData} (X : K.In h) (G : h.Ns mainGlobals mg) (c : errB K x = true)
    (F : FunD K "__init__" qn (eiA p) (eiB x q1 q2 q3 q4) eiS [] [] (He.fAd K (x, some "__init__")) fd) : ∃ T : Xc K mg x, T.C = He.ga K x := by
  unfold errB at c
  simp only [Bool.and_eq_true, decide_eq_true_eq] at c
  obtain ⟨c1, c2, c3, c4, c5, c6, c7, c8, c9, c10, c11, c12, c13, c14, c15, c16, c17, c18, c19⟩ := c
  obtain ⟨oc, od, dV, kV, doc, pm, an, cdv, ct, osl, rfl, lk, hcd, hd, _⟩ := F.ex
  have e1 : dV = .none := by
    rcases hd with ⟨_, e⟩ | ⟨n, _⟩
    · exact e
    · exact absurd rfl n
  have e2 : kV = .none := kwNo_ok c19 lk
  subst e1 e2
  exact ⟨⟨He.ga K x, He.eqO_ok c1, PySem.W.mg_of X G (He.eqO_ok c1), c2, c3, c4, c5, c6, ⟨He.eqO_ok c7, He.eqO_ok c8, c3, c9, He.eqO_ok c10, He.eqO_ok c11, c12, c13⟩, errO_ok c14, He.eqO_ok c15, He.eqO_ok c16, He.fAd K (x, some "__init__"), He.eqO_ok c17, c18, ⟨oc, od, doc, pm, an, cdv, ct, osl, qn, p, q1, q2, q3, q4, lk, hcd⟩⟩, rfl⟩
inductive LtF where
  | err (x : Str)
  | sub (x y : Str) (b : Bool)
  | subT (x : Str) (t : String) (b : Bool)
  | tup (x : Str) (vs : List He.Dv)
  | tab (x : Str) (kvs : List (Str × He.Dv))
def LtF.ok (K : PySem.W.Frag) : LtF → Bool
  | .err x => errB K x
  | .sub x y b => decide (PySem.W.subIn K (.ref (He.ga K x)) (.ref (He.ga K y)) = some b)
  | .subT x t b => decide (PySem.W.subIn K (.ref (He.ga K x)) (.type t) = some b)
  | .tup x vs => He.tupB K x vs
  | .tab x kvs => He.valsB K (He.ga K x) kvs
theorem sub_of {K : PySem.W.Frag} {A C : Addr} {x y : Str} {b : Bool} (e1 : A = He.ga K x) (e2 : C = He.ga K y) (c : (LtF.sub x y b).ok K = true) : PySem.W.subIn K (.ref A) (.ref C) = some b := by
  rw [e1, e2]
  exact of_decide_eq_true c
theorem subT_of {K : PySem.W.Frag} {A : Addr} {x : Str} {t : String} {b : Bool} (e1 : A = He.ga K x) (c : (LtF.subT x t b).ok K = true) : PySem.W.subIn K (.ref A) (.type t) = some b := by
  rw [e1]
  exact of_decide_eq_true c
/-- where to look: the names' objects and what these name; the classes' tables, their methods and what these name -/
def nsOf (g : Addr → Option Obj) (a : Addr) : List Addr :=
  match g a with
  | some o => (match o.data with
    | .cls cd => [cd.ns]
    | _ => [])
  | none => []
def refsAt (g : Addr → Option Obj) (a : Addr) : List Addr :=
  match g a with
  | some o => He.refsD o
  | none => []
def asL (g : Addr → Option Obj) (ns cs : List Str) : List Addr :=
  let K0 := He.frG g [mainGlobals]
  let a1 := ns.map (He.ga K0)
  let c1 := cs.map (He.ga K0)
  let c2 := c1.flatMap (nsOf g)
  let c3 := c2.flatMap (refsAt g)
  mainGlobals :: (c1 ++ (c2 ++ (a1 ++ (c3 ++ (c3.flatMap (refsAt g) ++ a1.flatMap (refsAt g))))))
abbrev AlL : Type := He.AlD × Bool
def obsK (fa : List He.Fa) (fn : List He.DefD) (lf : List LtF) (K : PySem.W.Frag) : AlL := (He.obsD fa fn K, lf.all fun f => f.ok K)
structure SaysL (fa : List He.Fa) (fn : List He.DefD) (lf : List LtF) (K : PySem.W.Frag) : Prop where
  d : He.SaysD fa fn K
  l : (lf.all fun f => f.ok K) = true
theorem SaysL.fact {fa : List He.Fa} {fn : List He.DefD} {lf : List LtF} {K : PySem.W.Frag} (c : SaysL fa fn lf K) (i : Nat) {f : LtF} (h : lf[i]? = some f := by rfl) : f.ok K = true := List.all_eq_true.mp c.l f (List.mem_of_getElem? h)
theorem fun_ofD {K : PySem.W.Frag} {x q : Str} {st : Stmt} {f : Addr} {fd : FuncData} (F : FunD K x q (defArgs st) (defBody st) (defScope st) [] [] f fd) : Fun K x q st f fd := by
  obtain ⟨oc, od, dV, kV, doc, pm, an, cdv, ct, osl, rfl, lk, hcd, hd, _⟩ := F.ex
  have e1 : dV = .none := by
    rcases hd with ⟨_, e⟩ | ⟨n, _⟩
    · exact e
    · exact absurd rfl n
  subst e1
  exact ⟨⟨oc, od, kV, doc, pm, an, cdv, ct, osl, rfl, lk, hcd⟩, F.kp⟩
theorem df_of {K : PySem.W.Frag} {mg : Str → Option Value} {x : Str} {st : Stmt} {ps : List Str} {f : Addr} {fd : FuncData} (F : FunD K x x (defArgs st) (defBody st) (defScope st) [] [] f fd) (g : mg x = some (.ref f))
    (h : ∀ (kV doc pm : Value) (an : Option Addr) (cdv ct : Value) (us : List Value), us.length = ps.length → bindArgs (PySem.W.fnOf x x (defArgs st) (defBody st) (defScope st) .none kV doc pm an cdv ct) ⟨us, []⟩ = pure (ps.zip us)) : ∃ T : Df K mg x st ps, T.f = f ∧ T.fd = fd :=
  ⟨⟨f, fd, fun_ofD F, (fun_ofD F).binds h, g⟩, rfl, rfl⟩
/-- the last step, as walkG, the facts told with their place -/
theorem walkL {l : PySem.W.OpenLaw} {n k : Nat} {q : Program} {loose : List Str} {XP : (Str → Option Value) → Heap → Prop} {YP : World → Heap → Prop} {d : DefRec} {x : Str} (quiet : importsNone q = true) (most : l.most = some n)
    (small : n ≤ sizeLine) (nodef : d.params.defaults = []) (room : Room k callerA)
    (F : ∀ (w : World) (mg : Str → Option Value) (fa : Addr) (h : Heap), YP w h → h.Ns mainGlobals mg → mg d.name = some (.ref fa) → ∃ (K : PySem.W.Frag) (fd : FuncData) (sp : Sp), K.In h ∧ (∀ (s : Shared) (u : Value), BindsTo s fd ⟨[u], []⟩ [(x, u)]) ∧
      (∀ base : Heap, K.In base → base.Ns mainGlobals mg → base.NoSeer → FnG l.prog w K mg base k fa fd [x] sp) ∧
      ∀ (H : Hp) (a : Addr) (ns : List Int), ns.length ≤ n → (∀ z ∈ ns, Builtin.Int.intBits z ≤ 1048576) → Only H → SqL K H a (ns.map V.int) → sp [.ref a] H (fun v _ => v = .bl true) E0) :
    PySem.W.WalkO q loose XP YP l.row.toRowW d [] (fun f vs => PySem.call f vs) := by
  refine Att.attach_callB most nodef ?_
  intro w _ s mg mb fa _ _ _ _ a vs ns G Y _ _ _ at_ obj hin len bits noG
  obtain ⟨K, fd, sp, inK, bd, ok, want⟩ := F w mg fa _ Y G.T.g at_
  exact head_call inK G.T.g G.T.b G.T.builtins G.T.nolimit noG obj hin (Nat.le_trans len small) room (G.T.seer quiet) ok bd fun H o sc => want H a ns len bits o sc
end B
namespace B
open PySem PySem.Spec PyProof.Rows L2
abbrev AlM : Type := AlL × List (Option (List (Option (Str × Int))))
def obsM (ns cs : List Str) (fa : List He.Fa) (fn : List He.DefD) (lf : List LtF) (ts : List (Str × List Str)) (g : Addr → Option Obj) : AlM := (obsK fa fn lf (He.frG g (asL g ns cs)), ts.map fun t : Str × List Str => He.dicW (He.frG g (asL g ns cs)) (He.ga (He.frG g (asL g ns cs)) t.1))
structure SaysM (fa : List He.Fa) (fn : List He.DefD) (lf : List LtF) (ts : List (Str × List Str)) (w : World) (K : PySem.W.Frag) : Prop where
  l : SaysL fa fn lf K
  t : (ts.map fun t : Str × List Str => He.dicW K (He.ga K t.1)) = ts.map fun t : Str × List Str => some (He.keysIn w.params t.2)
theorem SaysM.tab {fa : List He.Fa} {fn : List He.DefD} {lf : List LtF} {ts : List (Str × List Str)} {w : World} {K : PySem.W.Frag} (c : SaysM fa fn lf ts w K) (i : Nat) {t : Str × List Str} (h : ts[i]? = some t := by rfl) : ∃ es n, KDict K w (He.ga K t.1) es n := by
  have e2 : (ts.map fun t : Str × List Str => He.dicW K (He.ga K t.1))[i]? = (ts.map fun t : Str × List Str => some (He.keysIn w.params t.2))[i]? := by rw [c.t]
  rw [List.getElem?_map, List.getElem?_map, h] at e2
  exact He.dicW_ok (Option.some.inj e2)
def hookM (ns cs : List Str) (fa : List He.Fa) (fn : List He.DefD) (lf : List LtF) (ts : List (Str × List Str)) : PySem.W.Hook where
  α := AlM
  obs := fun s => obsM ns cs fa fn lf ts s.heap.get?
  val := fun w => ((He.valD fn, true), ts.map fun t : Str × List Str => some (He.keysIn w.params t.2))
  says := fun w h => ∃ K : PySem.W.Frag, K.In h ∧ SaysM fa fn lf ts w K
  of := fun _ _ e => ⟨_, He.frG_in, ⟨congrArg (fun z : AlM => z.1.1) e, congrArg (fun z : AlM => z.1.2) e⟩, congrArg (fun z : AlM => z.2) e⟩
  keeps := fun _ _ _ ⟨K, hK, c⟩ k => ⟨K, PySem.W.Frag.In.keeps hK k, c⟩
theorem obsM_eq {ns cs : List Str} {fa : List He.Fa} {fn : List He.DefD} {lf : List LtF} {ts : List (Str × List Str)} {g : Addr → Option Obj} {s : Shared} (h : ∀ a, g a = s.heap.get? a) : obsM ns cs fa fn lf ts g = (hookM ns cs fa fn lf ts).obs s := by
  have e : g = s.heap.get? := funext h
  rw [e] <;> rfl
theorem tab_ref {K : PySem.W.Frag} {x k y : Str} {kvs : List (Str × He.Dv)} {f : Addr} (c : (LtF.tab x kvs).ok K = true) (h : (k, He.Dv.glo y) ∈ kvs) (e : f = He.ga K y) : ∃ u, PySem.W.nsIn K (He.ga K x) k = some (some u) ∧ RelV (.ref f) u := by
  subst e
  exact He.valsB_ok c h
theorem tab_int {K : PySem.W.Frag} {x k : Str} {i : Int} {kvs : List (Str × He.Dv)} (c : (LtF.tab x kvs).ok K = true) (h : (k, He.Dv.int i) ∈ kvs) : ∃ u, PySem.W.nsIn K (He.ga K x) k = some (some u) ∧ RelV (.int i) u := He.valsB_ok c h
def fixW (w : World) (row : String) (b : Bool) : World := { w with params := { w.params with followText := fun r => match decide (r = row) with | true => b | false => w.params.followText r } }
theorem fixW_eq {w : World} {row : String} {b : Bool} (h : w.params.followText row = b) : fixW w row b = w := by
  have e : (fun r => match decide (r = row) with | true => b | false => w.params.followText r) = w.params.followText := by
    funext r
    by_cases k : r = row
    · rw [decide_eq_true k, k, h]
    · rw [decide_eq_false k]
  unfold fixW
  rw [e]
theorem join3 {α β γ δ : Type} {o : Option α} {f : α → β} {g : α → γ} {h : α → δ} {x : β} {y : γ} {z : δ} (a : o.map f = some x) (b : o.map g = some y) (c : o.map h = some z) : o.map (fun s => (f s, g s, h s)) = some (x, y, z) := by
  cases o with
  | none => cases a
  | some s =>
    cases a
    cases b
    cases c
    rfl
end B
namespace B
open PySem PySem.Spec PyProof.Rows L2
def topS (i : Nat) : Stmt := PySem.Challenge.pw_betstall_k79_refusals_in_order.main.body.getD i (.Pass ⟨0, 0, 0, 0⟩)
abbrev s_is_number : Stmt := topS 1
abbrev N_is_number : List Str := ["thing"]
theorem sc_is_number : FnScope ["thing"] ["thing"] (defScope s_is_number) := ⟨rfl, rfl, rfl, by decide +kernel, rfl, by decide +kernel, by decide +kernel⟩
abbrev s_is_row : Stmt := topS 2
abbrev N_is_row : List Str := ["thing", "least", "most"]
theorem sc_is_row : FnScope ["thing", "least", "most"] ["thing", "least", "most"] (defScope s_is_row) := ⟨rfl, rfl, rfl, by decide +kernel, rfl, by decide +kernel, by decide +kernel⟩
abbrev s_common : Stmt := topS 6
abbrev N_common : List Str := ["one", "other"]
theorem sc_common : FnScope ["one", "other"] ["one", "other"] (defScope s_common) := ⟨rfl, rfl, rfl, by decide +kernel, rfl, by decide +kernel, by decide +kernel⟩
abbrev s_plus : Stmt := topS 8
abbrev N_plus : List Str := ["one", "other", "top", "bottom", "other_top", "other_bottom", "shared", "rest", "total", "left"]
theorem sc_plus : FnScope ["one", "other", "top", "bottom", "other_top", "other_bottom", "shared", "rest", "total", "left"] ["one", "other"] (defScope s_plus) := ⟨rfl, rfl, rfl, by decide +kernel, rfl, by decide +kernel, by decide +kernel⟩
abbrev s_times : Stmt := topS 9
abbrev N_times : List Str := ["one", "other", "top", "bottom", "other_top", "other_bottom", "falling", "rising"]
theorem sc_times : FnScope ["one", "other", "top", "bottom", "other_top", "other_bottom", "falling", "rising"] ["one", "other"] (defScope s_times) := ⟨rfl, rfl, rfl, by decide +kernel, rfl, by decide +kernel, by decide +kernel⟩
abbrev s_turned_about : Stmt := topS 10
abbrev N_turned_about : List Str := ["one"]
theorem sc_turned_about : FnScope ["one"] ["one"] (defScope s_turned_about) := ⟨rfl, rfl, rfl, by decide +kernel, rfl, by decide +kernel, by decide +kernel⟩
abbrev s_minus : Stmt := topS 11
abbrev N_minus : List Str := ["one", "other"]
theorem sc_minus : FnScope ["one", "other"] ["one", "other"] (defScope s_minus) := ⟨rfl, rfl, rfl, by decide +kernel, rfl, by decide +kernel, by decide +kernel⟩
abbrev s_is_fraction : Stmt := topS 14
abbrev N_is_fraction : List Str := ["thing", "top", "bottom"]
theorem sc_is_fraction : FnScope ["thing", "top", "bottom"] ["thing"] (defScope s_is_fraction) := ⟨rfl, rfl, rfl, by decide +kernel, rfl, by decide +kernel, by decide +kernel⟩
abbrev s_wanted : Stmt := topS 35
abbrev N_wanted : List Str := ["letters", "word"]
theorem sc_wanted : FnScope ["letters", "word"] ["letters", "word"] (defScope s_wanted) := ⟨rfl, rfl, rfl, by decide +kernel, rfl, by decide +kernel, by decide +kernel⟩
abbrev s_is_saying : Stmt := topS 36
abbrev N_is_saying : List Str := ["letters", "thing", "high", "word", "many"]
theorem sc_is_saying : FnScope ["letters", "thing", "high", "word", "many"] ["letters", "thing"] (defScope s_is_saying) := ⟨rfl, rfl, rfl, by decide +kernel, rfl, by decide +kernel, by decide +kernel⟩
abbrev s_laid : Stmt := topS 37
abbrev N_laid : List Str := ["letters", "word", "world"]
theorem sc_laid : FnScope ["letters", "word", "world"] ["letters", "word", "world"] (defScope s_laid) := ⟨rfl, rfl, rfl, by decide +kernel, rfl, by decide +kernel, by decide +kernel⟩
abbrev s_joint : Stmt := topS 38
abbrev N_joint : List Str := ["word", "one", "other"]
theorem sc_joint : FnScope ["word", "one", "other"] ["word", "one", "other"] (defScope s_joint) := ⟨rfl, rfl, rfl, by decide +kernel, rfl, by decide +kernel, by decide +kernel⟩
abbrev s_holds : Stmt := topS 39
abbrev N_holds : List Str := ["letters", "saying", "world", "heap", "word", "upper"]
theorem sc_holds : FnScope ["letters", "saying", "world", "heap", "word", "upper"] ["letters", "saying", "world"] (defScope s_holds) := ⟨rfl, rfl, rfl, by decide +kernel, rfl, by decide +kernel, by decide +kernel⟩
abbrev s_is_term : Stmt := topS 44
abbrev N_is_term : List Str := ["letters", "thing"]
theorem sc_is_term : FnScope ["letters", "thing"] ["letters", "thing"] (defScope s_is_term) := ⟨rfl, rfl, rfl, by decide +kernel, rfl, by decide +kernel, by decide +kernel⟩
abbrev s_is_bet : Stmt := topS 45
abbrev N_is_bet : List Str := ["letters", "thing", "terms", "given", "term"]
theorem sc_is_bet : FnScope ["letters", "thing", "terms", "given", "term"] ["letters", "thing"] (defScope s_is_bet) := ⟨rfl, rfl, rfl, by decide +kernel, rfl, by decide +kernel, by decide +kernel⟩
abbrev s_pays : Stmt := topS 46
abbrev N_pays : List Str := ["letters", "bet", "world", "terms", "given", "paid", "amount", "saying"]
theorem sc_pays : FnScope ["letters", "bet", "world", "terms", "given", "paid", "amount", "saying"] ["letters", "bet", "world"] (defScope s_pays) := ⟨rfl, rfl, rfl, by decide +kernel, rfl, by decide +kernel, by decide +kernel⟩
abbrev s_worlds_over : Stmt := topS 50
abbrev N_worlds_over : List Str := ["letters", "worlds", "letter", "world", "sign"]
theorem sc_worlds_over : FnScope ["letters", "worlds", "letter", "world", "sign"] ["letters"] (defScope s_worlds_over) := ⟨rfl, rfl, rfl, by decide +kernel, rfl, by decide +kernel, by decide +kernel⟩
abbrev s_keeps : Stmt := topS 51
abbrev N_keeps : List Str := ["letters", "rules", "world", "rule"]
theorem sc_keeps : FnScope ["letters", "rules", "world", "rule"] ["letters", "rules", "world"] (defScope s_keeps) := ⟨rfl, rfl, rfl, by decide +kernel, rfl, by decide +kernel, by decide +kernel⟩
abbrev s_worlds_of : Stmt := topS 52
abbrev N_worlds_of : List Str := ["house", "letters", "rules", "world"]
theorem sc_worlds_of : FnScope ["house", "letters", "rules", "world"] ["house"] (defScope s_worlds_of) := ⟨rfl, rfl, rfl, by decide +kernel, rfl, by decide +kernel, by decide +kernel⟩
abbrev s_may_be : Stmt := topS 53
abbrev N_may_be : List Str := ["house", "saying", "world"]
theorem sc_may_be : FnScope ["house", "saying", "world"] ["house", "saying"] (defScope s_may_be) := ⟨rfl, rfl, rfl, by decide +kernel, rfl, by decide +kernel, by decide +kernel⟩
abbrev s_is_place : Stmt := topS 56
abbrev N_is_place : List Str := ["many", "thing"]
theorem sc_is_place : FnScope ["many", "thing"] ["many", "thing"] (defScope s_is_place) := ⟨rfl, rfl, rfl, by decide +kernel, rfl, by decide +kernel, by decide +kernel⟩
abbrev s_are_two : Stmt := topS 57
abbrev N_are_two : List Str := ["many", "one", "other"]
theorem sc_are_two : FnScope ["many", "one", "other"] ["many", "one", "other"] (defScope s_are_two) := ⟨rfl, rfl, rfl, by decide +kernel, rfl, by decide +kernel, by decide +kernel⟩
abbrev s_is_above_zero : Stmt := topS 58
abbrev N_is_above_zero : List Str := ["thing"]
theorem sc_is_above_zero : FnScope ["thing"] ["thing"] (defScope s_is_above_zero) := ⟨rfl, rfl, rfl, by decide +kernel, rfl, by decide +kernel, by decide +kernel⟩
abbrev s_lives : Stmt := topS 59
abbrev N_lives : List Str := ["house", "thing"]
theorem sc_lives : FnScope ["house", "thing"] ["house", "thing"] (defScope s_lives) := ⟨rfl, rfl, rfl, by decide +kernel, rfl, by decide +kernel, by decide +kernel⟩
abbrev s_brought : Stmt := topS 60
abbrev N_brought : List Str := ["letters", "ticket", "world", "number", "long", "short", "bet", "price", "stake", "paid"]
theorem sc_brought : FnScope ["letters", "ticket", "world", "number", "long", "short", "bet", "price", "stake", "paid"] ["letters", "ticket", "world"] (defScope s_brought) := ⟨rfl, rfl, rfl, by decide +kernel, rfl, by decide +kernel, by decide +kernel⟩
abbrev s_ticket_of : Stmt := topS 62
abbrev N_ticket_of : List Str := ["tickets", "number", "ticket"]
theorem sc_ticket_of : FnScope ["tickets", "number", "ticket"] ["tickets", "number"] (defScope s_ticket_of) := ⟨rfl, rfl, rfl, by decide +kernel, rfl, by decide +kernel, by decide +kernel⟩
abbrev s_without : Stmt := topS 63
abbrev N_without : List Str := ["tickets", "gone", "ticket"]
theorem sc_without : FnScope ["tickets", "gone", "ticket"] ["tickets", "gone"] (defScope s_without) := ⟨rfl, rfl, rfl, by decide +kernel, rfl, by decide +kernel, by decide +kernel⟩
abbrev s_exchanged : Stmt := topS 64
abbrev N_exchanged : List Str := ["tickets", "new", "ticket"]
theorem sc_exchanged : FnScope ["tickets", "new", "ticket"] ["tickets", "new"] (defScope s_exchanged) := ⟨rfl, rfl, rfl, by decide +kernel, rfl, by decide +kernel, by decide +kernel⟩
abbrev s_worths_at : Stmt := topS 104
abbrev N_worths_at : List Str := ["letters", "purses", "tickets", "world", "told", "ticket", "long", "short", "gain"]
theorem sc_worths_at : FnScope ["letters", "purses", "tickets", "world", "told", "ticket", "long", "short", "gain"] ["letters", "purses", "tickets", "world"] (defScope s_worths_at) := ⟨rfl, rfl, rfl, by decide +kernel, rfl, by decide +kernel, by decide +kernel⟩
abbrev s_covered : Stmt := topS 105
abbrev N_covered : List Str := ["house", "purses", "tickets", "world", "worth"]
theorem sc_covered : FnScope ["house", "purses", "tickets", "world", "worth"] ["house", "purses", "tickets"] (defScope s_covered) := ⟨rfl, rfl, rfl, by decide +kernel, rfl, by decide +kernel, by decide +kernel⟩
abbrev s_sure : Stmt := topS 107
abbrev N_sure : List Str := ["stand", "house", "purses", "tickets", "lists", "many"]
theorem sc_sure : FnScope ["stand", "house", "purses", "tickets", "lists", "many"] ["stand"] (defScope s_sure) := ⟨rfl, rfl, rfl, by decide +kernel, rfl, by decide +kernel, by decide +kernel⟩
abbrev s_few_enough : Stmt := topS 108
abbrev N_few_enough : List Str := ["tickets"]
theorem sc_few_enough : FnScope ["tickets"] ["tickets"] (defScope s_few_enough) := ⟨rfl, rfl, rfl, by decide +kernel, rfl, by decide +kernel, by decide +kernel⟩
abbrev s_standing : Stmt := topS 109
abbrev N_standing : List Str := ["stand", "number", "ticket"]
theorem sc_standing : FnScope ["stand", "number", "ticket"] ["stand", "number"] (defScope s_standing) := ⟨rfl, rfl, rfl, by decide +kernel, rfl, by decide +kernel, by decide +kernel⟩
abbrev s_moved : Stmt := topS 110
abbrev N_moved : List Str := ["purses", "giver", "taker", "amount", "told"]
theorem sc_moved : FnScope ["purses", "giver", "taker", "amount", "told"] ["purses", "giver", "taker", "amount"] (defScope s_moved) := ⟨rfl, rfl, rfl, by decide +kernel, rfl, by decide +kernel, by decide +kernel⟩
abbrev s_with_ticket : Stmt := topS 111
abbrev N_with_ticket : List Str := ["stand", "long", "short", "bet", "price", "stake", "house", "purses", "tickets", "lists", "many", "grown"]
theorem sc_with_ticket : FnScope ["stand", "long", "short", "bet", "price", "stake", "house", "purses", "tickets", "lists", "many", "grown"] ["stand", "long", "short", "bet", "price", "stake"] (defScope s_with_ticket) := ⟨rfl, rfl, rfl, by decide +kernel, rfl, by decide +kernel, by decide +kernel⟩
abbrev s_dealt : Stmt := topS 112
abbrev N_dealt : List Str := ["stand", "parts", "long", "short", "bet", "price", "stake"]
theorem sc_dealt : FnScope ["stand", "parts", "long", "short", "bet", "price", "stake"] ["stand", "parts"] (defScope s_dealt) := ⟨rfl, rfl, rfl, by decide +kernel, rfl, by decide +kernel, by decide +kernel⟩
abbrev s_parted : Stmt := topS 113
abbrev N_parted : List Str := ["stand", "parts", "number", "stake", "house", "purses", "tickets", "lists", "many", "ticket", "rest", "new"]
theorem sc_parted : FnScope ["stand", "parts", "number", "stake", "house", "purses", "tickets", "lists", "many", "ticket", "rest", "new"] ["stand", "parts"] (defScope s_parted) := ⟨rfl, rfl, rfl, by decide +kernel, rfl, by decide +kernel, by decide +kernel⟩
abbrev s_passed_on : Stmt := topS 114
abbrev N_passed_on : List Str := ["tickets", "ticket", "holder", "to", "number", "long", "short", "bet", "price", "stake", "sides"]
theorem sc_passed_on : FnScope ["tickets", "ticket", "holder", "to", "number", "long", "short", "bet", "price", "stake", "sides"] ["tickets", "ticket", "holder", "to"] (defScope s_passed_on) := ⟨rfl, rfl, rfl, by decide +kernel, rfl, by decide +kernel, by decide +kernel⟩
abbrev s_handed : Stmt := topS 115
abbrev N_handed : List Str := ["stand", "parts", "number", "holder", "to", "fee", "house", "purses", "tickets", "lists", "many", "ticket", "paid"]
theorem sc_handed : FnScope ["stand", "parts", "number", "holder", "to", "fee", "house", "purses", "tickets", "lists", "many", "ticket", "paid"] ["stand", "parts"] (defScope s_handed) := ⟨rfl, rfl, rfl, by decide +kernel, rfl, by decide +kernel, by decide +kernel⟩
abbrev s_netted : Stmt := topS 116
abbrev N_netted : List Str := ["stand", "parts", "one", "other", "house", "purses", "tickets", "lists", "many", "ticket", "further", "left", "rest"]
theorem sc_netted : FnScope ["stand", "parts", "one", "other", "house", "purses", "tickets", "lists", "many", "ticket", "further", "left", "rest"] ["stand", "parts"] (defScope s_netted) := ⟨rfl, rfl, rfl, by decide +kernel, rfl, by decide +kernel, by decide +kernel⟩
abbrev s_cleared : Stmt := topS 117
abbrev N_cleared : List Str := ["stand", "parts", "house", "purses", "tickets", "lists", "many", "bet", "price", "ticket", "gone", "rows", "at", "long", "short", "stake", "new", "left"]
theorem sc_cleared : FnScope ["stand", "parts", "house", "purses", "tickets", "lists", "many", "bet", "price", "ticket", "gone", "rows", "at", "long", "short", "stake", "new", "left"] ["stand", "parts"] (defScope s_cleared) := ⟨rfl, rfl, rfl, by decide +kernel, rfl, by decide +kernel, by decide +kernel⟩
abbrev s_posted : Stmt := topS 118
abbrev N_posted : List Str := ["stand", "parts", "holder", "bids", "house", "purses", "tickets", "lists", "many"]
theorem sc_posted : FnScope ["stand", "parts", "holder", "bids", "house", "purses", "tickets", "lists", "many"] ["stand", "parts"] (defScope s_posted) := ⟨rfl, rfl, rfl, by decide +kernel, rfl, by decide +kernel, by decide +kernel⟩
abbrev s_sold : Stmt := topS 119
abbrev N_sold : List Str := ["stand", "parts", "seller", "holder", "place", "stake", "lists", "bet", "price"]
theorem sc_sold : FnScope ["stand", "parts", "seller", "holder", "place", "stake", "lists", "bet", "price"] ["stand", "parts"] (defScope s_sold) := ⟨rfl, rfl, rfl, by decide +kernel, rfl, by decide +kernel, by decide +kernel⟩
abbrev s_heard : Stmt := topS 121
abbrev N_heard : List Str := ["stand", "parts", "saying", "house", "purses", "tickets", "lists", "many", "bids", "fair", "behind", "gains", "rows", "gone", "left"]
theorem sc_heard : FnScope ["stand", "parts", "saying", "house", "purses", "tickets", "lists", "many", "bids", "fair", "behind", "gains", "rows", "gone", "left"] ["stand", "parts"] (defScope s_heard) := ⟨rfl, rfl, rfl, by decide +kernel, rfl, by decide +kernel, by decide +kernel⟩
abbrev s_is_deed : Stmt := topS 124
abbrev N_is_deed : List Str := ["thing"]
theorem sc_is_deed : FnScope ["thing"] ["thing"] (defScope s_is_deed) := ⟨rfl, rfl, rfl, by decide +kernel, rfl, by decide +kernel, by decide +kernel⟩
abbrev s_done : Stmt := topS 125
abbrev N_done : List Str := ["stand", "deed", "action"]
theorem sc_done : FnScope ["stand", "deed", "action"] ["stand", "deed"] (defScope s_done) := ⟨rfl, rfl, rfl, by decide +kernel, rfl, by decide +kernel, by decide +kernel⟩
abbrev s_l_draws : Stmt := topS 127
abbrev N_l_draws : List Str := ["_law_script", "_law_cells", "_law_cell"]
theorem sc_l_draws : FnScope ["_law_script", "_law_cells", "_law_cell"] ["_law_script"] (defScope s_l_draws) := ⟨rfl, rfl, rfl, by decide +kernel, rfl, by decide +kernel, by decide +kernel⟩
abbrev s_l_next : Stmt := topS 128
abbrev N_l_next : List Str := ["_law_drawn", "_law_many", "_law_cells", "_law_count", "_law_rests", "_law_at", "_law_digit", "_law_primes", "_law_mixed", "_law_more"]
theorem sc_l_next : FnScope ["_law_drawn", "_law_many", "_law_cells", "_law_count", "_law_rests", "_law_at", "_law_digit", "_law_primes", "_law_mixed", "_law_more"] ["_law_drawn", "_law_many"] (defScope s_l_next) := ⟨rfl, rfl, rfl, by decide +kernel, rfl, by decide +kernel, by decide +kernel⟩
abbrev s_l_whole : Stmt := topS 129
abbrev N_l_whole : List Str := ["_law_thing"]
theorem sc_l_whole : FnScope ["_law_thing"] ["_law_thing"] (defScope s_l_whole) := ⟨rfl, rfl, rfl, by decide +kernel, rfl, by decide +kernel, by decide +kernel⟩
abbrev s_l_lowest : Stmt := topS 130
abbrev N_l_lowest : List Str := ["_law_top", "_law_bottom", "_law_one", "_law_other"]
theorem sc_l_lowest : FnScope ["_law_top", "_law_bottom", "_law_one", "_law_other"] ["_law_top", "_law_bottom"] (defScope s_l_lowest) := ⟨rfl, rfl, rfl, by decide +kernel, rfl, by decide +kernel, by decide +kernel⟩
abbrev s_l_plus : Stmt := topS 131
abbrev N_l_plus : List Str := ["_law_one", "_law_other"]
theorem sc_l_plus : FnScope ["_law_one", "_law_other"] ["_law_one", "_law_other"] (defScope s_l_plus) := ⟨rfl, rfl, rfl, by decide +kernel, rfl, by decide +kernel, by decide +kernel⟩
abbrev s_l_times : Stmt := topS 132
abbrev N_l_times : List Str := ["_law_one", "_law_other"]
theorem sc_l_times : FnScope ["_law_one", "_law_other"] ["_law_one", "_law_other"] (defScope s_l_times) := ⟨rfl, rfl, rfl, by decide +kernel, rfl, by decide +kernel, by decide +kernel⟩
abbrev s_l_less : Stmt := topS 133
abbrev N_l_less : List Str := ["_law_one", "_law_other"]
theorem sc_l_less : FnScope ["_law_one", "_law_other"] ["_law_one", "_law_other"] (defScope s_l_less) := ⟨rfl, rfl, rfl, by decide +kernel, rfl, by decide +kernel, by decide +kernel⟩
abbrev s_l_holds : Stmt := topS 134
abbrev N_l_holds : List Str := ["_law_letters", "_law_saying", "_law_world", "_law_heap", "_law_word"]
theorem sc_l_holds : FnScope ["_law_letters", "_law_saying", "_law_world", "_law_heap", "_law_word"] ["_law_letters", "_law_saying", "_law_world"] (defScope s_l_holds) := ⟨rfl, rfl, rfl, by decide +kernel, rfl, by decide +kernel, by decide +kernel⟩
abbrev s_l_worlds : Stmt := topS 135
abbrev N_l_worlds : List Str := ["_law_house", "_law_letters", "_law_rules", "_law_found", "_law_number", "_law_world", "_law_rest", "_law_place_here", "_law_rule"]
theorem sc_l_worlds : FnScope ["_law_house", "_law_letters", "_law_rules", "_law_found", "_law_number", "_law_world", "_law_rest", "_law_place_here", "_law_rule"] ["_law_house"] (defScope s_l_worlds) := ⟨rfl, rfl, rfl, by decide +kernel, rfl, by decide +kernel, by decide +kernel⟩
abbrev s_l_paid : Stmt := topS 136
abbrev N_l_paid : List Str := ["_law_letters", "_law_bet", "_law_world", "_law_total", "_law_amount", "_law_saying"]
theorem sc_l_paid : FnScope ["_law_letters", "_law_bet", "_law_world", "_law_total", "_law_amount", "_law_saying"] ["_law_letters", "_law_bet", "_law_world"] (defScope s_l_paid) := ⟨rfl, rfl, rfl, by decide +kernel, rfl, by decide +kernel, by decide +kernel⟩
abbrev s_l_table : Stmt := topS 137
abbrev N_l_table : List Str := ["_law_house", "_law_bet", "_law_world"]
theorem sc_l_table : FnScope ["_law_house", "_law_bet", "_law_world"] ["_law_house", "_law_bet"] (defScope s_l_table) := ⟨rfl, rfl, rfl, by decide +kernel, rfl, by decide +kernel, by decide +kernel⟩
abbrev s_l_turned : Stmt := topS 138
abbrev N_l_turned : List Str := ["_law_one"]
theorem sc_l_turned : FnScope ["_law_one"] ["_law_one"] (defScope s_l_turned) := ⟨rfl, rfl, rfl, by decide +kernel, rfl, by decide +kernel, by decide +kernel⟩
abbrev s_l_just : Stmt := topS 139
abbrev N_l_just : List Str := ["_law_thing", "_law_due", "_law_one", "_law_other"]
theorem sc_l_just : FnScope ["_law_thing", "_law_due", "_law_one", "_law_other"] ["_law_thing", "_law_due"] (defScope s_l_just) := ⟨rfl, rfl, rfl, by decide +kernel, rfl, by decide +kernel, by decide +kernel⟩
abbrev s_l_brings : Stmt := topS 140
abbrev N_l_brings : List Str := ["_law_house", "_law_ticket_here", "_law_found", "_law_paid_here", "_law_more"]
theorem sc_l_brings : FnScope ["_law_house", "_law_ticket_here", "_law_found", "_law_paid_here", "_law_more"] ["_law_house", "_law_ticket_here"] (defScope s_l_brings) := ⟨rfl, rfl, rfl, by decide +kernel, rfl, by decide +kernel, by decide +kernel⟩
abbrev s_l_worths : Stmt := topS 141
abbrev N_l_worths : List Str := ["_law_stand", "_law_purse", "_law_found", "_law_ticket_here", "_law_at", "_law_more"]
theorem sc_l_worths : FnScope ["_law_stand", "_law_purse", "_law_found", "_law_ticket_here", "_law_at", "_law_more"] ["_law_stand"] (defScope s_l_worths) := ⟨rfl, rfl, rfl, by decide +kernel, rfl, by decide +kernel, by decide +kernel⟩
abbrev s_l_put : Stmt := topS 142
abbrev N_l_put : List Str := ["_law_row", "_law_at", "_law_thing"]
theorem sc_l_put : FnScope ["_law_row", "_law_at", "_law_thing"] ["_law_row", "_law_at", "_law_thing"] (defScope s_l_put) := ⟨rfl, rfl, rfl, by decide +kernel, rfl, by decide +kernel, by decide +kernel⟩
abbrev s_l_no_fraction : Stmt := topS 143
abbrev N_l_no_fraction : List Str := ["_law_drawn", "_law_some"]
theorem sc_l_no_fraction : FnScope ["_law_drawn", "_law_some"] ["_law_drawn"] (defScope s_l_no_fraction) := ⟨rfl, rfl, rfl, by decide +kernel, rfl, by decide +kernel, by decide +kernel⟩
abbrev s_l_covered : Stmt := topS 144
abbrev N_l_covered : List Str := ["_law_stand", "_law_row", "_law_amount"]
theorem sc_l_covered : FnScope ["_law_stand", "_law_row", "_law_amount"] ["_law_stand"] (defScope s_l_covered) := ⟨rfl, rfl, rfl, by decide +kernel, rfl, by decide +kernel, by decide +kernel⟩
abbrev s_l_least : Stmt := topS 145
abbrev N_l_least : List Str := ["_law_row", "_law_best", "_law_at"]
theorem sc_l_least : FnScope ["_law_row", "_law_best", "_law_at"] ["_law_row"] (defScope s_l_least) := ⟨rfl, rfl, rfl, by decide +kernel, rfl, by decide +kernel, by decide +kernel⟩
abbrev s_l_stake : Stmt := topS 146
abbrev N_l_stake : List Str := ["_law_drawn"]
theorem sc_l_stake : FnScope ["_law_drawn"] ["_law_drawn"] (defScope s_l_stake) := ⟨rfl, rfl, rfl, by decide +kernel, rfl, by decide +kernel, by decide +kernel⟩
abbrev s_l_place : Stmt := topS 147
abbrev N_l_place : List Str := ["_law_drawn", "_law_letters", "_law_rules"]
theorem sc_l_place : FnScope ["_law_drawn", "_law_letters", "_law_rules"] ["_law_drawn"] (defScope s_l_place) := ⟨rfl, rfl, rfl, by decide +kernel, rfl, by decide +kernel, by decide +kernel⟩
abbrev s_l_simple : Stmt := topS 148
abbrev N_l_simple : List Str := ["_law_drawn", "_law_letters", "_law_one", "_law_other", "_law_some"]
theorem sc_l_simple : FnScope ["_law_drawn", "_law_letters", "_law_one", "_law_other", "_law_some"] ["_law_drawn", "_law_letters"] (defScope s_l_simple) := ⟨rfl, rfl, rfl, by decide +kernel, rfl, by decide +kernel, by decide +kernel⟩
abbrev s_l_wager : Stmt := topS 149
abbrev N_l_wager : List Str := ["_law_drawn", "_law_house", "_law_some", "_law_terms", "_law_k", "_law_bet", "_law_paid_here"]
theorem sc_l_wager : FnScope ["_law_drawn", "_law_house", "_law_some", "_law_terms", "_law_k", "_law_bet", "_law_paid_here"] ["_law_drawn", "_law_house"] (defScope s_l_wager) := ⟨rfl, rfl, rfl, by decide +kernel, rfl, by decide +kernel, by decide +kernel⟩
abbrev s_l_cost : Stmt := topS 150
abbrev N_l_cost : List Str := ["_law_drawn", "_law_table_here", "_law_one", "_law_some"]
theorem sc_l_cost : FnScope ["_law_drawn", "_law_table_here", "_law_one", "_law_some"] ["_law_drawn", "_law_table_here"] (defScope s_l_cost) := ⟨rfl, rfl, rfl, by decide +kernel, rfl, by decide +kernel, by decide +kernel⟩
abbrev s_l_ticket : Stmt := topS 151
abbrev N_l_ticket : List Str := ["_law_drawn", "_law_house", "_law_holders", "_law_number", "_law_long", "_law_short", "_law_bet"]
theorem sc_l_ticket : FnScope ["_law_drawn", "_law_house", "_law_holders", "_law_number", "_law_long", "_law_short", "_law_bet"] ["_law_drawn", "_law_house", "_law_holders", "_law_number"] (defScope s_l_ticket) := ⟨rfl, rfl, rfl, by decide +kernel, rfl, by decide +kernel, by decide +kernel⟩
abbrev s_l_tickets : Stmt := topS 152
abbrev N_l_tickets : List Str := ["_law_drawn", "_law_house", "_law_holders", "_law_many", "_law_found", "_law_number", "_law_k", "_law_ticket_here"]
theorem sc_l_tickets : FnScope ["_law_drawn", "_law_house", "_law_holders", "_law_many", "_law_found", "_law_number", "_law_k", "_law_ticket_here"] ["_law_drawn", "_law_house", "_law_holders", "_law_many"] (defScope s_l_tickets) := ⟨rfl, rfl, rfl, by decide +kernel, rfl, by decide +kernel, by decide +kernel⟩
abbrev s_l_purses : Stmt := topS 153
abbrev N_l_purses : List Str := ["_law_drawn", "_law_house", "_law_holders", "_law_tickets_here", "_law_purses_here", "_law_row", "_law_more"]
theorem sc_l_purses : FnScope ["_law_drawn", "_law_house", "_law_holders", "_law_tickets_here", "_law_purses_here", "_law_row", "_law_more"] ["_law_drawn", "_law_house", "_law_holders", "_law_tickets_here"] (defScope s_l_purses) := ⟨rfl, rfl, rfl, by decide +kernel, rfl, by decide +kernel, by decide +kernel⟩
abbrev s_l_class : Stmt := topS 154
abbrev N_l_class : List Str := ["_law_error", "_law_kinds", "_law_words"]
theorem sc_l_class : FnScope ["_law_error", "_law_kinds", "_law_words"] ["_law_error"] (defScope s_l_class) := ⟨rfl, rfl, rfl, by decide +kernel, rfl, by decide +kernel, by decide +kernel⟩
abbrev s_l_done : Stmt := topS 155
abbrev N_l_done : List Str := ["_law_stand", "_law_deed", "_law_found", "_law_error"]
theorem sc_l_done : FnScope ["_law_stand", "_law_deed", "_law_found", "_law_error"] ["_law_stand", "_law_deed"] (defScope s_l_done) := ⟨rfl, rfl, rfl, by decide +kernel, rfl, by decide +kernel, by decide +kernel⟩
abbrev s_l_is : Stmt := topS 156
abbrev N_l_is : List Str := ["_law_stand", "_law_deed", "_law_told", "_law_behind", "_law_turn"]
theorem sc_l_is : FnScope ["_law_stand", "_law_deed", "_law_told", "_law_behind", "_law_turn"] ["_law_stand", "_law_deed", "_law_told", "_law_behind"] (defScope s_l_is) := ⟨rfl, rfl, rfl, by decide +kernel, rfl, by decide +kernel, by decide +kernel⟩
abbrev s_l_two : Stmt := topS 157
abbrev N_l_two : List Str := ["_law_drawn", "_law_holders", "_law_one"]
theorem sc_l_two : FnScope ["_law_drawn", "_law_holders", "_law_one"] ["_law_drawn", "_law_holders"] (defScope s_l_two) := ⟨rfl, rfl, rfl, by decide +kernel, rfl, by decide +kernel, by decide +kernel⟩
abbrev s_l_bare_stand : Stmt := topS 158
abbrev N_l_bare_stand : List Str := ["_law_drawn", "_law_most", "_law_house", "_law_holders", "_law_tickets_here", "_law_ticket_here", "_law_many"]
theorem sc_l_bare_stand : FnScope ["_law_drawn", "_law_most", "_law_house", "_law_holders", "_law_tickets_here", "_law_ticket_here", "_law_many"] ["_law_drawn", "_law_most"] (defScope s_l_bare_stand) := ⟨rfl, rfl, rfl, by decide +kernel, rfl, by decide +kernel, by decide +kernel⟩
abbrev s_l_refused_so : Stmt := topS 159
abbrev N_l_refused_so : List Str := ["_law_stand", "_law_deed", "_law_dues", "_law_number", "_law_word", "_law_is_due", "_law_some", "_law_told", "_law_behind"]
theorem sc_l_refused_so : FnScope ["_law_stand", "_law_deed", "_law_dues", "_law_number", "_law_word", "_law_is_due", "_law_some", "_law_told", "_law_behind"] ["_law_stand", "_law_deed", "_law_dues", "_law_number"] (defScope s_l_refused_so) := ⟨rfl, rfl, rfl, by decide +kernel, rfl, by decide +kernel, by decide +kernel⟩
abbrev s_l_wrongs : Stmt := topS 160
abbrev N_l_wrongs : List Str := ["_law_drawn", "_law_many", "_law_found", "_law_k"]
theorem sc_l_wrongs : FnScope ["_law_drawn", "_law_many", "_law_found", "_law_k"] ["_law_drawn", "_law_many"] (defScope s_l_wrongs) := ⟨rfl, rfl, rfl, by decide +kernel, rfl, by decide +kernel, by decide +kernel⟩
abbrev s_l_bad : Stmt := topS 161
abbrev N_l_bad : List Str := ["_law_wrong", "_law_right", "_law_other"]
theorem sc_l_bad : FnScope ["_law_wrong", "_law_right", "_law_other"] ["_law_wrong", "_law_right", "_law_other"] (defScope s_l_bad) := ⟨rfl, rfl, rfl, by decide +kernel, rfl, by decide +kernel, by decide +kernel⟩
abbrev s_l_dealt : Stmt := topS 162
abbrev N_l_dealt : List Str := ["_law_drawn", "_law_stand", "_law_wrongs_here", "_law_long", "_law_short", "_law_bet", "_law_price", "_law_stake_here", "_law_tickets_here", "_law_due", "_law_size", "_law_one"]
theorem sc_l_dealt : FnScope ["_law_drawn", "_law_stand", "_law_wrongs_here", "_law_long", "_law_short", "_law_bet", "_law_price", "_law_stake_here", "_law_tickets_here", "_law_due", "_law_size", "_law_one"] ["_law_drawn", "_law_stand"] (defScope s_l_dealt) := ⟨rfl, rfl, rfl, by decide +kernel, rfl, by decide +kernel, by decide +kernel⟩
abbrev s_l_moved : Stmt := topS 163
abbrev N_l_moved : List Str := ["_law_drawn", "_law_stand", "_law_wrongs_here", "_law_at", "_law_ticket_here", "_law_side", "_law_holder", "_law_to", "_law_fee", "_law_purses_here", "_law_behind", "_law_due", "_law_number", "_law_given", "_law_there"]
theorem sc_l_moved : FnScope ["_law_drawn", "_law_stand", "_law_wrongs_here", "_law_at", "_law_ticket_here", "_law_side", "_law_holder", "_law_to", "_law_fee", "_law_purses_here", "_law_behind", "_law_due", "_law_number", "_law_given", "_law_there"] ["_law_drawn", "_law_stand"] (defScope s_l_moved) := ⟨rfl, rfl, rfl, by decide +kernel, rfl, by decide +kernel, by decide +kernel⟩
abbrev s_law : Stmt := topS 164
abbrev N_law : List Str := ["_law_script", "_law_drawn", "_law_stand", "_law_tickets_here", "_law_purses_here", "_law_k", "_law_deed", "_law_due"]
theorem sc_law : FnScope ["_law_script", "_law_drawn", "_law_stand", "_law_tickets_here", "_law_purses_here", "_law_k", "_law_deed", "_law_due"] ["_law_script"] (defScope s_law) := ⟨rfl, rfl, rfl, by decide +kernel, rfl, by decide +kernel, by decide +kernel⟩
set_option genInjectivity false in
set_option genSizeOf false in
structure Tx (K : PySem.W.Frag) (mg : Str → Option Value) (w : World) where
  is_number : Df K mg "is_number" s_is_number ["thing"]
  is_row : Df K mg "is_row" s_is_row ["thing", "least", "most"]
  common : Df K mg "common" s_common ["one", "other"]
  plus : Df K mg "plus" s_plus ["one", "other"]
  times : Df K mg "times" s_times ["one", "other"]
  turned_about : Df K mg "turned_about" s_turned_about ["one"]
  minus : Df K mg "minus" s_minus ["one", "other"]
  is_fraction : Df K mg "is_fraction" s_is_fraction ["thing"]
  wanted : Df K mg "wanted" s_wanted ["letters", "word"]
  is_saying : Df K mg "is_saying" s_is_saying ["letters", "thing"]
  laid : Df K mg "laid" s_laid ["letters", "word", "world"]
  joint : Df K mg "joint" s_joint ["word", "one", "other"]
  holds : Df K mg "holds" s_holds ["letters", "saying", "world"]
  is_term : Df K mg "is_term" s_is_term ["letters", "thing"]
  is_bet : Df K mg "is_bet" s_is_bet ["letters", "thing"]
  pays : Df K mg "pays" s_pays ["letters", "bet", "world"]
  worlds_over : Df K mg "worlds_over" s_worlds_over ["letters"]
  keeps : Df K mg "keeps" s_keeps ["letters", "rules", "world"]
  worlds_of : Df K mg "worlds_of" s_worlds_of ["house"]
  may_be : Df K mg "may_be" s_may_be ["house", "saying"]
  is_place : Df K mg "is_place" s_is_place ["many", "thing"]
  are_two : Df K mg "are_two" s_are_two ["many", "one", "other"]
  is_above_zero : Df K mg "is_above_zero" s_is_above_zero ["thing"]
  lives : Df K mg "lives" s_lives ["house", "thing"]
  brought : Df K mg "brought" s_brought ["letters", "ticket", "world"]
  ticket_of : Df K mg "ticket_of" s_ticket_of ["tickets", "number"]
  without : Df K mg "without" s_without ["tickets", "gone"]
  exchanged : Df K mg "exchanged" s_exchanged ["tickets", "new"]
  worths_at : Df K mg "worths_at" s_worths_at ["letters", "purses", "tickets", "world"]
  covered : Df K mg "covered" s_covered ["house", "purses", "tickets"]
  sure : Df K mg "sure" s_sure ["stand"]
  few_enough : Df K mg "few_enough" s_few_enough ["tickets"]
  standing : Df K mg "standing" s_standing ["stand", "number"]
  moved : Df K mg "moved" s_moved ["purses", "giver", "taker", "amount"]
  with_ticket : Df K mg "with_ticket" s_with_ticket ["stand", "long", "short", "bet", "price", "stake"]
  dealt : Df K mg "dealt" s_dealt ["stand", "parts"]
  parted : Df K mg "parted" s_parted ["stand", "parts"]
  passed_on : Df K mg "passed_on" s_passed_on ["tickets", "ticket", "holder", "to"]
  handed : Df K mg "handed" s_handed ["stand", "parts"]
  netted : Df K mg "netted" s_netted ["stand", "parts"]
  cleared : Df K mg "cleared" s_cleared ["stand", "parts"]
  posted : Df K mg "posted" s_posted ["stand", "parts"]
  sold : Df K mg "sold" s_sold ["stand", "parts"]
  heard : Df K mg "heard" s_heard ["stand", "parts"]
  is_deed : Df K mg "is_deed" s_is_deed ["thing"]
  done : Df K mg "done" s_done ["stand", "deed"]
  l_draws : Df K mg "_law_draws" s_l_draws ["_law_script"]
  l_next : Df K mg "_law_next" s_l_next ["_law_drawn", "_law_many"]
  l_whole : Df K mg "_law_whole" s_l_whole ["_law_thing"]
  l_lowest : Df K mg "_law_lowest" s_l_lowest ["_law_top", "_law_bottom"]
  l_plus : Df K mg "_law_plus" s_l_plus ["_law_one", "_law_other"]
  l_times : Df K mg "_law_times" s_l_times ["_law_one", "_law_other"]
  l_less : Df K mg "_law_less" s_l_less ["_law_one", "_law_other"]
  l_holds : Df K mg "_law_holds" s_l_holds ["_law_letters", "_law_saying", "_law_world"]
  l_worlds : Df K mg "_law_worlds" s_l_worlds ["_law_house"]
  l_paid : Df K mg "_law_paid" s_l_paid ["_law_letters", "_law_bet", "_law_world"]
  l_table : Df K mg "_law_table" s_l_table ["_law_house", "_law_bet"]
  l_turned : Df K mg "_law_turned" s_l_turned ["_law_one"]
  l_just : Df K mg "_law_just" s_l_just ["_law_thing", "_law_due"]
  l_brings : Df K mg "_law_brings" s_l_brings ["_law_house", "_law_ticket_here"]
  l_worths : Df K mg "_law_worths" s_l_worths ["_law_stand"]
  l_put : Df K mg "_law_put" s_l_put ["_law_row", "_law_at", "_law_thing"]
  l_no_fraction : Df K mg "_law_no_fraction" s_l_no_fraction ["_law_drawn"]
  l_covered : Df K mg "_law_covered" s_l_covered ["_law_stand"]
  l_least : Df K mg "_law_least" s_l_least ["_law_row"]
  l_stake : Df K mg "_law_stake" s_l_stake ["_law_drawn"]
  l_place : Df K mg "_law_place" s_l_place ["_law_drawn"]
  l_simple : Df K mg "_law_simple" s_l_simple ["_law_drawn", "_law_letters"]
  l_wager : Df K mg "_law_wager" s_l_wager ["_law_drawn", "_law_house"]
  l_cost : Df K mg "_law_cost" s_l_cost ["_law_drawn", "_law_table_here"]
  l_ticket : Df K mg "_law_ticket" s_l_ticket ["_law_drawn", "_law_house", "_law_holders", "_law_number"]
  l_tickets : Df K mg "_law_tickets" s_l_tickets ["_law_drawn", "_law_house", "_law_holders", "_law_many"]
  l_purses : Df K mg "_law_purses" s_l_purses ["_law_drawn", "_law_house", "_law_holders", "_law_tickets_here"]
  l_class : Df K mg "_law_class" s_l_class ["_law_error"]
  l_done : Df K mg "_law_done" s_l_done ["_law_stand", "_law_deed"]
  l_is : Df K mg "_law_is" s_l_is ["_law_stand", "_law_deed", "_law_told", "_law_behind"]
  l_two : Df K mg "_law_two" s_l_two ["_law_drawn", "_law_holders"]
  l_bare_stand : Df K mg "_law_bare_stand" s_l_bare_stand ["_law_drawn", "_law_most"]
  l_refused_so : Df K mg "_law_refused_so" s_l_refused_so ["_law_stand", "_law_deed", "_law_dues", "_law_number"]
  l_wrongs : Df K mg "_law_wrongs" s_l_wrongs ["_law_drawn", "_law_many"]
  l_bad : Df K mg "_law_bad" s_l_bad ["_law_wrong", "_law_right", "_law_other"]
  l_dealt : Df K mg "_law_dealt" s_l_dealt ["_law_drawn", "_law_stand"]
  l_moved : Df K mg "_law_moved" s_l_moved ["_law_drawn", "_law_stand"]
  law : Df K mg "law" s_law ["_law_script"]
  m_ValueError : mg "ValueError" = none
  m_abs : mg "abs" = none
  m_all : mg "all" = none
  m_any : mg "any" = none
  m_bool : mg "bool" = none
  m_enumerate : mg "enumerate" = none
  m_int : mg "int" = none
  m_isinstance : mg "isinstance" = none
  m_len : mg "len" = none
  m_list : mg "list" = none
  m_max : mg "max" = none
  m_range : mg "range" = none
  m_sorted : mg "sorted" = none
  m_str : mg "str" = none
  m_sum : mg "sum" = none
  m_tuple : mg "tuple" = none
  m_zip : mg "zip" = none
  a_ZERO : Addr
  g_ZERO : mg "ZERO" = some (.ref a_ZERO)
  s_ZERO : ∀ H, SqT K H a_ZERO [.int 0, .int 1]
  t_MOST_WORDS : Tok
  g_MOST_WORDS : mg "MOST_WORDS" = some (.int 40 t_MOST_WORDS)
  a_JOINING : Addr
  g_JOINING : mg "JOINING" = some (.ref a_JOINING)
  s_JOINING : ∀ H, SqT K H a_JOINING [.str "and", .str "or", .str "same"]
  t_MOST_TERMS : Tok
  g_MOST_TERMS : mg "MOST_TERMS" = some (.int 8 t_MOST_TERMS)
  t_MOST_TICKETS : Tok
  g_MOST_TICKETS : mg "MOST_TICKETS" = some (.int 12 t_MOST_TICKETS)
  a_PARTS : Addr
  g_PARTS : mg "PARTS" = some (.ref a_PARTS)
  d_PARTS : ∃ es n, KDict K w a_PARTS es n
  v_PARTS : ∀ p ∈ ([("deal", 5), ("split", 2), ("hand", 4), ("net", 2), ("clear", 1), ("post", 2), ("sell", 4), ("hear", 1)] : List (Str × Int)), ∃ u, PySem.W.nsIn K a_PARTS p.1 = some (some u) ∧ RelV (.int p.2) u
  a_ACTIONS : Addr
  g_ACTIONS : mg "ACTIONS" = some (.ref a_ACTIONS)
  d_ACTIONS : ∃ es n, KDict K w a_ACTIONS es n
  v_ACTIONS : ∀ p ∈ ([("deal", dealt.f), ("split", parted.f), ("hand", handed.f), ("net", netted.f), ("clear", cleared.f), ("post", posted.f), ("sell", sold.f), ("hear", heard.f)] : List (Str × Addr)), ∃ u, PySem.W.nsIn K a_ACTIONS p.1 = some (some u) ∧ RelV (.ref p.2) u
  x_StallError : Xc K mg "StallError"
  x_TooLong : Xc K mg "TooLong"
  x_TooMany : Xc K mg "TooMany"
  x_NoWorld : Xc K mg "NoWorld"
  x_NotAlike : Xc K mg "NotAlike"
  x_Unfair : Xc K mg "Unfair"
  x_Fair : Xc K mg "Fair"
  x_NoBet : Xc K mg "NoBet"
  x_NoHolder : Xc K mg "NoHolder"
  x_NoStake : Xc K mg "NoStake"
  x_NoTicket : Xc K mg "NoTicket"
  x_NoCover : Xc K mg "NoCover"
  x_NoSaying : Xc K mg "NoSaying"
  x_NoDeed : Xc K mg "NoDeed"
  x_NoStep : Xc K mg "NoStep"
  x_NoText : Xc K mg "NoText"
  i_NoBet_StallError : PySem.W.subIn K (.ref x_NoBet.C) (.ref x_StallError.C) = some true
  i_NoBet_TooLong : PySem.W.subIn K (.ref x_NoBet.C) (.ref x_TooLong.C) = some false
  i_NoBet_TooMany : PySem.W.subIn K (.ref x_NoBet.C) (.ref x_TooMany.C) = some false
  i_NoBet_NoWorld : PySem.W.subIn K (.ref x_NoBet.C) (.ref x_NoWorld.C) = some false
  i_NoBet_NotAlike : PySem.W.subIn K (.ref x_NoBet.C) (.ref x_NotAlike.C) = some false
  i_NoBet_Unfair : PySem.W.subIn K (.ref x_NoBet.C) (.ref x_Unfair.C) = some false
  i_NoBet_Fair : PySem.W.subIn K (.ref x_NoBet.C) (.ref x_Fair.C) = some false
  i_NoBet_NoBet : PySem.W.subIn K (.ref x_NoBet.C) (.ref x_NoBet.C) = some true
  i_NoBet_NoHolder : PySem.W.subIn K (.ref x_NoBet.C) (.ref x_NoHolder.C) = some false
  i_NoBet_NoStake : PySem.W.subIn K (.ref x_NoBet.C) (.ref x_NoStake.C) = some false
  i_NoBet_NoTicket : PySem.W.subIn K (.ref x_NoBet.C) (.ref x_NoTicket.C) = some false
  i_NoBet_NoCover : PySem.W.subIn K (.ref x_NoBet.C) (.ref x_NoCover.C) = some false
  i_NoBet_NoSaying : PySem.W.subIn K (.ref x_NoBet.C) (.ref x_NoSaying.C) = some false
  i_NoBet_NoDeed : PySem.W.subIn K (.ref x_NoBet.C) (.ref x_NoDeed.C) = some false
  i_NoBet_NoStep : PySem.W.subIn K (.ref x_NoBet.C) (.ref x_NoStep.C) = some false
  i_NoBet_NoText : PySem.W.subIn K (.ref x_NoBet.C) (.ref x_NoText.C) = some false
  v_NoBet : PySem.W.subIn K (.ref x_NoBet.C) (.type "ValueError") = some true
  i_NoCover_StallError : PySem.W.subIn K (.ref x_NoCover.C) (.ref x_StallError.C) = some true
  i_NoCover_TooLong : PySem.W.subIn K (.ref x_NoCover.C) (.ref x_TooLong.C) = some false
  i_NoCover_TooMany : PySem.W.subIn K (.ref x_NoCover.C) (.ref x_TooMany.C) = some false
  i_NoCover_NoWorld : PySem.W.subIn K (.ref x_NoCover.C) (.ref x_NoWorld.C) = some false
  i_NoCover_NotAlike : PySem.W.subIn K (.ref x_NoCover.C) (.ref x_NotAlike.C) = some false
  i_NoCover_Unfair : PySem.W.subIn K (.ref x_NoCover.C) (.ref x_Unfair.C) = some false
  i_NoCover_Fair : PySem.W.subIn K (.ref x_NoCover.C) (.ref x_Fair.C) = some false
  i_NoCover_NoBet : PySem.W.subIn K (.ref x_NoCover.C) (.ref x_NoBet.C) = some false
  i_NoCover_NoHolder : PySem.W.subIn K (.ref x_NoCover.C) (.ref x_NoHolder.C) = some false
  i_NoCover_NoStake : PySem.W.subIn K (.ref x_NoCover.C) (.ref x_NoStake.C) = some false
  i_NoCover_NoTicket : PySem.W.subIn K (.ref x_NoCover.C) (.ref x_NoTicket.C) = some false
  i_NoCover_NoCover : PySem.W.subIn K (.ref x_NoCover.C) (.ref x_NoCover.C) = some true
  i_NoCover_NoSaying : PySem.W.subIn K (.ref x_NoCover.C) (.ref x_NoSaying.C) = some false
  i_NoCover_NoDeed : PySem.W.subIn K (.ref x_NoCover.C) (.ref x_NoDeed.C) = some false
  i_NoCover_NoStep : PySem.W.subIn K (.ref x_NoCover.C) (.ref x_NoStep.C) = some false
  i_NoCover_NoText : PySem.W.subIn K (.ref x_NoCover.C) (.ref x_NoText.C) = some false
  v_NoCover : PySem.W.subIn K (.ref x_NoCover.C) (.type "ValueError") = some true
  i_NoDeed_StallError : PySem.W.subIn K (.ref x_NoDeed.C) (.ref x_StallError.C) = some true
  i_NoDeed_TooLong : PySem.W.subIn K (.ref x_NoDeed.C) (.ref x_TooLong.C) = some false
  i_NoDeed_TooMany : PySem.W.subIn K (.ref x_NoDeed.C) (.ref x_TooMany.C) = some false
  i_NoDeed_NoWorld : PySem.W.subIn K (.ref x_NoDeed.C) (.ref x_NoWorld.C) = some false
  i_NoDeed_NotAlike : PySem.W.subIn K (.ref x_NoDeed.C) (.ref x_NotAlike.C) = some false
  i_NoDeed_Unfair : PySem.W.subIn K (.ref x_NoDeed.C) (.ref x_Unfair.C) = some false
  i_NoDeed_Fair : PySem.W.subIn K (.ref x_NoDeed.C) (.ref x_Fair.C) = some false
  i_NoDeed_NoBet : PySem.W.subIn K (.ref x_NoDeed.C) (.ref x_NoBet.C) = some false
  i_NoDeed_NoHolder : PySem.W.subIn K (.ref x_NoDeed.C) (.ref x_NoHolder.C) = some false
  i_NoDeed_NoStake : PySem.W.subIn K (.ref x_NoDeed.C) (.ref x_NoStake.C) = some false
  i_NoDeed_NoTicket : PySem.W.subIn K (.ref x_NoDeed.C) (.ref x_NoTicket.C) = some false
  i_NoDeed_NoCover : PySem.W.subIn K (.ref x_NoDeed.C) (.ref x_NoCover.C) = some false
  i_NoDeed_NoSaying : PySem.W.subIn K (.ref x_NoDeed.C) (.ref x_NoSaying.C) = some false
  i_NoDeed_NoDeed : PySem.W.subIn K (.ref x_NoDeed.C) (.ref x_NoDeed.C) = some true
  i_NoDeed_NoStep : PySem.W.subIn K (.ref x_NoDeed.C) (.ref x_NoStep.C) = some false
  i_NoDeed_NoText : PySem.W.subIn K (.ref x_NoDeed.C) (.ref x_NoText.C) = some false
  v_NoDeed : PySem.W.subIn K (.ref x_NoDeed.C) (.type "ValueError") = some true
  i_NoHolder_StallError : PySem.W.subIn K (.ref x_NoHolder.C) (.ref x_StallError.C) = some true
  i_NoHolder_TooLong : PySem.W.subIn K (.ref x_NoHolder.C) (.ref x_TooLong.C) = some false
  i_NoHolder_TooMany : PySem.W.subIn K (.ref x_NoHolder.C) (.ref x_TooMany.C) = some false
  i_NoHolder_NoWorld : PySem.W.subIn K (.ref x_NoHolder.C) (.ref x_NoWorld.C) = some false
  i_NoHolder_NotAlike : PySem.W.subIn K (.ref x_NoHolder.C) (.ref x_NotAlike.C) = some false
  i_NoHolder_Unfair : PySem.W.subIn K (.ref x_NoHolder.C) (.ref x_Unfair.C) = some false
  i_NoHolder_Fair : PySem.W.subIn K (.ref x_NoHolder.C) (.ref x_Fair.C) = some false
  i_NoHolder_NoBet : PySem.W.subIn K (.ref x_NoHolder.C) (.ref x_NoBet.C) = some false
  i_NoHolder_NoHolder : PySem.W.subIn K (.ref x_NoHolder.C) (.ref x_NoHolder.C) = some true
  i_NoHolder_NoStake : PySem.W.subIn K (.ref x_NoHolder.C) (.ref x_NoStake.C) = some false
  i_NoHolder_NoTicket : PySem.W.subIn K (.ref x_NoHolder.C) (.ref x_NoTicket.C) = some false
  i_NoHolder_NoCover : PySem.W.subIn K (.ref x_NoHolder.C) (.ref x_NoCover.C) = some false
  i_NoHolder_NoSaying : PySem.W.subIn K (.ref x_NoHolder.C) (.ref x_NoSaying.C) = some false
  i_NoHolder_NoDeed : PySem.W.subIn K (.ref x_NoHolder.C) (.ref x_NoDeed.C) = some false
  i_NoHolder_NoStep : PySem.W.subIn K (.ref x_NoHolder.C) (.ref x_NoStep.C) = some false
  i_NoHolder_NoText : PySem.W.subIn K (.ref x_NoHolder.C) (.ref x_NoText.C) = some false
  v_NoHolder : PySem.W.subIn K (.ref x_NoHolder.C) (.type "ValueError") = some true
  i_NoSaying_StallError : PySem.W.subIn K (.ref x_NoSaying.C) (.ref x_StallError.C) = some true
  i_NoSaying_TooLong : PySem.W.subIn K (.ref x_NoSaying.C) (.ref x_TooLong.C) = some false
  i_NoSaying_TooMany : PySem.W.subIn K (.ref x_NoSaying.C) (.ref x_TooMany.C) = some false
  i_NoSaying_NoWorld : PySem.W.subIn K (.ref x_NoSaying.C) (.ref x_NoWorld.C) = some false
  i_NoSaying_NotAlike : PySem.W.subIn K (.ref x_NoSaying.C) (.ref x_NotAlike.C) = some false
  i_NoSaying_Unfair : PySem.W.subIn K (.ref x_NoSaying.C) (.ref x_Unfair.C) = some false
  i_NoSaying_Fair : PySem.W.subIn K (.ref x_NoSaying.C) (.ref x_Fair.C) = some false
  i_NoSaying_NoBet : PySem.W.subIn K (.ref x_NoSaying.C) (.ref x_NoBet.C) = some false
  i_NoSaying_NoHolder : PySem.W.subIn K (.ref x_NoSaying.C) (.ref x_NoHolder.C) = some false
  i_NoSaying_NoStake : PySem.W.subIn K (.ref x_NoSaying.C) (.ref x_NoStake.C) = some false
  i_NoSaying_NoTicket : PySem.W.subIn K (.ref x_NoSaying.C) (.ref x_NoTicket.C) = some false
  i_NoSaying_NoCover : PySem.W.subIn K (.ref x_NoSaying.C) (.ref x_NoCover.C) = some false
  i_NoSaying_NoSaying : PySem.W.subIn K (.ref x_NoSaying.C) (.ref x_NoSaying.C) = some true
  i_NoSaying_NoDeed : PySem.W.subIn K (.ref x_NoSaying.C) (.ref x_NoDeed.C) = some false
  i_NoSaying_NoStep : PySem.W.subIn K (.ref x_NoSaying.C) (.ref x_NoStep.C) = some false
  i_NoSaying_NoText : PySem.W.subIn K (.ref x_NoSaying.C) (.ref x_NoText.C) = some false
  v_NoSaying : PySem.W.subIn K (.ref x_NoSaying.C) (.type "ValueError") = some true
  i_NoStake_StallError : PySem.W.subIn K (.ref x_NoStake.C) (.ref x_StallError.C) = some true
  i_NoStake_TooLong : PySem.W.subIn K (.ref x_NoStake.C) (.ref x_TooLong.C) = some false
  i_NoStake_TooMany : PySem.W.subIn K (.ref x_NoStake.C) (.ref x_TooMany.C) = some false
  i_NoStake_NoWorld : PySem.W.subIn K (.ref x_NoStake.C) (.ref x_NoWorld.C) = some false
  i_NoStake_NotAlike : PySem.W.subIn K (.ref x_NoStake.C) (.ref x_NotAlike.C) = some false
  i_NoStake_Unfair : PySem.W.subIn K (.ref x_NoStake.C) (.ref x_Unfair.C) = some false
  i_NoStake_Fair : PySem.W.subIn K (.ref x_NoStake.C) (.ref x_Fair.C) = some false
  i_NoStake_NoBet : PySem.W.subIn K (.ref x_NoStake.C) (.ref x_NoBet.C) = some false
  i_NoStake_NoHolder : PySem.W.subIn K (.ref x_NoStake.C) (.ref x_NoHolder.C) = some false
  i_NoStake_NoStake : PySem.W.subIn K (.ref x_NoStake.C) (.ref x_NoStake.C) = some true
  i_NoStake_NoTicket : PySem.W.subIn K (.ref x_NoStake.C) (.ref x_NoTicket.C) = some false
  i_NoStake_NoCover : PySem.W.subIn K (.ref x_NoStake.C) (.ref x_NoCover.C) = some false
  i_NoStake_NoSaying : PySem.W.subIn K (.ref x_NoStake.C) (.ref x_NoSaying.C) = some false
  i_NoStake_NoDeed : PySem.W.subIn K (.ref x_NoStake.C) (.ref x_NoDeed.C) = some false
  i_NoStake_NoStep : PySem.W.subIn K (.ref x_NoStake.C) (.ref x_NoStep.C) = some false
  i_NoStake_NoText : PySem.W.subIn K (.ref x_NoStake.C) (.ref x_NoText.C) = some false
  v_NoStake : PySem.W.subIn K (.ref x_NoStake.C) (.type "ValueError") = some true
  i_NoTicket_StallError : PySem.W.subIn K (.ref x_NoTicket.C) (.ref x_StallError.C) = some true
  i_NoTicket_TooLong : PySem.W.subIn K (.ref x_NoTicket.C) (.ref x_TooLong.C) = some false
  i_NoTicket_TooMany : PySem.W.subIn K (.ref x_NoTicket.C) (.ref x_TooMany.C) = some false
  i_NoTicket_NoWorld : PySem.W.subIn K (.ref x_NoTicket.C) (.ref x_NoWorld.C) = some false
  i_NoTicket_NotAlike : PySem.W.subIn K (.ref x_NoTicket.C) (.ref x_NotAlike.C) = some false
  i_NoTicket_Unfair : PySem.W.subIn K (.ref x_NoTicket.C) (.ref x_Unfair.C) = some false
  i_NoTicket_Fair : PySem.W.subIn K (.ref x_NoTicket.C) (.ref x_Fair.C) = some false
  i_NoTicket_NoBet : PySem.W.subIn K (.ref x_NoTicket.C) (.ref x_NoBet.C) = some false
  i_NoTicket_NoHolder : PySem.W.subIn K (.ref x_NoTicket.C) (.ref x_NoHolder.C) = some false
  i_NoTicket_NoStake : PySem.W.subIn K (.ref x_NoTicket.C) (.ref x_NoStake.C) = some false
  i_NoTicket_NoTicket : PySem.W.subIn K (.ref x_NoTicket.C) (.ref x_NoTicket.C) = some true
  i_NoTicket_NoCover : PySem.W.subIn K (.ref x_NoTicket.C) (.ref x_NoCover.C) = some false
  i_NoTicket_NoSaying : PySem.W.subIn K (.ref x_NoTicket.C) (.ref x_NoSaying.C) = some false
  i_NoTicket_NoDeed : PySem.W.subIn K (.ref x_NoTicket.C) (.ref x_NoDeed.C) = some false
  i_NoTicket_NoStep : PySem.W.subIn K (.ref x_NoTicket.C) (.ref x_NoStep.C) = some false
  i_NoTicket_NoText : PySem.W.subIn K (.ref x_NoTicket.C) (.ref x_NoText.C) = some false
  v_NoTicket : PySem.W.subIn K (.ref x_NoTicket.C) (.type "ValueError") = some true
  i_NotAlike_StallError : PySem.W.subIn K (.ref x_NotAlike.C) (.ref x_StallError.C) = some true
  i_NotAlike_TooLong : PySem.W.subIn K (.ref x_NotAlike.C) (.ref x_TooLong.C) = some false
  i_NotAlike_TooMany : PySem.W.subIn K (.ref x_NotAlike.C) (.ref x_TooMany.C) = some false
  i_NotAlike_NoWorld : PySem.W.subIn K (.ref x_NotAlike.C) (.ref x_NoWorld.C) = some false
  i_NotAlike_NotAlike : PySem.W.subIn K (.ref x_NotAlike.C) (.ref x_NotAlike.C) = some true
  i_NotAlike_Unfair : PySem.W.subIn K (.ref x_NotAlike.C) (.ref x_Unfair.C) = some false
  i_NotAlike_Fair : PySem.W.subIn K (.ref x_NotAlike.C) (.ref x_Fair.C) = some false
  i_NotAlike_NoBet : PySem.W.subIn K (.ref x_NotAlike.C) (.ref x_NoBet.C) = some false
  i_NotAlike_NoHolder : PySem.W.subIn K (.ref x_NotAlike.C) (.ref x_NoHolder.C) = some false
  i_NotAlike_NoStake : PySem.W.subIn K (.ref x_NotAlike.C) (.ref x_NoStake.C) = some false
  i_NotAlike_NoTicket : PySem.W.subIn K (.ref x_NotAlike.C) (.ref x_NoTicket.C) = some false
  i_NotAlike_NoCover : PySem.W.subIn K (.ref x_NotAlike.C) (.ref x_NoCover.C) = some false
  i_NotAlike_NoSaying : PySem.W.subIn K (.ref x_NotAlike.C) (.ref x_NoSaying.C) = some false
  i_NotAlike_NoDeed : PySem.W.subIn K (.ref x_NotAlike.C) (.ref x_NoDeed.C) = some false
  i_NotAlike_NoStep : PySem.W.subIn K (.ref x_NotAlike.C) (.ref x_NoStep.C) = some false
  i_NotAlike_NoText : PySem.W.subIn K (.ref x_NotAlike.C) (.ref x_NoText.C) = some false
  v_NotAlike : PySem.W.subIn K (.ref x_NotAlike.C) (.type "ValueError") = some true
  i_TooMany_StallError : PySem.W.subIn K (.ref x_TooMany.C) (.ref x_StallError.C) = some true
  i_TooMany_TooLong : PySem.W.subIn K (.ref x_TooMany.C) (.ref x_TooLong.C) = some false
  i_TooMany_TooMany : PySem.W.subIn K (.ref x_TooMany.C) (.ref x_TooMany.C) = some true
  i_TooMany_NoWorld : PySem.W.subIn K (.ref x_TooMany.C) (.ref x_NoWorld.C) = some false
  i_TooMany_NotAlike : PySem.W.subIn K (.ref x_TooMany.C) (.ref x_NotAlike.C) = some false
  i_TooMany_Unfair : PySem.W.subIn K (.ref x_TooMany.C) (.ref x_Unfair.C) = some false
  i_TooMany_Fair : PySem.W.subIn K (.ref x_TooMany.C) (.ref x_Fair.C) = some false
  i_TooMany_NoBet : PySem.W.subIn K (.ref x_TooMany.C) (.ref x_NoBet.C) = some false
  i_TooMany_NoHolder : PySem.W.subIn K (.ref x_TooMany.C) (.ref x_NoHolder.C) = some false
  i_TooMany_NoStake : PySem.W.subIn K (.ref x_TooMany.C) (.ref x_NoStake.C) = some false
  i_TooMany_NoTicket : PySem.W.subIn K (.ref x_TooMany.C) (.ref x_NoTicket.C) = some false
  i_TooMany_NoCover : PySem.W.subIn K (.ref x_TooMany.C) (.ref x_NoCover.C) = some false
  i_TooMany_NoSaying : PySem.W.subIn K (.ref x_TooMany.C) (.ref x_NoSaying.C) = some false
  i_TooMany_NoDeed : PySem.W.subIn K (.ref x_TooMany.C) (.ref x_NoDeed.C) = some false
  i_TooMany_NoStep : PySem.W.subIn K (.ref x_TooMany.C) (.ref x_NoStep.C) = some false
  i_TooMany_NoText : PySem.W.subIn K (.ref x_TooMany.C) (.ref x_NoText.C) = some false
  v_TooMany : PySem.W.subIn K (.ref x_TooMany.C) (.type "ValueError") = some true
end B
namespace B
open PySem PySem.Spec PyProof.Rows L2
def lt_ns0 : List Str := ["is_number", "is_row", "common", "plus", "times", "turned_about", "minus", "is_fraction", "wanted", "is_saying", "laid", "joint"]
def lt_ns1 : List Str := ["holds", "is_term", "is_bet", "pays", "worlds_over", "keeps", "worlds_of", "may_be", "is_place", "are_two", "is_above_zero", "lives"]
def lt_ns2 : List Str := ["brought", "ticket_of", "without", "exchanged", "worths_at", "covered", "sure", "few_enough", "standing", "moved", "with_ticket", "dealt"]
def lt_ns3 : List Str := ["parted", "passed_on", "handed", "netted", "cleared", "posted", "sold", "heard", "is_deed", "done", "_law_draws", "_law_next"]
def lt_ns4 : List Str := ["_law_whole", "_law_lowest", "_law_plus", "_law_times", "_law_less", "_law_holds", "_law_worlds", "_law_paid", "_law_table", "_law_turned", "_law_just", "_law_brings"]
def lt_ns5 : List Str := ["_law_worths", "_law_put", "_law_no_fraction", "_law_covered", "_law_least", "_law_stake", "_law_place", "_law_simple", "_law_wager", "_law_cost", "_law_ticket", "_law_tickets"]
def lt_ns6 : List Str := ["_law_purses", "_law_class", "_law_done", "_law_is", "_law_two", "_law_bare_stand", "_law_refused_so", "_law_wrongs", "_law_bad", "_law_dealt", "_law_moved", "law"]
def lt_ns7 : List Str := ["ZERO", "JOINING", "PARTS", "ACTIONS"]
def lt_ns : List Str := lt_ns0 ++ lt_ns1 ++ lt_ns2 ++ lt_ns3 ++ lt_ns4 ++ lt_ns5 ++ lt_ns6 ++ lt_ns7
def lt_cs0 : List Str := ["StallError", "TooLong", "TooMany", "NoWorld", "NotAlike", "Unfair", "Fair", "NoBet", "NoHolder", "NoStake", "NoTicket", "NoCover"]
def lt_cs1 : List Str := ["NoSaying", "NoDeed", "NoStep", "NoText"]
def lt_cs : List Str := lt_cs0 ++ lt_cs1
def lt_fa0 : List He.Fa := [.glo "is_number", .glo "is_row", .glo "common", .glo "plus", .glo "times", .glo "turned_about", .glo "minus", .glo "is_fraction", .glo "wanted", .glo "is_saying", .glo "laid", .glo "joint"]
def lt_fa1 : List He.Fa := [.glo "holds", .glo "is_term", .glo "is_bet", .glo "pays", .glo "worlds_over", .glo "keeps", .glo "worlds_of", .glo "may_be", .glo "is_place", .glo "are_two", .glo "is_above_zero", .glo "lives"]
def lt_fa2 : List He.Fa := [.glo "brought", .glo "ticket_of", .glo "without", .glo "exchanged", .glo "worths_at", .glo "covered", .glo "sure", .glo "few_enough", .glo "standing", .glo "moved", .glo "with_ticket", .glo "dealt"]
def lt_fa3 : List He.Fa := [.glo "parted", .glo "passed_on", .glo "handed", .glo "netted", .glo "cleared", .glo "posted", .glo "sold", .glo "heard", .glo "is_deed", .glo "done", .glo "_law_draws", .glo "_law_next"]
def lt_fa4 : List He.Fa := [.glo "_law_whole", .glo "_law_lowest", .glo "_law_plus", .glo "_law_times", .glo "_law_less", .glo "_law_holds", .glo "_law_worlds", .glo "_law_paid", .glo "_law_table", .glo "_law_turned", .glo "_law_just", .glo "_law_brings"]
def lt_fa5 : List He.Fa := [.glo "_law_worths", .glo "_law_put", .glo "_law_no_fraction", .glo "_law_covered", .glo "_law_least", .glo "_law_stake", .glo "_law_place", .glo "_law_simple", .glo "_law_wager", .glo "_law_cost", .glo "_law_ticket", .glo "_law_tickets"]
def lt_fa6 : List He.Fa := [.glo "_law_purses", .glo "_law_class", .glo "_law_done", .glo "_law_is", .glo "_law_two", .glo "_law_bare_stand", .glo "_law_refused_so", .glo "_law_wrongs", .glo "_law_bad", .glo "_law_dealt", .glo "_law_moved", .glo "law"]
def lt_fa7 : List He.Fa := [.free "ValueError", .free "abs", .free "all", .free "any", .free "bool", .free "enumerate", .free "int", .free "isinstance", .free "len", .free "list", .free "max", .free "range"]
def lt_fa8 : List He.Fa := [.free "sorted", .free "str", .free "sum", .free "tuple", .free "zip", .glo "ZERO", .int "MOST_WORDS" 40, .glo "JOINING", .int "MOST_TERMS" 8, .int "MOST_TICKETS" 12, .glo "PARTS", .glo "ACTIONS"]
def lt_fa : List He.Fa := lt_fa0 ++ lt_fa1 ++ lt_fa2 ++ lt_fa3 ++ lt_fa4 ++ lt_fa5 ++ lt_fa6 ++ lt_fa7 ++ lt_fa8
def lt_fn0 : List He.DefD := [⟨("is_number", none), "is_number", "is_number", defArgs s_is_number, defBody s_is_number, defScope s_is_number, [], []⟩, ⟨("is_row", none), "is_row", "is_row", defArgs s_is_row, defBody s_is_row, defScope s_is_row, [], []⟩, ⟨("common", none), "common", "common", defArgs s_common, defBody s_common, defScope s_common, [], []⟩, ⟨("plus", none), "plus", "plus", defArgs s_plus, defBody s_plus, defScope s_plus, [], []⟩, ⟨("times", none), "times", "times", defArgs s_times, defBody s_times, defScope s_times, [], []⟩, ⟨("turned_about", none), "turned_about", "turned_about", defArgs s_turned_about, defBody s_turned_about, defScope s_turned_about, [], []⟩, ⟨("minus", none), "minus", "minus", defArgs s_minus, defBody s_minus, defScope s_minus, [], []⟩, ⟨("is_fraction", none), "is_fraction", "is_fraction", defArgs s_is_fraction, defBody s_is_fraction, defScope s_is_fraction, [], []⟩, ⟨("wanted", none), "wanted", "wanted", defArgs s_wanted, defBody s_wanted, defScope s_wanted, [], []⟩, ⟨("is_saying", none), "is_saying", "is_saying", defArgs s_is_saying, defBody s_is_saying, defScope s_is_saying, [], []⟩, ⟨("laid", none), "laid", "laid", defArgs s_laid, defBody s_laid, defScope s_laid, [], []⟩, ⟨("joint", none), "joint", "joint", defArgs s_joint, defBody s_joint, defScope s_joint, [], []⟩]
def lt_fn1 : List He.DefD := [⟨("holds", none), "holds", "holds", defArgs s_holds, defBody s_holds, defScope s_holds, [], []⟩, ⟨("is_term", none), "is_term", "is_term", defArgs s_is_term, defBody s_is_term, defScope s_is_term, [], []⟩, ⟨("is_bet", none), "is_bet", "is_bet", defArgs s_is_bet, defBody s_is_bet, defScope s_is_bet, [], []⟩, ⟨("pays", none), "pays", "pays", defArgs s_pays, defBody s_pays, defScope s_pays, [], []⟩, ⟨("worlds_over", none), "worlds_over", "worlds_over", defArgs s_worlds_over, defBody s_worlds_over, defScope s_worlds_over, [], []⟩, ⟨("keeps", none), "keeps", "keeps", defArgs s_keeps, defBody s_keeps, defScope s_keeps, [], []⟩, ⟨("worlds_of", none), "worlds_of", "worlds_of", defArgs s_worlds_of, defBody s_worlds_of, defScope s_worlds_of, [], []⟩, ⟨("may_be", none), "may_be", "may_be", defArgs s_may_be, defBody s_may_be, defScope s_may_be, [], []⟩, ⟨("is_place", none), "is_place", "is_place", defArgs s_is_place, defBody s_is_place, defScope s_is_place, [], []⟩, ⟨("are_two", none), "are_two", "are_two", defArgs s_are_two, defBody s_are_two, defScope s_are_two, [], []⟩, ⟨("is_above_zero", none), "is_above_zero", "is_above_zero", defArgs s_is_above_zero, defBody s_is_above_zero, defScope s_is_above_zero, [], []⟩, ⟨("lives", none), "lives", "lives", defArgs s_lives, defBody s_lives, defScope s_lives, [], []⟩]
def lt_fn2 : List He.DefD := [⟨("brought", none), "brought", "brought", defArgs s_brought, defBody s_brought, defScope s_brought, [], []⟩, ⟨("ticket_of", none), "ticket_of", "ticket_of", defArgs s_ticket_of, defBody s_ticket_of, defScope s_ticket_of, [], []⟩, ⟨("without", none), "without", "without", defArgs s_without, defBody s_without, defScope s_without, [], []⟩, ⟨("exchanged", none), "exchanged", "exchanged", defArgs s_exchanged, defBody s_exchanged, defScope s_exchanged, [], []⟩, ⟨("worths_at", none), "worths_at", "worths_at", defArgs s_worths_at, defBody s_worths_at, defScope s_worths_at, [], []⟩, ⟨("covered", none), "covered", "covered", defArgs s_covered, defBody s_covered, defScope s_covered, [], []⟩, ⟨("sure", none), "sure", "sure", defArgs s_sure, defBody s_sure, defScope s_sure, [], []⟩, ⟨("few_enough", none), "few_enough", "few_enough", defArgs s_few_enough, defBody s_few_enough, defScope s_few_enough, [], []⟩, ⟨("standing", none), "standing", "standing", defArgs s_standing, defBody s_standing, defScope s_standing, [], []⟩, ⟨("moved", none), "moved", "moved", defArgs s_moved, defBody s_moved, defScope s_moved, [], []⟩, ⟨("with_ticket", none), "with_ticket", "with_ticket", defArgs s_with_ticket, defBody s_with_ticket, defScope s_with_ticket, [], []⟩, ⟨("dealt", none), "dealt", "dealt", defArgs s_dealt, defBody s_dealt, defScope s_dealt, [], []⟩]
def lt_fn3 : List He.DefD := [⟨("parted", none), "parted", "parted", defArgs s_parted, defBody s_parted, defScope s_parted, [], []⟩, ⟨("passed_on", none), "passed_on", "passed_on", defArgs s_passed_on, defBody s_passed_on, defScope s_passed_on, [], []⟩, ⟨("handed", none), "handed", "handed", defArgs s_handed, defBody s_handed, defScope s_handed, [], []⟩, ⟨("netted", none), "netted", "netted", defArgs s_netted, defBody s_netted, defScope s_netted, [], []⟩, ⟨("cleared", none), "cleared", "cleared", defArgs s_cleared, defBody s_cleared, defScope s_cleared, [], []⟩, ⟨("posted", none), "posted", "posted", defArgs s_posted, defBody s_posted, defScope s_posted, [], []⟩, ⟨("sold", none), "sold", "sold", defArgs s_sold, defBody s_sold, defScope s_sold, [], []⟩, ⟨("heard", none), "heard", "heard", defArgs s_heard, defBody s_heard, defScope s_heard, [], []⟩, ⟨("is_deed", none), "is_deed", "is_deed", defArgs s_is_deed, defBody s_is_deed, defScope s_is_deed, [], []⟩, ⟨("done", none), "done", "done", defArgs s_done, defBody s_done, defScope s_done, [], []⟩, ⟨("_law_draws", none), "_law_draws", "_law_draws", defArgs s_l_draws, defBody s_l_draws, defScope s_l_draws, [], []⟩, ⟨("_law_next", none), "_law_next", "_law_next", defArgs s_l_next, defBody s_l_next, defScope s_l_next, [], []⟩]
def lt_fn4 : List He.DefD := [⟨("_law_whole", none), "_law_whole", "_law_whole", defArgs s_l_whole, defBody s_l_whole, defScope s_l_whole, [], []⟩, ⟨("_law_lowest", none), "_law_lowest", "_law_lowest", defArgs s_l_lowest, defBody s_l_lowest, defScope s_l_lowest, [], []⟩, ⟨("_law_plus", none), "_law_plus", "_law_plus", defArgs s_l_plus, defBody s_l_plus, defScope s_l_plus, [], []⟩, ⟨("_law_times", none), "_law_times", "_law_times", defArgs s_l_times, defBody s_l_times, defScope s_l_times, [], []⟩, ⟨("_law_less", none), "_law_less", "_law_less", defArgs s_l_less, defBody s_l_less, defScope s_l_less, [], []⟩, ⟨("_law_holds", none), "_law_holds", "_law_holds", defArgs s_l_holds, defBody s_l_holds, defScope s_l_holds, [], []⟩, ⟨("_law_worlds", none), "_law_worlds", "_law_worlds", defArgs s_l_worlds, defBody s_l_worlds, defScope s_l_worlds, [], []⟩, ⟨("_law_paid", none), "_law_paid", "_law_paid", defArgs s_l_paid, defBody s_l_paid, defScope s_l_paid, [], []⟩, ⟨("_law_table", none), "_law_table", "_law_table", defArgs s_l_table, defBody s_l_table, defScope s_l_table, [], []⟩, ⟨("_law_turned", none), "_law_turned", "_law_turned", defArgs s_l_turned, defBody s_l_turned, defScope s_l_turned, [], []⟩, ⟨("_law_just", none), "_law_just", "_law_just", defArgs s_l_just, defBody s_l_just, defScope s_l_just, [], []⟩, ⟨("_law_brings", none), "_law_brings", "_law_brings", defArgs s_l_brings, defBody s_l_brings, defScope s_l_brings, [], []⟩]
def lt_fn5 : List He.DefD := [⟨("_law_worths", none), "_law_worths", "_law_worths", defArgs s_l_worths, defBody s_l_worths, defScope s_l_worths, [], []⟩, ⟨("_law_put", none), "_law_put", "_law_put", defArgs s_l_put, defBody s_l_put, defScope s_l_put, [], []⟩, ⟨("_law_no_fraction", none), "_law_no_fraction", "_law_no_fraction", defArgs s_l_no_fraction, defBody s_l_no_fraction, defScope s_l_no_fraction, [], []⟩, ⟨("_law_covered", none), "_law_covered", "_law_covered", defArgs s_l_covered, defBody s_l_covered, defScope s_l_covered, [], []⟩, ⟨("_law_least", none), "_law_least", "_law_least", defArgs s_l_least, defBody s_l_least, defScope s_l_least, [], []⟩, ⟨("_law_stake", none), "_law_stake", "_law_stake", defArgs s_l_stake, defBody s_l_stake, defScope s_l_stake, [], []⟩, ⟨("_law_place", none), "_law_place", "_law_place", defArgs s_l_place, defBody s_l_place, defScope s_l_place, [], []⟩, ⟨("_law_simple", none), "_law_simple", "_law_simple", defArgs s_l_simple, defBody s_l_simple, defScope s_l_simple, [], []⟩, ⟨("_law_wager", none), "_law_wager", "_law_wager", defArgs s_l_wager, defBody s_l_wager, defScope s_l_wager, [], []⟩, ⟨("_law_cost", none), "_law_cost", "_law_cost", defArgs s_l_cost, defBody s_l_cost, defScope s_l_cost, [], []⟩, ⟨("_law_ticket", none), "_law_ticket", "_law_ticket", defArgs s_l_ticket, defBody s_l_ticket, defScope s_l_ticket, [], []⟩, ⟨("_law_tickets", none), "_law_tickets", "_law_tickets", defArgs s_l_tickets, defBody s_l_tickets, defScope s_l_tickets, [], []⟩]
def lt_fn6 : List He.DefD := [⟨("_law_purses", none), "_law_purses", "_law_purses", defArgs s_l_purses, defBody s_l_purses, defScope s_l_purses, [], []⟩, ⟨("_law_class", none), "_law_class", "_law_class", defArgs s_l_class, defBody s_l_class, defScope s_l_class, [], []⟩, ⟨("_law_done", none), "_law_done", "_law_done", defArgs s_l_done, defBody s_l_done, defScope s_l_done, [], []⟩, ⟨("_law_is", none), "_law_is", "_law_is", defArgs s_l_is, defBody s_l_is, defScope s_l_is, [], []⟩, ⟨("_law_two", none), "_law_two", "_law_two", defArgs s_l_two, defBody s_l_two, defScope s_l_two, [], []⟩, ⟨("_law_bare_stand", none), "_law_bare_stand", "_law_bare_stand", defArgs s_l_bare_stand, defBody s_l_bare_stand, defScope s_l_bare_stand, [], []⟩, ⟨("_law_refused_so", none), "_law_refused_so", "_law_refused_so", defArgs s_l_refused_so, defBody s_l_refused_so, defScope s_l_refused_so, [], []⟩, ⟨("_law_wrongs", none), "_law_wrongs", "_law_wrongs", defArgs s_l_wrongs, defBody s_l_wrongs, defScope s_l_wrongs, [], []⟩, ⟨("_law_bad", none), "_law_bad", "_law_bad", defArgs s_l_bad, defBody s_l_bad, defScope s_l_bad, [], []⟩, ⟨("_law_dealt", none), "_law_dealt", "_law_dealt", defArgs s_l_dealt, defBody s_l_dealt, defScope s_l_dealt, [], []⟩, ⟨("_law_moved", none), "_law_moved", "_law_moved", defArgs s_l_moved, defBody s_l_moved, defScope s_l_moved, [], []⟩, ⟨("law", none), "law", "law", defArgs s_law, defBody s_law, defScope s_law, [], []⟩]
def lt_fn7 : List He.DefD := [errD "StallError" "StallError.__init__" ⟨50, 17, 50, 21⟩ ⟨51, 8, 51, 12⟩ ⟨51, 8, 51, 18⟩ ⟨51, 21, 51, 33⟩ ⟨51, 8, 51, 33⟩, errD "TooLong" "TooLong.__init__" ⟨54, 17, 54, 21⟩ ⟨55, 8, 55, 12⟩ ⟨55, 8, 55, 18⟩ ⟨55, 21, 55, 30⟩ ⟨55, 8, 55, 30⟩, errD "TooMany" "TooMany.__init__" ⟨58, 17, 58, 21⟩ ⟨59, 8, 59, 12⟩ ⟨59, 8, 59, 18⟩ ⟨59, 21, 59, 30⟩ ⟨59, 8, 59, 30⟩, errD "NoWorld" "NoWorld.__init__" ⟨62, 17, 62, 21⟩ ⟨63, 8, 63, 12⟩ ⟨63, 8, 63, 18⟩ ⟨63, 21, 63, 30⟩ ⟨63, 8, 63, 30⟩, errD "NotAlike" "NotAlike.__init__" ⟨66, 17, 66, 21⟩ ⟨67, 8, 67, 12⟩ ⟨67, 8, 67, 18⟩ ⟨67, 21, 67, 31⟩ ⟨67, 8, 67, 31⟩, errD "Unfair" "Unfair.__init__" ⟨70, 17, 70, 21⟩ ⟨71, 8, 71, 12⟩ ⟨71, 8, 71, 18⟩ ⟨71, 21, 71, 29⟩ ⟨71, 8, 71, 29⟩, errD "Fair" "Fair.__init__" ⟨74, 17, 74, 21⟩ ⟨75, 8, 75, 12⟩ ⟨75, 8, 75, 18⟩ ⟨75, 21, 75, 27⟩ ⟨75, 8, 75, 27⟩, errD "NoBet" "NoBet.__init__" ⟨78, 17, 78, 21⟩ ⟨79, 8, 79, 12⟩ ⟨79, 8, 79, 18⟩ ⟨79, 21, 79, 28⟩ ⟨79, 8, 79, 28⟩, errD "NoHolder" "NoHolder.__init__" ⟨82, 17, 82, 21⟩ ⟨83, 8, 83, 12⟩ ⟨83, 8, 83, 18⟩ ⟨83, 21, 83, 31⟩ ⟨83, 8, 83, 31⟩, errD "NoStake" "NoStake.__init__" ⟨86, 17, 86, 21⟩ ⟨87, 8, 87, 12⟩ ⟨87, 8, 87, 18⟩ ⟨87, 21, 87, 30⟩ ⟨87, 8, 87, 30⟩, errD "NoTicket" "NoTicket.__init__" ⟨90, 17, 90, 21⟩ ⟨91, 8, 91, 12⟩ ⟨91, 8, 91, 18⟩ ⟨91, 21, 91, 31⟩ ⟨91, 8, 91, 31⟩, errD "NoCover" "NoCover.__init__" ⟨94, 17, 94, 21⟩ ⟨95, 8, 95, 12⟩ ⟨95, 8, 95, 18⟩ ⟨95, 21, 95, 30⟩ ⟨95, 8, 95, 30⟩]
def lt_fn8 : List He.DefD := [errD "NoSaying" "NoSaying.__init__" ⟨98, 17, 98, 21⟩ ⟨99, 8, 99, 12⟩ ⟨99, 8, 99, 18⟩ ⟨99, 21, 99, 31⟩ ⟨99, 8, 99, 31⟩, errD "NoDeed" "NoDeed.__init__" ⟨102, 17, 102, 21⟩ ⟨103, 8, 103, 12⟩ ⟨103, 8, 103, 18⟩ ⟨103, 21, 103, 29⟩ ⟨103, 8, 103, 29⟩, errD "NoStep" "NoStep.__init__" ⟨106, 17, 106, 21⟩ ⟨107, 8, 107, 12⟩ ⟨107, 8, 107, 18⟩ ⟨107, 21, 107, 29⟩ ⟨107, 8, 107, 29⟩, errD "NoText" "NoText.__init__" ⟨110, 17, 110, 21⟩ ⟨111, 8, 111, 12⟩ ⟨111, 8, 111, 18⟩ ⟨111, 21, 111, 29⟩ ⟨111, 8, 111, 29⟩]
def lt_fn : List He.DefD := lt_fn0 ++ lt_fn1 ++ lt_fn2 ++ lt_fn3 ++ lt_fn4 ++ lt_fn5 ++ lt_fn6 ++ lt_fn7 ++ lt_fn8
def lt_lf0 : List LtF := [.tup "ZERO" [.int 0, .int 1], .tup "JOINING" [.str "and", .str "or", .str "same"], .tab "PARTS" [("deal", .int 5), ("split", .int 2), ("hand", .int 4), ("net", .int 2), ("clear", .int 1), ("post", .int 2), ("sell", .int 4), ("hear", .int 1)], .tab "ACTIONS" [("deal", .glo "dealt"), ("split", .glo "parted"), ("hand", .glo "handed"), ("net", .glo "netted"), ("clear", .glo "cleared"), ("post", .glo "posted"), ("sell", .glo "sold"), ("hear", .glo "heard")], .err "StallError", .err "TooLong", .err "TooMany", .err "NoWorld", .err "NotAlike", .err "Unfair", .err "Fair", .err "NoBet"]
def lt_lf1 : List LtF := [.err "NoHolder", .err "NoStake", .err "NoTicket", .err "NoCover", .err "NoSaying", .err "NoDeed", .err "NoStep", .err "NoText", .sub "NoBet" "StallError" true, .sub "NoBet" "TooLong" false, .sub "NoBet" "TooMany" false, .sub "NoBet" "NoWorld" false]
def lt_lf2 : List LtF := [.sub "NoBet" "NotAlike" false, .sub "NoBet" "Unfair" false, .sub "NoBet" "Fair" false, .sub "NoBet" "NoBet" true, .sub "NoBet" "NoHolder" false, .sub "NoBet" "NoStake" false, .sub "NoBet" "NoTicket" false, .sub "NoBet" "NoCover" false, .sub "NoBet" "NoSaying" false, .sub "NoBet" "NoDeed" false, .sub "NoBet" "NoStep" false, .sub "NoBet" "NoText" false]
def lt_lf3 : List LtF := [.subT "NoBet" "ValueError" true, .sub "NoCover" "StallError" true, .sub "NoCover" "TooLong" false, .sub "NoCover" "TooMany" false, .sub "NoCover" "NoWorld" false, .sub "NoCover" "NotAlike" false, .sub "NoCover" "Unfair" false, .sub "NoCover" "Fair" false, .sub "NoCover" "NoBet" false, .sub "NoCover" "NoHolder" false, .sub "NoCover" "NoStake" false, .sub "NoCover" "NoTicket" false]
def lt_lf4 : List LtF := [.sub "NoCover" "NoCover" true, .sub "NoCover" "NoSaying" false, .sub "NoCover" "NoDeed" false, .sub "NoCover" "NoStep" false, .sub "NoCover" "NoText" false, .subT "NoCover" "ValueError" true, .sub "NoDeed" "StallError" true, .sub "NoDeed" "TooLong" false, .sub "NoDeed" "TooMany" false, .sub "NoDeed" "NoWorld" false, .sub "NoDeed" "NotAlike" false, .sub "NoDeed" "Unfair" false]
def lt_lf5 : List LtF := [.sub "NoDeed" "Fair" false, .sub "NoDeed" "NoBet" false, .sub "NoDeed" "NoHolder" false, .sub "NoDeed" "NoStake" false, .sub "NoDeed" "NoTicket" false, .sub "NoDeed" "NoCover" false, .sub "NoDeed" "NoSaying" false, .sub "NoDeed" "NoDeed" true, .sub "NoDeed" "NoStep" false, .sub "NoDeed" "NoText" false, .subT "NoDeed" "ValueError" true, .sub "NoHolder" "StallError" true]
def lt_lf6 : List LtF := [.sub "NoHolder" "TooLong" false, .sub "NoHolder" "TooMany" false, .sub "NoHolder" "NoWorld" false, .sub "NoHolder" "NotAlike" false, .sub "NoHolder" "Unfair" false, .sub "NoHolder" "Fair" false, .sub "NoHolder" "NoBet" false, .sub "NoHolder" "NoHolder" true, .sub "NoHolder" "NoStake" false, .sub "NoHolder" "NoTicket" false, .sub "NoHolder" "NoCover" false, .sub "NoHolder" "NoSaying" false]
def lt_lf7 : List LtF := [.sub "NoHolder" "NoDeed" false, .sub "NoHolder" "NoStep" false, .sub "NoHolder" "NoText" false, .subT "NoHolder" "ValueError" true, .sub "NoSaying" "StallError" true, .sub "NoSaying" "TooLong" false, .sub "NoSaying" "TooMany" false, .sub "NoSaying" "NoWorld" false, .sub "NoSaying" "NotAlike" false, .sub "NoSaying" "Unfair" false, .sub "NoSaying" "Fair" false, .sub "NoSaying" "NoBet" false]
def lt_lf8 : List LtF := [.sub "NoSaying" "NoHolder" false, .sub "NoSaying" "NoStake" false, .sub "NoSaying" "NoTicket" false, .sub "NoSaying" "NoCover" false, .sub "NoSaying" "NoSaying" true, .sub "NoSaying" "NoDeed" false, .sub "NoSaying" "NoStep" false, .sub "NoSaying" "NoText" false, .subT "NoSaying" "ValueError" true, .sub "NoStake" "StallError" true, .sub "NoStake" "TooLong" false, .sub "NoStake" "TooMany" false]
def lt_lf9 : List LtF := [.sub "NoStake" "NoWorld" false, .sub "NoStake" "NotAlike" false, .sub "NoStake" "Unfair" false, .sub "NoStake" "Fair" false, .sub "NoStake" "NoBet" false, .sub "NoStake" "NoHolder" false, .sub "NoStake" "NoStake" true, .sub "NoStake" "NoTicket" false, .sub "NoStake" "NoCover" false, .sub "NoStake" "NoSaying" false, .sub "NoStake" "NoDeed" false, .sub "NoStake" "NoStep" false]
def lt_lf10 : List LtF := [.sub "NoStake" "NoText" false, .subT "NoStake" "ValueError" true, .sub "NoTicket" "StallError" true, .sub "NoTicket" "TooLong" false, .sub "NoTicket" "TooMany" false, .sub "NoTicket" "NoWorld" false, .sub "NoTicket" "NotAlike" false, .sub "NoTicket" "Unfair" false, .sub "NoTicket" "Fair" false, .sub "NoTicket" "NoBet" false, .sub "NoTicket" "NoHolder" false, .sub "NoTicket" "NoStake" false]
def lt_lf11 : List LtF := [.sub "NoTicket" "NoTicket" true, .sub "NoTicket" "NoCover" false, .sub "NoTicket" "NoSaying" false, .sub "NoTicket" "NoDeed" false, .sub "NoTicket" "NoStep" false, .sub "NoTicket" "NoText" false, .subT "NoTicket" "ValueError" true, .sub "NotAlike" "StallError" true, .sub "NotAlike" "TooLong" false, .sub "NotAlike" "TooMany" false, .sub "NotAlike" "NoWorld" false, .sub "NotAlike" "NotAlike" true]
def lt_lf12 : List LtF := [.sub "NotAlike" "Unfair" false, .sub "NotAlike" "Fair" false, .sub "NotAlike" "NoBet" false, .sub "NotAlike" "NoHolder" false, .sub "NotAlike" "NoStake" false, .sub "NotAlike" "NoTicket" false, .sub "NotAlike" "NoCover" false, .sub "NotAlike" "NoSaying" false, .sub "NotAlike" "NoDeed" false, .sub "NotAlike" "NoStep" false, .sub "NotAlike" "NoText" false, .subT "NotAlike" "ValueError" true]
def lt_lf13 : List LtF := [.sub "TooMany" "StallError" true, .sub "TooMany" "TooLong" false, .sub "TooMany" "TooMany" true, .sub "TooMany" "NoWorld" false, .sub "TooMany" "NotAlike" false, .sub "TooMany" "Unfair" false, .sub "TooMany" "Fair" false, .sub "TooMany" "NoBet" false, .sub "TooMany" "NoHolder" false, .sub "TooMany" "NoStake" false, .sub "TooMany" "NoTicket" false, .sub "TooMany" "NoCover" false]
def lt_lf14 : List LtF := [.sub "TooMany" "NoSaying" false, .sub "TooMany" "NoDeed" false, .sub "TooMany" "NoStep" false, .sub "TooMany" "NoText" false, .subT "TooMany" "ValueError" true]
def lt_lf : List LtF := lt_lf0 ++ lt_lf1 ++ lt_lf2 ++ lt_lf3 ++ lt_lf4 ++ lt_lf5 ++ lt_lf6 ++ lt_lf7 ++ lt_lf8 ++ lt_lf9 ++ lt_lf10 ++ lt_lf11 ++ lt_lf12 ++ lt_lf13 ++ lt_lf14
def lt_nm0 : List PySem.Str := ["__name__", "is_number", "is_row", "ZERO", "ONE", "common", "lowest", "plus", "times", "turned_about", "minus", "divided"]
def lt_nm1 : List PySem.Str := ["less", "is_fraction", "StallError", "TooLong", "TooMany", "NoWorld", "NotAlike", "Unfair", "Fair", "NoBet", "NoHolder", "NoStake"]
def lt_nm2 : List PySem.Str := ["NoTicket", "NoCover", "NoSaying", "NoDeed", "NoStep", "NoText", "MOST_WORDS", "JOINING", "wanted", "is_saying", "laid", "joint"]
def lt_nm3 : List PySem.Str := ["holds", "short_enough", "both", "MOST_TERMS", "is_term", "is_bet", "pays", "called_off", "MOST_RULES", "worlds_over", "keeps", "worlds_of"]
def lt_nm4 : List PySem.Str := ["may_be", "narrowed", "is_place", "are_two", "is_above_zero", "lives", "brought", "with_stake", "ticket_of", "without", "exchanged", "rest_of"]
def lt_nm5 : List PySem.Str := ["balances_of", "least_holder", "matched", "Board", "most_of", "weighing_of", "stakes_of", "borne_or_losing", "freed", "table_at", "table_of", "whole"]
def lt_nm6 : List PySem.Str := ["lowered", "Gains", "judged_part", "judged_gains", "fair_gains", "least_paid", "places_where", "least_mean", "low_price", "TOO_GREAT", "is_too_great", "carried_on"]
def lt_nm7 : List PySem.Str := ["is_bid", "MOST_TICKETS", "MOST_POSTED", "is_list", "worths_at", "covered", "sure", "few_enough", "standing", "moved", "with_ticket", "dealt"]
def lt_nm8 : List PySem.Str := ["parted", "passed_on", "handed", "netted", "cleared", "posted", "sold", "settled", "heard", "PARTS", "ACTIONS", "is_deed"]
def lt_nm9 : List PySem.Str := ["done", "_law_draws", "_law_next", "_law_whole", "_law_lowest", "_law_plus", "_law_times", "_law_less", "_law_holds", "_law_worlds", "_law_paid", "_law_table"]
def lt_nm10 : List PySem.Str := ["_law_turned", "_law_just", "_law_brings", "_law_worths", "_law_put", "_law_no_fraction", "_law_covered", "_law_least", "_law_stake", "_law_place", "_law_simple", "_law_wager"]
def lt_nm11 : List PySem.Str := ["_law_cost", "_law_ticket", "_law_tickets", "_law_purses", "_law_class", "_law_done", "_law_is", "_law_two", "_law_bare_stand", "_law_refused_so", "_law_wrongs", "_law_bad"]
def lt_nm12 : List PySem.Str := ["_law_dealt", "_law_moved"]
def lt_nm : List PySem.Str := lt_nm0 ++ lt_nm1 ++ lt_nm2 ++ lt_nm3 ++ lt_nm4 ++ lt_nm5 ++ lt_nm6 ++ lt_nm7 ++ lt_nm8 ++ lt_nm9 ++ lt_nm10 ++ lt_nm11 ++ lt_nm12
abbrev lt_R : PySem.W.OpenRow := PySem.W.OpenLaw.row PySem.Challenge.rw_betstall_k79_refusals_in_order
def lt_ts : List (Str × List Str) := [("PARTS", ["deal", "split", "hand", "net", "clear", "post", "sell", "hear"]), ("ACTIONS", ["deal", "split", "hand", "net", "clear", "post", "sell", "hear"])]
abbrev lt_hk : PySem.W.Hook := hookM lt_ns lt_cs lt_fa lt_fn lt_lf lt_ts
def lt_ob (s : PySem.W.SharedT) : AlM := obsM lt_ns lt_cs lt_fa lt_fn lt_lf lt_ts (HandSHeadRun.getT s)
theorem lt_ob_eq (s : PySem.W.SharedT) : lt_ob s = lt_hk.obs s.abs := obsM_eq (HandSHeadRun.getT_eq s)
open PySem.W PySem.Calls in
noncomputable abbrev lt_E (w : World) (os : OsState) := HandSHeadRun.endF (HandSHeadRun.stepQ (HandSHeadRun.denQ HandSHeadRun.tabQ) lt_R.prog w) 200000 lt_R.prog w os
open PySem.W PySem.Calls in
set_option maxRecDepth 100000 in
set_option maxHeartbeats 0 in
theorem lt_Lt (w : World) (os : OsState) : (lt_E (fixW w "special-get-raises" true) os).map (fun s => HandSHeadRun.looksF lt_R.prog (boot_heap (fixW w "special-get-raises" true).params) s.abs) = some true := by kernel_rfl
open PySem.W PySem.Calls in
set_option maxRecDepth 100000 in
set_option maxHeartbeats 0 in
theorem lt_St (w : World) (os : OsState) : (lt_E (fixW w "special-get-raises" true) os).map (fun s => HandSHeadRun.seenQ (PySem.W.view lt_R.prog [164]) lt_nm (importedModules lt_R.prog.main.body) (fun s => PySem.W.xlAt (PySem.W.view lt_R.prog [164]) [] s && PySem.W.recOk lt_R.toRowW.records s) s.abs) = some (PySem.W.openGood (PySem.W.view lt_R.prog [164]) lt_nm) := by kernel_rfl
open PySem.W PySem.Calls in
set_option maxRecDepth 100000 in
set_option maxHeartbeats 0 in
theorem lt_Ot (w : World) (os : OsState) : (lt_E (fixW w "special-get-raises" true) os).map (fun s => lt_ob s) = some (lt_hk.val (fixW w "special-get-raises" true)) := by kernel_rfl
open PySem.W PySem.Calls in
set_option maxRecDepth 100000 in
set_option maxHeartbeats 0 in
theorem lt_Lf (w : World) (os : OsState) : (lt_E (fixW w "special-get-raises" false) os).map (fun s => HandSHeadRun.looksF lt_R.prog (boot_heap (fixW w "special-get-raises" false).params) s.abs) = some true := by kernel_rfl
open PySem.W PySem.Calls in
set_option maxRecDepth 100000 in
set_option maxHeartbeats 0 in
theorem lt_Sf (w : World) (os : OsState) : (lt_E (fixW w "special-get-raises" false) os).map (fun s => HandSHeadRun.seenQ (PySem.W.view lt_R.prog [164]) lt_nm (importedModules lt_R.prog.main.body) (fun s => PySem.W.xlAt (PySem.W.view lt_R.prog [164]) [] s && PySem.W.recOk lt_R.toRowW.records s) s.abs) = some (PySem.W.openGood (PySem.W.view lt_R.prog [164]) lt_nm) := by kernel_rfl
open PySem.W PySem.Calls in
set_option maxRecDepth 100000 in
set_option maxHeartbeats 0 in
theorem lt_Of (w : World) (os : OsState) : (lt_E (fixW w "special-get-raises" false) os).map (fun s => lt_ob s) = some (lt_hk.val (fixW w "special-get-raises" false)) := by kernel_rfl
theorem lt_run (w : World) : HandSHeadRun.RunEq lt_R (PySem.W.view lt_R.prog [164]) lt_hk lt_ob 200000 lt_nm w := by
  intro os
  cases hb : w.params.followText "special-get-raises" with
  | true =>
    have a := lt_Lt w os
    have b := lt_St w os
    have c := lt_Ot w os
    rw [fixW_eq hb] at a b c
    exact join3 a b c
  | false =>
    have a := lt_Lf w os
    have b := lt_Sf w os
    have c := lt_Of w os
    rw [fixW_eq hb] at a b c
    exact join3 a b c
end B
namespace B
open PySem PySem.Spec PyProof.Rows L2
/-- what lowest divides by -/
def lowN (t b : Int) : Int := if b < 0 then -((Nat.gcd t.natAbs b.natAbs : Nat) : Int) else ((Nat.gcd t.natAbs b.natAbs : Nat) : Int)
def lowT (t b : Int) : Int := t.fdiv (lowN t b)
def lowB (t b : Int) : Int := b.fdiv (lowN t b)
theorem lowN_abs (t b : Int) : (lowN t b).natAbs = Nat.gcd t.natAbs b.natAbs := by
  unfold lowN
  split <;> omega
theorem lowN_dvd_t (t b : Int) : lowN t b ∣ t := by
  rw [← Int.natAbs_dvd_natAbs, lowN_abs]
  exact Nat.gcd_dvd_left _ _
theorem lowN_dvd_b (t b : Int) : lowN t b ∣ b := by
  rw [← Int.natAbs_dvd_natAbs, lowN_abs]
  exact Nat.gcd_dvd_right _ _
theorem low_t (t b : Int) : lowN t b * lowT t b = t := by
  unfold lowT
  rw [Int.fdiv_eq_ediv_of_dvd (lowN_dvd_t t b)]
  exact Int.mul_ediv_cancel' (lowN_dvd_t t b)
theorem low_b (t b : Int) : lowN t b * lowB t b = b := by
  unfold lowB
  rw [Int.fdiv_eq_ediv_of_dvd (lowN_dvd_b t b)]
  exact Int.mul_ediv_cancel' (lowN_dvd_b t b)
theorem lowN_pos {t b : Int} (h : b ≠ 0) : 0 < Nat.gcd t.natAbs b.natAbs := Nat.gcd_pos_of_pos_right _ (by omega)
theorem lowB_pos {t b : Int} (h : b ≠ 0) : 1 ≤ lowB t b := by
  have e := low_b t b
  have g := lowN_pos (t := t) h
  rcases Int.lt_or_le (lowB t b) 1 with z | z
  · exfalso
    by_cases hb : b < 0
    · have n : lowN t b ≤ 0 := by unfold lowN; rw [if_pos hb]; omega
      have := Int.mul_nonneg_of_nonpos_of_nonpos n (show lowB t b ≤ 0 by omega)
      omega
    · have n : 0 ≤ lowN t b := by unfold lowN; rw [if_neg hb]; omega
      have := Int.mul_nonpos_of_nonneg_of_nonpos n (show lowB t b ≤ 0 by omega)
      omega
  · exact z
theorem low_cop {t b : Int} (h : b ≠ 0) : Nat.gcd (lowT t b).natAbs (lowB t b).natAbs = 1 := by
  have g := lowN_pos (t := t) h
  have e1 : t.natAbs = Nat.gcd t.natAbs b.natAbs * (lowT t b).natAbs := by
    rw [← lowN_abs, ← Int.natAbs_mul, low_t]
  have e2 : b.natAbs = Nat.gcd t.natAbs b.natAbs * (lowB t b).natAbs := by
    rw [← lowN_abs, ← Int.natAbs_mul, low_b]
  have e3 : Nat.gcd t.natAbs b.natAbs = Nat.gcd t.natAbs b.natAbs * Nat.gcd (lowT t b).natAbs (lowB t b).natAbs := by
    rw [← Nat.gcd_mul_left, ← e1, ← e2]
  exact (Nat.eq_of_mul_eq_mul_left g (by rw [Nat.mul_one]; exact e3)).symm
theorem cop_dvd {a b c : Nat} (h : Nat.gcd b a = 1) (d : b ∣ a * c) : b ∣ c := by
  have e : Nat.gcd (b * c) (a * c) = c := by rw [Nat.gcd_mul_right, h, Nat.one_mul]
  rw [← e]
  exact Nat.dvd_gcd (Nat.dvd_mul_right _ _) d
/-- two fractions in lowest terms of one worth are one -/
theorem cop_one {T B T' B' : Int} (h : 1 ≤ B) (h' : 1 ≤ B') (g : Nat.gcd T.natAbs B.natAbs = 1) (g' : Nat.gcd T'.natAbs B'.natAbs = 1) (e : T * B' = T' * B) : T = T' ∧ B = B' := by
  have e1 : T.natAbs * B'.natAbs = T'.natAbs * B.natAbs := by rw [← Int.natAbs_mul, ← Int.natAbs_mul, e]
  have d1 : B.natAbs ∣ B'.natAbs := cop_dvd (a := T.natAbs) (by rw [Nat.gcd_comm]; exact g) ⟨T'.natAbs, by rw [e1, Nat.mul_comm]⟩
  have d2 : B'.natAbs ∣ B.natAbs := cop_dvd (a := T'.natAbs) (by rw [Nat.gcd_comm]; exact g') ⟨T.natAbs, by rw [← e1, Nat.mul_comm]⟩
  have e2 : B = B' := by
    have := Nat.dvd_antisymm d1 d2
    omega
  subst e2
  exact ⟨Int.eq_of_mul_eq_mul_right (by omega) e, rfl⟩
/-- t, b and what is in lowest terms of the same worth -/
theorem low_cross (t b : Int) : lowT t b * b = t * lowB t b := by
  have e1 := low_t t b
  have e2 := low_b t b
  calc lowT t b * b = lowT t b * (lowN t b * lowB t b) := by rw [e2]
    _ = (lowN t b * lowT t b) * lowB t b := by rw [← Int.mul_assoc, Int.mul_comm (lowT t b)]
    _ = t * lowB t b := by rw [e1]
theorem low_is {t b T B : Int} (hb : b ≠ 0) (h : 1 ≤ B) (g : Nat.gcd T.natAbs B.natAbs = 1) (e : T * b = t * B) : lowT t b = T ∧ lowB t b = B := by
  refine cop_one (lowB_pos hb) h (low_cop hb) g ?_
  have c := low_cross t b
  refine Int.eq_of_mul_eq_mul_right hb ?_
  calc lowT t b * B * b = (lowT t b * b) * B := by rw [Int.mul_assoc, Int.mul_comm B, ← Int.mul_assoc]
    _ = t * lowB t b * B := by rw [c]
    _ = (t * B) * lowB t b := by rw [Int.mul_assoc, Int.mul_comm (lowB t b), ← Int.mul_assoc]
    _ = T * b * lowB t b := by rw [e]
    _ = T * lowB t b * b := by rw [Int.mul_assoc, Int.mul_comm b, ← Int.mul_assoc]
theorem lowT_abs {t b : Int} (h : b ≠ 0) : (lowT t b).natAbs ≤ t.natAbs := by
  have e := low_t t b
  have g := lowN_pos (t := t) h
  rw [← lowN_abs] at g
  have : t.natAbs = (lowN t b).natAbs * (lowT t b).natAbs := by rw [← Int.natAbs_mul, e]
  rw [this]
  exact Nat.le_mul_of_pos_left _ g
theorem lowB_abs {t b : Int} (h : b ≠ 0) : (lowB t b).natAbs ≤ b.natAbs := by
  have e := low_b t b
  have g := lowN_pos (t := t) h
  rw [← lowN_abs] at g
  have : b.natAbs = (lowN t b).natAbs * (lowB t b).natAbs := by rw [← Int.natAbs_mul, e]
  rw [this]
  exact Nat.le_mul_of_pos_left _ g
end B
namespace B
open PySem PySem.Spec PyProof.Rows L2
/-- a fraction: top, bottom -/
structure IsF (t : Int) (b : Nat) : Prop where
  pos : 0 < b
  cop : Nat.Coprime t.natAbs b
theorem low_isN {t T : Int} {b B : Nat} (hb : 0 < b) (h : IsF T B) (e : T * (b : Int) = t * (B : Int)) : lowT t b = T ∧ lowB t b = (B : Int) :=
  low_is (by omega) (by have := h.pos; omega) (by rw [Int.natAbs_natCast]; exact h.cop) e
/-- the bottom as a number -/
def lowBn (t : Int) (b : Nat) : Nat := (lowB t b).natAbs
theorem lowBn_eq {t : Int} {b : Nat} (hb : 0 < b) : lowB t b = (lowBn t b : Int) := by
  have := lowB_pos (t := t) (b := (b : Int)) (by omega)
  unfold lowBn
  omega
theorem low_isF {t : Int} {b : Nat} (hb : 0 < b) : IsF (lowT t b) (lowBn t b) := by
  have h := lowB_pos (t := t) (b := (b : Int)) (by omega)
  refine ⟨by unfold lowBn; omega, ?_⟩
  exact low_cop (t := t) (b := (b : Int)) (by omega)
/-- what lowest divides by, the bottom above 0 -/
theorem lowN_nat (t : Int) (b : Nat) : lowN t b = ((Nat.gcd t.natAbs b : Nat) : Int) := by
  unfold lowN
  rw [if_neg (by omega), Int.natAbs_natCast]
theorem lowT_nat {t : Int} {b : Nat} : lowT t b = t / ((Nat.gcd t.natAbs b : Nat) : Int) := by
  unfold lowT
  rw [lowN_nat, Int.fdiv_eq_ediv_of_nonneg _ (by omega)]
theorem lowB_nat {t : Int} {b : Nat} : lowB t b = (b : Int) / ((Nat.gcd t.natAbs b : Nat) : Int) := by
  unfold lowB
  rw [lowN_nat, Int.fdiv_eq_ediv_of_nonneg _ (by omega)]
theorem natAbs_div {a : Int} {d : Nat} (h : d ∣ a.natAbs) : (a / (d : Int)).natAbs = a.natAbs / d := by
  rw [Int.natAbs_ediv_of_dvd (by exact Int.ofNat_dvd_left.mpr h), Int.natAbs_natCast]
theorem div_mul {a : Int} {d : Nat} (h : d ∣ a.natAbs) : a / (d : Int) * d = a := Int.ediv_mul_cancel (by exact Int.ofNat_dvd_left.mpr h)
def addX (t1 : Int) (b1 : Nat) (t2 : Int) (b2 : Nat) : Int := t1 * b2 + t2 * b1
def addT (t1 : Int) (b1 : Nat) (t2 : Int) (b2 : Nat) : Int := lowT (addX t1 b1 t2 b2) (b1 * b2 : Nat)
def addB (t1 : Int) (b1 : Nat) (t2 : Int) (b2 : Nat) : Nat := lowBn (addX t1 b1 t2 b2) (b1 * b2)
def mulT (t1 : Int) (b1 : Nat) (t2 : Int) (b2 : Nat) : Int := lowT (t1 * t2) (b1 * b2 : Nat)
def mulB (t1 : Int) (b1 : Nat) (t2 : Int) (b2 : Nat) : Nat := lowBn (t1 * t2) (b1 * b2)
/-- what plus reckons -/
def plG (b1 b2 : Nat) : Nat := Nat.gcd b1 b2
def plS (t1 : Int) (b1 : Nat) (t2 : Int) (b2 : Nat) : Int := t1 * ((b2 / plG b1 b2 : Nat) : Int) + t2 * ((b1 / plG b1 b2 : Nat) : Int)
def plD (t1 : Int) (b1 : Nat) (t2 : Int) (b2 : Nat) : Nat := Nat.gcd (plS t1 b1 t2 b2).natAbs (plG b1 b2)
theorem plus_math {t1 t2 : Int} {b1 b2 : Nat} (h1 : IsF t1 b1) (h2 : IsF t2 b2) :
    plS t1 b1 t2 b2 / (plD t1 b1 t2 b2 : Int) = addT t1 b1 t2 b2 ∧ b1 / plG b1 b2 * (b2 / plD t1 b1 t2 b2) = addB t1 b1 t2 b2 ∧ 0 < plG b1 b2 ∧ 0 < plD t1 b1 t2 b2 := by
  have g0 : 0 < plG b1 b2 := Nat.gcd_pos_of_pos_left _ h1.pos
  have d0 : 0 < plD t1 b1 t2 b2 := Nat.gcd_pos_of_pos_right _ g0
  obtain ⟨r, er⟩ : plG b1 b2 ∣ b1 := Nat.gcd_dvd_left _ _
  obtain ⟨s, es⟩ : plG b1 b2 ∣ b2 := Nat.gcd_dvd_right _ _
  have er2 : b1 / plG b1 b2 = r := Nat.div_eq_of_eq_mul_right g0 er
  have es2 : b2 / plG b1 b2 = s := Nat.div_eq_of_eq_mul_right g0 es
  have crs : Nat.Coprime r s := by
    have := Nat.coprime_div_gcd_div_gcd (m := b1) (n := b2) g0
    rw [show Nat.gcd b1 b2 = plG b1 b2 from rfl, er2, es2] at this
    exact this
  have eS : plS t1 b1 t2 b2 = t1 * (s : Int) + t2 * (r : Int) := by unfold plS; rw [er2, es2]
  have ct1r : Nat.Coprime t1.natAbs r := Nat.Coprime.coprime_dvd_right ⟨plG b1 b2, by rw [Nat.mul_comm]; exact er⟩ h1.cop
  have ct2s : Nat.Coprime t2.natAbs s := Nat.Coprime.coprime_dvd_right ⟨plG b1 b2, by rw [Nat.mul_comm]; exact es⟩ h2.cop
  have cSr : Nat.Coprime (plS t1 b1 t2 b2).natAbs r := by
    show Int.gcd (plS t1 b1 t2 b2) (r : Int) = 1
    rw [eS, Int.gcd_add_mul_right_left]
    show Nat.gcd (t1 * (s : Int)).natAbs (r : Int).natAbs = 1
    rw [Int.natAbs_mul, Int.natAbs_natCast, Int.natAbs_natCast]
    exact Nat.Coprime.mul_left ct1r crs.symm
  have cSs : Nat.Coprime (plS t1 b1 t2 b2).natAbs s := by
    show Int.gcd (plS t1 b1 t2 b2) (s : Int) = 1
    rw [eS, Int.add_comm, Int.gcd_add_mul_right_left]
    show Nat.gcd (t2 * (r : Int)).natAbs (s : Int).natAbs = 1
    rw [Int.natAbs_mul, Int.natAbs_natCast, Int.natAbs_natCast]
    exact Nat.Coprime.mul_left ct2s crs
  have dS : plD t1 b1 t2 b2 ∣ (plS t1 b1 t2 b2).natAbs := Nat.gcd_dvd_left _ _
  have dG : plD t1 b1 t2 b2 ∣ plG b1 b2 := Nat.gcd_dvd_right _ _
  obtain ⟨e, ee⟩ := dG
  have ee2 : plG b1 b2 / plD t1 b1 t2 b2 = e := Nat.div_eq_of_eq_mul_right d0 ee
  have eb : b2 / plD t1 b1 t2 b2 = e * s := Nat.div_eq_of_eq_mul_right d0 (by rw [← Nat.mul_assoc, ← ee]; exact es)
  have aT : (plS t1 b1 t2 b2 / (plD t1 b1 t2 b2 : Int)).natAbs = (plS t1 b1 t2 b2).natAbs / plD t1 b1 t2 b2 := natAbs_div dS
  have cT : ∀ {x : Nat}, Nat.Coprime (plS t1 b1 t2 b2).natAbs x → Nat.Coprime (plS t1 b1 t2 b2 / (plD t1 b1 t2 b2 : Int)).natAbs x := fun h => by
    rw [aT]
    exact Nat.Coprime.coprime_dvd_left (Nat.div_dvd_of_dvd dS) h
  have cTe : Nat.Coprime (plS t1 b1 t2 b2 / (plD t1 b1 t2 b2 : Int)).natAbs e := by
    have := Nat.coprime_div_gcd_div_gcd (m := (plS t1 b1 t2 b2).natAbs) (n := plG b1 b2) d0
    rw [show Nat.gcd (plS t1 b1 t2 b2).natAbs (plG b1 b2) = plD t1 b1 t2 b2 from rfl, ee2, ← aT] at this
    exact this
  have r0 : 0 < r := by
    rcases Nat.eq_zero_or_pos r with z | z
    · rw [z, Nat.mul_zero] at er
      have := h1.pos
      omega
    · exact z
  have s0 : 0 < s := by
    rcases Nat.eq_zero_or_pos s with z | z
    · rw [z, Nat.mul_zero] at es
      have := h2.pos
      omega
    · exact z
  have e0 : 0 < e := by
    rcases Nat.eq_zero_or_pos e with z | z
    · rw [z, Nat.mul_zero] at ee
      omega
    · exact z
  have F : IsF (plS t1 b1 t2 b2 / (plD t1 b1 t2 b2 : Int)) (r * (e * s)) := ⟨Nat.mul_pos r0 (Nat.mul_pos e0 s0), Nat.Coprime.mul_right (cT cSr) (Nat.Coprime.mul_right cTe (cT cSs))⟩
  have X := low_isN (t := addX t1 b1 t2 b2) (b := b1 * b2) (Nat.mul_pos h1.pos h2.pos) F (by
    have hd := div_mul dS
    generalize plS t1 b1 t2 b2 / (plD t1 b1 t2 b2 : Int) = T at hd
    generalize plD t1 b1 t2 b2 = d at hd ee
    rw [eS] at hd
    generalize plG b1 b2 = g at er es ee
    unfold addX
    subst ee
    rw [er, es]
    simp only [Int.natCast_mul]
    have : T * ((d : Int) * e * r * (d * e * s)) = (T * d) * ((e : Int) * r * (d * e * s)) := by
      simp only [Int.mul_assoc]
    rw [this, hd]
    have a1 : ∀ u v x y z : Int, (u * v + x * y) * z = u * v * z + x * y * z := fun u v x y z => Int.add_mul _ _ _
    rw [a1, a1]
    congr 1
    · simp only [Int.mul_assoc, Int.mul_left_comm, Int.mul_comm]
    · simp only [Int.mul_assoc, Int.mul_left_comm, Int.mul_comm])
  refine ⟨X.1.symm, ?_, g0, d0⟩
  rw [er2, eb]
  unfold addB lowBn
  rw [X.2, Int.natAbs_natCast]
theorem times_math {t1 t2 : Int} {b1 b2 : Nat} (h1 : IsF t1 b1) (h2 : IsF t2 b2) :
    t1 / ((Nat.gcd t1.natAbs b2 : Nat) : Int) * (t2 / ((Nat.gcd t2.natAbs b1 : Nat) : Int)) = mulT t1 b1 t2 b2 ∧ b1 / Nat.gcd t2.natAbs b1 * (b2 / Nat.gcd t1.natAbs b2) = mulB t1 b1 t2 b2 ∧ 0 < Nat.gcd t1.natAbs b2 ∧ 0 < Nat.gcd t2.natAbs b1 := by
  have f0 : 0 < Nat.gcd t1.natAbs b2 := Nat.gcd_pos_of_pos_right _ h2.pos
  have r0 : 0 < Nat.gcd t2.natAbs b1 := Nat.gcd_pos_of_pos_right _ h1.pos
  have df1 : Nat.gcd t1.natAbs b2 ∣ t1.natAbs := Nat.gcd_dvd_left _ _
  have df2 : Nat.gcd t1.natAbs b2 ∣ b2 := Nat.gcd_dvd_right _ _
  have dr1 : Nat.gcd t2.natAbs b1 ∣ t2.natAbs := Nat.gcd_dvd_left _ _
  have dr2 : Nat.gcd t2.natAbs b1 ∣ b1 := Nat.gcd_dvd_right _ _
  have c1 := Nat.coprime_div_gcd_div_gcd (m := t1.natAbs) (n := b2) f0
  have c2 := Nat.coprime_div_gcd_div_gcd (m := t2.natAbs) (n := b1) r0
  have c3 : Nat.Coprime (t1.natAbs / Nat.gcd t1.natAbs b2) (b1 / Nat.gcd t2.natAbs b1) := Nat.Coprime.coprime_dvd_left (Nat.div_dvd_of_dvd df1) (Nat.Coprime.coprime_dvd_right (Nat.div_dvd_of_dvd dr2) h1.cop)
  have c4 : Nat.Coprime (t2.natAbs / Nat.gcd t2.natAbs b1) (b2 / Nat.gcd t1.natAbs b2) := Nat.Coprime.coprime_dvd_left (Nat.div_dvd_of_dvd dr1) (Nat.Coprime.coprime_dvd_right (Nat.div_dvd_of_dvd df2) h2.cop)
  have F : IsF (t1 / ((Nat.gcd t1.natAbs b2 : Nat) : Int) * (t2 / ((Nat.gcd t2.natAbs b1 : Nat) : Int))) (b1 / Nat.gcd t2.natAbs b1 * (b2 / Nat.gcd t1.natAbs b2)) := by
    refine ⟨Nat.mul_pos (Nat.div_pos (Nat.le_of_dvd h1.pos dr2) r0) (Nat.div_pos (Nat.le_of_dvd h2.pos df2) f0), ?_⟩
    rw [Int.natAbs_mul, natAbs_div df1, natAbs_div dr1]
    exact Nat.Coprime.mul_left (Nat.Coprime.mul_right c3 c1) (Nat.Coprime.mul_right c2 c4)
  have X := low_isN (t := t1 * t2) (b := b1 * b2) (Nat.mul_pos h1.pos h2.pos) F (by
    have a1 := div_mul df1
    have a2 := div_mul dr1
    have a3 := Nat.div_mul_cancel dr2
    have a4 := Nat.div_mul_cancel df2
    generalize t1 / ((Nat.gcd t1.natAbs b2 : Nat) : Int) = x at a1
    generalize t2 / ((Nat.gcd t2.natAbs b1 : Nat) : Int) = y at a2
    generalize b1 / Nat.gcd t2.natAbs b1 = u at a3
    generalize b2 / Nat.gcd t1.natAbs b2 = v at a4
    have b3 : (b1 : Int) = u * (Nat.gcd t2.natAbs b1 : Nat) := by rw [← Int.natCast_mul, a3]
    have b4 : (b2 : Int) = v * (Nat.gcd t1.natAbs b2 : Nat) := by rw [← Int.natCast_mul, a4]
    rw [Int.natCast_mul, Int.natCast_mul, b3, b4]
    rw [show t1 * t2 = (x * (Nat.gcd t1.natAbs b2 : Nat)) * (y * (Nat.gcd t2.natAbs b1 : Nat)) by rw [a1, a2]]
    simp only [Int.mul_assoc, Int.mul_left_comm, Int.mul_comm])
  refine ⟨X.1.symm, ?_, f0, r0⟩
  unfold mulB lowBn
  rw [X.2, Int.natAbs_natCast]
/-- how great -/
structure Fz (t : Int) (b n : Nat) : Prop where
  t : t.natAbs < 2 ^ n
  b : b < 2 ^ n
theorem Fz.more {t : Int} {b n m : Nat} (h : Fz t b n) (e : n ≤ m) : Fz t b m := ⟨Nat.lt_of_lt_of_le h.t (Nat.pow_le_pow_right (by decide) e), Nat.lt_of_lt_of_le h.b (Nat.pow_le_pow_right (by decide) e)⟩
theorem low_z {t : Int} {b n : Nat} (hb : 0 < b) (ht : t.natAbs < 2 ^ n) (hz : b < 2 ^ n) : Fz (lowT t b) (lowBn t b) n := by
  refine ⟨Nat.lt_of_le_of_lt (lowT_abs (by omega)) ht, ?_⟩
  have := lowB_abs (t := t) (b := (b : Int)) (by omega)
  rw [Int.natAbs_natCast] at this
  exact Nat.lt_of_le_of_lt this hz
theorem addX_z {t1 t2 : Int} {b1 b2 n m : Nat} (h1 : Fz t1 b1 n) (h2 : Fz t2 b2 m) : (addX t1 b1 t2 b2).natAbs < 2 ^ (n + m + 1) := by
  unfold addX
  have a : (t1 * (b2 : Int)).natAbs < 2 ^ (n + m) := by rw [Int.natAbs_mul, Int.natAbs_natCast, Nat.pow_add]; exact Nat.mul_lt_mul'' h1.t h2.b
  have c : (t2 * (b1 : Int)).natAbs < 2 ^ (n + m) := by rw [Int.natAbs_mul, Int.natAbs_natCast, Nat.pow_add, Nat.mul_comm]; exact Nat.mul_lt_mul'' h1.b h2.t
  rw [Nat.pow_succ]
  omega
theorem mulB_z {b1 b2 n m : Nat} {t1 t2 : Int} (h1 : Fz t1 b1 n) (h2 : Fz t2 b2 m) : b1 * b2 < 2 ^ (n + m) := by
  rw [Nat.pow_add]
  exact Nat.mul_lt_mul'' h1.b h2.b
theorem add_z {t1 t2 : Int} {b1 b2 n m : Nat} (p1 : 0 < b1) (p2 : 0 < b2) (h1 : Fz t1 b1 n) (h2 : Fz t2 b2 m) : Fz (addT t1 b1 t2 b2) (addB t1 b1 t2 b2) (n + m + 1) :=
  low_z (Nat.mul_pos p1 p2) (addX_z h1 h2) (Nat.lt_of_lt_of_le (mulB_z h1 h2) (Nat.pow_le_pow_right (by decide) (by omega)))
theorem mul_z {t1 t2 : Int} {b1 b2 n m : Nat} (p1 : 0 < b1) (p2 : 0 < b2) (h1 : Fz t1 b1 n) (h2 : Fz t2 b2 m) : Fz (mulT t1 b1 t2 b2) (mulB t1 b1 t2 b2) (n + m) :=
  low_z (Nat.mul_pos p1 p2) (by rw [Int.natAbs_mul, Nat.pow_add]; exact Nat.mul_lt_mul'' h1.t h2.t) (mulB_z h1 h2)
theorem add_isF {t1 t2 : Int} {b1 b2 : Nat} (p1 : 0 < b1) (p2 : 0 < b2) : IsF (addT t1 b1 t2 b2) (addB t1 b1 t2 b2) := low_isF (Nat.mul_pos p1 p2)
theorem mul_isF {t1 t2 : Int} {b1 b2 : Nat} (p1 : 0 < b1) (p2 : 0 < b2) : IsF (mulT t1 b1 t2 b2) (mulB t1 b1 t2 b2) := low_isF (Nat.mul_pos p1 p2)
theorem IsF.neg {t : Int} {b : Nat} (h : IsF t b) : IsF (-t) b := ⟨h.pos, by rw [Int.natAbs_neg]; exact h.cop⟩
end B
namespace B
open PySem PySem.Spec PyProof.Rows L2
/-- the text of these signs, the text of one sign -/
def tx (cs : List Nat) : Str := ⟨cs.toArray⟩
def sg (c : Nat) : Str := ⟨#[c]⟩
theorem sg_tx (c : Nat) : sg c = tx [c] := rfl
theorem tx_len (cs : List Nat) : (tx cs).length = cs.length := rfl
theorem tx_list (cs : List Nat) : (tx cs).cps.toList = cs := rfl
section
open PySem.Builtin PySem.Builtin.Str PySem.StrLaws
theorem occ_done (s sub : Str) (hi : Nat) : ∀ (m cur : Nat) (st : Array Nat × Nat), st.1.size = 1 → (forIn (List.range' cur m) st (occBody s sub hi 1)).run.1 = st.1
  | 0, _, _, _ => rfl
  | m + 1, cur, st, h => by
    rw [List.range'_succ, List.forIn_cons]
    unfold occBody
    split
    · rename_i hc
      exact absurd hc.1.1.1 (by omega)
    · exact occ_done s sub hi m (cur + 1) st h
def occR (s sub : Str) (hi f cur m : Nat) : List Nat := (forIn (List.range' cur m) ((#[] : Array Nat), f) (occBody s sub hi 1)).run.1.toList
theorem occR_hit {s sub : Str} {hi f cur m : Nat} (hf : f ≤ cur) (hA : At s sub hi cur) : occR s sub hi f cur (m + 1) = [cur] := by
  unfold occR
  rw [List.range'_succ, List.forIn_cons]
  unfold occBody
  rw [if_pos ⟨⟨⟨by show (0 : Nat) < 1; decide, hf⟩, hA.1⟩, hA.2⟩]
  show (forIn (List.range' (cur + 1) m) ((#[] : Array Nat).push cur, cur + sub.length) (occBody s sub hi 1)).run.1.toList = [cur]
  rw [occ_done s sub hi m (cur + 1) _ rfl]
  rfl
theorem occR_miss {s sub : Str} {hi f cur m : Nat} (hA : ¬ At s sub hi cur) : occR s sub hi f cur (m + 1) = occR s sub hi f (cur + 1) m := by
  unfold occR
  rw [List.range'_succ, List.forIn_cons]
  unfold occBody
  rw [if_neg (fun hc => hA ⟨hc.1.2, hc.2⟩)]
  rfl
theorem occ_run1 (s sub : Str) (hi f : Nat) : ∀ (m cur : Nat), f ≤ cur → (∃ i, cur ≤ i ∧ i < cur + m ∧ At s sub hi i ∧ (∀ k, cur ≤ k → k < i → ¬ At s sub hi k) ∧ occR s sub hi f cur m = [i]) ∨
    ((∀ k, cur ≤ k → k < cur + m → ¬ At s sub hi k) ∧ occR s sub hi f cur m = [])
  | 0, cur, _ => .inr ⟨fun k h1 h2 => by omega, rfl⟩
  | m + 1, cur, hf => by
    by_cases hA : At s sub hi cur
    · exact .inl ⟨cur, Nat.le_refl _, by omega, hA, fun k h1 h2 => by omega, occR_hit hf hA⟩
    · rw [occR_miss hA]
      rcases occ_run1 s sub hi f m (cur + 1) (by omega) with ⟨i, h1, h2, h3, h4, h5⟩ | ⟨h1, h2⟩
      · refine .inl ⟨i, by omega, by omega, h3, fun k k1 k2 => ?_, h5⟩
        by_cases hk : k = cur
        · subst hk
          exact hA
        · exact h4 k (by omega) k2
      · refine .inr ⟨fun k k1 k2 => ?_, h2⟩
        by_cases hk : k = cur
        · subst hk
          exact hA
        · exact h1 k (by omega) (by omega)
theorem at_sign (cs : List Nat) (c i : Nat) : At (tx cs) (sg c) (tx cs).length i ↔ cs[i]? = some c := subAt_one (tx cs) c i
/-- where a sign first stands -/
theorem occ_sign {cs : List Nat} {c : Nat} (h : c ∈ cs) : ∃ i : Nat, occurrences (tx cs) (sg c) 0 (tx cs).length 1 = [i] ∧ cs[i]? = some c ∧ ∀ k, k < i → cs[k]? ≠ some c := by
  rw [occ_eq]
  rcases occ_run1 (tx cs) (sg c) (tx cs).length 0 ((tx cs).length + 1 - 0) 0 (Nat.le_refl _) with ⟨i, _, _, h3, h4, h5⟩ | ⟨h1, _⟩
  · exact ⟨i, h5, (at_sign cs c i).mp h3, fun k hk e => h4 k (by omega) hk ((at_sign cs c k).mpr e)⟩
  · exfalso
    obtain ⟨j, hj⟩ := List.getElem?_of_mem h
    have hlt := (List.getElem?_eq_some_iff.mp hj).1
    exact h1 j (by omega) (by rw [tx_len]; omega) ((at_sign cs c j).mpr hj)
theorem find_sign {cs : List Nat} {c : Nat} (h : c ∈ cs) : ∃ i : Nat, Txt.find (tx cs) (sg c) = (i : Int) ∧ occurrences (tx cs) (sg c) 0 (tx cs).length 1 = [i] ∧ cs[i]? = some c ∧ (∀ k, k < i → cs[k]? ≠ some c) := by
  obtain ⟨i, h1, h2, h3⟩ := occ_sign h
  refine ⟨i, ?_, h1, h2, h3⟩
  unfold Txt.find
  rw [h1]
end
section
variable {X : Cx}
/-- max(a tuple of ints) -/
theorem cr_maxT (hc : X.calm = true) : CallR X (.builtin "max") (fun vs H Q => ∃ (a : Addr) (ns : List Int), vs = [V.ref a] ∧ SqT X.K H a (ns.map V.int) ∧ 0 < ns.length ∧ ∀ m, m ∈ ns → (∀ y, y ∈ ns → y ≤ m) → Q (.int m) H) := by
  intro pins s σ H vs us Q I r h
  obtain ⟨a, ns, rfl, hs, hne, q⟩ := h
  obtain ⟨its, rv, hT, _⟩ := I.tuple hs
  rw [Vals.ref1 r]
  have hi := rv.ints
  obtain ⟨xs, e⟩ := hi.allInts.items
  have hn : numsOf (intItems xs).toList = ns := by rw [← e]; exact hi.numsOf
  rw [nums_intItems] at hn
  subst hn
  rw [e] at hT
  have hsz : 0 < xs.size := by simpa using hne
  have hlt : a < s.heap.objs.size := by obtain ⟨_, z, _⟩ := hT; exact Heap.lt_size z
  refine PySem.call_max_walk (PyProof.Rows.iter_tuple hT ?_)
  refine ⟨_, _, _, _, _, _, _, rfl, Walks.tuple (A := X.A.in1) (I.ok.hd hc) s.heap.objs.size a (Nat.ne_of_lt hlt) (intItems xs), ⟨⟨_, Heap.get?_push_size _ rfl, rfl, rfl⟩, ?_⟩, ?_, by simpa [intItems] using hsz, CmpOf.ints_gt (numAt xs) (fun _ _ => intItems_at), fun v h' tk hP hk => ?_⟩
  · obtain ⟨o, z, z2⟩ := hT
    exact ⟨o, Heap.get?_push_of_some _ z, z2⟩
  · intro b hb
    show b < (s.heap.push _).objs.size
    rw [Heap.size_push]
    rcases List.mem_cons.mp hb with rfl | hb
    · exact Nat.lt_succ_self _
    · rcases List.mem_cons.mp hb with rfl | hb
      · exact Nat.lt_succ_of_lt hlt
      · cases hb
  · obtain ⟨t, rfl⟩ := intItems_at (by simpa [intItems] using hP)
    obtain ⟨h1, h2⟩ := argBest_gt (numAt xs) (xs.size - 1)
    simp only [gt_iff_lt] at h1 h2
    have kp : ∀ b o, s.heap.get? b = some o → h'.get? b = some o := fun b o z => by
      refine hk b o (fun hm => ?_) (Heap.get?_push_of_some _ z)
      rcases List.mem_cons.mp hm with e1 | hm
      · exact absurd (e1 ▸ Heap.lt_size z) (Nat.lt_irrefl _)
      · cases hm
    refine ⟨.int _, H, I.kept kp, ⟨_, rfl⟩, q _ ?_ fun y hy => ?_⟩
    · rw [numAt_eq]
      exact PySem.getD_mem (by rw [List.length_map, Array.length_toList]; omega)
    · obtain ⟨j, hj, rfl⟩ := mem_getD hy
      rw [List.length_map, Array.length_toList] at hj
      rw [← numAt_eq]
      exact h2 j (by omega)
end
end B
namespace B
open PySem PySem.Spec PyProof.Rows L2
theorem OpR.weak {X : Cx} {f : Value → Value → Sem Value} {r r' : R2} (o : OpR X f r) (h : ∀ x y H Q, r' x y H Q → r x y H Q) : OpR X f r' := fun pins s σ H x y v u Q I rx ry q => o pins s σ H x y v u Q I rx ry (h x y H Q q)
theorem SlR.weak {X : Cx} {r r' : V → Option Int → Option Int → Hp → VK → Prop} (o : SlR X r) (h : ∀ x lo hi H Q, r' x lo hi H Q → r x lo hi H Q) : SlR X r' := by
  intro pins s σ H x v vl vu lo hi sl Q I rx hs pl pu q
  exact o pins s σ H x v vl vu lo hi sl Q I rx hs pl pu (h x lo hi H Q q)
def rCatS (K : PySem.W.Frag) : R2 := fun x y H Q => ∃ a b xs ys, x = .ref a ∧ y = .ref b ∧ SqT K H a xs ∧ SqT K H b ys ∧ xs.length + ys.length ≤ 100000 ∧ ∀ p H', SqT K H' p (xs ++ ys) → Same H H' → Q (.ref p) H'
theorem op_catS {X : Cx} : OpR X (binaryOp .Add) (rCatS X.K) := OpR.weak op_catA fun x y H Q h => by
  obtain ⟨a, b, xs, ys, rfl, rfl, ha, hb, hl, q⟩ := h
  refine ⟨a, b, xs, ys, rfl, rfl, ha, hb, Nat.le_trans hl (by decide), fun e => ?_, fun _ e => ?_, fun _ _ p np => ?_⟩
  · subst e
    exact q b H hb (Same.refl H)
  · subst e
    exact q a H (by rw [List.append_nil]; exact ha) (Same.refl H)
  · exact q p _ sqt_upd (same_upd np)
def rSlS (K : PySem.W.Frag) : V → Option Int → Option Int → Hp → VK → Prop := fun x lo hi H Q => ∃ a xs, x = .ref a ∧ SqT K H a xs ∧ ∀ p H', SqT K H' p (cutV xs lo hi) → Same H H' → Q (.ref p) H'
theorem cutV_whole {xs : List V} {lo hi : Option Int} (h : HT.sIx xs.length 0 lo = 0 ∧ HT.sIx xs.length xs.length hi = xs.length) : cutV xs lo hi = xs := by
  unfold cutV
  rw [h.1, h.2, List.drop_zero, Nat.sub_zero, List.take_length]
theorem sl_tupS {X : Cx} : SlR X (rSlS X.K) := SlR.weak sl_tupA fun x lo hi H Q h => by
  obtain ⟨a, xs, rfl, ha, q⟩ := h
  refine ⟨a, xs, rfl, ha, fun e => ?_, fun _ p np => ?_⟩
  · exact q a H (by rw [cutV_whole e]; exact ha) (Same.refl H)
  · exact q p _ sqt_upd (same_upd np)
theorem tuple_mul1 (l : Addr) (items : Array Value) (n : Nat) (dd : Option Addr) (sl : Array (Option Value)) (u : Tok) :
    Meets (Builtin.«tuple.__mul__» ⟨[.ref l, .int 1 u], []⟩) (fun _ R s => s.heap.get? l = some { cls := .type "tuple", dict := dd, data := .seq items n, slots := sl } ∧ R (.ok (.ret (Value.ref l))) s) :=
  .of_wp fun prog w A R s h => by
    obtain ⟨hp, g, d, tk, os⟩ := s
    obtain ⟨hl, h⟩ := h
    have f1 := AutoSeq1.idx_int
    wp_walk using wpAny_loadPart' hl
    exact ⟨_, rfl, h⟩
theorem tuple_mul0 (l : Addr) (items : Array Value) (n : Nat) (dd : Option Addr) (sl : Array (Option Value)) (x : Int) (u : Tok) (c0 : (decide (x < -(2 ^ 63)) || decide (x ≥ 2 ^ 63)) = false) (c1 : (items.isEmpty || x == 1) = false) (c2 : (decide (x ≤ 0) || items.isEmpty) = true) :
    Meets (Builtin.«tuple.__mul__» ⟨[.ref l, .int x u], []⟩) (fun _ R s => s.heap.get? l = some { cls := .type "tuple", dict := dd, data := .seq items n, slots := sl } ∧
      R (.ok (.ret (Value.ref s.heap.objs.size))) { s with heap := s.heap.push { cls := Value.type "tuple", data := Data.seq #[] }, toks := s.toks }) :=
  .of_wp fun prog w A R s h => by
    obtain ⟨hp, g, d, tk, os⟩ := s
    obtain ⟨hl, h⟩ := h
    have f1 := AutoSeq1.idx_int
    wp_walk using wpAny_loadPart' hl
    repeat (first
      | (refine wpAny_ite_false (decide_eq_false (by rw [c0]; decide)) ?_; wp_walk using wpAny_loadPart' hl)
      | (refine wpAny_ite_false (decide_eq_false (by rw [c1]; decide)) ?_; wp_walk using wpAny_loadPart' hl)
      | (refine wpAny_ite_true (decide_eq_true c2) ?_; wp_walk using wpAny_loadPart' hl))
    exact ⟨_, rfl, h⟩
/-- a tuple so often, also once or not at all -/
def rRepN (K : PySem.W.Frag) : R2 := fun x y H Q => ∃ l k xs, x = .ref l ∧ y = .int k ∧ SqT K H l xs ∧ xs ≠ [] ∧ -1000 ≤ k ∧ k ≤ 1000 ∧ xs.length ≤ 1000 ∧ ∀ p H', SqT K H' p (List.replicate k.toNat xs).flatten → Same H H' → Q (.ref p) H'
theorem op_repN {X : Cx} : OpR X (binaryOp .Mult) (rRepN X.K) := by
  intro pins s σ H x y v u Q I rx ry h
  obtain ⟨l, k, xs, rfl, rfl, hT, hne, h0, h1, hz, q⟩ := h
  by_cases hk : 2 ≤ k
  · exact op_repT pins s σ H _ _ v u Q I rx ry ⟨l, k, xs, rfl, rfl, hT, hne, hk, h1, hz, fun p np => q p _ sqt_upd (same_upd np)⟩
  cases rx
  obtain ⟨t, rfl⟩ := ry
  obtain ⟨its, r, ⟨⟨cls, dd, data, sl⟩, ho, hc, n, hd⟩, hs⟩ := I.tuple hT
  simp only at hc hd
  subst hc hd
  by_cases h1' : k = 1
  · subst h1'
    refine wpAny_binaryOp_repeat_ref (T := "tuple") (U := "int") (by decide) ⟨_, ho, rfl⟩ (fun s' => typeIs_int s' 1 t) noFill_tuple_mul F.fills_int_mul F.slot_int_rmul repeat_tuple F.slot_int_index.lookup
      (call_meets F.slot_int_rmul (typeIs_int s 1 t) F.entry_int_rmul (F.args_int_rmul_2 _ _) (int_rmul_tuple 1 t l its.toArray n dd sl)
        ⟨ho, rfl, ⟨_, ho, rfl⟩, call_meets F.slot_tuple_mul ⟨_, ho, rfl⟩ F.entry_tuple_mul (F.args_tuple_mul_2 _ _) (tuple_mul1 l its.toArray n dd sl t) ⟨ho, ?_⟩⟩)
    exact ⟨.ref l, H, I, rfl, q l H (by show SqT X.K H l (xs ++ []); rw [List.append_nil]; exact hT) (Same.refl H)⟩
  · have hle : its.length = xs.length := r.length.symm
    have hi : its.toArray.isEmpty = false := by
      cases its with
      | nil => exact absurd (List.eq_nil_of_length_eq_zero hle.symm) hne
      | cons a b => rfl
    have c0 : (decide (k < -(2 ^ 63)) || decide (k ≥ 2 ^ 63)) = false := by
      rw [decide_eq_false (by omega), decide_eq_false (by omega)]; rfl
    have c1 : (its.toArray.isEmpty || k == 1) = false := by
      rw [hi, Bool.false_or]
      exact beq_eq_false_iff_ne.mpr h1'
    have c2 : (decide (k ≤ 0) || its.toArray.isEmpty) = true := by
      rw [decide_eq_true (by omega)]; rfl
    refine wpAny_binaryOp_repeat_ref (T := "tuple") (U := "int") (by decide) ⟨_, ho, rfl⟩ (fun s' => typeIs_int s' k t) noFill_tuple_mul F.fills_int_mul F.slot_int_rmul repeat_tuple F.slot_int_index.lookup
      (call_meets F.slot_int_rmul (typeIs_int s k t) F.entry_int_rmul (F.args_int_rmul_2 _ _) (int_rmul_tuple k t l its.toArray n dd sl)
        ⟨ho, rfl, ⟨_, ho, rfl⟩, call_meets F.slot_tuple_mul ⟨_, ho, rfl⟩ F.entry_tuple_mul (F.args_tuple_mul_2 _ _) (tuple_mul0 l its.toArray n dd sl k t c0 c1 c2) ⟨ho, ?_⟩⟩)
    have ek : k.toNat = 0 := by omega
    refine ⟨.ref s.heap.objs.size, _, I.laid (t' := s.toks) (o := .tup []) (fun b ob q => Heap.get?_push_of_some _ q) (Nat.le_refl _) ?_, rfl, q _ _ (by rw [ek]; exact sqt_upd) (same_upd (I.hok.fresh (Nat.le_refl _)))⟩
    exact ⟨Nat.zero_le _, [], .nil, IsTup.new _ _⟩
theorem cut_last (xs : List V) (h : xs ≠ []) : cutV xs none (some (-1)) = xs.dropLast := by
  have hl : 0 < xs.length := by
    cases xs with
    | nil => exact absurd rfl h
    | cons a b => simp
  unfold cutV
  rw [HT.sIx_none, List.drop_zero, Nat.sub_zero, List.dropLast_eq_take]
  congr 1
  show (if (-1 : Int) < 0 then ((-1 : Int) + (xs.length : Int)).toNat else min (-1 : Int).toNat xs.length) = xs.length - 1
  rw [if_pos (by decide)]
  omega
theorem cut_last2 (xs : List V) : cutV xs none (some (-2)) = xs.take (xs.length - 2) := by
  unfold cutV
  rw [HT.sIx_none, List.drop_zero, Nat.sub_zero]
  congr 1
  show (if (-2 : Int) < 0 then ((-2 : Int) + (xs.length : Int)).toNat else min (-2 : Int).toNat xs.length) = xs.length - 2
  rw [if_pos (by decide)]
  omega
theorem cut_end2 (xs : List V) : cutV xs (some (-2)) none = xs.drop (xs.length - 2) := by
  unfold cutV
  rw [HT.sIx_none]
  have e : HT.sIx xs.length 0 (some (-2)) = xs.length - 2 := by
    show (if (-2 : Int) < 0 then ((-2 : Int) + (xs.length : Int)).toNat else min (-2 : Int).toNat xs.length) = xs.length - 2
    rw [if_pos (by decide)]
    omega
  rw [e, List.take_of_length_le (by rw [List.length_drop]; omega)]
inductive Wd where
  | lt (c : Nat) | yes | no | nt | an | orr | sm
  deriving DecidableEq
def Wd.s : Wd → Str
  | .lt c => sg c
  | .yes => "yes" | .no => "no" | .nt => "not" | .an => "and" | .orr => "or" | .sm => "same"
def wv (w : Wd) : V := .str w.s
/-- how high the heap is behind the words -/
def ht : Nat → List Wd → Option Nat
  | h, [] => some h
  | h, .lt _ :: r => ht (h + 1) r
  | h, .yes :: r => ht (h + 1) r
  | h, .no :: r => ht (h + 1) r
  | h, .nt :: r => if 1 ≤ h then ht h r else none
  | h, .an :: r => if 2 ≤ h then ht (h - 1) r else none
  | h, .orr :: r => if 2 ≤ h then ht (h - 1) r else none
  | h, .sm :: r => if 2 ≤ h then ht (h - 1) r else none
theorem ht_add : ∀ (ws : List Wd) (h k d : Nat), ht h ws = some k → ht (h + d) ws = some (k + d)
  | [], h, k, d, e => by
    have e : h = k := Option.some.inj e
    subst e
    rfl
  | w :: r, h, k, d, e => by
    cases w with
    | lt c => have := ht_add r (h + 1) k d e; rw [Nat.add_right_comm] at this; exact this
    | yes => have := ht_add r (h + 1) k d e; rw [Nat.add_right_comm] at this; exact this
    | no => have := ht_add r (h + 1) k d e; rw [Nat.add_right_comm] at this; exact this
    | nt =>
      unfold ht at e ⊢
      by_cases h1 : 1 ≤ h
      · rw [if_pos h1] at e
        rw [if_pos (by omega)]
        exact ht_add r h k d e
      · rw [if_neg h1] at e
        cases e
    | an =>
      unfold ht at e ⊢
      by_cases h1 : 2 ≤ h
      · rw [if_pos h1] at e
        rw [if_pos (by omega), show h + d - 1 = h - 1 + d by omega]
        exact ht_add r (h - 1) k d e
      · rw [if_neg h1] at e
        cases e
    | orr =>
      unfold ht at e ⊢
      by_cases h1 : 2 ≤ h
      · rw [if_pos h1] at e
        rw [if_pos (by omega), show h + d - 1 = h - 1 + d by omega]
        exact ht_add r (h - 1) k d e
      · rw [if_neg h1] at e
        cases e
    | sm =>
      unfold ht at e ⊢
      by_cases h1 : 2 ≤ h
      · rw [if_pos h1] at e
        rw [if_pos (by omega), show h + d - 1 = h - 1 + d by omega]
        exact ht_add r (h - 1) k d e
      · rw [if_neg h1] at e
        cases e
theorem ht_app : ∀ (a b : List Wd) (h k : Nat), ht h a = some k → ht h (a ++ b) = ht k b
  | [], b, h, k, e => by
    have e : h = k := Option.some.inj e
    subst e
    rfl
  | w :: r, b, h, k, e => by
    rw [List.cons_append]
    cases w with
    | lt c => exact ht_app r b (h + 1) k e
    | yes => exact ht_app r b (h + 1) k e
    | no => exact ht_app r b (h + 1) k e
    | nt =>
      simp only [ht] at e ⊢
      by_cases h1 : 1 ≤ h
      · rw [if_pos h1] at e ⊢
        exact ht_app r b h k e
      · rw [if_neg h1] at e
        cases e
    | an =>
      simp only [ht] at e ⊢
      by_cases h1 : 2 ≤ h
      · rw [if_pos h1] at e ⊢
        exact ht_app r b (h - 1) k e
      · rw [if_neg h1] at e
        cases e
    | orr =>
      simp only [ht] at e ⊢
      by_cases h1 : 2 ≤ h
      · rw [if_pos h1] at e ⊢
        exact ht_app r b (h - 1) k e
      · rw [if_neg h1] at e
        cases e
    | sm =>
      simp only [ht] at e ⊢
      by_cases h1 : 2 ≤ h
      · rw [if_pos h1] at e ⊢
        exact ht_app r b (h - 1) k e
      · rw [if_neg h1] at e
        cases e
/-- a saying over the letters cs -/
structure Sy (cs : List Nat) (ws : List Wd) : Prop where
  ht : ht 0 ws = some 1
  lt : ∀ c, Wd.lt c ∈ ws → c ∈ cs
theorem Sy.ne {cs : List Nat} {ws : List Wd} (h : Sy cs ws) : ws ≠ [] := by
  intro e
  have := h.ht
  rw [e] at this
  cases this
theorem Sy.not {cs : List Nat} {ws : List Wd} (h : Sy cs ws) : Sy cs (ws ++ [.nt]) := by
  refine ⟨by rw [ht_app _ _ _ _ h.ht]; rfl, fun c hc => ?_⟩
  rcases List.mem_append.mp hc with z | z
  · exact h.lt c z
  · simp at z
inductive Jn : Wd → Prop
  | an : Jn .an
  | orr : Jn .orr
  | sm : Jn .sm
theorem Sy.join {cs : List Nat} {a b : List Wd} {w : Wd} (ha : Sy cs a) (hb : Sy cs b) (hw : Jn w) : Sy cs (a ++ b ++ [w]) := by
  refine ⟨?_, fun c hc => ?_⟩
  · rw [List.append_assoc, ht_app _ _ _ _ ha.ht]
    have := ht_add b 0 1 1 hb.ht
    rw [ht_app _ _ _ _ this]
    cases hw <;> rfl
  · rcases List.mem_append.mp hc with z | z
    · rcases List.mem_append.mp z with z | z
      · exact ha.lt c z
      · exact hb.lt c z
    · rw [List.mem_singleton] at z
      subst z
      cases hw
theorem Sy.leaf {cs : List Nat} {c : Nat} (h : c ∈ cs) : Sy cs [.lt c] := ⟨rfl, fun d hd => by
  rw [List.mem_singleton] at hd
  cases hd
  exact h⟩
theorem Sy.yes {cs : List Nat} : Sy cs [.yes] := ⟨rfl, fun d hd => by simp at hd⟩
/-- what a word makes of the heap, its top ahead -/
def stp (v : Nat → Bool) : List Bool → Wd → List Bool
  | st, .lt c => v c :: st
  | st, .yes => true :: st
  | st, .no => false :: st
  | a :: st, .nt => (!a) :: st
  | b :: a :: st, .an => (a && b) :: st
  | b :: a :: st, .orr => (a || b) :: st
  | b :: a :: st, .sm => (a == b) :: st
  | st, _ => st
def run (v : Nat → Bool) (st : List Bool) (ws : List Wd) : List Bool := ws.foldl (stp v) st
/-- whether a saying holds -/
def sval (v : Nat → Bool) (ws : List Wd) : Bool := (run v [] ws).headD false
/-- one step: the word fits the heap -/
theorem ht_step {st : List Bool} {w : Wd} {r : List Wd} {k : Nat} (v : Nat → Bool) (h : ht st.length (w :: r) = some k) : ht (stp v st w).length r = some k := by
  cases w with
  | lt c => exact h
  | yes => exact h
  | no => exact h
  | nt =>
    unfold ht at h
    match st, h with
    | [], h => cases h
    | a :: st, h => exact h
  | an =>
    unfold ht at h
    match st, h with
    | [], h => cases h
    | [a], h => cases h
    | b :: a :: st, h => exact h
  | orr =>
    unfold ht at h
    match st, h with
    | [], h => cases h
    | [a], h => cases h
    | b :: a :: st, h => exact h
  | sm =>
    unfold ht at h
    match st, h with
    | [], h => cases h
    | [a], h => cases h
    | b :: a :: st, h => exact h
theorem ht_nt {st : List Bool} {r : List Wd} {k : Nat} (h : ht st.length (.nt :: r) = some k) : ∃ a s, st = a :: s := by
  unfold ht at h
  match st, h with
  | [], h => cases h
  | a :: s, _ => exact ⟨a, s, rfl⟩
theorem ht_jn {st : List Bool} {w : Wd} {r : List Wd} {k : Nat} (hw : Jn w) (h : ht st.length (w :: r) = some k) : ∃ b a s, st = b :: a :: s := by
  cases hw <;>
  · unfold ht at h
    match st, h with
    | [], h => cases h
    | [a], h => cases h
    | b :: a :: s, _ => exact ⟨b, a, s, rfl⟩
theorem run_cons (v : Nat → Bool) (st : List Bool) (w : Wd) (r : List Wd) : run v st (w :: r) = run v (stp v st w) r := rfl
theorem run_len (v : Nat → Bool) : ∀ (ws : List Wd) (st : List Bool) (k : Nat), ht st.length ws = some k → (run v st ws).length = k
  | [], st, k, h => Option.some.inj h
  | w :: r, st, k, h => run_len v r (stp v st w) k (ht_step v h)
theorem run_sy {cs : List Nat} {ws : List Wd} (v : Nat → Bool) (h : Sy cs ws) : run v [] ws = [sval v ws] := by
  have := run_len v ws [] 1 h.ht
  unfold sval
  match run v [] ws, this with
  | [b], _ => rfl
theorem sg_ne {c : Nat} {x : Str} (h : x.cps.size ≠ 1) : sg c ≠ x := by
  intro e
  rw [← e] at h
  exact h rfl
def Wd.isLt : Wd → Bool
  | .lt _ => true
  | _ => false
/-- a word is this one, by its text -/
theorem wd_eq (w u : Wd) (hu : u.isLt = false) : decide (wv w = wv u) = decide (w = u) := by
  cases w with
  | lt c =>
    have : sg c ≠ u.s := by
      cases u <;> first | (exact absurd (show true = false from hu) (by decide)) | exact sg_ne (by decide +kernel)
    have e : decide (wv (.lt c) = wv u) = false := decide_eq_false (fun e => this (V.str.inj e))
    rw [e]
    cases u <;> first | (exact absurd (show true = false from hu) (by decide)) | rfl
  | _ => cases u <;> first | (exact absurd (show true = false from hu) (by decide)) | decide +kernel
end B
namespace B
open PySem PySem.Spec PyProof.Rows L2
def bc (b : Bool) : Nat := if b then 49 else 48
/-- a world's text -/
def wtx (bs : List Bool) : Str := tx (bs.map bc)
/-- the letter c at the world bs over the letters cs -/
def vl (cs : List Nat) (bs : List Bool) (c : Nat) : Bool := bs.getD (cs.idxOf c) false
theorem idx_first : ∀ {cs : List Nat} {c i : Nat}, cs[i]? = some c → (∀ k, k < i → cs[k]? ≠ some c) → cs.idxOf c = i
  | [], c, i, h, _ => by simp at h
  | a :: r, c, 0, h, _ => by
    have e : a = c := Option.some.inj h
    subst e
    simp
  | a :: r, c, i + 1, h, n => by
    have h0 : a ≠ c := fun e => n 0 (by omega) (by rw [e]; rfl)
    have ih := idx_first (cs := r) (c := c) (i := i) h fun k hk e => n (k + 1) (by omega) e
    rw [List.idxOf_cons, ih]
    have hb : (a == c) = false := beq_eq_false_iff_ne.mpr h0
    rw [hb]
    rfl
theorem letter_at {cs : List Nat} {c : Nat} (h : c ∈ cs) : ∃ i : Nat, cs.idxOf c = i ∧ cs[i]? = some c ∧ Txt.find (tx cs) (sg c) = (i : Int) ∧ Builtin.Str.occurrences (tx cs) (sg c) 0 (tx cs).length 1 = [i] := by
  obtain ⟨i, h1, h2, h3, h4⟩ := find_sign h
  exact ⟨i, idx_first h3 h4, h3, h1, h2⟩
theorem bc_one (b : Bool) : decide (V.str (sg (bc b)) = V.str "1") = b := by
  cases b <;> decide +kernel
theorem bc_int (b : Bool) : PySem.intText? (sg (bc b)) = some (if b then 1 else 0) := by
  cases b <;> decide +kernel
/-- the world with this number over n letters -/
def bitsN : Nat → Nat → List Bool
  | 0, _ => []
  | n + 1, k => decide (k / 2 ^ n % 2 = 1) :: bitsN n k
theorem bitsN_len : ∀ n k, (bitsN n k).length = n
  | 0, _ => rfl
  | n + 1, k => by
    rw [bitsN, List.length_cons, bitsN_len n k]
/-- all worlds over n letters, rising -/
def allW (n : Nat) : List (List Bool) := (List.range (2 ^ n)).map (bitsN n)
theorem allW_len {n : Nat} {bs : List Bool} (h : bs ∈ allW n) : bs.length = n := by
  obtain ⟨k, _, rfl⟩ := List.mem_map.mp h
  exact bitsN_len n k
/-- the values are these sayings -/
def Rws (K : PySem.W.Frag) (H : Hp) : List V → List (List Wd) → Prop
  | [], [] => True
  | v :: vs, r :: rs => (∃ a, v = .ref a ∧ SqT K H a (r.map wv)) ∧ Rws K H vs rs
  | _, _ => False
theorem Rws.len {K : PySem.W.Frag} {H : Hp} : ∀ {vs : List V} {rs : List (List Wd)}, Rws K H vs rs → vs.length = rs.length
  | [], [], _ => rfl
  | _ :: vs, _ :: rs, h => by rw [List.length_cons, List.length_cons, Rws.len h.2]
theorem Rws.mono {K : PySem.W.Frag} {H H' : Hp} (k : ∀ a xs, SqT K H a xs → SqT K H' a xs) : ∀ {vs : List V} {rs : List (List Wd)}, Rws K H vs rs → Rws K H' vs rs
  | [], [], _ => trivial
  | _ :: _, _ :: _, h => ⟨by obtain ⟨a, e, q⟩ := h.1; exact ⟨a, e, k _ _ q⟩, Rws.mono k h.2⟩
theorem Rws.getV {K : PySem.W.Frag} {H : Hp} : ∀ {vs : List V} {rs : List (List Wd)} {j : Nat} {v : V}, Rws K H vs rs → vs[j]? = some v → ∃ a r, v = .ref a ∧ rs[j]? = some r ∧ SqT K H a (r.map wv)
  | [], [], j, r, _, e => by simp at e
  | v :: vs, q :: rs, 0, r, h, e => by
    obtain ⟨a, e1, z⟩ := h.1
    have e : v = r := Option.some.inj e
    subst e
    exact ⟨a, q, e1, rfl, z⟩
  | _ :: vs, _ :: rs, j + 1, r, h, e => Rws.getV (vs := vs) (rs := rs) (j := j) h.2 (by simpa using e)
theorem Rws.app {K : PySem.W.Frag} {H : Hp} : ∀ {vs us : List V} {rs ss : List (List Wd)}, Rws K H vs rs → Rws K H us ss → Rws K H (vs ++ us) (rs ++ ss)
  | [], _, [], _, _, h => h
  | _ :: _, _, _ :: _, _, h, h2 => ⟨h.1, Rws.app h.2 h2⟩
theorem Rws.one {K : PySem.W.Frag} {H : Hp} {a : Addr} {r : List Wd} (h : SqT K H a (r.map wv)) : Rws K H [.ref a] [r] := ⟨⟨a, rfl, h⟩, trivial⟩
theorem Rws.same {K : PySem.W.Frag} {H H' : Hp} {vs : List V} {rs : List (List Wd)} (h : Rws K H vs rs) (e : Same H H') : Rws K H' vs rs := h.mono fun _ _ q => Same.tup e q
/-- changes of one list alone leave tuples as they are -/
theorem tup_upd {K : PySem.W.Frag} {H : Hp} {l a : Addr} {xs ys : List V} {zs : List V} (hl : H l = some (.lst xs)) (h : SqT K H a ys) : SqT K (upd H l (.lst zs)) a ys := by
  rcases h with (h | ⟨o, h⟩) | h
  · exact .inl (.inl (by rw [upd_ne (ne_of h hl (by intro q; cases q))]; exact h))
  · exact .inl (.inr ⟨o, by rw [upd_ne (ne_of h hl (by intro q; cases q))]; exact h⟩)
  · exact .inr h
theorem Drw.mut {H : Hp} {d : Dr} {b : Nat} {p : Addr} {o : HO} (h : Drw H d b) (n1 : p ≠ d.dr) (n2 : p ≠ d.cl) (n3 : p ≠ d.rs) : Drw (L2.upd H p o) d b := by
  obtain ⟨⟨cs, rr, k, h1, h2, h3, h4⟩, ne⟩ := h
  exact ⟨⟨cs, rr, k, by rw [upd_ne n1.symm]; exact h1, by rw [upd_ne n2.symm]; exact h2, by rw [upd_ne n3.symm]; exact h3, h4⟩, ne⟩
theorem Drw.nc {H : Hp} {d : Dr} {b : Nat} {p : Addr} (h : Drw H d b) (n : H p = none) : p ≠ d.cl := by
  obtain ⟨⟨cs, rr, k, h1, h2, h3, h4⟩, ne⟩ := h
  exact (ne_of_none h2 n).symm
theorem in_join (w : Wd) : inV (wv w) [.str "and", .str "or", .str "same"] = decide (w = .an ∨ w = .orr ∨ w = .sm) := by
  cases w with
  | lt c =>
    have h1 : (("and" : Str) == sg c) = false := beq_eq_false_iff_ne.mpr (sg_ne (c := c) (x := "and") (by decide +kernel)).symm
    have h2 : (("or" : Str) == sg c) = false := beq_eq_false_iff_ne.mpr (sg_ne (c := c) (x := "or") (by decide +kernel)).symm
    have h3 : (("same" : Str) == sg c) = false := beq_eq_false_iff_ne.mpr (sg_ne (c := c) (x := "same") (by decide +kernel)).symm
    show ((("and" : Str) == sg c) || ((("or" : Str) == sg c) || ((("same" : Str) == sg c) || false))) = _
    rw [h1, h2, h3]
    rfl
  | _ => decide +kernel
theorem iteW {w u : Wd} {A B : Prop} (hu : u.isLt = false) (h1 : w = u → A) (h2 : w ≠ u → B) : if decide (wv w = wv u) = true then A else B := by
  rw [wd_eq w u hu]
  exact ite2 (fun e => h1 (of_decide_eq_true e)) (fun e => h2 fun z => e (decide_eq_true z))
theorem iteJ {w : Wd} {A B : Prop} (h1 : (w = .an ∨ w = .orr ∨ w = .sm) → A) (h2 : ¬ (w = .an ∨ w = .orr ∨ w = .sm) → B) : if inV (wv w) [.str "and", .str "or", .str "same"] = true then A else B := by
  rw [in_join]
  exact ite2 (fun e => h1 (of_decide_eq_true e)) (fun e => h2 fun z => e (decide_eq_true z))
/-- what a word that wants nothing lays upon the heap -/
def lv (v : Nat → Bool) : Wd → Bool
  | .lt c => v c
  | .yes => true
  | _ => false
inductive Lf (cs : List Nat) : Wd → Prop
  | lt {c : Nat} (h : c ∈ cs) : Lf cs (.lt c)
  | yes : Lf cs .yes
  | no : Lf cs .no
def jv : Wd → Bool → Bool → Bool
  | .an, a, b => a && b
  | .orr, a, b => a || b
  | _, a, b => a == b
theorem last_ix {xs : List V} {y : V} : ixN (xs ++ [y]).length (-1) = some xs.length := by
  unfold ixN
  rw [List.length_append]
  show (if (0 : Int) ≤ -1 then _ else if -((xs.length + 1 : Nat) : Int) ≤ -1 then some (-1 + ((xs.length + 1 : Nat) : Int)).toNat else none) = _
  rw [if_neg (by decide), if_pos (by omega)]
  congr 1
  omega
theorem last_set {xs : List V} {y z : V} : (xs ++ [y]).set xs.length z = xs ++ [z] := by
  rw [List.set_append_right _ _ (Nat.le_refl _), Nat.sub_self]
  rfl
def hp (st : List Bool) : List V := st.reverse.map V.bl
theorem hp_cons (b : Bool) (st : List Bool) : hp (b :: st) = hp st ++ [.bl b] := by
  unfold hp
  rw [List.reverse_cons, List.map_append]
  rfl
def bi (b : Bool) : Int := if b then 1 else 0
def hq (st : List Bool) : List V := st.reverse.map fun b => V.int (bi b)
theorem hq_cons (b : Bool) (st : List Bool) : hq (b :: st) = hq st ++ [.int (bi b)] := by
  unfold hq
  rw [List.reverse_cons, List.map_append]
  rfl
theorem hq_len (st : List Bool) : (hq st).length = st.length := by
  unfold hq
  rw [List.length_map, List.length_reverse]
theorem at_last2 {xs : List V} {y z : V} : atI (xs ++ [y] ++ [z]) (-2) = some y := by
  unfold atI ixN
  rw [List.length_append, List.length_append]
  show (if (0 : Int) ≤ -2 then _ else if -((xs.length + 1 + 1 : Nat) : Int) ≤ -2 then some (-2 + ((xs.length + 1 + 1 : Nat) : Int)).toNat else none).bind _ = _
  rw [if_neg (by decide), if_pos (by omega)]
  have e : (-2 + ((xs.length + 1 + 1 : Nat) : Int)).toNat = xs.length := by omega
  rw [e]
  show (xs ++ [y] ++ [z])[xs.length]? = _
  rw [List.append_assoc, List.getElem?_append_right (Nat.le_refl _), Nat.sub_self]
  rfl
theorem cut2 {xs : List V} {y z : V} : cutV (xs ++ [y] ++ [z]) none (some (-2)) = xs ∧ cutV (xs ++ [y] ++ [z]) (some (-2)) none = [y, z] := by
  rw [cut_last2, cut_end2, List.append_assoc, List.length_append]
  show (xs ++ [y, z]).take (xs.length + 2 - 2) = xs ∧ (xs ++ [y, z]).drop (xs.length + 2 - 2) = [y, z]
  rw [Nat.add_sub_cancel]
  exact ⟨List.take_left, List.drop_left⟩
/-- letters: a rising row of small letters -/
structure Ls (n : Nat) (cs : List Nat) : Prop where
  pos : 1 ≤ cs.length
  most : cs.length ≤ n
  rise : cs.Pairwise (· < ·)
  small : ∀ c ∈ cs, 97 ≤ c ∧ c < 123
theorem cut_take (xs : List V) (j : Nat) : cutV xs none (some (j : Int)) = xs.take j := by
  unfold cutV
  rw [HT.sIx_none, HT.sIx_nat, List.drop_zero, Nat.sub_zero]
  rcases Nat.le_total j xs.length with h | h
  · rw [Nat.min_eq_left h]
  · rw [Nat.min_eq_right h, List.take_length, List.take_of_length_le h]
theorem cut_drop (xs : List V) (j : Nat) : cutV xs (some (j : Int)) none = xs.drop j := by
  unfold cutV
  rw [HT.sIx_none, HT.sIx_nat]
  rcases Nat.le_total j xs.length with h | h
  · rw [Nat.min_eq_left h, List.take_of_length_le (by rw [List.length_drop]; omega)]
  · rw [Nat.min_eq_right h, List.drop_length, List.take_nil, List.drop_of_length_le h]
theorem Kp.free {d : Dr} {H H' : Hp} {b : Nat} {p : Addr} (k : Kp d H H') (w : Drw H' d b) (n : H' p = none) : H p = none := by
  cases e : H p with
  | none => rfl
  | some o =>
    have := k p o e (w.no n).1 (w.no n).2
    rw [n] at this
    cases this
theorem flat_rep {α : Type} (x : α) : ∀ n : Nat, (List.replicate n [x]).flatten = List.replicate n x
  | 0 => rfl
  | n + 1 => by
    rw [List.replicate_succ, List.flatten_cons, flat_rep x n, List.replicate_succ]
    rfl
def wdat (r : List Wd) : PyData := .tuple (r.map fun w => .str w.s)
theorem wd_ok {cs : List Nat} (hs : ∀ c ∈ cs, c < 123) (w : Wd) (h : ∀ c, w = .lt c → c ∈ cs) : PyData.strOk w.s = true := by
  cases w with
  | lt c =>
    have := hs c (h c rfl)
    show (#[c] : Array Nat).all _ = true
    simp
    omega
  | _ => decide +kernel
theorem wdat_ok {cs : List Nat} (hs : ∀ c ∈ cs, c < 123) : ∀ (r : List Wd), (∀ c, Wd.lt c ∈ r → c ∈ cs) → PyData.canLayAll0 (r.map fun w => .str w.s) = true
  | [], _ => rfl
  | w :: r, h => by
    show (PyData.strOk w.s && PyData.canLayAll0 (r.map fun w => .str w.s)) = true
    rw [wd_ok hs w (fun c e => h c (by rw [e]; exact List.mem_cons_self ..)), wdat_ok hs r fun c hc => h c (List.mem_cons_of_mem _ hc)]
    rfl
theorem wdat_depth : ∀ r : List Wd, PyData.depthAll (r.map fun w => PyData.str w.s) = 0
  | [] => rfl
  | w :: r => by
    show max 0 (PyData.depthAll (r.map fun w => PyData.str w.s)) = 0
    rw [wdat_depth r]
    rfl
theorem wdp_all {K : PySem.W.Frag} {H : Hp} : ∀ r : List Wd, DpAll K H (r.map wv) (r.map fun w => .str w.s)
  | [] => .nil
  | w :: r => .cons (.str w.s) (wdp_all r)
theorem wdp {K : PySem.W.Frag} {H : Hp} {a : Addr} {r : List Wd} (h : SqT K H a (r.map wv)) : Dp K H (.ref a) (wdat r) := .tup h (wdp_all r)
theorem Rws.dp {K : PySem.W.Frag} {H : Hp} : ∀ {vs : List V} {rs : List (List Wd)}, Rws K H vs rs → DpAll K H vs (rs.map wdat)
  | [], [], _ => .nil
  | _ :: _, _ :: _, h => by
    obtain ⟨a, rfl, q⟩ := h.1
    exact .cons (wdp q) (Rws.dp h.2)
theorem rows_ok {cs : List Nat} (hs : ∀ c ∈ cs, c < 123) : ∀ (rs : List (List Wd)), (∀ r ∈ rs, ∀ c, Wd.lt c ∈ r → c ∈ cs) → PyData.canLayAll0 (rs.map wdat) = true ∧ PyData.depthAll (rs.map wdat) ≤ 1
  | [], _ => ⟨rfl, by decide⟩
  | r :: rs, h => by
    have ih := rows_ok hs rs fun x hx => h x (List.mem_cons_of_mem _ hx)
    have e1 : (wdat r).canLay0 = true := wdat_ok hs r (h r (List.mem_cons_self ..))
    have e2 : (wdat r).depth = 1 := by
      show PyData.depthAll (r.map fun w => PyData.str w.s) + 1 = 1
      rw [wdat_depth]
    refine ⟨?_, ?_⟩
    · show ((wdat r).canLay0 && PyData.canLayAll0 (rs.map wdat)) = true
      rw [e1, ih.1]
      rfl
    · show max (wdat r).depth (PyData.depthAll (rs.map wdat)) ≤ 1
      rw [e2]
      omega
theorem rows_shaped {cs : List Nat} (hs : ∀ c ∈ cs, c < 123) {rs : List (List Wd)} (h : ∀ r ∈ rs, ∀ c, Wd.lt c ∈ r → c ∈ cs) : SeqAt.shaped (.list (rs.map wdat)) = true := by
  obtain ⟨a, b⟩ := rows_ok hs rs h
  unfold SeqAt.shaped
  have e1 : (PyData.list (rs.map wdat)).canLay0 = true := a
  have e2 : (PyData.list (rs.map wdat)).depth ≤ 64 := by
    show PyData.depthAll (rs.map wdat) + 1 ≤ 64
    omega
  rw [e1, decide_eq_true e2]
  rfl
theorem eqv_nil (ds : List PyData) : PyData.eqv (.list ds) (.list []) = ds.isEmpty := by
  cases ds <;> rfl
theorem pow_at {n : Nat} (h : n ≤ 6) : atI [V.int 1, V.int 2, V.int 4, V.int 8, V.int 16, V.int 32, V.int 64] (n : Int) = some (.int ((2 ^ n : Nat) : Int)) := by
  have : n = 0 ∨ n = 1 ∨ n = 2 ∨ n = 3 ∨ n = 4 ∨ n = 5 ∨ n = 6 := by omega
  rcases this with rfl | rfl | rfl | rfl | rfl | rfl | rfl <;> rfl
theorem tx_app (a b : List Nat) : tx a ++ tx b = tx (a ++ b) := TL.ext_tl (by rw [TL.tl_append]; rfl)
theorem digit_cons (k : Nat) (bs : List Bool) : (Str.ofString (toString ((k : Int) % 2)) : Str) ++ wtx bs = wtx (decide (k % 2 = 1) :: bs) := by
  have h : k % 2 = 0 ∨ k % 2 = 1 := by omega
  have e : ((k : Int) % 2) = ((k % 2 : Nat) : Int) := rfl
  rw [e]
  rcases h with h | h
  · rw [h]
    show (Str.ofString (toString ((0 : Nat) : Int)) : Str) ++ tx (bs.map bc) = tx (48 :: bs.map bc)
    rw [show (Str.ofString (toString ((0 : Nat) : Int)) : Str) = tx [48] by decide +kernel, tx_app]
    rfl
  · rw [h]
    show (Str.ofString (toString ((1 : Nat) : Int)) : Str) ++ tx (bs.map bc) = tx (49 :: bs.map bc)
    rw [show (Str.ofString (toString ((1 : Nat) : Int)) : Str) = tx [49] by decide +kernel, tx_app]
    rfl
theorem digit_len (k : Nat) : (Str.ofString (toString ((k : Int) % 2)) : Str).length = 1 := by
  have h : k % 2 = 0 ∨ k % 2 = 1 := by omega
  have e : ((k : Int) % 2) = ((k % 2 : Nat) : Int) := rfl
  rw [e]
  rcases h with h | h <;> rw [h] <;> decide +kernel
theorem take_filter {α : Type} (P : α → Bool) (l : List α) (i : Nat) (x : α) (h : l[i]? = some x) : (l.take (i + 1)).filter P = (l.take i).filter P ++ (if P x then [x] else []) := by
  rw [List.take_add_one, h, List.filter_append]
  congr 1
  show (List.filter P [x]) = _
  cases e : P x <;> simp [e]
theorem allW_get {n i : Nat} (h : i < 2 ^ n) : (allW n)[i]? = some (bitsN n i) := by
  unfold allW
  rw [List.getElem?_map, List.getElem?_range h]
  rfl
theorem allW_length (n : Nat) : (allW n).length = 2 ^ n := by
  unfold allW
  rw [List.length_map, List.length_range]
/-- the worlds at which all rules hold -/
def wor (cs : List Nat) (rs : List (List Wd)) : List (List Bool) := (allW cs.length).filter fun bs => rs.all fun r => sval (vl cs bs) r
def wvs (l : List (List Bool)) : List V := l.map fun bs => V.str (wtx bs)
theorem all_take {α : Type} (P : α → Bool) (l : List α) (i : Nat) (x : α) (h : l[i]? = some x) : (l.take (i + 1)).all P = ((l.take i).all P && P x) := by
  rw [List.take_add_one, h, List.all_append]
  show (_ && (P x && true)) = _
  rw [Bool.and_true]
end B
namespace B
open PySem PySem.Spec PyProof.Rows L2
def two (w : List Bool) : List (List Bool) := [w ++ [false], w ++ [true]]
theorem bits_snoc : ∀ (n k : Nat) (b : Bool), bitsN (n + 1) (2 * k + (if b then 1 else 0)) = bitsN n k ++ [b]
  | 0, k, b => by
    show [decide ((2 * k + (if b then 1 else 0)) / 2 ^ 0 % 2 = 1)] = [b]
    cases b <;> simp <;> omega
  | n + 1, k, b => by
    have ih := bits_snoc n k b
    have e : (2 * k + (if b then 1 else 0)) / 2 ^ (n + 1) = k / 2 ^ n := by
      rw [Nat.pow_succ', ← Nat.div_div_eq_div_mul]
      congr 1
      cases b <;> simp <;> omega
    show decide ((2 * k + (if b then 1 else 0)) / 2 ^ (n + 1) % 2 = 1) :: bitsN (n + 1) (2 * k + (if b then 1 else 0)) = decide (k / 2 ^ n % 2 = 1) :: bitsN n k ++ [b]
    rw [e, ih]
    rfl
theorem range_two : ∀ m : Nat, List.range (2 * m) = (List.range m).flatMap fun k => [2 * k, 2 * k + 1]
  | 0 => rfl
  | m + 1 => by
    rw [show 2 * (m + 1) = 2 * m + 1 + 1 by omega, List.range_succ, List.range_succ, range_two m, List.range_succ, List.flatMap_append]
    simp
theorem allW_succ (n : Nat) : allW (n + 1) = (allW n).flatMap two := by
  unfold allW
  rw [Nat.pow_succ', range_two, List.map_flatMap, List.flatMap_map]
  congr 1
  funext k
  show [bitsN (n + 1) (2 * k), bitsN (n + 1) (2 * k + 1)] = two (bitsN n k)
  have a := bits_snoc n k false
  have b := bits_snoc n k true
  simp only [Bool.false_eq_true, if_false, if_true, Nat.add_zero] at a b
  rw [a, b]
  rfl
theorem wtx_snoc (w : List Bool) (b : Bool) : wtx w ++ sg (bc b) = wtx (w ++ [b]) := by
  unfold wtx
  rw [sg_tx, tx_app, List.map_append]
  rfl
/-- a house stands at p: letters cs, rules rs -/
structure HsAt (K : PySem.W.Frag) (H : Hp) (p : Addr) (cs : List Nat) (rs : List (List Wd)) : Prop where
  ex : ∃ (ra : Addr) (rvs : List V), SqT K H p [.str (tx cs), .ref ra] ∧ SqT K H ra rvs ∧ Rws K H rvs rs
theorem HsAt.mono {K : PySem.W.Frag} {H H' : Hp} {p : Addr} {cs : List Nat} {rs : List (List Wd)} (k : ∀ a xs, SqT K H a xs → SqT K H' a xs) (h : HsAt K H p cs rs) : HsAt K H' p cs rs := by
  obtain ⟨ra, rvs, a, b, c⟩ := h
  exact ⟨ra, rvs, k _ _ a, k _ _ b, c.mono k⟩
theorem HsAt.same {K : PySem.W.Frag} {H H' : Hp} {p : Addr} {cs : List Nat} {rs : List (List Wd)} (h : HsAt K H p cs rs) (e : Same H H') : HsAt K H' p cs rs := h.mono fun _ _ q => Same.tup e q
/-- what holds of letters and rules of a house -/
structure HsOk (cs : List Nat) (rs : List (List Wd)) : Prop where
  c6 : cs.length ≤ 6
  sm : ∀ c ∈ cs, c < 123
  sy : ∀ r ∈ rs, Sy cs r ∧ r.length ≤ 40
  few : rs.length ≤ 20
theorem wor_len {cs : List Nat} {rs : List (List Wd)} {bs : List Bool} (h : bs ∈ wor cs rs) : bs.length = cs.length := allW_len (List.mem_filter.mp h).1
theorem wor_le {cs : List Nat} {rs : List (List Wd)} (h : cs.length ≤ 6) : (wor cs rs).length ≤ 64 := by
  unfold wor
  refine Nat.le_trans (List.length_filter_le _ _) ?_
  rw [allW_length]
  exact Nat.le_trans (Nat.pow_le_pow_right (by decide) h) (by decide)
theorem map_take_one {α β : Type} (f : α → β) (l : List α) (i : Nat) (x : α) (h : l[i]? = some x) : (l.take (i + 1)).map f = (l.take i).map f ++ [f x] := by
  rw [List.take_add_one, h, List.map_append]
  rfl
theorem all_map_id {α : Type} (f : α → Bool) (l : List α) : (l.map f).all id = l.all f := by
  rw [List.all_map]
  rfl
theorem any_map_id {α : Type} (f : α → Bool) (l : List α) : (l.map f).any id = l.any f := by
  rw [List.any_map]
  rfl
theorem eqv_nilT (ds : List PyData) : PyData.eqv (.tuple ds) (.tuple []) = ds.isEmpty := by
  cases ds <;> rfl
def hdat (cs : List Nat) (rs : List (List Wd)) : PyData := .tuple [.str (tx cs), .tuple (rs.map wdat)]
theorem hdp {K : PySem.W.Frag} {H : Hp} {p : Addr} {cs : List Nat} {rs : List (List Wd)} (h : HsAt K H p cs rs) : Dp K H (.ref p) (hdat cs rs) := by
  obtain ⟨ra, rvs, a, b, c⟩ := h
  exact .tup a (.cons (.str _) (.cons (.tup b c.dp) .nil))
end B
namespace B
open PySem PySem.Spec PyProof.Rows L2
section
variable {prog : Program} {w : World} {A : Around} {E : Value → Shared → Prop} {s : Shared}
end
end B
namespace B
open PySem PySem.Spec PyProof.Rows L2
structure Shw (n m : Nat) (d : PyData) : Prop where
  lay : d.canLay0 = true
  shw : d.showable = true
  dep : d.depth ≤ n
  blk : d.bulk ≤ m
  lvs : d.leavesShort 600 = true
theorem Shw.up {n m n' m' : Nat} {d : PyData} (h : Shw n m d) (a : n ≤ n') (b : m ≤ m') : Shw n' m' d := ⟨h.lay, h.shw, Nat.le_trans h.dep a, Nat.le_trans h.blk b, h.lvs⟩
theorem log2_lt {i : Int} (h : i.natAbs < 2 ^ 500) : i.natAbs.log2 < 500 := PySem.Flt.log2_lt_of (by decide) h
theorem Shw.int {i : Int} (h : i.natAbs < 2 ^ 500) : Shw 0 0 (.int i) := by
  have l := log2_lt h
  refine ⟨rfl, ?_, Nat.le_refl _, Nat.le_refl _, ?_⟩
  · show decide (i.natAbs.log2 < 1920) = true
    exact decide_eq_true (by omega)
  · show decide ((Str.ofString (toString i)).length ≤ 600) = true
    refine decide_eq_true ?_
    rw [PySem.ofString_length]
    exact Nat.le_trans (int_text_length_le (by decide) l) (by decide)
theorem Shw.str {x : Str} {m : Nat} (h : ∀ c ∈ x.cps.toList, c < 123) (hm : x.cps.size ≤ m) : Shw 0 m (.str x) := by
  refine ⟨?_, rfl, Nat.le_refl _, hm, ?_⟩
  · show x.cps.all _ = true
    rw [← Array.all_toList, List.all_eq_true]
    intro c hc
    exact decide_eq_true (Nat.lt_of_lt_of_le (h c hc) (by decide))
  · show (x.cps.toList.all fun c => decide (c < 16 ^ 8)) = true
    rw [List.all_eq_true]
    intro c hc
    exact decide_eq_true (Nat.lt_of_lt_of_le (h c hc) (by decide))
theorem shw_all {n m : Nat} : ∀ {ds : List PyData}, (∀ d ∈ ds, Shw n m d) → PyData.canLayAll0 ds = true ∧ PyData.showableAll ds = true ∧ PyData.depthAll ds ≤ n ∧ PyData.bulkAll ds ≤ ds.length * (m + 1) ∧ PyData.leavesShortAll 600 ds = true
  | [], _ => ⟨rfl, rfl, Nat.zero_le _, Nat.zero_le _, rfl⟩
  | d :: ds, h => by
    obtain ⟨a, b, c, e, f⟩ := shw_all fun x hx => h x (List.mem_cons_of_mem _ hx)
    have k := h d (List.mem_cons_self ..)
    refine ⟨?_, ?_, ?_, ?_, ?_⟩
    · show (d.canLay0 && PyData.canLayAll0 ds) = true
      rw [k.lay, a]; rfl
    · show (d.showable && PyData.showableAll ds) = true
      rw [k.shw, b]; rfl
    · show max d.depth (PyData.depthAll ds) ≤ n
      exact Nat.max_le.mpr ⟨k.dep, c⟩
    · show d.bulk + 1 + PyData.bulkAll ds ≤ (ds.length + 1) * (m + 1)
      have := k.blk
      rw [Nat.add_mul]
      omega
    · show (d.leavesShort 600 && PyData.leavesShortAll 600 ds) = true
      rw [k.lvs, f]; rfl
theorem Shw.tup {n m k : Nat} {ds : List PyData} (h : ∀ d ∈ ds, Shw n m d) (hk : ds.length ≤ k) : Shw (n + 1) (k * (m + 1)) (.tuple ds) := by
  obtain ⟨a, b, c, e, f⟩ := shw_all h
  exact ⟨a, b, Nat.succ_le_succ c, Nat.le_trans e (Nat.mul_le_mul_right _ hk), f⟩
theorem pair_shw {n m : Nat} {a b : PyData} (h : Shw n m a) (k : Shw n m b) : Shw (n + 1) (2 * (m + 1)) (.tuple [a, b]) := Shw.tup (fun d hd => by
  rcases List.mem_cons.mp hd with rfl | hd
  · exact h
  · rw [List.mem_singleton] at hd
    rw [hd]
    exact k) (Nat.le_refl 2)
theorem Shw.shaped {n m : Nat} {d : PyData} (h : Shw n m d) (hn : n ≤ 64) : SeqAt.shaped d = true := by
  unfold SeqAt.shaped
  rw [h.lay, decide_eq_true (Nat.le_trans h.dep hn)]
  rfl
theorem wd_signs {cs : List Nat} (hs : ∀ c ∈ cs, c < 123) (w : Wd) (h : ∀ c, w = .lt c → c ∈ cs) : (∀ c ∈ w.s.cps.toList, c < 123) ∧ w.s.cps.size ≤ 4 := by
  cases w with
  | lt c =>
    refine ⟨fun x hx => ?_, by show 1 ≤ 4; decide⟩
    have e : x ∈ [c] := hx
    rw [List.mem_singleton] at e
    rw [e]
    exact hs c (h c rfl)
  | yes => exact ⟨by decide, by decide⟩
  | no => exact ⟨by decide, by decide⟩
  | nt => exact ⟨by decide, by decide⟩
  | an => exact ⟨by decide, by decide⟩
  | orr => exact ⟨by decide, by decide⟩
  | sm => exact ⟨by decide, by decide⟩
theorem wdat_shw {cs : List Nat} (hs : ∀ c ∈ cs, c < 123) {r : List Wd} {k : Nat} (h : ∀ c, Wd.lt c ∈ r → c ∈ cs) (hk : r.length ≤ k) : Shw 1 (k * 5) (wdat r) := by
  refine Shw.tup (fun d hd => ?_) (by rw [List.length_map]; exact hk)
  obtain ⟨w, hw, rfl⟩ := List.mem_map.mp hd
  obtain ⟨a, b⟩ := wd_signs hs w fun c e => h c (by rw [← e]; exact hw)
  exact Shw.str a b
inductive F2 {α β : Type} (R : α → β → Prop) : List α → List β → Prop
  | nil : F2 R [] []
  | cons {a : α} {b : β} {as : List α} {bs : List β} : R a b → F2 R as bs → F2 R (a :: as) (b :: bs)
namespace F2
variable {α β : Type} {R S : α → β → Prop}
theorem len {as : List α} {bs : List β} (h : F2 R as bs) : as.length = bs.length := by
  induction h with
  | nil => rfl
  | cons _ _ ih => rw [List.length_cons, List.length_cons, ih]
theorem imp {as : List α} {bs : List β} (h : F2 R as bs) (f : ∀ a b, R a b → S a b) : F2 S as bs := by
  induction h with
  | nil => exact .nil
  | cons x _ ih => exact .cons (f _ _ x) ih
theorem app {as as' : List α} {bs bs' : List β} (h : F2 R as bs) (k : F2 R as' bs') : F2 R (as ++ as') (bs ++ bs') := by
  induction h with
  | nil => exact k
  | cons x _ ih => exact .cons x ih
theorem one {a : α} {b : β} (h : R a b) : F2 R [a] [b] := .cons h .nil
theorem getA {as : List α} {bs : List β} (h : F2 R as bs) : ∀ {j : Nat} {a : α}, as[j]? = some a → ∃ b, bs[j]? = some b ∧ R a b := by
  induction h with
  | nil => intro j a e; simp at e
  | cons x _ ih =>
    intro j a e
    cases j with
    | zero => cases e; exact ⟨_, rfl, x⟩
    | succ j => exact ih e
theorem getB {as : List α} {bs : List β} (h : F2 R as bs) : ∀ {j : Nat} {b : β}, bs[j]? = some b → ∃ a, as[j]? = some a ∧ R a b := by
  induction h with
  | nil => intro j a e; simp at e
  | cons x _ ih =>
    intro j a e
    cases j with
    | zero => cases e; exact ⟨_, rfl, x⟩
    | succ j => exact ih e
end F2
theorem take_one {α : Type} (l : List α) (i : Nat) (x : α) (h : l[i]? = some x) : l.take (i + 1) = l.take i ++ [x] := by
  rw [List.take_add_one, h]
  rfl
def addF (p q : Int × Nat) : Int × Nat := (addT p.1 p.2 q.1 q.2, addB p.1 p.2 q.1 q.2)
/-- a fraction, its parts below 2 ^ n -/
structure Fok (n : Nat) (p : Int × Nat) : Prop where
  f : IsF p.1 p.2
  z : Fz p.1 p.2 n
theorem Fok.up {n m : Nat} {p : Int × Nat} (h : Fok n p) (e : n ≤ m) : Fok m p := ⟨h.f, h.z.more e⟩
theorem Fok.zero {n : Nat} (h : 1 ≤ n) : Fok n (0, 1) := ⟨⟨by decide, by decide⟩, ⟨Nat.pow_pos (by decide), Nat.lt_of_lt_of_le (by decide : (1 : Nat) < 2 ^ 1) (Nat.pow_le_pow_right (by decide) h)⟩⟩
theorem Fok.add {n m : Nat} {p q : Int × Nat} (a : Fok n p) (b : Fok m q) : Fok (n + m + 1) (addF p q) := ⟨add_isF a.f.pos b.f.pos, add_z a.f.pos b.f.pos a.z b.z⟩
/-- a fraction stands at v -/
def FAt (K : PySem.W.Frag) (H : Hp) (v : V) (p : Int × Nat) : Prop := ∃ a, v = .ref a ∧ SqT K H a [.int p.1, .int p.2]
theorem FAt.mono {K : PySem.W.Frag} {H H' : Hp} {v : V} {p : Int × Nat} (k : ∀ a xs, SqT K H a xs → SqT K H' a xs) (h : FAt K H v p) : FAt K H' v p := by
  obtain ⟨a, e, t⟩ := h
  exact ⟨a, e, k _ _ t⟩
structure Tm where
  a : Int × Nat
  w : List Wd
/-- a term stands at v -/
def TmAt (K : PySem.W.Frag) (H : Hp) (v : V) (x : Tm) : Prop := ∃ p f c : Addr, v = .ref p ∧ SqT K H p [.ref f, .ref c] ∧ SqT K H f [.int x.a.1, .int x.a.2] ∧ SqT K H c (x.w.map wv)
theorem TmAt.mono {K : PySem.W.Frag} {H H' : Hp} {v : V} {x : Tm} (k : ∀ a xs, SqT K H a xs → SqT K H' a xs) (h : TmAt K H v x) : TmAt K H' v x := by
  obtain ⟨p, f, c, e, a, b, d⟩ := h
  exact ⟨p, f, c, e, k _ _ a, k _ _ b, k _ _ d⟩
/-- a bet stands at a: terms, given -/
def BtAt (K : PySem.W.Frag) (H : Hp) (a : Addr) (ts : List Tm) (g : List Wd) : Prop := ∃ (p c : Addr) (vs : List V), SqT K H a [.ref p, .ref c] ∧ SqT K H p vs ∧ F2 (TmAt K H) vs ts ∧ SqT K H c (g.map wv)
theorem BtAt.mono {K : PySem.W.Frag} {H H' : Hp} {a : Addr} {ts : List Tm} {g : List Wd} (k : ∀ a xs, SqT K H a xs → SqT K H' a xs) (h : BtAt K H a ts g) : BtAt K H' a ts g := by
  obtain ⟨p, c, vs, x, y, z, u⟩ := h
  exact ⟨p, c, vs, k _ _ x, k _ _ y, z.imp fun _ _ h => h.mono k, k _ _ u⟩
theorem BtAt.same {K : PySem.W.Frag} {H H' : Hp} {a : Addr} {ts : List Tm} {g : List Wd} (h : BtAt K H a ts g) (e : Same H H') : BtAt K H' a ts g := h.mono fun _ _ q => Same.tup e q
structure TmOk (cs : List Nat) (x : Tm) : Prop where
  a : Fok 240 x.a
  sy : Sy cs x.w
  ln : x.w.length ≤ 50
structure BtOk (cs : List Nat) (ts : List Tm) (g : List Wd) : Prop where
  tm : ∀ x ∈ ts, TmOk cs x
  few : ts.length ≤ 16
  sy : Sy cs g
  ln : g.length ≤ 50
def pay (v : Nat → Bool) (ts : List Tm) : Int × Nat := ts.foldl (fun s x => if sval v x.w then addF s x.a else s) (0, 1)
theorem pay_snoc (v : Nat → Bool) (ts : List Tm) (x : Tm) : pay v (ts ++ [x]) = if sval v x.w then addF (pay v ts) x.a else pay v ts := by
  unfold pay
  rw [List.foldl_append]
  rfl
theorem pay_take (v : Nat → Bool) {ts : List Tm} {i : Nat} {x : Tm} (h : ts[i]? = some x) : pay v (ts.take (i + 1)) = if sval v x.w then addF (pay v (ts.take i)) x.a else pay v (ts.take i) := by
  rw [take_one _ _ _ h, pay_snoc]
theorem pay_ok (v : Nat → Bool) {n : Nat} : ∀ {ts : List Tm}, (∀ x ∈ ts, Fok n x.a) → ∀ i, Fok ((n + 1) * i + 1) (pay v (ts.take i))
  | ts, h, 0 => by
    rw [List.take_zero]
    exact Fok.zero (by omega)
  | ts, h, i + 1 => by
    cases e : ts[i]? with
    | none =>
      have l : ts.length ≤ i := List.getElem?_eq_none_iff.mp e
      rw [List.take_of_length_le (by omega), ← List.take_of_length_le l]
      exact (pay_ok v h i).up (by rw [Nat.mul_add]; omega)
    | some x =>
      rw [pay_take v e]
      have a := h x (List.mem_of_getElem? e)
      split
      · exact ((pay_ok v h i).add a).up (by rw [Nat.mul_add]; omega)
      · exact (pay_ok v h i).up (by rw [Nat.mul_add]; omega)
theorem pay_okB (v : Nat → Bool) {cs : List Nat} {ts : List Tm} {g : List Wd} (h : BtOk cs ts g) (i : Nat) : Fok 390000 (pay v (ts.take i)) := by
  by_cases l : i ≤ 16
  · exact (pay_ok v (fun x hx => (h.tm x hx).a) i).up (by omega)
  · have e : ts.take i = ts.take 16 := by rw [List.take_of_length_le (by have := h.few; omega), List.take_of_length_le h.few]
    rw [e]
    exact (pay_ok v (fun x hx => (h.tm x hx).a) 16).up (by omega)
def payO (v : Nat → Bool) (ts : List Tm) (g : List Wd) : Option (Int × Nat) := if sval v g then some (pay v ts) else none
/-- None or a fraction stands at u -/
def PdAt (K : PySem.W.Frag) (H : Hp) (u : V) : Option (Int × Nat) → Prop
  | none => u = .non
  | some p => FAt K H u p
theorem PdAt.mono {K : PySem.W.Frag} {H H' : Hp} {u : V} (k : ∀ a xs, SqT K H a xs → SqT K H' a xs) : ∀ {o : Option (Int × Nat)}, PdAt K H u o → PdAt K H' u o
  | none, h => h
  | some _, h => FAt.mono k h
def fdat (p : Int × Nat) : PyData := .tuple [.int p.1, .int p.2]
def tdat (x : Tm) : PyData := .tuple [fdat x.a, wdat x.w]
def bdat (ts : List Tm) (g : List Wd) : PyData := .tuple [.tuple (ts.map tdat), wdat g]
theorem fdat_shw {n : Nat} {p : Int × Nat} (h : Fok n p) (hn : n ≤ 500) : Shw 1 2 (fdat p) :=
  pair_shw (n := 0) (m := 0) (Shw.int (h.z.more hn).t) (Shw.int (by rw [Int.natAbs_natCast]; exact (h.z.more hn).b))
theorem FAt.dp {K : PySem.W.Frag} {H : Hp} {v : V} {p : Int × Nat} (h : FAt K H v p) : Dp K H v (fdat p) := by
  obtain ⟨a, rfl, t⟩ := h
  exact dp2 t
theorem F2.dp {K : PySem.W.Frag} {H : Hp} {α : Type} {R : V → α → Prop} {f : α → PyData} (g : ∀ v x, R v x → Dp K H v (f x)) {vs : List V} {xs : List α} (h : F2 R vs xs) : DpAll K H vs (xs.map f) := by
  induction h with
  | nil => exact .nil
  | cons x _ ih => exact .cons (g _ _ x) ih
theorem TmAt.dp {K : PySem.W.Frag} {H : Hp} {v : V} {x : Tm} (h : TmAt K H v x) : Dp K H v (tdat x) := by
  obtain ⟨p, f, c, rfl, a, b, d⟩ := h
  exact .tup a (.cons (dp2 b) (.cons (wdp d) .nil))
theorem bdp {K : PySem.W.Frag} {H : Hp} {a : Addr} {ts : List Tm} {g : List Wd} (h : BtAt K H a ts g) : Dp K H (.ref a) (bdat ts g) := by
  obtain ⟨p, c, vs, x, y, z, u⟩ := h
  exact .tup x (.cons (.tup y (z.dp fun _ _ h => h.dp)) (.cons (wdp u) .nil))
end B
namespace B
open PySem PySem.Spec PyProof.Rows L2
def tabO (cs : List Nat) (ts : List Tm) (g : List Wd) (wl : List (List Bool)) : List (Option (Int × Nat)) := wl.map fun bs => payO (vl cs bs) ts g
theorem tabO_take {cs : List Nat} {ts : List Tm} {g : List Wd} {wl : List (List Bool)} {j : Nat} {bs : List Bool} (h : wl[j]? = some bs) : tabO cs ts g (wl.take (j + 1)) = tabO cs ts g (wl.take j) ++ [payO (vl cs bs) ts g] := map_take_one _ _ _ _ h
theorem wvs_get {wl : List (List Bool)} {j : Nat} {x : V} (h : (wvs wl)[j]? = some x) : ∃ bs, wl[j]? = some bs ∧ x = .str (wtx bs) := by
  unfold wvs at h
  rw [List.getElem?_map] at h
  cases e : wl[j]? with
  | none => rw [e] at h; cases h
  | some bs => rw [e] at h; cases h; exact ⟨bs, rfl, rfl⟩
theorem wvs_len (wl : List (List Bool)) : (wvs wl).length = wl.length := List.length_map ..
theorem same_mut {H H' : Hp} {D : Addr} {o : HO} (n : H D = none) (s : Same H H') : Same H (upd H' D o) := fun a x e => by
  rw [upd_ne (ne_of_none e n)]
  exact s _ _ e
theorem kp_mut {d : Dr} {H H' : Hp} {D : Addr} {o : HO} (n : H D = none) (s : Kp d H H') : Kp d H (upd H' D o) := fun a x e n1 n2 => by
  rw [upd_ne (ne_of_none e n)]
  exact s _ _ e n1 n2
structure BtSm (n : Nat) (ts : List Tm) (g : List Wd) : Prop where
  few : ts.length ≤ n
  tm : ∀ x ∈ ts, Fok 80 x.a ∧ x.w.length ≤ 10
  ln : g.length ≤ 10
end B
namespace B
open PySem PySem.Spec PyProof.Rows L2
end B
namespace B
open PySem PySem.Spec PyProof.Rows L2
theorem eq_same (v : V) : decide (v = v) = true := by simp
theorem Fok.neg {n : Nat} {p : Int × Nat} (h : Fok n p) : Fok n (-p.1, p.2) := ⟨h.f.neg, ⟨by show (-p.1).natAbs < 2 ^ n; rw [Int.natAbs_neg]; exact h.z.t, h.z.b⟩⟩
end B
namespace B
open PySem PySem.Spec PyProof.Rows L2
end B
namespace B
open PySem PySem.Spec PyProof.Rows L2
/-- tuples stay tuples -/
def Tk (K : PySem.W.Frag) (H H' : Hp) : Prop := ∀ a xs, SqT K H a xs → SqT K H' a xs
theorem Same.tk {K : PySem.W.Frag} {H H' : Hp} (e : Same H H') : Tk K H H' := fun _ _ h => Same.tup e h
/-- what the turns of such a comprehension keep -/
structure LcI {β : Type} (D : Addr) (H1 : Hp) (R : Hp → V → β → Prop) (L : List β) (H : Hp) : Prop where
  ex : ∃ vs, H D = some (.lst vs) ∧ F2 (R H) vs L
  sm : Same H1 H
theorem F2.none {α β : Type} {R : α → β → Prop} : F2 R [] [] := .nil
section
variable {K : PySem.W.Frag} {a : Addr} {xs : List V} {g : TG} {tt : TT} {te : TE} {vs : List Nat} {σ : L2.St} {H1 : Hp} {D : Addr} {Qd : Hp → Prop} {α β : Type} {R : Hp → V → β → Prop} {IR : V → α → Prop}
theorem fm_take {L : List α} {out : α → Option β} {i : Nat} {x : α} (h : L[i]? = some x) : (L.take (i + 1)).filterMap out = (L.take i).filterMap out ++ (match out x with | some z => [z] | none => []) := by
  rw [take_one _ _ _ h, List.filterMap_append]
  cases e : out x with
  | none => simp [List.filterMap_cons, e]
  | some z => simp [List.filterMap_cons, e]
theorem LcI.step {L : List α} {out : α → Option β} {i : Nat} {x : α} {H H4 : Hp} {y : V} {z : β} (mono : ∀ H H' v y, Tk K H H' → R H v y → R H' v y) (nD : H1 D = none) (sz : L.length < sizeLine) (h : L[i]? = some x) (I : LcI D H1 R ((L.take i).filterMap out) H) (s : Same H H4) (e : out x = some z) (r : R H4 y z) :
    ∃ acc, H4 D = some (.lst acc) ∧ acc.length < sizeLine ∧ LcI D H1 R ((L.take (i + 1)).filterMap out) (upd H4 D (.lst (acc ++ [y]))) := by
  obtain ⟨⟨acc, hD, f⟩, sm⟩ := I
  have hD4 := s _ _ hD
  have tk : Tk K H4 (upd H4 D (.lst (acc ++ [y]))) := fun p ps t => tup_upd hD4 t
  refine ⟨acc, hD4, ?_, ⟨acc ++ [y], upd_same, ?_⟩, same_mut nD (sm.trans s)⟩
  · rw [f.len]
    refine Nat.lt_of_le_of_lt (Nat.le_trans (List.length_filterMap_le _ _) ?_) sz
    rw [List.length_take]
    exact Nat.min_le_right _ _
  · rw [fm_take h, e]
    exact (f.imp fun v w q => mono _ _ _ _ tk (mono _ _ _ _ (Same.tk s) q)).app (F2.one (mono _ _ _ _ tk r))
theorem LcI.skip {L : List α} {out : α → Option β} {i : Nat} {x : α} {H H3 : Hp} (mono : ∀ H H' v y, Tk K H H' → R H v y → R H' v y) (h : L[i]? = some x) (I : LcI D H1 R ((L.take i).filterMap out) H) (s : Same H H3) (e : out x = none) : LcI D H1 R ((L.take (i + 1)).filterMap out) H3 := by
  obtain ⟨⟨acc, hD, f⟩, sm⟩ := I
  refine ⟨⟨acc, s _ _ hD, ?_⟩, sm.trans s⟩
  rw [fm_take h, e, List.append_nil]
  exact f.imp fun v w q => mono _ _ _ _ (Same.tk s) q
/-- [e for x in a tuple if c] -/
theorem lcp_tup (L : List α) (out : α → Option β) (mono : ∀ H H' v y, Tk K H H' → R H v y → R H' v y) (hx : F2 IR xs L) (nD : H1 D = none) (tp : SqT K H1 a xs) (sz : xs.length < sizeLine)
    (hs : ∀ v x H, IR v x → x ∈ L → Same H1 H → ∀ (Y : V → Hp → Prop) (N : Hp → Prop), (∀ y H4 z, Same H H4 → out x = some z → R H4 y z → Y y H4) → (∀ H3, Same H H3 → out x = none → N H3) →
      g v (wipe σ vs) H fun σ2 H2 => wipe σ2 vs = wipe σ vs ∧ tt σ2 H2 fun b H3 => if b = true then te σ2 H3 Y else N H3)
    (hd : ∀ H ys, H D = some (.lst ys) → F2 (R H) ys (L.filterMap out) → Same H1 H → Qd H) :
    ∃ W : Nat → Nat → Hp → Prop, (∃ m, W 0 m (upd H1 D (.lst []))) ∧ ∀ i m H, W i m H →
      ((Itt K a).stop i H ∧ Qd H) ∨ ((Itt K a).go i H ∧ ∃ Nx : Hp → Prop, (∀ H', Nx H' → ∃ m', m' < m ∧ W (i + 1) m' H') ∧ ∀ x H', (Itt K a).yld i H x H' → g x (wipe σ vs) H' fun σ2 H2 => wipe σ2 vs = wipe σ vs ∧ tt σ2 H2 fun b H3 =>
        if b = true then te σ2 H3 fun y H4 => ∃ acc, H4 D = some (.lst acc) ∧ acc.length < sizeLine ∧ Nx (upd H4 D (.lst (acc ++ [y]))) else Nx H3) := by
  have el := hx.len
  refine lc_tup (K := K) (a := a) (xs := xs) (fun j H' => LcI D H1 R ((L.take j).filterMap out) H') ⟨⟨[], upd_same, F2.none⟩, same_upd nD⟩ (fun j H' _ I => Same.tup I.sm tp) ?_ ?_
  · intro i v H hv I
    obtain ⟨x, hL, r⟩ := hx.getA hv
    exact hs v x H r (List.mem_of_getElem? hL) I.sm _ _ (fun y H4 z s e q => I.step mono nD (by rw [← el]; exact sz) hL s e q) (fun H3 s e => I.skip mono hL s e)
  · intro H I
    obtain ⟨⟨ys, hD, f⟩, sm⟩ := I
    rw [el, List.take_length] at f
    exact hd H ys hD f sm
/-- [e for x in a list if c] -/
theorem lcp_list (L : List α) (out : α → Option β) (mono : ∀ H H' v y, Tk K H H' → R H v y → R H' v y) (hx : F2 IR xs L) (nD : H1 D = none) (tp : H1 a = some (.lst xs)) (sz : xs.length < sizeLine)
    (hs : ∀ v x H, IR v x → x ∈ L → Same H1 H → ∀ (Y : V → Hp → Prop) (N : Hp → Prop), (∀ y H4 z, Same H H4 → out x = some z → R H4 y z → Y y H4) → (∀ H3, Same H H3 → out x = none → N H3) →
      g v (wipe σ vs) H fun σ2 H2 => wipe σ2 vs = wipe σ vs ∧ tt σ2 H2 fun b H3 => if b = true then te σ2 H3 Y else N H3)
    (hd : ∀ H ys, H D = some (.lst ys) → F2 (R H) ys (L.filterMap out) → Same H1 H → Qd H) :
    ∃ W : Nat → Nat → Hp → Prop, (∃ m, W 0 m (upd H1 D (.lst []))) ∧ ∀ i m H, W i m H →
      ((Itl K a).stop i H ∧ Qd H) ∨ ((Itl K a).go i H ∧ ∃ Nx : Hp → Prop, (∀ H', Nx H' → ∃ m', m' < m ∧ W (i + 1) m' H') ∧ ∀ x H', (Itl K a).yld i H x H' → g x (wipe σ vs) H' fun σ2 H2 => wipe σ2 vs = wipe σ vs ∧ tt σ2 H2 fun b H3 =>
        if b = true then te σ2 H3 fun y H4 => ∃ acc, H4 D = some (.lst acc) ∧ acc.length < sizeLine ∧ Nx (upd H4 D (.lst (acc ++ [y]))) else Nx H3) := by
  have el := hx.len
  refine lc_list (K := K) (a := a) (xs := xs) (fun j H' => LcI D H1 R ((L.take j).filterMap out) H') ⟨⟨[], upd_same, F2.none⟩, same_upd nD⟩ (fun j H' _ I => .inl (.inl (I.sm _ _ tp))) ?_ ?_
  · intro i v H hv I
    obtain ⟨x, hL, r⟩ := hx.getA hv
    exact hs v x H r (List.mem_of_getElem? hL) I.sm _ _ (fun y H4 z s e q => I.step mono nD (by rw [← el]; exact sz) hL s e q) (fun H3 s e => I.skip mono hL s e)
  · intro H I
    obtain ⟨⟨ys, hD, f⟩, sm⟩ := I
    rw [el, List.take_length] at f
    exact hd H ys hD f sm
end
theorem f2_eq {α : Type} {f : α → V} {vs : List V} {L : List α} (h : F2 (fun v x => v = f x) vs L) : vs = L.map f := by
  induction h with
  | nil => rfl
  | cons e _ ih => rw [e, ih]; rfl
theorem fm_some {α β : Type} (f : α → β) (L : List α) : L.filterMap (fun x => some (f x)) = L.map f := by
  induction L with
  | nil => rfl
  | cons x r ih => rw [List.filterMap_cons, ih]; rfl
end B
namespace B
open PySem PySem.Spec PyProof.Rows L2
theorem tms_tk {K : PySem.W.Frag} {H H' : Hp} {vs : List V} {ts : List Tm} (h : F2 (TmAt K H) vs ts) (e : Tk K H H') : F2 (TmAt K H') vs ts := h.imp fun _ _ t => t.mono e
theorem Same.sql {K : PySem.W.Frag} {H H' : Hp} {a : Addr} {xs : List V} (e : Same H H') (h : SqL K H a xs) : SqL K H' a xs := by
  rcases h with (h | ⟨o, h⟩) | h
  · exact .inl (.inl (e _ _ h))
  · exact .inl (.inr ⟨o, e _ _ h⟩)
  · exact .inr h
/-- the heap that is come to -/
abbrev tgt {H H' : Hp} (_ : Same H H') : Hp := H'
end B
namespace B
open PySem PySem.Spec PyProof.Rows L2
def mulF (p q : Int × Nat) : Int × Nat := (mulT p.1 p.2 q.1 q.2, mulB p.1 p.2 q.1 q.2)
def negF (p : Int × Nat) : Int × Nat := (-p.1, p.2)
def subF (p q : Int × Nat) : Int × Nat := addF p (negF q)
theorem Fok.mul {n m : Nat} {p q : Int × Nat} (a : Fok n p) (b : Fok m q) : Fok (n + m) (mulF p q) := ⟨mul_isF a.f.pos b.f.pos, mul_z a.f.pos b.f.pos a.z b.z⟩
theorem Fok.negF {n : Nat} {p : Int × Nat} (h : Fok n p) : Fok n (negF p) := h.neg
theorem Fok.sub {n m : Nat} {p q : Int × Nat} (a : Fok n p) (b : Fok m q) : Fok (n + m + 1) (subF p q) := a.add b.negF
/-- a bid -/
structure Bd where
  ts : List Tm
  g : List Wd
  p : Int × Nat
def BdAt (K : PySem.W.Frag) (H : Hp) (v : V) (x : Bd) : Prop := ∃ q a f : Addr, v = .ref q ∧ SqT K H q [.ref a, .ref f] ∧ BtAt K H a x.ts x.g ∧ SqT K H f [.int x.p.1, .int x.p.2]
theorem BdAt.mono {K : PySem.W.Frag} {H H' : Hp} {v : V} {x : Bd} (k : ∀ a xs, SqT K H a xs → SqT K H' a xs) (h : BdAt K H v x) : BdAt K H' v x := by
  obtain ⟨q, a, f, e, t, b, c⟩ := h
  exact ⟨q, a, f, e, k _ _ t, b.mono k, k _ _ c⟩
structure BdOk (cs : List Nat) (z zp : Nat) (x : Bd) : Prop where
  bt : BtOk cs x.ts x.g
  pz : ∀ v : Nat → Bool, Fok z (pay v x.ts)
  pp : Fok zp x.p
theorem payO_some {v : Nat → Bool} {ts : List Tm} {g : List Wd} {p : Int × Nat} (h : payO v ts g = some p) : p = pay v ts := by
  unfold payO at h
  split at h
  · exact (Option.some.inj h).symm
  · cases h
def kdat (x : Bd) : PyData := .tuple [bdat x.ts x.g, fdat x.p]
theorem BdAt.dp {K : PySem.W.Frag} {H : Hp} {v : V} {x : Bd} (h : BdAt K H v x) : Dp K H v (kdat x) := by
  obtain ⟨q, a, f, rfl, t, b, c⟩ := h
  exact .tup t (.cons (bdp b) (.cons (dp2 c) .nil))
theorem bds_tk {K : PySem.W.Frag} {H H' : Hp} {vs : List V} {xs : List Bd} (h : F2 (BdAt K H) vs xs) (k : Tk K H H') : F2 (BdAt K H') vs xs := h.imp fun _ _ q => q.mono k
theorem fas_tk {K : PySem.W.Frag} {H H' : Hp} {vs : List V} {xs : List (Int × Nat)} (h : F2 (FAt K H) vs xs) (k : Tk K H H') : F2 (FAt K H') vs xs := h.imp fun _ _ q => q.mono k
theorem pds_tk {K : PySem.W.Frag} {H H' : Hp} {vs : List V} {xs : List (Option (Int × Nat))} (h : F2 (PdAt K H) vs xs) (k : Tk K H H') : F2 (PdAt K H') vs xs := h.imp fun _ _ q => PdAt.mono k q
theorem bdat_shw3 {cs : List Nat} {ts : List Tm} {g : List Wd} (hs : ∀ c ∈ cs, c < 123) (h : BtOk cs ts g) (k : BtSm 3 ts g) : Shw 4 620 (bdat ts g) := by
  have a : Shw 3 309 (.tuple (ts.map tdat)) := by
    refine Shw.tup (n := 2) (m := 102) (k := 3) (fun d hd => ?_) (by rw [List.length_map]; exact k.few)
    obtain ⟨x, hx, rfl⟩ := List.mem_map.mp hd
    have o := h.tm x hx
    exact pair_shw (n := 1) (m := 50) ((fdat_shw o.a (by decide)).up (by decide) (by decide)) ((wdat_shw (k := 10) hs o.sy.lt (k.tm x hx).2).up (by decide) (by decide))
  exact ((pair_shw (m := 309) a ((wdat_shw (k := 10) hs h.sy.lt k.ln).up (by decide) (by decide)))).up (by decide) (by decide)
/-- what of a table is not None -/
def somes (l : List (Option (Int × Nat))) : List (Int × Nat) := l.filterMap id
theorem odats_shaped (l : List (Int × Nat)) : SeqAt.shaped (.list (l.map fdat)) = true := by
  have a : ∀ l : List (Int × Nat), PyData.canLayAll0 (l.map fdat) = true ∧ PyData.depthAll (l.map fdat) ≤ 1 := by
    intro l
    induction l with
    | nil => exact ⟨rfl, Nat.zero_le _⟩
    | cons x r ih =>
      refine ⟨?_, ?_⟩
      · show (PyData.canLay0 (fdat x) && PyData.canLayAll0 (r.map fdat)) = true
        rw [ih.1]
        rfl
      · show max 1 (PyData.depthAll (r.map fdat)) ≤ 1
        have := ih.2
        omega
  have h := a l
  unfold SeqAt.shaped
  rw [show (PyData.list (l.map fdat)).canLay0 = true from h.1]
  have : (PyData.list (l.map fdat)).depth ≤ 64 := by
    show PyData.depthAll (l.map fdat) + 1 ≤ 64
    have := h.2
    omega
  rw [decide_eq_true this]
  rfl
theorem tabO_len (cs : List Nat) (ts : List Tm) (g : List Wd) (wl : List (List Bool)) : (tabO cs ts g wl).length = wl.length := List.length_map ..
theorem pdAt_notNone {K : PySem.W.Frag} {H : Hp} {v : V} {o : Option (Int × Nat)} (h : PdAt K H v o) : (!decide (v = .non)) = o.isSome := by
  cases o with
  | none =>
    obtain rfl : v = .non := h
    rfl
  | some p =>
    obtain ⟨a, rfl, _⟩ := h
    rfl
theorem somes_yes {cs : List Nat} {rs : List (List Wd)} (ts : List Tm) (h : wor cs rs ≠ []) : somes (tabO cs ts [.yes] (wor cs rs)) ≠ [] := by
  cases e : wor cs rs with
  | nil => exact absurd e h
  | cons b r =>
    intro z
    have : (somes (tabO cs ts [.yes] (b :: r))).length = 0 := by rw [z]; rfl
    exact absurd this (by
      show (List.filterMap id (some (pay (vl cs b) ts) :: _)).length ≠ 0
      rw [List.filterMap_cons]
      simp)
end B
namespace B
open PySem PySem.Spec PyProof.Rows L2
mutual
inductive Th (K : PySem.W.Frag) (H : Hp) : V → PyData → Prop
  | non : Th K H .non .none
  | bl (b : Bool) : Th K H (.bl b) (.bool b)
  | int (i : Int) : Th K H (.int i) (.int i)
  | str (x : Str) : Th K H (.str x) (.str x)
  | lst {a : Addr} {xs : List V} {ds : List PyData} : SqL K H a xs → ThAll K H xs ds → Th K H (.ref a) (.list ds)
  | tup {a : Addr} {xs : List V} {ds : List PyData} : SqT K H a xs → ThAll K H xs ds → Th K H (.ref a) (.tuple ds)
  | dic {a : Addr} {l : List (PyData × PyData)} : TyX K H (.ref a) (.type "dict") → Th K H (.ref a) (.dict l)
inductive ThAll (K : PySem.W.Frag) (H : Hp) : List V → List PyData → Prop
  | nil : ThAll K H [] []
  | cons {v : V} {vs : List V} {d : PyData} {ds : List PyData} : Th K H v d → ThAll K H vs ds → ThAll K H (v :: vs) (d :: ds)
end
theorem ThAll.len {K : PySem.W.Frag} {H : Hp} : ∀ {vs : List V} {ds : List PyData}, ThAll K H vs ds → vs.length = ds.length
  | _, _, .nil => rfl
  | _, _, .cons _ b => by rw [List.length_cons, List.length_cons, ThAll.len b]
theorem ThAll.get {K : PySem.W.Frag} {H : Hp} : ∀ {vs : List V} {ds : List PyData} {i : Nat} {v : V}, ThAll K H vs ds → vs[i]? = some v → ∃ d, ds[i]? = some d ∧ Th K H v d
  | _, _, i, v, .nil, e => by simp at e
  | _, _, 0, v, .cons a b, e => by
    cases e
    exact ⟨_, rfl, a⟩
  | _, _, i + 1, v, .cons a b, e => by
    obtain ⟨d, h, t⟩ := ThAll.get b (i := i) (v := v) (by simpa using e)
    exact ⟨d, by simpa using h, t⟩
/-- the name of its type -/
def tyN : PyData → String
  | .none => "NoneType"
  | .bool _ => "bool"
  | .int _ => "int"
  | .str _ => "str"
  | .list _ => "list"
  | .tuple _ => "tuple"
  | .dict _ => "dict"
theorem ty_lst {K : PySem.W.Frag} {H : Hp} {a : Addr} {xs : List V} (h : SqL K H a xs) : TyX K H (.ref a) (.type "list") := by
  rcases h with (h | ⟨o, h⟩) | ⟨o, its, n, e, c, _⟩
  · exact .base (.lst h)
  · exact .base (.frz h)
  · exact .kList e c
theorem Th.ty {K : PySem.W.Frag} {H : Hp} {v : V} {d : PyData} (h : Th K H v d) : TyX K H v (.type (tyN d)) := by
  cases h with
  | non => exact .base .non
  | bl b => exact .base (.bl b)
  | int i => exact .base (.int i)
  | str x => exact .base (.str x)
  | lst a _ => exact ty_lst a
  | tup a _ => exact ty_tup a
  | dic t => exact t
def isT : PyData → Bool
  | .tuple _ => true
  | _ => false
def isS : PyData → Bool
  | .str _ => true
  | _ => false
theorem kit_tup (d : PyData) : kitB (tyN d) "tuple" = some (isT d) := by
  cases d with
  | none => exact (by decide +kernel : kitB "NoneType" "tuple" = some false)
  | bool _ => exact (by decide +kernel : kitB "bool" "tuple" = some false)
  | int _ => exact (by decide +kernel : kitB "int" "tuple" = some false)
  | str _ => exact (by decide +kernel : kitB "str" "tuple" = some false)
  | list _ => exact (by decide +kernel : kitB "list" "tuple" = some false)
  | tuple _ => exact (by decide +kernel : kitB "tuple" "tuple" = some true)
  | dict _ => exact (by decide +kernel : kitB "dict" "tuple" = some false)
theorem kit_str (d : PyData) : kitB (tyN d) "str" = some (isS d) := by
  cases d with
  | none => exact (by decide +kernel : kitB "NoneType" "str" = some false)
  | bool _ => exact (by decide +kernel : kitB "bool" "str" = some false)
  | int _ => exact (by decide +kernel : kitB "int" "str" = some false)
  | str _ => exact (by decide +kernel : kitB "str" "str" = some true)
  | list _ => exact (by decide +kernel : kitB "list" "str" = some false)
  | tuple _ => exact (by decide +kernel : kitB "tuple" "str" = some false)
  | dict _ => exact (by decide +kernel : kitB "dict" "str" = some false)
/-- is_row -/
def rowD (lo hi : Int) : PyData → Bool
  | .tuple ds => decide (lo ≤ (ds.length : Int)) && decide ((ds.length : Int) ≤ hi)
  | _ => false
/-- how many things a word wants -/
def wantS (cs : List Nat) (x : Str) : Option Nat :=
  if inV (.str x) [.str "and", .str "or", .str "same"] = true then some 2
  else if decide (V.str x = V.str "not") = true then some 1
  else if inV (.str x) [.str "yes", .str "no"] = true then some 0
  else if x.length = 1 ∧ x.cps.toList.headD 0 ∈ cs then some 0 else none
def wantD (cs : List Nat) : PyData → Option Nat
  | .str x => wantS cs x
  | _ => none
def wantV : Option Nat → V
  | some n => .int n
  | none => .non
/-- how high the heap is behind the words -/
def goS (cs : List Nat) : Nat → List PyData → Option Nat
  | h, [] => some h
  | h, d :: r => match wantD cs d with
    | none => none
    | some m => if h < m then none else goS cs (h + 1 - m) r
def isSay (cs : List Nat) : PyData → Bool
  | .tuple ds => decide (1 ≤ ds.length) && decide (ds.length ≤ 40) && decide (goS cs 0 ds = some 1)
  | _ => false
def wantN : Wd → Nat
  | .an | .orr | .sm => 2
  | .nt => 1
  | _ => 0
theorem wantS_wd {cs : List Nat} (w : Wd) (h : ∀ c, w = .lt c → c ∈ cs) : wantS cs w.s = some (wantN w) := by
  unfold wantS
  cases w with
  | lt c =>
    have j := in_join (.lt c)
    rw [show inV (wv (.lt c)) [.str "and", .str "or", .str "same"] = inV (.str (Wd.lt c).s) [.str "and", .str "or", .str "same"] from rfl] at j
    rw [j, if_neg (by simp)]
    have n : decide (V.str (Wd.lt c).s = V.str "not") = false := (wd_eq (.lt c) .nt rfl).trans (decide_eq_false fun z => nomatch z)
    rw [n, if_neg (by decide)]
    have y : inV (.str (Wd.lt c).s) [.str "yes", .str "no"] = false := by
      have h1 : (("yes" : Str) == sg c) = false := beq_eq_false_iff_ne.mpr (sg_ne (c := c) (x := "yes") (by decide +kernel)).symm
      have h2 : (("no" : Str) == sg c) = false := beq_eq_false_iff_ne.mpr (sg_ne (c := c) (x := "no") (by decide +kernel)).symm
      show ((("yes" : Str) == sg c) || ((("no" : Str) == sg c) || false)) = false
      rw [h1, h2]
      rfl
    rw [y, if_neg (by decide), if_pos ⟨rfl, h c rfl⟩]
    rfl
  | an => rw [if_pos (by decide +kernel)]; rfl
  | orr => rw [if_pos (by decide +kernel)]; rfl
  | sm => rw [if_pos (by decide +kernel)]; rfl
  | nt => rw [if_neg (by decide +kernel), if_pos (by decide +kernel)]; rfl
  | yes => rw [if_neg (by decide +kernel), if_neg (by decide +kernel), if_pos (by decide +kernel)]; rfl
  | no => rw [if_neg (by decide +kernel), if_neg (by decide +kernel), if_pos (by decide +kernel)]; rfl
theorem goS_wd {cs : List Nat} : ∀ (ws : List Wd) (h k : Nat), (∀ c, Wd.lt c ∈ ws → c ∈ cs) → ht h ws = some k → goS cs h (ws.map fun w => .str w.s) = some k
  | [], h, k, _, e => e
  | w :: r, h, k, hl, e => by
    have hw : wantD cs (.str w.s) = some (wantN w) := wantS_wd w fun c z => hl c (by rw [z]; exact List.mem_cons_self)
    show (match wantD cs (.str w.s) with | none => none | some m => if h < m then none else goS cs (h + 1 - m) (r.map fun w => .str w.s)) = some k
    rw [hw]
    have hr : ∀ c, Wd.lt c ∈ r → c ∈ cs := fun c hc => hl c (List.mem_cons_of_mem _ hc)
    have key : wantN w ≤ h ∧ ht (h + 1 - wantN w) r = some k := by
      obtain ⟨st, rfl⟩ : ∃ st : List Bool, st.length = h := ⟨List.replicate h true, List.length_replicate⟩
      have e2 := ht_step (fun _ => true) e
      cases w with
      | nt =>
        obtain ⟨a, s, rfl⟩ := ht_nt e
        exact ⟨by show 1 ≤ (a :: s).length; exact Nat.succ_le_succ (Nat.zero_le _), e2⟩
      | an =>
        obtain ⟨b, a, s, rfl⟩ := ht_jn .an e
        exact ⟨by show 2 ≤ (b :: a :: s).length; exact Nat.succ_le_succ (Nat.succ_le_succ (Nat.zero_le _)), e2⟩
      | orr =>
        obtain ⟨b, a, s, rfl⟩ := ht_jn .orr e
        exact ⟨by show 2 ≤ (b :: a :: s).length; exact Nat.succ_le_succ (Nat.succ_le_succ (Nat.zero_le _)), e2⟩
      | sm =>
        obtain ⟨b, a, s, rfl⟩ := ht_jn .sm e
        exact ⟨by show 2 ≤ (b :: a :: s).length; exact Nat.succ_le_succ (Nat.succ_le_succ (Nat.zero_le _)), e2⟩
      | _ => exact ⟨Nat.zero_le _, e2⟩
    show (if h < wantN w then none else goS cs (h + 1 - wantN w) (r.map fun w => .str w.s)) = some k
    rw [if_neg (by omega)]
    exact goS_wd r _ k hr key.2
theorem isSay_wd {cs : List Nat} {ws : List Wd} (h : Sy cs ws) (l : ws.length ≤ 40) : isSay cs (wdat ws) = true := by
  have h1 : 1 ≤ ws.length := List.length_pos_iff.mpr h.ne
  show (decide (1 ≤ (ws.map fun w => PyData.str w.s).length) && decide ((ws.map fun w => PyData.str w.s).length ≤ 40) && decide (goS cs 0 (ws.map fun w => .str w.s) = some 1)) = true
  rw [List.length_map, goS_wd ws 0 1 h.lt h.ht, decide_eq_true h1, decide_eq_true l]
  rfl
theorem Same.ty {K : PySem.W.Frag} {H H' : Hp} {v : V} {n : Value} (e : Same H H') (h : TyX K H v n) : TyX K H' v n := by
  cases h with
  | base b =>
    cases b with
    | non => exact .base .non
    | bl x => exact .base (.bl x)
    | int i => exact .base (.int i)
    | str x => exact .base (.str x)
    | flt x => exact .base (.flt x)
    | lst h => exact .base (.lst (e _ _ h))
    | frz h => exact .base (.frz (e _ _ h))
    | tup h => exact .base (.tup (e _ _ h))
    | dK h => exact .base (.dK (e _ _ h))
    | dT h => exact .base (.dT (e _ _ h))
    | ins h cl ha hn htk hm => exact .base (.ins (e _ _ h) cl ha hn htk hm)
  | byt b => exact .byt b
  | set h => exact .set (e _ _ h)
  | kList h c => exact .kList h c
  | kTuple h c => exact .kTuple h c
  | kDict h c => exact .kDict h c
  | fTuple h => exact .fTuple (e _ _ h)
  | fDict h => exact .fDict (e _ _ h)
mutual
theorem th_same {K : PySem.W.Frag} {H H' : Hp} (e : Same H H') : ∀ {v : V} {d : PyData}, Th K H v d → Th K H' v d
  | _, _, .non => .non
  | _, _, .bl b => .bl b
  | _, _, .int i => .int i
  | _, _, .str x => .str x
  | _, _, .lst a b => .lst (Same.sql e a) (thAll_same e b)
  | _, _, .tup a b => .tup (Same.tup e a) (thAll_same e b)
  | _, _, .dic t => .dic (Same.ty e t)
theorem thAll_same {K : PySem.W.Frag} {H H' : Hp} (e : Same H H') : ∀ {vs : List V} {ds : List PyData}, ThAll K H vs ds → ThAll K H' vs ds
  | _, _, .nil => .nil
  | _, _, .cons a b => .cons (th_same e a) (thAll_same e b)
end
theorem F2.take {α β : Type} {R : α → β → Prop} {as : List α} {bs : List β} (h : F2 R as bs) : ∀ n, F2 R (as.take n) (bs.take n) := by
  induction h with
  | nil => intro n; rw [List.take_nil, List.take_nil]; exact .nil
  | cons r _ ih => intro n; cases n with
    | zero => exact .nil
    | succ n => exact .cons r (ih n)
theorem F2.drop {α β : Type} {R : α → β → Prop} {as : List α} {bs : List β} (h : F2 R as bs) : ∀ n, F2 R (as.drop n) (bs.drop n) := by
  induction h with
  | nil => intro n; rw [List.drop_nil, List.drop_nil]; exact .nil
  | cons r t ih => intro n; cases n with
    | zero => exact .cons r t
    | succ n => exact ih n
end B
namespace B
open PySem PySem.Spec PyProof.Rows L2
def ql (p : Int × Nat) : Rat := mkRat p.1 p.2
theorem ql_low {t : Int} {b : Nat} (hb : 0 < b) : ql (lowT t b, lowBn t b) = mkRat t b := by
  have f := low_isF (t := t) hb
  refine (Rat.mkRat_eq_iff (Nat.ne_of_gt f.pos) (Nat.ne_of_gt hb)).mpr ?_
  show lowT t b * (b : Int) = t * (lowBn t b : Int)
  rw [← lowBn_eq hb]
  exact low_cross t b
theorem ql_add {p q : Int × Nat} (hp : 0 < p.2) (hq : 0 < q.2) : ql (addF p q) = ql p + ql q := by
  unfold ql
  rw [Rat.mkRat_add_mkRat _ _ (Nat.ne_of_gt hp) (Nat.ne_of_gt hq)]
  exact ql_low (Nat.mul_pos hp hq)
theorem ql_neg (p : Int × Nat) : ql (negF p) = -ql p := by
  unfold ql
  rw [Rat.neg_mkRat]
  rfl
theorem ql_zero : ql (0, 1) = 0 := by decide
/-- a right fraction -/
def Fr (p : Int × Nat) : Prop := IsF p.1 p.2
theorem Fr.add {p q : Int × Nat} (h : Fr p) (k : Fr q) : Fr (addF p q) := add_isF h.pos k.pos
theorem Fr.mul {p q : Int × Nat} (h : Fr p) (k : Fr q) : Fr (mulF p q) := mul_isF h.pos k.pos
theorem Fr.neg {p : Int × Nat} (h : Fr p) : Fr (negF p) := IsF.neg h
theorem Fr.zero : Fr (0, 1) := ⟨by decide, by decide⟩
theorem snoc_ind {α : Type} {P : List α → Prop} (h0 : P []) (h : ∀ l x, P l → P (l ++ [x])) (l : List α) : P l := by
  have : ∀ l : List α, P l.reverse := by
    intro l
    induction l with
    | nil => exact h0
    | cons x r ih => rw [List.reverse_cons]; exact h _ x ih
  have := this l.reverse
  rwa [List.reverse_reverse] at this
end B
namespace B
open PySem PySem.Spec PyProof.Rows L2
end B
namespace B
open PySem PySem.Spec PyProof.Rows L2
structure Fb (D M : Nat) (p : Int × Nat) : Prop where
  f : Fr p
  d : p.2 ∣ D
  m : p.1.natAbs ≤ M * p.2
theorem Fb.up {D E M N : Nat} {p : Int × Nat} (h : Fb D M p) (a : D ∣ E) (b : M ≤ N) : Fb E N p := ⟨h.f, Nat.dvd_trans h.d a, Nat.le_trans h.m (Nat.mul_le_mul_right _ b)⟩
theorem Fb.zero {D M : Nat} : Fb D M (0, 1) := ⟨Fr.zero, Nat.one_dvd _, Nat.zero_le _⟩
theorem Fb.fok {D M a c : Nat} {p : Int × Nat} (h : Fb D M p) (h0 : 0 < D) (hD : D < 2 ^ a) (hM : M ≤ 2 ^ c) : Fok (c + a) p := by
  have hb : p.2 < 2 ^ a := Nat.lt_of_le_of_lt (Nat.le_of_dvd h0 h.d) hD
  refine ⟨h.f, ?_, Nat.lt_of_lt_of_le hb (Nat.pow_le_pow_right (by decide) (by omega))⟩
  rw [Nat.pow_add]
  exact Nat.lt_of_le_of_lt h.m (Nat.lt_of_le_of_lt (Nat.mul_le_mul_right _ hM) (Nat.mul_lt_mul_of_pos_left hb (Nat.pow_pos (by decide))))
theorem low_cross2 {t : Int} {b : Nat} (hb : 0 < b) : lowT t b * (b : Int) = t * (lowBn t b : Int) := by
  rw [← lowBn_eq hb]
  exact low_cross t b
theorem lowBn_dvd {t : Int} {b : Nat} (hb : 0 < b) : lowBn t b ∣ b := by
  have e := low_b t b
  have : (lowN t b).natAbs * (lowB t b).natAbs = b := by rw [← Int.natAbs_mul, e, Int.natAbs_natCast]
  exact ⟨_, by rw [Nat.mul_comm]; exact this.symm⟩
theorem cop_dvdI {T c : Int} {B D : Nat} (h : IsF T B) (e : T * (D : Int) = c * (B : Int)) : B ∣ D := by
  have e1 : T.natAbs * D = c.natAbs * B := by
    have := congrArg Int.natAbs e
    rw [Int.natAbs_mul, Int.natAbs_mul, Int.natAbs_natCast, Int.natAbs_natCast] at this
    exact this
  exact cop_dvd (a := T.natAbs) (by rw [Nat.gcd_comm]; exact h.cop) ⟨c.natAbs, by rw [e1, Nat.mul_comm]⟩
theorem Fb.add {D M N : Nat} {p q : Int × Nat} (h : Fb D M p) (k : Fb D N q) (h0 : 0 < D) : Fb D (M + N) (addF p q) := by
  have hp := h.f.pos
  have hq := k.f.pos
  have hpq := Nat.mul_pos hp hq
  have F := h.f.add k.f
  have e := low_cross2 (t := addX p.1 p.2 q.1 q.2) hpq
  obtain ⟨u, hu⟩ := h.d
  obtain ⟨v, hv⟩ := k.d
  refine ⟨F, ?_, ?_⟩
  · refine cop_dvdI (c := p.1 * u + q.1 * v) F ?_
    show lowT _ _ * (D : Int) = _ * (lowBn _ _ : Int)
    have hD : (D : Int) ≠ 0 := by omega
    refine Int.eq_of_mul_eq_mul_right hD ?_
    generalize lowT (addX p.1 p.2 q.1 q.2) (p.2 * q.2 : Nat) = T at *
    generalize lowBn (addX p.1 p.2 q.1 q.2) (p.2 * q.2) = B at *
    unfold addX at e
    have hu' : (D : Int) = p.2 * u := by rw [hu]; exact Int.natCast_mul _ _
    have hv' : (D : Int) = q.2 * v := by rw [hv]; exact Int.natCast_mul _ _
    rw [Int.natCast_mul] at e
    have : T * (D : Int) * D = T * ((p.2 : Int) * q.2) * (u * v) := by
      rw [show T * (D : Int) * D = T * ((p.2 : Int) * u) * (q.2 * v) by rw [← hu', ← hv']]
      grind
    rw [this, e]
    grind
  · show (lowT _ _).natAbs ≤ (M + N) * lowBn _ _
    have e2 := congrArg Int.natAbs e
    rw [Int.natAbs_mul, Int.natAbs_mul, Int.natAbs_natCast, Int.natAbs_natCast] at e2
    refine Nat.le_of_mul_le_mul_right ?_ hpq
    rw [e2]
    have ax : (addX p.1 p.2 q.1 q.2).natAbs ≤ (M + N) * (p.2 * q.2) := by
      unfold addX
      refine Nat.le_trans (Int.natAbs_add_le _ _) ?_
      rw [Int.natAbs_mul, Int.natAbs_mul, Int.natAbs_natCast, Int.natAbs_natCast]
      have a1 := Nat.mul_le_mul_right q.2 h.m
      have a2 := Nat.mul_le_mul_right p.2 k.m
      have : (M + N) * (p.2 * q.2) = M * p.2 * q.2 + N * q.2 * p.2 := by grind
      omega
    have := Nat.mul_le_mul_right (lowBn (addX p.1 p.2 q.1 q.2) (p.2 * q.2)) ax
    refine Nat.le_trans this (Nat.le_of_eq ?_)
    grind
theorem Fb.mul {D E M N : Nat} {p q : Int × Nat} (h : Fb D M p) (k : Fb E N q) : Fb (D * E) (M * N) (mulF p q) := by
  have hp := h.f.pos
  have hq := k.f.pos
  have hpq := Nat.mul_pos hp hq
  have e := low_cross2 (t := p.1 * q.1) hpq
  refine ⟨h.f.mul k.f, Nat.dvd_trans (lowBn_dvd hpq) (Nat.mul_dvd_mul h.d k.d), ?_⟩
  show (lowT _ _).natAbs ≤ M * N * lowBn _ _
  have e2 := congrArg Int.natAbs e
  rw [Int.natAbs_mul, Int.natAbs_mul, Int.natAbs_mul, Int.natAbs_natCast, Int.natAbs_natCast] at e2
  refine Nat.le_of_mul_le_mul_right ?_ hpq
  rw [e2]
  have ax : p.1.natAbs * q.1.natAbs ≤ M * N * (p.2 * q.2) := Nat.le_trans (Nat.mul_le_mul h.m k.m) (Nat.le_of_eq (by grind))
  refine Nat.le_trans (Nat.mul_le_mul_right _ ax) (Nat.le_of_eq ?_)
  grind
theorem Fb.neg {D M : Nat} {p : Int × Nat} (h : Fb D M p) : Fb D M (negF p) := ⟨h.f.neg, h.d, by show (-p.1).natAbs ≤ _; rw [Int.natAbs_neg]; exact h.m⟩
theorem pay_fb (v : Nat → Bool) {D M : Nat} (h0 : 0 < D) (ts : List Tm) : (∀ x ∈ ts, Fb D M x.a) → Fb D (ts.length * M) (pay v ts) := by
  refine snoc_ind (P := fun ts => (∀ x ∈ ts, Fb D M x.a) → Fb D (ts.length * M) (pay v ts)) (fun _ => Fb.zero) (fun l x ih h => ?_) ts
  have ih := ih fun y hy => h y (List.mem_append_left _ hy)
  have hx := h x (by simp)
  rw [pay_snoc, List.length_append, List.length_singleton, Nat.add_mul, Nat.one_mul]
  split
  · exact ih.add hx h0
  · exact ih.up (Nat.dvd_refl _) (by omega)
def iv (k : Nat) : V := .int (k : Int)
end B
namespace B
open PySem PySem.Spec PyProof.Rows L2
end B
namespace B
open PySem PySem.Spec PyProof.Rows L2
section
variable {prog : Program} {w : World} {A : Around} {E : Value → Shared → Prop} {s : Shared}
end
end B
namespace B
open PySem PySem.Spec PyProof.Rows L2
section
open AutoSeq1 (wpAny_loadPart')
set_option maxHeartbeats 1000000 in
theorem meets_enum1 {v : Value} {o : Obj} {H : Heap → Prop} (B : Begins v o H) :
    Meets (Builtin.«enumerate.__new__» ⟨[.type "enumerate", v], []⟩) (fun _ R s => H s.heap ∧
      R (.ok (.ret (.ref (s.heap.push o).objs.size))) { s with heap := (s.heap.push o).push { cls := .type "enumerate", data := .fields #[.none, .bool false, .ref s.heap.objs.size, rawInt 0, .none, .none] } }) :=
  .of_wp fun prog w A R s h => by
    obtain ⟨hp, g, d, tk, os⟩ := s; obtain ⟨h1, h⟩ := h
    have hsub := sub_enumerate
    have q1 : ∀ {A' : Around} {E : Value → Shared → Prop} {Q : Value → Shared → Prop}, Q (.ref hp.objs.size) ⟨hp.push o, g, d, tk, os⟩ → wpAny (model prog w) A' (pyIter v) Q E ⟨hp, g, d, tk, os⟩ :=
      fun q => B.iter prog w _ _ ⟨hp, g, d, tk, os⟩ _ h1 q
    wp_walk using q1
    refine wpAny_stack_any fun st => wpAny_pure ?_
    split
    · rename_i c _ _ _ _ _
      cases (c == Value.type "enumerate")
      · wp_walk using q1
        exact ⟨_, rfl, h⟩
      · wp_walk using q1
        exact ⟨_, rfl, h⟩
    · wp_walk using q1
      exact ⟨_, rfl, h⟩
end
section
variable {prog : Program} {w : World} {A : Around} {E : Value → Shared → Prop} {s : Shared}
theorem enum_begins1 {v : Value} {o : Obj} {H : Heap → Prop} {Q : Value → Shared → Prop} (B : Begins v o H) (h1 : H s.heap)
    (h : ∀ h', IsEnum h' (s.heap.objs.size + 1) s.heap.objs.size 0 .none → h'.get? s.heap.objs.size = some o → h'.objs.size = s.heap.objs.size + 2 →
      (∀ b o, s.heap.get? b = some o → h'.get? b = some o) → Q (.ref (s.heap.objs.size + 1)) { s with heap := h' }) :
    wpAny (model prog w) A (call (.type "enumerate") [v]) Q E s := by
  refine callType_new F.called_enumerate (by decide) (F.typeCall_enumerate_1 _) (F.newCall_enumerate_1 _) (fun obj => F.args_object_init_2 obj _) F.entry_enumerate_new
    (meets_enum1 B) ⟨h1, ?_⟩
  have hz : (s.heap.push o).objs.size = s.heap.objs.size + 1 := Heap.size_push ..
  show _ ∧ _
  rw [hz]
  have he : IsEnum ((s.heap.push o).push { cls := .type "enumerate", data := .fields #[.none, .bool false, .ref s.heap.objs.size, rawInt 0, .none, .none] }) (s.heap.objs.size + 1) s.heap.objs.size 0 .none := by
    have := Heap.get?_push_size (s.heap.push o) (o := { cls := .type "enumerate", data := .fields #[.none, .bool false, .ref s.heap.objs.size, rawInt 0, .none, .none] }) rfl
    rw [hz] at this; exact this
  exact ⟨⟨_, he, rfl⟩, h _ he (Heap.get?_push_of_some _ (Heap.get?_push_size _ B.free)) (by rw [Heap.size_push, hz]) fun b o x => Heap.get?_push_of_some _ (Heap.get?_push_of_some _ x)⟩
end
def ItE (K : PySem.W.Frag) (k1 : Kd) (v1 : V) : It :=
  ⟨fun i H => ∃ (xs : List V) (x : V), Src K H k1 v1 xs ∧ xs[i]? = some x,
    fun i H v H' => ∃ T x, v = .ref T ∧ H T = none ∧ H' = upd H T (.tup [.int (i : Nat), x]) ∧ (∀ xs, Src K H k1 v1 xs → xs[i]? = some x),
    fun i H => ∃ xs : List V, Src K H k1 v1 xs ∧ i = xs.length⟩
theorem turn_enumG {P : Program} {w : World} {K : PySem.W.Frag} {elts : List Expr} {kk : Nat} {tpos : Pos} {k1 : Kd} {v1 : V} {u1 : Value} {N : Nat} (r1 : RelV v1 u1) (l1 : ∀ a, u1 = .ref a → a < N) :
    Turn P w K (.Tuple elts kk tpos) (ItE K k1 v1) [N + 1, N] (N + 1) (fun i h => (∃ old, IsEnum h (N + 1) N (0 + (i : Int)) old) ∧ ItSt k1 u1 N i h) where
  mem := by simp
  obj := fun i h st c hc => by
    obtain ⟨⟨old, he⟩, s1⟩ := st
    have e' : c = N + 1 ∨ c = N := by simpa using hc
    rcases e' with q | q
    · rw [q]; exact ⟨_, he, fun v q => nomatch q⟩
    · rw [q]; exact s1.obj
  keep := fun i h h' st k => by
    obtain ⟨⟨old, he⟩, s1⟩ := st
    exact ⟨⟨old, k (N + 1) (by simp) _ he⟩, s1.keep fun o q => k N (by simp) o q⟩
  item := by
    intro X hP hw hK hc i pins s σ H E I hf st hg
    subst hP hw hK
    obtain ⟨he, s1⟩ := st
    obtain ⟨xs, x, hqx, hx⟩ := hg
    have hh : X.A.in1.handled = none := I.ok.hd hc
    obtain ⟨fp1, P1, St1, D1, c1, a1, b1, m1⟩ := Src.draws (it := N) I hqx r1 hh l1
    have W := GoesN.enumFrom (elts := elts) (x1 := kk) (pos := tpos) 0 D1 (N + 1) (Nat.succ_ne_self _) (notIn_new (j := 1) (i := 0) (fun b hb => l1 b (m1 b hb)) (by decide)) (List.mem_cons_self ..)
    have hi1 := (List.getElem?_eq_some_iff.mp hx).1
    refine W.goes i s (fun u s2 => ∃ x H', Inv X pins σ H' s2 ∧ RelV x u ∧ (ItE X.K k1 v1).yld i H x H' ∧ _ ∧ ∀ b ∈ [N + 1, N], H' b = none) E hi1 ⟨he, a1 i s1⟩ ?_
    rintro v h' tk ⟨T, t, p, rfl, hT, hp, ht⟩ st' hk htk
    obtain ⟨x', hx', rx⟩ := c1 i p hp
    have new : ObjOk X.prog X.w (upd H T (.tup [.int (i : Nat), x'])) h' T (.tup [.int (i : Nat), x']) := ⟨by show 2 ≤ sizeLine; decide, [.int (0 + (i : Int)) t, p], .cons ⟨t, by rw [Int.zero_add]⟩ (.cons rx .nil), ht⟩
    have I1 : Inv X pins σ (upd H T (.tup [.int (i : Nat), x'])) { s with heap := h', toks := tk } := I.turnedNew (ch := [N + 1, N]) (fun c o hb q => hk c o hb q) hf hT new
    have hTn := I.hok.fresh hT
    refine ⟨.ref T, _, I1, rfl, ⟨T, x', rfl, hTn, rfl, fun zs hz' => by rw [Src.inj I hz' hqx]; exact hx'⟩, ⟨?_, b1 _ _ st'.2⟩, fun c hc' => ?_⟩
    · obtain ⟨old, ho⟩ := st'.1
      exact ⟨old, ho⟩
    have hlt : c < s.heap.objs.size := by
      have e' : c = N + 1 ∨ c = N := by simpa using hc'
      rcases e' with q | q
      · rw [q]; obtain ⟨_, z⟩ := he; exact Heap.lt_size z
      · rw [q]; obtain ⟨_, z, _⟩ := s1.obj; exact Heap.lt_size z
    rw [upd_ne (Nat.ne_of_lt (Nat.lt_of_lt_of_le hlt hT))]
    exact (hf c hc').1
  done := by
    intro X hP hw hK hc i pins s σ H E I hf st hg
    subst hP hw hK
    obtain ⟨he, s1⟩ := st
    obtain ⟨xs, hqx, hend⟩ := hg
    have hh : X.A.in1.handled = none := I.ok.hd hc
    obtain ⟨fp1, P1, St1, D1, c1, a1, b1, m1⟩ := Src.draws (it := N) I hqx r1 hh l1
    have W := GoesN.enumFrom (elts := elts) (x1 := kk) (pos := tpos) 0 D1 (N + 1) (Nat.succ_ne_self _) (notIn_new (j := 1) (i := 0) (fun b hb => l1 b (m1 b hb)) (by decide)) (List.mem_cons_self ..)
    subst hend
    refine W.stops s (fun s1 => Inv X pins σ H s1) E ⟨he, a1 _ s1⟩ fun h' tk hk htk => ?_
    exact I.turnedL (ch := [N + 1, N]) (fun c o hb q => hk c o hb q) hf
  self := fun A i s Q E st h => let ⟨⟨_, he⟩, _⟩ := st; wpAny_pyIter_enum he h
def iEnumG (K : PySem.W.Frag) (ta : TA) : TI := fun σ H R => ta σ H fun vs H1 => ∃ k1 v1 xs, vs = [v1] ∧ Src K H1 k1 v1 xs ∧ R (ItE K k1 v1) H1
theorem pi_enumG {X : Cx} {e : Expr} {ta : TA} {p pos tpos : Pos} {elts : List Expr} {kk : Nat} (hg : Gl X "enumerate") (hm : X.mg "enumerate" = none) (ha : PA X [e] ta) (hs : starEach [e] X.env = [(false, eval e X.env)] := by rfl) :
    PI X (.Tuple elts kk tpos) (.Call (.Name "enumerate" p) [e] [] pos) (iEnumG X.K ta) := by
  refine ⟨fun pins s σ H R I h => ?_⟩
  refine Call_ (ld_blt I hg hm boot_enumerate (PyProof.Rows.callWith_type1 (thn (ha.run pos pins s σ H _ I h) fun us s1 ⟨vs, H1, I1, r1, q1⟩ => ?_) hs rfl))
  obtain ⟨k1, v1, xs, ex, hqx, q⟩ := q1
  subst ex
  cases r1 with
  | cons r rr =>
    cases rr
    obtain ⟨o1, G1, B1, g1, b1, l1⟩ := Src.begins I1 hqx r
    refine enum_begins1 B1 g1 fun h' he hit hsz hk => wpAny_pyIter_enum he ?_
    have I2 : Inv X pins σ H1 { s1 with heap := h' } := I1.kept (t' := s1.toks) hk
    refine ⟨s1.heap.objs.size + 1, [s1.heap.objs.size + 1, s1.heap.objs.size], _, _, H1, rfl, I2, turn_enumG r l1, ⟨⟨.none, he⟩, b1 h' _ hit⟩, fun b hb => ?_, q⟩
    have e' : b = s1.heap.objs.size + 1 ∨ b = s1.heap.objs.size := by simpa using hb
    have hle : s1.heap.objs.size ≤ b := by
      rcases e' with z | z
      · rw [z]; exact Nat.le_add_right _ _
      · rw [z]; exact Nat.le_refl _
    exact I1.fpOk hle (I1.hok.fresh hle)
theorem walk_enumG {K : PySem.W.Frag} {k1 : Kd} {v1 : V} {xs : List V} : Walk (ItE K k1 v1) xs.length (fun H => Src K H k1 v1 xs) (fun i H v H' => ∃ T x, v = .ref T ∧ H T = none ∧ H' = upd H T (.tup [.int (i : Nat), x]) ∧ xs[i]? = some x) :=
  ⟨fun i H hi q => ⟨xs, xs[i], q, List.getElem?_eq_getElem _⟩, fun H q => ⟨xs, q, rfl⟩,
    fun i H v H' hi q y => by
      obtain ⟨T, x, e, n, e2, h1⟩ := y
      exact ⟨T, x, e, n, e2, h1 xs q⟩⟩
end B
namespace B
open PySem PySem.Spec PyProof.Rows L2
section
variable {β : Type} {J : It} {n : Nat} {G : Hp → Prop} {Y : Nat → Hp → V → Hp → Prop} {K : PySem.W.Frag}
end
section
variable {β : Type} {J : It} {n : Nat} {G : Hp → Prop} {Y : Nat → Hp → V → Hp → Prop} {K : PySem.W.Frag}
theorem lcp_it (w : Walk J n G Y) {g : TG} {tt : TT} {te : TE} {vs : List Nat} {σ : L2.St} {H1 : Hp} {D : Addr} {Qd : Hp → Prop} (out : Nat → Option β) (R : Hp → V → β → Prop) (mono : ∀ H H' v y, Tk K H H' → R H v y → R H' v y) (nD : H1 D = none) (sz : n < sizeLine)
    (hG : ∀ H, Same H1 H → G H)
    (hs : ∀ i x H H', i < n → Same H1 H → Y i H x H' → ∀ (Y' : V → Hp → Prop) (N : Hp → Prop), (∀ y H4 z, Same H H4 → out i = some z → R H4 y z → Y' y H4) → (∀ H3, Same H H3 → out i = none → N H3) →
      g x (wipe σ vs) H' fun σ2 H2 => wipe σ2 vs = wipe σ vs ∧ tt σ2 H2 fun b H3 => if b = true then te σ2 H3 Y' else N H3)
    (hd : ∀ H ys, H D = some (.lst ys) → F2 (R H) ys ((List.range n).filterMap out) → Same H1 H → Qd H) :
    ∃ W : Nat → Nat → Hp → Prop, (∃ m, W 0 m (upd H1 D (.lst []))) ∧ ∀ i m H, W i m H →
      (J.stop i H ∧ Qd H) ∨ (J.go i H ∧ ∃ Nx : Hp → Prop, (∀ H', Nx H' → ∃ m', m' < m ∧ W (i + 1) m' H') ∧ ∀ x H', J.yld i H x H' → g x (wipe σ vs) H' fun σ2 H2 => wipe σ2 vs = wipe σ vs ∧ tt σ2 H2 fun b H3 =>
        if b = true then te σ2 H3 fun y H4 => ∃ acc, H4 D = some (.lst acc) ∧ acc.length < sizeLine ∧ Nx (upd H4 D (.lst (acc ++ [y]))) else Nx H3) := by
  refine lc_it w (fun i H => ∃ (ys : List V), H D = some (.lst ys) ∧ F2 (R H) ys ((List.range i).filterMap out) ∧ Same H1 H) ⟨[], upd_same, .nil, same_upd nD⟩ (fun i H _ ⟨_, _, _, k⟩ => hG H k) ?_ ?_
  · rintro i x H H' hi ⟨ys, hD, f, k⟩ y
    have fl := f.len
    have ll : ((List.range i).filterMap out).length ≤ i := Nat.le_trans (List.length_filterMap_le _ _) (Nat.le_of_eq List.length_range)
    have es : (List.range (i + 1)).filterMap out = (List.range i).filterMap out ++ (match out i with | some z => [z] | none => []) := by
      rw [List.range_succ, List.filterMap_append, List.filterMap_cons, List.filterMap_nil]
      cases out i <;> rfl
    refine hs i x H H' hi k y _ _ (fun v H4 z k4 e r => ?_) (fun H3 k3 e => ?_)
    · have hD4 := k4 _ _ hD
      have U := fun a xs h => tup_upd (K := K) (a := a) (ys := xs) (zs := ys ++ [v]) hD4 h
      rw [e] at es
      refine ⟨ys, hD4, by omega, ys ++ [v], upd_same, ?_, same_mut nD (k.trans k4)⟩
      rw [es]
      exact ((f.imp fun _ _ h => mono _ _ _ _ (Same.tk k4) h).app (F2.one r)).imp fun _ _ h => mono _ _ _ _ U h
    · rw [e] at es
      refine ⟨ys, k3 _ _ hD, ?_, k.trans k3⟩
      rw [es, List.append_nil]
      exact f.imp fun _ _ h => mono _ _ _ _ (Same.tk k3) h
  · rintro H ⟨ys, hD, f, k⟩
    exact hd H ys hD f k
end
def iSeq (K : PySem.W.Frag) (te : TE) : TI := fun σ H R => te σ H fun x H1 => ∃ a, x = .ref a ∧ (((∃ xs, SqL K H1 a xs) ∧ R (Itl K a) H1) ∨ ((∃ xs, SqT K H1 a xs) ∧ R (Itt K a) H1))
theorem pi_seq {X : Cx} {tg l : Expr} {i : Nat} (hl : PE X l (tVar i)) : PI X tg l (iSeq X.K (tVar i)) := by
  refine ⟨fun pins s σ H R I h => ?_⟩
  obtain ⟨v, hv, a, rfl, h | h⟩ := h
  · exact (pi_list hl).run pins s σ H R I ⟨_, hv, a, rfl, h⟩
  · exact (pi_tup hl).run pins s σ H R I ⟨_, hv, a, rfl, h⟩
def ivdat (ks : List Nat) : PyData := .list (ks.map fun k : Nat => .int (k : Int))
theorem iv_lay : ∀ ks : List Nat, PyData.canLayAll0 (ks.map fun k : Nat => .int (k : Int)) = true ∧ PyData.depthAll (ks.map fun k : Nat => PyData.int (k : Int)) = 0
  | [] => ⟨rfl, rfl⟩
  | k :: r => by
    obtain ⟨a, b⟩ := iv_lay r
    refine ⟨?_, ?_⟩
    · rw [List.map_cons, PyData.canLayAll0, a]
      rfl
    · rw [List.map_cons, PyData.depthAll, b]
      rfl
theorem iv_shaped (ks : List Nat) : SeqAt.shaped (ivdat ks) = true := by
  obtain ⟨a, b⟩ := iv_lay ks
  unfold SeqAt.shaped ivdat
  rw [PyData.canLay0, PyData.depth, a, b]
  rfl
theorem iv_dpa {K : PySem.W.Frag} {H : Hp} : ∀ ks : List Nat, DpAll K H (ks.map iv) (ks.map fun k : Nat => .int (k : Int))
  | [] => .nil
  | k :: r => .cons (.int (k : Int)) (iv_dpa r)
theorem iv_dp {K : PySem.W.Frag} {H : Hp} {a : Addr} {ks : List Nat} (h : SqL K H a (ks.map iv)) : Dp K H (.ref a) (ivdat ks) := .lst h (iv_dpa ks)
end B
namespace B
open PySem PySem.Spec PyProof.Rows L2
def isN : PyData → Bool
  | .int _ => true
  | _ => false
def isB : PyData → Bool
  | .bool _ => true
  | _ => false
theorem kit_int (d : PyData) : kitB (tyN d) "int" = some (isN d || isB d) := by
  cases d with
  | none => exact (by decide +kernel : kitB "NoneType" "int" = some false)
  | bool _ => exact (by decide +kernel : kitB "bool" "int" = some true)
  | int _ => exact (by decide +kernel : kitB "int" "int" = some true)
  | str _ => exact (by decide +kernel : kitB "str" "int" = some false)
  | list _ => exact (by decide +kernel : kitB "list" "int" = some false)
  | tuple _ => exact (by decide +kernel : kitB "tuple" "int" = some false)
  | dict _ => exact (by decide +kernel : kitB "dict" "int" = some false)
theorem kit_bool (d : PyData) : kitB (tyN d) "bool" = some (isB d) := by
  cases d with
  | none => exact (by decide +kernel : kitB "NoneType" "bool" = some false)
  | bool _ => exact (by decide +kernel : kitB "bool" "bool" = some true)
  | int _ => exact (by decide +kernel : kitB "int" "bool" = some false)
  | str _ => exact (by decide +kernel : kitB "str" "bool" = some false)
  | list _ => exact (by decide +kernel : kitB "list" "bool" = some false)
  | tuple _ => exact (by decide +kernel : kitB "tuple" "bool" = some false)
  | dict _ => exact (by decide +kernel : kitB "dict" "bool" = some false)
/-- is_fraction -/
def isFr : PyData → Bool
  | .tuple [.int t, .int b] => decide (1 ≤ b) && decide (Nat.gcd t.natAbs b.natAbs = 1)
  | _ => false
theorem isFr_iff {d : PyData} : isFr d = true ↔ ∃ p : Int × Nat, Fr p ∧ d = fdat p := by
  constructor
  · intro h
    match d, h with
    | .tuple [.int t, .int b], h =>
      have h : (decide (1 ≤ b) && decide (Nat.gcd t.natAbs b.natAbs = 1)) = true := h
      rw [Bool.and_eq_true, decide_eq_true_eq, decide_eq_true_eq] at h
      refine ⟨(t, b.toNat), ⟨by show 0 < b.toNat; omega, ?_⟩, ?_⟩
      · show Nat.gcd t.natAbs b.toNat = 1
        rw [show b.toNat = b.natAbs by omega]
        exact h.2
      · show PyData.tuple [.int t, .int b] = .tuple [.int t, .int ((b.toNat : Nat) : Int)]
        rw [Int.toNat_of_nonneg (by omega)]
  · rintro ⟨p, f, rfl⟩
    show (decide (1 ≤ (p.2 : Int)) && decide (Nat.gcd p.1.natAbs (p.2 : Int).natAbs = 1)) = true
    rw [Bool.and_eq_true, decide_eq_true_eq, decide_eq_true_eq, Int.natAbs_natCast]
    have := f.pos
    exact ⟨by omega, f.cop⟩
theorem rowD_two {d : PyData} (h : rowD 2 2 d = true) : ∃ a b, d = .tuple [a, b] := by
  match d, h with
  | .tuple ds, h =>
    have h : (decide ((2 : Int) ≤ (ds.length : Int)) && decide ((ds.length : Int) ≤ 2)) = true := h
    rw [Bool.and_eq_true, decide_eq_true_eq, decide_eq_true_eq] at h
    match ds, h with
    | [], h => exact absurd h.1 (by show ¬ ((2 : Int) ≤ 0); decide)
    | [a], h => exact absurd h.1 (by show ¬ ((2 : Int) ≤ 1); decide)
    | [a, b], _ => exact ⟨a, b, rfl⟩
    | a :: b :: c :: r, h => exact absurd h.2 (by rw [List.length_cons, List.length_cons, List.length_cons]; omega)
end B
namespace B
open PySem PySem.Spec PyProof.Rows L2
end B
namespace B
open PySem PySem.Spec PyProof.Rows L2
theorem ql_nd {p : Int × Nat} (h : Fr p) : (ql p).num = p.1 ∧ (ql p).den = p.2 := by
  have hp := h.pos
  have c : Nat.gcd p.1.natAbs p.2 = 1 := h.cop
  unfold ql
  rw [Rat.num_mkRat, Rat.den_mkRat, if_neg (Nat.ne_of_gt hp), if_neg (Nat.ne_of_gt hp), Nat.gcd_comm p.2, c]
  exact ⟨Int.ediv_one _, Nat.div_one _⟩
theorem ql_le {p q : Int × Nat} (h : Fr p) (k : Fr q) : ql p ≤ ql q ↔ p.1 * (q.2 : Int) ≤ q.1 * (p.2 : Int) := by
  rw [Rat.le_iff, (ql_nd h).1, (ql_nd h).2, (ql_nd k).1, (ql_nd k).2]
theorem ql_lt {p q : Int × Nat} (h : Fr p) (k : Fr q) : ql p < ql q ↔ p.1 * (q.2 : Int) < q.1 * (p.2 : Int) := by
  rw [Rat.lt_iff, (ql_nd h).1, (ql_nd h).2, (ql_nd k).1, (ql_nd k).2]
theorem ql_nonneg {p : Int × Nat} (h : Fr p) : 0 ≤ ql p ↔ 0 ≤ p.1 := by
  rw [← ql_zero, ql_le Fr.zero h]
  show 0 * (p.2 : Int) ≤ p.1 * 1 ↔ _
  omega
/-- what a thing is as a fraction -/
def frD : PyData → Int × Nat
  | .tuple [.int t, .int b] => (t, b.toNat)
  | _ => (0, 1)
theorem frD_fdat (p : Int × Nat) : frD (fdat p) = p := rfl
theorem thAll_f2 {K : PySem.W.Frag} {H : Hp} : ∀ {xs : List V} {ds : List PyData}, ThAll K H xs ds → F2 (Th K H) xs ds
  | _, _, .nil => .nil
  | _, _, .cons t al => .cons t (thAll_f2 al)
end B
namespace B
open PySem PySem.Spec PyProof.Rows L2
end B
namespace B
open PySem PySem.Spec PyProof.Rows L2
end B
namespace B
open PySem PySem.Spec PyProof.Rows L2
section
variable {cs : List Nat} {wl : List (List Bool)} {bds : List Bd} {ss : List (Int × Nat)} {pr own : Int × Nat} {ts : List Tm} {bits : List (Int × Nat)}
end
section
variable {cs : List Nat} {wl : List (List Bool)} {bds : List Bd} {ss : List (Int × Nat)} {pr own : Int × Nat} {ts : List Tm} {bits : List (Int × Nat)}
end
end B
namespace B
open PySem PySem.Spec PyProof.Rows L2
def tMid (t u : TS) : TS := fun D σ H => ∃ Mid : L2.St → Hp → Prop, t { D with nx := Mid } σ H ∧ ∀ σ' H', Mid σ' H' → u D σ' H'
theorem pss_mid {X : Cx} {st : Stmt} {rest : List Stmt} {t u : TS} (h1 : PS X st t) (h2 : PSs X rest u) : PSs X (st :: rest) (tMid t u) := by
  refine ⟨fun pins s σ H D I h => ?_⟩
  obtain ⟨Mid, hm, hu⟩ := h
  refine wpAny_execs_cons (thn (h1.run pins s σ H { D with nx := Mid } I hm) fun f s1 q => ?_)
  cases f with
  | next =>
    obtain ⟨σ', H', I', q⟩ := q
    exact h2.run pins s1 σ' H' D I' (hu σ' H' q)
  | ret v => exact q
  | brk => exact q
  | cont => exact q
theorem F2.set {α β : Type} {R : α → β → Prop} {as : List α} {bs : List β} (h : F2 R as bs) : ∀ {i : Nat} {a : α} {b : β}, R a b → F2 R (as.set i a) (bs.set i b) := by
  induction h with
  | nil => exact fun _ => .nil
  | cons r _ ih =>
    intro i a b hr
    cases i with
    | zero => exact .cons hr ‹_›
    | succ i => exact .cons r (ih hr)
end B
namespace B
open PySem PySem.Spec PyProof.Rows L2
end B
namespace B
open PySem PySem.Spec PyProof.Rows L2
theorem ht_want (h : Nat) (w : Wd) (r : List Wd) : ht h (w :: r) = if h < wantN w then none else ht (h + 1 - wantN w) r := by
  cases w with
  | lt c => rw [if_neg (by show ¬ h < 0; omega)]; rfl
  | yes => rw [if_neg (by show ¬ h < 0; omega)]; rfl
  | no => rw [if_neg (by show ¬ h < 0; omega)]; rfl
  | nt =>
    cases h with
    | zero => rfl
    | succ n => rw [if_neg (by show ¬ n + 1 < 1; omega)]; rfl
  | an =>
    match h with
    | 0 => rfl
    | 1 => rfl
    | n + 2 => rw [if_neg (by show ¬ n + 2 < 2; omega)]; rfl
  | orr =>
    match h with
    | 0 => rfl
    | 1 => rfl
    | n + 2 => rw [if_neg (by show ¬ n + 2 < 2; omega)]; rfl
  | sm =>
    match h with
    | 0 => rfl
    | 1 => rfl
    | n + 2 => rw [if_neg (by show ¬ n + 2 < 2; omega)]; rfl
theorem inV_str {x : Str} {l : List Str} (h : inV (.str x) (l.map V.str) = true) : x ∈ l := by
  unfold inV at h
  rw [List.any_map, List.any_eq_true] at h
  obtain ⟨y, hy, e⟩ := h
  have e : (y == x) = true := e
  rw [← eq_of_beq e]
  exact hy
theorem want_word {cs : List Nat} {d : PyData} {m : Nat} (h : wantD cs d = some m) : ∃ w : Wd, d = .str w.s ∧ wantN w = m ∧ ∀ c, w = .lt c → c ∈ cs := by
  cases d with
  | str x =>
    have h : wantS cs x = some m := h
    unfold wantS at h
    split at h
    · rename_i e
      have k := inV_str (x := x) (l := ["and", "or", "same"]) e
      cases h
      simp only [List.mem_cons, List.not_mem_nil, or_false] at k
      rcases k with rfl | rfl | rfl
      · exact ⟨.an, rfl, rfl, fun c z => nomatch z⟩
      · exact ⟨.orr, rfl, rfl, fun c z => nomatch z⟩
      · exact ⟨.sm, rfl, rfl, fun c z => nomatch z⟩
    · split at h
      · rename_i e
        cases h
        have e := V.str.inj (of_decide_eq_true e)
        subst e
        exact ⟨.nt, rfl, rfl, fun c z => nomatch z⟩
      · split at h
        · rename_i e
          have k := inV_str (x := x) (l := ["yes", "no"]) e
          cases h
          simp only [List.mem_cons, List.not_mem_nil, or_false] at k
          rcases k with rfl | rfl
          · exact ⟨.yes, rfl, rfl, fun c z => nomatch z⟩
          · exact ⟨.no, rfl, rfl, fun c z => nomatch z⟩
        · split at h
          · rename_i e
            cases h
            obtain ⟨⟨l⟩⟩ := x
            have h1 : l.length = 1 := e.1
            match l, h1 with
            | [c], _ => exact ⟨.lt c, rfl, rfl, fun c' z => by cases z; exact e.2⟩
          · cases h
  | _ => cases h
theorem goS_words {cs : List Nat} : ∀ (ds : List PyData) (h k : Nat), goS cs h ds = some k → ∃ ws : List Wd, ds = ws.map (fun w => .str w.s) ∧ ht h ws = some k ∧ ∀ c, Wd.lt c ∈ ws → c ∈ cs
  | [], h, k, e => ⟨[], rfl, e, fun c z => nomatch z⟩
  | d :: r, h, k, e => by
    have e : (match wantD cs d with | none => none | some m => if h < m then none else goS cs (h + 1 - m) r) = some k := e
    cases hw : wantD cs d with
    | none => rw [hw] at e; cases e
    | some m =>
      rw [hw] at e
      have e : (if h < m then none else goS cs (h + 1 - m) r) = some k := e
      obtain ⟨w, rfl, rfl, hc⟩ := want_word hw
      split at e
      · cases e
      · rename_i hm
        obtain ⟨ws, rfl, h1, h2⟩ := goS_words r _ k e
        refine ⟨w :: ws, rfl, by rw [ht_want, if_neg hm]; exact h1, fun c z => ?_⟩
        rcases List.mem_cons.mp z with z | z
        · exact hc c z.symm
        · exact h2 c z
theorem isSay_iff {cs : List Nat} {d : PyData} : isSay cs d = true ↔ ∃ ws, d = wdat ws ∧ Sy cs ws ∧ ws.length ≤ 40 := by
  constructor
  · intro h
    cases d with
    | tuple ds =>
      have h : (decide (1 ≤ ds.length) && decide (ds.length ≤ 40) && decide (goS cs 0 ds = some 1)) = true := h
      rw [Bool.and_eq_true, Bool.and_eq_true, decide_eq_true_eq, decide_eq_true_eq, decide_eq_true_eq] at h
      obtain ⟨ws, rfl, h1, h2⟩ := goS_words ds 0 1 h.2
      rw [List.length_map] at h
      exact ⟨ws, rfl, ⟨h1, h2⟩, h.1.2⟩
    | _ => exact nomatch (show false = true from h)
  · rintro ⟨ws, rfl, y, l⟩
    exact isSay_wd y l
/-- the words of a text of words -/
def wdS (x : Str) : Wd := if x = "yes" then .yes else if x = "no" then .no else if x = "not" then .nt else if x = "and" then .an else if x = "or" then .orr else if x = "same" then .sm else .lt (x.cps.toList.headD 0)
theorem wdS_s (w : Wd) : wdS w.s = w := by
  cases w with
  | lt c =>
    have n : ∀ {y : Str}, y.cps.size ≠ 1 → (Wd.lt c).s ≠ y := fun h => sg_ne h
    unfold wdS
    rw [if_neg (n (by decide +kernel)), if_neg (n (by decide +kernel)), if_neg (n (by decide +kernel)), if_neg (n (by decide +kernel)), if_neg (n (by decide +kernel)), if_neg (n (by decide +kernel))]
    rfl
  | _ => decide +kernel
def wdsD : PyData → List Wd
  | .tuple ds => ds.map fun d => match d with | .str x => wdS x | _ => .no
  | _ => []
theorem wdsD_wdat (ws : List Wd) : wdsD (wdat ws) = ws := by
  show (ws.map fun w => PyData.str w.s).map _ = ws
  rw [List.map_map]
  exact List.map_id'' (fun w => wdS_s w) ws
def isTm (cs : List Nat) : PyData → Bool
  | .tuple [a, b] => isFr a && isSay cs b
  | _ => false
def isBtD (cs : List Nat) : PyData → Bool
  | .tuple [.tuple ds, g] => decide (ds.length ≤ 8) && (isSay cs g && ds.all (isTm cs))
  | _ => false
def mayD (cs : List Nat) (rs : List (List Wd)) : PyData → Bool
  | .tuple [_, g] => (wor cs rs).any fun bs => sval (vl cs bs) (wdsD g)
  | _ => false
mutual
/-- rows and texts within bounds -/
def szD : PyData → Bool
  | .str x => decide (x.length ≤ 10000)
  | .list ds => decide (ds.length ≤ 1000) && szDs ds
  | .tuple ds => decide (ds.length ≤ 1000) && szDs ds
  | _ => true
def szDs : List PyData → Bool
  | [] => true
  | d :: r => szD d && szDs r
end
theorem szDs_mem : ∀ {ds : List PyData}, szDs ds = true → ∀ d ∈ ds, szD d = true
  | [], _, d, hd => nomatch hd
  | x :: r, h, d, hd => by
    have h : (szD x && szDs r) = true := h
    rw [Bool.and_eq_true] at h
    rcases List.mem_cons.mp hd with rfl | hd
    · exact h.1
    · exact szDs_mem h.2 d hd
theorem szD_tup {ds : List PyData} (h : szD (.tuple ds) = true) : ds.length ≤ 1000 ∧ ∀ d ∈ ds, szD d = true := by
  have h : (decide (ds.length ≤ 1000) && szDs ds) = true := h
  rw [Bool.and_eq_true, decide_eq_true_eq] at h
  exact ⟨h.1, szDs_mem h.2⟩
theorem szD_say {d : PyData} (h : szD d = true) : ∀ ds, d = .tuple ds → ds.length ≤ 1000 ∧ ∀ x, PyData.str x ∈ ds → x.length ≤ 10000 := fun ds e => by
  subst e
  obtain ⟨h1, h2⟩ := szD_tup h
  exact ⟨h1, fun x hx => of_decide_eq_true (h2 _ hx)⟩
theorem szDs_of {ds : List PyData} (h : ∀ d ∈ ds, szD d = true) : szDs ds = true := by
  induction ds with
  | nil => rfl
  | cons x r ih =>
    show (szD x && szDs r) = true
    rw [h x (List.mem_cons_self ..), ih fun d hd => h d (List.mem_cons_of_mem _ hd)]
    rfl
theorem szD_of {ds : List PyData} (l : ds.length ≤ 1000) (h : ∀ d ∈ ds, szD d = true) : szD (.tuple ds) = true := by
  show (decide (ds.length ≤ 1000) && szDs ds) = true
  rw [decide_eq_true l, szDs_of h]
  rfl
theorem szD_wdat {cs : List Nat} {ws : List Wd} (h : Sy cs ws) (l : ws.length ≤ 1000) : szD (wdat ws) = true := by
  refine szD_of (by rw [List.length_map]; exact l) fun d hd => ?_
  obtain ⟨w, _, rfl⟩ := List.mem_map.mp hd
  cases w with
  | lt c => exact decide_eq_true (show 1 ≤ 10000 by decide)
  | _ => decide +kernel
theorem szD_fdat (p : Int × Nat) : szD (fdat p) = true := rfl
theorem szD_bdat {cs : List Nat} {ts : List Tm} {g : List Wd} (ht : ∀ x ∈ ts, Sy cs x.w ∧ x.w.length ≤ 1000) (hl : ts.length ≤ 1000) (hg : Sy cs g) (lg : g.length ≤ 1000) : szD (bdat ts g) = true := by
  refine szD_of (by show 2 ≤ 1000; decide) fun d hd => ?_
  simp only [List.mem_cons, List.not_mem_nil, or_false] at hd
  rcases hd with rfl | rfl
  · refine szD_of (by rw [List.length_map]; exact hl) fun d hd => ?_
    obtain ⟨x, hx, rfl⟩ := List.mem_map.mp hd
    refine szD_of (by show 2 ≤ 1000; decide) fun d hd => ?_
    simp only [List.mem_cons, List.not_mem_nil, or_false] at hd
    rcases hd with rfl | rfl
    · exact szD_fdat _
    · exact szD_wdat (ht x hx).1 (ht x hx).2
  · exact szD_wdat hg lg
/-- right ones are let by -/
theorem isTm_ok {cs : List Nat} {x : Tm} (f : Fr x.a) (y : Sy cs x.w) (l : x.w.length ≤ 40) : isTm cs (tdat x) = true := by
  show (isFr (fdat x.a) && isSay cs (wdat x.w)) = true
  rw [isFr_iff.mpr ⟨x.a, f, rfl⟩, isSay_wd y l]
  rfl
theorem isBtD_ok {cs : List Nat} {ts : List Tm} {g : List Wd} (ht : ∀ x ∈ ts, Fr x.a ∧ Sy cs x.w ∧ x.w.length ≤ 40) (hl : ts.length ≤ 8) (yg : Sy cs g) (lg : g.length ≤ 40) : isBtD cs (bdat ts g) = true := by
  show (decide ((ts.map tdat).length ≤ 8) && (isSay cs (wdat g) && (ts.map tdat).all (isTm cs))) = true
  have : (ts.map tdat).all (isTm cs) = true := List.all_eq_true.mpr fun d hd => by
    obtain ⟨x, hx, rfl⟩ := List.mem_map.mp hd
    exact isTm_ok (ht x hx).1 (ht x hx).2.1 (ht x hx).2.2
  rw [List.length_map, decide_eq_true hl, isSay_wd yg lg, this]
  rfl
end B
namespace B
open PySem PySem.Spec PyProof.Rows L2
def kD : Key → PyData
  | .inl i => .int i
  | .inr x => .str x
mutual
inductive Dq (K : PySem.W.Frag) (H : Hp) : V → PyData → Prop
  | non : Dq K H .non .none
  | bl (b : Bool) : Dq K H (.bl b) (.bool b)
  | int (i : Int) : Dq K H (.int i) (.int i)
  | str (x : Str) : Dq K H (.str x) (.str x)
  | lst {a : Addr} {xs : List V} {ds : List PyData} : SqL K H a xs → DqAll K H xs ds → Dq K H (.ref a) (.list ds)
  | tup {a : Addr} {xs : List V} {ds : List PyData} : SqT K H a xs → DqAll K H xs ds → Dq K H (.ref a) (.tuple ds)
  | dic {a : Addr} {kvs : List (Key × V)} {xs : List V} {l : List (PyData × PyData)} : H a = some (.dK kvs) → kvs.map (·.2) = xs → l.map (·.1) = kvs.map (fun p => kD p.1) → DqAll K H xs (l.map (·.2)) → Dq K H (.ref a) (.dict l)
inductive DqAll (K : PySem.W.Frag) (H : Hp) : List V → List PyData → Prop
  | nil : DqAll K H [] []
  | cons {v : V} {vs : List V} {d : PyData} {ds : List PyData} : Dq K H v d → DqAll K H vs ds → DqAll K H (v :: vs) (d :: ds)
end
mutual
theorem dq_dp {K : PySem.W.Frag} {H : Hp} : ∀ {v : V} {d : PyData}, Dp K H v d → Dq K H v d
  | _, _, .non => .non
  | _, _, .bl b => .bl b
  | _, _, .int i => .int i
  | _, _, .str x => .str x
  | _, _, .lst a b => .lst a (dqAll_dp b)
  | _, _, .tup a b => .tup a (dqAll_dp b)
theorem dqAll_dp {K : PySem.W.Frag} {H : Hp} : ∀ {vs : List V} {ds : List PyData}, DpAll K H vs ds → DqAll K H vs ds
  | _, _, .nil => .nil
  | _, _, .cons a b => .cons (dq_dp a) (dqAll_dp b)
end
mutual
theorem dq_th {K : PySem.W.Frag} {H : Hp} : ∀ {v : V} {d : PyData}, Dq K H v d → Th K H v d
  | _, _, .non => .non
  | _, _, .bl b => .bl b
  | _, _, .int i => .int i
  | _, _, .str x => .str x
  | _, _, .lst a b => .lst a (dqAll_th b)
  | _, _, .tup a b => .tup a (dqAll_th b)
  | _, _, .dic a _ _ _ => .dic (.base (.dK a))
theorem dqAll_th {K : PySem.W.Frag} {H : Hp} : ∀ {vs : List V} {ds : List PyData}, DqAll K H vs ds → ThAll K H vs ds
  | _, _, .nil => .nil
  | _, _, .cons a b => .cons (dq_th a) (dqAll_th b)
end
mutual
theorem dq_same {K : PySem.W.Frag} {H H' : Hp} (s : Same H H') : ∀ {v : V} {d : PyData}, Dq K H v d → Dq K H' v d
  | _, _, .non => .non
  | _, _, .bl b => .bl b
  | _, _, .int i => .int i
  | _, _, .str x => .str x
  | _, _, .lst a b => .lst (Same.sql s a) (dqAll_same s b)
  | _, _, .tup a b => .tup (Same.tup s a) (dqAll_same s b)
  | _, _, .dic a e f b => .dic (s _ _ a) e f (dqAll_same s b)
theorem dqAll_same {K : PySem.W.Frag} {H H' : Hp} (s : Same H H') : ∀ {vs : List V} {ds : List PyData}, DqAll K H vs ds → DqAll K H' vs ds
  | _, _, .nil => .nil
  | _, _, .cons a b => .cons (dq_same s a) (dqAll_same s b)
end
section
variable {X : Cx} {pins : List (Addr × Obj)} {σ : L2.St} {H : Hp} {s : Shared}
end
section
variable {X : Cx}
end
end B
namespace B
open PySem PySem.Spec PyProof.Rows L2
end B
namespace B
open PySem PySem.Spec PyProof.Rows L2
theorem fas_dq {K : PySem.W.Frag} {H : Hp} : ∀ {xs : List V} {l : List (Int × Nat)}, F2 (FAt K H) xs l → DqAll K H xs (l.map fdat)
  | _, _, .nil => .nil
  | _, _, .cons ⟨a, e, t⟩ r => by
    subst e
    exact .cons (.tup t (.cons (.int _) (.cons (.int _) .nil))) (fas_dq r)
theorem DqAll.len {K : PySem.W.Frag} {H : Hp} : ∀ {xs : List V} {ds : List PyData}, DqAll K H xs ds → xs.length = ds.length
  | _, _, .nil => rfl
  | _, _, .cons _ b => by rw [List.length_cons, List.length_cons, DqAll.len b]
end B
namespace B
open PySem PySem.Spec PyProof.Rows L2
theorem dq2 {K : PySem.W.Frag} {H : Hp} {p : Addr} {t b : Int} (h : SqT K H p [.int t, .int b]) : Dq K H (.ref p) (.tuple [.int t, .int b]) := .tup h (.cons (.int t) (.cons (.int b) .nil))
theorem ixn {n j : Nat} (h : j < n) : ixN n (j : Int) = some j := by
  unfold ixN
  rw [if_pos (by omega), if_pos (by omega)]
  simp
end B
namespace B
open PySem PySem.Spec PyProof.Rows L2
end B
namespace B
open PySem PySem.Spec PyProof.Rows L2
def offD (d : Dr) (H : Hp) : Hp := fun b => if b = d.dr ∨ b = d.rs then none else H b
structure Off (d : Dr) (G H : Hp) : Prop where
  s : Same G H
  a : G d.dr = none
  b : G d.rs = none
theorem Off.start (d : Dr) (H : Hp) : Off d (offD d H) H := by
  refine ⟨fun b o e => ?_, if_pos (.inl rfl), if_pos (.inr rfl)⟩
  unfold offD at e
  by_cases h : b = d.dr ∨ b = d.rs
  · rw [if_pos h] at e
    exact nomatch e
  · rw [if_neg h] at e
    exact e
theorem kp_off (d : Dr) (H : Hp) : Kp d H (offD d H) := fun b o e h1 h2 => by
  unfold offD
  rw [if_neg (fun z => z.elim h1 h2)]
  exact e
end B
namespace B
open PySem PySem.Spec PyProof.Rows L2
theorem bds_dq {K : PySem.W.Frag} {H : Hp} : ∀ {vs : List V} {l : List Bd}, F2 (BdAt K H) vs l → DqAll K H vs (l.map kdat)
  | _, _, .nil => .nil
  | _, _, .cons h r => .cons (dq_dp h.dp) (bds_dq r)
end B
namespace B
open PySem PySem.Spec PyProof.Rows L2
theorem offD_same {d : Dr} {H H' : Hp} (s : Same H H') : Same (offD d H) (offD d H') := fun b o e => by
  unfold offD at e ⊢
  by_cases h : b = d.dr ∨ b = d.rs
  · rw [if_pos h] at e
    exact nomatch e
  · rw [if_neg h] at e ⊢
    exact s b o e
theorem offD_kp {d : Dr} {H H' : Hp} (k : Kp d H H') : Same (offD d H) (offD d H') := fun b o e => by
  unfold offD at e ⊢
  by_cases h : b = d.dr ∨ b = d.rs
  · rw [if_pos h] at e
    exact nomatch e
  · rw [if_neg h] at e ⊢
    exact k b o e (fun z => h (.inl z)) (fun z => h (.inr z))
theorem offD_to {d : Dr} {H : Hp} : Same (offD d H) H := (Off.start d H).s
theorem off_at {d : Dr} {H : Hp} {b : Nat} {p : Addr} {o : HO} (w : Drw H d b) (n : H p = none) : offD d (upd H p o) p = some o := by
  obtain ⟨n1, n2⟩ := w.no n
  unfold offD
  rw [if_neg (fun z => z.elim n1 n2)]
  exact upd_same
theorem off_tup {K : PySem.W.Frag} {d : Dr} {H : Hp} {b : Nat} {p : Addr} {xs : List V} (w : Drw H d b) (t : SqT K H p xs) : SqT K (offD d H) p xs := Kp.tup (kp_off d H) w t
end B
namespace B
open PySem PySem.Spec PyProof.Rows L2
end B
namespace B
open PySem PySem.Spec PyProof.Rows L2
def rEqL0 (K : PySem.W.Frag) : R2 := fun x y H Q => ∃ a b xs, x = .ref a ∧ y = .ref b ∧ SqL K H a xs ∧ SqL K H b [] ∧ Q (.bl xs.isEmpty) H
theorem op_eqL0 {X : Cx} (hu : X.A.units + 64 < cLine) : OpR X (compareOp .Eq) (rEqL0 X.K) := by
  intro pins s σ H x y v u Q I rx ry h
  obtain ⟨a, b, xs, rfl, rfl, ha, hb, q⟩ := h
  cases xs with
  | nil =>
    exact op_eqD hu pins s σ H (.ref a) (.ref b) v u Q I rx ry ⟨.list [], .list [], .lst ha .nil, .lst hb .nil, rfl, rfl, q⟩
  | cons x xs =>
    obtain rfl : v = Value.ref a := rx
    obtain rfl : u = Value.ref b := ry
    obtain ⟨its, rv, hA, _⟩ := I.list ha
    obtain ⟨its2, rv2, hB, _⟩ := I.list hb
    have e1 := rv.length
    have e2 := rv2.length
    obtain ⟨⟨cls, dd, data, sl⟩, n, ho, hc, _, hd⟩ := hA
    obtain ⟨⟨cls2, dd2, data2, sl2⟩, n2, ho2, hc2, _, hd2⟩ := hB
    simp only at hc hd hc2 hd2
    subst hc hd hc2 hd2
    have ta : s.TypeIs (.ref a) "list" := ⟨_, ho, rfl⟩
    have tb : s.TypeIs (.ref b) "list" := ⟨_, ho2, rfl⟩
    have ne : (its.toArray.size != its2.toArray.size) = true := by
      simp only [List.size_toArray, ← e1, ← e2, List.length_cons, List.length_nil]
      rfl
    show wpAny (model X.prog X.w) X.A (richCompare .Eq (.ref a) (.ref b)) _ _ s
    exact wpAny_richCompare_same_room (op := .Eq) ta tb F.slot_list_eq (call_meets F.slot_list_eq ta F.entry_list_eq (F.args_list_eq_2 _ _) (PySem.SeqAt.list_eq_lengthsAt a b its.toArray its2.toArray n n2 dd dd2 sl sl2 ne)
      ⟨ho, ho2, show Value.bool false ≠ Value.notImplemented ∧ _ from ⟨(fun x => nomatch x), ⟨.bl false, H, I, rfl, q⟩⟩⟩) (by omega)
end B
namespace B
open PySem PySem.Spec PyProof.Rows L2
end B
namespace B
open PySem PySem.Spec PyProof.Rows L2
def gone (cs : List Nat) : List Nat := (List.range' 97 26).filter fun c => !decide (c ∈ cs)
end B
namespace B
open PySem PySem.Spec PyProof.Rows L2
end B
namespace B
open PySem PySem.Spec PyProof.Rows L2
end B
namespace B
open PySem PySem.Spec PyProof.Rows L2
end B
namespace B
open PySem PySem.Spec PyProof.Rows L2
end B
namespace B
open PySem PySem.Spec PyProof.Rows L2
theorem dqAll_f2 {K : PySem.W.Frag} {H : Hp} : ∀ {vs : List V} {ds : List PyData}, DqAll K H vs ds → F2 (Dq K H) vs ds
  | _, _, .nil => .nil
  | _, _, .cons a b => .cons a (dqAll_f2 b)
def rNeL0 (K : PySem.W.Frag) : R2 := fun x y H Q => ∃ a b xs, x = .ref a ∧ y = .ref b ∧ SqL K H a xs ∧ SqL K H b [] ∧ Q (.bl !xs.isEmpty) H
theorem op_neL0 {X : Cx} (hu : X.A.units + 64 < cLine) : OpR X (compareOp .NotEq) (rNeL0 X.K) := by
  intro pins s σ H x y v u Q I rx ry h
  obtain ⟨a, b, xs, rfl, rfl, ha, hb, q⟩ := h
  cases xs with
  | nil => exact op_neD hu pins s σ H (.ref a) (.ref b) v u Q I rx ry ⟨.list [], .list [], .lst ha .nil, .lst hb .nil, rfl, rfl, q⟩
  | cons x xs =>
    obtain rfl : v = Value.ref a := rx
    obtain rfl : u = Value.ref b := ry
    obtain ⟨its, rv, hA, _⟩ := I.list ha
    obtain ⟨its2, rv2, hB, _⟩ := I.list hb
    have e1 := rv.length
    have e2 := rv2.length
    obtain ⟨⟨cls, dd, data, sl⟩, n, ho, hc, _, hd⟩ := hA
    obtain ⟨⟨cls2, dd2, data2, sl2⟩, n2, ho2, hc2, _, hd2⟩ := hB
    simp only at hc hd hc2 hd2
    subst hc hd hc2 hd2
    have ta : s.TypeIs (.ref a) "list" := ⟨_, ho, rfl⟩
    have tb : s.TypeIs (.ref b) "list" := ⟨_, ho2, rfl⟩
    have ne : (its.toArray.size != its2.toArray.size) = true := by
      simp only [List.size_toArray, ← e1, ← e2, List.length_cons, List.length_nil]
      rfl
    show wpAny (model X.prog X.w) X.A (richCompare .NotEq (.ref a) (.ref b)) _ _ s
    exact wpAny_richCompare_same_room (op := .NotEq) ta tb F.slot_list_ne (call_meets F.slot_list_ne ta F.entry_list_ne (F.args_list_ne_2 _ _) (PySem.SeqAt.list_ne_lengthsAt a b its.toArray its2.toArray n n2 dd dd2 sl sl2 ne)
      ⟨ho, ho2, show Value.bool true ≠ Value.notImplemented ∧ _ from ⟨(fun x => nomatch x), ⟨.bl true, H, I, rfl, q⟩⟩⟩) (by omega)
end B
namespace B
open PySem PySem.Spec PyProof.Rows L2
end B
namespace B
open PySem PySem.Spec PyProof.Rows L2
end B
namespace B
open PySem PySem.Spec PyProof.Rows L2
end B
namespace B
open PySem PySem.Spec PyProof.Rows L2
end B
namespace B
open PySem PySem.Spec PyProof.Rows L2
end B
namespace B
open PySem PySem.Spec PyProof.Rows L2
theorem f2_rep {α β : Type} {R : α → β → Prop} {a : α} {b : β} (h : R a b) : ∀ {n : Nat}, F2 R (List.replicate n a) (List.replicate n b)
  | 0 => .nil
  | _ + 1 => .cons h (f2_rep h)
end B
namespace B
open PySem PySem.Spec PyProof.Rows L2
/-- a number from 0 below m -/
def isPl (m : Int) : PyData → Bool
  | .int i => decide (0 ≤ i) && decide (i < m)
  | _ => false
def isTwo (m : Int) : PyData → PyData → Bool
  | .int i, .int j => isPl m (.int i) && (isPl m (.int j) && decide (i ≠ j))
  | _, _ => false
def isAb (d : PyData) : Bool := isFr d && decide (0 < (frD d).1)
def livD (cs : List Nat) (rs : List (List Wd)) (d : PyData) : Bool := isBtD cs d && mayD cs rs d
structure Tkt where
  n : Nat
  l : Nat
  s : Nat
  b : Bd
  k : Int × Nat
/-- a ticket stands at v -/
def TkAt (K : PySem.W.Frag) (H : Hp) (v : V) (t : Tkt) : Prop := ∃ q a p k : Addr, v = .ref q ∧ SqT K H q [.int t.n, .int t.l, .int t.s, .ref a, .ref p, .ref k] ∧ BtAt K H a t.b.ts t.b.g ∧ SqT K H p [.int t.b.p.1, .int t.b.p.2] ∧ SqT K H k [.int t.k.1, .int t.k.2]
theorem TkAt.mono {K : PySem.W.Frag} {H H' : Hp} {v : V} {t : Tkt} (k : Tk K H H') (h : TkAt K H v t) : TkAt K H' v t := by
  obtain ⟨q, a, p, c, e, t1, t2, t3, t4⟩ := h
  exact ⟨q, a, p, c, e, k _ _ t1, t2.mono k, k _ _ t3, k _ _ t4⟩
theorem tks_tk {K : PySem.W.Frag} {H H' : Hp} {vs : List V} {ts : List Tkt} (h : F2 (TkAt K H) vs ts) (k : Tk K H H') : F2 (TkAt K H') vs ts := h.imp fun _ _ q => q.mono k
/-- what a ticket brings its long -/
def brF (v : Nat → Bool) (t : Tkt) : Int × Nat := match payO v t.b.ts t.b.g with
  | none => (0, 1)
  | some p => mulF t.k (subF p t.b.p)
structure TkOk (cs : List Nat) (t : Tkt) : Prop where
  b : BdOk cs 300 300 t.b
  k : Fok 6000 t.k
theorem TkOk.br {cs : List Nat} {t : Tkt} (h : TkOk cs t) (v : Nat → Bool) : Fok 7000 (brF v t) := by
  unfold brF
  cases e : payO v t.b.ts t.b.g with
  | none => exact Fok.zero (by decide)
  | some p =>
    have pk : Fok 300 p := by rw [payO_some e]; exact h.b.pz _
    exact (h.k.mul (pk.sub h.b.pp)).up (by decide)
/-- one ticket more -/
def wStep (v : Nat → Bool) (l : List (Int × Nat)) (t : Tkt) : List (Int × Nat) :=
  let a := l.set t.l (addF (l.getD t.l (0, 1)) (brF v t))
  a.set t.s (addF (a.getD t.s (0, 1)) (negF (brF v t)))
/-- what all holders have -/
def worthsF (v : Nat → Bool) (ps : List (Int × Nat)) (tks : List Tkt) : List (Int × Nat) := tks.foldl (wStep v) ps
theorem wStep_len (v : Nat → Bool) (l : List (Int × Nat)) (t : Tkt) : (wStep v l t).length = l.length := by
  unfold wStep
  rw [List.length_set, List.length_set]
theorem worthsF_snoc (v : Nat → Bool) (ps : List (Int × Nat)) (tks : List Tkt) (t : Tkt) : worthsF v ps (tks ++ [t]) = wStep v (worthsF v ps tks) t := by
  unfold worthsF
  rw [List.foldl_append]
  rfl
theorem worthsF_len (v : Nat → Bool) (ps : List (Int × Nat)) (tks : List Tkt) : (worthsF v ps tks).length = ps.length := by
  refine snoc_ind (P := fun tks => (worthsF v ps tks).length = ps.length) rfl (fun l x ih => ?_) tks
  rw [worthsF_snoc, wStep_len, ih]
theorem worthsF_take (v : Nat → Bool) (ps : List (Int × Nat)) {tks : List Tkt} {i : Nat} {t : Tkt} (h : tks[i]? = some t) : worthsF v ps (tks.take (i + 1)) = wStep v (worthsF v ps (tks.take i)) t := by
  rw [take_one tks i t h, worthsF_snoc]
/-- tickets and purses that add up without growing great -/
structure WzOk (D M : Nat) (v : Nat → Bool) (ps : List (Int × Nat)) (tks : List Tkt) : Prop where
  t : ∀ t ∈ tks, Fb D M (brF v t)
  p : ∀ p ∈ ps, Fb D M p
  d0 : 0 < D
  d : D < 2 ^ 1000
  m : (2 * tks.length + 1) * M ≤ 2 ^ 1000
theorem mem_set_or {l : List (Int × Nat)} {i : Nat} {a x : Int × Nat} (h : x ∈ l.set i a) : x ∈ l ∨ x = a := List.mem_or_eq_of_mem_set h
theorem getD_mem {l : List (Int × Nat)} {i : Nat} {P : Int × Nat → Prop} (h : ∀ x ∈ l, P x) (h0 : P (0, 1)) : P (l.getD i (0, 1)) := by
  rw [List.getD_eq_getElem?_getD]
  cases e : l[i]? with
  | none => exact h0
  | some x => exact h x (List.mem_of_getElem? e)
theorem wStep_fb {D M N : Nat} {v : Nat → Bool} {l : List (Int × Nat)} {t : Tkt} (d0 : 0 < D) (hl : ∀ x ∈ l, Fb D N x) (ht : Fb D M (brF v t)) : (∀ x ∈ l.set t.l (addF (l.getD t.l (0, 1)) (brF v t)), Fb D (N + M) x) ∧ ∀ x ∈ wStep v l t, Fb D (N + 2 * M) x := by
  have h1 : ∀ x ∈ l.set t.l (addF (l.getD t.l (0, 1)) (brF v t)), Fb D (N + M) x := fun x hx => by
    rcases mem_set_or hx with z | z
    · exact (hl x z).up (Nat.dvd_refl _) (by omega)
    · rw [z]
      exact (getD_mem (P := Fb D N) hl Fb.zero).add ht d0
  refine ⟨h1, fun x hx => ?_⟩
  rcases mem_set_or (show x ∈ (l.set t.l (addF (l.getD t.l (0, 1)) (brF v t))).set t.s _ from hx) with z | z
  · exact (h1 x z).up (Nat.dvd_refl _) (by omega)
  · rw [z]
    exact ((getD_mem (P := Fb D (N + M)) h1 Fb.zero).add ht.neg d0).up (Nat.dvd_refl _) (by omega)
theorem worths_fb {D M : Nat} {v : Nat → Bool} {ps : List (Int × Nat)} (d0 : 0 < D) (hp : ∀ p ∈ ps, Fb D M p) (tks : List Tkt) : (∀ t ∈ tks, Fb D M (brF v t)) → ∀ x ∈ worthsF v ps tks, Fb D ((2 * tks.length + 1) * M) x := by
  refine snoc_ind (P := fun tks => (∀ t ∈ tks, Fb D M (brF v t)) → ∀ x ∈ worthsF v ps tks, Fb D ((2 * tks.length + 1) * M) x) (fun _ x hx => (hp x hx).up (Nat.dvd_refl _) (by show M ≤ (2 * 0 + 1) * M; omega)) (fun l t ih h x hx => ?_) tks
  rw [worthsF_snoc] at hx
  refine ((wStep_fb d0 (ih fun y hy => h y (List.mem_append_left _ hy)) (h t (by simp))).2 x hx).up (Nat.dvd_refl _) ?_
  rw [List.length_append, List.length_singleton]
  generalize l.length = n
  have : (2 * (n + 1) + 1) * M = (2 * n + 1) * M + 2 * M := by rw [show 2 * (n + 1) + 1 = (2 * n + 1) + 2 by omega, Nat.add_mul]
  omega
theorem WzOk.take {D M : Nat} {v : Nat → Bool} {ps : List (Int × Nat)} {tks : List Tkt} (h : WzOk D M v ps tks) (i : Nat) : WzOk D M v ps (tks.take i) := ⟨fun t ht => h.t t (List.mem_of_mem_take ht), h.p, h.d0, h.d, Nat.le_trans (Nat.mul_le_mul_right _ (by rw [List.length_take]; omega)) h.m⟩
theorem WzOk.fok {D M : Nat} {v : Nat → Bool} {ps : List (Int × Nat)} {tks : List Tkt} (h : WzOk D M v ps tks) : ∀ x ∈ worthsF v ps tks, Fok 2000 x := fun x hx => (worths_fb h.d0 h.p tks h.t x hx).fok (a := 1000) (c := 1000) h.d0 h.d h.m
/-- in the middle of one ticket -/
theorem WzOk.mid {D M : Nat} {v : Nat → Bool} {ps : List (Int × Nat)} {tks : List Tkt} {i : Nat} {t : Tkt} (h : WzOk D M v ps tks) (ht : tks[i]? = some t) : ∀ x ∈ (worthsF v ps (tks.take i)).set t.l (addF ((worthsF v ps (tks.take i)).getD t.l (0, 1)) (brF v t)), Fok 2000 x := fun x hx => by
  have hm := h.t t (List.mem_of_getElem? ht)
  have hi := (List.getElem?_eq_some_iff.mp ht).1
  have := (wStep_fb (v := v) (t := t) h.d0 (worths_fb h.d0 h.p (tks.take i) fun t ht => h.t t (List.mem_of_mem_take ht)) hm).1 x hx
  refine this.fok (a := 1000) (c := 1000) h.d0 h.d (Nat.le_trans ?_ h.m)
  rw [List.length_take, Nat.min_eq_left (by omega), ← Nat.succ_mul]
  exact Nat.mul_le_mul_right _ (by omega)
/-- what one holder has -/
def oneF (v : Nat → Bool) (h : Nat) (p : Int × Nat) (tks : List Tkt) : Int × Nat := tks.foldl (fun x t => let y := if t.l = h then addF x (brF v t) else x; if t.s = h then addF y (negF (brF v t)) else y) p
theorem wStep_at (v : Nat → Bool) (l : List (Int × Nat)) (t : Tkt) (h : Nat) (hl : t.l < l.length) (hs : t.s < l.length) : (wStep v l t)[h]? = l[h]?.map fun x => (let y := if t.l = h then addF x (brF v t) else x; if t.s = h then addF y (negF (brF v t)) else y) := by
  unfold wStep
  have g1 : ∀ (a : List (Int × Nat)) (i : Nat) (y : Int × Nat), i < a.length → (a.set i y)[h]? = if i = h then some y else a[h]? := fun a i y hi => by
    rw [List.getElem?_set]
    by_cases e : i = h
    · rw [if_pos e, if_pos e, if_pos hi]
    · rw [if_neg e, if_neg e]
  rw [g1 _ _ _ (by rw [List.length_set]; exact hs), g1 _ _ _ hl]
  by_cases e2 : t.s = h
  · by_cases e1 : t.l = h
    · rw [if_pos e2, e1, e2]
      have hh : h < l.length := by omega
      rw [List.getElem?_eq_getElem hh]
      simp only [Option.map_some, if_pos, List.getD_eq_getElem?_getD, List.getElem?_eq_getElem hh, Option.getD_some, List.getElem?_set_self hh]
    · rw [if_pos e2]
      have hh : h < l.length := by omega
      have : (l.set t.l (addF (l.getD t.l (0, 1)) (brF v t))).getD t.s (0, 1) = l[h] := by
        rw [List.getD_eq_getElem?_getD, e2, g1 _ _ _ hl, if_neg e1, List.getElem?_eq_getElem hh]
        rfl
      rw [this, List.getElem?_eq_getElem hh]
      simp only [Option.map_some, if_neg e1, if_pos e2]
  · rw [if_neg e2]
    by_cases e1 : t.l = h
    · rw [if_pos e1]
      have hh : h < l.length := by omega
      rw [List.getElem?_eq_getElem hh]
      simp only [Option.map_some, if_pos e1, if_neg e2, List.getD_eq_getElem?_getD, e1, List.getElem?_eq_getElem hh, Option.getD_some, if_true]
    · rw [if_neg e1]
      cases l[h]? with
      | none => rfl
      | some x => simp only [Option.map_some, if_neg e1, if_neg e2]
theorem worths_at (v : Nat → Bool) (ps : List (Int × Nat)) (h : Nat) (tks : List Tkt) : (∀ t ∈ tks, t.l < ps.length ∧ t.s < ps.length) → (worthsF v ps tks)[h]? = ps[h]?.map fun p => oneF v h p tks := by
  refine snoc_ind (P := fun tks => (∀ t ∈ tks, t.l < ps.length ∧ t.s < ps.length) → (worthsF v ps tks)[h]? = ps[h]?.map fun p => oneF v h p tks) (fun _ => by show ps[h]? = ps[h]?.map fun p => p; cases ps[h]? <;> rfl) (fun l t ih k => ?_) tks
  have i1 := ih fun y hy => k y (List.mem_append_left _ hy)
  obtain ⟨k1, k2⟩ := k t (by simp)
  rw [worthsF_snoc, wStep_at v _ t h (by rw [worthsF_len]; exact k1) (by rw [worthsF_len]; exact k2), i1, Option.map_map]
  congr 1
  funext p
  show _ = oneF v h p (l ++ [t])
  unfold oneF
  rw [List.foldl_append]
  rfl
end B
namespace B
open PySem PySem.Spec PyProof.Rows L2
/-- a row of bids -/
def BsAt (K : PySem.W.Frag) (H : Hp) (v : V) (bds : List Bd) : Prop := ∃ (q : Addr) (vs : List V), v = .ref q ∧ SqT K H q vs ∧ F2 (BdAt K H) vs bds
theorem BsAt.mono {K : PySem.W.Frag} {H H' : Hp} {v : V} {bds : List Bd} (k : Tk K H H') (h : BsAt K H v bds) : BsAt K H' v bds := by
  obtain ⟨q, vs, e, t, f⟩ := h
  exact ⟨q, vs, e, k _ _ t, bds_tk f k⟩
structure Std where
  cs : List Nat
  rs : List (List Wd)
  ps : List (Int × Nat)
  ts : List Tkt
  bs : List (List Bd)
  m : Nat
/-- a stand stands at a -/
def StdAt (K : PySem.W.Frag) (H : Hp) (a : Addr) (S : Std) : Prop := ∃ (h p t l : Addr) (pvs tvs lvs : List V), SqT K H a [.ref h, .ref p, .ref t, .ref l, .int S.m] ∧ HsAt K H h S.cs S.rs ∧ SqT K H p pvs ∧ F2 (FAt K H) pvs S.ps ∧ SqT K H t tvs ∧ F2 (TkAt K H) tvs S.ts ∧ SqT K H l lvs ∧ F2 (BsAt K H) lvs S.bs
theorem StdAt.mono {K : PySem.W.Frag} {H H' : Hp} {a : Addr} {S : Std} (k : Tk K H H') (h : StdAt K H a S) : StdAt K H' a S := by
  obtain ⟨h, p, t, l, pvs, tvs, lvs, t1, t2, t3, t4, t5, t6, t7, t8⟩ := h
  exact ⟨h, p, t, l, pvs, tvs, lvs, k _ _ t1, t2.mono k, k _ _ t3, fas_tk t4 k, k _ _ t5, tks_tk t6 k, k _ _ t7, t8.imp fun _ _ q => q.mono k⟩
structure StdOk (D M : Nat) (S : Std) : Prop where
  h : HsOk S.cs S.rs
  p2 : 2 ≤ S.ps.length
  p6 : S.ps.length ≤ 6
  t : ∀ t ∈ S.ts, TkOk S.cs t ∧ t.l < S.ps.length ∧ t.s < S.ps.length
  z : ∀ bs ∈ wor S.cs S.rs, WzOk D M (vl S.cs bs) S.ps S.ts
  n : S.ts.length ≤ 100
/-- which is the first of the least -/
def ltF (a b : Int × Nat) : Bool := decide (a.1 * (b.2 : Int) < b.1 * (a.2 : Int))
def bestI (l : List (Int × Nat)) (n : Nat) : Nat := (List.range n).foldl (fun b i => if ltF (l.getD i (0, 1)) (l.getD b (0, 1)) then i else b) 0
theorem bestI_succ (l : List (Int × Nat)) (n : Nat) : bestI l (n + 1) = if ltF (l.getD n (0, 1)) (l.getD (bestI l n) (0, 1)) then n else bestI l n := by
  unfold bestI
  rw [List.range_succ, List.foldl_append]
  rfl
theorem bestI_le (l : List (Int × Nat)) : ∀ n, bestI l n ≤ n - 1
  | 0 => Nat.le_refl _
  | n + 1 => by
    rw [bestI_succ]
    have := bestI_le l n
    split <;> omega
theorem bestI_least (l : List (Int × Nat)) (hf : ∀ x ∈ l, Fr x) : ∀ n i, i < n → n ≤ l.length → ql (l.getD (bestI l n) (0, 1)) ≤ ql (l.getD i (0, 1))
  | n + 1, i, hi, hn => by
    have fr : ∀ j, Fr (l.getD j (0, 1)) := fun j => getD_mem (P := Fr) hf Fr.zero
    have e : ∀ a b : Int × Nat, Fr a → Fr b → (ltF a b = true ↔ ql a < ql b) := fun a b ha hb => by
      unfold ltF
      rw [decide_eq_true_eq, ql_lt ha hb]
    rw [bestI_succ]
    by_cases hl : ltF (l.getD n (0, 1)) (l.getD (bestI l n) (0, 1)) = true
    · rw [if_pos hl]
      have h1 := (e _ _ (fr n) (fr _)).mp hl
      by_cases z : i = n
      · rw [z]; exact Rat.le_refl
      · have h2 := bestI_least l hf n i (by omega) (by omega)
        grind
    · rw [if_neg hl]
      by_cases z : i = n
      · rw [z]
        have h1 : ¬ ql (l.getD n (0, 1)) < ql (l.getD (bestI l n) (0, 1)) := fun h => hl ((e _ _ (fr n) (fr _)).mpr h)
        grind
      · exact bestI_least l hf n i (by omega) (by omega)
/-- whether nobody has less than nothing -/
def covB (cs : List Nat) (wl : List (List Bool)) (ps : List (Int × Nat)) (tks : List Tkt) : Bool := wl.all fun bs => !((worthsF (vl cs bs) ps tks).any fun p => decide (p.1 < 0))
end B
namespace B
open PySem PySem.Spec PyProof.Rows L2
end B
namespace B
open PySem PySem.Spec PyProof.Rows L2
structure Grid (K : PySem.W.Frag) (G0 H : Hp) (L : Addr) (n m : Nat) (f : Nat → Nat → Int × Nat) : Prop where
  ex : ∃ as : List Addr, as.length = n ∧ as.Nodup ∧ L ∉ as ∧ G0 L = none ∧ (∀ a ∈ as, G0 a = none) ∧ H L = some (.lst (as.map V.ref)) ∧ ∀ (i : Nat) (a : Addr), as[i]? = some a → ∃ us, H a = some (.lst us) ∧ us.length = m ∧ ∀ (j : Nat) (u : V), us[j]? = some u → FAt K H u (f i j)
theorem Grid.same {K : PySem.W.Frag} {G0 H H' : Hp} {L : Addr} {n m : Nat} {f : Nat → Nat → Int × Nat} (g : Grid K G0 H L n m f) (s : Same H H') : Grid K G0 H' L n m f := by
  obtain ⟨as, h1, h2, h3, h4, h5, h6, h7⟩ := g
  refine ⟨as, h1, h2, h3, h4, h5, s _ _ h6, fun i a ha => ?_⟩
  obtain ⟨us, k1, k2, k3⟩ := h7 i a ha
  exact ⟨us, s _ _ k1, k2, fun j u hu => (k3 j u hu).mono (Same.tk s)⟩
theorem Grid.congr {K : PySem.W.Frag} {G0 H : Hp} {L : Addr} {n m : Nat} {f g : Nat → Nat → Int × Nat} (h : Grid K G0 H L n m f) (e : ∀ i j, i < n → j < m → f i j = g i j) : Grid K G0 H L n m g := by
  obtain ⟨as, h1, h2, h3, h4, h5, h6, h7⟩ := h
  refine ⟨as, h1, h2, h3, h4, h5, h6, fun i a ha => ?_⟩
  obtain ⟨us, k1, k2, k3⟩ := h7 i a ha
  refine ⟨us, k1, k2, fun j u hu => ?_⟩
  rw [← e i j (by have := (List.getElem?_eq_some_iff.mp ha).1; omega) (by have := (List.getElem?_eq_some_iff.mp hu).1; omega)]
  exact k3 j u hu
/-- a cell read -/
theorem Grid.get {K : PySem.W.Frag} {G0 H : Hp} {L : Addr} {n m : Nat} {f : Nat → Nat → Int × Nat} (g : Grid K G0 H L n m f) {i j : Nat} (hi : i < n) (hj : j < m) : ∃ (rows : List V) (a : Addr) (us : List V) (c : Addr), H L = some (.lst rows) ∧ rows.length = n ∧ rows[i]? = some (.ref a) ∧ H a = some (.lst us) ∧ us.length = m ∧ us[j]? = some (.ref c) ∧ SqT K H c [.int (f i j).1, .int (f i j).2] ∧
    (∀ (r : Addr) (x : Int × Nat), SqT K H r [.int x.1, .int x.2] → Grid K G0 (upd H a (.lst (us.set j (.ref r)))) L n m (fun i' j' => if i' = i ∧ j' = j then x else f i' j') ∧ (∀ p xs, SqT K H p xs → SqT K (upd H a (.lst (us.set j (.ref r)))) p xs)) ∧ G0 a = none ∧ a ≠ L := by
  obtain ⟨as, h1, h2, h3, h4, h5, h6, h7⟩ := id g
  have ga := List.getElem?_eq_getElem (l := as) (i := i) (by omega)
  generalize as[i] = a at ga
  obtain ⟨us, k1, k2, k3⟩ := h7 i a ga
  have gu := List.getElem?_eq_getElem (l := us) (i := j) (by omega)
  generalize us[j] = u at gu
  obtain ⟨c, rfl, tc⟩ := k3 j u gu
  have ma := List.mem_of_getElem? ga
  have aL : a ≠ L := fun e => h3 (e ▸ ma)
  refine ⟨as.map V.ref, a, us, c, h6, by rw [List.length_map]; exact h1, by rw [List.getElem?_map, ga]; rfl, k1, k2, gu, tc, fun r x tr => ?_, h5 a ma, aL⟩
  have U := fun p xs t => tup_upd (K := K) (a := p) (ys := xs) (zs := us.set j (.ref r)) k1 t
  refine ⟨⟨as, h1, h2, h3, h4, h5, by rw [upd_ne aL.symm]; exact h6, fun i' a' ha' => ?_⟩, U⟩
  by_cases e : a' = a
  · subst e
    have ei : i' = i := by
      have l1 := (List.getElem?_eq_some_iff.mp ha').1
      have l2 := (List.getElem?_eq_some_iff.mp ga).1
      have e1 := (List.getElem?_eq_some_iff.mp ha').2
      have e2 := (List.getElem?_eq_some_iff.mp ga).2
      have pw := List.pairwise_iff_getElem.mp h2
      rcases Nat.lt_trichotomy i' i with z | z | z
      · exact absurd (e1.trans e2.symm) (pw i' i l1 l2 z)
      · exact z
      · exact absurd (e2.trans e1.symm) (pw i i' l2 l1 z)
    subst ei
    refine ⟨_, upd_same, by rw [List.length_set]; exact k2, fun j' u hu => ?_⟩
    rw [List.getElem?_set] at hu
    by_cases ej : j = j'
    · rw [if_pos ej, if_pos (by have := (List.getElem?_eq_some_iff.mp gu).1; omega)] at hu
      cases hu
      rw [if_pos ⟨rfl, ej.symm⟩]
      exact ⟨r, rfl, U _ _ tr⟩
    · rw [if_neg ej] at hu
      rw [if_neg (fun z => ej z.2.symm)]
      exact (k3 j' u hu).mono U
  · obtain ⟨us', q1, q2, q3⟩ := h7 i' a' ha'
    refine ⟨us', by rw [upd_ne e]; exact q1, q2, fun j' u hu => ?_⟩
    have ei : i' ≠ i := fun z => by
      rw [z, ga] at ha'
      exact e (Option.some.inj ha').symm
    rw [if_neg (fun z => ei z.1)]
    exact (q3 j' u hu).mono U
theorem f2_of_get {K : PySem.W.Frag} {H : Hp} {f : Nat → Int × Nat} : ∀ {us : List V} {k : Nat}, (∀ (j : Nat) (u : V), us[j]? = some u → FAt K H u (f (k + j))) → F2 (FAt K H) us ((List.range us.length).map fun j => f (k + j))
  | [], _, _ => .nil
  | u :: r, k, h => by
    rw [List.length_cons, List.range_succ_eq_map, List.map_cons, List.map_map]
    refine .cons (h 0 u rfl) ?_
    have := f2_of_get (us := r) (k := k + 1) (f := f) fun j u hu => by
      have := h (j + 1) u (by simpa using hu)
      rwa [show k + (j + 1) = k + 1 + j by omega] at this
    have e : ((fun j => f (k + j)) ∘ Nat.succ) = fun j => f (k + 1 + j) := funext fun j => by
      show f (k + (j + 1)) = _
      rw [show k + (j + 1) = k + 1 + j by omega]
    rw [e]
    exact this
/-- a row read -/
theorem Grid.row {K : PySem.W.Frag} {G0 H : Hp} {L : Addr} {n m : Nat} {f : Nat → Nat → Int × Nat} (g : Grid K G0 H L n m f) : ∃ rows : List V, H L = some (.lst rows) ∧ rows.length = n ∧ ∀ (i : Nat) (v : V), rows[i]? = some v → ∃ (a : Addr) (us : List V), v = .ref a ∧ H a = some (.lst us) ∧ us.length = m ∧ F2 (FAt K H) us ((List.range m).map (f i)) := by
  obtain ⟨as, h1, h2, h3, h4, h5, h6, h7⟩ := g
  refine ⟨as.map V.ref, h6, by rw [List.length_map]; exact h1, fun i v hv => ?_⟩
  rw [List.getElem?_map] at hv
  cases e : as[i]? with
  | none => rw [e] at hv; cases hv
  | some a =>
    rw [e] at hv
    cases hv
    obtain ⟨us, k1, k2, k3⟩ := h7 i a e
    refine ⟨a, us, rfl, k1, k2, ?_⟩
    have := f2_of_get (us := us) (k := 0) (f := f i) fun j u hu => by rw [Nat.zero_add]; exact k3 j u hu
    rw [k2] at this
    rw [show (fun j => f i (0 + j)) = f i from funext fun j => by rw [Nat.zero_add]] at this
    exact this
/-- what one holder has, bounded -/
theorem one_fb {D M : Nat} {v : Nat → Bool} {i : Nat} {p : Int × Nat} (d0 : 0 < D) (hp : Fb D M p) (tks : List Tkt) : (∀ t ∈ tks, Fb D M (brF v t)) → Fb D ((2 * tks.length + 1) * M) (oneF v i p tks) := by
  refine snoc_ind (P := fun tks => (∀ t ∈ tks, Fb D M (brF v t)) → Fb D ((2 * tks.length + 1) * M) (oneF v i p tks)) (fun _ => hp.up (Nat.dvd_refl _) (by show M ≤ (2 * 0 + 1) * M; omega)) (fun l t ih h => ?_) tks
  have i1 := ih fun y hy => h y (List.mem_append_left _ hy)
  have ht := h t (by simp)
  have e : oneF v i p (l ++ [t]) = (let y := if t.l = i then addF (oneF v i p l) (brF v t) else oneF v i p l; if t.s = i then addF y (negF (brF v t)) else y) := by
    unfold oneF
    rw [List.foldl_append]
    rfl
  have em : (2 * (l ++ [t]).length + 1) * M = (2 * l.length + 1) * M + M + M := by
    rw [List.length_append, List.length_singleton, show 2 * (l.length + 1) + 1 = (2 * l.length + 1) + 1 + 1 by omega, Nat.add_mul, Nat.add_mul, Nat.one_mul]
  rw [e, em]
  have hy : Fb D ((2 * l.length + 1) * M + M) (if t.l = i then addF (oneF v i p l) (brF v t) else oneF v i p l) := by
    split
    · exact i1.add ht d0
    · exact i1.up (Nat.dvd_refl _) (by omega)
  show Fb D _ (if t.s = i then addF (if t.l = i then addF (oneF v i p l) (brF v t) else oneF v i p l) (negF (brF v t)) else (if t.l = i then addF (oneF v i p l) (brF v t) else oneF v i p l))
  by_cases z : t.s = i
  · rw [if_pos z]
    exact hy.add ht.neg d0
  · rw [if_neg z]
    exact hy.up (Nat.dvd_refl _) (by omega)
theorem WzOk.step {D M : Nat} {v : Nat → Bool} {ps : List (Int × Nat)} {tks : List Tkt} (h : WzOk D M v ps tks) {k : Nat} {t : Tkt} (ht : tks[k]? = some t) {i : Nat} {p : Int × Nat} (hp : Fb D M p) : Fok 2000 (oneF v i p (tks.take k)) ∧ Fok 2000 (addF (oneF v i p (tks.take k)) (brF v t)) := by
  have hk := (List.getElem?_eq_some_iff.mp ht).1
  have a := one_fb (v := v) (i := i) h.d0 hp (tks.take k) fun t ht => h.t t (List.mem_of_mem_take ht)
  rw [List.length_take, Nat.min_eq_left (by omega)] at a
  have b := a.add (h.t t (List.mem_of_getElem? ht)) h.d0
  have e1 : (2 * k + 1) * M + M ≤ 2 ^ 1000 := by
    refine Nat.le_trans ?_ h.m
    rw [← Nat.succ_mul]
    exact Nat.mul_le_mul_right _ (by omega)
  exact ⟨a.fok (a := 1000) (c := 1000) h.d0 h.d (Nat.le_trans (Nat.le_add_right _ _) e1), b.fok (a := 1000) (c := 1000) h.d0 h.d e1⟩
theorem one_take (v : Nat → Bool) (i : Nat) (p : Int × Nat) {tks : List Tkt} {k : Nat} {t : Tkt} (h : tks[k]? = some t) : oneF v i p (tks.take (k + 1)) = if t.s = i then addF (if t.l = i then addF (oneF v i p (tks.take k)) (brF v t) else oneF v i p (tks.take k)) (negF (brF v t)) else (if t.l = i then addF (oneF v i p (tks.take k)) (brF v t) else oneF v i p (tks.take k)) := by
  rw [take_one tks k t h]
  unfold oneF
  rw [List.foldl_append]
  rfl
end B
namespace B
open PySem PySem.Spec PyProof.Rows L2
/-- letters of a drawn place, first and last -/
def plcB (cs : List Nat) (c0 cl : Nat) : Bool := decide (cs.length ≤ 3) && decide (1 ≤ cs.length) && cs.all (fun c => decide (97 ≤ c) && decide (c < 123)) && cs.contains c0 && cs.contains cl && decide (atI cs 0 = some c0) && decide (atI cs (-1) = some cl) && decide (cs.Pairwise (· < ·)) && !(wor cs []).isEmpty && !(wor cs [[.yes]]).isEmpty && !(wor cs [[.lt c0, .nt]]).isEmpty && !(wor cs [[.lt c0, .lt cl, .orr]]).isEmpty
structure Plc (cs : List Nat) (c0 cl : Nat) : Prop where
  l3 : cs.length ≤ 3
  ls : Ls 6 cs
  m0 : c0 ∈ cs
  ml : cl ∈ cs
  a0 : atI cs 0 = some c0
  al : atI cs (-1) = some cl
  w : wor cs [] ≠ [] ∧ wor cs [[.yes]] ≠ [] ∧ wor cs [[.lt c0, .nt]] ≠ [] ∧ wor cs [[.lt c0, .lt cl, .orr]] ≠ []
theorem plc_of {cs : List Nat} {c0 cl : Nat} (h : plcB cs c0 cl = true) : Plc cs c0 cl := by
  unfold plcB at h
  simp only [Bool.and_eq_true, decide_eq_true_eq, List.all_eq_true, List.contains_iff_mem, Bool.not_eq_true', List.isEmpty_eq_false_iff] at h
  obtain ⟨⟨⟨⟨⟨⟨⟨⟨⟨⟨⟨h1, h2⟩, h3⟩, h4⟩, h5⟩, h6⟩, h7⟩, h8⟩, h9⟩, h10⟩, h11⟩, h12⟩ := h
  exact ⟨h1, ⟨h2, by omega, h8, h3⟩, h4, h5, h6, h7, h9, h10, h11, h12⟩
/-- a drawn bet -/
structure BwOk (cs : List Nat) (ts : List Tm) (g : List Wd) : Prop where
  ok : BtOk cs ts g
  a : ∀ x ∈ ts, Fb 7000000 (2 ^ 44) x.a
  sm : BtSm 2 ts g
theorem BwOk.of {cs : List Nat} {ts : List Tm} {g : List Wd} (ht : ∀ x ∈ ts, Fb 7000000 (2 ^ 44) x.a ∧ Sy cs x.w ∧ x.w.length ≤ 10) (hl : ts.length ≤ 2) (yg : Sy cs g) (lg : g.length ≤ 10) : BwOk cs ts g := by
  have z : ∀ x ∈ ts, Fok 67 x.a := fun x hx => ((ht x hx).1.fok (a := 23) (c := 44) (by decide) (by decide) (by decide))
  exact ⟨⟨fun x hx => ⟨(z x hx).up (by decide), (ht x hx).2.1, by have := (ht x hx).2.2; omega⟩, by omega, yg, by omega⟩, fun x hx => (ht x hx).1, ⟨hl, fun x hx => ⟨(z x hx).up (by decide), (ht x hx).2.2⟩, lg⟩⟩
theorem BwOk.pay {cs : List Nat} {ts : List Tm} {g : List Wd} (h : BwOk cs ts g) (v : Nat → Bool) : Fb 7000000 (2 ^ 45) (pay v ts) := (pay_fb v (by decide) ts h.a).up (Nat.dvd_refl _) (by
  have := h.sm.few
  rw [show (2 : Nat) ^ 45 = 2 * 2 ^ 44 by decide]
  exact Nat.mul_le_mul_right _ this)
/-- a drawn ticket -/
structure TkW (cs : List Nat) (t : Tkt) : Prop where
  b : BwOk cs t.b.ts t.b.g
  p : Fb 42000000 (2 ^ 46) t.b.p
  k : Fb 60 10 t.k
  k0 : 0 < t.k.1
theorem TkW.fp {cs : List Nat} {t : Tkt} (h : TkW cs t) : Fok 80 t.b.p := (h.p.fok (a := 26) (c := 46) (by decide) (by decide) (by decide)).up (by decide)
theorem TkW.fk {cs : List Nat} {t : Tkt} (h : TkW cs t) : Fok 10 t.k := (h.k.fok (a := 6) (c := 4) (by decide) (by decide) (by decide)).up (by decide)
theorem TkW.ok {cs : List Nat} {t : Tkt} (h : TkW cs t) : TkOk cs t := ⟨⟨h.b.ok, fun v => ((h.b.pay v).fok (a := 23) (c := 45) (by decide) (by decide) (by decide)).up (by decide), h.fp.up (by decide)⟩, h.fk.up (by decide)⟩
theorem TkW.br {cs : List Nat} {t : Tkt} (h : TkW cs t) (v : Nat → Bool) : Fb 2520000000 (2 ^ 52) (brF v t) := by
  unfold brF
  cases e : payO v t.b.ts t.b.g with
  | none => exact Fb.zero
  | some p =>
    have hp : Fb 42000000 (2 ^ 45) p := by rw [payO_some e]; exact (h.b.pay v).up (by decide) (Nat.le_refl _)
    have d := hp.add h.p.neg (by decide)
    exact (h.k.mul d).up (by decide) (by decide)
def tkdat (t : Tkt) : PyData := .tuple [.int t.n, .int t.l, .int t.s, bdat t.b.ts t.b.g, fdat t.b.p, fdat t.k]
theorem TkAt.dp {K : PySem.W.Frag} {H : Hp} {v : V} {t : Tkt} (h : TkAt K H v t) : Dp K H v (tkdat t) := by
  obtain ⟨q, a, p, k, rfl, t1, t2, t3, t4⟩ := h
  exact .tup t1 (.cons (.int _) (.cons (.int _) (.cons (.int _) (.cons (bdp t2) (.cons (dp2 t3) (.cons (dp2 t4) .nil))))))
theorem tkt_shw {cs : List Nat} {t : Tkt} (hs : ∀ c ∈ cs, c < 123) (h : TkW cs t) (hn : t.n < 2 ^ 400) (hl : t.l < 2 ^ 400) (hs' : t.s < 2 ^ 400) : Shw 5 3726 (tkdat t) := by
  have sm3 : BtSm 3 t.b.ts t.b.g := ⟨Nat.le_trans h.b.sm.few (by decide), h.b.sm.tm, h.b.sm.ln⟩
  have i : ∀ n : Nat, n < 2 ^ 400 → Shw 4 620 (.int (n : Int)) := fun n hn => (Shw.int (by rw [Int.natAbs_natCast]; exact Nat.lt_of_lt_of_le hn (Nat.pow_le_pow_right (by decide) (by decide)))).up (by decide) (by decide)
  exact Shw.tup (n := 4) (m := 620) (k := 6) (fun d hd => by
    simp only [List.mem_cons, List.not_mem_nil, or_false] at hd
    rcases hd with rfl | rfl | rfl | rfl | rfl | rfl
    · exact i _ hn
    · exact i _ hl
    · exact i _ hs'
    · exact bdat_shw3 hs h.b.ok sm3
    · exact (fdat_shw h.fp (by decide)).up (by decide) (by decide)
    · exact (fdat_shw h.fk (by decide)).up (by decide) (by decide)) (by show 6 ≤ 6; decide)
/-- the fraction of one out of a constant list of fractions -/
theorem fb_dec {D M : Nat} {p : Int × Nat} (h : (decide (0 < p.2) && decide (Nat.gcd p.1.natAbs p.2 = 1) && decide (D % p.2 = 0) && decide (p.1.natAbs ≤ M * p.2)) = true) : Fb D M p := by
  simp only [Bool.and_eq_true, decide_eq_true_eq] at h
  exact ⟨⟨h.1.1.1, h.1.1.2⟩, Nat.dvd_of_mod_eq_zero h.1.2, h.2⟩
end B
namespace B
open PySem PySem.Spec PyProof.Rows L2
/-- drawn tickets -/
structure TksW (cs : List Nat) (rs : List (List Wd)) (n m : Nat) (tks : List Tkt) : Prop where
  w : ∀ t ∈ tks, TkW cs t ∧ t.l < n ∧ t.s < n ∧ t.l ≠ t.s ∧ t.n < m ∧ somes (tabO cs t.b.ts t.b.g (wor cs rs)) ≠ []
  r : tks.Pairwise (fun a b => a.n < b.n)
/-- drawn purses, which cover -/
structure PsW (cs : List Nat) (wl : List (List Bool)) (ps : List (Int × Nat)) (tks : List Tkt) : Prop where
  f : ∀ p ∈ ps, Fb 2520000000 (2 ^ 61) p
  c : ∀ (i : Nat) (p : Int × Nat), ps[i]? = some p → ∀ bs ∈ wl, 0 ≤ ql (oneF (vl cs bs) i p tks)
abbrev PsW1 := PsW
theorem tksW_wz {cs : List Nat} {rs : List (List Wd)} {n m : Nat} {tks : List Tkt} (v : Nat → Bool) (h : TksW cs rs n m tks) (hl : tks.length ≤ 100) (k : Nat) : WzOk 2520000000 (2 ^ 52) v (List.replicate k (0, 1)) tks := ⟨fun t ht => (h.w t ht).1.br v, fun p hp => by rw [List.eq_of_mem_replicate hp]; exact Fb.zero, by decide, Nat.lt_of_lt_of_le (by decide : 2520000000 < 2 ^ 32) (Nat.pow_le_pow_right (by decide) (by decide)), Nat.le_trans (Nat.mul_le_mul_right _ (show 2 * tks.length + 1 ≤ 2 ^ 8 by omega)) (by rw [← Nat.pow_add]; exact Nat.pow_le_pow_right (by decide) (by decide))⟩
theorem tksW_one {cs : List Nat} {rs : List (List Wd)} {n m : Nat} {tks : List Tkt} (v : Nat → Bool) (h : TksW cs rs n m tks) (hl : tks.length ≤ 100) (i : Nat) : Fb 2520000000 (2 ^ 60) (oneF v i (0, 1) tks) := (one_fb (D := 2520000000) (M := 2 ^ 52) (by decide) Fb.zero tks fun t ht => (h.w t ht).1.br v).up (Nat.dvd_refl _) (Nat.le_trans (Nat.mul_le_mul_right _ (show 2 * tks.length + 1 ≤ 2 ^ 8 by omega)) (by rw [← Nat.pow_add]; exact Nat.le_refl _))
/-- what is fresh stays -/
def Fk (G0 H H' : Hp) : Prop := ∀ b o, H b = some o → G0 b = none → H' b = some o
theorem Fk.refl (G0 H : Hp) : Fk G0 H H := fun _ _ h _ => h
theorem Fk.trans {G0 H H1 H2 : Hp} (a : Fk G0 H H1) (b : Fk G0 H1 H2) : Fk G0 H H2 := fun x o h n => b x o (a x o h n) n
theorem Fk.kp {G0 H H' : Hp} {d : Dr} {c : Nat} (w : Drw G0 d c) (k : Kp d H H') : Fk G0 H H' := fun b o h n => k b o h (w.no n).1 (w.no n).2
theorem Fk.mut {G0 H : Hp} {R : Addr} {o : HO} (h : ∃ o, G0 R = some o) : Fk G0 H (upd H R o) := fun b x e n => by
  rw [upd_ne (fun z => by obtain ⟨y, hy⟩ := h; rw [z, hy] at n; cases n)]
  exact e
theorem range_getD {α : Type} {f : List Bool → α} (l : List (List Bool)) : (List.range l.length).map (fun j => f (l.getD j [])) = l.map f := by
  induction l with
  | nil => rfl
  | cons x r ih =>
    rw [List.length_cons, List.range_succ_eq_map, List.map_cons, List.map_map, List.map_cons, ← ih]
    rfl
theorem one_ql {v : Nat → Bool} {i : Nat} {p : Int × Nat} (hp : Fr p) (tks : List Tkt) : (∀ t ∈ tks, Fr (brF v t)) → Fr (oneF v i p tks) ∧ ql (oneF v i p tks) = ql p + ql (oneF v i (0, 1) tks) := by
  have gen : ∀ (p : Int × Nat), Fr p → (∀ t ∈ tks, Fr (brF v t)) → Fr (oneF v i p tks) := by
    intro p hp h
    refine snoc_ind (P := fun tks => (∀ t ∈ tks, Fr (brF v t)) → Fr (oneF v i p tks)) (fun _ => hp) (fun l t ih h => ?_) tks h
    have i1 := ih fun y hy => h y (List.mem_append_left _ hy)
    have ht := h t (by simp)
    have e : oneF v i p (l ++ [t]) = (let y := if t.l = i then addF (oneF v i p l) (brF v t) else oneF v i p l; if t.s = i then addF y (negF (brF v t)) else y) := by
      unfold oneF
      rw [List.foldl_append]
      rfl
    rw [e]
    show Fr (if t.s = i then addF (if t.l = i then addF (oneF v i p l) (brF v t) else oneF v i p l) (negF (brF v t)) else (if t.l = i then addF (oneF v i p l) (brF v t) else oneF v i p l))
    have hy : Fr (if t.l = i then addF (oneF v i p l) (brF v t) else oneF v i p l) := by
      split
      · exact i1.add ht
      · exact i1
    split
    · exact hy.add ht.neg
    · exact hy
  intro h
  refine ⟨gen p hp h, ?_⟩
  refine snoc_ind (P := fun tks => (∀ t ∈ tks, Fr (brF v t)) → (∀ p, Fr p → Fr (oneF v i p tks)) ∧ ql (oneF v i p tks) = ql p + ql (oneF v i (0, 1) tks)) (fun _ => ⟨fun p hp => hp, by show ql p = ql p + ql (0, 1); rw [ql_zero, Rat.add_zero]⟩) (fun l t ih h => ?_) tks h |>.2
  obtain ⟨j1, j2⟩ := ih fun y hy => h y (List.mem_append_left _ hy)
  have ht := h t (by simp)
  have e : ∀ p, oneF v i p (l ++ [t]) = (if t.s = i then addF (if t.l = i then addF (oneF v i p l) (brF v t) else oneF v i p l) (negF (brF v t)) else (if t.l = i then addF (oneF v i p l) (brF v t) else oneF v i p l)) := fun p => by
    unfold oneF
    rw [List.foldl_append]
    rfl
  have st : ∀ p, Fr p → Fr (oneF v i p (l ++ [t])) ∧ ql (oneF v i p (l ++ [t])) = ql (oneF v i p l) + ((if t.l = i then ql (brF v t) else 0) + (if t.s = i then - ql (brF v t) else 0)) := fun p hp => by
    have i1 := j1 p hp
    rw [e]
    by_cases a : t.l = i <;> by_cases b : t.s = i
    · rw [if_pos a, if_pos b, if_pos a, if_pos b]
      refine ⟨(i1.add ht).add ht.neg, ?_⟩
      rw [ql_add (i1.add ht).pos ht.neg.pos, ql_add i1.pos ht.pos, ql_neg]
      grind
    · rw [if_pos a, if_neg b, if_pos a, if_neg b]
      refine ⟨i1.add ht, ?_⟩
      rw [ql_add i1.pos ht.pos]
      grind
    · rw [if_neg a, if_pos b, if_neg a, if_pos b]
      refine ⟨i1.add ht.neg, ?_⟩
      rw [ql_add i1.pos ht.neg.pos, ql_neg]
      grind
    · rw [if_neg a, if_neg b, if_neg a, if_neg b]
      refine ⟨i1, ?_⟩
      grind
  refine ⟨fun p hp => (st p hp).1, ?_⟩
  rw [(st p hp).2, (st (0, 1) Fr.zero).2, j2]
  grind
end B
namespace B
open PySem PySem.Spec PyProof.Rows L2
/-- plain things, not too deep -/
def plJ : Nat → PyData → Bool
  | 0, _ => false
  | _ + 1, .none => true
  | _ + 1, .int _ => true
  | _ + 1, .str _ => true
  | n + 1, .tuple ds => decide (ds.length ≤ 1000) && ds.all (plJ n)
  | _ + 1, _ => false
theorem cutEnd (xs : List V) : cutV xs (some (-1)) none = xs.drop (xs.length - 1) := by
  unfold cutV
  rw [HT.sIx_none]
  have e : HT.sIx xs.length 0 (some (-1)) = xs.length - 1 := by
    show (if (-1 : Int) < 0 then ((-1 : Int) + (xs.length : Int)).toNat else min (-1 : Int).toNat xs.length) = xs.length - 1
    rw [if_pos (by decide)]
    omega
  rw [e, List.take_of_length_le (by rw [List.length_drop]; omega)]
end B
namespace B
open PySem PySem.Spec PyProof.Rows L2
theorem bss_dq {K : PySem.W.Frag} {H : Hp} : ∀ {vs : List V} {l : List (List Bd)}, F2 (BsAt K H) vs l → DqAll K H vs (l.map fun b => .tuple (b.map kdat))
  | _, _, .nil => .nil
  | _, _, .cons ⟨q, us, e, t, f⟩ r => by
    subst e
    exact .cons (.tup t (bds_dq f)) (bss_dq r)
end B
namespace B
open PySem PySem.Spec PyProof.Rows L2
end B
namespace B
open PySem PySem.Spec PyProof.Rows L2
theorem somes_any {cs : List Nat} {ts : List Tm} {g : List Wd} : ∀ {wl : List (List Bool)}, somes (tabO cs ts g wl) ≠ [] → wl.any (fun bs => sval (vl cs bs) g) = true
  | [], h => absurd rfl h
  | b :: r, h => by
    rw [List.any_cons]
    by_cases e : sval (vl cs b) g = true
    · rw [e]; rfl
    · have : somes (tabO cs ts g (b :: r)) = somes (tabO cs ts g r) := by
        unfold somes tabO
        rw [List.map_cons, List.filterMap_cons]
        have : payO (vl cs b) ts g = none := by unfold payO; rw [if_neg e]
        rw [this]
        rfl
      rw [this] at h
      rw [somes_any h, Bool.or_true]
end B
namespace B
open PySem PySem.Spec PyProof.Rows L2
def rowB (cs : List Nat) (wl : List (List Bool)) (ps : List (Int × Nat)) (tks : List Tkt) (i : Nat) : Bool := wl.all fun bs => !decide ((oneF (vl cs bs) i (ps.getD i (0, 1)) tks).1 < 0)
theorem cov_rows {cs : List Nat} {wl : List (List Bool)} {ps : List (Int × Nat)} {tks : List Tkt} (hk : ∀ t ∈ tks, t.l < ps.length ∧ t.s < ps.length) : covB cs wl ps tks = (List.range ps.length).all (rowB cs wl ps tks) := by
  rw [Bool.eq_iff_iff]
  unfold covB rowB
  simp only [List.all_eq_true, Bool.not_eq_true', List.any_eq_false, decide_eq_true_eq, decide_eq_false_iff_not, List.mem_range]
  constructor
  · intro h i hi bs hb
    refine h bs hb _ (List.mem_of_getElem? (i := i) ?_)
    rw [worths_at _ _ _ _ hk, List.getD_eq_getElem?_getD, List.getElem?_eq_getElem hi]
    rfl
  · intro h bs hb p hp
    obtain ⟨i, hi⟩ := List.getElem?_of_mem hp
    rw [worths_at _ _ _ _ hk] at hi
    cases e : ps[i]? with
    | none => rw [e] at hi; cases hi
    | some x =>
      rw [e] at hi
      cases hi
      have := h i (List.getElem?_eq_some_iff.mp e).1 bs hb
      rw [List.getD_eq_getElem?_getD, e] at this
      exact this
theorem PsW.cov {cs : List Nat} {rs : List (List Wd)} {wl : List (List Bool)} {n m : Nat} {ps : List (Int × Nat)} {tks : List Tkt} (k : PsW cs wl ps tks) (h : TksW cs rs n m tks) (hn : ps.length = n) : covB cs wl ps tks = true := by
  rw [cov_rows fun t ht => by rw [hn]; exact ⟨(h.w t ht).2.1, (h.w t ht).2.2.1⟩, List.all_eq_true]
  intro i hi
  have hi := List.mem_range.mp hi
  unfold rowB
  rw [List.all_eq_true]
  intro bs hb
  have g := List.getElem?_eq_getElem hi
  have c := k.c i _ g bs hb
  have f := (one_ql (v := vl cs bs) (i := i) (k.f _ (List.mem_of_getElem? g)).f tks fun t ht => ((h.w t ht).1.br (vl cs bs)).f).1
  rw [List.getD_eq_getElem?_getD, g]
  show (!decide ((oneF (vl cs bs) i ps[i] tks).1 < 0)) = true
  rw [decide_eq_false (by have := (ql_nonneg f).mp c; omega)]
  rfl
theorem BwOk.r {cs : List Nat} {ts : List Tm} {g : List Wd} (h : BwOk cs ts g) : BtOk cs ts g ∧ ts.length ≤ 8 ∧ (∀ x ∈ ts, x.w.length ≤ 40) ∧ g.length ≤ 40 := ⟨h.ok, by have := h.sm.few; omega, fun x hx => by have := (h.sm.tm x hx).2; omega, by have := h.sm.ln; omega⟩
end B
namespace B
open PySem PySem.Spec PyProof.Rows L2
section
variable {prog : Program} {w : World} {A : Around} {E : Value → Shared → Prop} {s : Shared}
end
end B
namespace B
open PySem PySem.Spec PyProof.Rows L2
end B
namespace B
end B
namespace B
end B
namespace B
section
variable {n m : Nat} {col : Nat → Col} {rhs : Col} {T T' : Nat → Nat → Int} {D D' : Int} {R R' Bn Bn' : Nat → Nat} {st st' : Bool} {r c : Nat}
end
section
variable {n m : Nat} {col : Nat → Col} {rhs : Col} {T : Nat → Nat → Nat → Int} {D : Nat → Int} {R Bn : Nat → Nat → Nat} {st : Nat → Bool} {r c : Nat → Nat}
end
end B
namespace B
section
variable {n m : Nat} {b : Bo} {r c : Nat}
end
end B
namespace B
section
variable {n m : Nat} {rows : List (List Int)} {bounds wants : List Int}
end
section
variable {n : Nat} {f : Nat → Int} {g : Nat → Nat}
end
section
variable {n m : Nat} {A : Nat → Nat → Int} {w bb : Nat → Int} {b : Bo}
end
end B
namespace B
section
variable {n m : Nat} {A : Nat → Nat → Int} {w bb : Nat → Int} {b : Bo}
end
end B
namespace B
open PySem PySem.Spec PyProof.Rows L2
section
variable (ra rr sr : Addr) (d : Int) (n : Nat)
end
theorem atI_end {xs : List V} {k : Nat} {v : V} (l : xs.length = k + 1) (h : xs[k]? = some v) : atI xs (-1) = some v := by
  unfold atI ixN
  rw [if_neg (by decide), if_pos (by omega), l, show ((-1 : Int) + ((k + 1 : Nat) : Int)).toNat = k by omega]
  exact h
section
variable {w : Nat → Int} {R : Nat → Nat} {k j : Nat}
end
section
variable {a b : Nat → Int} {Bn : Nat → Nat} {k j : Nat}
end
end B
namespace B
open PySem PySem.Spec PyProof.Rows L2
end B
namespace B
open PySem PySem.Spec PyProof.Rows L2
section
variable (m : Nat) (ta ra fa : Addr)
end
end B
namespace B
open PySem PySem.Spec PyProof.Rows L2
end B
namespace B
open PySem PySem.Spec PyProof.Rows L2
section
variable {α β : Type} {f : Nat × β → α}
end
end B
namespace B
open PySem PySem.Spec PyProof.Rows L2
def rs : List Nat → (Nat → Rat) → Rat
  | [], _ => 0
  | c :: r, F => F c + rs r F
end B
namespace B
open PySem PySem.Spec PyProof.Rows L2
end B
namespace B
open PySem PySem.Spec PyProof.Rows L2
end B
namespace B
open PySem PySem.Spec PyProof.Rows L2
end B
namespace B
open PySem PySem.Spec PyProof.Rows L2
section
variable {n m : Nat} {A : Nat → Nat → Int} {w bb : Nat → Int} {b : Bo}
end
end B
namespace B
open PySem PySem.Spec PyProof.Rows L2
section
variable {cs : List Nat} {wl : List (List Bool)} {bds : List Bd} {r : Nat} {x : Bd}
end
end B
namespace B
open PySem PySem.Spec PyProof.Rows L2
section
variable {cs : List Nat} {wl : List (List Bool)} {bds : List Bd} {e B : Nat}
end
end B
namespace B
open PySem PySem.Spec PyProof.Rows L2
section
variable {cs : List Nat} {wl : List (List Bool)} {bds : List Bd} {e B : Nat}
end
section
variable {cs : List Nat} {wl : List (List Bool)} {bds : List Bd} {e B : Nat}
end
end B
namespace B
open PySem PySem.Spec PyProof.Rows L2
end B
namespace B
open PySem PySem.Spec PyProof.Rows L2
end B
namespace B
open PySem PySem.Spec PyProof.Rows L2
end B
namespace B
open PySem PySem.Spec PyProof.Rows L2
end B
namespace B
open PySem PySem.Spec PyProof.Rows L2
section
variable {cs : List Nat} {wl : List (List Bool)} {L : List (List (Int × Nat))} {D M : Nat}
end
section
variable {cs : List Nat} {wl : List (List Bool)} {L : List (List (Int × Nat))} {bds : List Bd}
end
section
variable {cs : List Nat} {wl : List (List Bool)} {L : List (List (Int × Nat))} {D M : Nat}
end
end B
namespace B
open PySem PySem.Spec PyProof.Rows L2
end B
namespace B
open PySem PySem.Spec PyProof.Rows L2
section
variable {prog : Program} {w : World} {A : Around} {E : Value → Shared → Prop} {s : Shared} {q ti tt j1 j2 j3 : Addr} {f1 f2 f3 : List Addr} {n1 n2 n3 i : Nat} {P1 P2 P3 : Nat → Value → Prop} {S1 S2 S3 : Nat → Heap → Prop}
end
section
variable {X : Cx} {pins : List (Addr × Obj)} {σ : L2.St} {H : Hp} {s : Shared} {k1 k2 k3 : Kd} {v1 v2 v3 : V} {u1 u2 u3 : Value} {N i : Nat} {xs ys zs : List V}
end
end B
namespace B
open PySem PySem.Spec PyProof.Rows L2
section
variable {β : Type} {J : It} {n : Nat} {G : Hp → Prop} {Y : Nat → Hp → V → Hp → Prop} {K : PySem.W.Frag}
end
end B
namespace B
open PySem PySem.Spec PyProof.Rows L2
section
variable {prog : Program} {w : World} {A : Around} {E : Value → Shared → Prop} {s : Shared} {q ti tt j1 j2 : Addr} {f1 f2 : List Addr} {n1 n2 i : Nat} {P1 P2 : Nat → Value → Prop} {S1 S2 : Nat → Heap → Prop}
end
section
variable {X : Cx} {pins : List (Addr × Obj)} {σ : L2.St} {H : Hp} {s : Shared} {k1 k2 : Kd} {v1 v2 : V} {u1 u2 : Value} {N i : Nat} {xs ys : List V}
end
end B
namespace B
open PySem PySem.Spec PyProof.Rows L2
end B
namespace B
open PySem PySem.Spec PyProof.Rows L2
section
variable {G : Gn} {left : List Nat} {tab : List (Option (Int × Nat))}
end
end B
namespace B
open PySem PySem.Spec PyProof.Rows L2
section
variable {G : Gn} {ps mo : List (Int × Nat)} {tab : List (Option (Int × Nat))} {left all : List Nat} {L : List (List (Int × Nat))}
end
end B
namespace B
open PySem PySem.Spec PyProof.Rows L2
section
variable {G : Gn} {ps : List (Int × Nat)} {tab : List (Option (Int × Nat))} {ns : List Nat} {L : List (List (Int × Nat))}
end
end B
namespace B
open PySem PySem.Spec PyProof.Rows L2
section
variable {n m : Nat} {A : Nat → Nat → Int} {w bb : Nat → Int} {b : Bo}
end
section
variable {G : Gn} {ps mo : List (Int × Nat)} {tab : List (Option (Int × Nat))} {left all : List Nat} {L : List (List (Int × Nat))} {B : Nat}
end
end B
namespace B
open PySem PySem.Spec PyProof.Rows L2
section
variable {G : Gn} {ps : List (Int × Nat)} {ns : List Nat} {tab : List (Option (Int × Nat))} {D M B k : Nat}
end
section
variable {cs : List Nat} {wl : List (List Bool)} {bds : List Bd} {ts : List Tm} {g : List Wd} {e h z B : Nat}
end
section
variable {cs : List Nat} {wl : List (List Bool)} {bds : List Bd} {e B : Nat}
end
end B
namespace B
open PySem PySem.Spec PyProof.Rows L2
section
variable {cs : List Nat} {wl : List (List Bool)} {bds : List Bd} {ts : List Tm} {g : List Wd} {e h z B : Nat}
variable {x : (Int × Nat) × List (List (Int × Nat)) × List (Int × Nat) × List (Int × Nat)}
end
end B
namespace B
open PySem PySem.Spec PyProof.Rows L2
def rEqT0 (K : PySem.W.Frag) : R2 := fun x y H Q => ∃ a b xs, x = .ref a ∧ y = .ref b ∧ SqT K H a xs ∧ SqT K H b [] ∧ Q (.bl xs.isEmpty) H
def rNeT0 (K : PySem.W.Frag) : R2 := fun x y H Q => ∃ a b xs, x = .ref a ∧ y = .ref b ∧ SqT K H a xs ∧ SqT K H b [] ∧ Q (.bl !xs.isEmpty) H
theorem zero_same {α β : Type} {xs : List α} {its : Array β} (h : xs.length = its.size) : ((List.range (min its.size 0)).all (fun _ => true) && its.size == 0) = xs.isEmpty := by
  rw [Nat.min_zero, ← h]
  cases xs <;> rfl
theorem op_eqT0 {X : Cx} (hu : X.A.units + 64 < cLine) : OpR X (compareOp .Eq) (rEqT0 X.K) := by
  intro pins s σ H x y v u Q I rx ry h
  obtain ⟨a, b, xs, rfl, rfl, ha, hb, q⟩ := h
  obtain rfl : v = Value.ref a := rx
  obtain rfl : u = Value.ref b := ry
  obtain ⟨its, rv, hA, _⟩ := I.tuple ha
  obtain ⟨its2, rv2, hB, _⟩ := I.tuple hb
  have e1 := rv.length
  have e2 := rv2.length
  have z : its2.toArray.size = 0 := by rw [List.size_toArray, ← e2]; rfl
  show wpAny (model X.prog X.w) X.A (richCompare .Eq (.ref a) (.ref b)) _ _ s
  refine PySem.SeqAt.RcAt.tuples (e := fun _ => true) hA hB (by omega) (fun j h1 h2 => by omega) X.prog X.w _ _ ?_
  rw [z, zero_same (xs := xs) (by rw [List.size_toArray]; exact e1)]
  exact ⟨.bl xs.isEmpty, H, I, rfl, q⟩
theorem op_neT0 {X : Cx} (hu : X.A.units + 64 < cLine) : OpR X (compareOp .NotEq) (rNeT0 X.K) := by
  intro pins s σ H x y v u Q I rx ry h
  obtain ⟨a, b, xs, rfl, rfl, ha, hb, q⟩ := h
  obtain rfl : v = Value.ref a := rx
  obtain rfl : u = Value.ref b := ry
  obtain ⟨its, rv, hA, _⟩ := I.tuple ha
  obtain ⟨its2, rv2, hB, _⟩ := I.tuple hb
  have e1 := rv.length
  have e2 := rv2.length
  have z : its2.toArray.size = 0 := by rw [List.size_toArray, ← e2]; rfl
  show wpAny (model X.prog X.w) X.A (richCompare .NotEq (.ref a) (.ref b)) _ _ s
  refine PySem.SeqAt.RcNeAt.tuples (e := fun _ => true) hA hB (by omega) (fun j h1 h2 => by omega) X.prog X.w _ _ ?_
  rw [z, zero_same (xs := xs) (by rw [List.size_toArray]; exact e1)]
  exact ⟨.bl !xs.isEmpty, H, I, rfl, q⟩
end B
namespace B
open PySem PySem.Spec PyProof.Rows L2
section
variable {cs : List Nat} {wl : List (List Bool)} {L : List (List (Int × Nat))} {D M : Nat}
end
section
variable {cs : List Nat} {wl : List (List Bool)} {L : List (List (Int × Nat))} {G : Nat} {bds : List Bd} {x : Bd}
end
section
variable {cs : List Nat} {wl : List (List Bool)} {bds bds' : List Bd} {ts : List Tm} {g : List Wd} {e h z B e' h' z' B' : Nat} {x y : (Int × Nat) × List (List (Int × Nat)) × List (Int × Nat) × List (Int × Nat)}
end
end B
namespace B
open PySem PySem.Spec PyProof.Rows L2
end B
namespace B
open PySem PySem.Spec PyProof.Rows L2
end B
namespace B
open PySem PySem.Spec PyProof.Rows L2
theorem room65 {k : Nat} {A : Around} (r : Room k A) : A.units + 65 < cLine := by have := r.un; omega
def rNotInDT (K : PySem.W.Frag) : R2 := fun x y H Q => ∃ d ds, Dp K H x d ∧ Dp K H y (.tuple ds) ∧ SeqAt.shaped d = true ∧ SeqAt.shaped (.tuple ds) = true ∧ Q (.bl (!ds.any fun z => PyData.eqv z d)) H
theorem op_notInDT {X : Cx} (hu : X.A.units + 65 < cLine) : OpR X (compareOp .NotIn) (rNotInDT X.K) := by
  intro pins s σ H x y v u Q I rx ry h
  obtain ⟨d, ds, hd, he, sd, se, q⟩ := h
  obtain ⟨as, r1⟩ := Dp.reads I d x v hd rx
  obtain ⟨bs, r2⟩ := Dp.reads I (.tuple ds) y u he ry
  exact SeqAt.notIn_tuple_reads r2 r1 (SeqAt.canLay_of_shaped se) (SeqAt.canLay_of_shaped sd) (room_in_shaped sd hu) ⟨.bl _, H, I, rfl, q⟩
section
variable {cs : List Nat} {wl : List (List Bool)} {bds : List Bd} {e B : Nat}
end
section
variable {cs : List Nat} {wl : List (List Bool)} {bds : List Bd} {ts : List Tm} {g : List Wd} {e h z B : Nat} {x : (Int × Nat) × List (List (Int × Nat)) × List (Int × Nat) × List (Int × Nat)}
end
section
variable {cs : List Nat} {wl : List (List Bool)} {L : List (List (Int × Nat))} {bds : List Bd}
end
end B
namespace B
open PySem PySem.Spec PyProof.Rows L2
section
variable {cs : List Nat} {wl : List (List Bool)} {L : List (List (Int × Nat))} {A X S : Nat} {bds : List Bd} {x : Bd}
end
section
variable {cs : List Nat} {wl : List (List Bool)} {bds bds' : List Bd} {ts : List Tm} {g : List Wd} {e h z B e' h' z' B' : Nat}
end
end B
namespace B
open PySem PySem.Spec PyProof.Rows L2
section
variable {cs : List Nat} {wl : List (List Bool)} {bds : List Bd} {L : List (List (Int × Nat))}
end
end B
namespace B
open PySem PySem.Spec PyProof.Rows L2
section
variable {cs : List Nat} {wl : List (List Bool)} {bds : List Bd} {L : List (List (Int × Nat))}
end
end B
namespace B
open PySem PySem.Spec PyProof.Rows L2
section
variable {cs : List Nat} {wl : List (List Bool)} {bds bds' : List Bd} {ts : List Tm} {g : List Wd} {e h z B e' h' z' B' : Nat} {L : List (List (Int × Nat))}
end
section
variable {cs : List Nat} {wl : List (List Bool)} {bds : List Bd} {ts : List Tm} {g g0 : List Wd} {p : Int × Nat} {n m : Nat} {L : List (List (Int × Nat))}
variable {z : Nat}
end
end B
namespace B
open PySem PySem.Spec PyProof.Rows L2
section
variable {cs : List Nat} {wl : List (List Bool)} {bds : List Bd}
end
end B
namespace B
open PySem PySem.Spec PyProof.Rows L2
section
variable {cs : List Nat} {wl : List (List Bool)} {ts : List Tm} {g : List Wd} {p lo hi : Int × Nat} {e h z B e' h' z' B' : Nat} {x y : (Int × Nat) × List (List (Int × Nat)) × List (Int × Nat) × List (Int × Nat)}
end
end B
namespace B
open PySem PySem.Spec PyProof.Rows L2
/-- a contract that speaks of the error: its address, its class, its dict -/
abbrev SpE := Addr → Value → Option Addr → Sp
/-- such a def's promise -/
structure FnE (P : Program) (w : World) (K : PySem.W.Frag) (mg : Str → Option Value) (base : Heap) (k : Nat) (f : Addr) (fd : FuncData) (ps : List Str) (sp : SpE) : Prop where
  arity : ∀ a cls d vs H Q E, sp a cls d vs H Q E → vs.length = ps.length
  go : ∀ (A : Around) (out : List Env) (s : Shared) (H : Hp) (ar : Args) (us : List Value) (vs : List V) (Q : VK) (E : XK) (a : Addr) (oe : Obj) (cls : Value) (d : Option Addr), L2H.RoomH k A → Zc cls d oe → (∃ fs, oe.data = .fields fs) → L2H.PinOk out H s (a, oe) →
    Env0 P w K mg base A out s H → BindsTo s fd ar (ps.zip us) → Vals vs us → sp a cls d vs H Q E → codeAny (model P w) A (.call (.ref f) ar) (CR CX0 out P w H s Q E) s
section
variable {P : Program} {w : World} {K : PySem.W.Frag} {mg : Str → Option Value} {base : Heap}
/-- by its body, in which the error is pinned -/
theorem fun_okE {x qual : Str} {st : Stmt} {f : Addr} {fd : FuncData} {N ps : List Str} {k : Nat} {sp : SpE} (F : Fun K x qual st f fd) (S : FnScope N ps (defScope st)) (ln : ∀ a cls d vs H Q E, sp a cls d vs H Q E → vs.length = ps.length)
    (body : ∀ (cdv : Value) (A : Around) (outer : List Env) (s : Shared) (H : Hp) (vs : List V) (Q : VK) (E : XK) (a : Addr) (oe : Obj) (cls : Value) (d : Option Addr), L2H.RoomH k (A.deeper (envOfC qual (defScope st) s.heap.objs.size f cdv)) → Zc cls d oe → (∃ fs, oe.data = .fields fs) → sp a cls d vs H Q E →
      ∃ t, PSs (L2H.cxH CX0 P w K mg base N qual (defScope st) f cdv A outer s H E (a, oe)).nox (defBody st) t ∧ t { nx := fun _ H' => Q .non H', rt := Q } (start N vs) H) :
    FnE P w K mg base (k + 1) f fd ps sp := by
  obtain ⟨oc, od, kV, doc, pm, an, cv, ct, sl, rfl, look, code⟩ := F.ex
  constructor
  · exact ln
  intro A out s H ar us vs Q E a oe cls d room hz hf pin e0 hb rel want
  have up : ∀ b o, base.get? b = some o → s.heap.get? b = some o := fun b o q => (e0.bs b o q).1
  have inK := e0.mod.kin.keeps up
  refine codeAny_call_function room.depth (inK _ _ look) rfl S.co S.gen rfl (PySem.W.codeRec_of inK code) (hb _ _ _ _ ?_)
  have kinds : ∀ y ∈ ps.zip us, (defScope st).names.lookup y.1 = some .local ∨
      ((defScope st).names.lookup y.1 = some .cell ∧ ((cellsFrom (s.heap.objs.size + 1) (defScope st).names []).lookup y.1).isSome = true) := by
    intro y hy
    have par := S.par y.1 (List.of_mem_zip (a := y.1) (b := y.2) hy).1
    exact par.imp id fun c => ⟨c, PySem.W.cellsFrom_some _ _ _ (.inl c)⟩
  refine wpAny_newFunctionEnv_cells S.kind kinds fun env same s1 inC => ?_
  cases same
  refine ⟨(e0.mod.nolimit.keeps up).keeps inC.toInCall.keep, codeAny_func ?_⟩
  obtain ⟨t, tb, tq⟩ := body cv A out s H vs Q E a oe cls d (room.deeper _) hz hf want
  have J0 := L2H.inv_startH (CX := CX0) (E := E) S pin e0 (ln _ _ _ _ _ _ _ want) rel inC
  refine wpAny_mono (tb.nox.run [] s1 (start N vs) H _ J0 tq) ?_ fun _ _ h => h
  intro fl s2 h2
  cases fl
  case ret u => obtain ⟨v, _, H2, J, rv, q⟩ := h2; exact ⟨v, H2, J.os, J.bare, J.base, J.hok, rv, q⟩
  case next => obtain ⟨_, H2, J, q⟩ := h2; exact ⟨V.non, H2, J.os, J.bare, J.base, J.hok, rfl, q⟩
  case brk => exact h2.elim fun _ a => a.elim fun _ b => b.2.elim
  case cont => exact h2.elim fun _ a => a.elim fun _ b => b.2.elim
end
section
variable {X : Cx} {a : Addr} {oe : Obj} {cls : Value} {d : Option Addr} {pn : List (Addr × Obj)}
/-- f(e, ..) within the suite, f such a def -/
theorem pe_callE {k : Nat} {f : Addr} {fd : FuncData} {ps : List Str} {sp : SpE} {x : Str} {p pos : Pos} {e : Expr} {es : List Expr} {t : TA} (hz : Zc cls d oe) (hf : ∃ fs, oe.data = .fields fs) (F : FnE X.prog X.w X.K X.mg X.base k f fd ps sp) (room : L2H.RoomH k X.A) (gl : Gl (X.suite a ((a, oe) :: pn)) x)
    (at_ : X.mg x = some (.ref f)) (kp : PySem.W.keepIn X.K (.ref f) = true) (bd : Binds X.K fd ps []) (ha : PA (X.suite a ((a, oe) :: pn)) (e :: es) t)
    (nd : (x == ("__debug__" : Str)) = false := by decide) (st : starEach (e :: es) X.env = (false, eval e X.env) :: starEach es X.env := by rfl) (nst : (backTo pos (starEach es X.env)).any (·.1) = false := by rfl) :
    PE (X.suite a ((a, oe) :: pn)) (.Call (.Name x p) (e :: es) [] pos) (tCall (sp a cls d) [] E0 t) := by
  constructor
  intro pins s σ H Q I want
  refine wpAny_Call_Name_kw (ld_glob I gl at_ ?_ nd)
  refine PySem.W.callWith_K (h₀ := X.base) I.ok.mod.kin kp ?_ st nst
  refine thn (ha.run pos pins s σ H _ I want) ?_
  rintro us s1 ⟨vs, H1, J, rel, q⟩
  rw [List.append_nil] at q
  have hl : us.length = ps.length := rel.length.symm.trans (F.arity _ _ _ _ _ _ _ q)
  have bind := bd s1 us J.kIn (by simpa using hl)
  rw [List.append_nil] at bind
  have here := J.pin (a, oe) (List.mem_append.mpr (.inl List.mem_cons_self))
  have pin : L2H.PinOk (X.suite a ((a, oe) :: pn)).stack H1 s1 (a, oe) := ⟨here.1, here.2.1, fun m => (List.mem_cons.mp (J.stkSub a m)).elim here.2.2.1 here.2.2.2.1, here.2.2.2.2⟩
  refine ⟨J.kIn, wpAny_call (codeAny_mono (F.go (X.suite a ((a, oe) :: pn)).A (X.suite a ((a, oe) :: pn)).stack s1 H1 ⟨us, []⟩ us vs Q E0 a oe cls d ⟨room.dp, room.un⟩ hz hf pin J.env0 bind rel q) ?_)⟩
  intro r s2 h2
  match r, h2 with
  | .error _, h2 => exact h2.elim
  | .ok .next, h2 => exact h2.elim
  | .ok .brk, h2 => exact h2.elim
  | .ok .cont, h2 => exact h2.elim
  | .ok (.ret u), h2 =>
    obtain ⟨v, H2, os, bare, un, hok, rv, q2⟩ := h2
    exact ⟨v, H2, J.call' os un hok bare (fun _ h => absurd h (by simp)), rv, q2⟩
/-- isinstance(e, c), e the error that is pinned -/
theorem call_isE (hm : (a, oe) ∈ X.pn) (hz : Zc cls d oe) (hf : ∃ vs, oe.data = .fields vs) : CallR X (.builtin "isinstance") (rIsX X.K a cls d) := by
  rintro pins s σ H xs us Q I r ⟨D, c, cv, b, rfl, dok, ec, rfl, hc, e, q⟩
  obtain ⟨u1, u2, rfl, r1, r2⟩ := vals2 r
  cases (show u1 = Value.ref a from r1)
  cases ClsV.eq hc r2
  have got := (I.pin (a, oe) (List.mem_append.mpr (.inl hm))).1
  obtain ⟨vs, hv⟩ := hf
  obtain ⟨od, J⟩ := inst_at I got hz hv dok
  exact PySem.W.kia_one (kit_of ec) I.kIn J e (fun z => nomatch z) fun tk => ⟨.bl b, H, I.kept (t' := tk) fun _ _ z => z, rfl, q⟩
theorem call_isET (hm : (a, oe) ∈ X.pn) (hz : Zc cls d oe) (hf : ∃ vs, oe.data = .fields vs) : CallR X (.builtin "isinstance") (rIsXT X.K a cls d) := by
  rintro pins s σ H xs us Q I r ⟨D, tp, cs, ws, b, rfl, dok, ec, rfl, ht, hp, e, q⟩
  obtain ⟨u1, u2, rfl, r1, r2⟩ := vals2 r
  cases (show u1 = Value.ref a from r1)
  cases (show u2 = Value.ref tp from r2)
  have got := (I.pin (a, oe) (List.mem_append.mpr (.inl hm))).1
  obtain ⟨vs, hv⟩ := hf
  obtain ⟨od, J⟩ := inst_at I got hz hv dok
  obtain ⟨_, its, rv, o, h1, h2, n, h3⟩ := (show ObjOk X.prog X.w H s.heap tp (.tup cs) from I.hok tp _ ht)
  cases ClsV.all hp rv
  obtain ⟨oc, ods, dt, sl⟩ := o
  cases (show oc = Value.type "tuple" from h2)
  cases (show dt = _ from h3)
  exact PySem.W.kia_tup (kit_of ec) I.kIn J h1 e (fun z => nomatch z) fun tk => ⟨.bl b, H, I.kept (t' := tk) fun _ _ z => z, rfl, q⟩
/-- l.count(k), a list of truths -/
def rCountB (K : PySem.W.Frag) : V → List V → Hp → VK → Prop := fun x xs H Q => ∃ (l : Addr) (bs : List Bool) (k : Bool), x = .ref l ∧ xs = [.bl k] ∧ SqL K H l (bs.map V.bl) ∧ Q (.int (countIn (.bool k) (bs.map PyData.bool))) H
theorem bools_read {h : Heap} : ∀ {bs : List Bool} {its : List Value}, Vals (bs.map V.bl) its → ReadsAll h its (bs.map PyData.bool) []
  | [], _, r => by cases r; exact .nil
  | b :: r, _, rel => by
    cases rel with
    | cons r1 r2 =>
      rename_i u us
      cases (show u = Value.bool b from r1)
      exact ReadsAll.cons (as := []) (bs := []) (.bool b) (bools_read r2)
theorem mt_countB : MtR X "list.count" (rCountB X.K) := by
  rintro pins s σ H _ _ _ _ Q I rx rxs ⟨l, bs, k, rfl, rfl, hl, q⟩
  cases rx
  cases rxs with
  | cons r1 r2 =>
    cases r2
    rename_i u
    cases (show u = Value.bool k from r1)
    obtain ⟨its, rel, pl, _⟩ := I.list hl
    exact count_list_bools pl.isList (bools_read (h := s.heap) rel) (by simp [List.all_eq_true, Shape.has]) ⟨.int _, H, I.tok _, ⟨_, rfl⟩, q⟩
end
/-- an error of the class of this name, and of none of the other fifteen but the class of all -/
def KindOf (K : PySem.W.Frag) (D : Addr) (nm : Str) : Prop := ∀ x ∈ (["TooLong", "TooMany", "NoWorld", "NotAlike", "Unfair", "Fair", "NoBet", "NoHolder", "NoStake", "NoTicket", "NoCover", "NoSaying", "NoDeed", "NoStep", "NoText"] : List Str), ∀ C, XIs K x C → PySem.W.kitOne K (.ref D) (.ref C) = some (x == nm)
end B
namespace B
open PySem PySem.Spec PyProof.Rows L2
section
variable {prog : Program} {w : World} {A : Around} {E : Value → Shared → Prop} {s : Shared}
end
section
variable {X : Cx} {q : Addr × Obj} {elt tg iter : Expr} {ifs : List Expr} {scope : Scope} {own : List (Str × Nat)} {pos : Pos} {g : TG} {tt : TT} {te : TE}
end
section
variable {P : Program} {w : World} {K : PySem.W.Frag} {mg : Str → Option Value} {base : Heap}
end
section
variable {X : Cx} {a : Addr} {oe : Obj} {cls : Value} {d : Option Addr} {pn : List (Addr × Obj)}
end
end B
namespace B
open PySem PySem.Spec PyProof.Rows L2
section
variable {m : Nat} {tab : List (Option (Int × Nat))}
end
end B
namespace B
open PySem PySem.Spec PyProof.Rows L2
section
variable {m : Nat} {tab tab' tab2 : List (Option (Int × Nat))} {w : List (Int × Nat)} {L : List (List (Int × Nat))} {R : Rat → Rat → Prop}
end
section
variable {cs : List Nat} {wl : List (List Bool)} {bds : List Bd} {tab tab' tab2 : List (Option (Int × Nat))} {lo hi lo' hi' lo2 hi2 : Int × Nat}
end
section
variable {cs : List Nat} {wl : List (List Bool)} {ts us : List Tm} {g h : List Wd} {R : Rat → Rat → Prop}
end
end B
namespace B
open PySem PySem.Spec PyProof.Rows L2
section
variable {cs ps : List Nat} {k : Nat} {x : Bd}
end
section
variable {cs ps : List Nat} {bds : List Bd} {ts : List Tm} {lo hi low high : Int × Nat}
end
section
variable {cs ps : List Nat} {bds : List Bd} {ts : List Tm} {lo hi low high : Int × Nat} {L : List (List (Int × Nat))}
end
def rNotInDL (K : PySem.W.Frag) : R2 := fun x y H Q => ∃ d ds, Dp K H x d ∧ Dp K H y (.list ds) ∧ SeqAt.shaped d = true ∧ SeqAt.shaped (.list ds) = true ∧ Q (.bl (!ds.any fun z => PyData.eqv z d)) H
theorem op_notInDL {X : Cx} (hu : X.A.units + 65 < cLine) : OpR X (compareOp .NotIn) (rNotInDL X.K) := by
  intro pins s σ H x y v u Q I rx ry h
  obtain ⟨d, ds, hd, he, sd, se, q⟩ := h
  obtain ⟨as, r1⟩ := Dp.reads I d x v hd rx
  obtain ⟨bs, r2⟩ := Dp.reads I (.list ds) y u he ry
  exact SeqAt.notIn_list_reads r2 r1 (SeqAt.canLay_of_shaped se) (SeqAt.canLay_of_shaped sd) (room_in_shaped sd hu) ⟨.bl _, H, I, rfl, q⟩
end B
namespace B
open PySem PySem.Spec PyProof.Rows L2
end B
namespace B
open PySem PySem.Spec PyProof.Rows L2
end B
namespace B
open PySem PySem.Spec PyProof.Rows L2
end B
namespace B
open PySem PySem.Spec PyProof.Rows L2
section
variable {P : List Bool → Bool} {f : List Bool → Option (Int × Nat)}
end
section
variable {cs : List Nat} {rs : List (List Wd)} {ws : List Wd} {L : List (List (Int × Nat))}
end
end B
namespace B
open PySem PySem.Spec PyProof.Rows L2
section
variable {cs : List Nat} {rs : List (List Wd)} {bds : List Bd} {ws : List Wd} {L M : List (List (Int × Nat))}
end
end B
namespace B
open PySem PySem.Spec PyProof.Rows L2
end B
namespace B
open PySem PySem.Spec PyProof.Rows L2
section
variable {cs : List Nat} {rs : List (List Wd)} {L : List (List (Int × Nat))} {kss : List (List Nat)} {bds : List Bd} {ws : List Wd}
end
end B
namespace B
open PySem PySem.Spec PyProof.Rows L2
section
variable {cs : List Nat} {wl : List (List Bool)} {bds : List Bd} {L : List (List (Int × Nat))} {st : List (Int × Nat)} {z : Nat}
end
end B
namespace B
open PySem PySem.Spec PyProof.Rows L2
end B
namespace B
open PySem PySem.Spec PyProof.Rows L2
end B
namespace B
open PySem PySem.Spec PyProof.Rows L2
end B
namespace B
open PySem PySem.Spec PyProof.Rows L2
def HeldX (X : Cx) (f : Addr) (sp : Sp) : Prop := ∃ (k : Nat) (fd : FuncData) (ps : List Str), FnOk X.prog X.w X.K X.mg X.base (L2.CX X.prog X.w) k f fd ps sp ∧ Room k X.A ∧ PySem.W.keepIn X.K (.ref f) = true ∧ Binds X.K fd ps []
def tCallV (i : Nat) (Hd : Addr → Sp → Prop) (E : L2.St → XK) (t : TA) : TE := fun σ H Q => ∃ f sp, σ[i]? = some (some (.ref f)) ∧ Hd f sp ∧ t σ H fun vs H1 => sp vs H1 Q (E σ)
theorem pe_callV {X : Cx} {i : Nat} {E : L2.St → XK} {x : Str} {p pos : Pos} {e : Expr} {es : List Expr} {t : TA} (hN : X.N[i]? = some x) (hv : Vis X.env.scope x) (hx : ∀ σ, PassesAt (L2.CX X.prog X.w) X σ (E σ)) (ha : PA X (e :: es) t)
    (hdb : (x == ("__debug__" : Str)) = false := by decide) (hcd : (x == ("__classdict__" : Str)) = false := by decide)
    (he : starEach (e :: es) X.env = (false, eval e X.env) :: starEach es X.env := by rfl) (hpl : (backTo pos (starEach es X.env)).any (·.1) = false := by rfl) : PE X (.Call (.Name x p) (e :: es) [] pos) (tCallV i (HeldX X) E t) := by
  refine ⟨fun pins s σ H Q I h => ?_⟩
  obtain ⟨f, sp, hs, ⟨k, fd, ps, F, hr, hk, hb⟩, ht⟩ := h
  refine wpAny_Call_Name_kw (thn ((pe_var (pos := p) hN hv hdb hcd).run pins s σ H (fun v H1 => v = .ref f ∧ H1 = H) I ⟨.ref f, hs, rfl, rfl⟩) fun u s1 ⟨v, H1, I1, r1, q1⟩ => ?_)
  obtain ⟨rfl, rfl⟩ := q1
  cases r1
  refine PySem.W.callWith_K (h₀ := X.base) I1.ok.mod.kin hk (thn (ha.run pos pins s1 σ _ _ I1 ht) fun us s2 ⟨vs, H2, I2, r, q⟩ => ⟨I2.kIn, ?_⟩) he hpl
  exact run_fnS F hr hb (hx σ) I2 r q
/-- d.get(key) of such a table -/
def tKGet (K : PySem.W.Frag) (d : Addr) (td ty : TE) : TE := fun σ H Q => td σ H fun x H1 => x = .ref d ∧ ty σ H1 fun y H2 => ∃ z, y = .str z ∧ ((∃ u v, PySem.W.nsIn K d z = some (some u) ∧ RelV v u ∧ Q v H2) ∨ (PySem.W.nsIn K d z = some none ∧ Q .non H2))
theorem pe_kget1 {X : Cx} {o e : Expr} {apos cpos : Pos} {td ty : TE} {d : Addr} {es : Array DictEntry} {n : Nat} (D : KDict X.K X.w d es n) (ho : PE X o td) (he : PE X e ty) (m : M1 X o "get" apos e cpos) : PE X (.Call (.Attribute o "get" apos) [e] [] cpos) (tKGet X.K d td ty) := by
  refine ⟨fun pins s σ H Q I h => ?_⟩
  refine wpAny_Call_method m.base m.few m.line PySem.F.plainAttrs_dict PySem.F.slot_dict_get PySem.F.type_dict_get (thn (ho.run pins s σ H _ I h) fun u s1 ⟨x, H1, I1, rx, ex, q1⟩ => ?_)
  subst ex
  obtain rfl : u = Value.ref d := rx
  refine ⟨kd_type D I1, fun b q => ?_, ?_⟩
  · cases q
    exact ⟨_, I1.kIn _ _ D.at_, rfl⟩
  rw [m.trees]
  refine Calls.callWith_builtin rfl (Calls.evalArgs_plain (Calls.spliced_cons (thn (he.run pins s1 σ H1 _ I1 q1) fun iv s2 ⟨y, H2, I2, ry, z, ey, q2⟩ => Calls.spliced_nil ?_)))
  subst ey
  obtain ⟨t, rfl⟩ := ry
  refine call_meetsIn PySem.F.slot_dict_get (kd_type D I2) PySem.F.entry_dict_get (PySem.F.args_dict_get_2 _ _) (meets_dict_get (strKind X.prog X.w) d (PySem.strKind_is X.prog X.w z t) D.low) ⟨_, PySem.W.mapOf_K (prog := X.prog) I2.kIn D.at_ D.lit, ?_⟩
  rcases q2 with ⟨u, v, e, r, q⟩ | ⟨e, q⟩
  · rw [PySem.W.find_K D.at_ e]
    exact ⟨v, H2, I2.tok _, r, q⟩
  · rw [PySem.W.find_K D.at_ e]
    exact ⟨.non, H2, I2.tok _, rfl, q⟩
end B
namespace B
open PySem PySem.Spec PyProof.Rows L2
def Std.add (S : Std) (t : Tkt) : Std := ⟨S.cs, S.rs, S.ps, S.ts ++ [t], S.bs, S.m + 1⟩
/-- a refusal, or a stand -/
abbrev Out := Str ⊕ Std
def wtO (S : Std) (t : Tkt) : Out := if 12 < S.ts.length + 1 then .inl "TooMany" else if covB S.cs (wor S.cs S.rs) S.ps (S.ts ++ [t]) = false then .inl "NoCover" else .inr (S.add t)
def OutR (K : PySem.W.Frag) (o : Out) (m : Nat) (H : Hp) (Q : VK) (E : XK) : Prop := match o with
  | .inl nm => ∀ C, XIs K nm C → ∀ d H', DOk H' d → Same H H' → E (.ref C) d H'
  | .inr S => ∀ (H' : Hp) (r sp : Addr), SqT K H' r [.int m, .ref sp] → StdAt K H' sp S → Same H H' → Q (.ref r) H'
theorem OutR.same {K : PySem.W.Frag} {o : Out} {m : Nat} {H H1 : Hp} {Q : VK} {E : XK} (h : OutR K o m H Q E) (s : Same H H1) : OutR K o m H1 Q E := by
  unfold OutR at h ⊢
  cases o with
  | inl nm => exact fun C c d H' dk s' => h C c d H' dk (s.trans s')
  | inr S => exact fun H' r sp a b s' => h H' r sp a b (s.trans s')
def wayO (S : Std) : Str ⊕ Tkt → Out
  | .inl nm => .inl nm
  | .inr t => wtO S t
end B
namespace B
open PySem PySem.Spec PyProof.Rows L2
theorem pl_inv {m : Int} {d : PyData} (h : isPl m d = true) : ∃ i : Nat, d = .int (i : Int) ∧ (i : Int) < m := by
  cases d with
  | int i =>
    have h : (decide (0 ≤ i) && decide (i < m)) = true := h
    rw [Bool.and_eq_true, decide_eq_true_eq, decide_eq_true_eq] at h
    obtain ⟨n, rfl⟩ := Int.eq_ofNat_of_zero_le h.1
    exact ⟨n, rfl, h.2⟩
  | _ => exact nomatch (show false = true from h)
theorem two_inv {m : Int} {d d' : PyData} (h : isTwo m d d' = true) : ∃ i j : Nat, d = .int (i : Int) ∧ d' = .int (j : Int) ∧ (i : Int) < m ∧ (j : Int) < m ∧ i ≠ j := by
  cases d with
  | int i =>
    cases d' with
    | int j =>
      have h : (isPl m (.int i) && (isPl m (.int j) && decide (i ≠ j))) = true := h
      rw [Bool.and_eq_true, Bool.and_eq_true, decide_eq_true_eq] at h
      obtain ⟨a, b, c⟩ := h
      obtain ⟨x, ex, lx⟩ := pl_inv a
      obtain ⟨y, ey, ly⟩ := pl_inv b
      exact ⟨x, y, ex, ey, lx, ly, fun z => c (by injection ex with e1; injection ey with e2; omega)⟩
    | _ => exact nomatch (show false = true from h)
  | _ => cases d' <;> exact nomatch (show false = true from h)
end B
namespace B
open PySem PySem.Spec PyProof.Rows L2
theorem wt_name {S : Std} {t : Tkt} {nm : Str} (h : wtO S t = .inl nm) : nm = "TooMany" ∨ nm = "NoCover" := by
  unfold wtO at h
  split at h
  · injection h with h
    exact .inl h.symm
  · split at h
    · injection h with h
      exact .inr h.symm
    · cases h
end B
namespace B
open PySem PySem.Spec PyProof.Rows L2
def stdD (S : Std) : PyData := .tuple [hdat S.cs S.rs, .tuple (S.ps.map fdat), .tuple (S.ts.map tkdat), .tuple (S.bs.map fun b => .tuple (b.map kdat)), .int S.m]
theorem StdAt.dq {K : PySem.W.Frag} {H : Hp} {a : Addr} {S : Std} (h : StdAt K H a S) : Dq K H (.ref a) (stdD S) := by
  obtain ⟨h, p, t, l, pvs, tvs, lvs, t1, t2, t3, t4, t5, t6, t7, t8⟩ := h
  exact .tup t1 (.cons (dq_dp (hdp t2)) (.cons (.tup t3 (fas_dq t4)) (.cons (.tup t5 (dqAll_dp (t6.dp fun _ _ q => q.dp))) (.cons (.tup t7 (bss_dq t8)) (.cons (.int _) .nil)))))
end B
namespace B
open PySem PySem.Spec PyProof.Rows L2
/-- a stand in which j sales were made, over a common bottom D -/
structure StdB (S : Std) (j D : Nat) : Prop where
  h : HsOk S.cs S.rs
  w : wor S.cs S.rs ≠ []
  p2 : 2 ≤ S.ps.length
  p6 : S.ps.length ≤ 6
  t : ∀ t ∈ S.ts, TkOk S.cs t ∧ t.l < S.ps.length ∧ t.s < S.ps.length
  d0 : 0 < D
  d : D < 2 ^ (32 + 180 * j)
  tz : ∀ v : Nat → Bool, ∀ t ∈ S.ts, Fb D (2 ^ (61 + 110 * j)) (brF v t)
  pz : ∀ p ∈ S.ps, Fb D (2 ^ (61 + 110 * j)) p
  n : S.ts.length ≤ 13
  b : S.bs.length = S.ps.length
  bl : ∀ bds ∈ S.bs, bds.length ≤ 6 ∧ ∀ x ∈ bds, BwOk S.cs x.ts x.g ∧ Fb 42000000 (2 ^ 46) x.p
theorem StdB.wz {S : Std} {j D : Nat} (h : StdB S j D) (j5 : j ≤ 5) (v : Nat → Bool) : WzOk D (2 ^ (61 + 110 * j)) v S.ps S.ts := ⟨h.tz v, h.pz, h.d0, Nat.lt_of_lt_of_le h.d (Nat.pow_le_pow_right (by decide) (by omega)), by
  have n := h.n
  refine Nat.le_trans (Nat.mul_le_mul_right _ (show 2 * S.ts.length + 1 ≤ 2 ^ 5 by omega)) ?_
  rw [← Nat.pow_add]
  exact Nat.pow_le_pow_right (by decide) (by omega)⟩
theorem StdB.ok {S : Std} {j D : Nat} (h : StdB S j D) (j5 : j ≤ 5) : StdOk D (2 ^ (61 + 110 * j)) S := ⟨h.h, h.p2, h.p6, h.t, fun _ _ => h.wz j5 _, by have := h.n; omega⟩
theorem StdB.up {S : Std} {j D : Nat} (h : StdB S j D) : StdB S (j + 1) D := ⟨h.h, h.w, h.p2, h.p6, h.t, h.d0, Nat.lt_of_lt_of_le h.d (Nat.pow_le_pow_right (by decide) (by omega)), fun v t ht => (h.tz v t ht).up (Nat.dvd_refl _) (Nat.pow_le_pow_right (by decide) (by omega)), fun p hp => (h.pz p hp).up (Nat.dvd_refl _) (Nat.pow_le_pow_right (by decide) (by omega)), h.n, h.b, h.bl⟩
/-- a stake that fits such a stand -/
def StkG (D j : Nat) (k : Int × Nat) : Prop := ∃ E, 0 < E ∧ E < 2 ^ 130 ∧ Fb (D * E) (2 ^ (116 + 110 * j)) k
theorem StkG.fok {D j : Nat} {k : Int × Nat} (d0 : 0 < D) (d : D < 2 ^ (32 + 180 * j)) (j4 : j ≤ 4) (h : StkG D j k) : Fok 6000 k := by
  obtain ⟨E, e0, e1, f⟩ := h
  refine (f.fok (a := 32 + 180 * j + 130) (c := 116 + 110 * j) (Nat.mul_pos d0 e0) ?_ (Nat.le_refl _)).up (by omega)
  rw [Nat.pow_add]
  exact Nat.mul_lt_mul'' d e1
/-- what a bid brings, staked once -/
theorem unit_fb {cs : List Nat} {x : Bd} {n l s : Nat} (hb : BwOk cs x.ts x.g) (hp : Fb 42000000 (2 ^ 46) x.p) (v : Nat → Bool) {p : Int × Nat} (e : payO v x.ts x.g = some p) : Fb 42000000 (2 ^ 47) (subF p x.p) := by
  have h : Fb 42000000 (2 ^ 45) p := by rw [payO_some e]; exact (hb.pay v).up (by decide) (Nat.le_refl _)
  exact (h.add hp.neg (by decide)).up (Nat.dvd_refl _) (by decide)
theorem stk_br {cs : List Nat} {D E N : Nat} {t : Tkt} (hb : BwOk cs t.b.ts t.b.g) (hp : Fb 42000000 (2 ^ 46) t.b.p) (hk : Fb E N t.k) (v : Nat → Bool) : Fb (E * 42000000) (N * 2 ^ 47) (brF v t) := by
  unfold brF
  cases e : payO v t.b.ts t.b.g with
  | none => exact Fb.zero
  | some p => exact hk.mul (unit_fb (n := 0) (l := 0) (s := 0) hb hp v e)
/-- one sale more -/
theorem StdB.sell {S : Std} {j D : Nat} {t : Tkt} (h : StdB S j D) (j4 : j ≤ 4) (n12 : S.ts.length ≤ 12) (hb : BwOk S.cs t.b.ts t.b.g) (hp : Fb 42000000 (2 ^ 46) t.b.p) (hk : StkG D j t.k) (hl : t.l < S.ps.length) (hs : t.s < S.ps.length) : ∃ D', StdB (S.add t) (j + 1) D' := by
  have fk := hk.fok h.d0 h.d j4
  obtain ⟨E, e0, e1, f⟩ := hk
  have dv : D ∣ D * E * 42000000 := by rw [Nat.mul_assoc]; exact Nat.dvd_mul_right _ _
  have lg : 2 ^ (61 + 110 * j) ≤ 2 ^ (61 + 110 * (j + 1)) := Nat.pow_le_pow_right (by decide) (by omega)
  refine ⟨D * E * 42000000, h.h, h.w, h.p2, h.p6, fun x hx => ?_, Nat.mul_pos (Nat.mul_pos h.d0 e0) (by decide), ?_, fun v x hx => ?_, fun p hp => (h.pz p hp).up dv lg, ?_, h.b, h.bl⟩
  · rcases List.mem_append.mp (show x ∈ S.ts ++ [t] from hx) with z | z
    · exact h.t x z
    · rw [List.mem_singleton.mp z]
      exact ⟨⟨⟨hb.ok, fun v => ((hb.pay v).fok (a := 23) (c := 45) (by decide) (by decide) (by decide)).up (by decide), (hp.fok (a := 26) (c := 46) (by decide) (by decide) (by decide)).up (by decide)⟩, fk⟩, hl, hs⟩
  · refine Nat.lt_of_lt_of_le (Nat.mul_lt_mul'' (Nat.mul_lt_mul'' h.d e1) (show 42000000 < 2 ^ 26 by decide)) ?_
    rw [← Nat.pow_add, ← Nat.pow_add]
    exact Nat.pow_le_pow_right (by decide) (by omega)
  · rcases List.mem_append.mp (show x ∈ S.ts ++ [t] from hx) with z | z
    · exact (h.tz v x z).up dv lg
    · rw [List.mem_singleton.mp z]
      refine (stk_br (D := D) hb hp f v).up (Nat.dvd_refl _) ?_
      rw [← Nat.pow_add]
      exact Nat.pow_le_pow_right (by decide) (by omega)
  · show (S.ts ++ [t]).length ≤ 13
    rw [List.length_append, List.length_singleton]
    omega
end B
namespace B
open PySem PySem.Spec PyProof.Rows L2
end B
namespace B
open PySem PySem.Spec PyProof.Rows L2
/-- what comes of a deal: refused, or a ticket -/
inductive DealR (K : PySem.W.Frag) (H : Hp) (S : Std) (v3 : V) : PyData → PyData → PyData → PyData → PyData → Str ⊕ Tkt → Prop
  | two {d1 d2 d3 d4 d5 : PyData} : isTwo S.ps.length d1 d2 = false → DealR K H S v3 d1 d2 d3 d4 d5 (.inl "NoHolder")
  | bet {d1 d2 d3 d4 d5 : PyData} : isTwo S.ps.length d1 d2 = true → livD S.cs S.rs d3 = false → DealR K H S v3 d1 d2 d3 d4 d5 (.inl "NoBet")
  | stake {d1 d2 d3 d4 d5 : PyData} : isTwo S.ps.length d1 d2 = true → livD S.cs S.rs d3 = true → (isFr d4 && isAb d5) = false → DealR K H S v3 d1 d2 d3 d4 d5 (.inl "NoStake")
  | ok {l s : Nat} {d3 : PyData} {ts : List Tm} {g : List Wd} {p k : Int × Nat} {b : Addr} : isTwo S.ps.length (.int (l : Int)) (.int (s : Int)) = true → livD S.cs S.rs d3 = true → v3 = .ref b → BtAt K H b ts g → isFr (fdat p) = true → isAb (fdat k) = true → DealR K H S v3 (.int (l : Int)) (.int (s : Int)) d3 (fdat p) (fdat k) (.inr ⟨S.m, l, s, ⟨ts, g, p⟩, k⟩)
theorem DealR.tk {K : PySem.W.Frag} {H H' : Hp} {S : Std} {v3 : V} {d1 d2 d3 d4 d5 : PyData} {o : Str ⊕ Tkt} (k : Tk K H H') (h : DealR K H S v3 d1 d2 d3 d4 d5 o) : DealR K H' S v3 d1 d2 d3 d4 d5 o := by
  cases h with
  | two a => exact .two a
  | bet a b => exact .bet a b
  | stake a b c => exact .stake a b c
  | ok a b c d e f => exact .ok a b c (d.mono k) e f
theorem DealR.name {K : PySem.W.Frag} {H : Hp} {S : Std} {v3 : V} {d1 d2 d3 d4 d5 : PyData} {o : Str ⊕ Tkt} (h : DealR K H S v3 d1 d2 d3 d4 d5 o) {nm : Str} (e : o = .inl nm) : nm = "NoHolder" ∨ nm = "NoBet" ∨ nm = "NoStake" := by
  cases h with
  | two a => injection e with e; exact .inl e.symm
  | bet a b => injection e with e; exact .inr (.inl e.symm)
  | stake a b c => injection e with e; exact .inr (.inr e.symm)
  | ok a b c d e' f => cases e
theorem way_nameD {K : PySem.W.Frag} {H : Hp} {S : Std} {v3 : V} {d1 d2 d3 d4 d5 : PyData} {o : Str ⊕ Tkt} (h : DealR K H S v3 d1 d2 d3 d4 d5 o) {nm : Str} (e : wayO S o = .inl nm) : nm = "NoHolder" ∨ nm = "NoBet" ∨ nm = "NoStake" ∨ nm = "TooMany" ∨ nm = "NoCover" := by
  cases o with
  | inl x =>
    injection e with e
    subst e
    rcases h.name rfl with h | h | h
    · exact .inl h
    · exact .inr (.inl h)
    · exact .inr (.inr (.inl h))
  | inr t =>
    rcases wt_name e with h | h
    · exact .inr (.inr (.inr (.inl h)))
    · exact .inr (.inr (.inr (.inr h)))
theorem th_pair {K : PySem.W.Frag} {H : Hp} {v : V} {p : Int × Nat} (h : Th K H v (fdat p)) : ∃ a : Addr, v = .ref a ∧ SqT K H a [.int p.1, .int p.2] := by
  cases h with
  | tup tA al =>
  cases al with
  | cons u1 al =>
  cases al with
  | cons u2 al =>
  cases al
  cases u1
  cases u2
  exact ⟨_, rfl, tA⟩
theorem seller_of {h r n : Nat} (lh : h < n) (lr : r + 1 < n) : ∃ g : Nat, ((h : Int) + 1 + (r : Int)) % (n : Int) = (g : Int) ∧ g < n ∧ g ≠ h := by
  have e : (h : Int) + 1 + (r : Int) = ((h + 1 + r : Nat) : Int) := by omega
  refine ⟨(h + 1 + r) % n, by rw [e]; exact (Int.natCast_emod _ _).symm, Nat.mod_lt _ (by omega), ?_⟩
  by_cases c : h + 1 + r < n
  · rw [Nat.mod_eq_of_lt c]
    omega
  · rw [Nat.mod_eq_sub_mod (by omega), Nat.mod_eq_of_lt (by omega)]
    omega
end B
namespace B
open PySem PySem.Spec PyProof.Rows L2
theorem liv_right {cs : List Nat} {rs : List (List Wd)} {ts : List Tm} {g : List Wd} (bw : BwOk cs ts g) (h : somes (tabO cs ts g (wor cs rs)) ≠ []) : livD cs rs (bdat ts g) = true ∧ szD (bdat ts g) = true := by
  obtain ⟨z1, z2, z3, z4⟩ := bw.r
  refine ⟨?_, szD_bdat (fun x hx => ⟨(z1.tm x hx).sy, by have := (z1.tm x hx).ln; omega⟩) (by omega) z1.sy (by omega)⟩
  unfold livD
  rw [isBtD_ok (fun x hx => ⟨(z1.tm x hx).a.f, (z1.tm x hx).sy, z3 x hx⟩) z2 z1.sy z4]
  show (true && (wor cs rs).any fun bs => sval (vl cs bs) (wdsD (wdat g))) = true
  rw [wdsD_wdat, somes_any h]
  rfl
theorem liv_dead {cs : List Nat} {rs : List (List Wd)} {ts : List Tm} : livD cs rs (bdat ts [.no]) = false := by
  unfold livD
  have : mayD cs rs (bdat ts [.no]) = false := by
    show ((wor cs rs).any fun bs => sval (vl cs bs) (wdsD (wdat [.no]))) = false
    rw [wdsD_wdat, List.any_eq_false]
    intro bs _
    exact Bool.false_ne_true
  rw [this, Bool.and_false]
theorem sz_dead {ts : List Tm} {g : List Wd} (h : szD (bdat ts g) = true) : szD (bdat ts [.no]) = true := szD_of (by show 2 ≤ 1000; decide) fun d hd => by
  simp only [List.mem_cons, List.not_mem_nil, or_false] at hd
  rcases hd with rfl | rfl
  · exact (szD_tup h).2 _ (by simp)
  · decide +kernel
theorem isTwo_low (n : Int) (h : Int) : isTwo n (.int h) (.int (-1)) = false := by
  show (isPl n (.int h) && (isPl n (.int (-1)) && decide (h ≠ -1))) = false
  rw [show isPl n (.int (-1)) = false from rfl, Bool.false_and, Bool.and_false]
theorem isTwo_eq (n : Int) (h : Int) : isTwo n (.int h) (.int h) = false := by
  show (isPl n (.int h) && (isPl n (.int h) && decide (h ≠ h))) = false
  rw [decide_eq_false (p := h ≠ h) (by omega), Bool.and_false, Bool.and_false]
end B
namespace B
open PySem PySem.Spec PyProof.Rows L2
theorem isPl_natD {l n : Nat} (h : l < n) : isPl (n : Int) (.int (l : Int)) = true := by
  show (decide ((0 : Int) ≤ l) && decide ((l : Int) < n)) = true
  rw [decide_eq_true (by omega), decide_eq_true (by omega)]
  rfl
theorem newD {H H' : Hp} {a : Addr} (s : Same H H') (n : H' a = none) : H a = none := by
  cases e : H a with
  | none => rfl
  | some o => rw [s _ _ e] at n; cases n
end B
namespace B
open PySem PySem.Spec PyProof.Rows L2
end B
namespace B
open PySem PySem.Spec PyProof.Rows L2
abbrev Wh := Str ⊕ (PyData × Std)
def OutG (K : PySem.W.Frag) (o : Wh) (H : Hp) (Q : VK) (E : XK) : Prop := match o with
  | .inl nm => ∀ C, XIs K nm C → ∀ d H', DOk H' d → Same H H' → E (.ref C) d H'
  | .inr x => ∀ (H' : Hp) (r sp : Addr) (u : V), SqT K H' r [u, .ref sp] → Dq K H' u x.1 → StdAt K H' sp x.2 → Same H H' → Q (.ref r) H'
theorem OutG.same {K : PySem.W.Frag} {o : Wh} {H H1 : Hp} {Q : VK} {E : XK} (h : OutG K o H Q E) (s : Same H H1) : OutG K o H1 Q E := by
  unfold OutG at h ⊢
  cases o with
  | inl nm => exact fun C c d H' dk s' => h C c d H' dk (s.trans s')
  | inr x => exact fun H' r sp u a b c s' => h H' r sp u a b c (s.trans s')
def OutGV (K : PySem.W.Frag) (H : Hp) (r : Addr) (o : Wh) : Prop := match o with
  | .inl nm => SqT K H r [.str nm, .non]
  | .inr x => ∃ (u : V) (sp : Addr), SqT K H r [u, .ref sp] ∧ Dq K H u x.1 ∧ StdAt K H sp x.2
def og1 : Wh → PyData
  | .inl nm => .str nm
  | .inr x => x.1
def og2 : Wh → PyData
  | .inl _ => .none
  | .inr x => stdD x.2
def ogD (o : Wh) : PyData := .tuple [og1 o, og2 o]
theorem OutGV.dq {K : PySem.W.Frag} {H : Hp} {r : Addr} : ∀ {o : Wh}, OutGV K H r o → Dq K H (.ref r) (ogD o)
  | .inl _, h => .tup h (.cons (.str _) (.cons .non .nil))
  | .inr _, ⟨_, _, h, u, k⟩ => .tup h (.cons u (.cons k.dq .nil))
/-- a stand told, where all are covered -/
def covO (t : PyData) (S : Std) : Wh := if covB S.cs (wor S.cs S.rs) S.ps S.ts = false then .inl "NoCover" else .inr (t, S)
/-- numbers rise, and holders are two -/
structure StdN (S : Std) : Prop where
  r : S.ts.Pairwise (fun a b => a.n < b.n)
  t : ∀ t ∈ S.ts, t.n < S.m ∧ t.l ≠ t.s
theorem StdN.uq {S : Std} (h : StdN S) : ∀ x ∈ S.ts, ∀ y ∈ S.ts, x.n = y.n → x = y := by
  intro x hx y hy e
  obtain ⟨i, hi, rfl⟩ := List.mem_iff_getElem.mp hx
  obtain ⟨j, hj, rfl⟩ := List.mem_iff_getElem.mp hy
  have hr := List.pairwise_iff_getElem.mp h.r
  rcases Nat.lt_trichotomy i j with c | c | c
  · have := hr i j hi hj c
    omega
  · subst c
    rfl
  · have := hr j i hj hi c
    omega
/-- an amount goes from one to another -/
def mvF (ps : List (Int × Nat)) (g k : Nat) (x : Int × Nat) : List (Int × Nat) :=
  let l := ps.set g (subF (ps.getD g (0, 1)) x)
  l.set k (addF (l.getD k (0, 1)) x)
theorem mvF_of {ps : List (Int × Nat)} {g k : Nat} {x y : Int × Nat} (hg : ps[g]? = some y) {z : Int × Nat} (hk : (ps.set g (subF y x))[k]? = some z) : mvF ps g k x = (ps.set g (subF y x)).set k (addF z x) := by
  unfold mvF
  have e1 : ps.getD g (0, 1) = y := by rw [List.getD_eq_getElem?_getD, hg]; rfl
  rw [e1]
  have e2 : (ps.set g (subF y x)).getD k (0, 1) = z := by rw [List.getD_eq_getElem?_getD, hk]; rfl
  show (ps.set g (subF y x)).set k (addF ((ps.set g (subF y x)).getD k (0, 1)) x) = _
  rw [e2]
/-- tickets, when one side of one of them goes to another -/
def psF (tks : List Tkt) (t : Tkt) (l s : Nat) : List Tkt := if l = s then tks.filter (fun x => !decide (x.n ∈ [t.n])) else tks.map fun x => if x.n = t.n then ⟨t.n, l, s, t.b, t.k⟩ else x
def Std.hand (S : Std) (t : Tkt) (g k : Nat) (x : Int × Nat) : Std := ⟨S.cs, S.rs, mvF S.ps g k x, psF S.ts t (if t.l = g then k else t.l) (if t.l = g then t.s else k), S.bs, S.m⟩
/-- what comes of a handing on -/
inductive HandR (S : Std) : PyData → PyData → PyData → PyData → Wh → Prop
  | tick {d1 d2 d3 d4 : PyData} : (∀ t ∈ S.ts, d1 ≠ .int (t.n : Int)) → HandR S d1 d2 d3 d4 (.inl "NoTicket")
  | side {t : Tkt} {d2 d3 d4 : PyData} : t ∈ S.ts → d2 ≠ .int (t.l : Int) → d2 ≠ .int (t.s : Int) → HandR S (.int (t.n : Int)) d2 d3 d4 (.inl "NoTicket")
  | two {t : Tkt} {g : Nat} {d3 d4 : PyData} : t ∈ S.ts → g = t.l ∨ g = t.s → isTwo S.ps.length (.int (g : Int)) d3 = false → HandR S (.int (t.n : Int)) (.int (g : Int)) d3 d4 (.inl "NoHolder")
  | stake {t : Tkt} {g : Nat} {d3 d4 : PyData} : t ∈ S.ts → g = t.l ∨ g = t.s → isTwo S.ps.length (.int (g : Int)) d3 = true → isFr d4 = false → HandR S (.int (t.n : Int)) (.int (g : Int)) d3 d4 (.inl "NoStake")
  | ok {t : Tkt} {g k : Nat} {x : Int × Nat} {D M : Nat} : t ∈ S.ts → g = t.l ∨ g = t.s → isTwo S.ps.length (.int (g : Int)) (.int (k : Int)) = true → Fok 100000 x → StdOk D M (S.hand t g k x) → HandR S (.int (t.n : Int)) (.int (g : Int)) (.int (k : Int)) (fdat x) (covO .none (S.hand t g k x))
theorem HandR.name {S : Std} {d1 d2 d3 d4 : PyData} {o : Wh} (h : HandR S d1 d2 d3 d4 o) {nm : Str} (e : o = .inl nm) : nm = "NoTicket" ∨ nm = "NoHolder" ∨ nm = "NoStake" ∨ nm = "NoCover" := by
  cases h with
  | tick a => injection e with e; exact .inl e.symm
  | side a b c => injection e with e; exact .inl e.symm
  | two a b c => injection e with e; exact .inr (.inl e.symm)
  | stake a b c d => injection e with e; exact .inr (.inr (.inl e.symm))
  | ok a b c d f =>
    unfold covO at e
    split at e
    · injection e with e; exact .inr (.inr (.inr e.symm))
    · cases e
theorem HandR.inv {S : Std} {t : Tkt} {d2 d3 d4 : PyData} {o : Wh} (hN : StdN S) (ht : t ∈ S.ts) (h : HandR S (.int (t.n : Int)) d2 d3 d4 o) : (d2 ≠ .int (t.l : Int) ∧ d2 ≠ .int (t.s : Int) ∧ o = .inl "NoTicket") ∨ ∃ g : Nat, (g = t.l ∨ g = t.s) ∧ d2 = .int (g : Int) ∧ ((isTwo S.ps.length (.int (g : Int)) d3 = false ∧ o = .inl "NoHolder") ∨ (isTwo S.ps.length (.int (g : Int)) d3 = true ∧ isFr d4 = false ∧ o = .inl "NoStake") ∨ ∃ (k : Nat) (x : Int × Nat) (D M : Nat), d3 = .int (k : Int) ∧ d4 = fdat x ∧ isTwo S.ps.length (.int (g : Int)) (.int (k : Int)) = true ∧ Fok 100000 x ∧ StdOk D M (S.hand t g k x) ∧ o = covO .none (S.hand t g k x)) := by
  generalize hd : PyData.int (t.n : Int) = d1 at h
  have key : ∀ y : Tkt, y ∈ S.ts → PyData.int (t.n : Int) = .int (y.n : Int) → y = t := fun y hy e => hN.uq y hy t ht (by injection e with e; omega)
  cases h with
  | tick z => exact absurd hd.symm (z _ ht)
  | side m a b =>
    have := key _ m hd
    subst this
    exact .inl ⟨a, b, rfl⟩
  | two m a b =>
    have := key _ m hd
    subst this
    exact .inr ⟨_, a, rfl, .inl ⟨b, rfl⟩⟩
  | stake m a b c =>
    have := key _ m hd
    subst this
    exact .inr ⟨_, a, rfl, .inr (.inl ⟨b, c, rfl⟩)⟩
  | ok m a b c d =>
    have := key _ m hd
    subst this
    exact .inr ⟨_, a, rfl, .inr (.inr ⟨_, _, _, _, rfl, rfl, b, c, d, rfl⟩)⟩
theorem mvF_len (ps : List (Int × Nat)) (g k : Nat) (x : Int × Nat) : (mvF ps g k x).length = ps.length := by
  show ((ps.set g _).set k _).length = _
  rw [List.length_set, List.length_set]
theorem psF_len (tks : List Tkt) (t : Tkt) (l s : Nat) : (psF tks t l s).length ≤ tks.length := by
  unfold psF
  split
  · exact List.length_filter_le ..
  · rw [List.length_map]
    exact Nat.le_refl _
theorem psF_mem {tks : List Tkt} {t y : Tkt} {l s : Nat} (h : y ∈ psF tks t l s) : y ∈ tks ∨ (l ≠ s ∧ y = ⟨t.n, l, s, t.b, t.k⟩) := by
  unfold psF at h
  split at h
  · exact .inl (List.mem_filter.mp h).1
  · rename_i c
    obtain ⟨x, hx, e⟩ := List.mem_map.mp h
    split at e
    · exact .inr ⟨c, e.symm⟩
    · rw [← e]
      exact .inl hx
/-- a fee that fits a stand -/
def FeeG (D j : Nat) (x : Int × Nat) : Prop := ∃ E, 0 < E ∧ E < 2 ^ 130 ∧ Fb (D * E) (2 ^ (160 + 110 * j)) x
theorem FeeG.fok {D j : Nat} {k : Int × Nat} (d0 : 0 < D) (d : D < 2 ^ (32 + 180 * j)) (j4 : j ≤ 4) (h : FeeG D j k) : Fok 6000 k := by
  obtain ⟨E, e0, e1, f⟩ := h
  refine (f.fok (a := 32 + 180 * j + 130) (c := 160 + 110 * j) (Nat.mul_pos d0 e0) ?_ (Nat.le_refl _)).up (by omega)
  rw [Nat.pow_add]
  exact Nat.mul_lt_mul'' d e1
theorem mvF_all {P : Int × Nat → Prop} {ps : List (Int × Nat)} {g k : Nat} {x : Int × Nat} (nk : g ≠ k) (h0 : ∀ p ∈ ps, P p) (h1 : ∀ p ∈ ps, P (subF p x)) (h2 : ∀ p ∈ ps, P (addF p x)) (lg : g < ps.length) (lk : k < ps.length) : ∀ p ∈ mvF ps g k x, P p := by
  have hy := List.getElem?_eq_getElem lg
  have hz : (ps.set g (subF (ps[g]'lg) x))[k]? = some (ps[k]'lk) := by
    rw [List.getElem?_set_ne nk, List.getElem?_eq_getElem lk]
  rw [mvF_of hy hz]
  intro p hp
  rcases List.mem_or_eq_of_mem_set hp with z | z
  · rcases List.mem_or_eq_of_mem_set z with w | w
    · exact h0 p w
    · rw [w]
      exact h1 _ (List.getElem_mem lg)
  · rw [z]
    exact h2 _ (List.getElem_mem lk)
theorem StdB.hand0 {S : Std} {j D : Nat} {t : Tkt} {g k : Nat} {x : Int × Nat} {E N : Nat} (h : StdB S j D) (ht : t ∈ S.ts) (lk : k < S.ps.length) (e0 : 0 < E) (hE : D * E < 2 ^ (32 + 180 * j)) (hN : 2 ^ (61 + 110 * j) = N) (hp : ∀ p ∈ mvF S.ps g k x, Fb (D * E) N p) : StdB (S.hand t g k x) j (D * E) := by
  subst hN
  refine ⟨h.h, h.w, ?_, ?_, fun y hy => ?_, Nat.mul_pos h.d0 e0, hE, fun v y hy => ?_, hp, ?_, ?_, h.bl⟩
  · show 2 ≤ (mvF S.ps g k x).length
    rw [mvF_len]
    exact h.p2
  · show (mvF S.ps g k x).length ≤ 6
    rw [mvF_len]
    exact h.p6
  · show TkOk S.cs y ∧ y.l < (mvF S.ps g k x).length ∧ y.s < (mvF S.ps g k x).length
    rw [mvF_len]
    rcases psF_mem (show y ∈ psF S.ts t _ _ from hy) with z | ⟨_, z⟩
    · exact h.t y z
    · obtain ⟨o, a, b⟩ := h.t t ht
      rw [z]
      refine ⟨⟨o.b, o.k⟩, ?_, ?_⟩
      · show (if t.l = g then k else t.l) < _
        split <;> omega
      · show (if t.l = g then t.s else k) < _
        split <;> omega
  · rcases psF_mem (show y ∈ psF S.ts t _ _ from hy) with z | ⟨_, z⟩
    · exact (h.tz v y z).up (Nat.dvd_mul_right ..) (Nat.le_refl _)
    · rw [z]
      exact (h.tz v t ht).up (Nat.dvd_mul_right ..) (Nat.le_refl _)
  · exact Nat.le_trans (psF_len ..) h.n
  · show S.bs.length = (mvF S.ps g k x).length
    rw [mvF_len]
    exact h.b
theorem StdB.hand {S : Std} {j D : Nat} {t : Tkt} {g k : Nat} {x : Int × Nat} (h : StdB S j D) (ht : t ∈ S.ts) (nk : g ≠ k) (lg : g < S.ps.length) (lk : k < S.ps.length) (hx : FeeG D j x) : ∃ D', StdB (S.hand t g k x) (j + 1) D' := by
  obtain ⟨E, e0, e1, f⟩ := hx
  have d0 := Nat.mul_pos h.d0 e0
  have lg' : 2 ^ (61 + 110 * j) + 2 ^ (160 + 110 * j) ≤ 2 ^ (61 + 110 * (j + 1)) := by
    have a : 2 ^ (61 + 110 * j) ≤ 2 ^ (160 + 110 * j) := Nat.pow_le_pow_right (by decide) (by omega)
    have b : 2 ^ (161 + 110 * j) = 2 ^ (160 + 110 * j) + 2 ^ (160 + 110 * j) := by rw [show 161 + 110 * j = 160 + 110 * j + 1 by omega, Nat.pow_succ]; omega
    have c : 2 ^ (161 + 110 * j) ≤ 2 ^ (61 + 110 * (j + 1)) := Nat.pow_le_pow_right (by decide) (by omega)
    omega
  have pf : ∀ p ∈ S.ps, Fb (D * E) (2 ^ (61 + 110 * j)) p := fun p hp => (h.pz p hp).up (Nat.dvd_mul_right ..) (Nat.le_refl _)
  refine ⟨D * E, (h.up).hand0 ht lk e0 ?_ rfl (mvF_all nk (fun p hp => (pf p hp).up (Nat.dvd_refl _) (Nat.le_trans (Nat.le_add_right ..) lg')) (fun p hp => ((pf p hp).add f.neg d0).up (Nat.dvd_refl _) lg') (fun p hp => ((pf p hp).add f d0).up (Nat.dvd_refl _) lg') lg lk)⟩
  refine Nat.lt_of_lt_of_le (Nat.mul_lt_mul'' h.d e1) ?_
  rw [← Nat.pow_add]
  exact Nat.pow_le_pow_right (by decide) (by omega)
end B
namespace B
open PySem PySem.Spec PyProof.Rows L2
theorem put_set {α : Type} {l : List α} {i : Nat} {a : α} (h : i < l.length) : l.take i ++ [a] ++ l.drop (i + 1) = l.set i a := by
  rw [List.set_eq_take_append_cons_drop, if_pos h, List.append_assoc]
  rfl
theorem psF_at {tks : List Tkt} {i : Nat} {t : Tkt} {l s : Nat} (h : tks[i]? = some t) (r : tks.Pairwise (fun a b => a.n < b.n)) : psF tks t l s = tks.take i ++ (if l = s then [] else [⟨t.n, l, s, t.b, t.k⟩]) ++ tks.drop (i + 1) := by
  obtain ⟨hi, e⟩ := List.getElem?_eq_some_iff.mp h
  have e0 : tks = tks.take i ++ t :: tks.drop (i + 1) := by
    rw [← e, List.getElem_cons_drop, List.take_append_drop]
  generalize tks.take i = A at e0 ⊢
  generalize tks.drop (i + 1) = C at e0 ⊢
  subst e0
  obtain ⟨_, r2, r3⟩ := List.pairwise_append.mp r
  obtain ⟨r4, _⟩ := List.pairwise_cons.mp r2
  have ha : ∀ x ∈ A, x.n ≠ t.n := fun x hx => by
    have := r3 x hx t (List.mem_cons_self ..)
    omega
  have hc : ∀ x ∈ C, x.n ≠ t.n := fun x hx => by
    have := r4 x hx
    omega
  unfold psF
  by_cases c : l = s
  · rw [if_pos c, if_pos c, List.filter_append, List.filter_cons_of_neg (by simp), List.filter_eq_self.mpr fun x hx => by simp [ha x hx], List.filter_eq_self.mpr fun x hx => by simp [hc x hx], List.append_nil]
  · rw [if_neg c, if_neg c, List.map_append, List.map_cons, if_pos rfl]
    have i1 : ∀ {X : List Tkt}, (∀ x ∈ X, x.n ≠ t.n) → X.map (fun x => if x.n = t.n then (⟨t.n, l, s, t.b, t.k⟩ : Tkt) else x) = X := fun {X} hX => by
      have e : X.map (fun x => if x.n = t.n then (⟨t.n, l, s, t.b, t.k⟩ : Tkt) else x) = X.map id := List.map_congr_left fun x hx => if_neg (hX x hx)
      rw [e, List.map_id]
    rw [i1 ha, i1 hc, List.append_assoc]
    rfl
end B
namespace B
open PySem PySem.Spec PyProof.Rows L2
theorem FeeG.of {D j E N : Nat} {x : Int × Nat} (h : Fb E N x) (e0 : 0 < E) (e1 : E < 2 ^ 130) (n : N ≤ 2 ^ 160) : FeeG D j x := ⟨E, e0, e1, h.up (Nat.dvd_mul_left ..) (Nat.le_trans n (Nat.pow_le_pow_right (by decide) (by omega)))⟩
end B
namespace B
open PySem PySem.Spec PyProof.Rows L2
theorem isTwo_over2 (n : Nat) (h : Int) : isTwo (n : Int) (.int h) (.int (n : Int)) = false := by
  show (isPl n (.int h) && (isPl n (.int (n : Int)) && decide (h ≠ (n : Int)))) = false
  have : isPl (n : Int) (.int (n : Int)) = false := by
    show (decide ((0 : Int) ≤ n) && decide ((n : Int) < n)) = false
    rw [decide_eq_false (p := (n : Int) < n) (by omega), Bool.and_false]
  rw [this, Bool.false_and, Bool.and_false]
theorem isTwo_yes {l g n : Nat} (ll : l < n) (lg : g < n) (nlg : l ≠ g) : isTwo (n : Int) (.int (l : Int)) (.int (g : Int)) = true := by
  show (isPl _ (.int (l : Int)) && (isPl _ (.int (g : Int)) && decide ((l : Int) ≠ (g : Int)))) = true
  rw [isPl_natD ll, isPl_natD lg, decide_eq_true (by omega)]
  rfl
end B
namespace B
open PySem PySem.Spec PyProof.Rows L2
def ogO (m : Nat) : Out → Wh
  | .inl nm => .inl nm
  | .inr S => .inr (.int m, S)
theorem OutR.of {K : PySem.W.Frag} {o : Out} {m : Nat} {H : Hp} {Q : VK} {E : XK} (h : OutG K (ogO m o) H Q E) : OutR K o m H Q E := by
  cases o with
  | inl nm => exact h
  | inr S => exact fun H' r sp a b s => h H' r sp (.int m) a (.int _) b s
/-- a refusal's word, and whether it is due -/
def DueAt (K : PySem.W.Frag) (H : Hp) (v : V) (x : Str × Bool) : Prop := ∃ q : Addr, v = .ref q ∧ SqT K H q [.str x.1, .bl x.2]
theorem DueAt.mono {K : PySem.W.Frag} {H H' : Hp} {v : V} {x : Str × Bool} (k : Tk K H H') (h : DueAt K H v x) : DueAt K H' v x := by
  obtain ⟨q, e, t⟩ := h
  exact ⟨q, e, k _ _ t⟩
def dueL (ds : List (Str × Bool)) : List Str := ds.filterMap fun x => if x.2 = true then some x.1 else none
def whN : Wh → Option Str
  | .inl nm => some nm
  | .inr _ => none
end B
namespace B
open PySem PySem.Spec PyProof.Rows L2
/-- a deal, and what comes of it -/
def DealQ (K : PySem.W.Frag) (H : Hp) (S : Std) (dq : Addr) (o : Wh) : Prop := ∃ (v1 v2 v3 v4 v5 : V) (d1 d2 d3 d4 d5 : PyData) (o' : Str ⊕ Tkt) (D M : Nat), SqT K H dq [.str "deal", v1, v2, v3, v4, v5] ∧ Th K H v1 d1 ∧ Th K H v2 d2 ∧ Th K H v3 d3 ∧ Th K H v4 d4 ∧ Th K H v5 d5 ∧ szD d3 = true ∧ DealR K H S v3 d1 d2 d3 d4 d5 o' ∧ (∀ t, o' = .inr t → S.ts.length + 1 ≤ 12 → StdOk D M (S.add t)) ∧ o = ogO S.m (wayO S o')
theorem DealQ.name {K : PySem.W.Frag} {H : Hp} {S : Std} {dq : Addr} {o : Wh} (h : DealQ K H S dq o) {nm : Str} (e : o = .inl nm) : nm = "NoHolder" ∨ nm = "NoBet" ∨ nm = "NoStake" ∨ nm = "NoTicket" ∨ nm = "TooMany" ∨ nm = "NoCover" := by
  obtain ⟨_, _, _, _, _, _, _, _, _, _, o', _, _, _, _, _, _, _, _, _, hR, _, eo⟩ := h
  rw [eo] at e
  cases ew : wayO S o' with
  | inr x => rw [ew] at e; cases e
  | inl y =>
    rw [ew] at e
    injection e with e
    subst e
    rcases way_nameD hR ew with h | h | h | h | h
    · exact .inl h
    · exact .inr (.inl h)
    · exact .inr (.inr (.inl h))
    · exact .inr (.inr (.inr (.inr (.inl h))))
    · exact .inr (.inr (.inr (.inr (.inr h))))
/-- a handing on, and what comes of it -/
def HandQ (K : PySem.W.Frag) (H : Hp) (S : Std) (dq : Addr) (o : Wh) : Prop := ∃ (v1 v2 v3 v4 : V) (d1 d2 d3 d4 : PyData), SqT K H dq [.str "hand", v1, v2, v3, v4] ∧ Th K H v1 d1 ∧ Th K H v2 d2 ∧ Th K H v3 d3 ∧ Th K H v4 d4 ∧ HandR S d1 d2 d3 d4 o
theorem HandQ.name {K : PySem.W.Frag} {H : Hp} {S : Std} {dq : Addr} {o : Wh} (h : HandQ K H S dq o) {nm : Str} (e : o = .inl nm) : nm = "NoHolder" ∨ nm = "NoBet" ∨ nm = "NoStake" ∨ nm = "NoTicket" ∨ nm = "TooMany" ∨ nm = "NoCover" := by
  obtain ⟨_, _, _, _, _, _, _, _, _, _, _, _, _, hR⟩ := h
  rcases hR.name e with h | h | h | h
  · exact .inr (.inr (.inr (.inl h)))
  · exact .inl h
  · exact .inr (.inr (.inl h))
  · exact .inr (.inr (.inr (.inr (.inr h))))
theorem dealr_of {K : PySem.W.Frag} {H : Hp} {S : Std} {w0 w1 w2 : Bool} {v3 : V} {l g : Nat} {d2 d3 : PyData} {ts : List Tm} {gw : List Wd} {p k z : Int × Nat} {xb : Addr} (nlg : l ≠ g) (ll : l < S.ps.length) (lg : g < S.ps.length) (a0 : w0 = false → d2 = .int (g : Int)) (b0 : w0 = true → isTwo S.ps.length (.int (l : Int)) d2 = false) (a1 : w1 = false → v3 = .ref xb ∧ d3 = bdat ts gw) (b1 : w1 = true → livD S.cs S.rs d3 = false) (a2 : w2 = false → z = k) (b2 : w2 = true → z = (0, 1)) (hb : BtAt K H xb ts gw) (hl : livD S.cs S.rs (bdat ts gw) = true) (hp : isFr (fdat p) = true) (hk : isAb (fdat k) = true) : DealR K H S v3 (.int (l : Int)) d2 d3 (fdat p) (fdat z) (if w0 = true then .inl "NoHolder" else if w1 = true then .inl "NoBet" else if w2 = true then .inl "NoStake" else .inr ⟨S.m, l, g, ⟨ts, gw, p⟩, k⟩) := by
  cases w0 with
  | true => exact .two (b0 rfl)
  | false =>
    obtain rfl := a0 rfl
    have two := isTwo_yes ll lg nlg
    cases w1 with
    | true => exact .bet two (b1 rfl)
    | false =>
      obtain ⟨rfl, rfl⟩ := a1 rfl
      cases w2 with
      | true =>
        obtain rfl := b2 rfl
        exact .stake two hl (by rw [show isAb (fdat (0, 1)) = false from rfl, Bool.and_false])
      | false =>
        obtain rfl := a2 rfl
        exact .ok two hl rfl hb hp hk
theorem deal_due {S : Std} {w0 w1 w2 : Bool} {t : Tkt} {n : Nat} (hn : n = S.ts.length + 1) (h12 : S.ts.length ≤ 12) : (dueL [("NoHolder", w0), ("NoBet", w1), ("NoStake", w2), ("TooMany", decide (V.int (n : Int) = V.int 13)), ("NoCover", !covB S.cs (wor S.cs S.rs) S.ps (S.ts ++ [t]))]).head? = whN (ogO S.m (wayO S (if w0 = true then .inl "NoHolder" else if w1 = true then .inl "NoBet" else if w2 = true then .inl "NoStake" else .inr t))) := by
  cases w0 with
  | true => rfl
  | false =>
  cases w1 with
  | true => rfl
  | false =>
  cases w2 with
  | true => rfl
  | false =>
  show _ = whN (ogO S.m (wtO S t))
  unfold wtO
  by_cases c : 12 < S.ts.length + 1
  · rw [if_pos c, decide_eq_true (show V.int (n : Int) = V.int 13 by rw [hn]; congr 1; omega)]
    rfl
  · rw [if_neg c, decide_eq_false (show ¬ V.int (n : Int) = V.int 13 from fun e => by injection e with e; omega)]
    cases e : covB S.cs (wor S.cs S.rs) S.ps (S.ts ++ [t]) with
    | true => rfl
    | false => rfl
end B
namespace B
open PySem PySem.Spec PyProof.Rows L2
theorem handr_of {S : Std} {w0 w1 w2 : Bool} {t : Tkt} {g k : Nat} {d1 d3 d4 : PyData} {x : Int × Nat} {D M : Nat} (hN : StdN S) (ht : t ∈ S.ts) (hg : g = t.l ∨ g = t.s) (nk : g ≠ k) (lg : g < S.ps.length) (lk : k < S.ps.length) (a0 : w0 = false → d1 = .int (t.n : Int)) (b0 : w0 = true → d1 = .int (S.m : Int)) (a1 : w1 = false → d3 = .int (k : Int)) (b1 : w1 = true → isTwo S.ps.length (.int (g : Int)) d3 = false) (a2 : w2 = false → d4 = fdat x) (b2 : w2 = true → isFr d4 = false) (fx : Fok 100000 x) (ok : StdOk D M (S.hand t g k x)) : HandR S d1 (.int (g : Int)) d3 d4 (if w0 = true then .inl "NoTicket" else if w1 = true then .inl "NoHolder" else if w2 = true then .inl "NoStake" else covO .none (S.hand t g k x)) := by
  cases w0 with
  | true =>
    obtain rfl := b0 rfl
    exact .tick fun y hy e => by have := (hN.t y hy).1; injection e with e; omega
  | false =>
    obtain rfl := a0 rfl
    have two := isTwo_yes lg lk nk
    cases w1 with
    | true => exact .two ht hg (b1 rfl)
    | false =>
      obtain rfl := a1 rfl
      cases w2 with
      | true => exact .stake ht hg two (b2 rfl)
      | false =>
        obtain rfl := a2 rfl
        exact .ok ht hg two fx ok
theorem hand_due {w0 w1 w2 : Bool} {u : PyData} {S' : Std} : (dueL [("NoTicket", w0), ("NoHolder", w1), ("NoStake", w2), ("NoCover", !covB S'.cs (wor S'.cs S'.rs) S'.ps S'.ts)]).head? = whN (if w0 = true then .inl "NoTicket" else if w1 = true then .inl "NoHolder" else if w2 = true then .inl "NoStake" else covO u S') := by
  cases w0 with
  | true => rfl
  | false =>
  cases w1 with
  | true => rfl
  | false =>
  cases w2 with
  | true => rfl
  | false =>
  show _ = whN (covO u S')
  unfold covO
  cases e : covB S'.cs (wor S'.cs S'.rs) S'.ps S'.ts with
  | true => rfl
  | false => rfl
end B
namespace B
open PySem PySem.Spec PyProof.Rows L2
end B
namespace B
open PySem PySem.Spec PyProof.Rows L2
end B
namespace B
open PySem PySem.Spec PyProof.Rows L2

def sp_is_number (K : PySem.W.Frag) : Sp := fun vs H Q _ => ∃ (v : V) (d : PyData), vs = [v] ∧ Th K H v d ∧ Q (.bl (isN d)) H

section
variable {P : Program} {w : World} {K : PySem.W.Frag} {mg : Str → Option Value} {base : Heap}
theorem ok_is_number (T : Tx K mg w) (U : Unl P base) : FnOk P w K mg base CX0 35 T.is_number.f T.is_number.fd ["thing"] (sp_is_number K) := by
  refine T.is_number.F.ok sc_is_number (fun vs H Q E h => ?_) (fun cdv A outer s H vs Q E hr h => ?_)
  · obtain ⟨v, d, rfl, hT, q⟩ := h
    rfl
  · obtain ⟨v, d, rfl, hT, q⟩ := h
    refine ⟨_, (pss_one (ps_ret (pe_and (pe_callB call_isi (by rfl) T.m_isinstance (by decide +kernel) (pa_cons (pv 0) (pa_cons (pe_bltn (v := .ty "int") (u := .type "int") (by rfl) T.m_int (by decide +kernel) rfl) pa_nil))) (pe_one (pe_not (pe_callB call_isi (by rfl) T.m_isinstance (by decide +kernel) (pa_cons (pv 0) (pa_cons (pe_bltn (v := .ty "bool") (u := .type "bool") (by rfl) T.m_bool (by decide +kernel) rfl) pa_nil)))))))), ?_⟩
    refine ⟨_, rfl, _, .ty "int", .type (tyN d), .type "int", isN d || isB d, rfl, .ty _, hT.ty, kit_ty (kit_int d), _, rfl, ?_⟩
    cases e : (isN d || isB d) with
    | false =>
      have e1 : isN d = false := (Bool.or_eq_false_iff.mp e).1
      rw [e1] at q
      exact iteF q
    | true =>
      refine iteT ⟨_, rfl, _, .ty "bool", .type (tyN d), .type "bool", isB d, rfl, .ty _, hT.ty, kit_ty (kit_bool d), _, rfl, ?_⟩
      have : (!isB d) = isN d := by
        cases d <;> first | rfl | cases e
      rw [this]
      exact q
end
end B

namespace B
open PySem PySem.Spec PyProof.Rows L2

def sp_is_row (K : PySem.W.Frag) : Sp := fun vs H Q _ => ∃ (v : V) (d : PyData) (lo hi : Int), vs = [v, .int lo, .int hi] ∧ Th K H v d ∧ Q (.bl (rowD lo hi d)) H

section
variable {P : Program} {w : World} {K : PySem.W.Frag} {mg : Str → Option Value} {base : Heap}
theorem ok_is_row (T : Tx K mg w) (U : Unl P base) : FnOk P w K mg base CX0 35 T.is_row.f T.is_row.fd ["thing", "least", "most"] (sp_is_row K) := by
  refine T.is_row.F.ok sc_is_row (fun vs H Q E h => ?_) (fun cdv A outer s H vs Q E hr h => ?_)
  · obtain ⟨v, d, lo, hi, rfl, hT, q⟩ := h
    rfl
  · obtain ⟨v, d, lo, hi, rfl, hT, q⟩ := h
    refine ⟨_, (pss_one (ps_ret (pe_and (pe_callB call_isi (by rfl) T.m_isinstance (by decide +kernel) (pa_cons (pv 0) (pa_cons (pe_bltn (v := .ty "tuple") (u := .type "tuple") (by rfl) T.m_tuple (by decide +kernel) rfl) pa_nil))) (pe_one (pe_chain op_le op_le (pv 1) (pe_callB call_len_seq (by rfl) T.m_len (by decide +kernel) (pa_cons (pv 0) pa_nil)) (pv 2)))))), ?_⟩
    refine ⟨_, rfl, _, .ty "tuple", .type (tyN d), .type "tuple", isT d, rfl, .ty _, hT.ty, kit_ty (kit_tup d), _, rfl, ?_⟩
    cases hT with
    | tup tA al =>
      rename_i a xs ds
      have el := al.len
      refine iteT ⟨_, rfl, _, rfl, a, xs, rfl, .inr tA, _, _, rfl, rfl, _, rfl, ?_⟩
      have q : Q (.bl (decide (lo ≤ (ds.length : Int)) && decide ((ds.length : Int) ≤ hi))) H := q
      rw [← el] at q
      cases e : decide (lo ≤ (xs.length : Int)) with
      | true =>
        rw [e, Bool.true_and] at q
        exact iteT ⟨_, rfl, _, _, rfl, rfl, q⟩
      | false =>
        rw [e, Bool.false_and] at q
        exact iteF q
    | _ => exact iteF q
end
end B

namespace B
open PySem PySem.Spec PyProof.Rows L2

/-- common(a, b) of numbers from 0 on -/
def sp_common (_ : PySem.W.Frag) : Sp := fun vs H Q _ => ∃ (a b : Nat), vs = [.int a, .int b] ∧ Q (.int (Nat.gcd a b : Nat)) H

section
variable {P : Program} {w : World} {K : PySem.W.Frag} {mg : Str → Option Value} {base : Heap}
theorem ok_common (T : Tx K mg w) (U : Unl P base) : FnOk P w K mg base CX0 35 T.common.f T.common.fd ["one", "other"] (sp_common K) := by
  refine T.common.F.ok sc_common (fun vs H Q E h => ?_) (fun cdv A outer s H vs Q E hr h => ?_)
  · obtain ⟨a, b, rfl, q⟩ := h
    rfl
  · obtain ⟨a, b, rfl, q⟩ := h
    refine ⟨_, (pss_cons (ps_while PassesOwn.never (pt_cmpR op_gt (pv 1) pe_int (nomark _)) (pss_one (ps_par (i := 0) (j := 1) (by rfl) sc_common.nd rfl rfl (by decide) rfl rfl (pa_cons (pv 1) (pa_cons (pe_op op_mod (pv 0) (pv 1)) pa_nil)) (by rfl))))
      (pss_one (ps_ret (pv 0)))), ?_⟩
    refine ⟨fun m σ H' => ∃ x y : Nat, σ = [some (.int x), some (.int y)] ∧ Nat.gcd x y = Nat.gcd a b ∧ H' = H ∧ m = y, ⟨b, a, b, rfl, rfl, rfl, rfl⟩, fun m σ H' hW => ?_⟩
    obtain ⟨x, y, rfl, eg, rfl, rfl⟩ := hW
    refine ⟨_, rfl, _, _, rfl, rfl, _, rfl, ite2 (fun e => ?_) (fun e => ?_)⟩
    · have hy : 0 < m := by
        have := of_decide_eq_true e
        omega
      refine ⟨fun σ' H2 => σ' = [some (.int m), some (.int (x % m : Nat))] ∧ H2 = H', fun σ' H2 hN => ?_, ?_⟩
      · obtain ⟨rfl, rfl⟩ := hN
        exact ⟨x % m, Nat.mod_lt _ hy, m, x % m, rfl, by rw [← eg, Nat.gcd_comm m, ← Nat.gcd_rec, Nat.gcd_comm], rfl, rfl⟩
      · refine ⟨_, rfl, _, rfl, _, rfl, _, _, rfl, rfl, (by show (0 : Int) < m; omega), _, _, rfl, ?_⟩
        exact ⟨rfl, rfl⟩
    · have hy : m = 0 := by
        have : ¬ (0 : Int) < m := fun z => e (decide_eq_true z)
        omega
      subst hy
      refine ⟨_, rfl, ?_⟩
      rw [Nat.gcd_zero_right] at eg
      rw [eg]
      exact q
end
end B

namespace B
open PySem PySem.Spec PyProof.Rows L2

def sp_turned_about (K : PySem.W.Frag) : Sp := fun vs H Q _ => ∃ (a : Addr) (t : Int) (b : Nat), vs = [.ref a] ∧ SqT K H a [.int t, .int b] ∧ ∀ p, H p = none → Q (.ref p) (upd H p (.tup [.int (-t), .int b]))

section
variable {P : Program} {w : World} {K : PySem.W.Frag} {mg : Str → Option Value} {base : Heap}
theorem ok_turned_about (T : Tx K mg w) (U : Unl P base) : FnOk P w K mg base CX0 35 T.turned_about.f T.turned_about.fd ["one"] (sp_turned_about K) := by
  refine T.turned_about.F.ok sc_turned_about (fun vs H Q E h => ?_) (fun cdv A outer s H vs Q E hr h => ?_)
  · obtain ⟨a, t, b, rfl, hA, q⟩ := h
    rfl
  · obtain ⟨a, t, b, rfl, hA, q⟩ := h
    refine ⟨_, (pss_one (ps_ret (pe_tup (pa_cons (pe_un un_neg (pe_ix ix_tup (pv 0) pe_int (fun _ _ => rfl))) (pa_cons (pe_ix ix_tup (pv 0) pe_int (fun _ _ => rfl)) pa_nil))))), ?_⟩
    exact ⟨_, rfl, a, _, 0, .int t, rfl, rfl, hA, rfl, _, rfl, _, rfl, a, _, 1, .int b, rfl, rfl, hA, rfl, by show 2 ≤ sizeLine; decide, q⟩
end
end B

namespace B
open PySem PySem.Spec PyProof.Rows L2

def sp_wanted (K : PySem.W.Frag) : Sp := fun vs H Q _ => ∃ (cs : List Nat) (v : V) (d : PyData), vs = [.str (tx cs), v] ∧ Th K H v d ∧ (∀ x, d = .str x → x.length ≤ 10000) ∧ ∀ H', Same H H' → Q (wantV (wantD cs d)) H'

section
variable {P : Program} {w : World} {K : PySem.W.Frag} {mg : Str → Option Value} {base : Heap}
theorem ok_wanted (T : Tx K mg w) (U : Unl P base) : FnOk P w K mg base CX0 35 T.wanted.f T.wanted.fd ["letters", "word"] (sp_wanted K) := by
  refine T.wanted.F.ok sc_wanted (fun vs H Q E h => ?_) (fun cdv A outer s H vs Q E hr h => ?_)
  · obtain ⟨cs, v, d, rfl, hT, hz, q⟩ := h
    rfl
  · obtain ⟨cs, v, d, rfl, hT, hz, q⟩ := h
    refine ⟨_, (pss_cons (ps_if (pt_not (pt_val (pe_callB call_isi (by rfl) T.m_isinstance (by decide +kernel) (pa_cons (pv 1) (pa_cons (pe_bltn (v := .ty "str") (u := .type "str") (by rfl) T.m_str (by decide +kernel) rfl) pa_nil))))) (pss_one (ps_ret pe_non)) pss_nil)
      (pss_cons (ps_if (pt_cmpR op_in_seq (pv 1) (pe_glob (v := .ref T.a_JOINING) (by rfl) T.g_JOINING rfl) (by rfl)) (pss_one (ps_ret pe_int)) pss_nil)
      (pss_cons (ps_if (pt_cmpR op_eq (pv 1) pe_str (nomark _)) (pss_one (ps_ret pe_int)) pss_nil)
      (pss_cons (ps_if (PW.pt (pw_or (pt_cmpR op_in_seq (pv 1) (pe_tup (pa_cons pe_str (pa_cons pe_str pa_nil))) (by rfl)) (pw_or1 (PW.pt (pw_and (pt_cmpR op_eq (pe_callB call_len_str (by rfl) T.m_len (by decide +kernel) (pa_cons (pv 1) pa_nil)) pe_int (nomark _)) (pw_and1 (pt_cmpR op_in_sign (pv 1) (pv 0) (by rfl)))))))) (pss_one (ps_ret pe_int)) pss_nil)
      (pss_one (ps_ret pe_non)))))), ?_⟩
    refine ⟨_, rfl, _, .ty "str", .type (tyN d), .type "str", isS d, rfl, .ty _, hT.ty, kit_ty (kit_str d), _, rfl, ?_⟩
    cases hT with
    | str x =>
      have hz := hz x rfl
      refine iteF ?_
      have q : ∀ H', Same H H' → Q (wantV (wantS cs x)) H' := q
      unfold wantS at q
      refine ⟨_, rfl, T.a_JOINING, _, rfl, .inr (T.s_JOINING _), rfl, rfl, _, rfl, ite2 (fun e => ?_) (fun e => ?_)⟩
      · have e : inV (.str x) [.str "and", .str "or", .str "same"] = true := e
        rw [if_pos e] at q
        exact q _ (fun _ _ h => h)
      have e : ¬ inV (.str x) [.str "and", .str "or", .str "same"] = true := e
      rw [if_neg e] at q
      refine ⟨_, rfl, rfl, _, rfl, ite2 (fun e => ?_) (fun e => ?_)⟩
      · rw [if_pos e] at q
        exact q _ (fun _ _ h => h)
      rw [if_neg e] at q
      refine ⟨_, rfl, by show 2 ≤ sizeLine; decide, fun p np => ?_⟩
      have s1 := same_upd (o := .tup [.str "yes", .str "no"]) np
      refine ⟨p, _, rfl, .inr sqt_upd, rfl, rfl, _, rfl, ite2 (fun e => ?_) (fun e => ?_)⟩
      · have e : inV (.str x) [.str "yes", .str "no"] = true := e
        rw [if_pos e] at q
        exact q _ s1
      have e : ¬ inV (.str x) [.str "yes", .str "no"] = true := e
      rw [if_neg e] at q
      refine ⟨_, rfl, x, rfl, Nat.le_trans hz (by decide), rfl, _, rfl, ?_⟩
      by_cases h1 : x.length = 1
      · obtain ⟨c, rfl⟩ : ∃ c, x = sg c := by
          obtain ⟨⟨l⟩⟩ := x
          have h1 : l.length = 1 := h1
          match l, h1 with
          | [c], _ => exact ⟨c, rfl⟩
        refine iteK (by rw [h1]; rfl) ?_
        refine ⟨_, rfl, _, rfl, c, tx cs, rfl, rfl, _, rfl, ite2 (fun e => ?_) (fun e => ?_)⟩
        · have e : c ∈ cs := of_decide_eq_true e
          rw [if_pos ⟨h1, e⟩] at q
          exact q _ s1
        · have e : ¬ c ∈ cs := fun z => e (decide_eq_true z)
          rw [if_neg (fun z => e z.2)] at q
          exact q _ s1
      · refine iteE (decide_eq_false fun z => h1 (by have := V.int.inj z; omega)) (iteF ?_)
        rw [if_neg (fun z => h1 z.1)] at q
        exact q _ s1
    | _ => exact iteT (q _ (fun _ _ h => h))
end
end B

namespace B
open PySem PySem.Spec PyProof.Rows L2

def sp_laid (_ : PySem.W.Frag) : Sp := fun vs H Q _ => ∃ (cs : List Nat) (w : Wd) (bs : List Bool), vs = [.str (tx cs), wv w, .str (wtx bs)] ∧ Lf cs w ∧ cs.length = bs.length ∧ bs.length ≤ 100 ∧ Q (.bl (lv (vl cs bs) w)) H

section
variable {P : Program} {w : World} {K : PySem.W.Frag} {mg : Str → Option Value} {base : Heap}
theorem ok_laid (T : Tx K mg w) (U : Unl P base) : FnOk P w K mg base CX0 35 T.laid.f T.laid.fd ["letters", "word", "world"] (sp_laid K) := by
  refine T.laid.F.ok sc_laid (fun vs H Q E h => ?_) (fun cdv A outer s H vs Q E hr h => ?_)
  · obtain ⟨cs, w, bs, rfl, hw, hl, h100, q⟩ := h
    rfl
  · obtain ⟨cs, w, bs, rfl, hw, hl, h100, q⟩ := h
    refine ⟨_, (pss_cons (ps_if (pt_cmpR op_eq (pv 1) pe_str (nomark _)) (pss_one (ps_ret pe_bl)) pss_nil)
      (pss_cons (ps_if (pt_cmpR op_eq (pv 1) pe_str (nomark _)) (pss_one (ps_ret pe_bl)) pss_nil)
      (pss_one (ps_ret (pe_cmpR op_eq (pe_ix ix_str (pv 2) (pe_bm PySem.F.plainAttrs_str PySem.F.slot_str_index PySem.F.type_str_index mt_sindex (pv 0) (pa_cons (pv 1) pa_nil)) (fun _ _ => rfl)) pe_str (nomark _)))))), ?_⟩
    refine ⟨_, rfl, rfl, _, rfl, iteW (w := w) (u := .yes) rfl (fun e => ?_) (fun e => ?_)⟩
    · have e : w = .yes := e
      subst e
      exact q
    have e1 : w ≠ .yes := e
    refine ⟨_, rfl, rfl, _, rfl, iteW (w := w) (u := .no) rfl (fun e => ?_) (fun e => ?_)⟩
    · have e : w = .no := e
      subst e
      exact q
    have e2 : w ≠ .no := e
    cases hw with
    | yes => exact absurd rfl e1
    | no => exact absurd rfl e2
    | @lt c hc =>
      obtain ⟨i, h1, h2, h3, h4⟩ := letter_at hc
      have hi : i < bs.length := by
        rw [← hl]
        exact (List.getElem?_eq_some_iff.mp h2).1
      have hb : bs[i]? = some (vl cs bs c) := by
        unfold vl
        rw [h1, List.getD_eq_getElem?_getD, List.getElem?_eq_getElem hi]
        rfl
      refine ⟨_, rfl, _, rfl, rfl, _, rfl, tx cs, sg c, i, [], rfl, rfl, h4, wtx bs, i, bc (vl cs bs c), rfl, rfl, ?_, ?_, rfl, ?_⟩
      · show (bs.map bc).length ≤ sizeLine
        rw [List.length_map]
        exact Nat.le_trans h100 (by decide)
      · refine atI_nat ?_
        show (bs.map bc)[i]? = _
        rw [List.getElem?_map, hb]
        rfl
      · rw [show decide (V.str ⟨#[bc (vl cs bs c)]⟩ = V.str "1") = vl cs bs c from bc_one _]
        exact q
end
end B

namespace B
open PySem PySem.Spec PyProof.Rows L2

def sp_joint (_ : PySem.W.Frag) : Sp := fun vs H Q _ => ∃ (w : Wd) (a b : Bool), vs = [wv w, .bl a, .bl b] ∧ Jn w ∧ Q (.bl (jv w a b)) H

section
variable {P : Program} {w : World} {K : PySem.W.Frag} {mg : Str → Option Value} {base : Heap}
theorem ok_joint (T : Tx K mg w) (U : Unl P base) : FnOk P w K mg base CX0 35 T.joint.f T.joint.fd ["word", "one", "other"] (sp_joint K) := by
  refine T.joint.F.ok sc_joint (fun vs H Q E h => ?_) (fun cdv A outer s H vs Q E hr h => ?_)
  · obtain ⟨w, a, b, rfl, hw, q⟩ := h
    rfl
  · obtain ⟨w, a, b, rfl, hw, q⟩ := h
    refine ⟨_, (pss_cons (ps_if (pt_cmpR op_eq (pv 0) pe_str (nomark _)) (pss_one (ps_ret (pe_and (pv 1) (pe_one (pv 2))))) pss_nil)
      (pss_cons (ps_if (pt_cmpR op_eq (pv 0) pe_str (nomark _)) (pss_one (ps_ret (pe_or (pv 1) (pe_one (pv 2))))) pss_nil)
      (pss_one (ps_ret (pe_cmpR op_eq (pv 1) (pv 2) (nomark _)))))), ?_⟩
    refine ⟨_, rfl, rfl, _, rfl, iteW (w := w) (u := .an) rfl (fun e => ?_) (fun e => ?_)⟩
    · have e : w = .an := e
      subst e
      refine ⟨_, rfl, a, rfl, ?_⟩
      cases a
      · exact iteF q
      · exact iteT ⟨_, rfl, q⟩
    refine ⟨_, rfl, rfl, _, rfl, iteW (w := w) (u := .orr) rfl (fun e2 => ?_) (fun e2 => ?_)⟩
    · have e : w = .orr := e2
      subst e
      refine ⟨_, rfl, a, rfl, ?_⟩
      cases a
      · exact iteF ⟨_, rfl, q⟩
      · exact iteT q
    cases hw with
    | an => exact absurd rfl e
    | orr => exact absurd rfl e2
    | sm =>
      refine ⟨_, rfl, _, rfl, rfl, ?_⟩
      have : decide (V.bl a = V.bl b) = (a == b) := by cases a <;> cases b <;> decide
      rw [this]
      exact q
end
end B

namespace B
open PySem PySem.Spec PyProof.Rows L2

def sp_worlds_over (_ : PySem.W.Frag) : Sp := fun vs H Q _ => ∃ (cs : List Nat), vs = [.str (tx cs)] ∧ cs.length ≤ 6 ∧ ∀ (H' : Hp) (p : Addr), H' p = some (.lst (wvs (allW cs.length))) → H p = none → Same H H' → Q (.ref p) H'

section
variable {P : Program} {w : World} {K : PySem.W.Frag} {mg : Str → Option Value} {base : Heap}
theorem ok_worlds_over (T : Tx K mg w) (U : Unl P base) : FnOk P w K mg base CX0 35 T.worlds_over.f T.worlds_over.fd ["letters"] (sp_worlds_over K) := by
  refine T.worlds_over.F.ok sc_worlds_over (fun vs H Q E h => ?_) (fun cdv A outer s H vs Q E hr h => ?_)
  · obtain ⟨cs, rfl, hc6, q⟩ := h
    rfl
  · obtain ⟨cs, rfl, hc6, q⟩ := h
    refine ⟨_, (pss_cons (ps_set (i := 1) sc_worlds_over.nd rfl (.inl rfl) (pe_lst (pa_cons pe_str pa_nil)))
      (pss_cons (ps_for PassesOwn.never rfl (pi_str (pv 0)) (pg_name (i := 2) sc_worlds_over.nd rfl (.inl rfl))
      (pss_one (ps_setLc2 (i := 1) (own := [("world", 3), ("sign", 4)]) (vs1 := [4]) (g := (gName 3)) (g1 := (gName 4)) (tt := tYes) (tt1 := tYes) rfl sc_worlds_over.nd rfl rfl (sw_true rfl rfl rfl (by decide +kernel)) (pi_list (pv 1)) (blkOk_by (own := [("world", 3), ("sign", 4)]) (N := N_worlds_over) (sc := defScope s_worlds_over) (by decide +kernel)) (by decide) (fun _ _ _ _ _ => (pg_name (i := 3) sc_worlds_over.nd rfl (.inl rfl))) (fun _ _ _ _ _ => pts_nil) (fun _ _ _ _ _ => (pi_str pe_str)) (fun _ _ _ _ _ => (pg_name (i := 4) sc_worlds_over.nd rfl (.inl rfl))) (fun _ _ _ _ _ => pts_nil) (fun _ _ _ _ _ => (pe_op op_add_str (pv 3) (pv 4))))))
      (pss_one (ps_ret (pv 1))))), ?_⟩
    refine ⟨by decide, fun R nR => ?_⟩
    have c0 : (upd H R (.lst [V.str ""])) R = some (.lst (wvs (allW 0))) := upd_same
    refine ⟨_, rfl, tx cs, rfl, fun i m σ H' => ∃ (x2 x3 x4 : Option V) (p : Addr), σ = [some (.str (tx cs)), some (.ref p), x2, x3, x4] ∧ i + m = cs.length ∧ H' p = some (.lst (wvs (allW i))) ∧ H p = none ∧ Same H H', ⟨cs.length, none, none, none, R, rfl, by omega, c0, nR, same_upd nR⟩, fun i m σ H1 hW => ?_⟩
    obtain ⟨x2, x3, x4, p, rfl, em, h1, np, s1⟩ := hW
    by_cases hi : i < cs.length
    · refine .inr ⟨hi, fun σ' H' => ∃ (x2 x3 x4 : Option V) (p : Addr), σ' = [some (.str (tx cs)), some (.ref p), x2, x3, x4] ∧ H' p = some (.lst (wvs (allW (i + 1)))) ∧ H p = none ∧ Same H H', fun σ' H' hN => ?_, fun x H1' hy => ?_⟩
      · obtain ⟨y2, y3, y4, p', e, a1, a2, a3⟩ := hN
        exact ⟨m - 1, by omega, y2, y3, y4, p', e, by omega, a1, a2, a3⟩
      · obtain ⟨rfl, c, hc, rfl⟩ := hy
        have al : (wvs (allW i)).length = (allW i).length := List.length_map ..
        have al64 : (allW i).length ≤ 32 := by
          rw [allW_length]
          exact Nat.le_trans (Nat.pow_le_pow_right (by decide) (show i ≤ 5 by omega)) (by decide)
        refine ⟨_, rfl, p, rfl, ⟨_, .inl (.inl h1)⟩, fun D nD => ?_⟩
        have sD := same_upd (o := .lst []) nD
        refine ⟨fun j k H2 => k = (allW i).length - j ∧ j ≤ (allW i).length ∧ H2 D = some (.lst (wvs (((allW i).take j).flatMap two))) ∧ Same H1' H2, ⟨_, rfl, Nat.zero_le _, upd_same, sD⟩, fun j k H2 hW2 => ?_⟩
        obtain ⟨rfl, hj, h2, s2⟩ := hW2
        have hp2 : SqL K H2 p (wvs (allW i)) := .inl (.inl (s2 _ _ h1))
        by_cases hjl : j < (allW i).length
        · have gj : (wvs (allW i))[j]? = some (V.str (wtx (allW i)[j])) := by
            unfold wvs
            rw [List.getElem?_map, List.getElem?_eq_getElem hjl]
            rfl
          have flen : (((allW i).take j).flatMap two).length ≤ 64 := by
            rw [List.length_flatMap]
            have : ((allW i).take j).map (fun w => (two w).length) = List.replicate j 2 := by
              refine List.ext_getElem? fun n => ?_
              rw [List.getElem?_map, List.getElem?_replicate, List.getElem?_take]
              by_cases hn : n < j
              · rw [if_pos hn, if_pos hn, List.getElem?_eq_getElem (by omega)]
                rfl
              · rw [if_neg hn, if_neg hn]
                rfl
            rw [this, List.sum_replicate_nat]
            omega
          refine .inr ⟨⟨_, _, hp2, gj⟩, fun H' => H' D = some (.lst (wvs (((allW i).take (j + 1)).flatMap two))) ∧ Same H1' H', fun H' hN => ⟨(allW i).length - (j + 1), by omega, rfl, hjl, hN.1, hN.2⟩, fun x H' hy2 => ?_⟩
          obtain ⟨rfl, fy⟩ := hy2
          have ex : x = V.str (wtx (allW i)[j]) := Option.some.inj ((fy _ hp2).symm.trans gj)
          subst ex
          refine ⟨rfl, lc_yes ?_⟩
          refine ⟨"01", rfl, fun u k2 H3 => k2 = 2 - u ∧ u ≤ 2 ∧ H3 D = some (.lst (wvs (((allW i).take j).flatMap two) ++ (wvs (two (allW i)[j])).take u)) ∧ Same H1' H3, ⟨_, rfl, by decide, by rw [h2, List.take_zero, List.append_nil], s2⟩, fun u k2 H3 hW3 => ?_⟩
          obtain ⟨rfl, hu, h3, s3⟩ := hW3
          have sz : (Str.ofString "01").cps.size = 2 := by decide +kernel
          by_cases hu2 : u < 2
          · refine .inr ⟨by show u < (Str.ofString "01").cps.size; omega, fun H' => H' D = some (.lst (wvs (((allW i).take j).flatMap two) ++ (wvs (two (allW i)[j])).take (u + 1))) ∧ Same H1' H', fun H' hN => ⟨2 - (u + 1), by omega, rfl, by omega, hN.1, hN.2⟩, fun x H' hy3 => ?_⟩
            obtain ⟨rfl, c3, hc3, rfl⟩ := hy3
            have eb : ∃ b : Bool, c3 = bc b ∧ (wvs (two (allW i)[j]))[u]? = some (V.str (wtx ((allW i)[j] ++ [b]))) := by
              have : u = 0 ∨ u = 1 := by omega
              rcases this with rfl | rfl
              · refine ⟨false, ?_, rfl⟩
                have : (Str.ofString "01").cps[0]? = some 48 := by decide +kernel
                exact (Option.some.inj (this.symm.trans hc3)).symm
              · refine ⟨true, ?_, rfl⟩
                have : (Str.ofString "01").cps[1]? = some 49 := by decide +kernel
                exact (Option.some.inj (this.symm.trans hc3)).symm
            obtain ⟨b, rfl, gb⟩ := eb
            refine ⟨rfl, lc_yes ?_⟩
            refine ⟨_, rfl, _, rfl, _, _, rfl, rfl, ?_, _, h3, ?_, ?_, ?_⟩
            · have l1 : (wtx (allW i)[j]).length = i := by
                show ((allW i)[j].map bc).length = i
                rw [List.length_map]
                exact allW_len (List.getElem_mem hjl)
              refine Nat.le_trans (show (wtx (allW i)[j]).length + 1 ≤ 100 from ?_) (by decide)
              omega
            · rw [List.length_append, List.length_take]
              have : (wvs (((allW i).take j).flatMap two)).length ≤ 64 := by
                unfold wvs
                rw [List.length_map]
                exact flen
              exact Nat.lt_of_le_of_lt (show _ ≤ 66 by omega) (by decide)
            · rw [upd_same, List.take_add_one, gb, ← List.append_assoc]
              have := wtx_snoc (allW i)[j] b
              rw [← this]
              rfl
            · intro a o e
              rw [upd_ne (ne_of_none e nD)]
              exact s3 a o e
          · have e2 : u = 2 := by omega
            subst e2
            refine .inl ⟨by show (Str.ofString "01").cps.size ≤ 2; omega, ?_, s3⟩
            have e3 : (wvs (two (allW i)[j])).take 2 = wvs (two (allW i)[j]) := rfl
            rw [h3, e3]
            unfold wvs
            rw [← List.map_append, List.take_add_one, List.getElem?_eq_getElem hjl, List.flatMap_append]
            simp
        · have ej : j = (allW i).length := by omega
          subst ej
          refine .inl ⟨⟨_, hp2, by rw [al]; exact Nat.le_refl _⟩, ?_⟩
          rw [List.take_length, ← allW_succ] at h2
          refine ⟨_, _, _, D, rfl, h2, s1.free nD, s1.trans s2⟩
    · have ei : i = cs.length := by omega
      subst ei
      exact .inl ⟨Nat.le_refl _, _, rfl, q _ p h1 np s1⟩
end
end B

namespace B
open PySem PySem.Spec PyProof.Rows L2
theorem any_iv (n : Nat) : ∀ ns : List Nat, ((ns.map fun k : Nat => PyData.int (k : Int)).any fun z => PyData.eqv z (.int (n : Int))) = decide (n ∈ ns)
  | [] => by simp
  | k :: r => by
    rw [List.map_cons, List.any_cons, any_iv n r]
    have e : PyData.eqv (.int (k : Int)) (.int (n : Int)) = decide (k = n) := by
      have e1 : PyData.eqv (.int (k : Int)) (.int (n : Int)) = decide ((k : Int) = (n : Int)) := by
        first
          | rfl
          | simp [PyData.eqv]
      rw [e1]
      exact decide_eq_decide.mpr (by omega)
    rw [e]
    by_cases c : k = n
    · subst c
      simp
    · rw [decide_eq_false c, Bool.false_or]
      exact decide_eq_decide.mpr ⟨fun h => List.mem_cons_of_mem _ h, fun h => (List.mem_cons.mp h).resolve_left fun z => c z.symm⟩
theorem fmf (p : Tkt → Bool) : ∀ l : List Tkt, (l.filterMap fun x => if p x = true then some x else none) = l.filter p
  | [] => rfl
  | x :: r => by
    rw [List.filterMap_cons, List.filter_cons, fmf p r]
    by_cases e : p x = true
    · rw [if_pos e, if_pos e]
    · rw [if_neg e, if_neg e]

def sp_without (K : PySem.W.Frag) : Sp := fun vs H Q _ => ∃ (a b : Addr) (tvs : List V) (tks : List Tkt) (ns : List Nat), vs = [.ref a, .ref b] ∧ SqT K H a tvs ∧ F2 (TkAt K H) tvs tks ∧ tks.length ≤ 100 ∧ H b = some (.lst (ns.map iv)) ∧ ∀ (H' : Hp) (p : Addr) (us : List V), SqT K H' p us → F2 (TkAt K H') us (tks.filter fun x => !decide (x.n ∈ ns)) → Same H H' → Q (.ref p) H'

section
variable {P : Program} {w : World} {K : PySem.W.Frag} {mg : Str → Option Value} {base : Heap}
theorem ok_without (T : Tx K mg w) (U : Unl P base) : FnOk P w K mg base CX0 35 T.without.f T.without.fd ["tickets", "gone"] (sp_without K) := by
  refine T.without.F.ok sc_without (fun vs H Q E h => ?_) (fun cdv A outer s H vs Q E hr h => ?_)
  · obtain ⟨a, b, tvs, tks, ns, rfl, tA, fA, l100, hB, q⟩ := h
    rfl
  · obtain ⟨a, b, tvs, tks, ns, rfl, tA, fA, l100, hB, q⟩ := h
    refine ⟨_, (pss_one (ps_ret (pe_callTy call_tuple_of (by rfl) T.m_tuple (by decide +kernel) (pa_cons (pe_lc (own := [("ticket", 2)]) (g := gName 2) rfl sc_without.nd (pi_tup (pv 0)) (blkOk_by (own := [("ticket", 2)]) (N := N_without) (sc := defScope s_without) (by decide +kernel)) (fun _ _ _ _ _ => (pg_name (i := 2) sc_without.nd rfl (.inl rfl))) (fun _ _ _ _ _ => (pts_one (pt_cmpR (r := rNotInDL K) (op_notInDL (room65 hr)) (pe_ix (r := rIxT K) ix_tup (pv 2) pe_int (fun _ _ => rfl)) (pv 1) (by rfl)))) (fun _ _ _ _ _ => (pv 2))) pa_nil)))), ?_⟩
    have lA := fA.len
    refine ⟨_, rfl, a, rfl, ⟨_, tA⟩, fun D nD => ?_⟩
    refine lcp_tup (K := K) (xs := tvs) (R := TkAt K) (IR := TkAt K H) tks (fun x => if (!decide (x.n ∈ ns)) = true then some x else none) (fun _ _ _ _ k h => h.mono k) fA nD tA (Nat.lt_of_le_of_lt (show tvs.length ≤ 100 by omega) (by decide)) ?_ ?_
    · rintro v x H2 hx _ s2 Y N hY hN
      obtain ⟨tq, a1, c1, e1, rfl, t1, _⟩ := id hx
      refine ⟨rfl, _, rfl, tq, _, 0, .int x.n, rfl, rfl, Same.tup s2 t1, rfl, _, rfl, ?_⟩
      refine ⟨.int (x.n : Int), _, .int _, iv_dp (.inl (.inl (s2 _ _ hB))), rfl, iv_shaped ns, _, rfl, ?_⟩
      rw [show (ns.map fun k : Nat => PyData.int (k : Int)).any (fun z => PyData.eqv z (.int (x.n : Int))) = decide (x.n ∈ ns) from any_iv _ _]
      refine ite2 (fun e => ?_) (fun e => ?_)
      · exact ⟨_, rfl, hY _ _ _ (Same.refl _) (if_pos e) (hx.mono (Same.tk s2))⟩
      · exact hN _ (Same.refl _) (if_neg e)
    intro H2 ys h2 f2 s2
    refine ⟨D, ys, rfl, .inl ⟨.inl (.inl h2), fun p np => ?_⟩⟩
    have s3 := same_upd (o := .tup ys) np
    rw [fmf (fun x => !decide (x.n ∈ ns))] at f2
    exact q _ p ys sqt_upd (f2.imp fun _ _ h => h.mono (Same.tk s3)) (s2.trans s3)
end
end B

namespace B
open PySem PySem.Spec PyProof.Rows L2

def sp_exchanged (K : PySem.W.Frag) : Sp := fun vs H Q _ => ∃ (a b : Addr) (tvs : List V) (tks : List Tkt) (t : Tkt), vs = [.ref a, .ref b] ∧ SqT K H a tvs ∧ F2 (TkAt K H) tvs tks ∧ tks.length ≤ 100 ∧ TkAt K H (.ref b) t ∧ ∀ (H' : Hp) (p : Addr) (us : List V), SqT K H' p us → F2 (TkAt K H') us (tks.map fun x => if x.n = t.n then t else x) → Same H H' → Q (.ref p) H'

section
variable {P : Program} {w : World} {K : PySem.W.Frag} {mg : Str → Option Value} {base : Heap}
theorem ok_exchanged (T : Tx K mg w) (U : Unl P base) : FnOk P w K mg base CX0 35 T.exchanged.f T.exchanged.fd ["tickets", "new"] (sp_exchanged K) := by
  refine T.exchanged.F.ok sc_exchanged (fun vs H Q E h => ?_) (fun cdv A outer s H vs Q E hr h => ?_)
  · obtain ⟨a, b, tvs, tks, t, rfl, tA, fA, l100, hT, q⟩ := h
    rfl
  · obtain ⟨a, b, tvs, tks, t, rfl, tA, fA, l100, hT, q⟩ := h
    refine ⟨_, (pss_one (ps_ret (pe_callTy call_tuple_of (by rfl) T.m_tuple (by decide +kernel) (pa_cons (pe_lc (own := [("ticket", 2)]) (g := gName 2) (tt := tYes) rfl sc_exchanged.nd (pi_tup (pv 0)) (blkOk_by (own := [("ticket", 2)]) (N := N_exchanged) (sc := defScope s_exchanged) (by decide +kernel)) (fun _ _ _ _ _ => (pg_name (i := 2) sc_exchanged.nd rfl (.inl rfl))) (fun _ _ _ _ _ => pts_nil) (fun _ _ _ _ _ => (pe_ifExp (pt_cmpR op_eq (pe_ix (r := rIxT K) ix_tup (pv 2) pe_int (fun _ _ => rfl)) (pe_ix (r := rIxT K) ix_tup (pv 1) pe_int (fun _ _ => rfl)) (nomark _)) (pv 1) (pv 2)))) pa_nil)))), ?_⟩
    have lA := fA.len
    refine ⟨_, rfl, a, rfl, ⟨_, tA⟩, fun D nD => ?_⟩
    refine lcp_tup (K := K) (xs := tvs) (R := TkAt K) (IR := TkAt K H) tks (fun x => some (if x.n = t.n then t else x)) (fun _ _ _ _ k h => h.mono k) fA nD tA (Nat.lt_of_le_of_lt (show tvs.length ≤ 100 by omega) (by decide)) ?_ ?_
    · rintro v x H2 hx _ s2 Y N hY _
      obtain ⟨tq, a1, c1, e1, rfl, t1, _⟩ := id hx
      obtain ⟨tb, a2, c2, e2, eb, t2, _⟩ := id hT
      injection eb with eb
      subst eb
      refine ⟨rfl, lc_yes ?_⟩
      refine ⟨_, rfl, tq, _, 0, .int x.n, rfl, rfl, Same.tup s2 t1, rfl, _, rfl, b, _, 0, .int t.n, rfl, rfl, Same.tup s2 t2, rfl, rfl, _, rfl, ?_⟩
      by_cases e : x.n = t.n
      · refine iteK (decide_eq_true (by rw [e])) ⟨_, rfl, hY _ _ _ (Same.refl _) (congrArg some (if_pos e)) (hT.mono (Same.tk s2))⟩
      · refine iteE (decide_eq_false fun z => e (by injection z with z; omega)) ⟨_, rfl, hY _ _ _ (Same.refl _) (congrArg some (if_neg e)) (hx.mono (Same.tk s2))⟩
    intro H2 ys h2 f2 s2
    rw [fm_some] at f2
    refine ⟨D, ys, rfl, .inl ⟨.inl (.inl h2), fun p np => ?_⟩⟩
    have s3 := same_upd (o := .tup ys) np
    exact q _ p ys sqt_upd (f2.imp fun _ _ h => h.mono (Same.tk s3)) (s2.trans s3)
end
end B

namespace B
open PySem PySem.Spec PyProof.Rows L2

def sp_few_enough (K : PySem.W.Frag) : Sp := fun vs H Q E => ∃ (a : Addr) (xs : List V), vs = [.ref a] ∧ SqT K H a xs ∧ (12 < xs.length → ∀ C, XIs K "TooMany" C → ∀ d H', DOk H' d → Same H H' → E (.ref C) d H') ∧ (xs.length ≤ 12 → Q (.ref a) H)

section
variable {P : Program} {w : World} {K : PySem.W.Frag} {mg : Str → Option Value} {base : Heap}
theorem ok_few_enough (T : Tx K mg w) (U : Unl P base) : FnOk P w K mg base (L2.CX P w) 35 T.few_enough.f T.few_enough.fd ["tickets"] (sp_few_enough K) := by
  refine T.few_enough.F.okX sc_few_enough (fun vs H Q E h => ?_) (fun cdv A outer s H vs Q E hr h => ?_)
  · obtain ⟨a, xs, rfl, hA, hE, hQ⟩ := h
    rfl
  · obtain ⟨a, xs, rfl, hA, hE, hQ⟩ := h
    refine ⟨_, (pss_cons (ps_if (pt_cmpR op_gt (pe_callB call_len_seq (by rfl) T.m_len (by decide +kernel) (pa_cons (pv 0) pa_nil)) (pe_glob (v := .int 12) (by rfl) T.g_MOST_TICKETS ⟨_, rfl⟩) (nomark _)) (pss_one (ps_raise rfl (takes_of rfl rfl rfl rfl) (pmk_none T.x_TooMany hr (by rfl)))) pss_nil)
      (pss_one (ps_ret (pv 0)))), ?_⟩
    refine ⟨_, rfl, a, xs, rfl, .inr hA, _, _, rfl, rfl, _, rfl, ?_⟩
    by_cases l : 12 < xs.length
    · exact iteK (decide_eq_true (by omega)) fun d nd => hE l _ T.x_TooMany.ns _ _ dok_upd (same_upd nd)
    · exact iteE (decide_eq_false (by omega)) ⟨_, rfl, hQ (by omega)⟩
end
end B

namespace B
open PySem PySem.Spec PyProof.Rows L2
def sp_parted (_ : PySem.W.Frag) : Sp := fun _ _ _ _ => False
section
variable {P : Program} {w : World} {K : PySem.W.Frag} {mg : Str → Option Value} {base : Heap}
theorem ok_parted (T : Tx K mg w) (U : Unl P base) : FnOk P w K mg base CX0 35 T.parted.f T.parted.fd ["stand", "parts"] (sp_parted K) := T.parted.F.ok sc_parted (fun vs H Q E h => h.elim) (fun cdv A outer s H vs Q E hr h => h.elim)
end
end B

namespace B
open PySem PySem.Spec PyProof.Rows L2
def sp_netted (_ : PySem.W.Frag) : Sp := fun _ _ _ _ => False
section
variable {P : Program} {w : World} {K : PySem.W.Frag} {mg : Str → Option Value} {base : Heap}
theorem ok_netted (T : Tx K mg w) (U : Unl P base) : FnOk P w K mg base CX0 35 T.netted.f T.netted.fd ["stand", "parts"] (sp_netted K) := T.netted.F.ok sc_netted (fun vs H Q E h => h.elim) (fun cdv A outer s H vs Q E hr h => h.elim)
end
end B

namespace B
open PySem PySem.Spec PyProof.Rows L2
def sp_cleared (_ : PySem.W.Frag) : Sp := fun _ _ _ _ => False
section
variable {P : Program} {w : World} {K : PySem.W.Frag} {mg : Str → Option Value} {base : Heap}
theorem ok_cleared (T : Tx K mg w) (U : Unl P base) : FnOk P w K mg base CX0 35 T.cleared.f T.cleared.fd ["stand", "parts"] (sp_cleared K) := T.cleared.F.ok sc_cleared (fun vs H Q E h => h.elim) (fun cdv A outer s H vs Q E hr h => h.elim)
end
end B

namespace B
open PySem PySem.Spec PyProof.Rows L2
def sp_posted (_ : PySem.W.Frag) : Sp := fun _ _ _ _ => False
section
variable {P : Program} {w : World} {K : PySem.W.Frag} {mg : Str → Option Value} {base : Heap}
theorem ok_posted (T : Tx K mg w) (U : Unl P base) : FnOk P w K mg base CX0 35 T.posted.f T.posted.fd ["stand", "parts"] (sp_posted K) := T.posted.F.ok sc_posted (fun vs H Q E h => h.elim) (fun cdv A outer s H vs Q E hr h => h.elim)
end
end B

namespace B
open PySem PySem.Spec PyProof.Rows L2
def sp_sold (_ : PySem.W.Frag) : Sp := fun _ _ _ _ => False
section
variable {P : Program} {w : World} {K : PySem.W.Frag} {mg : Str → Option Value} {base : Heap}
theorem ok_sold (T : Tx K mg w) (U : Unl P base) : FnOk P w K mg base CX0 35 T.sold.f T.sold.fd ["stand", "parts"] (sp_sold K) := T.sold.F.ok sc_sold (fun vs H Q E h => h.elim) (fun cdv A outer s H vs Q E hr h => h.elim)
end
end B

namespace B
open PySem PySem.Spec PyProof.Rows L2
def sp_heard (_ : PySem.W.Frag) : Sp := fun _ _ _ _ => False
section
variable {P : Program} {w : World} {K : PySem.W.Frag} {mg : Str → Option Value} {base : Heap}
theorem ok_heard (T : Tx K mg w) (U : Unl P base) : FnOk P w K mg base CX0 35 T.heard.f T.heard.fd ["stand", "parts"] (sp_heard K) := T.heard.F.ok sc_heard (fun vs H Q E h => h.elim) (fun cdv A outer s H vs Q E hr h => h.elim)
end
end B

namespace B
open PySem PySem.Spec PyProof.Rows L2

def sp_is_deed (K : PySem.W.Frag) : Sp := fun vs H Q _ => ∃ (dq : Addr) (nm : Str) (ps : List V), vs = [.ref dq] ∧ SqT K H dq (.str nm :: ps) ∧ (nm, (ps.length : Int)) ∈ ([("deal", 5), ("split", 2), ("hand", 4), ("net", 2), ("clear", 1), ("post", 2), ("sell", 4), ("hear", 1)] : List (Str × Int)) ∧ Q (.bl true) H

section
variable {P : Program} {w : World} {K : PySem.W.Frag} {mg : Str → Option Value} {base : Heap}
theorem ok_is_deed (T : Tx K mg w) (U : Unl P base) : FnOk P w K mg base CX0 35 T.is_deed.f T.is_deed.fd ["thing"] (sp_is_deed K) := by
  refine T.is_deed.F.ok sc_is_deed (fun vs H Q E h => ?_) (fun cdv A outer s H vs Q E hr h => ?_)
  · obtain ⟨dq, nm, ps, rfl, tD, hm, q⟩ := h
    rfl
  · obtain ⟨dq, nm, ps, rfl, tD, hm, q⟩ := h
    refine ⟨_, (pss_cons (ps_if (PW.pt (pw_or (pt_not (pt_val (pe_callB call_isi (by rfl) T.m_isinstance (by decide +kernel) (pa_cons (pv 0) (pa_cons (pe_bltn (v := .ty "tuple") (u := .type "tuple") (by rfl) T.m_tuple (by decide +kernel) rfl) pa_nil))))) (pw_or (pt_cmpR op_eq (pe_callB call_len_seq (by rfl) T.m_len (by decide +kernel) (pa_cons (pv 0) pa_nil)) pe_int (nomark _)) (pw_or1 (pt_not (pt_val (pe_callB call_isi (by rfl) T.m_isinstance (by decide +kernel) (pa_cons (pe_ix ix_tup (pv 0) pe_int (fun _ _ => rfl)) (pa_cons (pe_bltn (v := .ty "str") (u := .type "str") (by rfl) T.m_str (by decide +kernel) rfl) pa_nil))))))))) (pss_one (ps_ret pe_bl)) pss_nil)
      (pss_one (ps_ret (pe_cmpR op_eq (pe_kget1 T.d_PARTS.choose_spec.choose_spec (pe_glob (v := .ref T.a_PARTS) (by rfl) T.g_PARTS rfl) (pe_ix ix_tup (pv 0) pe_int (fun _ _ => rfl)) ⟨rfl, rfl, rfl, rfl⟩) (pe_op op_sub (pe_callB call_len_seq (by rfl) T.m_len (by decide +kernel) (pa_cons (pv 0) pa_nil)) pe_int) (nomark _))))), ?_⟩
    have lt : (V.str nm :: ps).length = ps.length + 1 := rfl
    have a0 : atI (V.str nm :: ps) 0 = some (.str nm) := atI_nat (show (V.str nm :: ps)[0]? = some (V.str nm) from rfl)
    obtain ⟨u, e, r⟩ := T.v_PARTS _ hm
    refine ⟨_, rfl, _, .ty "tuple", .type "tuple", .type "tuple", true, rfl, .ty _, ty_tup tD, kit_ty (by decide +kernel), _, rfl, iteF ?_⟩
    refine ⟨_, rfl, dq, _, rfl, .inr tD, rfl, _, rfl, iteE (decide_eq_false fun z => ?_) ?_⟩
    · injection z with z
      rw [lt] at z
      omega
    refine ⟨_, rfl, dq, _, 0, .str nm, rfl, rfl, tD, a0, _, .ty "str", .type "str", .type "str", true, rfl, .ty _, .base (.str _), kit_ty (by decide +kernel), _, rfl, iteF ?_⟩
    refine ⟨rfl, _, rfl, dq, _, 0, .str nm, rfl, rfl, tD, a0, nm, rfl, .inl ⟨u, .int (ps.length : Int), e, r, ?_⟩⟩
    refine ⟨_, rfl, dq, _, rfl, .inr tD, _, _, rfl, rfl, ?_⟩
    refine ⟨rfl, ?_⟩
    have e1 : V.int ((↑(V.str nm :: ps).length : Int) - 1) = V.int (ps.length : Int) := by
      rw [lt]
      congr 1
      omega
    show Q (.bl (decide (V.int (ps.length : Int) = V.int ((↑(V.str nm :: ps).length : Int) - 1)))) H
    rw [e1, decide_eq_true rfl]
    exact q
end
end B

namespace B
open PySem PySem.Spec PyProof.Rows L2
theorem cut63 {xs : List V} (h : xs.length ≤ 63) : cutV xs none (some 63) = xs := by
  unfold cutV
  rw [HT.sIx_none, show HT.sIx xs.length xs.length (some 63) = min 63 xs.length from HT.sIx_nat xs.length xs.length 63]
  rw [List.drop_zero, List.take_of_length_le (by omega)]

def sp_l_draws (K : PySem.W.Frag) : Sp := fun vs H Q _ => ∃ (a : Addr) (ns : List Int), vs = [.ref a] ∧ SqL K H a (ns.map V.int) ∧ ns.length ≤ 63 ∧ ∀ (H' : Hp) (d : Dr), Drw H' d 900000 → Same H H' → H d.dr = none → H d.rs = none → Q (.ref d.dr) H'

section
variable {P : Program} {w : World} {K : PySem.W.Frag} {mg : Str → Option Value} {base : Heap}
theorem ok_l_draws (T : Tx K mg w) (U : Unl P base) : FnOk P w K mg base CX0 35 T.l_draws.f T.l_draws.fd ["_law_script"] (sp_l_draws K) := by
  refine T.l_draws.F.ok sc_l_draws (fun vs H Q E h => ?_) (fun cdv A outer s H vs Q E hr h => ?_)
  · obtain ⟨a, ns, rfl, hS, hlen, q⟩ := h
    rfl
  · obtain ⟨a, ns, rfl, hS, hlen, q⟩ := h
    refine ⟨_, (pss_cons (ps_set (i := 1) sc_l_draws.nd rfl (.inl rfl) (pe_op op_cat (pe_callTy call_list_of (by rfl) T.m_list (by decide +kernel) (pa_cons (pe_slice sl_list (pv 0) po_none (po_some pe_int)) pa_nil)) (pe_op op_rep (pe_lst (pa_cons pe_int pa_nil)) (pe_callTy call_int1 (by rfl) T.m_int (by decide +kernel) (pa_cons (pe_cmpR op_eq (pe_callB call_len_seq (by rfl) T.m_len (by decide +kernel) (pa_cons (pv 0) pa_nil)) pe_int (nomark _)) pa_nil)))))
      (pss_one (ps_ret (pe_lst (pa_cons (pv 1) (pa_cons pe_int (pa_cons (pe_lc (own := [("_law_cell", 2)]) (g := gName 2) (tt := tYes) rfl sc_l_draws.nd (pi_list (pv 1)) (blkOk_by (own := [("_law_cell", 2)]) (N := N_l_draws) (sc := defScope s_l_draws) (by decide +kernel)) (fun _ _ _ _ _ => (pg_name (i := 2) sc_l_draws.nd rfl (.inl rfl))) (fun _ _ _ _ _ => pts_nil) (fun _ _ _ _ _ => (pe_op op_mul (pv 2) (pe_callTy (T := "int") call_int1 (by rfl) T.m_int (by decide +kernel) (pa_cons (pe_cmpR op_ge (pv 2) (pe_op op_pow pe_int pe_int) (nomark _)) pa_nil))))) pa_nil))))))), ?_⟩
    have lns : (ns.map V.int).length = ns.length := List.length_map ..
    refine ⟨_, rfl, 63, rfl, a, _, rfl, hS, fun p1 np1 => ?_⟩
    have s1 := same_upd (o := .lst (cutV (ns.map V.int) none (some 63))) np1
    refine ⟨p1, _, rfl, .inl sql_upd, fun l nl => ?_⟩
    rw [cut63 (by rw [lns]; exact hlen)] at s1 nl ⊢
    have s2 := s1.trans (same_upd (o := .lst (ns.map V.int)) nl)
    refine ⟨by decide, fun z nz => ?_⟩
    have s3 := s2.trans (same_upd (o := .lst [.int 0]) nz)
    refine ⟨_, rfl, a, _, rfl, .inl (s3.seq hS), rfl, .inr ⟨_, rfl, ?_⟩⟩
    have hl3 : (upd (upd (upd H p1 (.lst (ns.map V.int))) l (.lst (ns.map V.int))) z (.lst [.int 0])) l = some (.lst (ns.map V.int)) := by
      rw [upd_ne (ne_of_none upd_same nz), upd_same]
    obtain ⟨k, hk, k2⟩ : ∃ k : Nat, (if decide (V.int ((ns.map V.int).length : Nat) = V.int 0) = true then (1 : Int) else 0) = (k : Int) ∧ ((ns = [] ∧ k = 1) ∨ (ns ≠ [] ∧ k = 0)) := by
      cases ns with
      | nil => exact ⟨1, rfl, .inl ⟨rfl, rfl⟩⟩
      | cons x r =>
        refine ⟨0, ?_, .inr ⟨by simp, rfl⟩⟩
        rw [if_neg]
        · rfl
        · intro e
          have e2 := V.int.inj (of_decide_eq_true e)
          rw [List.length_map, List.length_cons] at e2
          omega
    refine ⟨z, _, _, rfl, rfl, upd_same, ?_, ?_, ?_, fun r nr => ?_⟩
    · rw [hk]
      omega
    · rw [hk]
      omega
    · rw [hk, Int.toNat_natCast]
      show 1 * k ≤ sizeLine
      exact Nat.le_trans (show 1 * k ≤ 1 by omega) (by decide)
    rw [hk, Int.toNat_natCast]
    have s4 := s3.trans (same_upd (o := .lst (List.replicate k [V.int 0]).flatten) nr)
    obtain ⟨cs, ecs, c0, c63⟩ : ∃ cs : List Int, ns.map V.int ++ (List.replicate k [V.int 0]).flatten = cs.map V.int ∧ 0 < cs.length ∧ cs.length ≤ 63 := by
      rcases k2 with ⟨rfl, rfl⟩ | ⟨h, rfl⟩
      · exact ⟨[0], rfl, by decide, by decide⟩
      · refine ⟨ns, by simp, ?_, hlen⟩
        cases ns with
        | nil => exact absurd rfl h
        | cons x r => rw [List.length_cons]; omega
    refine ⟨l, r, ns.map V.int, _, rfl, rfl, ?_, upd_same, ?_, fun c nc => ?_⟩
    · rw [upd_ne (ne_of_none hl3 nr)]
      exact hl3
    · have e := congrArg List.length ecs
      rw [List.length_append, List.length_map] at e
      rw [List.length_map, e, List.length_map]
      exact Nat.le_trans c63 (by decide)
    rw [ecs]
    have s5 := s4.trans (same_upd (o := .lst (cs.map V.int)) nc)
    have hc5 := upd_same (H := upd (upd (upd (upd H p1 (.lst (ns.map V.int))) l (.lst (ns.map V.int))) z (.lst [.int 0])) r (.lst (List.replicate k [V.int 0]).flatten)) (a := c) (o := .lst (cs.map V.int))
    generalize upd (upd (upd (upd (upd H p1 (.lst (ns.map V.int))) l (.lst (ns.map V.int))) z (.lst [.int 0])) r (.lst (List.replicate k [V.int 0]).flatten)) c (.lst (cs.map V.int)) = H5 at s5 hc5 ⊢
    refine ⟨_, rfl, _, rfl, c, rfl, ⟨_, .inl (.inl hc5)⟩, fun D nD => ?_⟩
    refine lc_list (K := K) (a := c) (xs := cs.map V.int) (fun i H' => ∃ acc : List Int, H' D = some (.lst (acc.map V.int)) ∧ acc.length = i ∧ i ≤ cs.length ∧ Same H5 H') ⟨[], upd_same, rfl, by omega, same_upd nD⟩ (fun i H' _ ⟨_, _, _, _, e⟩ => .inl (.inl (e _ _ hc5))) ?_ ?_
    · rintro i x H' hx ⟨acc, h1, h2, h3, h4⟩
      have hi : i < cs.length := by
        have := (List.getElem?_eq_some_iff.mp hx).1
        rw [List.length_map] at this
        exact this
      obtain ⟨y, hy, rfl⟩ : ∃ y, cs[i]? = some y ∧ x = V.int y := by
        rw [List.getElem?_map] at hx
        cases e : cs[i]? with
        | none => rw [e] at hx; cases hx
        | some y => rw [e] at hx; exact ⟨y, rfl, (Option.some.inj hx).symm⟩
      refine ⟨rfl, lc_yes ?_⟩
      refine ⟨_, rfl, _, rfl, _, _, rfl, rfl, ⟨by decide, by decide, by decide⟩, _, _, rfl, rfl, .inr ⟨_, rfl, ?_⟩⟩
      refine ⟨_, _, rfl, rfl, .inr ?_, _, h1, ?_, ?_⟩
      · constructor
        · split <;> decide
        · split <;> decide
      · rw [List.length_map]
        exact Nat.lt_of_le_of_lt (show acc.length ≤ 63 by omega) (by decide)
      · refine ⟨acc ++ [_], by rw [upd_same, List.map_append]; rfl, by rw [List.length_append, h2]; rfl, hi, fun b o e => ?_⟩
        rw [upd_ne (ne_of_none e nD)]
        exact h4 b o e
    · rintro H' ⟨acc, h1, h2, h3, h4⟩
      refine ⟨by show 3 ≤ sizeLine; decide, fun p np => ?_⟩
      rw [List.length_map] at h2
      refine q _ ⟨p, c, D⟩ ⟨⟨cs, acc, 0, upd_same, ?_, ?_, h2.symm, c0, c63, by decide⟩, ?_⟩ ?_ ?_ ?_
      · rw [upd_ne (ne_of_none (h4 _ _ hc5) np)]
        exact h4 _ _ hc5
      · rw [upd_ne (ne_of_none h1 np)]
        exact h1
      · exact ne_of_none hc5 nD
      · exact (s5.trans h4).trans (same_upd np)
      · exact (s5.trans h4).free np
      · exact s5.free nD
end
end B

namespace B
open PySem PySem.Spec PyProof.Rows L2

def sp_l_next (_ : PySem.W.Frag) : Sp := fun vs H Q _ => ∃ (d : Dr) (b : Nat) (many : Int), vs = [.ref d.dr, .int many] ∧ 0 < many ∧ many.natAbs < 2 ^ 70 ∧ Drw H d (b + 1) ∧ ∀ (H' : Hp) (r : Int), 0 ≤ r → r < many → Drw H' d b → Kp d H H' → Q (.int r) H'

section
variable {P : Program} {w : World} {K : PySem.W.Frag} {mg : Str → Option Value} {base : Heap}
theorem ok_l_next (T : Tx K mg w) (U : Unl P base) : FnOk P w K mg base CX0 35 T.l_next.f T.l_next.fd ["_law_drawn", "_law_many"] (sp_l_next K) := by
  refine T.l_next.F.ok sc_l_next (fun vs H Q E h => ?_) (fun cdv A outer s H vs Q E hr h => ?_)
  · obtain ⟨d, b, many, rfl, hm0, hm1, ⟨⟨cs, rr, c, h1, h2, h3, hl, hp, h63, hb⟩, ne⟩, q⟩ := h
    rfl
  · obtain ⟨d, b, many, rfl, hm0, hm1, ⟨⟨cs, rr, c, h1, h2, h3, hl, hp, h63, hb⟩, ne⟩, q⟩ := h
    refine ⟨_, (pss_cons (ps_asg (pv 0) (pg_lst rfl (pgs_cons (pg_name (i := 2) sc_l_next.nd rfl (.inl rfl)) (pgs_cons (pg_name (i := 3) sc_l_next.nd rfl (.inl rfl)) (pgs_cons (pg_name (i := 4) sc_l_next.nd rfl (.inl rfl)) pgs_nil)))))
      (pss_cons (ps_set (i := 5) sc_l_next.nd rfl (.inl rfl) (pe_op op_mod (pv 3) (pe_callB call_len_seq (by rfl) T.m_len (by decide +kernel) (pa_cons (pv 2) pa_nil))))
      (pss_cons (ps_asg (pe_op op_add (pv 3) pe_int) (pg_sub (pv 0) pe_int set_list))
      (pss_cons (ps_if (pt_cmpR op_gt (pe_ix ix_list (pv 4) (pv 5) (fun _ _ => rfl)) pe_int (nomark _)) (pss_cons (ps_set (i := 6) sc_l_next.nd rfl (.inl rfl) (pe_op op_mod (pe_ix ix_list (pv 4) (pv 5) (fun _ _ => rfl)) (pv 1)))
      (pss_cons (ps_asg (pe_op (op_fdivW U (hr.mono (by decide)) rfl sc_l_next.gen sc_l_next.co rfl rfl) (pe_ix ix_list (pv 4) (pv 5) (fun _ _ => rfl)) (pv 1)) (pg_sub (pv 4) (pv 5) set_list))
      (pss_one (ps_ret (pv 6))))) pss_nil)
      (pss_cons (ps_set (i := 7) sc_l_next.nd rfl (.inl rfl) (pe_lst (pa_cons pe_int (pa_cons pe_int (pa_cons pe_int (pa_cons pe_int (pa_cons pe_int (pa_cons pe_int (pa_cons pe_int pa_nil)))))))))
      (pss_cons (ps_set (i := 8) sc_l_next.nd rfl (.inl rfl) (pe_op op_add (pe_op op_add (pe_op op_mod (pe_ix ix_list (pv 2) (pv 5) (fun _ _ => rfl)) pe_int) (pe_op op_mul pe_int (pv 3))) pe_int))
      (pss_cons (ps_set (i := 8) sc_l_next.nd rfl (.inl rfl) (pe_op op_mod (pe_op op_pow (pv 8) pe_int) (pe_ix ix_list (pv 7) (pe_op op_mod (pv 3) pe_int) (fun _ _ => rfl))))
      (pss_cons (ps_set (i := 9) sc_l_next.nd rfl (.inl rfl) (pe_op op_mod (pe_op op_pow (pe_op op_add (pv 8) (pe_op op_mul pe_int (pv 3))) pe_int) pe_int))
      (pss_one (ps_ret (pe_op op_mod (pe_op op_mod (pe_op op_add (pe_op op_mul (pv 9) pe_int) (pv 8)) pe_int) (pv 1)))))))))))), ?_⟩
    have n1 : d.dr ≠ d.cl := ne_of h1 h2 (by intro z; cases cs with | nil => cases z | cons x r => cases z)
    have n2 : d.dr ≠ d.rs := ne_of h1 h3 (by intro z; cases rr with | nil => cases z | cons x r => cases z)
    have lc : (cs.map V.int).length = cs.length := List.length_map ..
    have lr : (rr.map V.int).length = cs.length := by rw [List.length_map, hl]
    have hj : c % (cs.map V.int).length < cs.length := by
      rw [lc]
      exact Nat.mod_lt _ hp
    obtain ⟨x, hx⟩ : ∃ x, cs[c % (cs.map V.int).length]? = some x := ⟨_, List.getElem?_eq_getElem hj⟩
    obtain ⟨y, hy⟩ : ∃ y, rr[c % (cs.map V.int).length]? = some y := ⟨_, List.getElem?_eq_getElem (by rw [← hl]; exact hj)⟩
    refine ⟨_, rfl, d.dr, _, rfl, .inl (.inl h1), rfl, _, _, rfl, _, _, rfl, _, _, rfl, rfl, ?_⟩
    refine ⟨_, rfl, _, rfl, d.cl, _, rfl, .inl (.inl (.inl h2)), _, _, rfl, rfl, (by show (0 : Int) < ((cs.map V.int).length : Int); omega), ?_⟩
    refine ⟨_, rfl, _, _, rfl, rfl, _, rfl, d.dr, _, 1, 1, rfl, rfl, h1, rfl, ?_⟩
    have H1r : (upd H d.dr (.lst ([.ref d.cl, .int c, .ref d.rs].set 1 (.int ((c : Int) + 1))))) d.rs = some (.lst (rr.map V.int)) := by rw [upd_ne n2.symm]; exact h3
    have H1c : (upd H d.dr (.lst ([.ref d.cl, .int c, .ref d.rs].set 1 (.int ((c : Int) + 1))))) d.cl = some (.lst (cs.map V.int)) := by rw [upd_ne n1.symm]; exact h2
    have ary : atI (rr.map V.int) ((c % (cs.map V.int).length : Nat) : Int) = some (.int y) := at_nat (by rw [List.getElem?_map, hy]; rfl)
    have arx : atI (cs.map V.int) ((c % (cs.map V.int).length : Nat) : Int) = some (.int x) := at_nat (by rw [List.getElem?_map, hx]; rfl)
    refine ⟨_, rfl, _, rfl, d.rs, _, ((c % (cs.map V.int).length : Nat) : Int), _, rfl, rfl, .inl (.inl H1r), ary, _, _, rfl, rfl, _, rfl, ite2 (fun e => ?_) (fun e => ?_)⟩
    · refine ⟨_, rfl, _, rfl, d.rs, _, ((c % (cs.map V.int).length : Nat) : Int), _, rfl, rfl, .inl (.inl H1r), ary, _, rfl, _, _, rfl, rfl, hm0, ?_⟩
      refine ⟨_, rfl, _, rfl, d.rs, _, ((c % (cs.map V.int).length : Nat) : Int), _, rfl, rfl, .inl (.inl H1r), ary, _, rfl, _, _, rfl, rfl, wide_div hm0 hm1 (by decide) (by decide), _, rfl, _, rfl, d.rs, _, ((c % (cs.map V.int).length : Nat) : Int), c % (cs.map V.int).length, rfl, rfl, H1r, ?_, ?_⟩
      · unfold ixN
        rw [if_pos (by omega), if_pos (by rw [lr]; omega)]
        rfl
      refine ⟨_, rfl, ?_⟩
      refine q _ _ (Int.emod_nonneg _ (by omega)) (Int.emod_lt_of_pos _ hm0) ⟨⟨cs, rr.set (c % (cs.map V.int).length) (y / many), c + 1, ?_, ?_, ?_, ?_, hp, h63, by omega⟩, ne⟩ ?_
      · rw [upd_ne n2, upd_same]
        rfl
      · rw [upd_ne ne]
        exact H1c
      · rw [upd_same, List.map_set]
      · rw [List.length_set]
        exact hl
      · intro p o hp1 a1 a2
        rw [upd_ne a2, upd_ne a1]
        exact hp1
    · refine ⟨by decide, fun pr npr => ?_⟩
      have npc : d.cl ≠ pr := ne_of_none H1c npr
      refine ⟨_, rfl, _, rfl, d.cl, _, ((c % (cs.map V.int).length : Nat) : Int), _, rfl, rfl, .inl (.inl (by rw [upd_ne npc]; exact H1c)), arx, _, _, rfl, rfl, (by show (0 : Int) < 2147483647; decide), _, rfl, _, _, rfl, rfl, .inl ⟨by decide, by decide⟩, _, _, rfl, rfl, _, _, rfl, rfl, ?_⟩
      have c7 : c % 7 < 7 := Nat.mod_lt _ (by decide)
      obtain ⟨pm, hpm, pm0, pm1⟩ : ∃ pm : Int, ([.int 2147483629, .int 2147483587, .int 2147483579, .int 2147483563, .int 2147483549, .int 2147483543, .int 2147483497] : List V)[c % 7]? = some (.int pm) ∧ 0 < pm ∧ pm < 2147483648 := by
        generalize c % 7 = z at c7
        match z, c7 with
        | 0, _ => exact ⟨_, rfl, by decide, by decide⟩
        | 1, _ => exact ⟨_, rfl, by decide, by decide⟩
        | 2, _ => exact ⟨_, rfl, by decide, by decide⟩
        | 3, _ => exact ⟨_, rfl, by decide, by decide⟩
        | 4, _ => exact ⟨_, rfl, by decide, by decide⟩
        | 5, _ => exact ⟨_, rfl, by decide, by decide⟩
        | 6, _ => exact ⟨_, rfl, by decide, by decide⟩
      refine ⟨_, rfl, _, _, rfl, rfl, ⟨by decide, by decide, by omega⟩, _, rfl, _, rfl, _, _, rfl, rfl, (by show (0 : Int) < 7; decide), pr, _, ((c % 7 : Nat) : Int), _, rfl, rfl, .inl (.inl upd_same), at_nat hpm, _, _, rfl, rfl, pm0, ?_⟩
      have m2 := Int.emod_nonneg ((x % 2147483647 + 48271 * (c : Int) + 104729) ^ (3 : Int).toNat) (show pm ≠ 0 by omega)
      have m2' := Int.emod_lt_of_pos ((x % 2147483647 + 48271 * (c : Int) + 104729) ^ (3 : Int).toNat) pm0
      refine ⟨_, rfl, _, rfl, _, _, rfl, rfl, .inl ⟨by decide, by decide⟩, _, _, rfl, rfl, _, _, rfl, rfl, ⟨by decide, by decide, by omega⟩, _, _, rfl, rfl, (by show (0 : Int) < 2147483477; decide), ?_⟩
      refine ⟨_, rfl, _, _, rfl, rfl, .inr ⟨by decide, by decide⟩, _, rfl, _, _, rfl, rfl, _, _, rfl, rfl, (by show (0 : Int) < 4611686018427387847; decide), _, rfl, _, _, rfl, rfl, hm0, ?_⟩
      refine q _ _ (Int.emod_nonneg _ (by omega)) (Int.emod_lt_of_pos _ hm0) ⟨⟨cs, rr, c + 1, ?_, ?_, ?_, hl, hp, h63, by omega⟩, ne⟩ ?_
      · rw [upd_ne (ne_of_none (upd_same (H := H)) npr), upd_same]
        rfl
      · rw [upd_ne npc]
        exact H1c
      · rw [upd_ne (ne_of_none H1r npr)]
        exact H1r
      · intro p o hp1 a1 a2
        have e1 : (upd H d.dr (.lst ([.ref d.cl, .int c, .ref d.rs].set 1 (.int ((c : Int) + 1))))) p = some o := by rw [upd_ne a1]; exact hp1
        rw [upd_ne (ne_of_none e1 npr)]
        exact e1
end
end B

namespace B
open PySem PySem.Spec PyProof.Rows L2

def sp_l_whole (_ : PySem.W.Frag) : Sp := fun vs H Q _ => ∃ (i : Int), vs = [.int i] ∧ Q (.bl true) H

section
variable {P : Program} {w : World} {K : PySem.W.Frag} {mg : Str → Option Value} {base : Heap}
theorem ok_l_whole (T : Tx K mg w) (U : Unl P base) : FnOk P w K mg base CX0 35 T.l_whole.f T.l_whole.fd ["_law_thing"] (sp_l_whole K) := by
  refine T.l_whole.F.ok sc_l_whole (fun vs H Q E h => ?_) (fun cdv A outer s H vs Q E hr h => ?_)
  · obtain ⟨i, rfl, q⟩ := h
    rfl
  · obtain ⟨i, rfl, q⟩ := h
    refine ⟨_, (pss_one (ps_ret (pe_and (pe_callB call_isi (by rfl) T.m_isinstance (by decide +kernel) (pa_cons (pv 0) (pa_cons (pe_bltn (v := .ty "int") (u := .type "int") (by rfl) T.m_int (by decide +kernel) rfl) pa_nil))) (pe_one (pe_not (pe_callB call_isi (by rfl) T.m_isinstance (by decide +kernel) (pa_cons (pv 0) (pa_cons (pe_bltn (v := .ty "bool") (u := .type "bool") (by rfl) T.m_bool (by decide +kernel) rfl) pa_nil)))))))), ?_⟩
    refine ⟨_, rfl, _, .ty "int", .type "int", .type "int", true, rfl, .ty _, .base (.int i), kit_ty (by decide +kernel), true, rfl, iteT ?_⟩
    exact ⟨_, rfl, _, .ty "bool", .type "int", .type "bool", false, rfl, .ty _, .base (.int i), kit_ty (by decide +kernel), false, rfl, q⟩
end
end B

namespace B
open PySem PySem.Spec PyProof.Rows L2

def sp_l_lowest (_ : PySem.W.Frag) : Sp := fun vs H Q _ => ∃ (t : Int) (b : Nat), vs = [.int t, .int b] ∧ 0 < b ∧ b < 2 ^ 900000 ∧ ∀ p, H p = none → Q (.ref p) (upd H p (.tup [.int (lowT t b), .int (lowBn t b)]))

section
variable {P : Program} {w : World} {K : PySem.W.Frag} {mg : Str → Option Value} {base : Heap}
theorem ok_l_lowest (T : Tx K mg w) (U : Unl P base) : FnOk P w K mg base CX0 35 T.l_lowest.f T.l_lowest.fd ["_law_top", "_law_bottom"] (sp_l_lowest K) := by
  refine T.l_lowest.F.ok sc_l_lowest (fun vs H Q E h => ?_) (fun cdv A outer s H vs Q E hr h => ?_)
  · obtain ⟨t, b, rfl, hb, hz, q⟩ := h
    rfl
  · obtain ⟨t, b, rfl, hb, hz, q⟩ := h
    refine ⟨_, (pss_cons (ps_par (i := 2) (j := 3) (by rfl) sc_l_lowest.nd rfl rfl (by decide) rfl rfl (pa_cons (pe_callB call_abs (by rfl) T.m_abs (by decide +kernel) (pa_cons (pv 0) pa_nil)) (pa_cons (pv 1) pa_nil)) (by rfl))
      (pss_cons (ps_while PassesOwn.never (pt_cmpR op_gt (pv 3) pe_int (nomark _)) (pss_one (ps_par (i := 2) (j := 3) (by rfl) sc_l_lowest.nd rfl rfl (by decide) rfl rfl (pa_cons (pv 3) (pa_cons (pe_op op_mod (pv 2) (pv 3)) pa_nil)) (by rfl))))
      (pss_one (ps_ret (pe_tup (pa_cons (pe_op (op_fdivW U (hr.mono (by decide)) rfl sc_l_lowest.gen sc_l_lowest.co rfl rfl) (pv 0) (pv 2)) (pa_cons (pe_op (op_fdivW U (hr.mono (by decide)) rfl sc_l_lowest.gen sc_l_lowest.co rfl rfl) (pv 1) (pv 2)) pa_nil))))))), ?_⟩
    have g0 : 0 < Nat.gcd t.natAbs b := Nat.gcd_pos_of_pos_right _ hb
    have gz : ((Nat.gcd t.natAbs b : Nat) : Int).natAbs < 2 ^ 900000 := by
      rw [Int.natAbs_natCast]
      exact Nat.lt_of_le_of_lt (Nat.gcd_le_right _ hb) hz
    have q' : ∀ p, H p = none → Q (.ref p) (upd H p (.tup [.int (t / ((Nat.gcd t.natAbs b : Nat) : Int)), .int ((b : Int) / ((Nat.gcd t.natAbs b : Nat) : Int))])) := by
      rw [← lowT_nat, ← lowB_nat, lowBn_eq hb]
      exact q
    refine ⟨_, rfl, t, rfl, _, rfl, _, _, rfl, ?_⟩
    refine ⟨fun m σ H' => ∃ x y : Nat, σ = [some (.int t), some (.int b), some (.int x), some (.int y)] ∧ Nat.gcd x y = Nat.gcd t.natAbs b ∧ H' = H ∧ m = y, ⟨b, t.natAbs, b, ?_, rfl, rfl, rfl⟩, fun m σ H' hW => ?_⟩
    · rw [abs_nat]
      rfl
    obtain ⟨x, y, rfl, eg, rfl, rfl⟩ := hW
    refine ⟨_, rfl, _, _, rfl, rfl, _, rfl, ite2 (fun e => ?_) (fun e => ?_)⟩
    · have hy : 0 < m := by
        have := of_decide_eq_true e
        omega
      refine ⟨fun σ' H2 => σ' = [some (.int t), some (.int b), some (.int m), some (.int (x % m : Nat))] ∧ H2 = H', fun σ' H2 hN => ?_, ?_⟩
      · obtain ⟨rfl, rfl⟩ := hN
        exact ⟨x % m, Nat.mod_lt _ hy, m, x % m, rfl, by rw [← eg, Nat.gcd_comm m, ← Nat.gcd_rec, Nat.gcd_comm], rfl, rfl⟩
      · refine ⟨_, rfl, _, rfl, _, rfl, _, _, rfl, rfl, (by show (0 : Int) < m; omega), _, _, rfl, ?_⟩
        exact ⟨rfl, rfl⟩
    · have hy : m = 0 := by
        have : ¬ (0 : Int) < m := fun z => e (decide_eq_true z)
        omega
      subst hy
      rw [Nat.gcd_zero_right] at eg
      subst eg
      exact ⟨_, rfl, _, rfl, _, _, rfl, rfl, wide_div (by omega) gz (by decide) (by decide), _, rfl, _, rfl, _, _, rfl, rfl, wide_div (by omega) gz (by decide) (by decide), by show 2 ≤ sizeLine; decide, q'⟩
end
end B

namespace B
open PySem PySem.Spec PyProof.Rows L2

def sp_l_less (K : PySem.W.Frag) : Sp := fun vs H Q _ => ∃ (a c : Addr) (t1 t2 : Int) (b1 b2 : Nat), vs = [.ref a, .ref c] ∧ SqT K H a [.int t1, .int b1] ∧ SqT K H c [.int t2, .int b2] ∧ Fz t1 b1 400000 ∧ Fz t2 b2 400000 ∧ Q (.bl (decide (t1 * (b2 : Int) < t2 * (b1 : Int)))) H

section
variable {P : Program} {w : World} {K : PySem.W.Frag} {mg : Str → Option Value} {base : Heap}
theorem ok_l_less (T : Tx K mg w) (U : Unl P base) : FnOk P w K mg base CX0 35 T.l_less.f T.l_less.fd ["_law_one", "_law_other"] (sp_l_less K) := by
  refine T.l_less.F.ok sc_l_less (fun vs H Q E h => ?_) (fun cdv A outer s H vs Q E hr h => ?_)
  · obtain ⟨a, c, t1, t2, b1, b2, rfl, hA, hC, z1, z2, q⟩ := h
    rfl
  · obtain ⟨a, c, t1, t2, b1, b2, rfl, hA, hC, z1, z2, q⟩ := h
    refine ⟨_, (pss_one (ps_ret (pe_cmpR op_lt (pe_op op_mulW (pe_ix ix_tup (pv 0) pe_int (fun _ _ => rfl)) (pe_ix ix_tup (pv 1) pe_int (fun _ _ => rfl))) (pe_op op_mulW (pe_ix ix_tup (pv 1) pe_int (fun _ _ => rfl)) (pe_ix ix_tup (pv 0) pe_int (fun _ _ => rfl))) (nomark _)))), ?_⟩
    have W : ∀ {x : Nat}, x < 2 ^ 400000 → (x : Int).natAbs < 2 ^ 400000 := fun h => by
      rw [Int.natAbs_natCast]
      exact h
    exact ⟨_, rfl, a, _, 0, .int t1, rfl, rfl, hA, rfl, _, rfl, c, _, 1, .int b2, rfl, rfl, hC, rfl, _, _, rfl, rfl, wide_mul z1.t (W z2.b) (by decide) (by decide) (by decide), _, rfl, c, _, 0, .int t2, rfl, rfl, hC, rfl, _, rfl, a, _, 1, .int b1, rfl, rfl, hA, rfl, _, _, rfl, rfl, wide_mul z2.t (W z1.b) (by decide) (by decide) (by decide), _, _, rfl, rfl, q⟩
end
end B

namespace B
open PySem PySem.Spec PyProof.Rows L2

def sp_l_holds (K : PySem.W.Frag) : Sp := fun vs H Q _ => ∃ (cs : List Nat) (a : Addr) (ws : List Wd) (bs : List Bool), vs = [.str (tx cs), .ref a, .str (wtx bs)] ∧ SqT K H a (ws.map wv) ∧ Sy cs ws ∧ cs.length = bs.length ∧ bs.length ≤ 100 ∧ ws.length ≤ 10000 ∧ ∀ H', Same H H' → Q (.bl (sval (vl cs bs) ws)) H'

section
variable {P : Program} {w : World} {K : PySem.W.Frag} {mg : Str → Option Value} {base : Heap}
theorem ok_l_holds (T : Tx K mg w) (U : Unl P base) : FnOk P w K mg base CX0 35 T.l_holds.f T.l_holds.fd ["_law_letters", "_law_saying", "_law_world"] (sp_l_holds K) := by
  refine T.l_holds.F.ok sc_l_holds (fun vs H Q E h => ?_) (fun cdv A outer s H vs Q E hr h => ?_)
  · obtain ⟨cs, a, ws, bs, rfl, hA, hY, hl, h100, hz, q⟩ := h
    rfl
  · obtain ⟨cs, a, ws, bs, rfl, hA, hY, hl, h100, hz, q⟩ := h
    refine ⟨_, (pss_cons (ps_set (i := 3) sc_l_holds.nd rfl (.inl rfl) (pe_tup pa_nil))
      (pss_cons (ps_for PassesOwn.never rfl (pi_tup (pv 1)) (pg_name (i := 4) sc_l_holds.nd rfl (.inl rfl))
      (pss_one (ps_if (pt_cmpR op_eq (pv 4) pe_str (nomark _)) (pss_one (ps_set (i := 3) sc_l_holds.nd rfl (.inl rfl) (pe_op op_catS (pe_slice sl_tupS (pv 3) po_none (po_some (pe_un un_neg pe_int))) (pe_tup (pa_cons (pe_op op_sub pe_int (pe_ix ix_tup (pv 3) (pe_un un_neg pe_int) (fun _ _ => rfl))) pa_nil))))) (pss_one (ps_if (pt_cmpR op_eq (pv 4) pe_str (nomark _)) (pss_one (ps_set (i := 3) sc_l_holds.nd rfl (.inl rfl) (pe_op op_catS (pe_slice sl_tupS (pv 3) po_none (po_some (pe_un un_neg pe_int))) (pe_tup (pa_cons (pe_op op_mul (pe_ix ix_tup (pv 3) (pe_un un_neg pe_int) (fun _ _ => rfl)) (pe_ix ix_tup (pv 3) (pe_un un_neg pe_int) (fun _ _ => rfl))) pa_nil))))) (pss_one (ps_if (pt_cmpR op_eq (pv 4) pe_str (nomark _)) (pss_one (ps_set (i := 3) sc_l_holds.nd rfl (.inl rfl) (pe_op op_catS (pe_slice sl_tupS (pv 3) po_none (po_some (pe_un un_neg pe_int))) (pe_tup (pa_cons (pe_callB (cr_maxT rfl) (by rfl) T.m_max (by decide +kernel) (pa_cons (pe_slice sl_tupS (pv 3) (po_some (pe_un un_neg pe_int)) po_none) pa_nil)) pa_nil))))) (pss_one (ps_if (pt_cmpR op_eq (pv 4) pe_str (nomark _)) (pss_one (ps_set (i := 3) sc_l_holds.nd rfl (.inl rfl) (pe_op op_catS (pe_slice sl_tupS (pv 3) po_none (po_some (pe_un un_neg pe_int))) (pe_tup (pa_cons (pe_callTy call_int1 (by rfl) T.m_int (by decide +kernel) (pa_cons (pe_cmpR op_eq (pe_ix ix_tup (pv 3) (pe_un un_neg pe_int) (fun _ _ => rfl)) (pe_ix ix_tup (pv 3) (pe_un un_neg pe_int) (fun _ _ => rfl)) (nomark _)) pa_nil)) pa_nil))))) (pss_one (ps_if (PW.pt (pw_or (pt_cmpR op_eq (pv 4) pe_str (nomark _)) (pw_or1 (pt_cmpR op_eq (pv 4) pe_str (nomark _))))) (pss_one (ps_set (i := 3) sc_l_holds.nd rfl (.inl rfl) (pe_op op_catS (pv 3) (pe_tup (pa_cons (pe_callTy call_int1 (by rfl) T.m_int (by decide +kernel) (pa_cons (pe_cmpR op_eq (pv 4) pe_str (nomark _)) pa_nil)) pa_nil))))) (pss_one (ps_set (i := 3) sc_l_holds.nd rfl (.inl rfl) (pe_op op_catS (pv 3) (pe_tup (pa_cons (pe_callTy call_int_str (by rfl) T.m_int (by decide +kernel) (pa_cons (pe_ix ix_str (pv 2) (pe_bm PySem.F.plainAttrs_str PySem.F.slot_str_find PySem.F.type_str_find mt_find (pv 0) (pa_cons (pv 4) pa_nil)) (fun _ _ => rfl)) pa_nil)) pa_nil))))))))))))))))
      (pss_one (ps_ret (pe_cmpR op_eq (pe_ix ix_tup (pv 3) pe_int (fun _ _ => rfl)) pe_int (nomark _)))))), ?_⟩
    refine ⟨by decide, fun l nl => ?_⟩
    have S0 := same_upd (o := .tup []) nl
    refine ⟨_, rfl, a, rfl, ⟨_, Same.tup S0 hA⟩, for_tup (K := K) (a := a) (xs := ws.map wv) (fun i σ H' => ∃ (l : Addr) (x4 : Option V) (st : List Bool), σ = [some (.str (tx cs)), some (.ref a), some (.str (wtx bs)), some (.ref l), x4] ∧ SqT K H' l (hq st) ∧ ht st.length (ws.drop i) = some 1 ∧ run (vl cs bs) st (ws.drop i) = [sval (vl cs bs) ws] ∧ st.length ≤ i ∧ Same H H') ⟨l, none, [], rfl, sqt_upd, hY.ht, run_sy _ hY, Nat.le_refl _, S0⟩ (fun i σ H' _ ⟨_, _, _, _, _, _, _, _, e⟩ => Same.tup e hA) ?_ ?_⟩
    · rintro i x σ H1 hx ⟨l, x4, st, rfl, h1, h2, h3, h4, s1⟩
      have hi : i < ws.length := by
        have := (List.getElem?_eq_some_iff.mp hx).1
        rw [List.length_map] at this
        exact this
      obtain ⟨w, hw, rfl⟩ : ∃ w, ws[i]? = some w ∧ x = wv w := by
        rw [List.getElem?_map, List.getElem?_eq_getElem hi] at hx
        exact ⟨_, List.getElem?_eq_getElem hi, (Option.some.inj hx).symm⟩
      have ed : ws.drop i = w :: ws.drop (i + 1) := by
        rw [List.drop_eq_getElem_cons hi]
        rw [List.getElem?_eq_getElem hi] at hw
        rw [Option.some.inj hw]
      rw [ed] at h2 h3
      have h2' := ht_step (vl cs bs) h2
      rw [run_cons] at h3
      have sz : ∀ {n : Nat}, n ≤ i → n ≤ 10000 := fun h => by omega
      refine ⟨_, rfl, rfl, _, rfl, iteW (w := w) (u := .nt) rfl (fun e => ?_) (fun e => ?_)⟩
      · have e : w = .nt := e
        subst e
        obtain ⟨b, s, rfl⟩ := ht_nt h2
        rw [hq_cons] at h1
        refine ⟨_, rfl, 1, rfl, _, rfl, l, _, rfl, h1, fun p1 H2 t2 s2 => ?_⟩
        rw [cut_last _ (by simp), List.dropLast_concat] at t2
        have h1' := Same.tup s2 h1
        refine ⟨_, rfl, 1, rfl, l, _, -1, .int (bi b), rfl, rfl, h1', atI_last _ _, _, _, rfl, rfl, by show 1 ≤ sizeLine; decide, fun p3 n3 => ?_⟩
        have s3 := same_upd (o := .tup [.int (1 - bi b)]) n3
        refine ⟨p1, p3, _, _, rfl, rfl, Same.tup s3 t2, sqt_upd, ?_, fun p4 H4 t4 s4 => ?_⟩
        · rw [hq_len]
          simp only [List.length_cons, List.length_nil] at h4 ⊢
          omega
        · have eb : 1 - bi b = bi (!b) := by cases b <;> rfl
          have t4 : SqT K H4 p4 (hq s ++ [.int (1 - bi b)]) := t4
          rw [eb, ← hq_cons] at t4
          exact ⟨p4, _, (!b) :: s, rfl, t4, h2', h3, by simp only [List.length_cons] at h4 ⊢; omega, ((s1.trans s2).trans s3).trans s4⟩
      refine ⟨_, rfl, rfl, _, rfl, iteW (w := w) (u := .an) rfl (fun e1 => ?_) (fun e1 => ?_)⟩
      · have e : w = .an := e1
        subst e
        obtain ⟨b, c, s, rfl⟩ := ht_jn .an h2
        rw [hq_cons, hq_cons] at h1
        refine ⟨_, rfl, 2, rfl, _, rfl, l, _, rfl, h1, fun p1 H2 t2 s2 => ?_⟩
        rw [cut2.1] at t2
        have h1' := Same.tup s2 h1
        refine ⟨_, rfl, 2, rfl, l, _, -2, .int (bi c), rfl, rfl, h1', at_last2, _, rfl, 1, rfl, l, _, -1, .int (bi b), rfl, rfl, h1', atI_last _ _, _, _, rfl, rfl, .inl (by cases c <;> exact ⟨by decide, by decide⟩), by show 1 ≤ sizeLine; decide, fun p3 n3 => ?_⟩
        have s3 := same_upd (o := .tup [.int (bi c * bi b)]) n3
        refine ⟨p1, p3, _, _, rfl, rfl, Same.tup s3 t2, sqt_upd, ?_, fun p4 H4 t4 s4 => ?_⟩
        · rw [hq_len]
          simp only [List.length_cons, List.length_nil] at h4 ⊢
          omega
        · have eb : bi c * bi b = bi (c && b) := by cases b <;> cases c <;> rfl
          have t4 : SqT K H4 p4 (hq s ++ [.int (bi c * bi b)]) := t4
          rw [eb, ← hq_cons] at t4
          exact ⟨p4, _, (c && b) :: s, rfl, t4, h2', h3, by simp only [List.length_cons] at h4 ⊢; omega, ((s1.trans s2).trans s3).trans s4⟩
      refine ⟨_, rfl, rfl, _, rfl, iteW (w := w) (u := .orr) rfl (fun e2 => ?_) (fun e2 => ?_)⟩
      · have e : w = .orr := e2
        subst e
        obtain ⟨b, c, s, rfl⟩ := ht_jn .orr h2
        rw [hq_cons, hq_cons] at h1
        refine ⟨_, rfl, 2, rfl, _, rfl, l, _, rfl, h1, fun p1 H2 t2 s2 => ?_⟩
        rw [cut2.1] at t2
        have h1' := Same.tup s2 h1
        refine ⟨_, rfl, 2, rfl, _, rfl, l, _, rfl, h1', fun p3 H3 t3 s3 => ?_⟩
        rw [cut2.2] at t3
        refine ⟨p3, [bi c, bi b], rfl, t3, by show 0 < 2; decide, fun m m1 m2 => ?_⟩
        refine ⟨by show 1 ≤ sizeLine; decide, fun p5 n5 => ?_⟩
        have s5 := same_upd (o := .tup [.int m]) n5
        refine ⟨p1, p5, _, _, rfl, rfl, Same.tup (s3.trans s5) t2, sqt_upd, ?_, fun p4 H4 t4 s4 => ?_⟩
        · rw [hq_len]
          simp only [List.length_cons, List.length_nil] at h4 ⊢
          omega
        · have eb : m = bi (c || b) := by
            have a1 := m2 (bi c) (by simp)
            have a2 := m2 (bi b) (by simp)
            have a3 : m = bi c ∨ m = bi b := by simpa using m1
            cases b <;> cases c <;> simp [bi] at a1 a2 a3 ⊢ <;> omega
          have t4 : SqT K H4 p4 (hq s ++ [.int (m)]) := t4
          rw [eb, ← hq_cons] at t4
          exact ⟨p4, _, (c || b) :: s, rfl, t4, h2', h3, by simp only [List.length_cons] at h4 ⊢; omega, (((s1.trans s2).trans s3).trans s5).trans s4⟩
      refine ⟨_, rfl, rfl, _, rfl, iteW (w := w) (u := .sm) rfl (fun e3 => ?_) (fun e3 => ?_)⟩
      · have e : w = .sm := e3
        subst e
        obtain ⟨b, c, s, rfl⟩ := ht_jn .sm h2
        rw [hq_cons, hq_cons] at h1
        refine ⟨_, rfl, 2, rfl, _, rfl, l, _, rfl, h1, fun p1 H2 t2 s2 => ?_⟩
        rw [cut2.1] at t2
        have h1' := Same.tup s2 h1
        refine ⟨_, rfl, 2, rfl, l, _, -2, .int (bi c), rfl, rfl, h1', at_last2, _, rfl, 1, rfl, l, _, -1, .int (bi b), rfl, rfl, h1', atI_last _ _, rfl, .inr ⟨_, rfl, by show 1 ≤ sizeLine; decide, fun p3 n3 => ?_⟩⟩
        have s3 := same_upd (o := .tup [.int (if decide (V.int (bi c) = V.int (bi b)) = true then 1 else 0)]) n3
        refine ⟨p1, p3, _, _, rfl, rfl, Same.tup s3 t2, sqt_upd, ?_, fun p4 H4 t4 s4 => ?_⟩
        · rw [hq_len]
          simp only [List.length_cons, List.length_nil] at h4 ⊢
          omega
        · have eb : (if decide (V.int (bi c) = V.int (bi b)) = true then (1 : Int) else 0) = bi (c == b) := by cases b <;> cases c <;> rfl
          have t4 : SqT K H4 p4 (hq s ++ [.int (if decide (V.int (bi c) = V.int (bi b)) = true then 1 else 0)]) := t4
          rw [eb, ← hq_cons] at t4
          exact ⟨p4, _, (c == b) :: s, rfl, t4, h2', h3, by simp only [List.length_cons] at h4 ⊢; omega, ((s1.trans s2).trans s3).trans s4⟩
      have hf : Lf cs w := by
        cases w with
        | lt c => exact .lt (hY.lt c (List.mem_of_getElem? hw))
        | yes => exact .yes
        | no => exact .no
        | nt => exact absurd rfl e
        | an => exact absurd rfl e1
        | orr => exact absurd rfl e2
        | sm => exact absurd rfl e3
      have es : stp (vl cs bs) st w = lv (vl cs bs) w :: st := by cases hf <;> rfl
      rw [es] at h2' h3
      have fin : ∀ (H2 : Hp) (p : Addr) (z : Int), z = bi (lv (vl cs bs) w) → Same H1 H2 → SqT K H2 p [.int z] → rCatS K (.ref l) (.ref p) H2 (fun x H3 => ∃ (l : Addr) (x4 : Option V) (st : List Bool), [some (.str (tx cs)), some (.ref a), some (.str (wtx bs)), some x, some (wv w)] = [some (.str (tx cs)), some (.ref a), some (.str (wtx bs)), some (.ref l), x4] ∧ SqT K H3 l (hq st) ∧ ht st.length (ws.drop (i + 1)) = some 1 ∧ run (vl cs bs) st (ws.drop (i + 1)) = [sval (vl cs bs) ws] ∧ st.length ≤ i + 1 ∧ Same H H3) := by
        intro H2 p z ez s2 hp
        subst ez
        refine ⟨l, p, _, _, rfl, rfl, Same.tup s2 h1, hp, ?_, fun p4 H4 t4 s4 => ?_⟩
        · rw [hq_len]
          show st.length + 1 ≤ 100000
          omega
        · rw [← hq_cons] at t4
          exact ⟨p4, _, lv (vl cs bs) w :: st, rfl, t4, h2', h3, by rw [List.length_cons]; omega, (s1.trans s2).trans s4⟩
      have yn : ∀ (k : Bool), (k = decide (w = .yes)) → w = .yes ∨ w = .no → (if k = true then (1 : Int) else 0) = bi (lv (vl cs bs) w) := by
        intro k hk h
        rcases h with rfl | rfl <;> rw [hk] <;> rfl
      refine ⟨_, rfl, rfl, _, rfl, iteW (w := w) (u := .yes) rfl (fun e4 => ?_) (fun e4 => ?_)⟩
      · have e : w = .yes := e4
        refine ⟨_, rfl, _, rfl, rfl, .inr ⟨_, rfl, by show 1 ≤ sizeLine; decide, fun p n => ?_⟩⟩
        exact fin _ p _ (yn _ (wd_eq w .yes rfl) (.inl e)) (same_upd n) sqt_upd
      refine ⟨_, rfl, rfl, _, rfl, iteW (w := w) (u := .no) rfl (fun e5 => ?_) (fun e5 => ?_)⟩
      · have e : w = .no := e5
        refine ⟨_, rfl, _, rfl, rfl, .inr ⟨_, rfl, by show 1 ≤ sizeLine; decide, fun p n => ?_⟩⟩
        exact fin _ p _ (yn _ (wd_eq w .yes rfl) (.inr e)) (same_upd n) sqt_upd
      cases hf with
      | yes => exact absurd rfl e4
      | no => exact absurd rfl e5
      | @lt c hc =>
        obtain ⟨j, g1, g2, g3, g4⟩ := letter_at hc
        have hj : j < bs.length := by
          rw [← hl]
          exact (List.getElem?_eq_some_iff.mp g2).1
        have hb : bs[j]? = some (vl cs bs c) := by
          unfold vl
          rw [g1, List.getD_eq_getElem?_getD, List.getElem?_eq_getElem hj]
          rfl
        refine ⟨_, rfl, _, rfl, _, rfl, rfl, _, rfl, tx cs, sg c, rfl, rfl, wtx bs, (j : Int), bc (vl cs bs c), rfl, ?_, ?_, ?_, sg (bc (vl cs bs c)), bi (vl cs bs c), rfl, bc_int _, by show 1 ≤ 640; decide, by show 1 ≤ sizeLine; decide, fun p n => fin _ p _ rfl (same_upd n) sqt_upd⟩
        · rw [g3]
        · show (bs.map bc).length ≤ sizeLine
          rw [List.length_map]
          exact Nat.le_trans h100 (by decide)
        · refine atI_nat ?_
          show (bs.map bc)[j]? = _
          rw [List.getElem?_map, hb]
          rfl
    · rintro σ H1 ⟨l, x4, st, rfl, h1, h2, h3, h4, s1⟩
      rw [List.length_map, List.drop_length] at h2 h3
      have h3 : st = [sval (vl cs bs) ws] := h3
      subst h3
      refine ⟨_, rfl, l, _, 0, .int (bi (sval (vl cs bs) ws)), rfl, rfl, h1, rfl, rfl, ?_⟩
      have : decide (V.int (bi (sval (vl cs bs) ws)) = V.int 1) = sval (vl cs bs) ws := by cases sval (vl cs bs) ws <;> rfl
      rw [this]
      exact q _ s1
end
end B

namespace B
open PySem PySem.Spec PyProof.Rows L2

def sp_l_turned (K : PySem.W.Frag) : Sp := fun vs H Q _ => ∃ (a : Addr) (p : Int × Nat), vs = [.ref a] ∧ SqT K H a [.int p.1, .int p.2] ∧ ∀ (H' : Hp) (r : Addr), SqT K H' r [.int (negF p).1, .int (negF p).2] → H r = none → Same H H' → Q (.ref r) H'

section
variable {P : Program} {w : World} {K : PySem.W.Frag} {mg : Str → Option Value} {base : Heap}
theorem ok_l_turned (T : Tx K mg w) (U : Unl P base) : FnOk P w K mg base CX0 35 T.l_turned.f T.l_turned.fd ["_law_one"] (sp_l_turned K) := by
  refine T.l_turned.F.ok sc_l_turned (fun vs H Q E h => ?_) (fun cdv A outer s H vs Q E hr h => ?_)
  · obtain ⟨a, p, rfl, tA, q⟩ := h
    rfl
  · obtain ⟨a, p, rfl, tA, q⟩ := h
    refine ⟨_, (pss_one (ps_ret (pe_tup (pa_cons (pe_op op_sub pe_int (pe_ix ix_tup (pv 0) pe_int (fun _ _ => rfl))) (pa_cons (pe_ix ix_tup (pv 0) pe_int (fun _ _ => rfl)) pa_nil))))), ?_⟩
    refine ⟨_, rfl, a, _, 0, .int p.1, rfl, rfl, tA, rfl, _, _, rfl, rfl, _, rfl, a, _, 1, .int p.2, rfl, rfl, tA, rfl, by show 2 ≤ sizeLine; decide, fun r nr => ?_⟩
    have s1 := same_upd (o := .tup [.int (0 - p.1), .int p.2]) nr
    refine q _ r ?_ nr s1
    have e : (negF p).1 = 0 - p.1 := (Int.zero_sub p.1).symm
    rw [e]
    exact sqt_upd
end
end B

namespace B
open PySem PySem.Spec PyProof.Rows L2

def sp_l_put (K : PySem.W.Frag) : Sp := fun vs H Q _ => ∃ (a : Addr) (j : Nat) (v : V) (xs : List V), vs = [.ref a, .int j, v] ∧ SqT K H a xs ∧ xs.length ≤ 1000 ∧ ∀ (H' : Hp) (p : Addr), SqT K H' p (xs.take j ++ [v] ++ xs.drop (j + 1)) → Same H H' → Q (.ref p) H'

section
variable {P : Program} {w : World} {K : PySem.W.Frag} {mg : Str → Option Value} {base : Heap}
theorem ok_l_put (T : Tx K mg w) (U : Unl P base) : FnOk P w K mg base CX0 35 T.l_put.f T.l_put.fd ["_law_row", "_law_at", "_law_thing"] (sp_l_put K) := by
  refine T.l_put.F.ok sc_l_put (fun vs H Q E h => ?_) (fun cdv A outer s H vs Q E hr h => ?_)
  · obtain ⟨a, j, v, xs, rfl, tA, hl, q⟩ := h
    rfl
  · obtain ⟨a, j, v, xs, rfl, tA, hl, q⟩ := h
    refine ⟨_, (pss_one (ps_ret (pe_op op_catS (pe_op op_catS (pe_slice sl_tupS (pv 0) po_none (po_some (pv 1))) (pe_tup (pa_cons (pv 2) pa_nil))) (pe_slice sl_tupS (pv 0) (po_some (pe_op op_add (pv 1) pe_int)) po_none)))), ?_⟩
    refine ⟨_, rfl, _, rfl, (j : Int), rfl, a, xs, rfl, tA, fun c1 H3 t3 s3 => ?_⟩
    refine ⟨_, rfl, by show 1 ≤ sizeLine; decide, fun c2 n2 => ?_⟩
    have s4 := same_upd (o := .tup [v]) n2
    refine ⟨c1, c2, _, [v], rfl, rfl, Same.tup s4 t3, sqt_upd, by rw [cut_take, List.length_take]; show min j xs.length + 1 ≤ 100000; omega, fun c3 H5 t5 s5 => ?_⟩
    refine ⟨_, rfl, _, rfl, _, _, rfl, rfl, ((j + 1 : Nat) : Int), rfl, a, xs, rfl, Same.tup (s3.trans (s4.trans s5)) tA, fun c4 H6 t6 s6 => ?_⟩
    refine ⟨c3, c4, _, _, rfl, rfl, Same.tup s6 t5, t6, by rw [cut_take, cut_drop, List.length_append, List.length_take, List.length_drop]; show min j xs.length + 1 + (xs.length - (j + 1)) ≤ 100000; omega, fun c5 H7 t7 s7 => ?_⟩
    rw [cut_take, cut_drop] at t7
    exact q _ c5 t7 (s3.trans (s4.trans (s5.trans (s6.trans s7))))
end
end B

namespace B
open PySem PySem.Spec PyProof.Rows L2

def sp_l_class (K : PySem.W.Frag) : SpE := fun a cls d vs H Q _ => ∃ (D : Addr) (nm : Str), cls = .ref D ∧ vs = [.ref a] ∧ DOk H d ∧ ExcC K D ∧ PySem.W.kitOne K (.ref D) (.type "ValueError") = some true ∧ KindOf K D nm ∧ (nm = "NoDeed" ∨ nm = "NoHolder" ∨ nm = "NoBet" ∨ nm = "NoStake" ∨ nm = "NoTicket" ∨ nm = "NoCover" ∨ nm = "NoSaying" ∨ nm = "NotAlike" ∨ nm = "NoWorld" ∨ nm = "NoStep" ∨ nm = "TooLong" ∨ nm = "TooMany" ∨ nm = "Unfair") ∧ ∀ H', Same H H' → Q (.str nm) H'

section
variable {P : Program} {w : World} {K : PySem.W.Frag} {mg : Str → Option Value} {base : Heap}
theorem ok_l_class (T : Tx K mg w) (U : Unl P base) : FnE P w K mg base 35 T.l_class.f T.l_class.fd ["_law_error"] (sp_l_class K) := by
  refine fun_okE T.l_class.F sc_l_class (fun ea cls d vs H Q E h => ?_) (fun cdv A outer s H vs Q E ea eo cls d hr hz hf h => ?_)
  · obtain ⟨D, nm, rfl, rfl, dk, ec, kv, hK, hn, q⟩ := h
    rfl
  · obtain ⟨D, nm, rfl, rfl, dk, ec, kv, hK, hn, q⟩ := h
    refine ⟨_, (pss_cons (ps_set (i := 1) sc_l_class.nd rfl (.inl rfl) (pe_lst (pa_cons (pe_callB (call_isE (a := ea) (List.mem_singleton.mpr rfl) hz hf) (by rfl) T.m_isinstance (by decide +kernel) (pa_cons (pv 0) (pa_cons (pe_glob (v := .ref T.x_NoDeed.C) (by rfl) T.x_NoDeed.g rfl) pa_nil))) (pa_cons (pe_callB (call_isE (a := ea) (List.mem_singleton.mpr rfl) hz hf) (by rfl) T.m_isinstance (by decide +kernel) (pa_cons (pv 0) (pa_cons (pe_glob (v := .ref T.x_NoHolder.C) (by rfl) T.x_NoHolder.g rfl) pa_nil))) (pa_cons (pe_callB (call_isE (a := ea) (List.mem_singleton.mpr rfl) hz hf) (by rfl) T.m_isinstance (by decide +kernel) (pa_cons (pv 0) (pa_cons (pe_glob (v := .ref T.x_NoBet.C) (by rfl) T.x_NoBet.g rfl) pa_nil))) pa_nil)))))
      (pss_cons (ps_set (i := 1) sc_l_class.nd rfl (.inl rfl) (pe_op op_cat (pv 1) (pe_lst (pa_cons (pe_callB (call_isE (a := ea) (List.mem_singleton.mpr rfl) hz hf) (by rfl) T.m_isinstance (by decide +kernel) (pa_cons (pv 0) (pa_cons (pe_glob (v := .ref T.x_NoStake.C) (by rfl) T.x_NoStake.g rfl) pa_nil))) (pa_cons (pe_callB (call_isE (a := ea) (List.mem_singleton.mpr rfl) hz hf) (by rfl) T.m_isinstance (by decide +kernel) (pa_cons (pv 0) (pa_cons (pe_glob (v := .ref T.x_NoTicket.C) (by rfl) T.x_NoTicket.g rfl) pa_nil))) (pa_cons (pe_callB (call_isE (a := ea) (List.mem_singleton.mpr rfl) hz hf) (by rfl) T.m_isinstance (by decide +kernel) (pa_cons (pv 0) (pa_cons (pe_glob (v := .ref T.x_NoCover.C) (by rfl) T.x_NoCover.g rfl) pa_nil))) pa_nil))))))
      (pss_cons (ps_set (i := 1) sc_l_class.nd rfl (.inl rfl) (pe_op op_cat (pv 1) (pe_lst (pa_cons (pe_callB (call_isE (a := ea) (List.mem_singleton.mpr rfl) hz hf) (by rfl) T.m_isinstance (by decide +kernel) (pa_cons (pv 0) (pa_cons (pe_glob (v := .ref T.x_NoSaying.C) (by rfl) T.x_NoSaying.g rfl) pa_nil))) (pa_cons (pe_callB (call_isE (a := ea) (List.mem_singleton.mpr rfl) hz hf) (by rfl) T.m_isinstance (by decide +kernel) (pa_cons (pv 0) (pa_cons (pe_glob (v := .ref T.x_NotAlike.C) (by rfl) T.x_NotAlike.g rfl) pa_nil))) (pa_cons (pe_callB (call_isE (a := ea) (List.mem_singleton.mpr rfl) hz hf) (by rfl) T.m_isinstance (by decide +kernel) (pa_cons (pv 0) (pa_cons (pe_glob (v := .ref T.x_NoWorld.C) (by rfl) T.x_NoWorld.g rfl) pa_nil))) pa_nil))))))
      (pss_cons (ps_set (i := 1) sc_l_class.nd rfl (.inl rfl) (pe_op op_cat (pv 1) (pe_lst (pa_cons (pe_callB (call_isE (a := ea) (List.mem_singleton.mpr rfl) hz hf) (by rfl) T.m_isinstance (by decide +kernel) (pa_cons (pv 0) (pa_cons (pe_glob (v := .ref T.x_NoStep.C) (by rfl) T.x_NoStep.g rfl) pa_nil))) (pa_cons (pe_callB (call_isE (a := ea) (List.mem_singleton.mpr rfl) hz hf) (by rfl) T.m_isinstance (by decide +kernel) (pa_cons (pv 0) (pa_cons (pe_glob (v := .ref T.x_TooLong.C) (by rfl) T.x_TooLong.g rfl) pa_nil))) (pa_cons (pe_callB (call_isE (a := ea) (List.mem_singleton.mpr rfl) hz hf) (by rfl) T.m_isinstance (by decide +kernel) (pa_cons (pv 0) (pa_cons (pe_glob (v := .ref T.x_TooMany.C) (by rfl) T.x_TooMany.g rfl) pa_nil))) pa_nil))))))
      (pss_cons (ps_expr (pe_bm PySem.F.plainAttrs_list PySem.F.slot_list_append PySem.F.type_list_append mt_append (pv 1) (pa_cons (pe_callB (call_isE (a := ea) (List.mem_singleton.mpr rfl) hz hf) (by rfl) T.m_isinstance (by decide +kernel) (pa_cons (pv 0) (pa_cons (pe_glob (v := .ref T.x_Unfair.C) (by rfl) T.x_Unfair.g rfl) pa_nil))) pa_nil)))
      (pss_cons (ps_set (i := 2) sc_l_class.nd rfl (.inl rfl) (pe_lst (pa_cons pe_str (pa_cons pe_str (pa_cons pe_str (pa_cons pe_str (pa_cons pe_str (pa_cons pe_str (pa_cons pe_str (pa_cons pe_str (pa_cons pe_str pa_nil)))))))))))
      (pss_cons (ps_set (i := 2) sc_l_class.nd rfl (.inl rfl) (pe_op op_cat (pv 2) (pe_lst (pa_cons pe_str (pa_cons pe_str (pa_cons pe_str (pa_cons pe_str pa_nil)))))))
      (pss_cons (ps_if (PW.pt (pw_or (pt_not (pt_val (pe_callB (call_isE (a := ea) (List.mem_singleton.mpr rfl) hz hf) (by rfl) T.m_isinstance (by decide +kernel) (pa_cons (pv 0) (pa_cons (pe_bltn (v := .ty "ValueError") (u := .type "ValueError") (by rfl) T.m_ValueError (by decide +kernel) rfl) pa_nil))))) (pw_or (pt_val (pe_callB (call_isET (a := ea) (List.mem_singleton.mpr rfl) hz hf) (by rfl) T.m_isinstance (by decide +kernel) (pa_cons (pv 0) (pa_cons (pe_tup (pa_cons (pe_glob (v := .ref T.x_Fair.C) (by rfl) T.x_Fair.g rfl) (pa_cons (pe_glob (v := .ref T.x_NoText.C) (by rfl) T.x_NoText.g rfl) pa_nil))) pa_nil)))) (pw_or1 (pt_cmpR op_ne (pe_bm PySem.F.plainAttrs_list PySem.F.slot_list_count PySem.F.type_list_count mt_countB (pv 1) (pa_cons pe_bl pa_nil)) pe_int (nomark _)))))) (pss_one (ps_ret pe_str)) pss_nil)
      (pss_one (ps_ret (pe_ix ix_list (pv 2) (pe_bm PySem.F.plainAttrs_list PySem.F.slot_list_index PySem.F.type_list_index mt_index (pv 1) (pa_cons pe_bl pa_nil)) (fun _ _ => rfl)))))))))))), ?_⟩
    have no : ∀ x ∈ (["Fair", "NoText"] : List Str), ∀ C, XIs K x C → PySem.W.kitOne K (.ref D) (.ref C) = some false := fun x hx C hC => by
      rw [hK x (by
        simp only [List.mem_cons, List.not_mem_nil, or_false] at hx ⊢
        rcases hx with h | h <;> simp [h]) C hC]
      congr 1
      simp only [List.mem_cons, List.not_mem_nil, or_false] at hx
      rcases hn with rfl | rfl | rfl | rfl | rfl | rfl | rfl | rfl | rfl | rfl | rfl | rfl | rfl <;> rcases hx with rfl | rfl <;> decide +kernel
    refine ⟨_, rfl, D, _, _, "NoDeed" == nm, rfl, Same.dok (Same.refl _) dk, ec, rfl, .own _, hK "NoDeed" (by simp) _ T.x_NoDeed.ns, ?_⟩
    refine ⟨_, rfl, D, _, _, "NoHolder" == nm, rfl, Same.dok (Same.refl _) dk, ec, rfl, .own _, hK "NoHolder" (by simp) _ T.x_NoHolder.ns, ?_⟩
    refine ⟨_, rfl, D, _, _, "NoBet" == nm, rfl, Same.dok (Same.refl _) dk, ec, rfl, .own _, hK "NoBet" (by simp) _ T.x_NoBet.ns, by show 3 ≤ sizeLine; decide, fun A0 nA0 => ?_⟩
    have a0 := same_upd (o := .lst [.bl ("NoDeed" == nm), .bl ("NoHolder" == nm), .bl ("NoBet" == nm)]) nA0
    have hR0 : tgt a0 A0 = some (.lst [.bl ("NoDeed" == nm), .bl ("NoHolder" == nm), .bl ("NoBet" == nm)]) := upd_same
    refine ⟨_, rfl, ?_⟩
    refine ⟨_, rfl, D, _, _, "NoStake" == nm, rfl, Same.dok a0 dk, ec, rfl, .own _, hK "NoStake" (by simp) _ T.x_NoStake.ns, ?_⟩
    refine ⟨_, rfl, D, _, _, "NoTicket" == nm, rfl, Same.dok a0 dk, ec, rfl, .own _, hK "NoTicket" (by simp) _ T.x_NoTicket.ns, ?_⟩
    refine ⟨_, rfl, D, _, _, "NoCover" == nm, rfl, Same.dok a0 dk, ec, rfl, .own _, hK "NoCover" (by simp) _ T.x_NoCover.ns, by show 3 ≤ sizeLine; decide, fun A1 nA1 => ?_⟩
    have a1 := same_upd (o := .lst [.bl ("NoStake" == nm), .bl ("NoTicket" == nm), .bl ("NoCover" == nm)]) nA1
    have S1 := a0.trans a1
    refine ⟨A0, A1, [.bl ("NoDeed" == nm), .bl ("NoHolder" == nm), .bl ("NoBet" == nm)], [.bl ("NoStake" == nm), .bl ("NoTicket" == nm), .bl ("NoCover" == nm)], rfl, rfl, a1 _ _ hR0, upd_same, by show 6 ≤ sizeLine; decide, fun R1 nR1 => ?_⟩
    have r1 := same_upd (o := .lst ([.bl ("NoDeed" == nm), .bl ("NoHolder" == nm), .bl ("NoBet" == nm)] ++ [.bl ("NoStake" == nm), .bl ("NoTicket" == nm), .bl ("NoCover" == nm)])) nR1
    have hR1 : tgt r1 R1 = some (.lst [.bl ("NoDeed" == nm), .bl ("NoHolder" == nm), .bl ("NoBet" == nm), .bl ("NoStake" == nm), .bl ("NoTicket" == nm), .bl ("NoCover" == nm)]) := upd_same
    have T1 := S1.trans r1
    refine ⟨_, rfl, ?_⟩
    refine ⟨_, rfl, D, _, _, "NoSaying" == nm, rfl, Same.dok T1 dk, ec, rfl, .own _, hK "NoSaying" (by simp) _ T.x_NoSaying.ns, ?_⟩
    refine ⟨_, rfl, D, _, _, "NotAlike" == nm, rfl, Same.dok T1 dk, ec, rfl, .own _, hK "NotAlike" (by simp) _ T.x_NotAlike.ns, ?_⟩
    refine ⟨_, rfl, D, _, _, "NoWorld" == nm, rfl, Same.dok T1 dk, ec, rfl, .own _, hK "NoWorld" (by simp) _ T.x_NoWorld.ns, by show 3 ≤ sizeLine; decide, fun A2 nA2 => ?_⟩
    have a2 := same_upd (o := .lst [.bl ("NoSaying" == nm), .bl ("NotAlike" == nm), .bl ("NoWorld" == nm)]) nA2
    have S2 := T1.trans a2
    refine ⟨R1, A2, [.bl ("NoDeed" == nm), .bl ("NoHolder" == nm), .bl ("NoBet" == nm), .bl ("NoStake" == nm), .bl ("NoTicket" == nm), .bl ("NoCover" == nm)], [.bl ("NoSaying" == nm), .bl ("NotAlike" == nm), .bl ("NoWorld" == nm)], rfl, rfl, a2 _ _ hR1, upd_same, by show 9 ≤ sizeLine; decide, fun R2 nR2 => ?_⟩
    have r2 := same_upd (o := .lst ([.bl ("NoDeed" == nm), .bl ("NoHolder" == nm), .bl ("NoBet" == nm), .bl ("NoStake" == nm), .bl ("NoTicket" == nm), .bl ("NoCover" == nm)] ++ [.bl ("NoSaying" == nm), .bl ("NotAlike" == nm), .bl ("NoWorld" == nm)])) nR2
    have hR2 : tgt r2 R2 = some (.lst [.bl ("NoDeed" == nm), .bl ("NoHolder" == nm), .bl ("NoBet" == nm), .bl ("NoStake" == nm), .bl ("NoTicket" == nm), .bl ("NoCover" == nm), .bl ("NoSaying" == nm), .bl ("NotAlike" == nm), .bl ("NoWorld" == nm)]) := upd_same
    have T2 := S2.trans r2
    refine ⟨_, rfl, ?_⟩
    refine ⟨_, rfl, D, _, _, "NoStep" == nm, rfl, Same.dok T2 dk, ec, rfl, .own _, hK "NoStep" (by simp) _ T.x_NoStep.ns, ?_⟩
    refine ⟨_, rfl, D, _, _, "TooLong" == nm, rfl, Same.dok T2 dk, ec, rfl, .own _, hK "TooLong" (by simp) _ T.x_TooLong.ns, ?_⟩
    refine ⟨_, rfl, D, _, _, "TooMany" == nm, rfl, Same.dok T2 dk, ec, rfl, .own _, hK "TooMany" (by simp) _ T.x_TooMany.ns, by show 3 ≤ sizeLine; decide, fun A3 nA3 => ?_⟩
    have a3 := same_upd (o := .lst [.bl ("NoStep" == nm), .bl ("TooLong" == nm), .bl ("TooMany" == nm)]) nA3
    have S3 := T2.trans a3
    refine ⟨R2, A3, [.bl ("NoDeed" == nm), .bl ("NoHolder" == nm), .bl ("NoBet" == nm), .bl ("NoStake" == nm), .bl ("NoTicket" == nm), .bl ("NoCover" == nm), .bl ("NoSaying" == nm), .bl ("NotAlike" == nm), .bl ("NoWorld" == nm)], [.bl ("NoStep" == nm), .bl ("TooLong" == nm), .bl ("TooMany" == nm)], rfl, rfl, a3 _ _ hR2, upd_same, by show 12 ≤ sizeLine; decide, fun R3 nR3 => ?_⟩
    have r3 := same_upd (o := .lst ([.bl ("NoDeed" == nm), .bl ("NoHolder" == nm), .bl ("NoBet" == nm), .bl ("NoStake" == nm), .bl ("NoTicket" == nm), .bl ("NoCover" == nm), .bl ("NoSaying" == nm), .bl ("NotAlike" == nm), .bl ("NoWorld" == nm)] ++ [.bl ("NoStep" == nm), .bl ("TooLong" == nm), .bl ("TooMany" == nm)])) nR3
    have hR3 : tgt r3 R3 = some (.lst [.bl ("NoDeed" == nm), .bl ("NoHolder" == nm), .bl ("NoBet" == nm), .bl ("NoStake" == nm), .bl ("NoTicket" == nm), .bl ("NoCover" == nm), .bl ("NoSaying" == nm), .bl ("NotAlike" == nm), .bl ("NoWorld" == nm), .bl ("NoStep" == nm), .bl ("TooLong" == nm), .bl ("TooMany" == nm)]) := upd_same
    have T3 := S3.trans r3
    refine ⟨_, rfl, .inl ⟨rfl, _, .inl (.inl hR3)⟩, ?_⟩
    refine ⟨_, rfl, D, _, _, "Unfair" == nm, rfl, Same.dok T3 dk, ec, rfl, .own _, hK "Unfair" (by simp) _ T.x_Unfair.ns, ?_⟩
    refine ⟨R3, [.bl ("NoDeed" == nm), .bl ("NoHolder" == nm), .bl ("NoBet" == nm), .bl ("NoStake" == nm), .bl ("NoTicket" == nm), .bl ("NoCover" == nm), .bl ("NoSaying" == nm), .bl ("NotAlike" == nm), .bl ("NoWorld" == nm), .bl ("NoStep" == nm), .bl ("TooLong" == nm), .bl ("TooMany" == nm)], _, rfl, rfl, hR3, by show 12 < sizeLine; decide, ?_⟩
    have m1 := same_mut (o := .lst ([.bl ("NoDeed" == nm), .bl ("NoHolder" == nm), .bl ("NoBet" == nm), .bl ("NoStake" == nm), .bl ("NoTicket" == nm), .bl ("NoCover" == nm), .bl ("NoSaying" == nm), .bl ("NotAlike" == nm), .bl ("NoWorld" == nm), .bl ("NoStep" == nm), .bl ("TooLong" == nm), .bl ("TooMany" == nm)] ++ [.bl ("Unfair" == nm)])) nR3 r3
    have T4 := S3.trans m1
    have hB : tgt m1 R3 = some (.lst [.bl ("NoDeed" == nm), .bl ("NoHolder" == nm), .bl ("NoBet" == nm), .bl ("NoStake" == nm), .bl ("NoTicket" == nm), .bl ("NoCover" == nm), .bl ("NoSaying" == nm), .bl ("NotAlike" == nm), .bl ("NoWorld" == nm), .bl ("NoStep" == nm), .bl ("TooLong" == nm), .bl ("TooMany" == nm), .bl ("Unfair" == nm)]) := upd_same
    refine ⟨by show 9 ≤ sizeLine; decide, fun W nW => ?_⟩
    have w1 := same_upd (o := .lst [.str "NoDeed", .str "NoHolder", .str "NoBet", .str "NoStake", .str "NoTicket", .str "NoCover", .str "NoSaying", .str "NotAlike", .str "NoWorld"]) nW
    refine ⟨_, rfl, by show 4 ≤ sizeLine; decide, fun W2 nW2 => ?_⟩
    have w2 := same_upd (o := .lst [.str "NoStep", .str "TooLong", .str "TooMany", .str "Unfair"]) nW2
    refine ⟨W, W2, [.str "NoDeed", .str "NoHolder", .str "NoBet", .str "NoStake", .str "NoTicket", .str "NoCover", .str "NoSaying", .str "NotAlike", .str "NoWorld"], [.str "NoStep", .str "TooLong", .str "TooMany", .str "Unfair"], rfl, rfl, w2 _ _ upd_same, upd_same, by show 13 ≤ sizeLine; decide, fun W3 nW3 => ?_⟩
    have w3 := same_upd (o := .lst ([.str "NoDeed", .str "NoHolder", .str "NoBet", .str "NoStake", .str "NoTicket", .str "NoCover", .str "NoSaying", .str "NotAlike", .str "NoWorld"] ++ [.str "NoStep", .str "TooLong", .str "TooMany", .str "Unfair"])) nW3
    have hW : tgt w3 W3 = some (.lst [.str "NoDeed", .str "NoHolder", .str "NoBet", .str "NoStake", .str "NoTicket", .str "NoCover", .str "NoSaying", .str "NotAlike", .str "NoWorld", .str "NoStep", .str "TooLong", .str "TooMany", .str "Unfair"]) := upd_same
    have U := T4.trans (w1.trans (w2.trans w3))
    have hB := (w1.trans (w2.trans w3)) _ _ hB
    refine ⟨_, rfl, D, _, _, true, rfl, Same.dok U dk, ec, rfl, .ty _, kv, _, rfl, iteF ?_⟩
    refine ⟨_, rfl, by show 2 ≤ sizeLine; decide, fun tp n2 => ?_⟩
    have u2 := same_upd (o := .tup [.ref T.x_Fair.C, .ref T.x_NoText.C]) n2
    refine ⟨D, tp, _, _, false, rfl, Same.dok (U.trans u2) dk, ec, rfl, upd_same, (.cons (.own _) (.cons (.own _) .nil)), (kn_cons (no "Fair" (by simp) _ T.x_Fair.ns) (kn_cons (no "NoText" (by simp) _ T.x_NoText.ns) kn_nil)), _, rfl, iteF ?_⟩
    have hB := u2 _ _ hB
    have hW := u2 _ _ hW
    rcases hn with rfl | rfl | rfl | rfl | rfl | rfl | rfl | rfl | rfl | rfl | rfl | rfl | rfl
    · have hB : tgt u2 R3 = some (.lst (([true, false, false, false, false, false, false, false, false, false, false, false, false] : List Bool).map V.bl)) := hB
      have fl : ∀ m, m < 0 → ([true, false, false, false, false, false, false, false, false, false, false, false, false] : List Bool)[m]? = some false := by decide
      refine ⟨_, rfl, .inl ⟨rfl, _, .inl (.inl hB)⟩, R3, [true, false, false, false, false, false, false, false, false, false, false, false, false], true, rfl, rfl, .inl (.inl hB), rfl, _, rfl, iteF ?_⟩
      refine ⟨_, rfl, _, rfl, .inl ⟨rfl, _, .inl (.inl hB)⟩, R3, _, _, 0, .bl true, rfl, rfl, .inl (.inl hB), rfl, rfl, rfl, rfl, (fun m z h e => ?_), W3, _, _, .str "NoDeed", rfl, rfl, .inl (.inl hW), rfl, q _ (U.trans u2)⟩
      rw [List.getElem?_map, fl m h] at e
      cases e
      rfl
    · have hB : tgt u2 R3 = some (.lst (([false, true, false, false, false, false, false, false, false, false, false, false, false] : List Bool).map V.bl)) := hB
      have fl : ∀ m, m < 1 → ([false, true, false, false, false, false, false, false, false, false, false, false, false] : List Bool)[m]? = some false := by decide
      refine ⟨_, rfl, .inl ⟨rfl, _, .inl (.inl hB)⟩, R3, [false, true, false, false, false, false, false, false, false, false, false, false, false], true, rfl, rfl, .inl (.inl hB), rfl, _, rfl, iteF ?_⟩
      refine ⟨_, rfl, _, rfl, .inl ⟨rfl, _, .inl (.inl hB)⟩, R3, _, _, 1, .bl true, rfl, rfl, .inl (.inl hB), rfl, rfl, rfl, rfl, (fun m z h e => ?_), W3, _, _, .str "NoHolder", rfl, rfl, .inl (.inl hW), rfl, q _ (U.trans u2)⟩
      rw [List.getElem?_map, fl m h] at e
      cases e
      rfl
    · have hB : tgt u2 R3 = some (.lst (([false, false, true, false, false, false, false, false, false, false, false, false, false] : List Bool).map V.bl)) := hB
      have fl : ∀ m, m < 2 → ([false, false, true, false, false, false, false, false, false, false, false, false, false] : List Bool)[m]? = some false := by decide
      refine ⟨_, rfl, .inl ⟨rfl, _, .inl (.inl hB)⟩, R3, [false, false, true, false, false, false, false, false, false, false, false, false, false], true, rfl, rfl, .inl (.inl hB), rfl, _, rfl, iteF ?_⟩
      refine ⟨_, rfl, _, rfl, .inl ⟨rfl, _, .inl (.inl hB)⟩, R3, _, _, 2, .bl true, rfl, rfl, .inl (.inl hB), rfl, rfl, rfl, rfl, (fun m z h e => ?_), W3, _, _, .str "NoBet", rfl, rfl, .inl (.inl hW), rfl, q _ (U.trans u2)⟩
      rw [List.getElem?_map, fl m h] at e
      cases e
      rfl
    · have hB : tgt u2 R3 = some (.lst (([false, false, false, true, false, false, false, false, false, false, false, false, false] : List Bool).map V.bl)) := hB
      have fl : ∀ m, m < 3 → ([false, false, false, true, false, false, false, false, false, false, false, false, false] : List Bool)[m]? = some false := by decide
      refine ⟨_, rfl, .inl ⟨rfl, _, .inl (.inl hB)⟩, R3, [false, false, false, true, false, false, false, false, false, false, false, false, false], true, rfl, rfl, .inl (.inl hB), rfl, _, rfl, iteF ?_⟩
      refine ⟨_, rfl, _, rfl, .inl ⟨rfl, _, .inl (.inl hB)⟩, R3, _, _, 3, .bl true, rfl, rfl, .inl (.inl hB), rfl, rfl, rfl, rfl, (fun m z h e => ?_), W3, _, _, .str "NoStake", rfl, rfl, .inl (.inl hW), rfl, q _ (U.trans u2)⟩
      rw [List.getElem?_map, fl m h] at e
      cases e
      rfl
    · have hB : tgt u2 R3 = some (.lst (([false, false, false, false, true, false, false, false, false, false, false, false, false] : List Bool).map V.bl)) := hB
      have fl : ∀ m, m < 4 → ([false, false, false, false, true, false, false, false, false, false, false, false, false] : List Bool)[m]? = some false := by decide
      refine ⟨_, rfl, .inl ⟨rfl, _, .inl (.inl hB)⟩, R3, [false, false, false, false, true, false, false, false, false, false, false, false, false], true, rfl, rfl, .inl (.inl hB), rfl, _, rfl, iteF ?_⟩
      refine ⟨_, rfl, _, rfl, .inl ⟨rfl, _, .inl (.inl hB)⟩, R3, _, _, 4, .bl true, rfl, rfl, .inl (.inl hB), rfl, rfl, rfl, rfl, (fun m z h e => ?_), W3, _, _, .str "NoTicket", rfl, rfl, .inl (.inl hW), rfl, q _ (U.trans u2)⟩
      rw [List.getElem?_map, fl m h] at e
      cases e
      rfl
    · have hB : tgt u2 R3 = some (.lst (([false, false, false, false, false, true, false, false, false, false, false, false, false] : List Bool).map V.bl)) := hB
      have fl : ∀ m, m < 5 → ([false, false, false, false, false, true, false, false, false, false, false, false, false] : List Bool)[m]? = some false := by decide
      refine ⟨_, rfl, .inl ⟨rfl, _, .inl (.inl hB)⟩, R3, [false, false, false, false, false, true, false, false, false, false, false, false, false], true, rfl, rfl, .inl (.inl hB), rfl, _, rfl, iteF ?_⟩
      refine ⟨_, rfl, _, rfl, .inl ⟨rfl, _, .inl (.inl hB)⟩, R3, _, _, 5, .bl true, rfl, rfl, .inl (.inl hB), rfl, rfl, rfl, rfl, (fun m z h e => ?_), W3, _, _, .str "NoCover", rfl, rfl, .inl (.inl hW), rfl, q _ (U.trans u2)⟩
      rw [List.getElem?_map, fl m h] at e
      cases e
      rfl
    · have hB : tgt u2 R3 = some (.lst (([false, false, false, false, false, false, true, false, false, false, false, false, false] : List Bool).map V.bl)) := hB
      have fl : ∀ m, m < 6 → ([false, false, false, false, false, false, true, false, false, false, false, false, false] : List Bool)[m]? = some false := by decide
      refine ⟨_, rfl, .inl ⟨rfl, _, .inl (.inl hB)⟩, R3, [false, false, false, false, false, false, true, false, false, false, false, false, false], true, rfl, rfl, .inl (.inl hB), rfl, _, rfl, iteF ?_⟩
      refine ⟨_, rfl, _, rfl, .inl ⟨rfl, _, .inl (.inl hB)⟩, R3, _, _, 6, .bl true, rfl, rfl, .inl (.inl hB), rfl, rfl, rfl, rfl, (fun m z h e => ?_), W3, _, _, .str "NoSaying", rfl, rfl, .inl (.inl hW), rfl, q _ (U.trans u2)⟩
      rw [List.getElem?_map, fl m h] at e
      cases e
      rfl
    · have hB : tgt u2 R3 = some (.lst (([false, false, false, false, false, false, false, true, false, false, false, false, false] : List Bool).map V.bl)) := hB
      have fl : ∀ m, m < 7 → ([false, false, false, false, false, false, false, true, false, false, false, false, false] : List Bool)[m]? = some false := by decide
      refine ⟨_, rfl, .inl ⟨rfl, _, .inl (.inl hB)⟩, R3, [false, false, false, false, false, false, false, true, false, false, false, false, false], true, rfl, rfl, .inl (.inl hB), rfl, _, rfl, iteF ?_⟩
      refine ⟨_, rfl, _, rfl, .inl ⟨rfl, _, .inl (.inl hB)⟩, R3, _, _, 7, .bl true, rfl, rfl, .inl (.inl hB), rfl, rfl, rfl, rfl, (fun m z h e => ?_), W3, _, _, .str "NotAlike", rfl, rfl, .inl (.inl hW), rfl, q _ (U.trans u2)⟩
      rw [List.getElem?_map, fl m h] at e
      cases e
      rfl
    · have hB : tgt u2 R3 = some (.lst (([false, false, false, false, false, false, false, false, true, false, false, false, false] : List Bool).map V.bl)) := hB
      have fl : ∀ m, m < 8 → ([false, false, false, false, false, false, false, false, true, false, false, false, false] : List Bool)[m]? = some false := by decide
      refine ⟨_, rfl, .inl ⟨rfl, _, .inl (.inl hB)⟩, R3, [false, false, false, false, false, false, false, false, true, false, false, false, false], true, rfl, rfl, .inl (.inl hB), rfl, _, rfl, iteF ?_⟩
      refine ⟨_, rfl, _, rfl, .inl ⟨rfl, _, .inl (.inl hB)⟩, R3, _, _, 8, .bl true, rfl, rfl, .inl (.inl hB), rfl, rfl, rfl, rfl, (fun m z h e => ?_), W3, _, _, .str "NoWorld", rfl, rfl, .inl (.inl hW), rfl, q _ (U.trans u2)⟩
      rw [List.getElem?_map, fl m h] at e
      cases e
      rfl
    · have hB : tgt u2 R3 = some (.lst (([false, false, false, false, false, false, false, false, false, true, false, false, false] : List Bool).map V.bl)) := hB
      have fl : ∀ m, m < 9 → ([false, false, false, false, false, false, false, false, false, true, false, false, false] : List Bool)[m]? = some false := by decide
      refine ⟨_, rfl, .inl ⟨rfl, _, .inl (.inl hB)⟩, R3, [false, false, false, false, false, false, false, false, false, true, false, false, false], true, rfl, rfl, .inl (.inl hB), rfl, _, rfl, iteF ?_⟩
      refine ⟨_, rfl, _, rfl, .inl ⟨rfl, _, .inl (.inl hB)⟩, R3, _, _, 9, .bl true, rfl, rfl, .inl (.inl hB), rfl, rfl, rfl, rfl, (fun m z h e => ?_), W3, _, _, .str "NoStep", rfl, rfl, .inl (.inl hW), rfl, q _ (U.trans u2)⟩
      rw [List.getElem?_map, fl m h] at e
      cases e
      rfl
    · have hB : tgt u2 R3 = some (.lst (([false, false, false, false, false, false, false, false, false, false, true, false, false] : List Bool).map V.bl)) := hB
      have fl : ∀ m, m < 10 → ([false, false, false, false, false, false, false, false, false, false, true, false, false] : List Bool)[m]? = some false := by decide
      refine ⟨_, rfl, .inl ⟨rfl, _, .inl (.inl hB)⟩, R3, [false, false, false, false, false, false, false, false, false, false, true, false, false], true, rfl, rfl, .inl (.inl hB), rfl, _, rfl, iteF ?_⟩
      refine ⟨_, rfl, _, rfl, .inl ⟨rfl, _, .inl (.inl hB)⟩, R3, _, _, 10, .bl true, rfl, rfl, .inl (.inl hB), rfl, rfl, rfl, rfl, (fun m z h e => ?_), W3, _, _, .str "TooLong", rfl, rfl, .inl (.inl hW), rfl, q _ (U.trans u2)⟩
      rw [List.getElem?_map, fl m h] at e
      cases e
      rfl
    · have hB : tgt u2 R3 = some (.lst (([false, false, false, false, false, false, false, false, false, false, false, true, false] : List Bool).map V.bl)) := hB
      have fl : ∀ m, m < 11 → ([false, false, false, false, false, false, false, false, false, false, false, true, false] : List Bool)[m]? = some false := by decide
      refine ⟨_, rfl, .inl ⟨rfl, _, .inl (.inl hB)⟩, R3, [false, false, false, false, false, false, false, false, false, false, false, true, false], true, rfl, rfl, .inl (.inl hB), rfl, _, rfl, iteF ?_⟩
      refine ⟨_, rfl, _, rfl, .inl ⟨rfl, _, .inl (.inl hB)⟩, R3, _, _, 11, .bl true, rfl, rfl, .inl (.inl hB), rfl, rfl, rfl, rfl, (fun m z h e => ?_), W3, _, _, .str "TooMany", rfl, rfl, .inl (.inl hW), rfl, q _ (U.trans u2)⟩
      rw [List.getElem?_map, fl m h] at e
      cases e
      rfl
    · have hB : tgt u2 R3 = some (.lst (([false, false, false, false, false, false, false, false, false, false, false, false, true] : List Bool).map V.bl)) := hB
      have fl : ∀ m, m < 12 → ([false, false, false, false, false, false, false, false, false, false, false, false, true] : List Bool)[m]? = some false := by decide
      refine ⟨_, rfl, .inl ⟨rfl, _, .inl (.inl hB)⟩, R3, [false, false, false, false, false, false, false, false, false, false, false, false, true], true, rfl, rfl, .inl (.inl hB), rfl, _, rfl, iteF ?_⟩
      refine ⟨_, rfl, _, rfl, .inl ⟨rfl, _, .inl (.inl hB)⟩, R3, _, _, 12, .bl true, rfl, rfl, .inl (.inl hB), rfl, rfl, rfl, rfl, (fun m z h e => ?_), W3, _, _, .str "Unfair", rfl, rfl, .inl (.inl hW), rfl, q _ (U.trans u2)⟩
      rw [List.getElem?_map, fl m h] at e
      cases e
      rfl
end
end B

namespace B
open PySem PySem.Spec PyProof.Rows L2

def sp_l_bad (K : PySem.W.Frag) : Sp := fun vs H Q _ => ∃ (w : Bool) (v v' : V), vs = [.bl w, v, v'] ∧ ∀ H', Same H H' → Q (if w = true then v' else v) H'

section
variable {P : Program} {w : World} {K : PySem.W.Frag} {mg : Str → Option Value} {base : Heap}
theorem ok_l_bad (T : Tx K mg w) (U : Unl P base) : FnOk P w K mg base CX0 35 T.l_bad.f T.l_bad.fd ["_law_wrong", "_law_right", "_law_other"] (sp_l_bad K) := by
  refine T.l_bad.F.ok sc_l_bad (fun vs H Q E h => ?_) (fun cdv A outer s H vs Q E hr h => ?_)
  · obtain ⟨w, v, v', rfl, q⟩ := h
    rfl
  · obtain ⟨w, v, v', rfl, q⟩ := h
    refine ⟨_, (pss_one (ps_ret (pe_ix ix_list (pe_lst (pa_cons (pv 1) (pa_cons (pv 2) pa_nil))) (pe_callTy call_int1 (by rfl) T.m_int (by decide +kernel) (pa_cons (pv 0) pa_nil)) (fun _ _ => rfl)))), ?_⟩
    refine ⟨_, rfl, _, rfl, by show 2 ≤ sizeLine; decide, fun A nA => ?_⟩
    have sA := same_upd (o := .lst [v, v']) nA
    refine ⟨_, rfl, .inr ⟨_, rfl, ?_⟩⟩
    cases w with
    | true => exact ⟨A, _, 1, v', rfl, rfl, .inl (.inl upd_same), rfl, q _ sA⟩
    | false => exact ⟨A, _, 0, v, rfl, rfl, .inl (.inl upd_same), rfl, q _ sA⟩
end
end B

namespace B
open PySem PySem.Spec PyProof.Rows L2

def sp_plus (K : PySem.W.Frag) : Sp := fun vs H Q _ => ∃ (a c : Addr) (t1 t2 : Int) (b1 b2 : Nat), vs = [.ref a, .ref c] ∧ SqT K H a [.int t1, .int b1] ∧ SqT K H c [.int t2, .int b2] ∧ IsF t1 b1 ∧ IsF t2 b2 ∧ Fz t1 b1 400000 ∧ Fz t2 b2 400000 ∧
  ∀ p, H p = none → Q (.ref p) (upd H p (.tup [.int (addT t1 b1 t2 b2), .int (addB t1 b1 t2 b2)]))

section
variable {P : Program} {w : World} {K : PySem.W.Frag} {mg : Str → Option Value} {base : Heap}
theorem ok_plus (T : Tx K mg w) (U : Unl P base) : FnOk P w K mg base CX0 36 T.plus.f T.plus.fd ["one", "other"] (sp_plus K) := by
  refine T.plus.F.ok sc_plus (fun vs H Q E h => ?_) (fun cdv A outer s H vs Q E hr h => ?_)
  · obtain ⟨a, c, t1, t2, b1, b2, rfl, hA, hC, f1, f2, z1, z2, q⟩ := h
    rfl
  · obtain ⟨a, c, t1, t2, b1, b2, rfl, hA, hC, f1, f2, z1, z2, q⟩ := h
    refine ⟨_, (pss_cons (ps_asg (pv 0) (pg_tup rfl (pgs_cons (pg_name (i := 2) sc_plus.nd rfl (.inl rfl)) (pgs_cons (pg_name (i := 3) sc_plus.nd rfl (.inl rfl)) pgs_nil))))
      (pss_cons (ps_asg (pv 1) (pg_tup rfl (pgs_cons (pg_name (i := 4) sc_plus.nd rfl (.inl rfl)) (pgs_cons (pg_name (i := 5) sc_plus.nd rfl (.inl rfl)) pgs_nil))))
      (pss_cons (ps_set (i := 6) sc_plus.nd rfl (.inl rfl) (pe_call (ok_common T U) (hr.mono (by decide)) (by rfl) T.common.g T.common.F.kp T.common.b .nil pass0 (pa_cons (pv 3) (pa_cons (pv 5) pa_nil))))
      (pss_cons (ps_set (i := 7) sc_plus.nd rfl (.inl rfl) (pe_op (op_fdivW U (hr.mono (by decide)) rfl sc_plus.gen sc_plus.co rfl rfl) (pv 3) (pv 6)))
      (pss_cons (ps_set (i := 8) sc_plus.nd rfl (.inl rfl) (pe_op op_add (pe_op op_mulW (pv 2) (pe_op (op_fdivW U (hr.mono (by decide)) rfl sc_plus.gen sc_plus.co rfl rfl) (pv 5) (pv 6))) (pe_op op_mulW (pv 4) (pv 7))))
      (pss_cons (ps_set (i := 9) sc_plus.nd rfl (.inl rfl) (pe_call (ok_common T U) (hr.mono (by decide)) (by rfl) T.common.g T.common.F.kp T.common.b .nil pass0 (pa_cons (pe_callB call_abs (by rfl) T.m_abs (by decide +kernel) (pa_cons (pv 8) pa_nil)) (pa_cons (pv 6) pa_nil))))
      (pss_one (ps_ret (pe_tup (pa_cons (pe_op (op_fdivW U (hr.mono (by decide)) rfl sc_plus.gen sc_plus.co rfl rfl) (pv 8) (pv 9)) (pa_cons (pe_op op_mulW (pv 7) (pe_op (op_fdivW U (hr.mono (by decide)) rfl sc_plus.gen sc_plus.co rfl rfl) (pv 5) (pv 9))) pa_nil))))))))))), ?_⟩
    obtain ⟨m1, m2, g0, d0⟩ := plus_math f1 f2
    have q' : ∀ p, H p = none → Q (.ref p) (upd H p (.tup [.int (plS t1 b1 t2 b2 / (plD t1 b1 t2 b2 : Int)), .int (((b1 / plG b1 b2 : Nat) : Int) * ((b2 / plD t1 b1 t2 b2 : Nat) : Int))])) := by
      rw [m1, ← Int.natCast_mul, m2]
      exact q
    have zG : plG b1 b2 < 2 ^ 400000 := Nat.lt_of_le_of_lt (Nat.gcd_le_left _ f1.pos) z1.b
    have zD : plD t1 b1 t2 b2 < 2 ^ 400000 := Nat.lt_of_le_of_lt (Nat.gcd_le_right _ g0) zG
    have zr : b1 / plG b1 b2 < 2 ^ 400000 := Nat.lt_of_le_of_lt (Nat.div_le_self _ _) z1.b
    have zs : b2 / plG b1 b2 < 2 ^ 400000 := Nat.lt_of_le_of_lt (Nat.div_le_self _ _) z2.b
    have ze : b2 / plD t1 b1 t2 b2 < 2 ^ 400000 := Nat.lt_of_le_of_lt (Nat.div_le_self _ _) z2.b
    have W : ∀ {x : Nat}, x < 2 ^ 400000 → (x : Int).natAbs < 2 ^ 400000 := fun h => by
      rw [Int.natAbs_natCast]
      exact h
    refine ⟨_, rfl, a, _, rfl, hA, rfl, _, _, rfl, _, _, rfl, rfl, ?_⟩
    refine ⟨_, rfl, c, _, rfl, hC, rfl, _, _, rfl, _, _, rfl, rfl, ?_⟩
    refine ⟨_, rfl, _, rfl, b1, b2, rfl, ?_⟩
    refine ⟨_, rfl, _, rfl, _, _, rfl, rfl, wide_div (show (0 : Int) < (plG b1 b2 : Nat) by omega) (W zG) (by decide) (by decide), ?_⟩
    refine ⟨_, rfl, _, rfl, _, rfl, _, _, rfl, rfl, wide_div (show (0 : Int) < (plG b1 b2 : Nat) by omega) (W zG) (by decide) (by decide), _, _, rfl, rfl, wide_mul z1.t (W zs) (by decide) (by decide) (by decide), _, rfl, _, rfl, _, _, rfl, rfl, wide_mul z2.t (W zr) (by decide) (by decide) (by decide), _, _, rfl, rfl, ?_⟩
    refine ⟨_, rfl, plS t1 b1 t2 b2, rfl, _, rfl, (plS t1 b1 t2 b2).natAbs, plG b1 b2, ?_, ?_⟩
    · rw [abs_nat]
      rfl
    exact ⟨_, rfl, _, rfl, plS t1 b1 t2 b2, (plD t1 b1 t2 b2 : Int), rfl, rfl, wide_div (show (0 : Int) < (plD t1 b1 t2 b2 : Nat) by omega) (W zD) (by decide) (by decide), _, rfl, _, rfl, _, rfl, (b2 : Int), (plD t1 b1 t2 b2 : Int), rfl, rfl, wide_div (show (0 : Int) < (plD t1 b1 t2 b2 : Nat) by omega) (W zD) (by decide) (by decide), ((b1 / plG b1 b2 : Nat) : Int), ((b2 / plD t1 b1 t2 b2 : Nat) : Int), rfl, rfl, wide_mul (W zr) (W ze) (by decide) (by decide) (by decide), by show 2 ≤ sizeLine; decide, q'⟩
end
end B

namespace B
open PySem PySem.Spec PyProof.Rows L2

def sp_times (K : PySem.W.Frag) : Sp := fun vs H Q _ => ∃ (a c : Addr) (t1 t2 : Int) (b1 b2 : Nat), vs = [.ref a, .ref c] ∧ SqT K H a [.int t1, .int b1] ∧ SqT K H c [.int t2, .int b2] ∧ IsF t1 b1 ∧ IsF t2 b2 ∧ Fz t1 b1 400000 ∧ Fz t2 b2 400000 ∧
  ∀ p, H p = none → Q (.ref p) (upd H p (.tup [.int (mulT t1 b1 t2 b2), .int (mulB t1 b1 t2 b2)]))

section
variable {P : Program} {w : World} {K : PySem.W.Frag} {mg : Str → Option Value} {base : Heap}
theorem ok_times (T : Tx K mg w) (U : Unl P base) : FnOk P w K mg base CX0 36 T.times.f T.times.fd ["one", "other"] (sp_times K) := by
  refine T.times.F.ok sc_times (fun vs H Q E h => ?_) (fun cdv A outer s H vs Q E hr h => ?_)
  · obtain ⟨a, c, t1, t2, b1, b2, rfl, hA, hC, f1, f2, z1, z2, q⟩ := h
    rfl
  · obtain ⟨a, c, t1, t2, b1, b2, rfl, hA, hC, f1, f2, z1, z2, q⟩ := h
    refine ⟨_, (pss_cons (ps_asg (pv 0) (pg_tup rfl (pgs_cons (pg_name (i := 2) sc_times.nd rfl (.inl rfl)) (pgs_cons (pg_name (i := 3) sc_times.nd rfl (.inl rfl)) pgs_nil))))
      (pss_cons (ps_asg (pv 1) (pg_tup rfl (pgs_cons (pg_name (i := 4) sc_times.nd rfl (.inl rfl)) (pgs_cons (pg_name (i := 5) sc_times.nd rfl (.inl rfl)) pgs_nil))))
      (pss_cons (ps_set (i := 6) sc_times.nd rfl (.inl rfl) (pe_call (ok_common T U) (hr.mono (by decide)) (by rfl) T.common.g T.common.F.kp T.common.b .nil pass0 (pa_cons (pe_callB call_abs (by rfl) T.m_abs (by decide +kernel) (pa_cons (pv 2) pa_nil)) (pa_cons (pv 5) pa_nil))))
      (pss_cons (ps_set (i := 7) sc_times.nd rfl (.inl rfl) (pe_call (ok_common T U) (hr.mono (by decide)) (by rfl) T.common.g T.common.F.kp T.common.b .nil pass0 (pa_cons (pe_callB call_abs (by rfl) T.m_abs (by decide +kernel) (pa_cons (pv 4) pa_nil)) (pa_cons (pv 3) pa_nil))))
      (pss_one (ps_ret (pe_tup (pa_cons (pe_op op_mulW (pe_op (op_fdivW U (hr.mono (by decide)) rfl sc_times.gen sc_times.co rfl rfl) (pv 2) (pv 6)) (pe_op (op_fdivW U (hr.mono (by decide)) rfl sc_times.gen sc_times.co rfl rfl) (pv 4) (pv 7))) (pa_cons (pe_op op_mulW (pe_op (op_fdivW U (hr.mono (by decide)) rfl sc_times.gen sc_times.co rfl rfl) (pv 3) (pv 7)) (pe_op (op_fdivW U (hr.mono (by decide)) rfl sc_times.gen sc_times.co rfl rfl) (pv 5) (pv 6))) pa_nil))))))))), ?_⟩
    obtain ⟨m1, m2, f0, r0⟩ := times_math f1 f2
    have q' : ∀ p, H p = none → Q (.ref p) (upd H p (.tup [.int (t1 / ((Nat.gcd t1.natAbs b2 : Nat) : Int) * (t2 / ((Nat.gcd t2.natAbs b1 : Nat) : Int))), .int (((b1 / Nat.gcd t2.natAbs b1 : Nat) : Int) * ((b2 / Nat.gcd t1.natAbs b2 : Nat) : Int))])) := by
      rw [m1, ← Int.natCast_mul, m2]
      exact q
    have W : ∀ {x : Nat}, x < 2 ^ 400000 → (x : Int).natAbs < 2 ^ 400000 := fun h => by
      rw [Int.natAbs_natCast]
      exact h
    have zf : Nat.gcd t1.natAbs b2 < 2 ^ 400000 := Nat.lt_of_le_of_lt (Nat.gcd_le_right _ f2.pos) z2.b
    have zr : Nat.gcd t2.natAbs b1 < 2 ^ 400000 := Nat.lt_of_le_of_lt (Nat.gcd_le_right _ f1.pos) z1.b
    have y1 : (t1 / ((Nat.gcd t1.natAbs b2 : Nat) : Int)).natAbs < 2 ^ 400000 := by
      rw [natAbs_div (Nat.gcd_dvd_left _ _)]
      exact Nat.lt_of_le_of_lt (Nat.div_le_self _ _) z1.t
    have y2 : (t2 / ((Nat.gcd t2.natAbs b1 : Nat) : Int)).natAbs < 2 ^ 400000 := by
      rw [natAbs_div (Nat.gcd_dvd_left _ _)]
      exact Nat.lt_of_le_of_lt (Nat.div_le_self _ _) z2.t
    have y3 : b1 / Nat.gcd t2.natAbs b1 < 2 ^ 400000 := Nat.lt_of_le_of_lt (Nat.div_le_self _ _) z1.b
    have y4 : b2 / Nat.gcd t1.natAbs b2 < 2 ^ 400000 := Nat.lt_of_le_of_lt (Nat.div_le_self _ _) z2.b
    refine ⟨_, rfl, a, _, rfl, hA, rfl, _, _, rfl, _, _, rfl, rfl, ?_⟩
    refine ⟨_, rfl, c, _, rfl, hC, rfl, _, _, rfl, _, _, rfl, rfl, ?_⟩
    refine ⟨_, rfl, t1, rfl, _, rfl, t1.natAbs, b2, ?_, ?_⟩
    · rw [abs_nat]
      rfl
    refine ⟨_, rfl, t2, rfl, _, rfl, t2.natAbs, b1, ?_, ?_⟩
    · rw [abs_nat]
      rfl
    refine ⟨_, rfl, _, rfl, t1, ((Nat.gcd t1.natAbs b2 : Nat) : Int), rfl, rfl, wide_div (by omega) (W zf) (by decide) (by decide), _, rfl, _, rfl, t2, ((Nat.gcd t2.natAbs b1 : Nat) : Int), rfl, rfl, wide_div (by omega) (W zr) (by decide) (by decide), _, _, rfl, rfl, wide_mul y1 y2 (by decide) (by decide) (by decide), ?_⟩
    exact ⟨_, rfl, _, rfl, (b1 : Int), ((Nat.gcd t2.natAbs b1 : Nat) : Int), rfl, rfl, wide_div (by omega) (W zr) (by decide) (by decide), _, rfl, _, rfl, (b2 : Int), ((Nat.gcd t1.natAbs b2 : Nat) : Int), rfl, rfl, wide_div (by omega) (W zf) (by decide) (by decide), ((b1 / Nat.gcd t2.natAbs b1 : Nat) : Int), ((b2 / Nat.gcd t1.natAbs b2 : Nat) : Int), rfl, rfl, wide_mul (W y3) (W y4) (by decide) (by decide) (by decide), by show 2 ≤ sizeLine; decide, q'⟩
end
end B

namespace B
open PySem PySem.Spec PyProof.Rows L2

def sp_is_fraction (K : PySem.W.Frag) : Sp := fun vs H Q _ => ∃ (v : V) (d : PyData), vs = [v] ∧ Th K H v d ∧ Q (.bl (isFr d)) H

section
variable {P : Program} {w : World} {K : PySem.W.Frag} {mg : Str → Option Value} {base : Heap}
theorem ok_is_fraction (T : Tx K mg w) (U : Unl P base) : FnOk P w K mg base CX0 36 T.is_fraction.f T.is_fraction.fd ["thing"] (sp_is_fraction K) := by
  refine T.is_fraction.F.ok sc_is_fraction (fun vs H Q E h => ?_) (fun cdv A outer s H vs Q E hr h => ?_)
  · obtain ⟨v, d, rfl, hT, q⟩ := h
    rfl
  · obtain ⟨v, d, rfl, hT, q⟩ := h
    refine ⟨_, (pss_cons (ps_if (pt_not (pt_val (pe_call (ok_is_row T U) (hr.mono (by decide)) (by rfl) T.is_row.g T.is_row.F.kp T.is_row.b .nil pass0 (pa_cons (pv 0) (pa_cons pe_int (pa_cons pe_int pa_nil)))))) (pss_one (ps_ret pe_bl)) pss_nil)
      (pss_cons (ps_asg (pv 0) (pg_tup rfl (pgs_cons (pg_name (i := 1) sc_is_fraction.nd rfl (.inl rfl)) (pgs_cons (pg_name (i := 2) sc_is_fraction.nd rfl (.inl rfl)) pgs_nil))))
      (pss_cons (ps_if (PW.pt (pw_or (pt_not (pt_val (pe_call (ok_is_number T U) (hr.mono (by decide)) (by rfl) T.is_number.g T.is_number.F.kp T.is_number.b .nil pass0 (pa_cons (pv 1) pa_nil)))) (pw_or (pt_not (pt_val (pe_call (ok_is_number T U) (hr.mono (by decide)) (by rfl) T.is_number.g T.is_number.F.kp T.is_number.b .nil pass0 (pa_cons (pv 2) pa_nil)))) (pw_or1 (pt_cmpR op_lt (pv 2) pe_int (nomark _)))))) (pss_one (ps_ret pe_bl)) pss_nil)
      (pss_one (ps_ret (pe_cmpR op_eq (pe_call (ok_common T U) (hr.mono (by decide)) (by rfl) T.common.g T.common.F.kp T.common.b .nil pass0 (pa_cons (pe_callB call_abs (by rfl) T.m_abs (by decide +kernel) (pa_cons (pv 1) pa_nil)) (pa_cons (pv 2) pa_nil))) pe_int (nomark _))))))), ?_⟩
    refine ⟨_, rfl, v, d, 2, 2, rfl, hT, _, rfl, ?_⟩
    cases e : rowD 2 2 d with
    | false =>
      have : isFr d = false := by
        rw [Bool.eq_false_iff]
        intro z
        obtain ⟨p, f, rfl⟩ := isFr_iff.mp z
        exact absurd (show true = false from e) (by decide)
      rw [this] at q
      exact iteT q
    | true =>
      obtain ⟨d1, d2, rfl⟩ := rowD_two e
      cases hT with
      | tup tA al =>
      rename_i a xs
      cases al with
      | cons t1 al =>
      cases al with
      | cons t2 al =>
      cases al
      rename_i v1 v2
      refine iteF ⟨_, rfl, a, _, rfl, tA, rfl, _, _, rfl, _, _, rfl, rfl, ?_⟩
      refine ⟨_, rfl, v1, d1, rfl, t1, _, rfl, ?_⟩
      cases d1 with
      | int t =>
        refine iteF ⟨_, rfl, v2, d2, rfl, t2, _, rfl, ?_⟩
        cases d2 with
        | int b =>
          cases t1
          cases t2
          have q : Q (.bl (decide (1 ≤ b) && decide (Nat.gcd t.natAbs b.natAbs = 1))) H := q
          refine iteF ⟨_, rfl, _, _, rfl, rfl, _, rfl, ?_⟩
          by_cases hb : b < 1
          · rw [decide_eq_false (show ¬ (1 ≤ b) by omega), Bool.false_and] at q
            exact iteK (decide_eq_true hb) q
          · rw [decide_eq_true (show 1 ≤ b by omega), Bool.true_and] at q
            refine iteE (decide_eq_false hb) ⟨_, rfl, t, rfl, _, rfl, t.natAbs, b.natAbs, ?_, ?_⟩
            · rw [abs_nat, show ((b.natAbs : Nat) : Int) = b by omega]
              rfl
            · refine ⟨rfl, ?_⟩
              have : decide (V.int ((Nat.gcd t.natAbs b.natAbs : Nat) : Int) = V.int 1) = decide (Nat.gcd t.natAbs b.natAbs = 1) := decide_eq_decide.mpr ⟨fun z => by have := V.int.inj z; omega, fun z => by rw [z]; rfl⟩
              rw [this]
              exact q
        | _ => exact iteT q
      | _ => exact iteT (iteT q)
end
end B

namespace B
open PySem PySem.Spec PyProof.Rows L2

def sp_is_saying (K : PySem.W.Frag) : Sp := fun vs H Q _ => ∃ (cs : List Nat) (v : V) (d : PyData), vs = [.str (tx cs), v] ∧ Th K H v d ∧ (∀ ds, d = .tuple ds → ds.length ≤ 1000 ∧ ∀ x, PyData.str x ∈ ds → x.length ≤ 10000) ∧ ∀ H', Same H H' → Q (.bl (isSay cs d)) H'

section
variable {P : Program} {w : World} {K : PySem.W.Frag} {mg : Str → Option Value} {base : Heap}
theorem ok_is_saying (T : Tx K mg w) (U : Unl P base) : FnOk P w K mg base CX0 36 T.is_saying.f T.is_saying.fd ["letters", "thing"] (sp_is_saying K) := by
  refine T.is_saying.F.ok sc_is_saying (fun vs H Q E h => ?_) (fun cdv A outer s H vs Q E hr h => ?_)
  · obtain ⟨cs, v, d, rfl, hT, hz, q⟩ := h
    rfl
  · obtain ⟨cs, v, d, rfl, hT, hz, q⟩ := h
    refine ⟨_, (pss_cons (ps_if (pt_not (pt_val (pe_call (ok_is_row T U) (hr.mono (by decide)) (by rfl) T.is_row.g T.is_row.F.kp T.is_row.b .nil pass0 (pa_cons (pv 1) (pa_cons pe_int (pa_cons (pe_glob (v := .int 40) (by rfl) T.g_MOST_WORDS ⟨_, rfl⟩) pa_nil)))))) (pss_one (ps_ret pe_bl)) pss_nil)
      (pss_cons (ps_set (i := 2) sc_is_saying.nd rfl (.inl rfl) pe_int)
      (pss_cons (ps_for PassesOwn.never rfl (pi_tup (pv 1)) (pg_name (i := 3) sc_is_saying.nd rfl (.inl rfl))
      (pss_cons (ps_set (i := 4) sc_is_saying.nd rfl (.inl rfl) (pe_call (ok_wanted T U) (hr.mono (by decide)) (by rfl) T.wanted.g T.wanted.F.kp T.wanted.b .nil pass0 (pa_cons (pv 0) (pa_cons (pv 3) pa_nil))))
      (pss_cons (ps_if (PW.pt (pw_or (pt_cmpR op_isN (pv 4) pe_non (nomark _)) (pw_or1 (pt_cmpR op_lt (pv 2) (pv 4) (nomark _))))) (pss_one (ps_ret pe_bl)) pss_nil)
      (pss_one (ps_aug (i := 2) sc_is_saying.nd rfl (.inl rfl) (pe_op op_sub pe_int (pv 4)) ip_add)))))
      (pss_one (ps_ret (pe_cmpR op_eq (pv 2) pe_int (nomark _))))))), ?_⟩
    refine ⟨_, rfl, v, d, 1, 40, rfl, hT, _, rfl, ?_⟩
    cases hT with
    | tup tA al =>
      rename_i a xs ds
      obtain ⟨hl, hx⟩ := hz ds rfl
      have el := al.len
      have q : ∀ H', Same H H' → Q (.bl (decide (1 ≤ ds.length) && decide (ds.length ≤ 40) && decide (goS cs 0 ds = some 1))) H' := q
      have eb : rowD 1 40 (.tuple ds) = (decide (1 ≤ ds.length) && decide (ds.length ≤ 40)) := by
        show (decide ((1 : Int) ≤ (ds.length : Int)) && decide ((ds.length : Int) ≤ 40)) = _
        congr 1
        · exact decide_eq_decide.mpr (by omega)
        · exact decide_eq_decide.mpr (by omega)
      rw [eb]
      cases e : decide (1 ≤ ds.length) && decide (ds.length ≤ 40) with
      | false =>
        rw [e, Bool.false_and] at q
        exact iteT (q _ (fun _ _ h => h))
      | true =>
        rw [e, Bool.true_and] at q
        refine iteF ⟨_, rfl, a, rfl, ⟨_, tA⟩, for_tup (K := K) (a := a) (xs := xs) (fun i σ H' => ∃ (x3 x4 : Option V) (h : Nat), σ = [some (.str (tx cs)), some (.ref a), some (.int h), x3, x4] ∧ goS cs h (ds.drop i) = goS cs 0 ds ∧ Same H H') ⟨none, none, 0, rfl, by rw [List.drop_zero], fun _ _ h => h⟩ (fun i σ H' _ ⟨_, _, _, _, _, e⟩ => Same.tup e tA) ?_ ?_⟩
        · rintro i x σ H1 hxi ⟨x3, x4, h, rfl, hg, s1⟩
          obtain ⟨di, hdi, ti⟩ := al.get hxi
          have hi := (List.getElem?_eq_some_iff.mp hdi).1
          have ed : ds.drop i = di :: ds.drop (i + 1) := by
            obtain ⟨l, e⟩ := List.getElem?_eq_some_iff.mp hdi
            rw [List.drop_eq_getElem_cons l, e]
          rw [ed] at hg
          refine ⟨_, rfl, _, rfl, cs, x, di, rfl, th_same s1 ti, (fun y hy => hx y (hy ▸ List.mem_of_getElem? hdi)), fun H2 s2 => ?_⟩
          cases hw : wantD cs di with
          | none =>
            have : goS cs 0 ds = none := by
              rw [← hg]
              show (match wantD cs di with | none => none | some m => _) = none
              rw [hw]
            rw [this] at q
            exact ⟨_, rfl, rfl, _, rfl, iteT (q _ (s1.trans s2))⟩
          | some m =>
            refine ⟨_, rfl, rfl, _, rfl, iteF ⟨_, rfl, _, rfl, _, _, rfl, rfl, _, rfl, ?_⟩⟩
            have hg2 : (if h < m then none else goS cs (h + 1 - m) (ds.drop (i + 1))) = goS cs 0 ds := by
              rw [← hg]
              show _ = (match wantD cs di with | none => none | some m => if h < m then none else goS cs (h + 1 - m) (ds.drop (i + 1)))
              rw [hw]
            by_cases hm : h < m
            · rw [if_pos hm] at hg2
              rw [← hg2] at q
              exact iteK (decide_eq_true (by omega)) (q _ (s1.trans s2))
            · rw [if_neg hm] at hg2
              refine iteE (decide_eq_false (by omega)) ?_
              refine ⟨_, rfl, _, rfl, _, _, rfl, rfl, _, _, rfl, rfl, ?_⟩
              exact ⟨_, _, h + 1 - m, (by have eh : (h : Int) + (1 - (m : Int)) = ((h + 1 - m : Nat) : Int) := by omega
                                          exact congrArg (fun z => [some (V.str (tx cs)), some (V.ref a), some (V.int z), some x, some (wantV (some m))]) eh), hg2, s1.trans s2⟩
        · rintro σ H1 ⟨x3, x4, h, rfl, hg, s1⟩
          rw [el, List.drop_length] at hg
          have hg : some h = goS cs 0 ds := hg
          rw [← hg] at q
          refine ⟨_, rfl, rfl, ?_⟩
          have eh : decide (V.int (h : Int) = V.int 1) = decide (some h = some 1) := decide_eq_decide.mpr ⟨fun z => by have := V.int.inj z; congr 1; omega, fun z => by have := Option.some.inj z; rw [this]; rfl⟩
          show Q (.bl (decide (V.int (h : Int) = V.int 1))) H1
          rw [eh]
          exact q _ s1
    | _ => exact iteT (q _ (fun _ _ h => h))
end
end B

namespace B
open PySem PySem.Spec PyProof.Rows L2

def sp_holds (K : PySem.W.Frag) : Sp := fun vs H Q _ => ∃ (cs : List Nat) (a : Addr) (ws : List Wd) (bs : List Bool), vs = [.str (tx cs), .ref a, .str (wtx bs)] ∧ SqT K H a (ws.map wv) ∧ Sy cs ws ∧ cs.length = bs.length ∧ bs.length ≤ 100 ∧ ws.length ≤ 10000 ∧ ∀ H', Same H H' → Q (.bl (sval (vl cs bs) ws)) H'

section
variable {P : Program} {w : World} {K : PySem.W.Frag} {mg : Str → Option Value} {base : Heap}
theorem ok_holds (T : Tx K mg w) (U : Unl P base) : FnOk P w K mg base CX0 36 T.holds.f T.holds.fd ["letters", "saying", "world"] (sp_holds K) := by
  refine T.holds.F.ok sc_holds (fun vs H Q E h => ?_) (fun cdv A outer s H vs Q E hr h => ?_)
  · obtain ⟨cs, a, ws, bs, rfl, hA, hY, hl, h100, hz, q⟩ := h
    rfl
  · obtain ⟨cs, a, ws, bs, rfl, hA, hY, hl, h100, hz, q⟩ := h
    refine ⟨_, (pss_cons (ps_set (i := 3) sc_holds.nd rfl (.inl rfl) (pe_lst pa_nil))
      (pss_cons (ps_for PassesOwn.never rfl (pi_tup (pv 1)) (pg_name (i := 4) sc_holds.nd rfl (.inl rfl))
      (pss_one (ps_if (pt_cmpR op_in_seq (pv 4) (pe_glob (v := .ref T.a_JOINING) (by rfl) T.g_JOINING rfl) (by rfl)) (pss_cons (ps_set (i := 5) sc_holds.nd rfl (.inl rfl) (pe_bm0 PySem.F.plainAttrs_list PySem.F.slot_list_pop PySem.F.type_list_pop mt_pop (pv 3)))
      (pss_one (ps_asg (pe_call (ok_joint T U) (hr.mono (by decide)) (by rfl) T.joint.g T.joint.F.kp T.joint.b .nil pass0 (pa_cons (pv 4) (pa_cons (pe_ix ix_list (pv 3) (pe_un un_neg pe_int) (fun _ _ => rfl)) (pa_cons (pv 5) pa_nil)))) (pg_sub (pv 3) (pe_un un_neg pe_int) set_list)))) (pss_one (ps_if (pt_cmpR op_eq (pv 4) pe_str (nomark _)) (pss_one (ps_asg (pe_not (pe_ix ix_list (pv 3) (pe_un un_neg pe_int) (fun _ _ => rfl))) (pg_sub (pv 3) (pe_un un_neg pe_int) set_list))) (pss_one (ps_expr (pe_bm PySem.F.plainAttrs_list PySem.F.slot_list_append PySem.F.type_list_append mt_append (pv 3) (pa_cons (pe_call (ok_laid T U) (hr.mono (by decide)) (by rfl) T.laid.g T.laid.F.kp T.laid.b .nil pass0 (pa_cons (pv 0) (pa_cons (pv 4) (pa_cons (pv 2) pa_nil)))) pa_nil)))))))))
      (pss_one (ps_ret (pe_ix ix_list (pv 3) pe_int (fun _ _ => rfl)))))), ?_⟩
    refine ⟨by decide, fun l nl => ?_⟩
    have S0 := same_upd (o := .lst []) nl
    refine ⟨_, rfl, a, rfl, ⟨_, Same.tup S0 hA⟩, for_tup (K := K) (a := a) (xs := ws.map wv) (fun i σ H' => ∃ (x4 x5 : Option V) (st : List Bool), σ = [some (.str (tx cs)), some (.ref a), some (.str (wtx bs)), some (.ref l), x4, x5] ∧ H' l = some (.lst (hp st)) ∧ ht st.length (ws.drop i) = some 1 ∧ run (vl cs bs) st (ws.drop i) = [sval (vl cs bs) ws] ∧ st.length ≤ i ∧ Same H H') ⟨none, none, [], rfl, upd_same, hY.ht, run_sy _ hY, Nat.le_refl _, S0⟩ (fun i σ H' _ ⟨_, _, _, _, _, _, _, _, e⟩ => Same.tup e hA) ?_ ?_⟩
    · rintro i x σ H1 hx ⟨x4, x5, st, rfl, h1, h2, h3, h4, s1⟩
      have hi : i < ws.length := by
        have := (List.getElem?_eq_some_iff.mp hx).1
        rw [List.length_map] at this
        exact this
      obtain ⟨w, hw, rfl⟩ : ∃ w, ws[i]? = some w ∧ x = wv w := by
        rw [List.getElem?_map, List.getElem?_eq_getElem hi] at hx
        exact ⟨_, List.getElem?_eq_getElem hi, (Option.some.inj hx).symm⟩
      have ed : ws.drop i = w :: ws.drop (i + 1) := by
        rw [List.drop_eq_getElem_cons hi]
        rw [List.getElem?_eq_getElem hi] at hw
        rw [Option.some.inj hw]
      rw [ed] at h2 h3
      have h2' := ht_step (vl cs bs) h2
      rw [run_cons] at h3
      have keep : ∀ zs, Same H (upd H1 l (.lst zs)) := fun zs b o e => by
        rw [upd_ne (ne_of_none e nl)]
        exact s1 b o e
      refine ⟨_, rfl, T.a_JOINING, _, rfl, .inr (T.s_JOINING _), rfl, rfl, _, rfl, iteJ (w := w) (fun e => ?_) (fun e => ?_)⟩
      · have e := e
        have hj : Jn w := by
          rcases e with rfl | rfl | rfl
          · exact .an
          · exact .orr
          · exact .sm
        obtain ⟨b, a', s, rfl⟩ := ht_jn hj h2
        rw [hp_cons, hp_cons] at h1
        refine ⟨_, rfl, .inl ⟨rfl, _, .inl (.inl h1)⟩, l, _, .bl b, rfl, rfl, h1, ?_, ?_⟩
        · rw [List.length_append]
          show (hp s ++ [V.bl a'] ++ [V.bl b])[(hp s ++ [V.bl a']).length + 1 - 1]? = _
          rw [Nat.add_sub_cancel, List.getElem?_append_right (Nat.le_refl _), Nat.sub_self]
          rfl
        rw [List.dropLast_concat]
        refine ⟨_, rfl, _, rfl, 1, rfl, l, _, -1, .bl a', rfl, rfl, .inl (.inl upd_same), atI_last _ _, _, rfl, w, a', b, rfl, hj, ?_⟩
        refine ⟨_, rfl, 1, rfl, l, _, -1, (hp s).length, rfl, rfl, upd_same, last_ix, ?_⟩
        rw [last_set, upd_upd, ← hp_cons]
        have es : stp (vl cs bs) (b :: a' :: s) w = jv w a' b :: s := by cases hj <;> rfl
        rw [es] at h2' h3
        refine ⟨_, _, jv w a' b :: s, rfl, upd_same, h2', h3, ?_, keep _⟩
        simp only [List.length_cons] at h4 ⊢
        omega
      · refine ⟨_, rfl, rfl, _, rfl, iteW (w := w) (u := .nt) rfl (fun e2 => ?_) (fun e2 => ?_)⟩
        · have e2 : w = .nt := e2
          subst e2
          obtain ⟨b, s, rfl⟩ := ht_nt h2
          rw [hp_cons] at h1
          refine ⟨_, rfl, 1, rfl, l, _, -1, .bl b, rfl, rfl, .inl (.inl h1), atI_last _ _, b, rfl, _, rfl, 1, rfl, l, _, -1, (hp s).length, rfl, rfl, h1, last_ix, ?_⟩
          rw [last_set, ← hp_cons]
          exact ⟨_, _, (!b) :: s, rfl, upd_same, h2', h3, by simp only [List.length_cons] at h4 ⊢; omega, keep _⟩
        · have hf : Lf cs w := by
            cases w with
            | lt c => exact .lt (hY.lt c (List.mem_of_getElem? hw))
            | yes => exact .yes
            | no => exact .no
            | nt => exact absurd rfl e2
            | an => exact absurd (.inl rfl) e
            | orr => exact absurd (.inr (.inl rfl)) e
            | sm => exact absurd (.inr (.inr rfl)) e
          have es : stp (vl cs bs) st w = lv (vl cs bs) w :: st := by cases hf <;> rfl
          rw [es] at h2' h3
          refine ⟨_, rfl, .inl ⟨rfl, _, .inl (.inl h1)⟩, _, rfl, _, rfl, _, rfl, cs, w, bs, rfl, hf, hl, h100, l, _, _, rfl, rfl, h1, ?_, ?_⟩
          · unfold hp
            rw [List.length_map, List.length_reverse]
            exact Nat.lt_of_le_of_lt (show st.length ≤ 10000 by omega) (by decide)
          · refine ⟨_, _, lv (vl cs bs) w :: st, rfl, ?_, h2', h3, by rw [List.length_cons]; omega, keep _⟩
            rw [upd_same, hp_cons]
    · rintro σ H1 ⟨x4, x5, st, rfl, h1, h2, h3, h4, s1⟩
      rw [List.length_map, List.drop_length] at h2 h3
      have h3 : st = [sval (vl cs bs) ws] := h3
      subst h3
      exact ⟨_, rfl, l, _, 0, .bl _, rfl, rfl, .inl (.inl h1), rfl, q _ s1⟩
end
end B

namespace B
open PySem PySem.Spec PyProof.Rows L2

def sp_is_place (K : PySem.W.Frag) : Sp := fun vs H Q _ => ∃ (m : Int) (v : V) (d : PyData), vs = [.int m, v] ∧ Th K H v d ∧ Q (.bl (isPl m d)) H

section
variable {P : Program} {w : World} {K : PySem.W.Frag} {mg : Str → Option Value} {base : Heap}
theorem ok_is_place (T : Tx K mg w) (U : Unl P base) : FnOk P w K mg base CX0 36 T.is_place.f T.is_place.fd ["many", "thing"] (sp_is_place K) := by
  refine T.is_place.F.ok sc_is_place (fun vs H Q E h => ?_) (fun cdv A outer s H vs Q E hr h => ?_)
  · obtain ⟨m, v, d, rfl, hT, q⟩ := h
    rfl
  · obtain ⟨m, v, d, rfl, hT, q⟩ := h
    refine ⟨_, (pss_one (ps_ret (pe_and (pe_call (ok_is_number T U) (hr.mono (by decide)) (by rfl) T.is_number.g T.is_number.F.kp T.is_number.b .nil pass0 (pa_cons (pv 1) pa_nil)) (pe_one (pe_chain op_le op_lt pe_int (pv 1) (pv 0)))))), ?_⟩
    refine ⟨_, rfl, v, d, rfl, hT, _, rfl, ?_⟩
    cases hT with
    | int i =>
      have q : Q (.bl (decide (0 ≤ i) && decide (i < m))) H := q
      refine iteT ⟨_, rfl, _, _, rfl, rfl, _, rfl, ?_⟩
      cases e : decide (0 ≤ i) with
      | true =>
        rw [e, Bool.true_and] at q
        exact iteT ⟨_, rfl, _, _, rfl, rfl, q⟩
      | false =>
        rw [e, Bool.false_and] at q
        exact iteF q
    | _ => exact iteF q
end
end B

namespace B
open PySem PySem.Spec PyProof.Rows L2

def sp_ticket_of (K : PySem.W.Frag) : Sp := fun vs H Q _ => ∃ (a : Addr) (v : V) (d : PyData) (tvs : List V) (tks : List Tkt), vs = [.ref a, v] ∧ SqT K H a tvs ∧ F2 (TkAt K H) tvs tks ∧ Th K H v d ∧ ((∀ t ∈ tks, d ≠ .int (t.n : Int)) → Q .non H) ∧ ∀ (i : Nat) (u : V) (t : Tkt), tvs[i]? = some u → tks[i]? = some t → TkAt K H u t → d = .int (t.n : Int) → Q u H

section
variable {P : Program} {w : World} {K : PySem.W.Frag} {mg : Str → Option Value} {base : Heap}
theorem ok_ticket_of (T : Tx K mg w) (U : Unl P base) : FnOk P w K mg base CX0 36 T.ticket_of.f T.ticket_of.fd ["tickets", "number"] (sp_ticket_of K) := by
  refine T.ticket_of.F.ok sc_ticket_of (fun vs H Q E h => ?_) (fun cdv A outer s H vs Q E hr h => ?_)
  · obtain ⟨a, v, d, tvs, tks, rfl, tA, fA, hd, q0, q1⟩ := h
    rfl
  · obtain ⟨a, v, d, tvs, tks, rfl, tA, fA, hd, q0, q1⟩ := h
    refine ⟨_, (pss_cons (ps_if (pt_val (pe_call (ok_is_number T U) (hr.mono (by decide)) (by rfl) T.is_number.g T.is_number.F.kp T.is_number.b .nil pass0 (pa_cons (pv 1) pa_nil))) (pss_one (ps_for PassesOwn.never rfl (pi_tup (pv 0)) (pg_name (i := 2) sc_ticket_of.nd rfl (.inl rfl))
      (pss_one (ps_if (pt_cmpR op_eq (pe_ix ix_tup (pv 2) pe_int (fun _ _ => rfl)) (pv 1) (nomark _)) (pss_one (ps_ret (pv 2))) pss_nil)))) pss_nil)
      (pss_one (ps_ret pe_non))), ?_⟩
    refine ⟨_, rfl, v, d, rfl, hd, _, rfl, ?_⟩
    cases e : isN d with
    | false =>
      refine iteF (q0 fun t _ z => ?_)
      rw [z] at e
      cases e
    | true =>
    obtain ⟨k, rfl⟩ : ∃ k : Int, d = .int k := by
      cases d with
      | int k => exact ⟨k, rfl⟩
      | _ => cases e
    cases hd
    refine iteT ⟨_, rfl, a, rfl, ⟨_, tA⟩, for_it (walk_tup (K := K) (a := a) (xs := tvs)) (fun i σ H' => ∃ (x2 : Option V), σ = [some (.ref a), some (.int k), x2] ∧ H' = H ∧ ∀ j, j < i → ∀ t, tks[j]? = some t → k ≠ (t.n : Int)) ⟨none, rfl, rfl, nofun⟩ (fun i σ H' _ ⟨_, _, e, _⟩ => by rw [e]; exact tA) ?_ ?_⟩
    · rintro i x σ H2 _ hi ⟨x2, rfl, rfl, hn⟩ ⟨rfl, hx⟩
      obtain ⟨t, ht, hT⟩ := fA.getA hx
      obtain ⟨tq, a1, c1, e1, rfl, t1, _⟩ := id hT
      refine ⟨_, rfl, tq, _, 0, .int t.n, rfl, rfl, t1, rfl, _, rfl, rfl, _, rfl, ?_⟩
      by_cases e : (t.n : Int) = k
      · exact iteK (decide_eq_true (by rw [e])) ⟨_, rfl, q1 i _ t hx ht hT (by rw [e])⟩
      · refine iteE (decide_eq_false fun z => e (by injection z with z)) ⟨_, rfl, rfl, fun j hj y hy => ?_⟩
        by_cases c : j = i
        · subst c
          rw [ht] at hy
          cases hy
          exact fun z => e z.symm
        · exact hn j (by omega) y hy
    · rintro σ H2 ⟨x2, rfl, rfl, hn⟩
      refine q0 fun t ht z => ?_
      obtain ⟨j, hj⟩ := List.getElem?_of_mem ht
      injection z with z
      exact hn j (by have := (List.getElem?_eq_some_iff.mp hj).1; have := fA.len; omega) t hj z
end
end B

namespace B
open PySem PySem.Spec PyProof.Rows L2

def sp_passed_on (K : PySem.W.Frag) : Sp := fun vs H Q _ => ∃ (a : Addr) (v : V) (tvs : List V) (tks : List Tkt) (t : Tkt) (g k l s : Nat), vs = [.ref a, v, .int g, .int k] ∧ SqT K H a tvs ∧ F2 (TkAt K H) tvs tks ∧ tks.length ≤ 100 ∧ TkAt K H v t ∧ (l, s) = (if t.l = g then (k, t.s) else (t.l, k)) ∧ ∀ (H' : Hp) (p : Addr) (us : List V), SqT K H' p us → F2 (TkAt K H') us (psF tks t l s) → Same H H' → Q (.ref p) H'

section
variable {P : Program} {w : World} {K : PySem.W.Frag} {mg : Str → Option Value} {base : Heap}
theorem ok_passed_on (T : Tx K mg w) (U : Unl P base) : FnOk P w K mg base CX0 36 T.passed_on.f T.passed_on.fd ["tickets", "ticket", "holder", "to"] (sp_passed_on K) := by
  refine T.passed_on.F.ok sc_passed_on (fun vs H Q E h => ?_) (fun cdv A outer s H vs Q E hr h => ?_)
  · obtain ⟨a, v, tvs, tks, t, g, k, l, s, rfl, tA, fA, l100, hT, hls, q⟩ := h
    rfl
  · obtain ⟨a, v, tvs, tks, t, g, k, l, s, rfl, tA, fA, l100, hT, hls, q⟩ := h
    refine ⟨_, (pss_cons (ps_asg (pv 1) (pg_tup rfl (pgs_cons (pg_name (i := 4) sc_passed_on.nd rfl (.inl rfl)) (pgs_cons (pg_name (i := 5) sc_passed_on.nd rfl (.inl rfl)) (pgs_cons (pg_name (i := 6) sc_passed_on.nd rfl (.inl rfl)) (pgs_cons (pg_name (i := 7) sc_passed_on.nd rfl (.inl rfl)) (pgs_cons (pg_name (i := 8) sc_passed_on.nd rfl (.inl rfl)) (pgs_cons (pg_name (i := 9) sc_passed_on.nd rfl (.inl rfl)) pgs_nil))))))))
      (pss_cons (ps_set (i := 10) sc_passed_on.nd rfl (.inl rfl) (pe_ifExp (pt_cmpR op_eq (pv 5) (pv 2) (nomark _)) (pe_tup (pa_cons (pv 3) (pa_cons (pv 6) pa_nil))) (pe_tup (pa_cons (pv 5) (pa_cons (pv 3) pa_nil)))))
      (pss_cons (ps_if (pt_cmpR op_eq (pe_ix ix_tup (pv 10) pe_int (fun _ _ => rfl)) (pe_ix ix_tup (pv 10) pe_int (fun _ _ => rfl)) (nomark _)) (pss_one (ps_ret (pe_call (ok_without T U) (hr.mono (by decide)) (by rfl) T.without.g T.without.F.kp T.without.b .nil pass0 (pa_cons (pv 0) (pa_cons (pe_lst (pa_cons (pv 4) pa_nil)) pa_nil))))) pss_nil)
      (pss_one (ps_ret (pe_call (ok_exchanged T U) (hr.mono (by decide)) (by rfl) T.exchanged.g T.exchanged.F.kp T.exchanged.b .nil pass0 (pa_cons (pv 0) (pa_cons (pe_op op_catS (pe_op op_catS (pe_tup (pa_cons (pv 4) pa_nil)) (pv 10)) (pe_tup (pa_cons (pv 7) (pa_cons (pv 8) (pa_cons (pv 9) pa_nil))))) pa_nil)))))))), ?_⟩
    obtain ⟨tq, ba, pa, ka, rfl, t1, t2, u3, u4⟩ := id hT
    refine ⟨_, rfl, tq, _, rfl, t1, rfl, _, _, rfl, _, _, rfl, _, _, rfl, _, _, rfl, _, _, rfl, _, _, rfl, rfl, ?_⟩
    refine ⟨_, rfl, _, rfl, rfl, _, rfl, ?_⟩
    refine ite2 (fun e => ?_) (fun e => ?_)
    · have e : t.l = g := by
        have := of_decide_eq_true e
        injection this with this
        omega
      rw [if_pos e] at hls
      injection hls with h1 h2
      subst h1
      subst h2
      refine ⟨_, rfl, _, rfl, by show 2 ≤ sizeLine; decide, fun sq nsq => ?_⟩
      have s1 := same_upd (o := .tup [.int l, .int t.s]) nsq
      refine ⟨_, rfl, sq, _, 0, .int l, rfl, rfl, sqt_upd, rfl, _, rfl, sq, _, 1, .int t.s, rfl, rfl, sqt_upd, rfl, rfl, _, rfl, ?_⟩
      by_cases c : l = t.s
      · refine iteK (decide_eq_true (by rw [c])) ⟨_, rfl, _, rfl, by show 1 ≤ sizeLine; decide, fun B nB => ?_⟩
        have s2 := same_upd (o := .lst [.int t.n]) nB
        have S2 := s1.trans s2
        refine ⟨a, B, tvs, tks, [t.n], rfl, Same.tup S2 tA, tks_tk fA (Same.tk S2), l100, upd_same, fun H3 p us tp fu s3 => q H3 p us tp ?_ (S2.trans s3)⟩
        unfold psF
        rw [if_pos c]
        exact fu
      · refine iteE (decide_eq_false fun z => c (by injection z with z; omega)) ⟨_, rfl, _, rfl, by show 1 ≤ sizeLine; decide, fun b1 m1 => ?_⟩
        have s2 := same_upd (o := .tup [.int t.n]) m1
        refine ⟨_, rfl, b1, sq, [.int t.n], [.int l, .int t.s], rfl, rfl, sqt_upd, Same.tup s2 sqt_upd, by show 3 ≤ 100000; decide, fun b2 H3 t3 s3 => ?_⟩
        refine ⟨_, rfl, _, rfl, _, rfl, by show 3 ≤ sizeLine; decide, fun b3 m3 => ?_⟩
        have s4 := same_upd (o := .tup [.ref ba, .ref pa, .ref ka]) m3
        refine ⟨b2, b3, _, _, rfl, rfl, Same.tup s4 t3, sqt_upd, by show 6 ≤ 100000; decide, fun b4 H5 t5 s5 => ?_⟩
        have S5 := s1.trans (s2.trans (s3.trans (s4.trans s5)))
        refine ⟨a, b4, tvs, tks, ⟨t.n, l, t.s, t.b, t.k⟩, rfl, Same.tup S5 tA, tks_tk fA (Same.tk S5), l100, ⟨b4, ba, pa, ka, rfl, t5, t2.mono (Same.tk S5), Same.tup S5 u3, Same.tup S5 u4⟩, fun H6 p us tp fu s6 => q H6 p us tp ?_ (S5.trans s6)⟩
        unfold psF
        rw [if_neg c]
        exact fu
    · have e : ¬ t.l = g := fun z => e (decide_eq_true (by rw [z]))
      rw [if_neg e] at hls
      injection hls with h1 h2
      subst h1
      subst h2
      refine ⟨_, rfl, _, rfl, by show 2 ≤ sizeLine; decide, fun sq nsq => ?_⟩
      have s1 := same_upd (o := .tup [.int t.l, .int s]) nsq
      refine ⟨_, rfl, sq, _, 0, .int t.l, rfl, rfl, sqt_upd, rfl, _, rfl, sq, _, 1, .int s, rfl, rfl, sqt_upd, rfl, rfl, _, rfl, ?_⟩
      by_cases c : t.l = s
      · refine iteK (decide_eq_true (by rw [c])) ⟨_, rfl, _, rfl, by show 1 ≤ sizeLine; decide, fun B nB => ?_⟩
        have s2 := same_upd (o := .lst [.int t.n]) nB
        have S2 := s1.trans s2
        refine ⟨a, B, tvs, tks, [t.n], rfl, Same.tup S2 tA, tks_tk fA (Same.tk S2), l100, upd_same, fun H3 p us tp fu s3 => q H3 p us tp ?_ (S2.trans s3)⟩
        unfold psF
        rw [if_pos c]
        exact fu
      · refine iteE (decide_eq_false fun z => c (by injection z with z; omega)) ⟨_, rfl, _, rfl, by show 1 ≤ sizeLine; decide, fun b1 m1 => ?_⟩
        have s2 := same_upd (o := .tup [.int t.n]) m1
        refine ⟨_, rfl, b1, sq, [.int t.n], [.int t.l, .int s], rfl, rfl, sqt_upd, Same.tup s2 sqt_upd, by show 3 ≤ 100000; decide, fun b2 H3 t3 s3 => ?_⟩
        refine ⟨_, rfl, _, rfl, _, rfl, by show 3 ≤ sizeLine; decide, fun b3 m3 => ?_⟩
        have s4 := same_upd (o := .tup [.ref ba, .ref pa, .ref ka]) m3
        refine ⟨b2, b3, _, _, rfl, rfl, Same.tup s4 t3, sqt_upd, by show 6 ≤ 100000; decide, fun b4 H5 t5 s5 => ?_⟩
        have S5 := s1.trans (s2.trans (s3.trans (s4.trans s5)))
        refine ⟨a, b4, tvs, tks, ⟨t.n, t.l, s, t.b, t.k⟩, rfl, Same.tup S5 tA, tks_tk fA (Same.tk S5), l100, ⟨b4, ba, pa, ka, rfl, t5, t2.mono (Same.tk S5), Same.tup S5 u3, Same.tup S5 u4⟩, fun H6 p us tp fu s6 => q H6 p us tp ?_ (S5.trans s6)⟩
        unfold psF
        rw [if_neg c]
        exact fu
end
end B

namespace B
open PySem PySem.Spec PyProof.Rows L2

def sp_l_plus (K : PySem.W.Frag) : Sp := fun vs H Q _ => ∃ (a c : Addr) (t1 t2 : Int) (b1 b2 : Nat), vs = [.ref a, .ref c] ∧ SqT K H a [.int t1, .int b1] ∧ SqT K H c [.int t2, .int b2] ∧ IsF t1 b1 ∧ IsF t2 b2 ∧ Fz t1 b1 400000 ∧ Fz t2 b2 400000 ∧
  ∀ p, H p = none → Q (.ref p) (upd H p (.tup [.int (addT t1 b1 t2 b2), .int (addB t1 b1 t2 b2)]))

section
variable {P : Program} {w : World} {K : PySem.W.Frag} {mg : Str → Option Value} {base : Heap}
theorem ok_l_plus (T : Tx K mg w) (U : Unl P base) : FnOk P w K mg base CX0 36 T.l_plus.f T.l_plus.fd ["_law_one", "_law_other"] (sp_l_plus K) := by
  refine T.l_plus.F.ok sc_l_plus (fun vs H Q E h => ?_) (fun cdv A outer s H vs Q E hr h => ?_)
  · obtain ⟨a, c, t1, t2, b1, b2, rfl, hA, hC, f1, f2, z1, z2, q⟩ := h
    rfl
  · obtain ⟨a, c, t1, t2, b1, b2, rfl, hA, hC, f1, f2, z1, z2, q⟩ := h
    refine ⟨_, (pss_one (ps_ret (pe_call (ok_l_lowest T U) (hr.mono (by decide)) (by rfl) T.l_lowest.g T.l_lowest.F.kp T.l_lowest.b .nil pass0 (pa_cons (pe_op op_add (pe_op op_mulW (pe_ix ix_tup (pv 0) pe_int (fun _ _ => rfl)) (pe_ix ix_tup (pv 1) pe_int (fun _ _ => rfl))) (pe_op op_mulW (pe_ix ix_tup (pv 1) pe_int (fun _ _ => rfl)) (pe_ix ix_tup (pv 0) pe_int (fun _ _ => rfl)))) (pa_cons (pe_op op_mulW (pe_ix ix_tup (pv 0) pe_int (fun _ _ => rfl)) (pe_ix ix_tup (pv 1) pe_int (fun _ _ => rfl))) pa_nil))))), ?_⟩
    have W : ∀ {x : Nat}, x < 2 ^ 400000 → (x : Int).natAbs < 2 ^ 400000 := fun h => by
      rw [Int.natAbs_natCast]
      exact h
    refine ⟨_, rfl, a, _, 0, .int t1, rfl, rfl, hA, rfl, _, rfl, c, _, 1, .int b2, rfl, rfl, hC, rfl, _, _, rfl, rfl, wide_mul z1.t (W z2.b) (by decide) (by decide) (by decide), _, rfl, c, _, 0, .int t2, rfl, rfl, hC, rfl, _, rfl, a, _, 1, .int b1, rfl, rfl, hA, rfl, _, _, rfl, rfl, wide_mul z2.t (W z1.b) (by decide) (by decide) (by decide), _, _, rfl, rfl, ?_⟩
    exact ⟨_, rfl, a, _, 1, .int b1, rfl, rfl, hA, rfl, _, rfl, c, _, 1, .int b2, rfl, rfl, hC, rfl, _, _, rfl, rfl, wide_mul (W z1.b) (W z2.b) (by decide) (by decide) (by decide), addX t1 b1 t2 b2, b1 * b2, rfl, Nat.mul_pos f1.pos f2.pos, Nat.lt_of_lt_of_le (mulB_z z1 z2) (Nat.pow_le_pow_right (by decide) (by decide)), q⟩
end
end B

namespace B
open PySem PySem.Spec PyProof.Rows L2

def sp_l_times (K : PySem.W.Frag) : Sp := fun vs H Q _ => ∃ (a c : Addr) (t1 t2 : Int) (b1 b2 : Nat), vs = [.ref a, .ref c] ∧ SqT K H a [.int t1, .int b1] ∧ SqT K H c [.int t2, .int b2] ∧ IsF t1 b1 ∧ IsF t2 b2 ∧ Fz t1 b1 400000 ∧ Fz t2 b2 400000 ∧
  ∀ p, H p = none → Q (.ref p) (upd H p (.tup [.int (mulT t1 b1 t2 b2), .int (mulB t1 b1 t2 b2)]))

section
variable {P : Program} {w : World} {K : PySem.W.Frag} {mg : Str → Option Value} {base : Heap}
theorem ok_l_times (T : Tx K mg w) (U : Unl P base) : FnOk P w K mg base CX0 36 T.l_times.f T.l_times.fd ["_law_one", "_law_other"] (sp_l_times K) := by
  refine T.l_times.F.ok sc_l_times (fun vs H Q E h => ?_) (fun cdv A outer s H vs Q E hr h => ?_)
  · obtain ⟨a, c, t1, t2, b1, b2, rfl, hA, hC, f1, f2, z1, z2, q⟩ := h
    rfl
  · obtain ⟨a, c, t1, t2, b1, b2, rfl, hA, hC, f1, f2, z1, z2, q⟩ := h
    refine ⟨_, (pss_one (ps_ret (pe_call (ok_l_lowest T U) (hr.mono (by decide)) (by rfl) T.l_lowest.g T.l_lowest.F.kp T.l_lowest.b .nil pass0 (pa_cons (pe_op op_mulW (pe_ix ix_tup (pv 0) pe_int (fun _ _ => rfl)) (pe_ix ix_tup (pv 1) pe_int (fun _ _ => rfl))) (pa_cons (pe_op op_mulW (pe_ix ix_tup (pv 0) pe_int (fun _ _ => rfl)) (pe_ix ix_tup (pv 1) pe_int (fun _ _ => rfl))) pa_nil))))), ?_⟩
    have W : ∀ {x : Nat}, x < 2 ^ 400000 → (x : Int).natAbs < 2 ^ 400000 := fun h => by
      rw [Int.natAbs_natCast]
      exact h
    refine ⟨_, rfl, a, _, 0, .int t1, rfl, rfl, hA, rfl, _, rfl, c, _, 0, .int t2, rfl, rfl, hC, rfl, _, _, rfl, rfl, wide_mul z1.t z2.t (by decide) (by decide) (by decide), ?_⟩
    exact ⟨_, rfl, a, _, 1, .int b1, rfl, rfl, hA, rfl, _, rfl, c, _, 1, .int b2, rfl, rfl, hC, rfl, _, _, rfl, rfl, wide_mul (W z1.b) (W z2.b) (by decide) (by decide) (by decide), t1 * t2, b1 * b2, rfl, Nat.mul_pos f1.pos f2.pos, Nat.lt_of_lt_of_le (mulB_z z1 z2) (Nat.pow_le_pow_right (by decide) (by decide)), q⟩
end
end B

namespace B
open PySem PySem.Spec PyProof.Rows L2

def sp_l_worlds (K : PySem.W.Frag) : Sp := fun vs H Q _ => ∃ (a ra : Addr) (cs : List Nat) (rvs : List V) (rs : List (List Wd)), vs = [.ref a] ∧ SqT K H a [.str (tx cs), .ref ra] ∧ SqT K H ra rvs ∧ Rws K H rvs rs ∧ (∀ r ∈ rs, Sy cs r ∧ r.length ≤ 10000) ∧ rs.length ≤ 1000 ∧ cs.length ≤ 6 ∧ (∀ c ∈ cs, c < 123) ∧ ∀ (H' : Hp) (p : Addr), SqT K H' p (wvs (wor cs rs)) → Same H H' → Q (.ref p) H'

section
variable {P : Program} {w : World} {K : PySem.W.Frag} {mg : Str → Option Value} {base : Heap}
theorem ok_l_worlds (T : Tx K mg w) (U : Unl P base) : FnOk P w K mg base CX0 36 T.l_worlds.f T.l_worlds.fd ["_law_house"] (sp_l_worlds K) := by
  refine T.l_worlds.F.ok sc_l_worlds (fun vs H Q E h => ?_) (fun cdv A outer s H vs Q E hr h => ?_)
  · obtain ⟨a, ra, cs, rvs, rs, rfl, hA, hRa, hW, hY, hrl, hc6, hsm, q⟩ := h
    rfl
  · obtain ⟨a, ra, cs, rvs, rs, rfl, hA, hRa, hW, hY, hrl, hc6, hsm, q⟩ := h
    refine ⟨_, (pss_cons (ps_asg (pv 0) (pg_tup rfl (pgs_cons (pg_name (i := 1) sc_l_worlds.nd rfl (.inr rfl)) (pgs_cons (pg_name (i := 2) sc_l_worlds.nd rfl (.inl rfl)) pgs_nil))))
      (pss_cons (ps_set (i := 3) sc_l_worlds.nd rfl (.inl rfl) (pe_lst pa_nil))
      (pss_cons (ps_for PassesOwn.never rfl (pi_range1 (by rfl) T.m_range (pa_cons (pe_ix ix_list (pe_lst (pa_cons pe_int (pa_cons pe_int (pa_cons pe_int (pa_cons pe_int (pa_cons pe_int (pa_cons pe_int (pa_cons pe_int pa_nil)))))))) (pe_callB call_len_str (by rfl) T.m_len (by decide +kernel) (pa_cons (pv 1) pa_nil)) (fun _ _ => rfl)) pa_nil)) (pg_name (i := 4) sc_l_worlds.nd rfl (.inl rfl))
      (pss_cons (ps_set (i := 5) sc_l_worlds.nd rfl (.inr rfl) pe_str)
      (pss_cons (ps_set (i := 6) sc_l_worlds.nd rfl (.inl rfl) (pv 4))
      (pss_cons (ps_for PassesOwn.never rfl (pi_range1 (by rfl) T.m_range (pa_cons (pe_callB call_len_str (by rfl) T.m_len (by decide +kernel) (pa_cons (pv 1) pa_nil)) pa_nil)) (pg_name (i := 7) sc_l_worlds.nd rfl (.inl rfl))
      (pss_cons (ps_set (i := 5) sc_l_worlds.nd rfl (.inr rfl) (pe_op op_add_str (pe_callTy call_str_int (by rfl) T.m_str (by decide +kernel) (pa_cons (pe_op op_mod (pv 6) pe_int) pa_nil)) (pv 5)))
      (pss_one (ps_set (i := 6) sc_l_worlds.nd rfl (.inl rfl) (pe_op (op_fdivW U (hr.mono (by decide)) rfl sc_l_worlds.gen sc_l_worlds.co rfl rfl) (pv 6) pe_int)))))
      (pss_one (ps_if (pt_cmpR (op_eqD hr.units) (pe_lc (own := [("_law_rule", 8)]) (g := gName 8) rfl sc_l_worlds.nd (pi_tup (pv 2)) (blkOk_by (own := [("_law_rule", 8)]) (N := N_l_worlds) (sc := defScope s_l_worlds) (by decide +kernel)) (fun _ _ _ _ _ => (pg_name (i := 8) sc_l_worlds.nd rfl (.inl rfl))) (fun _ _ _ _ _ => (pts_one (pt_not (pt_val (pe_call (ok_l_holds T U) (hr.mono (by decide)) (by rfl) T.l_holds.g T.l_holds.F.kp T.l_holds.b .nil pass0 (pa_cons (pv 1) (pa_cons (pv 8) (pa_cons (pv 5) pa_nil)))))))) (fun _ _ _ _ _ => (pv 8))) (pe_lst pa_nil) (nomark _)) (pss_one (ps_expr (pe_bm PySem.F.plainAttrs_list PySem.F.slot_list_append PySem.F.type_list_append mt_append (pv 3) (pa_cons (pv 5) pa_nil)))) pss_nil))))))
      (pss_one (ps_ret (pe_callTy call_tuple_of (by rfl) T.m_tuple (by decide +kernel) (pa_cons (pv 3) pa_nil))))))), ?_⟩
    have csz : (tx cs).length ≤ sizeLine := Nat.le_trans (show cs.length ≤ 6 from hc6) (by decide)
    have pz : 2 ^ cs.length ≤ 64 := Nat.le_trans (Nat.pow_le_pow_right (by decide) hc6) (by decide)
    have rlen : rvs.length = rs.length := hW.len
    refine ⟨_, rfl, a, _, rfl, hA, rfl, _, _, rfl, _, _, rfl, rfl, ?_⟩
    refine ⟨by decide, fun F nF => ?_⟩
    refine ⟨by decide, fun L nL => ?_⟩
    have S0 := (same_upd (o := .lst []) nF).trans (same_upd (o := .lst [V.int 1, V.int 2, V.int 4, V.int 8, V.int 16, V.int 32, V.int 64]) nL)
    have hF0 := same_upd (o := .lst [V.int 1, V.int 2, V.int 4, V.int 8, V.int 16, V.int 32, V.int 64]) nL _ _ (upd_same (H := H) (a := F) (o := .lst []))
    refine ⟨_, rfl, tx cs, rfl, csz, L, _, (cs.length : Int), .int ((2 ^ cs.length : Nat) : Int), rfl, rfl, .inl (.inl upd_same), pow_at hc6, ((2 ^ cs.length : Nat) : Int), rfl, Int.le_trans (by decide) (Int.natCast_nonneg _), Int.lt_of_le_of_lt (Int.ofNat_le.mpr pz) (by decide), for_range (lo := 0) (n := ((2 ^ cs.length : Nat) : Int).toNat) (fun i σ H' => ∃ (x4 x5 x6 x7 x8 : Option V), σ = [some (.ref a), some (.str (tx cs)), some (.ref ra), some (.ref F), x4, x5, x6, x7, x8] ∧ H' F = some (.lst (wvs (((allW cs.length).take i).filter fun bs => rs.all fun r => sval (vl cs bs) r))) ∧ Same H H') ⟨none, none, none, none, none, rfl, hF0, S0⟩ ?_ ?_⟩
    · rintro i σ H1 hi ⟨x4, x5, x6, x7, x8, rfl, hF, s1⟩
      rw [Int.toNat_natCast] at hi
      refine ⟨_, rfl, ?_⟩
      refine ⟨_, rfl, tx cs, rfl, csz, (cs.length : Int), rfl, by omega, by omega, for_range (lo := 0) (n := ((cs.length : Int)).toNat) (fun p σ H' => ∃ (x7 : Option V), σ = [some (.ref a), some (.str (tx cs)), some (.ref ra), some (.ref F), some (.int (0 + (i : Int))), some (.str (wtx (bitsN p i))), some (.int ((i / 2 ^ p : Nat) : Int)), x7, x8] ∧ H' = H1) ⟨x7, ?_, rfl⟩ ?_ ?_⟩
      · have e0 : (0 : Int) + (i : Int) = ((i / 2 ^ 0 : Nat) : Int) := by rw [Nat.pow_zero, Nat.div_one]; omega
        rw [← e0]
        rfl
      · rintro p σ H2 hp ⟨x7, rfl, rfl⟩
        rw [Int.toNat_natCast] at hp
        refine ⟨_, rfl, _, _, rfl, rfl, (by show (0 : Int) < 2; decide), _, rfl, ?_, _, rfl, _, _, rfl, rfl, ?_, ?_⟩
        · have : (((i / 2 ^ p : Nat) : Int) % 2).natAbs < 2 ^ 1 := by omega
          exact Nat.lt_of_lt_of_le (PySem.Flt.log2_lt_of (by decide) this) (by decide)
        · rw [digit_len]
          refine Nat.le_trans (show 1 + ((bitsN p i).map bc).length ≤ 100 from ?_) (by decide)
          rw [List.length_map, bitsN_len]
          omega
        refine ⟨_, rfl, _, _, rfl, rfl, wide_div (b := 2) (by decide) (by decide) (by decide) (by decide), some (.int (0 + (p : Int))), ?_, rfl⟩
        have e1 : (Str.ofString (toString (((i / 2 ^ p : Nat) : Int) % 2)) : Str) ++ wtx (bitsN p i) = wtx (bitsN (p + 1) i) := digit_cons (i / 2 ^ p) (bitsN p i)
        have e2 : ((i / 2 ^ p : Nat) : Int) / 2 = ((i / 2 ^ (p + 1) : Nat) : Int) := by
          rw [Nat.pow_succ, ← Nat.div_div_eq_div_mul]
          rfl
        show [some (V.ref a), some (V.str (tx cs)), some (V.ref ra), some (V.ref F), some (V.int (0 + (i : Int))), some (V.str ((Str.ofString (toString (((i / 2 ^ p : Nat) : Int) % 2)) : Str) ++ wtx (bitsN p i))), some (V.int (((i / 2 ^ p : Nat) : Int) / 2)), some (V.int (0 + (p : Int))), x8] = _
        rw [e1, e2]
      rintro σ H2 ⟨x7, rfl, rfl⟩
      rw [Int.toNat_natCast]
      have hbl : cs.length = (bitsN cs.length i).length := (bitsN_len _ _).symm
      have hb6 : (bitsN cs.length i).length ≤ 100 := by rw [bitsN_len]; omega
      refine ⟨_, rfl, ra, rfl, ⟨_, Same.tup s1 hRa⟩, fun D nD => ?_⟩
      have sD := same_upd (o := .lst []) nD
      refine lc_tup (K := K) (a := ra) (xs := rvs) (fun j H' => ∃ (acc : List V) (as : List (List Wd)), H' D = some (.lst acc) ∧ Rws K H' acc as ∧ acc.length ≤ j ∧ (∀ r ∈ as, r ∈ rs) ∧ (as.isEmpty = (rs.take j).all fun r => sval (vl cs (bitsN cs.length i)) r) ∧ Same H2 H') ⟨[], [], upd_same, trivial, Nat.le_refl _, (fun x hx => nomatch hx), rfl, sD⟩ (fun j H' _ ⟨_, _, _, _, _, _, _, e⟩ => Same.tup (s1.trans e) hRa) ?_ ?_
      · rintro j x H3 hx ⟨acc, as, h1, h2, h3, h4, h5, s3⟩
        obtain ⟨ax, r, rfl, hr, tr⟩ := (hW.same (s1.trans s3)).getV hx
        have hrm := List.mem_of_getElem? hr
        have hj : j < rs.length := (List.getElem?_eq_some_iff.mp hr).1
        refine ⟨rfl, _, rfl, _, rfl, _, rfl, cs, ax, r, bitsN cs.length i, rfl, tr, (hY r hrm).1, hbl, hb6, (hY r hrm).2, fun H4 s4 => ⟨_, rfl, ?_⟩⟩
        have h5' := all_take (fun r => sval (vl cs (bitsN cs.length i)) r) rs j r hr
        cases ev : sval (vl cs (bitsN cs.length i)) r with
        | true =>
          refine iteF ⟨acc, as, s4 _ _ h1, h2.same s4, by omega, h4, ?_, s3.trans s4⟩
          rw [h5', h5, ev, Bool.and_true]
        | false =>
          refine iteT ⟨_, rfl, acc, s4 _ _ h1, ?_, acc ++ [.ref ax], as ++ [r], upd_same, ?_, ?_, ?_, ?_, ?_⟩
          · exact Nat.lt_of_le_of_lt (show acc.length ≤ 1000 by omega) (by decide)
          · exact Rws.mono (fun _ _ h => tup_upd (s4 _ _ h1) h) (Rws.app (h2.same s4) (Rws.one (Same.tup s4 tr)))
          · rw [List.length_append]
            show acc.length + 1 ≤ j + 1
            omega
          · intro y hy
            rcases List.mem_append.mp hy with h | h
            · exact h4 y h
            · rw [List.mem_singleton] at h
              rw [h]
              exact hrm
          · rw [h5', ev, Bool.and_false]
            cases as <;> rfl
          · intro b o e
            rw [upd_ne (ne_of_none e nD)]
            exact s4 _ _ (s3 _ _ e)
      rintro H3 ⟨acc, as, h1, h2, h3, h4, h5, s3⟩
      rw [rlen, List.take_length] at h5
      refine ⟨by decide, fun E1 nE => ?_⟩
      have sE := same_upd (o := .lst []) nE
      have hsh : SeqAt.shaped (.list (as.map wdat)) = true := rows_shaped hsm fun r hr => (hY r (h4 r hr)).1.lt
      refine ⟨_, _, .lst (.inl (.inl (sE _ _ h1))) (h2.same sE).dp, .lst sql_upd .nil, hsh, rfl, _, rfl, ?_⟩
      have ek : PyData.eqv (.list (as.map wdat)) (.list []) = rs.all fun r => sval (vl cs (bitsN cs.length i)) r := by
        rw [eqv_nil, List.isEmpty_map, h5]
      have hF3 := sE _ _ (s3 _ _ hF)
      have S3 := (s1.trans s3).trans sE
      have tf := take_filter (fun bs => rs.all fun r => sval (vl cs bs) r) (allW cs.length) i _ (allW_get hi)
      have flen : (wvs (((allW cs.length).take i).filter fun bs => rs.all fun r => sval (vl cs bs) r)).length ≤ 64 := by
        unfold wvs
        rw [List.length_map]
        refine Nat.le_trans (List.length_filter_le _ _) ?_
        rw [List.length_take]
        omega
      refine ite2 (fun e => ?_) (fun e => ?_)
      · rw [ek] at e
        refine ⟨_, rfl, .inl ⟨rfl, _, .inl (.inl hF3)⟩, _, rfl, F, _, _, rfl, rfl, hF3, ?_, ?_⟩
        · exact Nat.lt_of_le_of_lt flen (by decide)
        · refine ⟨_, _, _, _, _, rfl, ?_, fun b o e => ?_⟩
          · rw [upd_same, tf, e]
            unfold wvs
            rw [List.map_append]
            rfl
          · rw [upd_ne (ne_of_none e nF)]
            exact S3 _ _ e
      · rw [ek] at e
        have e : (rs.all fun r => sval (vl cs (bitsN cs.length i)) r) = false := by simpa using e
        refine ⟨_, _, _, _, _, rfl, ?_, S3⟩
        rw [tf, e]
        simp only [Bool.false_eq_true, if_false, List.append_nil]
        exact hF3
    · rintro σ H1 ⟨x4, x5, x6, x7, x8, rfl, hF, s1⟩
      rw [Int.toNat_natCast, List.take_of_length_le (by rw [allW_length]; exact Nat.le_refl _)] at hF
      exact ⟨_, rfl, F, _, rfl, .inl ⟨.inl (.inl hF), fun p np => q _ p sqt_upd (s1.trans (same_upd np))⟩⟩
end
end B

namespace B
open PySem PySem.Spec PyProof.Rows L2

def sp_l_no_fraction (K : PySem.W.Frag) : Sp := fun vs H Q _ => ∃ (d : Dr) (b : Nat), vs = [.ref d.dr] ∧ Drw H d (b + 1) ∧ ∀ (H' : Hp) (v : V) (dd : PyData), Th K (offD d H') v dd → isFr dd = false → Drw H' d b → Kp d H H' → Q v H'

section
variable {P : Program} {w : World} {K : PySem.W.Frag} {mg : Str → Option Value} {base : Heap}
theorem ok_l_no_fraction (T : Tx K mg w) (U : Unl P base) : FnOk P w K mg base CX0 36 T.l_no_fraction.f T.l_no_fraction.fd ["_law_drawn"] (sp_l_no_fraction K) := by
  refine T.l_no_fraction.F.ok sc_l_no_fraction (fun vs H Q E h => ?_) (fun cdv A outer s H vs Q E hr h => ?_)
  · obtain ⟨d, b, rfl, hD, q⟩ := h
    rfl
  · obtain ⟨d, b, rfl, hD, q⟩ := h
    refine ⟨_, (pss_cons (ps_set (i := 1) sc_l_no_fraction.nd rfl (.inl rfl) (pe_lst (pa_cons (pe_tup (pa_cons pe_int (pa_cons pe_int pa_nil))) (pa_cons (pe_tup (pa_cons pe_int (pa_cons pe_int pa_nil))) (pa_cons (pe_tup (pa_cons pe_int (pa_cons pe_int pa_nil))) (pa_cons (pe_tup (pa_cons pe_int (pa_cons (pe_un un_neg pe_int) pa_nil))) (pa_cons (pe_tup (pa_cons pe_bl (pa_cons pe_int pa_nil))) (pa_cons (pe_tup (pa_cons pe_int (pa_cons pe_bl pa_nil))) (pa_cons pe_int (pa_cons pe_non (pa_cons (pe_lst (pa_cons pe_int (pa_cons pe_int pa_nil))) (pa_cons (pe_tup (pa_cons pe_int (pa_cons pe_int (pa_cons pe_int pa_nil)))) (pa_cons (pe_tup (pa_cons (pe_un un_neg pe_int) (pa_cons pe_int pa_nil))) (pa_cons pe_str pa_nil))))))))))))))
      (pss_one (ps_ret (pe_ix ix_list (pv 1) (pe_call (ok_l_next T U) (hr.mono (by decide)) (by rfl) T.l_next.g T.l_next.F.kp T.l_next.b .nil pass0 (pa_cons (pv 0) (pa_cons (pe_callB call_len_seq (by rfl) T.m_len (by decide +kernel) (pa_cons (pv 1) pa_nil)) pa_nil))) (fun _ _ => rfl))))), ?_⟩
    refine ⟨by show 2 ≤ sizeLine; decide, fun a1 n1 => ⟨by show 2 ≤ sizeLine; decide, fun a2 n2 => ⟨by show 2 ≤ sizeLine; decide, fun a3 n3 => ⟨1, rfl, by show 2 ≤ sizeLine; decide, fun a4 n4 => ⟨by show 2 ≤ sizeLine; decide, fun a5 n5 => ⟨by show 2 ≤ sizeLine; decide, fun a6 n6 => ?_⟩⟩⟩⟩⟩⟩
    have s1 := same_upd (o := .tup [.int 2, .int 4]) n1
    have s2 := same_upd (o := .tup [.int 1, .int 0]) n2
    have s3 := same_upd (o := .tup [.int 0, .int 2]) n3
    have s4 := same_upd (o := .tup [.int 1, .int (-1)]) n4
    have s5 := same_upd (o := .tup [.bl true, .int 1]) n5
    have s6 := same_upd (o := .tup [.int 1, .bl true]) n6
    refine ⟨by show 2 ≤ sizeLine; decide, fun a7 n7 => ⟨by show 3 ≤ sizeLine; decide, fun a8 n8 => ⟨6, rfl, by show 2 ≤ sizeLine; decide, fun a9 n9 => ⟨by show 12 ≤ sizeLine; decide, fun A nA => ?_⟩⟩⟩⟩
    have s7 := same_upd (o := .lst [.int 1, .int 1]) n7
    have s8 := same_upd (o := .tup [.int 1, .int 1, .int 1]) n8
    have s9 := same_upd (o := .tup [.int (-6), .int 3]) n9
    have sA := same_upd (o := .lst [.ref a1, .ref a2, .ref a3, .ref a4, .ref a5, .ref a6, .int 1, .non, .ref a7, .ref a8, .ref a9, .str "1"]) nA
    have u9 := s9.trans sA
    have u8 := s8.trans u9
    have u7 := s7.trans u8
    have u6 := s6.trans u7
    have u5 := s5.trans u6
    have u4 := s4.trans u5
    have u3 := s3.trans u4
    have u2 := s2.trans u3
    have U := s1.trans u2
    have wA := hD.same U
    have w6 := hD.same (s1.trans (s2.trans (s3.trans (s4.trans (s5.trans s6)))))
    have w9 := hD.same (s1.trans (s2.trans (s3.trans (s4.trans (s5.trans (s6.trans (s7.trans (s8.trans s9))))))))
    have nA1 := w9.no nA
    refine ⟨_, rfl, _, rfl, _, rfl, A, _, rfl, .inl (.inl (.inl upd_same)), ?_⟩
    refine ⟨d, b, 12, rfl, by decide, by decide, wA, fun H2 r r0 r1 w2 k2 => ?_⟩
    obtain ⟨i, rfl⟩ := Int.eq_ofNat_of_zero_le r0
    have T : Tk K (tgt sA) (offD d H2) := fun _ _ t => off_tup w2 (Kp.tup k2 wA t)
    have h7 : offD d H2 a7 = some (.lst [.int 1, .int 1]) := offD_kp k2 _ _ (offD_same u8 _ _ (off_at w6 n7))
    obtain ⟨v, dd, hat, hT, hF⟩ : ∃ v dd, atI [V.ref a1, .ref a2, .ref a3, .ref a4, .ref a5, .ref a6, .int 1, .non, .ref a7, .ref a8, .ref a9, .str "1"] (i : Int) = some v ∧ Th K (offD d H2) v dd ∧ isFr dd = false := by
      have ic : i = 0 ∨ i = 1 ∨ i = 2 ∨ i = 3 ∨ i = 4 ∨ i = 5 ∨ i = 6 ∨ i = 7 ∨ i = 8 ∨ i = 9 ∨ i = 10 ∨ i = 11 := by omega
      rcases ic with rfl | rfl | rfl | rfl | rfl | rfl | rfl | rfl | rfl | rfl | rfl | rfl
      · exact ⟨_, _, rfl, .tup (T _ _ (Same.tup u2 sqt_upd)) (.cons (.int 2) (.cons (.int 4) .nil)), by decide +kernel⟩
      · exact ⟨_, _, rfl, .tup (T _ _ (Same.tup u3 sqt_upd)) (.cons (.int 1) (.cons (.int 0) .nil)), by decide +kernel⟩
      · exact ⟨_, _, rfl, .tup (T _ _ (Same.tup u4 sqt_upd)) (.cons (.int 0) (.cons (.int 2) .nil)), by decide +kernel⟩
      · exact ⟨_, _, rfl, .tup (T _ _ (Same.tup u5 sqt_upd)) (.cons (.int 1) (.cons (.int (-1)) .nil)), by decide +kernel⟩
      · exact ⟨_, _, rfl, .tup (T _ _ (Same.tup u6 sqt_upd)) (.cons (.bl true) (.cons (.int 1) .nil)), by decide +kernel⟩
      · exact ⟨_, _, rfl, .tup (T _ _ (Same.tup u7 sqt_upd)) (.cons (.int 1) (.cons (.bl true) .nil)), by decide +kernel⟩
      · exact ⟨_, _, rfl, .int 1, by decide +kernel⟩
      · exact ⟨_, _, rfl, .non, by decide +kernel⟩
      · exact ⟨_, _, rfl, .lst (.inl (.inl h7)) (.cons (.int 1) (.cons (.int 1) .nil)), by decide +kernel⟩
      · exact ⟨_, _, rfl, .tup (T _ _ (Same.tup u9 sqt_upd)) (.cons (.int 1) (.cons (.int 1) (.cons (.int 1) .nil))), by decide +kernel⟩
      · exact ⟨_, _, rfl, .tup (T _ _ (Same.tup sA sqt_upd)) (.cons (.int (-6)) (.cons (.int 3) .nil)), by decide +kernel⟩
      · exact ⟨_, _, rfl, .str "1", by decide +kernel⟩
    exact ⟨A, _, (i : Int), v, rfl, rfl, .inl (.inl (k2 _ _ upd_same nA1.1 nA1.2)), hat, q _ v dd hT hF w2 ((Same.kp U).trans k2)⟩
end
end B

namespace B
open PySem PySem.Spec PyProof.Rows L2

def sp_l_least (K : PySem.W.Frag) : Sp := fun vs H Q _ => ∃ (a : Addr) (us : List V) (l : List (Int × Nat)), vs = [.ref a] ∧ H a = some (.lst us) ∧ F2 (FAt K H) us l ∧ l.length ≤ 1000 ∧ (∀ p ∈ l, Fok 400000 p) ∧ ∀ H', Same H H' → Q (.int (bestI l l.length : Nat)) H'

section
variable {P : Program} {w : World} {K : PySem.W.Frag} {mg : Str → Option Value} {base : Heap}
theorem ok_l_least (T : Tx K mg w) (U : Unl P base) : FnOk P w K mg base CX0 36 T.l_least.f T.l_least.fd ["_law_row"] (sp_l_least K) := by
  refine T.l_least.F.ok sc_l_least (fun vs H Q E h => ?_) (fun cdv A outer s H vs Q E hr h => ?_)
  · obtain ⟨a, us, l, rfl, hA, fA, hl, hF, q⟩ := h
    rfl
  · obtain ⟨a, us, l, rfl, hA, fA, hl, hF, q⟩ := h
    refine ⟨_, (pss_cons (ps_set (i := 1) sc_l_least.nd rfl (.inl rfl) pe_int)
      (pss_cons (ps_for PassesOwn.never rfl (pi_range1 (by rfl) T.m_range (pa_cons (pe_callB call_len_seq (by rfl) T.m_len (by decide +kernel) (pa_cons (pv 0) pa_nil)) pa_nil)) (pg_name (i := 2) sc_l_least.nd rfl (.inl rfl))
      (pss_one (ps_if (pt_val (pe_call (ok_l_less T U) (hr.mono (by decide)) (by rfl) T.l_less.g T.l_less.F.kp T.l_less.b .nil pass0 (pa_cons (pe_ix ix_list (pv 0) (pv 2) (fun _ _ => rfl)) (pa_cons (pe_ix ix_list (pv 0) (pv 1) (fun _ _ => rfl)) pa_nil)))) (pss_one (ps_set (i := 1) sc_l_least.nd rfl (.inl rfl) (pv 2))) pss_nil)))
      (pss_one (ps_ret (pv 1))))), ?_⟩
    have lu := fA.len
    refine ⟨_, rfl, a, _, rfl, .inl (.inl (.inl hA)), (us.length : Int), rfl, by omega, by omega, for_range (lo := 0) (n := ((us.length : Nat) : Int).toNat) (fun i σ H' => ∃ (x2 : Option V), σ = [some (.ref a), some (.int (bestI l i : Nat)), x2] ∧ Same H H') ⟨none, rfl, Same.refl _⟩ ?_ ?_⟩
    · rintro i σ H1 hi ⟨x2, rfl, s1⟩
      rw [Int.toNat_natCast] at hi
      have fA1 := fas_tk fA (Same.tk s1)
      have hA1 := s1 _ _ hA
      have bl := bestI_le l i
      have g1 := List.getElem?_eq_getElem (l := l) (i := i) (by omega)
      have g2 := List.getElem?_eq_getElem (l := l) (i := bestI l i) (by omega)
      have e1 : l.getD i (0, 1) = l[i]'(by omega) := by rw [List.getD_eq_getElem?_getD, g1]; rfl
      have e2 : l.getD (bestI l i) (0, 1) = l[bestI l i]'(by omega) := by rw [List.getD_eq_getElem?_getD, g2]; rfl
      obtain ⟨v1, h1, f1, rfl, t1⟩ := fA1.getB g1
      obtain ⟨v2, h2, f2, rfl, t2⟩ := fA1.getB g2
      have o1 := hF _ (List.mem_of_getElem? g1)
      have o2 := hF _ (List.mem_of_getElem? g2)
      refine ⟨_, rfl, _, rfl, a, us, (0 + (i : Int)), .ref f1, rfl, rfl, .inl (.inl hA1), by rw [Int.zero_add]; exact atI_nat h1, _, rfl, _, rfl, a, us, (bestI l i : Int), .ref f2, rfl, rfl, .inl (.inl hA1), atI_nat h2, f1, f2, _, _, _, _, rfl, t1, t2, o1.z, o2.z, _, rfl, ?_⟩
      have eb := bestI_succ l i
      rw [e1, e2] at eb
      refine ite2 (fun e => ?_) (fun e => ?_)
      · have e : ltF (l[i]'(by omega)) (l[bestI l i]'(by omega)) = true := e
        rw [if_pos e] at eb
        refine ⟨_, rfl, some (.int (0 + (i : Int))), ?_, s1⟩
        rw [eb, Int.zero_add]
        rfl
      · have e : ¬ ltF (l[i]'(by omega)) (l[bestI l i]'(by omega)) = true := e
        rw [if_neg e] at eb
        refine ⟨some (.int (0 + (i : Int))), ?_, s1⟩
        rw [eb]
        rfl
    · rintro σ H1 ⟨x2, rfl, s1⟩
      rw [Int.toNat_natCast, lu]
      exact ⟨_, rfl, q _ s1⟩
end
end B

namespace B
open PySem PySem.Spec PyProof.Rows L2

def sp_l_stake (K : PySem.W.Frag) : Sp := fun vs H Q _ => ∃ (d : Dr) (b : Nat), vs = [.ref d.dr] ∧ Drw H d (b + 2) ∧ ∀ (H' : Hp) (r : Addr) (p : Int × Nat), SqT K H' r [.int p.1, .int p.2] → Fb 60 10 p → 0 < p.1 → Drw H' d b → Kp d H H' → Q (.ref r) H'

section
variable {P : Program} {w : World} {K : PySem.W.Frag} {mg : Str → Option Value} {base : Heap}
theorem ok_l_stake (T : Tx K mg w) (U : Unl P base) : FnOk P w K mg base CX0 36 T.l_stake.f T.l_stake.fd ["_law_drawn"] (sp_l_stake K) := by
  refine T.l_stake.F.ok sc_l_stake (fun vs H Q E h => ?_) (fun cdv A outer s H vs Q E hr h => ?_)
  · obtain ⟨d, b, rfl, hD, q⟩ := h
    rfl
  · obtain ⟨d, b, rfl, hD, q⟩ := h
    refine ⟨_, (pss_one (ps_ret (pe_call (ok_l_lowest T U) (hr.mono (by decide)) (by rfl) T.l_lowest.g T.l_lowest.F.kp T.l_lowest.b .nil pass0 (pa_cons (pe_op op_add pe_int (pe_call (ok_l_next T U) (hr.mono (by decide)) (by rfl) T.l_next.g T.l_next.F.kp T.l_next.b .nil pass0 (pa_cons (pv 0) (pa_cons pe_int pa_nil)))) (pa_cons (pe_op op_add pe_int (pe_call (ok_l_next T U) (hr.mono (by decide)) (by rfl) T.l_next.g T.l_next.F.kp T.l_next.b .nil pass0 (pa_cons (pv 0) (pa_cons pe_int pa_nil)))) pa_nil))))), ?_⟩
    refine ⟨_, rfl, d, b + 1, 9, rfl, by decide, by decide, hD, fun H1 r r0 r1 w1 k1 => ⟨_, _, rfl, rfl, ?_⟩⟩
    refine ⟨_, rfl, d, b, 6, rfl, by decide, by decide, w1, fun H2 r' r0' r1' w2 k2 => ⟨_, _, rfl, rfl, ?_⟩⟩
    obtain ⟨i, rfl⟩ := Int.eq_ofNat_of_zero_le r0
    obtain ⟨j, rfl⟩ := Int.eq_ofNat_of_zero_le r0'
    refine ⟨1 + (i : Int), 1 + j, by rw [Int.natCast_add]; rfl, by omega, Nat.lt_of_lt_of_le (show 1 + j < 2 ^ 5 by omega) (Nat.pow_le_pow_right (by decide) (by decide)), fun p np => ?_⟩
    have s3 := same_upd (o := .tup [.int (lowT (1 + (i : Int)) (1 + j : Nat)), .int (lowBn (1 + (i : Int)) (1 + j))]) np
    have h0 : 0 < 1 + j := by omega
    have f : IsF (lowT (1 + (i : Int)) (1 + j : Nat)) (lowBn (1 + (i : Int)) (1 + j)) := low_isF h0
    have c := low_cross2 (t := 1 + (i : Int)) h0
    have b0 : 0 < lowBn (1 + (i : Int)) (1 + j) := f.1
    have db : lowBn (1 + (i : Int)) (1 + j) ∣ 1 + j := lowBn_dvd h0
    have p0 : 0 < lowT (1 + (i : Int)) (1 + j : Nat) := by
      rcases Int.lt_or_le 0 (lowT (1 + (i : Int)) (1 + j : Nat)) with z | z
      · exact z
      · exfalso
        have h1 : lowT (1 + (i : Int)) (1 + j : Nat) * ((1 + j : Nat) : Int) ≤ 0 := Int.mul_nonpos_of_nonpos_of_nonneg z (by omega)
        have h2 : 0 < (1 + (i : Int)) * (lowBn (1 + (i : Int)) (1 + j) : Int) := Int.mul_pos (by omega) (by omega)
        omega
    refine q _ p (lowT (1 + (i : Int)) (1 + j : Nat), lowBn (1 + (i : Int)) (1 + j)) sqt_upd ⟨f, Nat.dvd_trans db ?_, ?_⟩ p0 (w2.same s3) (k1.trans (k2.trans (Same.kp s3)))
    · have : j < 6 := by omega
      have : j = 0 ∨ j = 1 ∨ j = 2 ∨ j = 3 ∨ j = 4 ∨ j = 5 := by omega
      rcases this with rfl | rfl | rfl | rfl | rfl | rfl <;> decide
    · have := lowT_abs (t := 1 + (i : Int)) (b := ((1 + j : Nat) : Int)) (by omega)
      refine Nat.le_trans this (Nat.le_trans (show (1 + (i : Int)).natAbs ≤ 10 by omega) ?_)
      exact Nat.le_mul_of_pos_right _ b0
end
end B

namespace B
open PySem PySem.Spec PyProof.Rows L2

def sp_l_place (K : PySem.W.Frag) : Sp := fun vs H Q _ => ∃ (d : Dr) (b : Nat), vs = [.ref d.dr] ∧ Drw H d (b + 2) ∧ ∀ (H' : Hp) (p : Addr) (cs : List Nat) (rs : List (List Wd)), HsAt K H' p cs rs → HsOk cs rs → Ls 6 cs → cs.length ≤ 3 → wor cs rs ≠ [] → rs.length ≤ 1 → (∀ r ∈ rs, r.length ≤ 3) → Drw H' d b → Kp d H H' → Q (.ref p) H'

section
variable {P : Program} {w : World} {K : PySem.W.Frag} {mg : Str → Option Value} {base : Heap}
theorem ok_l_place (T : Tx K mg w) (U : Unl P base) : FnOk P w K mg base CX0 36 T.l_place.f T.l_place.fd ["_law_drawn"] (sp_l_place K) := by
  refine T.l_place.F.ok sc_l_place (fun vs H Q E h => ?_) (fun cdv A outer s H vs Q E hr h => ?_)
  · obtain ⟨d, b, rfl, hD, q⟩ := h
    rfl
  · obtain ⟨d, b, rfl, hD, q⟩ := h
    refine ⟨_, (pss_cons (ps_set (i := 1) sc_l_place.nd rfl (.inl rfl) (pe_ix ix_list (pe_lst (pa_cons pe_str (pa_cons pe_str (pa_cons pe_str (pa_cons pe_str (pa_cons pe_str (pa_cons pe_str (pa_cons pe_str (pa_cons pe_str pa_nil))))))))) (pe_call (ok_l_next T U) (hr.mono (by decide)) (by rfl) T.l_next.g T.l_next.F.kp T.l_next.b .nil pass0 (pa_cons (pv 0) (pa_cons pe_int pa_nil))) (fun _ _ => rfl)))
      (pss_cons (ps_set (i := 2) sc_l_place.nd rfl (.inl rfl) (pe_lst (pa_cons (pe_tup pa_nil) (pa_cons (pe_tup (pa_cons (pe_tup (pa_cons pe_str pa_nil)) pa_nil)) (pa_cons (pe_tup (pa_cons (pe_tup (pa_cons (pe_ix ix_str (pv 1) pe_int (fun _ _ => rfl)) (pa_cons pe_str pa_nil))) pa_nil)) (pa_cons (pe_tup (pa_cons (pe_tup (pa_cons (pe_ix ix_str (pv 1) pe_int (fun _ _ => rfl)) (pa_cons (pe_ix ix_str (pv 1) (pe_un un_neg pe_int) (fun _ _ => rfl)) (pa_cons pe_str pa_nil)))) pa_nil)) pa_nil))))))
      (pss_one (ps_ret (pe_tup (pa_cons (pv 1) (pa_cons (pe_ix ix_list (pv 2) (pe_call (ok_l_next T U) (hr.mono (by decide)) (by rfl) T.l_next.g T.l_next.F.kp T.l_next.b .nil pass0 (pa_cons (pv 0) (pa_cons pe_int pa_nil))) (fun _ _ => rfl)) pa_nil))))))), ?_⟩
    refine ⟨by show 8 ≤ sizeLine; decide, fun L nL => ?_⟩
    have sL := same_upd (o := .lst [.str "a", .str "z", .str "bc", .str "no", .str "or", .str "axy", .str "egz", .str "lsw"]) nL
    have nL1 := hD.no nL
    refine ⟨_, rfl, d, b + 1, 8, rfl, by decide, by decide, hD.same sL, fun H1 r r0 r1 w1 k1 => ?_⟩
    obtain ⟨j, rfl⟩ := Int.eq_ofNat_of_zero_le r0
    obtain ⟨cs, c0, cl, hix, hp⟩ : ∃ cs c0 cl, atI [V.str "a", .str "z", .str "bc", .str "no", .str "or", .str "axy", .str "egz", .str "lsw"] (j : Int) = some (.str (tx cs)) ∧ Plc cs c0 cl := by
      have : j = 0 ∨ j = 1 ∨ j = 2 ∨ j = 3 ∨ j = 4 ∨ j = 5 ∨ j = 6 ∨ j = 7 := by omega
      rcases this with rfl | rfl | rfl | rfl | rfl | rfl | rfl | rfl
      · exact ⟨[97], 97, 97, rfl, plc_of (by decide +kernel)⟩
      · exact ⟨[122], 122, 122, rfl, plc_of (by decide +kernel)⟩
      · exact ⟨[98, 99], 98, 99, rfl, plc_of (by decide +kernel)⟩
      · exact ⟨[110, 111], 110, 111, rfl, plc_of (by decide +kernel)⟩
      · exact ⟨[111, 114], 111, 114, rfl, plc_of (by decide +kernel)⟩
      · exact ⟨[97, 120, 121], 97, 121, rfl, plc_of (by decide +kernel)⟩
      · exact ⟨[101, 103, 122], 101, 122, rfl, plc_of (by decide +kernel)⟩
      · exact ⟨[108, 115, 119], 108, 119, rfl, plc_of (by decide +kernel)⟩
    refine ⟨L, _, (j : Int), .str (tx cs), rfl, rfl, .inl (.inl (k1 _ _ upd_same nL1.1 nL1.2)), hix, ?_⟩
    have z3 := hp.l3
    have sz : (tx cs).length ≤ sizeLine := Nat.le_trans (show cs.length ≤ 3 from z3) (by decide)
    refine ⟨by show 0 ≤ sizeLine; decide, fun a1 n1 => ?_⟩
    have s1 := same_upd (o := .tup []) n1
    refine ⟨by show 1 ≤ sizeLine; decide, fun a2 n2 => ?_⟩
    have s2 := same_upd (o := .tup [.str "yes"]) n2
    refine ⟨by show 1 ≤ sizeLine; decide, fun a3 n3 => ?_⟩
    have s3 := same_upd (o := .tup [.ref a2]) n3
    refine ⟨_, rfl, tx cs, 0, c0, rfl, rfl, sz, hp.a0, by show 2 ≤ sizeLine; decide, fun a4 n4 => ?_⟩
    have s4 := same_upd (o := .tup [.str (sg c0), .str "not"]) n4
    refine ⟨by show 1 ≤ sizeLine; decide, fun a5 n5 => ?_⟩
    have s5 := same_upd (o := .tup [.ref a4]) n5
    refine ⟨_, rfl, tx cs, 0, c0, rfl, rfl, sz, hp.a0, _, rfl, 1, rfl, tx cs, -1, cl, rfl, rfl, sz, hp.al, by show 3 ≤ sizeLine; decide, fun a6 n6 => ?_⟩
    have s6 := same_upd (o := .tup [.str (sg c0), .str (sg cl), .str "or"]) n6
    refine ⟨by show 1 ≤ sizeLine; decide, fun a7 n7 => ?_⟩
    have s7 := same_upd (o := .tup [.ref a6]) n7
    refine ⟨by show 4 ≤ sizeLine; decide, fun R nR => ?_⟩
    have s8 := same_upd (o := .lst [.ref a1, .ref a3, .ref a5, .ref a7]) nR
    have S4 := s4.trans (s5.trans (s6.trans (s7.trans s8)))
    have S1 := s1.trans (s2.trans (s3.trans S4))
    have w8 := w1.same S1
    have nR1 := (w1.same (s1.trans (s2.trans (s3.trans (s4.trans (s5.trans (s6.trans s7))))))).no nR
    refine ⟨_, rfl, _, rfl, _, rfl, d, b, 4, rfl, by decide, by decide, w8, fun H9 r' r0' r1' w9 k9 => ?_⟩
    obtain ⟨i, rfl⟩ := Int.eq_ofNat_of_zero_le r0'
    have T9 : Tk K (tgt s8) H9 := fun _ _ t => Kp.tup k9 w8 t
    obtain ⟨ra, rvs, rs, hix2, tr, fr, hsy, hw, hl⟩ : ∃ ra rvs rs, atI [V.ref a1, .ref a3, .ref a5, .ref a7] (i : Int) = some (.ref ra) ∧ SqT K H9 ra rvs ∧ Rws K H9 rvs rs ∧ (∀ r ∈ rs, Sy cs r ∧ r.length ≤ 3) ∧ wor cs rs ≠ [] ∧ rs.length ≤ 1 := by
      have one : ∀ {r : List Wd}, Sy cs r → r.length ≤ 3 → ∀ x ∈ [r], Sy cs x ∧ x.length ≤ 3 := fun y l x hx => by rw [List.mem_singleton.mp hx]; exact ⟨y, l⟩
      have : i = 0 ∨ i = 1 ∨ i = 2 ∨ i = 3 := by omega
      rcases this with rfl | rfl | rfl | rfl
      · exact ⟨a1, _, [], rfl, T9 _ _ (Same.tup (s2.trans (s3.trans S4)) sqt_upd), trivial, nofun, hp.w.1, by decide⟩
      · exact ⟨a3, _, [[.yes]], rfl, T9 _ _ (Same.tup S4 sqt_upd), Rws.one (T9 _ _ (Same.tup (s3.trans S4) sqt_upd)), one Sy.yes (by decide), hp.w.2.1, Nat.le_refl 1⟩
      · exact ⟨a5, _, [[.lt c0, .nt]], rfl, T9 _ _ (Same.tup (s6.trans (s7.trans s8)) sqt_upd), Rws.one (T9 _ _ (Same.tup (s5.trans (s6.trans (s7.trans s8))) sqt_upd)), one (Sy.leaf hp.m0).not (by show 2 ≤ 3; decide), hp.w.2.2.1, Nat.le_refl 1⟩
      · exact ⟨a7, _, [[.lt c0, .lt cl, .orr]], rfl, T9 _ _ (Same.tup s8 sqt_upd), Rws.one (T9 _ _ (Same.tup (s7.trans s8) sqt_upd)), one ((Sy.leaf hp.m0).join (Sy.leaf hp.ml) .orr) (by show 3 ≤ 3; decide), hp.w.2.2.2, Nat.le_refl 1⟩
    refine ⟨R, _, (i : Int), .ref ra, rfl, rfl, .inl (.inl (k9 _ _ upd_same nR1.1 nR1.2)), hix2, by show 2 ≤ sizeLine; decide, fun hh nh => ?_⟩
    have s10 := same_upd (o := .tup [.str (tx cs), .ref ra]) nh
    exact q _ hh cs rs ⟨ra, rvs, sqt_upd, Same.tup s10 tr, fr.same s10⟩ ⟨by omega, fun c hc => (hp.ls.small c hc).2, fun r hr => ⟨(hsy r hr).1, by have := (hsy r hr).2; omega⟩, by omega⟩ hp.ls z3 hw hl (fun r hr => (hsy r hr).2) (w9.same s10) ((Same.kp sL).trans (k1.trans ((Same.kp S1).trans (k9.trans (Same.kp s10)))))
end
end B

namespace B
open PySem PySem.Spec PyProof.Rows L2

def sp_l_simple (K : PySem.W.Frag) : Sp := fun vs H Q _ => ∃ (d : Dr) (b : Nat) (cs : List Nat), vs = [.ref d.dr, .str (tx cs)] ∧ 1 ≤ cs.length ∧ cs.length ≤ 6 ∧ Drw H d (b + 3) ∧ ∀ (H' : Hp) (p : Addr) (u : List Wd), SqT K H' p (u.map wv) → Sy cs u → u.length ≤ 4 → Drw H' d b → Kp d H H' → Q (.ref p) H'

section
variable {P : Program} {w : World} {K : PySem.W.Frag} {mg : Str → Option Value} {base : Heap}
theorem ok_l_simple (T : Tx K mg w) (U : Unl P base) : FnOk P w K mg base CX0 36 T.l_simple.f T.l_simple.fd ["_law_drawn", "_law_letters"] (sp_l_simple K) := by
  refine T.l_simple.F.ok sc_l_simple (fun vs H Q E h => ?_) (fun cdv A outer s H vs Q E hr h => ?_)
  · obtain ⟨d, b, cs, rfl, c1, c6, hD, q⟩ := h
    rfl
  · obtain ⟨d, b, cs, rfl, c1, c6, hD, q⟩ := h
    refine ⟨_, (pss_cons (ps_set (i := 2) sc_l_simple.nd rfl (.inl rfl) (pe_ix ix_str (pv 1) (pe_call (ok_l_next T U) (hr.mono (by decide)) (by rfl) T.l_next.g T.l_next.F.kp T.l_next.b .nil pass0 (pa_cons (pv 0) (pa_cons (pe_callB call_len_str (by rfl) T.m_len (by decide +kernel) (pa_cons (pv 1) pa_nil)) pa_nil))) (fun _ _ => rfl)))
      (pss_cons (ps_set (i := 3) sc_l_simple.nd rfl (.inl rfl) (pe_ix ix_str (pv 1) (pe_call (ok_l_next T U) (hr.mono (by decide)) (by rfl) T.l_next.g T.l_next.F.kp T.l_next.b .nil pass0 (pa_cons (pv 0) (pa_cons (pe_callB call_len_str (by rfl) T.m_len (by decide +kernel) (pa_cons (pv 1) pa_nil)) pa_nil))) (fun _ _ => rfl)))
      (pss_cons (ps_set (i := 4) sc_l_simple.nd rfl (.inl rfl) (pe_lst (pa_cons (pe_tup (pa_cons (pv 2) pa_nil)) (pa_cons (pe_tup (pa_cons (pv 2) (pa_cons pe_str pa_nil))) (pa_cons (pe_tup (pa_cons (pv 2) (pa_cons (pv 3) (pa_cons pe_str pa_nil)))) (pa_cons (pe_tup (pa_cons (pv 2) (pa_cons (pv 3) (pa_cons pe_str pa_nil)))) (pa_cons (pe_tup (pa_cons (pv 2) (pa_cons (pv 3) (pa_cons pe_str (pa_cons pe_str pa_nil))))) (pa_cons (pe_tup (pa_cons pe_str pa_nil)) pa_nil))))))))
      (pss_one (ps_ret (pe_ix ix_list (pv 4) (pe_call (ok_l_next T U) (hr.mono (by decide)) (by rfl) T.l_next.g T.l_next.F.kp T.l_next.b .nil pass0 (pa_cons (pv 0) (pa_cons pe_int pa_nil))) (fun _ _ => rfl))))))), ?_⟩
    have sz : (tx cs).length ≤ sizeLine := Nat.le_trans (show cs.length ≤ 6 from c6) (by decide)
    have lb : ((tx cs).length : Int) = (cs.length : Int) := rfl
    refine ⟨_, rfl, _, rfl, _, rfl, tx cs, rfl, sz, d, b + 2, (cs.length : Int), rfl, by omega, by show cs.length < _; exact Nat.lt_of_le_of_lt (show cs.length ≤ 6 by omega) (by decide), hD, fun H1 r r0 r1 w1 k1 => ?_⟩
    obtain ⟨i, rfl⟩ := Int.eq_ofNat_of_zero_le r0
    have g1 := List.getElem?_eq_getElem (l := cs) (i := i) (by omega)
    have m1 := List.mem_of_getElem? g1
    generalize cs[i] = c at g1 m1
    refine ⟨tx cs, (i : Int), c, rfl, rfl, sz, by rw [tx_list]; exact atI_nat g1, ?_⟩
    refine ⟨_, rfl, _, rfl, _, rfl, tx cs, rfl, sz, d, b + 1, (cs.length : Int), rfl, by omega, by show cs.length < _; exact Nat.lt_of_le_of_lt (show cs.length ≤ 6 by omega) (by decide), w1, fun H2 r' r0' r1' w2 k2 => ?_⟩
    obtain ⟨j, rfl⟩ := Int.eq_ofNat_of_zero_le r0'
    have g2 := List.getElem?_eq_getElem (l := cs) (i := j) (by omega)
    have m2 := List.mem_of_getElem? g2
    generalize cs[j] = e at g2 m2
    refine ⟨tx cs, (j : Int), e, rfl, rfl, sz, by rw [tx_list]; exact atI_nat g2, ?_⟩
    refine ⟨_, rfl, by show 1 ≤ sizeLine; decide, fun a1 n1 => ?_⟩
    have s1 := same_upd (o := .tup [.str (sg c)]) n1
    refine ⟨_, rfl, by show 2 ≤ sizeLine; decide, fun a2 n2 => ?_⟩
    have s2 := same_upd (o := .tup [.str (sg c), .str "not"]) n2
    refine ⟨_, rfl, _, rfl, by show 3 ≤ sizeLine; decide, fun a3 n3 => ?_⟩
    have s3 := same_upd (o := .tup [.str (sg c), .str (sg e), .str "and"]) n3
    refine ⟨_, rfl, _, rfl, by show 3 ≤ sizeLine; decide, fun a4 n4 => ?_⟩
    have s4 := same_upd (o := .tup [.str (sg c), .str (sg e), .str "or"]) n4
    refine ⟨_, rfl, _, rfl, by show 4 ≤ sizeLine; decide, fun a5 n5 => ?_⟩
    have s5 := same_upd (o := .tup [.str (sg c), .str (sg e), .str "same", .str "not"]) n5
    refine ⟨by show 1 ≤ sizeLine; decide, fun a6 n6 => ?_⟩
    have s6 := same_upd (o := .tup [.str "yes"]) n6
    refine ⟨by show 6 ≤ sizeLine; decide, fun L nL => ?_⟩
    have s7 := same_upd (o := .lst [.ref a1, .ref a2, .ref a3, .ref a4, .ref a5, .ref a6]) nL
    have S3 := s3.trans (s4.trans (s5.trans (s6.trans s7)))
    have w7 := w2.same (s1.trans (s2.trans S3))
    have nL1 := (w2.same (s1.trans (s2.trans (s3.trans (s4.trans (s5.trans s6)))))).no nL
    refine ⟨_, rfl, _, rfl, d, b, 6, rfl, by decide, by decide, w7, fun H8 r'' r0'' r1'' w8 k8 => ?_⟩
    obtain ⟨k, rfl⟩ := Int.eq_ofNat_of_zero_le r0''
    have T8 : Tk K (tgt s7) H8 := fun _ _ t => Kp.tup k8 w7 t
    obtain ⟨p, u, hix, tp, yu, lu⟩ : ∃ p u, atI [V.ref a1, .ref a2, .ref a3, .ref a4, .ref a5, .ref a6] (k : Int) = some (.ref p) ∧ SqT K H8 p (u.map wv) ∧ Sy cs u ∧ u.length ≤ 4 := by
      have y1 : Sy cs [.lt c] := Sy.leaf m1
      have y2 : Sy cs [.lt e] := Sy.leaf m2
      have : k = 0 ∨ k = 1 ∨ k = 2 ∨ k = 3 ∨ k = 4 ∨ k = 5 := by omega
      rcases this with rfl | rfl | rfl | rfl | rfl | rfl
      · exact ⟨a1, [.lt c], rfl, T8 _ _ (Same.tup (s2.trans S3) sqt_upd), y1, by show 1 ≤ 4; decide⟩
      · exact ⟨a2, [.lt c, .nt], rfl, T8 _ _ (Same.tup S3 sqt_upd), y1.not, by show 2 ≤ 4; decide⟩
      · exact ⟨a3, [.lt c, .lt e, .an], rfl, T8 _ _ (Same.tup (s4.trans (s5.trans (s6.trans s7))) sqt_upd), y1.join y2 .an, by show 3 ≤ 4; decide⟩
      · exact ⟨a4, [.lt c, .lt e, .orr], rfl, T8 _ _ (Same.tup (s5.trans (s6.trans s7)) sqt_upd), y1.join y2 .orr, by show 3 ≤ 4; decide⟩
      · exact ⟨a5, [.lt c, .lt e, .sm, .nt], rfl, T8 _ _ (Same.tup (s6.trans s7) sqt_upd), (y1.join y2 .sm).not, by show 4 ≤ 4; decide⟩
      · exact ⟨a6, [.yes], rfl, T8 _ _ (Same.tup s7 sqt_upd), Sy.yes, by show 1 ≤ 4; decide⟩
    exact ⟨L, _, (k : Int), .ref p, rfl, rfl, .inl (.inl (k8 _ _ upd_same nL1.1 nL1.2)), hix, q _ p u tp yu lu w8 (k1.trans (k2.trans ((Same.kp (s1.trans (s2.trans S3))).trans k8)))⟩
end
end B

namespace B
open PySem PySem.Spec PyProof.Rows L2

def sp_l_two (K : PySem.W.Frag) : Sp := fun vs H Q _ => ∃ (d : Dr) (b n : Nat), vs = [.ref d.dr, .int n] ∧ 2 ≤ n ∧ n ≤ 100 ∧ Drw H d (b + 2) ∧ ∀ (H' : Hp) (r : Addr) (l s : Nat), SqT K H' r [.int l, .int s] → l < n → s < n → l ≠ s → Drw H' d b → Kp d H H' → Q (.ref r) H'

section
variable {P : Program} {w : World} {K : PySem.W.Frag} {mg : Str → Option Value} {base : Heap}
theorem ok_l_two (T : Tx K mg w) (U : Unl P base) : FnOk P w K mg base CX0 36 T.l_two.f T.l_two.fd ["_law_drawn", "_law_holders"] (sp_l_two K) := by
  refine T.l_two.F.ok sc_l_two (fun vs H Q E h => ?_) (fun cdv A outer s H vs Q E hr h => ?_)
  · obtain ⟨d, b, n, rfl, n2, n100, hD, q⟩ := h
    rfl
  · obtain ⟨d, b, n, rfl, n2, n100, hD, q⟩ := h
    refine ⟨_, (pss_cons (ps_set (i := 2) sc_l_two.nd rfl (.inl rfl) (pe_call (ok_l_next T U) (hr.mono (by decide)) (by rfl) T.l_next.g T.l_next.F.kp T.l_next.b .nil pass0 (pa_cons (pv 0) (pa_cons (pv 1) pa_nil))))
      (pss_one (ps_ret (pe_tup (pa_cons (pv 2) (pa_cons (pe_op op_mod (pe_op op_add (pe_op op_add (pv 2) pe_int) (pe_call (ok_l_next T U) (hr.mono (by decide)) (by rfl) T.l_next.g T.l_next.F.kp T.l_next.b .nil pass0 (pa_cons (pv 0) (pa_cons (pe_op op_sub (pv 1) pe_int) pa_nil)))) (pv 1)) pa_nil)))))), ?_⟩
    refine ⟨_, rfl, _, rfl, d, b + 1, (n : Int), rfl, by omega, by omega, hD, fun H1 r r0 r1 w1 k1 => ?_⟩
    obtain ⟨l, rfl⟩ := Int.eq_ofNat_of_zero_le r0
    refine ⟨_, rfl, _, rfl, _, _, rfl, rfl, _, rfl, _, rfl, _, _, rfl, rfl, d, b, (n : Int) - 1, rfl, by omega, by omega, w1, fun H2 r' r0' r1' w2 k2 => ?_⟩
    obtain ⟨m, rfl⟩ := Int.eq_ofNat_of_zero_le r0'
    obtain ⟨g, eg, lg, ngl⟩ := seller_of (h := l) (r := m) (n := n) (by omega) (by omega)
    refine ⟨_, _, rfl, rfl, _, rfl, _, _, rfl, rfl, by omega, by show 2 ≤ sizeLine; decide, fun p np => ?_⟩
    have s3 := same_upd (o := .tup [.int l, .int (((l : Int) + 1 + (m : Int)) % (n : Int))]) np
    refine q _ p l g ?_ (by omega) lg (fun e => ngl e.symm) (w2.same s3) (k1.trans (k2.trans (Same.kp s3)))
    rw [← eg]
    exact sqt_upd
end
end B

namespace B
open PySem PySem.Spec PyProof.Rows L2

def sp_l_wrongs (K : PySem.W.Frag) : Sp := fun vs H Q _ => ∃ (d : Dr) (b n : Nat), vs = [.ref d.dr, .int n] ∧ 0 < n ∧ n ≤ 100 ∧ Drw H d (b + 4) ∧ ∀ (H' : Hp) (A : Addr) (ws : List Bool), H' A = some (.lst (ws.map V.bl)) → ws.length = n → H A = none → Drw H' d b → Kp d H H' → Q (.ref A) H'

section
variable {P : Program} {w : World} {K : PySem.W.Frag} {mg : Str → Option Value} {base : Heap}
theorem ok_l_wrongs (T : Tx K mg w) (U : Unl P base) : FnOk P w K mg base CX0 36 T.l_wrongs.f T.l_wrongs.fd ["_law_drawn", "_law_many"] (sp_l_wrongs K) := by
  refine T.l_wrongs.F.ok sc_l_wrongs (fun vs H Q E h => ?_) (fun cdv A outer s H vs Q E hr h => ?_)
  · obtain ⟨d, b, n, rfl, n0, n100, hD, q⟩ := h
    rfl
  · obtain ⟨d, b, n, rfl, n0, n100, hD, q⟩ := h
    refine ⟨_, (pss_cons (ps_set (i := 2) sc_l_wrongs.nd rfl (.inl rfl) (pe_op op_rep (pe_lst (pa_cons pe_bl pa_nil)) (pv 1)))
      (pss_cons (ps_for PassesOwn.never rfl (pi_range1 (by rfl) T.m_range (pa_cons (pe_ix ix_list (pe_lst (pa_cons pe_int (pa_cons pe_int (pa_cons pe_int (pa_cons pe_int (pa_cons pe_int pa_nil)))))) (pe_call (ok_l_next T U) (hr.mono (by decide)) (by rfl) T.l_next.g T.l_next.F.kp T.l_next.b .nil pass0 (pa_cons (pv 0) (pa_cons pe_int pa_nil))) (fun _ _ => rfl)) pa_nil)) (pg_name (i := 3) sc_l_wrongs.nd rfl (.inl rfl))
      (pss_one (ps_asg pe_bl (pg_sub (pv 2) (pe_call (ok_l_next T U) (hr.mono (by decide)) (by rfl) T.l_next.g T.l_next.F.kp T.l_next.b .nil pass0 (pa_cons (pv 0) (pa_cons (pv 1) pa_nil))) set_list))))
      (pss_one (ps_ret (pv 2))))), ?_⟩
    refine ⟨by show 1 ≤ sizeLine; decide, fun l1 n1 => ?_⟩
    have s1 := same_upd (o := .lst [.bl false]) n1
    refine ⟨_, rfl, l1, (n : Int), _, rfl, rfl, upd_same, by omega, by omega, by rw [Int.toNat_natCast]; exact Nat.le_trans (show 1 * n ≤ 100 by omega) (by decide), fun A nA => ?_⟩
    rw [Int.toNat_natCast, flat_rep]
    have s2 := same_upd (o := .lst (List.replicate n (V.bl false))) nA
    have S2 := s1.trans s2
    have w2 := hD.same S2
    refine ⟨by show 5 ≤ sizeLine; decide, fun L nL => ?_⟩
    have s3 := same_upd (o := .lst [.int 0, .int 1, .int 2, .int 2, .int 3]) nL
    have nL1 := w2.no nL
    refine ⟨_, rfl, d, b + 3, 5, rfl, by decide, by decide, w2.same s3, fun H3 r r0 r1 w3 k3 => ?_⟩
    obtain ⟨i, rfl⟩ := Int.eq_ofNat_of_zero_le r0
    obtain ⟨k, hix, k3'⟩ : ∃ k : Nat, atI [V.int 0, .int 1, .int 2, .int 2, .int 3] (i : Int) = some (.int k) ∧ k ≤ 3 := by
      have : i = 0 ∨ i = 1 ∨ i = 2 ∨ i = 3 ∨ i = 4 := by omega
      rcases this with rfl | rfl | rfl | rfl | rfl
      · exact ⟨0, rfl, by decide⟩
      · exact ⟨1, rfl, by decide⟩
      · exact ⟨2, rfl, by decide⟩
      · exact ⟨2, rfl, by decide⟩
      · exact ⟨3, rfl, by decide⟩
    refine ⟨L, _, (i : Int), .int k, rfl, rfl, .inl (.inl (k3 _ _ upd_same nL1.1 nL1.2)), hix, ?_⟩
    have hA0 := newD s1 nA
    obtain ⟨na1, na2⟩ := hD.no hA0
    have na3 := hD.nc hA0
    have K3 : Kp d H H3 := (Same.kp (S2.trans s3)).trans k3
    have hA3 : H3 A = some (.lst ((List.replicate n false).map V.bl)) := by
      rw [List.map_replicate]
      exact k3 _ _ (s3 _ _ upd_same) na1 na2
    refine ⟨(k : Int), rfl, by omega, by omega, for_range (lo := 0) (n := ((k : Nat) : Int).toNat) (fun i σ H' => ∃ (ws : List Bool) (x3 : Option V), σ = [some (.ref d.dr), some (.int n), some (.ref A), x3] ∧ H' A = some (.lst (ws.map V.bl)) ∧ ws.length = n ∧ Drw H' d (b + (3 - i)) ∧ Kp d H H') ⟨List.replicate n false, none, rfl, hA3, List.length_replicate, w3, K3⟩ ?_ ?_⟩
    · rintro i σ H4 hi ⟨ws, x3, rfl, hA4, lw, w4, k4⟩
      rw [Int.toNat_natCast] at hi
      refine ⟨_, rfl, _, rfl, _, rfl, d, b + (3 - (i + 1)), (n : Int), rfl, by omega, by omega, w4.less (by omega), fun H5 r' r0' r1' w5 k5 => ?_⟩
      obtain ⟨j, rfl⟩ := Int.eq_ofNat_of_zero_le r0'
      have hA5 := k5 _ _ hA4 na1 na2
      refine ⟨A, ws.map V.bl, (j : Int), j, rfl, rfl, hA5, ixn (by rw [List.length_map]; omega), ?_⟩
      refine ⟨ws.set j true, _, rfl, ?_, by rw [List.length_set]; exact lw, w5.mut na1 na3 na2, (k4.trans k5).upd hA0⟩
      rw [List.map_set]
      exact upd_same
    · rintro σ H4 ⟨ws, x3, rfl, hA4, lw, w4, k4⟩
      exact ⟨_, rfl, q _ A ws hA4 lw hA0 (w4.less (by omega)) k4⟩
end
end B

namespace B
open PySem PySem.Spec PyProof.Rows L2

def sp_minus (K : PySem.W.Frag) : Sp := fun vs H Q _ => ∃ (a c : Addr) (p r : Int × Nat), vs = [.ref a, .ref c] ∧ SqT K H a [.int p.1, .int p.2] ∧ SqT K H c [.int r.1, .int r.2] ∧ Fok 400000 p ∧ Fok 400000 r ∧ ∀ (H' : Hp) (u : Addr), SqT K H' u [.int (subF p r).1, .int (subF p r).2] → Same H H' → Q (.ref u) H'

section
variable {P : Program} {w : World} {K : PySem.W.Frag} {mg : Str → Option Value} {base : Heap}
theorem ok_minus (T : Tx K mg w) (U : Unl P base) : FnOk P w K mg base CX0 37 T.minus.f T.minus.fd ["one", "other"] (sp_minus K) := by
  refine T.minus.F.ok sc_minus (fun vs H Q E h => ?_) (fun cdv A outer s H vs Q E hr h => ?_)
  · obtain ⟨a, c, p, r, rfl, hA, hC, fp, fr, q⟩ := h
    rfl
  · obtain ⟨a, c, p, r, rfl, hA, hC, fp, fr, q⟩ := h
    refine ⟨_, (pss_one (ps_ret (pe_call (ok_plus T U) (hr.mono (by decide)) (by rfl) T.plus.g T.plus.F.kp T.plus.b .nil pass0 (pa_cons (pv 0) (pa_cons (pe_call (ok_turned_about T U) (hr.mono (by decide)) (by rfl) T.turned_about.g T.turned_about.F.kp T.turned_about.b .nil pass0 (pa_cons (pv 1) pa_nil)) pa_nil))))), ?_⟩
    refine ⟨_, rfl, _, rfl, c, r.1, r.2, rfl, hC, fun u nu => ?_⟩
    have s1 := same_upd (o := .tup [.int (-r.1), .int r.2]) nu
    exact ⟨a, u, p.1, -r.1, p.2, r.2, rfl, Same.tup s1 hA, sqt_upd, fp.f, fr.neg.f, fp.z, fr.neg.z, fun u2 n2 => q _ u2 sqt_upd (s1.trans (same_upd n2))⟩
end
end B

namespace B
open PySem PySem.Spec PyProof.Rows L2

def sp_is_term (K : PySem.W.Frag) : Sp := fun vs H Q _ => ∃ (cs : List Nat) (v : V) (d : PyData), vs = [.str (tx cs), v] ∧ Th K H v d ∧ szD d = true ∧ ∀ H', Same H H' → Q (.bl (isTm cs d)) H'

section
variable {P : Program} {w : World} {K : PySem.W.Frag} {mg : Str → Option Value} {base : Heap}
theorem ok_is_term (T : Tx K mg w) (U : Unl P base) : FnOk P w K mg base CX0 37 T.is_term.f T.is_term.fd ["letters", "thing"] (sp_is_term K) := by
  refine T.is_term.F.ok sc_is_term (fun vs H Q E h => ?_) (fun cdv A outer s H vs Q E hr h => ?_)
  · obtain ⟨cs, v, d, rfl, hT, hz, q⟩ := h
    rfl
  · obtain ⟨cs, v, d, rfl, hT, hz, q⟩ := h
    refine ⟨_, (pss_one (ps_ret (pe_and (pe_call (ok_is_row T U) (hr.mono (by decide)) (by rfl) T.is_row.g T.is_row.F.kp T.is_row.b .nil pass0 (pa_cons (pv 1) (pa_cons pe_int (pa_cons pe_int pa_nil)))) (pe_and (pe_call (ok_is_fraction T U) (hr.mono (by decide)) (by rfl) T.is_fraction.g T.is_fraction.F.kp T.is_fraction.b .nil pass0 (pa_cons (pe_ix ix_tup (pv 1) pe_int (fun _ _ => rfl)) pa_nil)) (pe_one (pe_call (ok_is_saying T U) (hr.mono (by decide)) (by rfl) T.is_saying.g T.is_saying.F.kp T.is_saying.b .nil pass0 (pa_cons (pv 0) (pa_cons (pe_ix ix_tup (pv 1) pe_int (fun _ _ => rfl)) pa_nil)))))))), ?_⟩
    refine ⟨_, rfl, v, d, 2, 2, rfl, hT, _, rfl, ?_⟩
    cases e : rowD 2 2 d with
    | false =>
      have : isTm cs d = false := by
        match d, e with
        | .tuple [a, b], e => exact absurd (show true = false from e) (by decide)
        | .none, _ => rfl
        | .bool _, _ => rfl
        | .int _, _ => rfl
        | .str _, _ => rfl
        | .list _, _ => rfl
        | .dict _, _ => rfl
        | .tuple [], _ => rfl
        | .tuple [_], _ => rfl
        | .tuple (_ :: _ :: _ :: _), _ => rfl
      rw [this] at q
      exact iteF (q _ (fun _ _ h => h))
    | true =>
      obtain ⟨d1, d2, rfl⟩ := rowD_two e
      have q : ∀ H', Same H H' → Q (.bl (isFr d1 && isSay cs d2)) H' := q
      obtain ⟨hz1, hz2⟩ := szD_tup hz
      cases hT with
      | tup tA al =>
      rename_i a xs
      cases al with
      | cons t1 al =>
      cases al with
      | cons t2 al =>
      cases al
      rename_i v1 v2
      refine iteT ⟨_, rfl, a, _, 0, v1, rfl, rfl, tA, rfl, v1, d1, rfl, t1, _, rfl, ?_⟩
      cases e1 : isFr d1 with
      | false =>
        rw [e1, Bool.false_and] at q
        exact iteF (q _ (fun _ _ h => h))
      | true =>
        rw [e1, Bool.true_and] at q
        exact iteT ⟨_, rfl, _, rfl, a, _, 1, v2, rfl, rfl, tA, rfl, cs, v2, d2, rfl, t2, szD_say (hz2 d2 (by simp)), fun H1 s1 => q _ s1⟩
end
end B

namespace B
open PySem PySem.Spec PyProof.Rows L2

def sp_pays (K : PySem.W.Frag) : Sp := fun vs H Q _ => ∃ (cs : List Nat) (a : Addr) (ts : List Tm) (g : List Wd) (bs : List Bool), vs = [.str (tx cs), .ref a, .str (wtx bs)] ∧ BtAt K H a ts g ∧ BtOk cs ts g ∧ cs.length = bs.length ∧ bs.length ≤ 100 ∧ ∀ (H' : Hp) (u : V), PdAt K H' u (payO (vl cs bs) ts g) → Same H H' → Q u H'

section
variable {P : Program} {w : World} {K : PySem.W.Frag} {mg : Str → Option Value} {base : Heap}
theorem ok_pays (T : Tx K mg w) (U : Unl P base) : FnOk P w K mg base CX0 37 T.pays.f T.pays.fd ["letters", "bet", "world"] (sp_pays K) := by
  refine T.pays.F.ok sc_pays (fun vs H Q E h => ?_) (fun cdv A outer s H vs Q E hr h => ?_)
  · obtain ⟨cs, a, ts, g, bs, rfl, hA, hO, hl, hb, q⟩ := h
    rfl
  · obtain ⟨cs, a, ts, g, bs, rfl, hA, hO, hl, hb, q⟩ := h
    refine ⟨_, (pss_cons (ps_asg (pv 1) (pg_tup rfl (pgs_cons (pg_name (i := 3) sc_pays.nd rfl (.inl rfl)) (pgs_cons (pg_name (i := 4) sc_pays.nd rfl (.inl rfl)) pgs_nil))))
      (pss_cons (ps_if (pt_not (pt_val (pe_call (ok_holds T U) (hr.mono (by decide)) (by rfl) T.holds.g T.holds.F.kp T.holds.b .nil pass0 (pa_cons (pv 0) (pa_cons (pv 4) (pa_cons (pv 2) pa_nil)))))) (pss_one (ps_ret pe_non)) pss_nil)
      (pss_cons (ps_set (i := 5) sc_pays.nd rfl (.inl rfl) (pe_glob (v := .ref T.a_ZERO) (by rfl) T.g_ZERO rfl))
      (pss_cons (ps_for PassesOwn.never rfl (pi_tup (pv 3)) (pg_tup rfl (pgs_cons (pg_name (i := 6) sc_pays.nd rfl (.inl rfl)) (pgs_cons (pg_name (i := 7) sc_pays.nd rfl (.inl rfl)) pgs_nil)))
      (pss_one (ps_if (pt_val (pe_call (ok_holds T U) (hr.mono (by decide)) (by rfl) T.holds.g T.holds.F.kp T.holds.b .nil pass0 (pa_cons (pv 0) (pa_cons (pv 7) (pa_cons (pv 2) pa_nil))))) (pss_one (ps_set (i := 5) sc_pays.nd rfl (.inl rfl) (pe_call (ok_plus T U) (hr.mono (by decide)) (by rfl) T.plus.g T.plus.F.kp T.plus.b .nil pass0 (pa_cons (pv 5) (pa_cons (pv 6) pa_nil))))) pss_nil)))
      (pss_one (ps_ret (pv 5))))))), ?_⟩
    obtain ⟨pt, pg, tvs, tA, tP, tF, tG⟩ := hA
    refine ⟨_, rfl, a, _, rfl, tA, rfl, _, _, rfl, _, _, rfl, rfl, ?_⟩
    refine ⟨_, rfl, _, rfl, _, rfl, cs, pg, g, bs, rfl, tG, hO.sy, hl, hb, by have := hO.ln; omega, fun H1 s1 => ⟨_, rfl, ?_⟩⟩
    cases hg : sval (vl cs bs) g with
    | false => exact iteT (q _ .non (by unfold payO; rw [hg]; exact rfl) s1)
    | true =>
      refine iteF ?_
      refine ⟨_, rfl, pt, rfl, ⟨_, Same.tup s1 tP⟩, for_tup (K := K) (a := pt) (xs := tvs) (fun i σ H' => ∃ (x6 x7 : Option V) (u : Addr), σ = [some (.str (tx cs)), some (.ref a), some (.str (wtx bs)), some (.ref pt), some (.ref pg), some (.ref u), x6, x7] ∧ SqT K H' u [.int (pay (vl cs bs) (ts.take i)).1, .int (pay (vl cs bs) (ts.take i)).2] ∧ Same H H') ⟨none, none, T.a_ZERO, rfl, T.s_ZERO _, s1⟩ (fun i σ H' _ ⟨_, _, _, _, _, e⟩ => Same.tup e tP) ?_ ?_⟩
      · rintro i x σ H2 hx ⟨x6, x7, u, rfl, tu, s2⟩
        obtain ⟨y, hy, p, f, c, rfl, t1, t2, t3⟩ := (tF.imp fun _ _ h => TmAt.mono (fun _ _ q => Same.tup s2 q) h).getA hx
        have ym := hO.tm y (List.mem_of_getElem? hy)
        have po := (pay_okB (vl cs bs) hO i).up (show 390000 ≤ 400000 by decide)
        have ya := ym.a.up (show 240 ≤ 400000 by decide)
        refine ⟨p, _, rfl, t1, rfl, _, _, rfl, _, _, rfl, rfl, ?_⟩
        refine ⟨_, rfl, _, rfl, _, rfl, cs, c, y.w, bs, rfl, t3, ym.sy, hl, hb, by have := ym.ln; omega, fun H3 s3 => ⟨_, rfl, ?_⟩⟩
        have ep := pay_take (vl cs bs) hy
        cases hv : sval (vl cs bs) y.w with
        | false =>
          rw [hv] at ep
          exact iteF ⟨_, _, u, rfl, by rw [ep]; exact Same.tup s3 tu, s2.trans s3⟩
        | true =>
          rw [hv] at ep
          exact iteT ⟨_, rfl, _, rfl, u, f, _, _, _, _, rfl, Same.tup s3 tu, Same.tup s3 t2, po.f, ya.f, po.z, ya.z, fun p3 n3 => ⟨_, _, p3, rfl, by rw [ep]; exact sqt_upd, (s2.trans s3).trans (same_upd n3)⟩⟩
      · rintro σ H2 ⟨x6, x7, u, rfl, tu, s2⟩
        rw [tF.len, List.take_length] at tu
        exact ⟨_, rfl, q _ (.ref u) (by unfold payO; rw [hg]; exact ⟨u, rfl, tu⟩) s2⟩
end
end B

namespace B
open PySem PySem.Spec PyProof.Rows L2

def sp_keeps (K : PySem.W.Frag) : Sp := fun vs H Q _ => ∃ (cs : List Nat) (ra : Addr) (rvs : List V) (rs : List (List Wd)) (bs : List Bool), vs = [.str (tx cs), .ref ra, .str (wtx bs)] ∧ SqT K H ra rvs ∧ Rws K H rvs rs ∧ HsOk cs rs ∧ cs.length = bs.length ∧ ∀ H', Same H H' → Q (.bl (rs.all fun r => sval (vl cs bs) r)) H'

section
variable {P : Program} {w : World} {K : PySem.W.Frag} {mg : Str → Option Value} {base : Heap}
theorem ok_keeps (T : Tx K mg w) (U : Unl P base) : FnOk P w K mg base CX0 37 T.keeps.f T.keeps.fd ["letters", "rules", "world"] (sp_keeps K) := by
  refine T.keeps.F.ok sc_keeps (fun vs H Q E h => ?_) (fun cdv A outer s H vs Q E hr h => ?_)
  · obtain ⟨cs, ra, rvs, rs, bs, rfl, hRa, hW, hO, hl, q⟩ := h
    rfl
  · obtain ⟨cs, ra, rvs, rs, bs, rfl, hRa, hW, hO, hl, q⟩ := h
    refine ⟨_, (pss_one (ps_ret (pe_callB (cr_all rfl) (by rfl) T.m_all (by decide +kernel) (pa_cons (pe_lc (own := [("rule", 3)]) (g := gName 3) (tt := tYes) rfl sc_keeps.nd (pi_tup (pv 1)) (blkOk_by (own := [("rule", 3)]) (N := N_keeps) (sc := defScope s_keeps) (by decide +kernel)) (fun _ _ _ _ _ => (pg_name (i := 3) sc_keeps.nd rfl (.inl rfl))) (fun _ _ _ _ _ => pts_nil) (fun _ _ _ _ _ => (pe_call (ok_holds T U) (hr.mono (by decide)) (by rfl) T.holds.g T.holds.F.kp T.holds.b .nil pass0 (pa_cons (pv 0) (pa_cons (pv 3) (pa_cons (pv 2) pa_nil)))))) pa_nil)))), ?_⟩
    have rlen : rvs.length = rs.length := hW.len
    have hb : bs.length ≤ 100 := by have := hO.c6; omega
    refine ⟨_, rfl, ra, rfl, ⟨_, hRa⟩, fun D nD => ?_⟩
    refine lc_tup (K := K) (a := ra) (xs := rvs) (fun j H' => H' D = some (.lst (((rs.take j).map fun r => sval (vl cs bs) r).map V.bl)) ∧ Same H H') ⟨upd_same, same_upd nD⟩ (fun j H' _ ⟨_, e⟩ => Same.tup e hRa) ?_ ?_
    · rintro j x H1 hx ⟨h1, s1⟩
      obtain ⟨ax, r, rfl, hr, tr⟩ := (hW.same s1).getV hx
      have hrm := List.mem_of_getElem? hr
      refine ⟨rfl, lc_yes ?_⟩
      refine ⟨_, rfl, _, rfl, _, rfl, cs, ax, r, bs, rfl, tr, (hO.sy r hrm).1, hl, hb, Nat.le_trans (hO.sy r hrm).2 (by decide), fun H2 s2 => ?_⟩
      refine ⟨_, s2 _ _ h1, ?_, ?_, fun a o e => ?_⟩
      · rw [List.length_map, List.length_map, List.length_take]
        have := hO.few
        exact Nat.lt_of_le_of_lt (show min j rs.length ≤ 20 by omega) (by decide)
      · rw [upd_same, map_take_one _ _ _ _ hr, List.map_append]
        rfl
      · rw [upd_ne (ne_of_none e nD)]
        exact s2 _ _ (s1 _ _ e)
    rintro H1 ⟨h1, s1⟩
    rw [rlen, List.take_length] at h1
    refine ⟨D, _, rfl, .inl (.inl h1), ?_⟩
    rw [all_map_id]
    exact q _ s1
end
end B

namespace B
open PySem PySem.Spec PyProof.Rows L2

def sp_are_two (K : PySem.W.Frag) : Sp := fun vs H Q _ => ∃ (m : Int) (v v' : V) (d d' : PyData), vs = [.int m, v, v'] ∧ Th K H v d ∧ Th K H v' d' ∧ Q (.bl (isTwo m d d')) H

section
variable {P : Program} {w : World} {K : PySem.W.Frag} {mg : Str → Option Value} {base : Heap}
theorem ok_are_two (T : Tx K mg w) (U : Unl P base) : FnOk P w K mg base CX0 37 T.are_two.f T.are_two.fd ["many", "one", "other"] (sp_are_two K) := by
  refine T.are_two.F.ok sc_are_two (fun vs H Q E h => ?_) (fun cdv A outer s H vs Q E hr h => ?_)
  · obtain ⟨m, v, v', d, d', rfl, hT, hT', q⟩ := h
    rfl
  · obtain ⟨m, v, v', d, d', rfl, hT, hT', q⟩ := h
    refine ⟨_, (pss_one (ps_ret (pe_and (pe_call (ok_is_place T U) (hr.mono (by decide)) (by rfl) T.is_place.g T.is_place.F.kp T.is_place.b .nil pass0 (pa_cons (pv 0) (pa_cons (pv 1) pa_nil))) (pe_and (pe_call (ok_is_place T U) (hr.mono (by decide)) (by rfl) T.is_place.g T.is_place.F.kp T.is_place.b .nil pass0 (pa_cons (pv 0) (pa_cons (pv 2) pa_nil))) (pe_one (pe_cmpR op_ne (pv 1) (pv 2) (nomark _))))))), ?_⟩
    refine ⟨_, rfl, _, rfl, m, v, d, rfl, hT, _, rfl, ?_⟩
    cases e1 : isPl m d with
    | false =>
      have : isTwo m d d' = false := by
        cases d <;> cases d' <;> first | rfl | (show (isPl m _ && _) = false; rw [e1]; rfl)
      rw [this] at q
      exact iteF q
    | true =>
    refine iteT ⟨_, rfl, _, rfl, m, v', d', rfl, hT', _, rfl, ?_⟩
    cases e2 : isPl m d' with
    | false =>
      have : isTwo m d d' = false := by
        cases d <;> cases d' <;> first | rfl | (show (isPl m _ && (isPl m _ && _)) = false; rw [e1, e2]; rfl)
      rw [this] at q
      exact iteF q
    | true =>
    cases d with
    | int i =>
      cases d' with
      | int j =>
        have q : Q (.bl (isPl m (.int i) && (isPl m (.int j) && decide (i ≠ j)))) H := q
        rw [e1, e2, Bool.true_and, Bool.true_and] at q
        cases hT
        cases hT'
        refine iteT ⟨_, rfl, _, rfl, rfl, ?_⟩
        have : (!decide (V.int i = V.int j)) = decide (i ≠ j) := by
          by_cases z : i = j
          · rw [z]; simp
          · rw [decide_eq_false (fun e => z (V.int.inj e)), decide_eq_true z]; rfl
        rw [this]
        exact q
      | _ => exact nomatch (show false = true from e2)
    | _ => exact nomatch (show false = true from e1)
end
end B

namespace B
open PySem PySem.Spec PyProof.Rows L2

def sp_is_above_zero (K : PySem.W.Frag) : Sp := fun vs H Q _ => ∃ (v : V) (d : PyData), vs = [v] ∧ Th K H v d ∧ Q (.bl (isAb d)) H

section
variable {P : Program} {w : World} {K : PySem.W.Frag} {mg : Str → Option Value} {base : Heap}
theorem ok_is_above_zero (T : Tx K mg w) (U : Unl P base) : FnOk P w K mg base CX0 37 T.is_above_zero.f T.is_above_zero.fd ["thing"] (sp_is_above_zero K) := by
  refine T.is_above_zero.F.ok sc_is_above_zero (fun vs H Q E h => ?_) (fun cdv A outer s H vs Q E hr h => ?_)
  · obtain ⟨v, d, rfl, hT, q⟩ := h
    rfl
  · obtain ⟨v, d, rfl, hT, q⟩ := h
    refine ⟨_, (pss_one (ps_ret (pe_and (pe_call (ok_is_fraction T U) (hr.mono (by decide)) (by rfl) T.is_fraction.g T.is_fraction.F.kp T.is_fraction.b .nil pass0 (pa_cons (pv 0) pa_nil)) (pe_one (pe_cmpR op_gt (pe_ix ix_tup (pv 0) pe_int (fun _ _ => rfl)) pe_int (nomark _)))))), ?_⟩
    refine ⟨_, rfl, v, d, rfl, hT, _, rfl, ?_⟩
    unfold isAb at q
    cases e : isFr d with
    | false =>
      rw [e, Bool.false_and] at q
      exact iteF q
    | true =>
      rw [e, Bool.true_and] at q
      obtain ⟨p, f, rfl⟩ := isFr_iff.mp e
      rw [frD_fdat] at q
      cases hT with
      | tup tA al =>
      cases al with
      | cons t1 al =>
      cases al with
      | cons t2 al =>
      cases al
      cases t1
      cases t2
      rename_i a
      exact iteT ⟨_, rfl, a, _, 0, .int p.1, rfl, rfl, tA, rfl, _, _, rfl, rfl, q⟩
end
end B

namespace B
open PySem PySem.Spec PyProof.Rows L2

def sp_standing (K : PySem.W.Frag) : Sp := fun vs H Q E => ∃ (a : Addr) (v : V) (d : PyData) (S : Std), vs = [.ref a, v] ∧ StdAt K H a S ∧ Th K H v d ∧ ((∀ t ∈ S.ts, d ≠ .int (t.n : Int)) → ∀ C, XIs K "NoTicket" C → ∀ d H', DOk H' d → Same H H' → E (.ref C) d H') ∧ ∀ (i : Nat) (u : V) (t : Tkt), S.ts[i]? = some t → TkAt K H u t → d = .int (t.n : Int) → Q u H

section
variable {P : Program} {w : World} {K : PySem.W.Frag} {mg : Str → Option Value} {base : Heap}
theorem ok_standing (T : Tx K mg w) (U : Unl P base) : FnOk P w K mg base (L2.CX P w) 37 T.standing.f T.standing.fd ["stand", "number"] (sp_standing K) := by
  refine T.standing.F.okX sc_standing (fun vs H Q E h => ?_) (fun cdv A outer s H vs Q E hr h => ?_)
  · obtain ⟨a, v, d, S, rfl, hS, hd, hE, hQ⟩ := h
    rfl
  · obtain ⟨a, v, d, S, rfl, hS, hd, hE, hQ⟩ := h
    refine ⟨_, (pss_cons (ps_set (i := 2) sc_standing.nd rfl (.inl rfl) (pe_call (ok_ticket_of T U) (hr.mono (by decide)) (by rfl) T.ticket_of.g T.ticket_of.F.kp T.ticket_of.b .nil pass0 (pa_cons (pe_ix ix_tup (pv 0) pe_int (fun _ _ => rfl)) (pa_cons (pv 1) pa_nil))))
      (pss_cons (ps_if (pt_cmpR op_isN (pv 2) pe_non (nomark _)) (pss_one (ps_raise rfl (takes_of rfl rfl rfl rfl) (pmk_none T.x_NoTicket hr (by rfl)))) pss_nil)
      (pss_one (ps_ret (pv 2))))), ?_⟩
    obtain ⟨h, pp, tt, l', pvs, tvs, lvs, tS, hH, tP, fP, tT, fT, tL, fL⟩ := id hS
    refine ⟨_, rfl, a, _, 2, .ref tt, rfl, rfl, tS, atI_nat (j := 2) rfl, _, rfl, tt, v, d, tvs, S.ts, rfl, tT, fT, hd, fun hn => ?_, fun i u t hu ht hT hz => ?_⟩
    · exact ⟨_, rfl, rfl, _, rfl, iteT fun d nd => hE hn _ T.x_NoTicket.ns _ _ dok_upd (same_upd nd)⟩
    · obtain ⟨tq, a1, c1, e1, rfl, t1, _⟩ := id hT
      exact ⟨_, rfl, rfl, _, rfl, iteE (decide_eq_false nofun) ⟨_, rfl, hQ i _ t ht hT hz⟩⟩
end
end B

namespace B
open PySem PySem.Spec PyProof.Rows L2

def sp_l_paid (K : PySem.W.Frag) : Sp := fun vs H Q _ => ∃ (cs : List Nat) (a : Addr) (ts : List Tm) (g : List Wd) (bs : List Bool), vs = [.str (tx cs), .ref a, .str (wtx bs)] ∧ BtAt K H a ts g ∧ BtOk cs ts g ∧ cs.length = bs.length ∧ bs.length ≤ 100 ∧ ∀ (H' : Hp) (u : V), PdAt K H' u (payO (vl cs bs) ts g) → Same H H' → Q u H'

section
variable {P : Program} {w : World} {K : PySem.W.Frag} {mg : Str → Option Value} {base : Heap}
theorem ok_l_paid (T : Tx K mg w) (U : Unl P base) : FnOk P w K mg base CX0 37 T.l_paid.f T.l_paid.fd ["_law_letters", "_law_bet", "_law_world"] (sp_l_paid K) := by
  refine T.l_paid.F.ok sc_l_paid (fun vs H Q E h => ?_) (fun cdv A outer s H vs Q E hr h => ?_)
  · obtain ⟨cs, a, ts, g, bs, rfl, hA, hO, hl, hb, q⟩ := h
    rfl
  · obtain ⟨cs, a, ts, g, bs, rfl, hA, hO, hl, hb, q⟩ := h
    refine ⟨_, (pss_cons (ps_if (pt_not (pt_val (pe_call (ok_l_holds T U) (hr.mono (by decide)) (by rfl) T.l_holds.g T.l_holds.F.kp T.l_holds.b .nil pass0 (pa_cons (pv 0) (pa_cons (pe_ix ix_tup (pv 1) pe_int (fun _ _ => rfl)) (pa_cons (pv 2) pa_nil)))))) (pss_one (ps_ret pe_non)) pss_nil)
      (pss_cons (ps_set (i := 3) sc_l_paid.nd rfl (.inl rfl) (pe_tup (pa_cons pe_int (pa_cons pe_int pa_nil))))
      (pss_cons (ps_for PassesOwn.never rfl (pi_tup (pe_ix ix_tup (pv 1) pe_int (fun _ _ => rfl))) (pg_tup rfl (pgs_cons (pg_name (i := 4) sc_l_paid.nd rfl (.inl rfl)) (pgs_cons (pg_name (i := 5) sc_l_paid.nd rfl (.inl rfl)) pgs_nil)))
      (pss_one (ps_if (pt_val (pe_call (ok_l_holds T U) (hr.mono (by decide)) (by rfl) T.l_holds.g T.l_holds.F.kp T.l_holds.b .nil pass0 (pa_cons (pv 0) (pa_cons (pv 5) (pa_cons (pv 2) pa_nil))))) (pss_one (ps_set (i := 3) sc_l_paid.nd rfl (.inl rfl) (pe_call (ok_l_plus T U) (hr.mono (by decide)) (by rfl) T.l_plus.g T.l_plus.F.kp T.l_plus.b .nil pass0 (pa_cons (pv 3) (pa_cons (pv 4) pa_nil))))) pss_nil)))
      (pss_one (ps_ret (pv 3)))))), ?_⟩
    obtain ⟨pt, pg, tvs, tA, tP, tF, tG⟩ := hA
    refine ⟨_, rfl, _, rfl, a, _, 1, .ref pg, rfl, rfl, tA, rfl, _, rfl, cs, pg, g, bs, rfl, tG, hO.sy, hl, hb, by have := hO.ln; omega, fun H1 s1 => ⟨_, rfl, ?_⟩⟩
    cases hg : sval (vl cs bs) g with
    | false => exact iteT (q _ .non (by unfold payO; rw [hg]; exact rfl) s1)
    | true =>
      refine iteF ?_
      refine ⟨by show 2 ≤ sizeLine; decide, fun u0 n0 => ?_⟩
      have s0 := s1.trans (same_upd (o := .tup [.int 0, .int 1]) n0)
      refine ⟨_, rfl, a, _, 0, .ref pt, rfl, rfl, Same.tup s0 tA, rfl, pt, rfl, ⟨_, Same.tup s0 tP⟩, for_tup (K := K) (a := pt) (xs := tvs) (fun i σ H' => ∃ (x6 x7 : Option V) (u : Addr), σ = [some (.str (tx cs)), some (.ref a), some (.str (wtx bs)), some (.ref u), x6, x7] ∧ SqT K H' u [.int (pay (vl cs bs) (ts.take i)).1, .int (pay (vl cs bs) (ts.take i)).2] ∧ Same H H') ⟨none, none, u0, rfl, sqt_upd, s0⟩ (fun i σ H' _ ⟨_, _, _, _, _, e⟩ => Same.tup e tP) ?_ ?_⟩
      · rintro i x σ H2 hx ⟨x6, x7, u, rfl, tu, s2⟩
        obtain ⟨y, hy, p, f, c, rfl, t1, t2, t3⟩ := (tF.imp fun _ _ h => TmAt.mono (fun _ _ q => Same.tup s2 q) h).getA hx
        have ym := hO.tm y (List.mem_of_getElem? hy)
        have po := (pay_okB (vl cs bs) hO i).up (show 390000 ≤ 400000 by decide)
        have ya := ym.a.up (show 240 ≤ 400000 by decide)
        refine ⟨p, _, rfl, t1, rfl, _, _, rfl, _, _, rfl, rfl, ?_⟩
        refine ⟨_, rfl, _, rfl, _, rfl, cs, c, y.w, bs, rfl, t3, ym.sy, hl, hb, by have := ym.ln; omega, fun H3 s3 => ⟨_, rfl, ?_⟩⟩
        have ep := pay_take (vl cs bs) hy
        cases hv : sval (vl cs bs) y.w with
        | false =>
          rw [hv] at ep
          exact iteF ⟨_, _, u, rfl, by rw [ep]; exact Same.tup s3 tu, s2.trans s3⟩
        | true =>
          rw [hv] at ep
          exact iteT ⟨_, rfl, _, rfl, u, f, _, _, _, _, rfl, Same.tup s3 tu, Same.tup s3 t2, po.f, ya.f, po.z, ya.z, fun p3 n3 => ⟨_, _, p3, rfl, by rw [ep]; exact sqt_upd, (s2.trans s3).trans (same_upd n3)⟩⟩
      · rintro σ H2 ⟨x6, x7, u, rfl, tu, s2⟩
        rw [tF.len, List.take_length] at tu
        exact ⟨_, rfl, q _ (.ref u) (by unfold payO; rw [hg]; exact ⟨u, rfl, tu⟩) s2⟩
end
end B

namespace B
open PySem PySem.Spec PyProof.Rows L2

def sp_l_cost (K : PySem.W.Frag) : Sp := fun vs H Q _ => ∃ (d : Dr) (b : Nat) (p : Addr) (us : List V) (tab : List (Option (Int × Nat))), vs = [.ref d.dr, .ref p] ∧ SqT K H p us ∧ F2 (PdAt K H) us tab ∧ tab.length ≤ 64 ∧ somes tab ≠ [] ∧ (∀ x ∈ somes tab, Fb 7000000 (2 ^ 45) x) ∧ Drw H d (b + 2) ∧ ∀ (H' : Hp) (r : Addr) (x : Int × Nat), SqT K H' r [.int x.1, .int x.2] → Fb 42000000 (2 ^ 46) x → Drw H' d b → Kp d H H' → Q (.ref r) H'

section
variable {P : Program} {w : World} {K : PySem.W.Frag} {mg : Str → Option Value} {base : Heap}
theorem ok_l_cost (T : Tx K mg w) (U : Unl P base) : FnOk P w K mg base CX0 37 T.l_cost.f T.l_cost.fd ["_law_drawn", "_law_table_here"] (sp_l_cost K) := by
  refine T.l_cost.F.ok sc_l_cost (fun vs H Q E h => ?_) (fun cdv A outer s H vs Q E hr h => ?_)
  · obtain ⟨d, b, p, us, tab, rfl, tt, ft, h64, hne, hF, hD, q⟩ := h
    rfl
  · obtain ⟨d, b, p, us, tab, rfl, tt, ft, h64, hne, hF, hD, q⟩ := h
    refine ⟨_, (pss_cons (ps_setLc (i := 3) (own := [("_law_one", 2)]) (g := gName 2) rfl sc_l_cost.nd rfl rfl (sw_true rfl rfl rfl (by decide +kernel)) (pi_tup (pv 1)) (blkOk_by (own := [("_law_one", 2)]) (N := N_l_cost) (sc := defScope s_l_cost) (by decide +kernel)) (fun _ _ _ _ _ => (pg_name (i := 2) sc_l_cost.nd rfl (.inl rfl))) (fun _ _ _ _ _ => (pts_one (pt_cmpR op_notN (pv 2) pe_non (nomark _)))) (fun _ _ _ _ _ => (pv 2)))
      (pss_one (ps_ret (pe_call (ok_l_plus T U) (hr.mono (by decide)) (by rfl) T.l_plus.g T.l_plus.F.kp T.l_plus.b .nil pass0 (pa_cons (pe_ix ix_list (pv 3) (pe_call (ok_l_next T U) (hr.mono (by decide)) (by rfl) T.l_next.g T.l_next.F.kp T.l_next.b .nil pass0 (pa_cons (pv 0) (pa_cons (pe_callB call_len_seq (by rfl) T.m_len (by decide +kernel) (pa_cons (pv 3) pa_nil)) pa_nil))) (fun _ _ => rfl)) (pa_cons (pe_ix ix_list (pe_lst (pa_cons (pe_tup (pa_cons pe_int (pa_cons pe_int pa_nil))) (pa_cons (pe_tup (pa_cons pe_int (pa_cons pe_int pa_nil))) (pa_cons (pe_tup (pa_cons (pe_un un_neg pe_int) (pa_cons pe_int pa_nil))) (pa_cons (pe_tup (pa_cons pe_int (pa_cons pe_int pa_nil))) pa_nil))))) (pe_call (ok_l_next T U) (hr.mono (by decide)) (by rfl) T.l_next.g T.l_next.F.kp T.l_next.b .nil pass0 (pa_cons (pv 0) (pa_cons pe_int pa_nil))) (fun _ _ => rfl)) pa_nil)))))), ?_⟩
    have ul := ft.len
    refine ⟨_, rfl, p, rfl, ⟨_, tt⟩, fun D nD => ?_⟩
    refine lcp_tup (K := K) (R := FAt K) (IR := PdAt K H) tab id (fun _ _ _ _ k h => h.mono k) ft nD tt (Nat.lt_of_le_of_lt (show us.length ≤ 64 by omega) (by decide)) ?_ ?_
    · rintro v o H6 pv _ s6 Y N hYes hNo
      refine ⟨rfl, _, rfl, rfl, _, rfl, ?_⟩
      rw [pdAt_notNone pv]
      cases o with
      | none => exact hNo _ (fun _ _ h => h) rfl
      | some x => exact ⟨_, rfl, hYes _ _ x (fun _ _ h => h) rfl (FAt.mono (Same.tk s6) pv)⟩
    intro H1 ys h1 f1 s1
    have w1 := hD.same s1
    have ly := f1.len
    have pos := List.length_pos_iff.mpr hne
    have l64 : (somes tab).length ≤ 64 := Nat.le_trans (List.length_filterMap_le _ _) h64
    have ly : ys.length = (somes tab).length := ly
    have nD1 := hD.no nD
    refine ⟨_, rfl, _, rfl, _, rfl, D, ys, rfl, .inl (.inl (.inl h1)), d, b + 1, (ys.length : Int), rfl, by omega, by show ys.length < _; exact Nat.lt_of_le_of_lt (show ys.length ≤ 64 by omega) (by decide), w1, fun H2 r r0 r1 w2 k2 => ?_⟩
    obtain ⟨i, rfl⟩ := Int.eq_ofNat_of_zero_le r0
    have g1 := List.getElem?_eq_getElem (l := somes tab) (i := i) (by omega)
    have m1 := List.mem_of_getElem? g1
    generalize (somes tab)[i] = x at g1 m1
    obtain ⟨v, hv, f, rfl, tf⟩ := (fas_tk f1 (fun _ _ t => Kp.tup k2 w1 t)).getB g1
    have fx := hF x m1
    have h2 := k2 _ _ h1 nD1.1 nD1.2
    refine ⟨D, ys, (i : Int), .ref f, rfl, rfl, .inl (.inl h2), atI_nat hv, ?_⟩
    refine ⟨by show 2 ≤ sizeLine; decide, fun a1 n1 => ?_⟩
    have s3 := same_upd (o := .tup [.int 0, .int 1]) n1
    refine ⟨by show 2 ≤ sizeLine; decide, fun a2 n2 => ?_⟩
    have s4 := same_upd (o := .tup [.int 1, .int 2]) n2
    refine ⟨2, rfl, by show 2 ≤ sizeLine; decide, fun a3 n3 => ?_⟩
    have s5 := same_upd (o := .tup [.int (-2), .int 3]) n3
    refine ⟨by show 2 ≤ sizeLine; decide, fun a4 n4 => ?_⟩
    have s6 := same_upd (o := .tup [.int 5, .int 1]) n4
    refine ⟨by show 4 ≤ sizeLine; decide, fun L nL => ?_⟩
    have s7 := same_upd (o := .lst [.ref a1, .ref a2, .ref a3, .ref a4]) nL
    have t6 := s6.trans s7
    have t5 := s5.trans t6
    have t4 := s4.trans t5
    have t3 := s3.trans t4
    have nL1 := (w2.same (s3.trans (s4.trans (s5.trans s6)))).no nL
    have w7 := w2.same t3
    refine ⟨_, rfl, d, b, 4, rfl, by decide, by decide, w7, fun H8 r' r0' r1' w8 k8 => ?_⟩
    obtain ⟨j, rfl⟩ := Int.eq_ofNat_of_zero_le r0'
    have T8 : Tk K (tgt s7) H8 := fun _ _ t => Kp.tup k8 w7 t
    obtain ⟨pa, y, hix, ty, fy⟩ : ∃ (p : Addr) (x : Int × Nat), atI [V.ref a1, .ref a2, .ref a3, .ref a4] (j : Int) = some (.ref p) ∧ SqT K H8 p [.int x.1, .int x.2] ∧ Fb 42000000 5 x := by
      have : j = 0 ∨ j = 1 ∨ j = 2 ∨ j = 3 := by omega
      rcases this with rfl | rfl | rfl | rfl
      · exact ⟨a1, (0, 1), rfl, T8 _ _ (Same.tup t4 sqt_upd), fb_dec (by decide +kernel)⟩
      · exact ⟨a2, (1, 2), rfl, T8 _ _ (Same.tup t5 sqt_upd), fb_dec (by decide +kernel)⟩
      · exact ⟨a3, (-2, 3), rfl, T8 _ _ (Same.tup t6 sqt_upd), fb_dec (by decide +kernel)⟩
      · exact ⟨a4, (5, 1), rfl, T8 _ _ (Same.tup s7 sqt_upd), fb_dec (by decide +kernel)⟩
    refine ⟨L, _, (j : Int), .ref pa, rfl, rfl, .inl (.inl (k8 _ _ upd_same nL1.1 nL1.2)), hix, ?_⟩
    have fz := ((fx.up (E := 42000000) (by decide) (Nat.le_refl _)).add fy (by decide)).up (N := 2 ^ 46) (Nat.dvd_refl _) (by decide)
    have ox := (fx.fok (a := 23) (c := 45) (by decide) (by decide) (by decide)).up (show 45 + 23 ≤ 400000 by decide)
    have oy := (fy.fok (a := 26) (c := 3) (by decide) (by decide) (by decide)).up (show 3 + 26 ≤ 400000 by decide)
    refine ⟨f, pa, x.1, y.1, x.2, y.2, rfl, T8 _ _ (Same.tup t3 tf), ty, ox.f, oy.f, ox.z, oy.z, fun z nz => ?_⟩
    have s9 := same_upd (o := .tup [.int (addF x y).1, .int (addF x y).2]) nz
    exact q _ z (addF x y) sqt_upd fz (w8.same s9) ((Same.kp s1).trans (k2.trans ((Same.kp t3).trans (k8.trans (Same.kp s9)))))
end
end B

namespace B
open PySem PySem.Spec PyProof.Rows L2

def sp_is_bet (K : PySem.W.Frag) : Sp := fun vs H Q _ => ∃ (cs : List Nat) (v : V) (d : PyData), vs = [.str (tx cs), v] ∧ Th K H v d ∧ szD d = true ∧ ∀ H', Same H H' → Q (.bl (isBtD cs d)) H'

section
variable {P : Program} {w : World} {K : PySem.W.Frag} {mg : Str → Option Value} {base : Heap}
theorem ok_is_bet (T : Tx K mg w) (U : Unl P base) : FnOk P w K mg base CX0 38 T.is_bet.f T.is_bet.fd ["letters", "thing"] (sp_is_bet K) := by
  refine T.is_bet.F.ok sc_is_bet (fun vs H Q E h => ?_) (fun cdv A outer s H vs Q E hr h => ?_)
  · obtain ⟨cs, v, d, rfl, hT, hz, q⟩ := h
    rfl
  · obtain ⟨cs, v, d, rfl, hT, hz, q⟩ := h
    refine ⟨_, (pss_cons (ps_if (pt_not (pt_val (pe_call (ok_is_row T U) (hr.mono (by decide)) (by rfl) T.is_row.g T.is_row.F.kp T.is_row.b .nil pass0 (pa_cons (pv 1) (pa_cons pe_int (pa_cons pe_int pa_nil)))))) (pss_one (ps_ret pe_bl)) pss_nil)
      (pss_cons (ps_asg (pv 1) (pg_tup rfl (pgs_cons (pg_name (i := 2) sc_is_bet.nd rfl (.inl rfl)) (pgs_cons (pg_name (i := 3) sc_is_bet.nd rfl (.inl rfl)) pgs_nil))))
      (pss_cons (ps_if (PW.pt (pw_or (pt_not (pt_val (pe_call (ok_is_row T U) (hr.mono (by decide)) (by rfl) T.is_row.g T.is_row.F.kp T.is_row.b .nil pass0 (pa_cons (pv 2) (pa_cons pe_int (pa_cons (pe_glob (v := .int 8) (by rfl) T.g_MOST_TERMS ⟨_, rfl⟩) pa_nil)))))) (pw_or1 (pt_not (pt_val (pe_call (ok_is_saying T U) (hr.mono (by decide)) (by rfl) T.is_saying.g T.is_saying.F.kp T.is_saying.b .nil pass0 (pa_cons (pv 0) (pa_cons (pv 3) pa_nil)))))))) (pss_one (ps_ret pe_bl)) pss_nil)
      (pss_one (ps_ret (pe_callB (cr_all rfl) (by rfl) T.m_all (by decide +kernel) (pa_cons (pe_lc (own := [("term", 4)]) (g := gName 4) (tt := tYes) rfl sc_is_bet.nd (pi_tup (pv 2)) (blkOk_by (own := [("term", 4)]) (N := N_is_bet) (sc := defScope s_is_bet) (by decide +kernel)) (fun _ _ _ _ _ => (pg_name (i := 4) sc_is_bet.nd rfl (.inl rfl))) (fun _ _ _ _ _ => pts_nil) (fun _ _ _ _ _ => (pe_call (ok_is_term T U) (hr.mono (by decide)) (by rfl) T.is_term.g T.is_term.F.kp T.is_term.b .nil pass0 (pa_cons (pv 0) (pa_cons (pv 4) pa_nil))))) pa_nil))))))), ?_⟩
    refine ⟨_, rfl, v, d, 2, 2, rfl, hT, _, rfl, ?_⟩
    cases e : rowD 2 2 d with
    | false =>
      have : isBtD cs d = false := by
        match d, e with
        | .tuple [a, b], e => exact absurd (show true = false from e) (by decide)
        | .none, _ => rfl
        | .bool _, _ => rfl
        | .int _, _ => rfl
        | .str _, _ => rfl
        | .list _, _ => rfl
        | .dict _, _ => rfl
        | .tuple [], _ => rfl
        | .tuple [_], _ => unfold isBtD; split <;> first | rfl | simp_all
        | .tuple (_ :: _ :: _ :: _), _ => unfold isBtD; split <;> first | rfl | simp_all
      rw [this] at q
      exact iteT (q _ (fun _ _ h => h))
    | true =>
      obtain ⟨d1, d2, rfl⟩ := rowD_two e
      obtain ⟨hz1, hz2⟩ := szD_tup hz
      cases hT with
      | tup tA al =>
      rename_i a xs
      cases al with
      | cons t1 al =>
      cases al with
      | cons t2 al =>
      cases al
      rename_i v1 v2
      refine iteF ⟨_, rfl, a, _, rfl, tA, rfl, _, _, rfl, _, _, rfl, rfl, ?_⟩
      refine ⟨_, rfl, v1, d1, 0, 8, rfl, t1, _, rfl, ?_⟩
      cases t1 with
      | tup tB bl =>
        rename_i b ys es
        have q : ∀ H', Same H H' → Q (.bl (decide (es.length ≤ 8) && (isSay cs d2 && es.all (isTm cs)))) H' := q
        obtain ⟨hz31, hz3⟩ := szD_tup (hz2 (.tuple es) (by simp))
        have eb : rowD 0 8 (.tuple es) = decide (es.length ≤ 8) := by
          show (decide ((0 : Int) ≤ (es.length : Int)) && decide ((es.length : Int) ≤ 8)) = _
          rw [decide_eq_true (Int.natCast_nonneg _), Bool.true_and]
          exact decide_eq_decide.mpr (by omega)
        rw [eb]
        have lb := bl.len
        by_cases h8 : es.length ≤ 8
        · rw [decide_eq_true h8, Bool.true_and] at q
          rw [decide_eq_true h8]
          refine iteF ⟨_, rfl, _, rfl, cs, v2, d2, rfl, t2, szD_say (hz2 d2 (by simp)), fun H1 s1 => ⟨_, rfl, ?_⟩⟩
          cases e2 : isSay cs d2 with
          | false =>
            rw [e2, Bool.false_and] at q
            exact iteT (q _ s1)
          | true =>
            rw [e2, Bool.true_and] at q
            refine iteF ⟨_, rfl, b, rfl, ⟨_, Same.tup s1 tB⟩, fun D nD => ?_⟩
            refine lcp_tup (K := K) (xs := ys) es (fun d => some (isTm cs d)) (R := fun _ v b => v = V.bl b) (fun _ _ _ _ _ h => h) (thAll_f2 (thAll_same s1 bl)) nD (Same.tup s1 tB) (Nat.lt_of_le_of_lt (show ys.length ≤ 8 by omega) (by decide)) ?_ ?_
            · intro v x H2 hv hx s2 Y N hY _
              exact ⟨rfl, lc_yes ⟨_, rfl, _, rfl, cs, v, x, rfl, th_same s2 hv, hz3 x hx, fun H3 s3 => hY _ _ _ s3 rfl rfl⟩⟩
            intro H2 zs h2 f2 s2
            rw [fm_some] at f2
            have ey := f2_eq f2
            subst ey
            refine ⟨D, _, rfl, .inl (.inl h2), ?_⟩
            rw [all_map_id]
            exact q _ (s1.trans s2)
        · rw [decide_eq_false h8, Bool.false_and] at q
          rw [decide_eq_false h8]
          exact iteT (iteT (q _ (fun _ _ h => h)))
      | _ => exact iteT (iteT (q _ (fun _ _ h => h)))
end
end B

namespace B
open PySem PySem.Spec PyProof.Rows L2

def sp_worlds_of (K : PySem.W.Frag) : Sp := fun vs H Q _ => ∃ (a : Addr) (cs : List Nat) (rs : List (List Wd)), vs = [.ref a] ∧ HsAt K H a cs rs ∧ HsOk cs rs ∧ ∀ (H' : Hp) (p : Addr), H' p = some (.tup (wvs (wor cs rs))) → Same H H' → Q (.ref p) H'

section
variable {P : Program} {w : World} {K : PySem.W.Frag} {mg : Str → Option Value} {base : Heap}
theorem ok_worlds_of (T : Tx K mg w) (U : Unl P base) : FnOk P w K mg base CX0 38 T.worlds_of.f T.worlds_of.fd ["house"] (sp_worlds_of K) := by
  refine T.worlds_of.F.ok sc_worlds_of (fun vs H Q E h => ?_) (fun cdv A outer s H vs Q E hr h => ?_)
  · obtain ⟨a, cs, rs, rfl, ⟨ra, rvs, hA, hRa, hW⟩, hO, q⟩ := h
    rfl
  · obtain ⟨a, cs, rs, rfl, ⟨ra, rvs, hA, hRa, hW⟩, hO, q⟩ := h
    refine ⟨_, (pss_cons (ps_asg (pv 0) (pg_tup rfl (pgs_cons (pg_name (i := 1) sc_worlds_of.nd rfl (.inr rfl)) (pgs_cons (pg_name (i := 2) sc_worlds_of.nd rfl (.inr rfl)) pgs_nil))))
      (pss_one (ps_ret (pe_callTy call_tuple_of (by rfl) T.m_tuple (by decide +kernel) (pa_cons (pe_lc (own := [("world", 3)]) (g := gName 3) rfl sc_worlds_of.nd (pi_list (pe_call (ok_worlds_over T U) (hr.mono (by decide)) (by rfl) T.worlds_over.g T.worlds_over.F.kp T.worlds_over.b .nil pass0 (pa_cons (pv 1) pa_nil))) (blkOk_by (own := [("world", 3)]) (N := N_worlds_of) (sc := defScope s_worlds_of) (by decide +kernel)) (fun _ _ _ _ _ => (pg_name (i := 3) sc_worlds_of.nd rfl (.inl rfl))) (fun _ _ _ _ _ => (pts_one (pt_val (pe_call (ok_keeps T U) (hr.mono (by decide)) (by rfl) T.keeps.g T.keeps.F.kp T.keeps.b .nil pass0 (pa_cons (pv 1) (pa_cons (pv 2) (pa_cons (pv 3) pa_nil))))))) (fun _ _ _ _ _ => (pv 3))) pa_nil))))), ?_⟩
    refine ⟨_, rfl, a, _, rfl, hA, rfl, _, _, rfl, _, _, rfl, rfl, ?_⟩
    refine ⟨_, rfl, cs, rfl, hO.c6, fun H1 p h1 np s1 => ?_⟩
    refine ⟨p, rfl, ⟨_, .inl (.inl h1)⟩, fun D nD => ?_⟩
    refine lc_list (K := K) (a := p) (xs := wvs (allW cs.length)) (fun j H' => H' D = some (.lst (wvs (((allW cs.length).take j).filter fun bs => rs.all fun r => sval (vl cs bs) r))) ∧ Same H1 H') ⟨upd_same, same_upd nD⟩ (fun j H' _ ⟨_, e⟩ => .inl (.inl (e _ _ h1))) ?_ ?_
    · rintro j x H2 hx ⟨h2, s2⟩
      have hj : j < (allW cs.length).length := by
        have := (List.getElem?_eq_some_iff.mp hx).1
        unfold wvs at this
        rw [List.length_map] at this
        exact this
      have gj : (allW cs.length)[j]? = some (allW cs.length)[j] := List.getElem?_eq_getElem hj
      have ex : x = V.str (wtx (allW cs.length)[j]) := by
        unfold wvs at hx
        rw [List.getElem?_map, gj] at hx
        exact (Option.some.inj hx).symm
      subst ex
      have lb := allW_len (List.getElem_mem hj)
      have S2 := s1.trans s2
      refine ⟨rfl, _, rfl, _, rfl, _, rfl, cs, ra, rvs, rs, _, rfl, Same.tup S2 hRa, hW.same S2, hO, lb.symm, fun H3 s3 => ⟨_, rfl, ?_⟩⟩
      have tf := take_filter (fun bs => rs.all fun r => sval (vl cs bs) r) (allW cs.length) j _ gj
      cases ev : (rs.all fun r => sval (vl cs (allW cs.length)[j]) r) with
      | false =>
        refine iteF ⟨?_, s2.trans s3⟩
        rw [tf, ev]
        simp only [Bool.false_eq_true, if_false, List.append_nil]
        exact s3 _ _ h2
      | true =>
        refine iteT ⟨_, rfl, _, s3 _ _ h2, ?_, ?_, fun b o e => ?_⟩
        · unfold wvs
          rw [List.length_map]
          refine Nat.lt_of_le_of_lt (Nat.le_trans (List.length_filter_le _ _) (show ((allW cs.length).take j).length ≤ 64 from ?_)) (by decide)
          rw [List.length_take, allW_length]
          have : 2 ^ cs.length ≤ 2 ^ 6 := Nat.pow_le_pow_right (by decide) hO.c6
          omega
        · rw [upd_same, tf, ev]
          unfold wvs
          rw [List.map_append]
          rfl
        · rw [upd_ne (ne_of_none e nD)]
          exact s3 _ _ (s2 _ _ e)
    rintro H2 ⟨h2, s2⟩
    have el : (wvs (allW cs.length)).length = (allW cs.length).length := List.length_map ..
    rw [el, List.take_length] at h2
    exact ⟨D, _, rfl, .inl ⟨.inl (.inl h2), fun p2 n2 => q _ p2 upd_same ((s1.trans s2).trans (same_upd n2))⟩⟩
end
end B

namespace B
open PySem PySem.Spec PyProof.Rows L2

def sp_brought (K : PySem.W.Frag) : Sp := fun vs H Q _ => ∃ (cs : List Nat) (v : V) (bs : List Bool) (t : Tkt), vs = [.str (tx cs), v, .str (wtx bs)] ∧ TkAt K H v t ∧ TkOk cs t ∧ cs.length = bs.length ∧ bs.length ≤ 100 ∧ ∀ (H' : Hp) (w : V), FAt K H' w (brF (vl cs bs) t) → Same H H' → Q w H'

section
variable {P : Program} {w : World} {K : PySem.W.Frag} {mg : Str → Option Value} {base : Heap}
theorem ok_brought (T : Tx K mg w) (U : Unl P base) : FnOk P w K mg base CX0 38 T.brought.f T.brought.fd ["letters", "ticket", "world"] (sp_brought K) := by
  refine T.brought.F.ok sc_brought (fun vs H Q E h => ?_) (fun cdv A outer s H vs Q E hr h => ?_)
  · obtain ⟨cs, v, bs, t, rfl, hT, hO, hl, hb, q⟩ := h
    rfl
  · obtain ⟨cs, v, bs, t, rfl, hT, hO, hl, hb, q⟩ := h
    refine ⟨_, (pss_cons (ps_asg (pv 1) (pg_tup rfl (pgs_cons (pg_name (i := 3) sc_brought.nd rfl (.inl rfl)) (pgs_cons (pg_name (i := 4) sc_brought.nd rfl (.inl rfl)) (pgs_cons (pg_name (i := 5) sc_brought.nd rfl (.inl rfl)) (pgs_cons (pg_name (i := 6) sc_brought.nd rfl (.inl rfl)) (pgs_cons (pg_name (i := 7) sc_brought.nd rfl (.inl rfl)) (pgs_cons (pg_name (i := 8) sc_brought.nd rfl (.inl rfl)) pgs_nil))))))))
      (pss_cons (ps_set (i := 9) sc_brought.nd rfl (.inl rfl) (pe_call (ok_pays T U) (hr.mono (by decide)) (by rfl) T.pays.g T.pays.F.kp T.pays.b .nil pass0 (pa_cons (pv 0) (pa_cons (pv 6) (pa_cons (pv 2) pa_nil)))))
      (pss_one (ps_ret (pe_ifExp (pt_cmpR op_isN (pv 9) pe_non (nomark _)) (pe_glob (v := .ref T.a_ZERO) (by rfl) T.g_ZERO rfl) (pe_call (ok_times T U) (hr.mono (by decide)) (by rfl) T.times.g T.times.F.kp T.times.b .nil pass0 (pa_cons (pv 8) (pa_cons (pe_call (ok_minus T U) (hr.mono (by decide)) (by rfl) T.minus.g T.minus.F.kp T.minus.b .nil pass0 (pa_cons (pv 9) (pa_cons (pv 7) pa_nil))) pa_nil)))))))), ?_⟩
    obtain ⟨tq, a, p, k, rfl, t1, t2, t3, t4⟩ := hT
    refine ⟨_, rfl, tq, _, rfl, t1, rfl, _, _, rfl, _, _, rfl, _, _, rfl, _, _, rfl, _, _, rfl, _, _, rfl, rfl, ?_⟩
    refine ⟨_, rfl, _, rfl, _, rfl, cs, a, t.b.ts, t.b.g, bs, rfl, t2, hO.b.bt, hl, hb, fun H1 u pu s1 => ?_⟩
    unfold brF at q
    refine ⟨_, rfl, rfl, _, rfl, ?_⟩
    cases e : payO (vl cs bs) t.b.ts t.b.g with
    | none =>
      rw [e] at q pu
      obtain rfl : u = .non := pu
      exact iteT (q _ _ ⟨T.a_ZERO, rfl, T.s_ZERO _⟩ s1)
    | some x =>
      rw [e] at q pu
      obtain ⟨w, rfl, tw⟩ := pu
      have pk : Fok 300 x := by rw [payO_some e]; exact hO.b.pz _
      have so := pk.sub hO.b.pp
      refine iteF ⟨_, rfl, _, rfl, _, rfl, w, p, x, t.b.p, rfl, tw, Same.tup s1 t3, pk.up (by decide), hO.b.pp.up (by decide), fun H2 m tm s2 => ?_⟩
      refine ⟨k, m, _, _, _, _, rfl, Same.tup (s1.trans s2) t4, tm, hO.k.f, so.f, (hO.k.up (by decide)).z, (so.up (by decide)).z, fun r nr => ?_⟩
      exact q _ _ ⟨r, rfl, sqt_upd⟩ ((s1.trans s2).trans (same_upd nr))
end
end B

namespace B
open PySem PySem.Spec PyProof.Rows L2

def sp_moved (K : PySem.W.Frag) : Sp := fun vs H Q _ => ∃ (P a : Addr) (pvs : List V) (ps : List (Int × Nat)) (g k : Nat) (x : Int × Nat), vs = [.ref P, .int g, .int k, .ref a] ∧ SqT K H P pvs ∧ F2 (FAt K H) pvs ps ∧ g < ps.length ∧ k < ps.length ∧ SqT K H a [.int x.1, .int x.2] ∧ (∀ p ∈ ps, Fok 100000 p) ∧ Fok 100000 x ∧ ∀ (H' : Hp) (r : Addr) (us : List V), SqT K H' r us → F2 (FAt K H') us (mvF ps g k x) → Same H H' → Q (.ref r) H'

section
variable {P : Program} {w : World} {K : PySem.W.Frag} {mg : Str → Option Value} {base : Heap}
theorem ok_moved (T : Tx K mg w) (U : Unl P base) : FnOk P w K mg base CX0 38 T.moved.f T.moved.fd ["purses", "giver", "taker", "amount"] (sp_moved K) := by
  refine T.moved.F.ok sc_moved (fun vs H Q E h => ?_) (fun cdv A outer s H vs Q E hr h => ?_)
  · obtain ⟨P, a, pvs, ps, g, k, x, rfl, tP, fP, lg, lk, ta, fo, fx, q⟩ := h
    rfl
  · obtain ⟨P, a, pvs, ps, g, k, x, rfl, tP, fP, lg, lk, ta, fo, fx, q⟩ := h
    refine ⟨_, (pss_cons (ps_set (i := 4) sc_moved.nd rfl (.inl rfl) (pe_callTy call_list_of (by rfl) T.m_list (by decide +kernel) (pa_cons (pv 0) pa_nil)))
      (pss_cons (ps_asg (pe_call (ok_minus T U) (hr.mono (by decide)) (by rfl) T.minus.g T.minus.F.kp T.minus.b .nil pass0 (pa_cons (pe_ix ix_list (pv 4) (pv 1) (fun _ _ => rfl)) (pa_cons (pv 3) pa_nil))) (pg_sub (pv 4) (pv 1) set_list))
      (pss_cons (ps_asg (pe_call (ok_plus T U) (hr.mono (by decide)) (by rfl) T.plus.g T.plus.F.kp T.plus.b .nil pass0 (pa_cons (pe_ix ix_list (pv 4) (pv 2) (fun _ _ => rfl)) (pa_cons (pv 3) pa_nil))) (pg_sub (pv 4) (pv 2) set_list))
      (pss_one (ps_ret (pe_callTy call_tuple_of (by rfl) T.m_tuple (by decide +kernel) (pa_cons (pv 4) pa_nil))))))), ?_⟩
    have lp := fP.len
    refine ⟨_, rfl, P, pvs, rfl, .inr tP, fun L nL => ?_⟩
    have sL := same_upd (o := .lst pvs) nL
    have hL : tgt sL L = some (.lst pvs) := upd_same
    have fL := fas_tk fP (Same.tk sL)
    obtain ⟨y, hy⟩ : ∃ y, ps[g]? = some y := ⟨_, List.getElem?_eq_getElem lg⟩
    obtain ⟨v1, hv1, f1, rfl, tf1⟩ := fL.getB hy
    have oy := fo y (List.mem_of_getElem? hy)
    refine ⟨_, rfl, _, rfl, L, pvs, (g : Int), .ref f1, rfl, rfl, .inl (.inl hL), atI_nat hv1, _, rfl, f1, a, y, x, rfl, tf1, Same.tup sL ta, oy.up (by decide), fx.up (by decide), fun H3 r1 t1 s3 => ?_⟩
    have hL3 := s3 _ _ hL
    refine ⟨_, rfl, _, rfl, L, pvs, (g : Int), g, rfl, rfl, hL3, ixn (by omega), ?_⟩
    have U4 := fun p xs t' => tup_upd (K := K) (a := p) (ys := xs) (zs := pvs.set g (.ref r1)) hL3 t'
    have F4 : F2 (FAt K (upd H3 L (.lst (pvs.set g (.ref r1))))) (pvs.set g (.ref r1)) (ps.set g (subF y x)) := F2.set (i := g) (fas_tk (fas_tk fL (Same.tk s3)) U4) ⟨r1, rfl, U4 _ _ t1⟩
    obtain ⟨z, hz⟩ : ∃ z, (ps.set g (subF y x))[k]? = some z := ⟨_, List.getElem?_eq_getElem (by rw [List.length_set]; exact lk)⟩
    obtain ⟨v2, hv2, f2, rfl, tf2⟩ := F4.getB hz
    have oz : Fok 300000 z := by
      rcases List.mem_or_eq_of_mem_set (List.mem_of_getElem? hz) with h | h
      · exact (fo z h).up (by decide)
      · rw [h]
        exact (oy.sub fx).up (by decide)
    have ta4 := U4 _ _ (Same.tup (sL.trans s3) ta)
    refine ⟨_, rfl, _, rfl, L, _, (k : Int), .ref f2, rfl, rfl, .inl (.inl upd_same), atI_nat hv2, _, rfl, f2, a, _, _, _, _, rfl, tf2, ta4, oz.f, fx.f, (oz.up (by decide)).z, (fx.up (by decide)).z, fun r2 n2 => ?_⟩
    have s5 := same_upd (o := .tup [.int (addF z x).1, .int (addF z x).2]) n2
    have hL5 : tgt s5 L = some (.lst (pvs.set g (.ref r1))) := s5 _ _ upd_same
    refine ⟨_, rfl, _, rfl, L, _, (k : Int), k, rfl, rfl, hL5, ixn (by rw [List.length_set]; omega), ?_⟩
    have U6 := fun p xs t' => tup_upd (K := K) (a := p) (ys := xs) (zs := (pvs.set g (.ref r1)).set k (.ref r2)) hL5 t'
    have F6 : F2 (FAt K (upd (tgt s5) L (.lst ((pvs.set g (.ref r1)).set k (.ref r2))))) ((pvs.set g (.ref r1)).set k (.ref r2)) ((ps.set g (subF y x)).set k (addF z x)) := F2.set (i := k) (fas_tk (fas_tk F4 (Same.tk s5)) U6) ⟨r2, rfl, U6 _ _ sqt_upd⟩
    have SS : Same H (upd (tgt s5) L (.lst ((pvs.set g (.ref r1)).set k (.ref r2)))) := same_mut nL ((same_mut nL (sL.trans s3)).trans s5)
    refine ⟨_, rfl, L, _, rfl, .inl ⟨.inl (.inl upd_same), fun p np => ?_⟩⟩
    have s7 := same_upd (o := .tup ((pvs.set g (.ref r1)).set k (.ref r2))) np
    refine q _ p _ sqt_upd ?_ (SS.trans s7)
    rw [mvF_of hy hz]
    exact fas_tk F6 (Same.tk s7)
end
end B

namespace B
open PySem PySem.Spec PyProof.Rows L2

def sp_l_table (K : PySem.W.Frag) : Sp := fun vs H Q _ => ∃ (h a : Addr) (cs : List Nat) (rs : List (List Wd)) (ts : List Tm) (g : List Wd), vs = [.ref h, .ref a] ∧ HsAt K H h cs rs ∧ HsOk cs rs ∧ BtAt K H a ts g ∧ BtOk cs ts g ∧ ∀ (H' : Hp) (p : Addr) (us : List V), SqT K H' p us → F2 (PdAt K H') us (tabO cs ts g (wor cs rs)) → Same H H' → Q (.ref p) H'

section
variable {P : Program} {w : World} {K : PySem.W.Frag} {mg : Str → Option Value} {base : Heap}
theorem ok_l_table (T : Tx K mg w) (U : Unl P base) : FnOk P w K mg base CX0 38 T.l_table.f T.l_table.fd ["_law_house", "_law_bet"] (sp_l_table K) := by
  refine T.l_table.F.ok sc_l_table (fun vs H Q E h => ?_) (fun cdv A outer s H vs Q E hr h => ?_)
  · obtain ⟨h, a, cs, rs, ts, g, rfl, hH, hO, hA, hB, q⟩ := h
    rfl
  · obtain ⟨h, a, cs, rs, ts, g, rfl, hH, hO, hA, hB, q⟩ := h
    refine ⟨_, (pss_one (ps_ret (pe_callTy call_tuple_of (by rfl) T.m_tuple (by decide +kernel) (pa_cons (pe_lc (own := [("_law_world", 2)]) (g := gName 2) (tt := tYes) rfl sc_l_table.nd (pi_tup (pe_call (ok_l_worlds T U) (hr.mono (by decide)) (by rfl) T.l_worlds.g T.l_worlds.F.kp T.l_worlds.b .nil pass0 (pa_cons (pv 0) pa_nil))) (blkOk_by (own := [("_law_world", 2)]) (N := N_l_table) (sc := defScope s_l_table) (by decide +kernel)) (fun _ _ _ _ _ => (pg_name (i := 2) sc_l_table.nd rfl (.inl rfl))) (fun _ _ _ _ _ => pts_nil) (fun _ _ _ _ _ => (pe_call (ok_l_paid T U) (hr.mono (by decide)) (by rfl) T.l_paid.g T.l_paid.F.kp T.l_paid.b .nil pass0 (pa_cons (pe_ix (r := rIxT K) ix_tup (pv 0) pe_int (fun _ _ => rfl)) (pa_cons (pv 1) (pa_cons (pv 2) pa_nil)))))) pa_nil)))), ?_⟩
    obtain ⟨ra, rvs, tA, tRa, tW⟩ := id hH
    refine ⟨_, rfl, h, ra, cs, rvs, rs, rfl, tA, tRa, tW, (fun r hr => ⟨(hO.sy r hr).1, Nat.le_trans (hO.sy r hr).2 (by decide)⟩), Nat.le_trans hO.few (by decide), hO.c6, hO.sm, fun H0 pw tw s0 => ?_⟩
    refine ⟨pw, rfl, ⟨_, tw⟩, fun D nD => ?_⟩
    refine lc_tup (K := K) (a := pw) (xs := wvs (wor cs rs)) (fun j H' => ∃ us, H' D = some (.lst us) ∧ F2 (PdAt K H') us (tabO cs ts g ((wor cs rs).take j)) ∧ Same H0 H') ⟨[], upd_same, .nil, same_upd nD⟩ (fun j H' _ ⟨_, _, _, e⟩ => Same.tup e tw) ?_ ?_
    · rintro j x H1 hx ⟨us, h1, f1, s1⟩
      obtain ⟨bs, hbs, rfl⟩ := wvs_get hx
      have lb := wor_len (List.mem_of_getElem? hbs)
      have c6 := hO.c6
      refine ⟨rfl, lc_yes ?_⟩
      refine ⟨_, rfl, h, _, 0, .str (tx cs), rfl, rfl, Same.tup (s0.trans s1) tA, rfl, _, rfl, _, rfl, cs, a, ts, g, bs, rfl, hA.same (s0.trans s1), hB, lb.symm, by omega, fun H2 u pu s2 => ?_⟩
      have ul := f1.len
      refine ⟨us, s2 _ _ h1, ?_, us ++ [u], upd_same, ?_, same_mut nD (s1.trans s2)⟩
      · unfold tabO at ul
        rw [List.length_map, List.length_take] at ul
        have := wor_le (rs := rs) c6
        exact Nat.lt_of_le_of_lt (show us.length ≤ 64 by omega) (by decide)
      · have e := tabO_take (cs := cs) (ts := ts) (g := g) hbs
        rw [e]
        exact ((f1.imp fun _ _ h => PdAt.mono (fun _ _ t => Same.tup s2 t) h).app (.one pu)).imp fun _ _ h => PdAt.mono (fun _ _ t => tup_upd (s2 _ _ h1) t) h
    · rintro H1 ⟨us, h1, f1, s1⟩
      rw [wvs_len, List.take_length] at f1
      refine ⟨D, us, rfl, .inl ⟨.inl (.inl h1), fun p np => ?_⟩⟩
      have s2 := same_upd (o := .tup us) np
      exact q _ p us sqt_upd (f1.imp fun _ _ h => PdAt.mono (fun _ _ t => Same.tup s2 t) h) ((s0.trans s1).trans s2)
end
end B

namespace B
open PySem PySem.Spec PyProof.Rows L2

def sp_may_be (K : PySem.W.Frag) : Sp := fun vs H Q _ => ∃ (a c : Addr) (cs : List Nat) (rs : List (List Wd)) (ws : List Wd), vs = [.ref a, .ref c] ∧ HsAt K H a cs rs ∧ HsOk cs rs ∧ SqT K H c (ws.map wv) ∧ Sy cs ws ∧ ws.length ≤ 10000 ∧ ∀ H', Same H H' → Q (.bl ((wor cs rs).any fun bs => sval (vl cs bs) ws)) H'

section
variable {P : Program} {w : World} {K : PySem.W.Frag} {mg : Str → Option Value} {base : Heap}
theorem ok_may_be (T : Tx K mg w) (U : Unl P base) : FnOk P w K mg base CX0 39 T.may_be.f T.may_be.fd ["house", "saying"] (sp_may_be K) := by
  refine T.may_be.F.ok sc_may_be (fun vs H Q E h => ?_) (fun cdv A outer s H vs Q E hr h => ?_)
  · obtain ⟨a, c, cs, rs, ws, rfl, hA, hO, hC, hY, hz, q⟩ := h
    rfl
  · obtain ⟨a, c, cs, rs, ws, rfl, hA, hO, hC, hY, hz, q⟩ := h
    refine ⟨_, (pss_one (ps_ret (pe_callB (cr_any rfl) (by rfl) T.m_any (by decide +kernel) (pa_cons (pe_lc (own := [("world", 2)]) (g := gName 2) (tt := tYes) rfl sc_may_be.nd (pi_tup (pe_call (ok_worlds_of T U) (hr.mono (by decide)) (by rfl) T.worlds_of.g T.worlds_of.F.kp T.worlds_of.b .nil pass0 (pa_cons (pv 0) pa_nil))) (blkOk_by (own := [("world", 2)]) (N := N_may_be) (sc := defScope s_may_be) (by decide +kernel)) (fun _ _ _ _ _ => (pg_name (i := 2) sc_may_be.nd rfl (.inl rfl))) (fun _ _ _ _ _ => pts_nil) (fun _ _ _ _ _ => (pe_call (ok_holds T U) (hr.mono (by decide)) (by rfl) T.holds.g T.holds.F.kp T.holds.b .nil pass0 (pa_cons (pe_ix (r := rIxT K) ix_tup (pv 0) pe_int (fun _ _ => rfl)) (pa_cons (pv 1) (pa_cons (pv 2) pa_nil)))))) pa_nil)))), ?_⟩
    refine ⟨_, rfl, a, cs, rs, rfl, hA, hO, fun H1 p h1 s1 => ?_⟩
    have tp : SqT K H1 p (wvs (wor cs rs)) := .inl (.inl h1)
    refine ⟨p, rfl, ⟨_, tp⟩, fun D nD => ?_⟩
    refine lc_tup (K := K) (a := p) (xs := wvs (wor cs rs)) (fun j H' => H' D = some (.lst ((((wor cs rs).take j).map fun bs => sval (vl cs bs) ws).map V.bl)) ∧ Same H1 H') ⟨upd_same, same_upd nD⟩ (fun j H' _ ⟨_, e⟩ => Same.tup e tp) ?_ ?_
    · rintro j x H2 hx ⟨h2, s2⟩
      obtain ⟨bs, gj, rfl⟩ : ∃ bs, (wor cs rs)[j]? = some bs ∧ x = .str (wtx bs) := by
        unfold wvs at hx
        rw [List.getElem?_map] at hx
        cases e : (wor cs rs)[j]? with
        | none => rw [e] at hx; cases hx
        | some bs => rw [e] at hx; exact ⟨bs, rfl, (Option.some.inj hx).symm⟩
      have lb := wor_len (List.mem_of_getElem? gj)
      have S2 := s1.trans s2
      obtain ⟨ra, rvs, ha, _, _⟩ := hA.same S2
      have h6 := hO.c6
      refine ⟨rfl, lc_yes ?_⟩
      refine ⟨_, rfl, a, _, 0, .str (tx cs), rfl, rfl, ha, rfl, _, rfl, _, rfl, cs, c, ws, bs, rfl, Same.tup S2 hC, hY, lb.symm, by omega, hz, fun H3 s3 => ?_⟩
      refine ⟨_, s3 _ _ h2, ?_, ?_, fun b o e => ?_⟩
      · rw [List.length_map, List.length_map, List.length_take]
        have := wor_le (rs := rs) h6
        exact Nat.lt_of_le_of_lt (show min j (wor cs rs).length ≤ 64 by omega) (by decide)
      · rw [upd_same, map_take_one _ _ _ _ gj, List.map_append]
        rfl
      · rw [upd_ne (ne_of_none e nD)]
        exact s3 _ _ (s2 _ _ e)
    rintro H2 ⟨h2, s2⟩
    have el : (wvs (wor cs rs)).length = (wor cs rs).length := List.length_map ..
    rw [el, List.take_length] at h2
    refine ⟨D, _, rfl, .inl (.inl h2), ?_⟩
    rw [any_map_id]
    exact q _ (s1.trans s2)
end
end B

namespace B
open PySem PySem.Spec PyProof.Rows L2

def sp_worths_at (K : PySem.W.Frag) : Sp := fun vs H Q _ => ∃ (cs : List Nat) (bs : List Bool) (P T : Addr) (pvs tvs : List V) (ps : List (Int × Nat)) (tks : List Tkt) (D M : Nat), vs = [.str (tx cs), .ref P, .ref T, .str (wtx bs)] ∧ SqT K H P pvs ∧ F2 (FAt K H) pvs ps ∧ (SqL K H T tvs ∨ SqT K H T tvs) ∧ F2 (TkAt K H) tvs tks ∧ (∀ t ∈ tks, TkOk cs t ∧ t.l < ps.length ∧ t.s < ps.length) ∧ WzOk D M (vl cs bs) ps tks ∧ cs.length = bs.length ∧ bs.length ≤ 100 ∧ ∀ (H' : Hp) (L : Addr) (us : List V), H' L = some (.lst us) → F2 (FAt K H') us (worthsF (vl cs bs) ps tks) → H L = none → Same H H' → Q (.ref L) H'

section
variable {P : Program} {w : World} {K : PySem.W.Frag} {mg : Str → Option Value} {base : Heap}
theorem ok_worths_at (T : Tx K mg w) (U : Unl P base) : FnOk P w K mg base CX0 39 T.worths_at.f T.worths_at.fd ["letters", "purses", "tickets", "world"] (sp_worths_at K) := by
  refine T.worths_at.F.ok sc_worths_at (fun vs H Q E h => ?_) (fun cdv A outer s H vs Q E hr h => ?_)
  · obtain ⟨cs, bs, P, T', pvs, tvs, ps, tks, D, M, rfl, tP, fP, tT, fT, hO, hZ, hl, hb, q⟩ := h
    rfl
  · obtain ⟨cs, bs, P, T', pvs, tvs, ps, tks, D, M, rfl, tP, fP, tT, fT, hO, hZ, hl, hb, q⟩ := h
    refine ⟨_, (pss_cons (ps_set (i := 4) sc_worths_at.nd rfl (.inl rfl) (pe_callTy call_list_of (by rfl) T.m_list (by decide +kernel) (pa_cons (pv 1) pa_nil)))
      (pss_cons (ps_for PassesOwn.never rfl (pi_seq (pv 2)) (pg_name (i := 5) sc_worths_at.nd rfl (.inl rfl))
      (pss_cons (ps_par (i := 6) (j := 7) (by rfl) sc_worths_at.nd rfl rfl (by decide) rfl rfl (pa_cons (pe_ix ix_tup (pv 5) pe_int (fun _ _ => rfl)) (pa_cons (pe_ix ix_tup (pv 5) pe_int (fun _ _ => rfl)) pa_nil)) (by rfl))
      (pss_cons (ps_set (i := 8) sc_worths_at.nd rfl (.inl rfl) (pe_call (ok_brought T U) (hr.mono (by decide)) (by rfl) T.brought.g T.brought.F.kp T.brought.b .nil pass0 (pa_cons (pv 0) (pa_cons (pv 5) (pa_cons (pv 3) pa_nil)))))
      (pss_cons (ps_asg (pe_call (ok_plus T U) (hr.mono (by decide)) (by rfl) T.plus.g T.plus.F.kp T.plus.b .nil pass0 (pa_cons (pe_ix ix_list (pv 4) (pv 6) (fun _ _ => rfl)) (pa_cons (pv 8) pa_nil))) (pg_sub (pv 4) (pv 6) set_list))
      (pss_one (ps_asg (pe_call (ok_plus T U) (hr.mono (by decide)) (by rfl) T.plus.g T.plus.F.kp T.plus.b .nil pass0 (pa_cons (pe_ix ix_list (pv 4) (pv 7) (fun _ _ => rfl)) (pa_cons (pe_call (ok_turned_about T U) (hr.mono (by decide)) (by rfl) T.turned_about.g T.turned_about.F.kp T.turned_about.b .nil pass0 (pa_cons (pv 8) pa_nil)) pa_nil))) (pg_sub (pv 4) (pv 7) set_list)))))))
      (pss_one (ps_ret (pv 4))))), ?_⟩
    have lp := fP.len
    have lt := fT.len
    refine ⟨_, rfl, P, pvs, rfl, .inr tP, fun L nL => ?_⟩
    have sL := same_upd (o := .lst pvs) nL
    refine ⟨_, rfl, T', rfl, ?_⟩
    rcases tT with tT | tT
    · refine .inl ⟨⟨_, Same.sql sL tT⟩, for_it (walk_list (K := K) (a := T') (xs := tvs)) (fun i σ H' => ∃ (x5 x6 x7 x8 : Option V) (us : List V), σ = [some (.str (tx cs)), some (.ref P), some (.ref T'), some (.str (wtx bs)), some (.ref L), x5, x6, x7, x8] ∧ H' L = some (.lst us) ∧ F2 (FAt K H') us (worthsF (vl cs bs) ps (tks.take i)) ∧ Same H H') ⟨none, none, none, none, pvs, rfl, upd_same, fas_tk fP (Same.tk sL), sL⟩ (fun i σ H' _ ⟨_, _, _, _, _, _, _, _, e⟩ => Same.sql e tT) ?_ ?_⟩
      · rintro i x σ H1 H2 hi ⟨x5, x6, x7, x8, us, rfl, hL, fL, s1⟩ ⟨rfl, hx⟩
        obtain ⟨t, ht, hT⟩ := (tks_tk fT (Same.tk s1)).getA hx
        obtain ⟨okt, o1, o2⟩ := hO t (List.mem_of_getElem? ht)
        obtain ⟨tq, a, p, k, rfl, t1, t2, t3, t4⟩ := id hT
        have z0 := (hZ.take i).fok
        have lW : us.length = ps.length := by rw [fL.len, worthsF_len]
        refine ⟨_, rfl, tq, _, 1, .int t.l, rfl, rfl, t1, rfl, _, rfl, tq, _, 2, .int t.s, rfl, rfl, t1, rfl, _, _, rfl, ?_⟩
        refine ⟨_, rfl, _, rfl, _, rfl, cs, _, bs, t, rfl, hT, okt, hl, hb, fun H3 w hw s3 => ?_⟩
        obtain ⟨g, rfl, tg⟩ := hw
        have ob := okt.br (vl cs bs)
        have hL3 := s3 _ _ hL
        have fL3 := fas_tk fL (Same.tk s3)
        have gl := List.getElem?_eq_getElem (l := worthsF (vl cs bs) ps (tks.take i)) (i := t.l) (by rw [worthsF_len]; exact o1)
        have eD : (worthsF (vl cs bs) ps (tks.take i)).getD t.l (0, 1) = (worthsF (vl cs bs) ps (tks.take i))[t.l]'(by rw [worthsF_len]; exact o1) := by rw [List.getD_eq_getElem?_getD, gl]; rfl
        obtain ⟨v1, hv1, f1, rfl, tf1⟩ := fL3.getB gl
        have k1 := z0 _ (List.mem_of_getElem? gl)
        refine ⟨_, rfl, _, rfl, L, us, (t.l : Int), .ref f1, rfl, rfl, .inl (.inl hL3), atI_nat hv1, _, rfl, f1, g, _, _, _, _, rfl, tf1, tg, k1.f, ob.f, (k1.up (by decide)).z, (ob.up (by decide)).z, fun r1 n1 => ?_⟩
        have s4 := same_upd (o := .tup [.int (addF ((worthsF (vl cs bs) ps (tks.take i))[t.l]'(by rw [worthsF_len]; exact o1)) (brF (vl cs bs) t)).1, .int (addF ((worthsF (vl cs bs) ps (tks.take i))[t.l]'(by rw [worthsF_len]; exact o1)) (brF (vl cs bs) t)).2]) n1
        have hL4 := s4 _ _ hL3
        refine ⟨_, rfl, _, rfl, L, us, (t.l : Int), t.l, rfl, rfl, hL4, ixn (by omega), ?_⟩
        have U4 := fun p xs t' => tup_upd (K := K) (a := p) (ys := xs) (zs := us.set t.l (.ref r1)) hL4 t'
        have F4 : F2 (FAt K (upd (tgt s4) L (.lst (us.set t.l (.ref r1))))) (us.set t.l (.ref r1)) ((worthsF (vl cs bs) ps (tks.take i)).set t.l (addF ((worthsF (vl cs bs) ps (tks.take i)).getD t.l (0, 1)) (brF (vl cs bs) t))) := by
          rw [eD]
          exact F2.set (i := t.l) (fas_tk (fas_tk fL3 (Same.tk s4)) U4) ⟨r1, rfl, U4 _ _ sqt_upd⟩
        have zm := hZ.mid ht
        generalize ew : (worthsF (vl cs bs) ps (tks.take i)).set t.l (addF ((worthsF (vl cs bs) ps (tks.take i)).getD t.l (0, 1)) (brF (vl cs bs) t)) = ws at *
        have lws : ws.length = ps.length := by rw [← ew, List.length_set, worthsF_len]
        have gs := List.getElem?_eq_getElem (l := ws) (i := t.s) (by omega)
        have eS : ws.getD t.s (0, 1) = ws[t.s]'(by omega) := by rw [List.getD_eq_getElem?_getD, gs]; rfl
        obtain ⟨v2, hv2, f2, rfl, tf2⟩ := F4.getB gs
        have k2 := zm _ (List.mem_of_getElem? gs)
        refine ⟨_, rfl, _, rfl, L, _, (t.s : Int), .ref f2, rfl, rfl, .inl (.inl upd_same), atI_nat hv2, _, rfl, g, _, _, rfl, U4 _ _ (Same.tup s4 tg), fun g2 n2 => ?_⟩
        have s5 := same_upd (o := .tup [.int (-(brF (vl cs bs) t).1), .int (brF (vl cs bs) t).2]) n2
        refine ⟨f2, g2, _, _, _, _, rfl, Same.tup s5 tf2, sqt_upd, k2.f, ob.neg.f, (k2.up (by decide)).z, (ob.neg.up (by decide)).z, fun r2 n3 => ?_⟩
        have s6 := same_upd (o := .tup [.int (addF (ws[t.s]'(by omega)) (negF (brF (vl cs bs) t))).1, .int (addF (ws[t.s]'(by omega)) (negF (brF (vl cs bs) t))).2]) n3
        have hL6 := (s5.trans s6) _ _ upd_same
        refine ⟨_, rfl, _, rfl, L, _, (t.s : Int), t.s, rfl, rfl, hL6, ixn (by rw [List.length_set]; omega), ?_⟩
        have U6 := fun p xs t' => tup_upd (K := K) (a := p) (ys := xs) (zs := (us.set t.l (.ref r1)).set t.s (.ref r2)) hL6 t'
        refine ⟨_, _, _, _, _, rfl, upd_same, ?_, ?_⟩
        · rw [worthsF_take _ _ ht]
          have : wStep (vl cs bs) (worthsF (vl cs bs) ps (tks.take i)) t = ws.set t.s (addF (ws.getD t.s (0, 1)) (negF (brF (vl cs bs) t))) := by rw [← ew]; rfl
          rw [this, eS]
          exact F2.set (i := t.s) (fas_tk (fas_tk F4 (Same.tk (s5.trans s6))) U6) ⟨r2, rfl, U6 _ _ sqt_upd⟩
        · exact same_mut nL (((same_mut nL (s1.trans (s3.trans s4))).trans (s5.trans s6)))
      · rintro σ H1 ⟨x5, x6, x7, x8, us, rfl, hL, fL, s1⟩
        rw [lt, List.take_length] at fL
        exact ⟨_, rfl, q _ L us hL fL nL s1⟩
    · refine .inr ⟨⟨_, Same.tup sL tT⟩, for_it (walk_tup (K := K) (a := T') (xs := tvs)) (fun i σ H' => ∃ (x5 x6 x7 x8 : Option V) (us : List V), σ = [some (.str (tx cs)), some (.ref P), some (.ref T'), some (.str (wtx bs)), some (.ref L), x5, x6, x7, x8] ∧ H' L = some (.lst us) ∧ F2 (FAt K H') us (worthsF (vl cs bs) ps (tks.take i)) ∧ Same H H') ⟨none, none, none, none, pvs, rfl, upd_same, fas_tk fP (Same.tk sL), sL⟩ (fun i σ H' _ ⟨_, _, _, _, _, _, _, _, e⟩ => Same.tup e tT) ?_ ?_⟩
      · rintro i x σ H1 H2 hi ⟨x5, x6, x7, x8, us, rfl, hL, fL, s1⟩ ⟨rfl, hx⟩
        obtain ⟨t, ht, hT⟩ := (tks_tk fT (Same.tk s1)).getA hx
        obtain ⟨okt, o1, o2⟩ := hO t (List.mem_of_getElem? ht)
        obtain ⟨tq, a, p, k, rfl, t1, t2, t3, t4⟩ := id hT
        have z0 := (hZ.take i).fok
        have lW : us.length = ps.length := by rw [fL.len, worthsF_len]
        refine ⟨_, rfl, tq, _, 1, .int t.l, rfl, rfl, t1, rfl, _, rfl, tq, _, 2, .int t.s, rfl, rfl, t1, rfl, _, _, rfl, ?_⟩
        refine ⟨_, rfl, _, rfl, _, rfl, cs, _, bs, t, rfl, hT, okt, hl, hb, fun H3 w hw s3 => ?_⟩
        obtain ⟨g, rfl, tg⟩ := hw
        have ob := okt.br (vl cs bs)
        have hL3 := s3 _ _ hL
        have fL3 := fas_tk fL (Same.tk s3)
        have gl := List.getElem?_eq_getElem (l := worthsF (vl cs bs) ps (tks.take i)) (i := t.l) (by rw [worthsF_len]; exact o1)
        have eD : (worthsF (vl cs bs) ps (tks.take i)).getD t.l (0, 1) = (worthsF (vl cs bs) ps (tks.take i))[t.l]'(by rw [worthsF_len]; exact o1) := by rw [List.getD_eq_getElem?_getD, gl]; rfl
        obtain ⟨v1, hv1, f1, rfl, tf1⟩ := fL3.getB gl
        have k1 := z0 _ (List.mem_of_getElem? gl)
        refine ⟨_, rfl, _, rfl, L, us, (t.l : Int), .ref f1, rfl, rfl, .inl (.inl hL3), atI_nat hv1, _, rfl, f1, g, _, _, _, _, rfl, tf1, tg, k1.f, ob.f, (k1.up (by decide)).z, (ob.up (by decide)).z, fun r1 n1 => ?_⟩
        have s4 := same_upd (o := .tup [.int (addF ((worthsF (vl cs bs) ps (tks.take i))[t.l]'(by rw [worthsF_len]; exact o1)) (brF (vl cs bs) t)).1, .int (addF ((worthsF (vl cs bs) ps (tks.take i))[t.l]'(by rw [worthsF_len]; exact o1)) (brF (vl cs bs) t)).2]) n1
        have hL4 := s4 _ _ hL3
        refine ⟨_, rfl, _, rfl, L, us, (t.l : Int), t.l, rfl, rfl, hL4, ixn (by omega), ?_⟩
        have U4 := fun p xs t' => tup_upd (K := K) (a := p) (ys := xs) (zs := us.set t.l (.ref r1)) hL4 t'
        have F4 : F2 (FAt K (upd (tgt s4) L (.lst (us.set t.l (.ref r1))))) (us.set t.l (.ref r1)) ((worthsF (vl cs bs) ps (tks.take i)).set t.l (addF ((worthsF (vl cs bs) ps (tks.take i)).getD t.l (0, 1)) (brF (vl cs bs) t))) := by
          rw [eD]
          exact F2.set (i := t.l) (fas_tk (fas_tk fL3 (Same.tk s4)) U4) ⟨r1, rfl, U4 _ _ sqt_upd⟩
        have zm := hZ.mid ht
        generalize ew : (worthsF (vl cs bs) ps (tks.take i)).set t.l (addF ((worthsF (vl cs bs) ps (tks.take i)).getD t.l (0, 1)) (brF (vl cs bs) t)) = ws at *
        have lws : ws.length = ps.length := by rw [← ew, List.length_set, worthsF_len]
        have gs := List.getElem?_eq_getElem (l := ws) (i := t.s) (by omega)
        have eS : ws.getD t.s (0, 1) = ws[t.s]'(by omega) := by rw [List.getD_eq_getElem?_getD, gs]; rfl
        obtain ⟨v2, hv2, f2, rfl, tf2⟩ := F4.getB gs
        have k2 := zm _ (List.mem_of_getElem? gs)
        refine ⟨_, rfl, _, rfl, L, _, (t.s : Int), .ref f2, rfl, rfl, .inl (.inl upd_same), atI_nat hv2, _, rfl, g, _, _, rfl, U4 _ _ (Same.tup s4 tg), fun g2 n2 => ?_⟩
        have s5 := same_upd (o := .tup [.int (-(brF (vl cs bs) t).1), .int (brF (vl cs bs) t).2]) n2
        refine ⟨f2, g2, _, _, _, _, rfl, Same.tup s5 tf2, sqt_upd, k2.f, ob.neg.f, (k2.up (by decide)).z, (ob.neg.up (by decide)).z, fun r2 n3 => ?_⟩
        have s6 := same_upd (o := .tup [.int (addF (ws[t.s]'(by omega)) (negF (brF (vl cs bs) t))).1, .int (addF (ws[t.s]'(by omega)) (negF (brF (vl cs bs) t))).2]) n3
        have hL6 := (s5.trans s6) _ _ upd_same
        refine ⟨_, rfl, _, rfl, L, _, (t.s : Int), t.s, rfl, rfl, hL6, ixn (by rw [List.length_set]; omega), ?_⟩
        have U6 := fun p xs t' => tup_upd (K := K) (a := p) (ys := xs) (zs := (us.set t.l (.ref r1)).set t.s (.ref r2)) hL6 t'
        refine ⟨_, _, _, _, _, rfl, upd_same, ?_, ?_⟩
        · rw [worthsF_take _ _ ht]
          have : wStep (vl cs bs) (worthsF (vl cs bs) ps (tks.take i)) t = ws.set t.s (addF (ws.getD t.s (0, 1)) (negF (brF (vl cs bs) t))) := by rw [← ew]; rfl
          rw [this, eS]
          exact F2.set (i := t.s) (fas_tk (fas_tk F4 (Same.tk (s5.trans s6))) U6) ⟨r2, rfl, U6 _ _ sqt_upd⟩
        · exact same_mut nL (((same_mut nL (s1.trans (s3.trans s4))).trans (s5.trans s6)))
      · rintro σ H1 ⟨x5, x6, x7, x8, us, rfl, hL, fL, s1⟩
        rw [lt, List.take_length] at fL
        exact ⟨_, rfl, q _ L us hL fL nL s1⟩
end
end B

namespace B
open PySem PySem.Spec PyProof.Rows L2

def sp_l_brings (K : PySem.W.Frag) : Sp := fun vs H Q _ => ∃ (h : Addr) (v : V) (cs : List Nat) (rs : List (List Wd)) (t : Tkt), vs = [.ref h, v] ∧ HsAt K H h cs rs ∧ HsOk cs rs ∧ TkAt K H v t ∧ TkOk cs t ∧ ∀ (H' : Hp) (L : Addr) (us : List V), H' L = some (.lst us) → F2 (FAt K H') us ((wor cs rs).map fun bs => brF (vl cs bs) t) → H L = none → Same H H' → Q (.ref L) H'

section
variable {P : Program} {w : World} {K : PySem.W.Frag} {mg : Str → Option Value} {base : Heap}
theorem ok_l_brings (T : Tx K mg w) (U : Unl P base) : FnOk P w K mg base CX0 39 T.l_brings.f T.l_brings.fd ["_law_house", "_law_ticket_here"] (sp_l_brings K) := by
  refine T.l_brings.F.ok sc_l_brings (fun vs H Q E h => ?_) (fun cdv A outer s H vs Q E hr h => ?_)
  · obtain ⟨h, v, cs, rs, t, rfl, hH, hO, hT, okt, q⟩ := h
    rfl
  · obtain ⟨h, v, cs, rs, t, rfl, hH, hO, hT, okt, q⟩ := h
    refine ⟨_, (pss_cons (ps_set (i := 2) sc_l_brings.nd rfl (.inl rfl) (pe_lst pa_nil))
      (pss_cons (ps_for PassesOwn.never rfl (pi_tup (pe_call (ok_l_table T U) (hr.mono (by decide)) (by rfl) T.l_table.g T.l_table.F.kp T.l_table.b .nil pass0 (pa_cons (pv 0) (pa_cons (pe_ix ix_tup (pv 1) pe_int (fun _ _ => rfl)) pa_nil)))) (pg_name (i := 3) sc_l_brings.nd rfl (.inl rfl))
      (pss_cons (ps_set (i := 4) sc_l_brings.nd rfl (.inl rfl) (pe_tup (pa_cons pe_int (pa_cons pe_int pa_nil))))
      (pss_cons (ps_if (pt_cmpR op_notN (pv 3) pe_non (nomark _)) (pss_one (ps_set (i := 4) sc_l_brings.nd rfl (.inl rfl) (pe_call (ok_l_times T U) (hr.mono (by decide)) (by rfl) T.l_times.g T.l_times.F.kp T.l_times.b .nil pass0 (pa_cons (pe_ix ix_tup (pv 1) pe_int (fun _ _ => rfl)) (pa_cons (pe_call (ok_l_plus T U) (hr.mono (by decide)) (by rfl) T.l_plus.g T.l_plus.F.kp T.l_plus.b .nil pass0 (pa_cons (pv 3) (pa_cons (pe_call (ok_l_turned T U) (hr.mono (by decide)) (by rfl) T.l_turned.g T.l_turned.F.kp T.l_turned.b .nil pass0 (pa_cons (pe_ix ix_tup (pv 1) pe_int (fun _ _ => rfl)) pa_nil)) pa_nil))) pa_nil))))) pss_nil)
      (pss_one (ps_expr (pe_bm PySem.F.plainAttrs_list PySem.F.slot_list_append PySem.F.type_list_append mt_append (pv 2) (pa_cons (pv 4) pa_nil)))))))
      (pss_one (ps_ret (pv 2))))), ?_⟩
    obtain ⟨tq, a, p, k, rfl, t1, t2, t3, t4⟩ := id hT
    have wle := wor_le (rs := rs) hO.c6
    refine ⟨by decide, fun L nL => ?_⟩
    have sL := same_upd (o := .lst []) nL
    refine ⟨_, rfl, _, rfl, tq, _, 3, .ref a, rfl, rfl, Same.tup sL t1, rfl, h, a, cs, rs, t.b.ts, t.b.g, rfl, hH.same sL, hO, t2.same sL, okt.b.bt, fun H1 pt us tt ft s1 => ?_⟩
    have S1 := sL.trans s1
    have ul := ft.len
    rw [tabO_len] at ul
    refine ⟨pt, rfl, ⟨_, tt⟩, for_it (walk_tup (K := K) (a := pt) (xs := us)) (fun i σ H' => ∃ (x3 x4 : Option V) (ys : List V), σ = [some (.ref h), some (.ref tq), some (.ref L), x3, x4] ∧ H' L = some (.lst ys) ∧ F2 (FAt K H') ys (((wor cs rs).take i).map fun bs => brF (vl cs bs) t) ∧ SqT K H' pt us ∧ F2 (PdAt K H') us (tabO cs t.b.ts t.b.g (wor cs rs)) ∧ Same H H') ⟨none, none, [], rfl, s1 _ _ upd_same, .nil, tt, ft, S1⟩ (fun i σ H' _ ⟨_, _, _, _, _, _, e, _⟩ => e) ?_ ?_⟩
    · rintro i x σ H2 _ hi ⟨x3, x4, ys, rfl, hL, fL, tt2, ft2, s2⟩ ⟨rfl, hx⟩
      obtain ⟨o, ho, po⟩ := ft2.getA hx
      unfold tabO at ho
      rw [List.getElem?_map] at ho
      cases hbs : (wor cs rs)[i]? with
      | none => rw [hbs] at ho; cases ho
      | some bs =>
      rw [hbs] at ho
      cases ho
      have ly := fL.len
      rw [List.length_map, List.length_take] at ly
      refine ⟨by show 2 ≤ sizeLine; decide, fun z nz => ?_⟩
      have s3 := same_upd (o := .tup [.int 0, .int 1]) nz
      refine ⟨_, rfl, rfl, _, rfl, ?_⟩
      have po : PdAt K _ x (payO (vl cs bs) t.b.ts t.b.g) := po
      rw [pdAt_notNone po]
      have eb : brF (vl cs bs) t = match payO (vl cs bs) t.b.ts t.b.g with | none => (0, 1) | some p => mulF t.k (subF p t.b.p) := rfl
      cases e : payO (vl cs bs) t.b.ts t.b.g with
      | none =>
        rw [e] at eb
        refine iteF ?_
        have tw : SqT K (tgt s3) z [.int (brF (vl cs bs) t).1, .int (brF (vl cs bs) t).2] := by rw [eb]; exact sqt_upd
        have hL9 := s3 _ _ hL
        have U := fun p xs t' => tup_upd (K := K) (a := p) (ys := xs) (zs := ys ++ [.ref z]) hL9 t'
        refine ⟨_, rfl, .inl ⟨rfl, _, .inl (.inl hL9)⟩, _, rfl, L, ys, .ref z, rfl, rfl, hL9, Nat.lt_of_le_of_lt (show ys.length ≤ 64 by omega) (by decide), ?_⟩
        refine ⟨_, _, _, rfl, upd_same, ?_, U _ _ (Same.tup s3 tt2), pds_tk (pds_tk ft2 (Same.tk s3)) U, same_mut nL (s2.trans s3)⟩
        rw [take_one _ i _ hbs, List.map_append]
        exact (fas_tk (fas_tk fL (Same.tk s3)) U).app (.cons ⟨z, rfl, U _ _ tw⟩ .nil)
      | some x =>
        rw [e] at eb po
        obtain ⟨pa, rfl, ta⟩ := po
        have pk : Fok 300 x := by rw [payO_some e]; exact okt.b.pz _
        have so := pk.sub okt.b.pp
        have S3 := s2.trans s3
        refine iteT ⟨_, rfl, tq, _, 5, .ref k, rfl, rfl, Same.tup S3 t1, rfl, _, rfl, _, rfl, tq, _, 4, .ref p, rfl, rfl, Same.tup S3 t1, rfl, p, t.b.p, rfl, Same.tup S3 t3, fun H4 r tr _ s4 => ?_⟩
        refine ⟨pa, r, x.1, (negF t.b.p).1, x.2, (negF t.b.p).2, rfl, Same.tup (s3.trans s4) ta, tr, pk.f, okt.b.pp.neg.f, pk.z.more (by decide), okt.b.pp.neg.z.more (by decide), fun r2 n2 => ?_⟩
        have s5 := same_upd (o := .tup [.int (addF x (negF t.b.p)).1, .int (addF x (negF t.b.p)).2]) n2
        refine ⟨k, r2, _, _, _, _, rfl, Same.tup (S3.trans (s4.trans s5)) t4, sqt_upd, okt.k.f, so.f, okt.k.z.more (by decide), so.z.more (by decide), fun r3 n3 => ?_⟩
        have s6 := same_upd (o := .tup [.int (mulF t.k (subF x t.b.p)).1, .int (mulF t.k (subF x t.b.p)).2]) n3
        have S6 := s3.trans (s4.trans (s5.trans s6))
        have tw : SqT K (tgt s6) r3 [.int (brF (vl cs bs) t).1, .int (brF (vl cs bs) t).2] := by rw [eb]; exact sqt_upd
        have hL9 := S6 _ _ hL
        have U := fun p xs t' => tup_upd (K := K) (a := p) (ys := xs) (zs := ys ++ [.ref r3]) hL9 t'
        refine ⟨_, rfl, .inl ⟨rfl, _, .inl (.inl hL9)⟩, _, rfl, L, ys, .ref r3, rfl, rfl, hL9, Nat.lt_of_le_of_lt (show ys.length ≤ 64 by omega) (by decide), ?_⟩
        refine ⟨_, _, _, rfl, upd_same, ?_, U _ _ (Same.tup S6 tt2), pds_tk (pds_tk ft2 (Same.tk S6)) U, same_mut nL (s2.trans S6)⟩
        rw [take_one _ i _ hbs, List.map_append]
        exact (fas_tk (fas_tk fL (Same.tk S6)) U).app (.cons ⟨r3, rfl, U _ _ tw⟩ .nil)
    · rintro σ H2 ⟨x3, x4, ys, rfl, hL, fL, tt2, ft2, s2⟩
      rw [ul, List.take_length] at fL
      exact ⟨_, rfl, q _ L ys hL fL nL s2⟩
end
end B

namespace B
open PySem PySem.Spec PyProof.Rows L2

def sp_l_wager (K : PySem.W.Frag) : Sp := fun vs H Q _ => ∃ (d : Dr) (b : Nat) (h : Addr) (cs : List Nat) (rs : List (List Wd)), vs = [.ref d.dr, .ref h] ∧ HsAt K H h cs rs ∧ HsOk cs rs ∧ 1 ≤ cs.length ∧ wor cs rs ≠ [] ∧ Drw H d (b + 12) ∧ ∀ (H' : Hp) (p : Addr) (ts : List Tm) (g : List Wd), BtAt K H' p ts g → BwOk cs ts g → somes (tabO cs ts g (wor cs rs)) ≠ [] → Drw H' d b → Kp d H H' → Q (.ref p) H'

section
variable {P : Program} {w : World} {K : PySem.W.Frag} {mg : Str → Option Value} {base : Heap}
theorem ok_l_wager (T : Tx K mg w) (U : Unl P base) : FnOk P w K mg base CX0 39 T.l_wager.f T.l_wager.fd ["_law_drawn", "_law_house"] (sp_l_wager K) := by
  refine T.l_wager.F.ok sc_l_wager (fun vs H Q E h => ?_) (fun cdv A outer s H vs Q E hr h => ?_)
  · obtain ⟨d, b, h, cs, rs, rfl, hH, hO, c1, hne, hD, q⟩ := h
    rfl
  · obtain ⟨d, b, h, cs, rs, rfl, hH, hO, c1, hne, hD, q⟩ := h
    refine ⟨_, (pss_cons (ps_set (i := 2) sc_l_wager.nd rfl (.inl rfl) (pe_lst (pa_cons (pe_tup (pa_cons pe_int (pa_cons pe_int pa_nil))) (pa_cons (pe_tup (pa_cons pe_int (pa_cons pe_int pa_nil))) (pa_cons (pe_tup (pa_cons pe_int (pa_cons pe_int pa_nil))) (pa_cons (pe_tup (pa_cons (pe_un un_neg pe_int) (pa_cons pe_int pa_nil))) (pa_cons (pe_tup (pa_cons (pe_un un_neg pe_int) (pa_cons pe_int pa_nil))) (pa_cons (pe_tup (pa_cons pe_int (pa_cons pe_int pa_nil))) (pa_cons (pe_tup (pa_cons pe_int (pa_cons pe_int pa_nil))) (pa_cons (pe_tup (pa_cons (pe_op op_add (pe_op op_pow pe_int pe_int) pe_int) (pa_cons (pe_op op_pow pe_int pe_int) pa_nil))) pa_nil))))))))))
      (pss_cons (ps_set (i := 3) sc_l_wager.nd rfl (.inl rfl) (pe_tup pa_nil))
      (pss_cons (ps_for PassesOwn.never rfl (pi_range1 (by rfl) T.m_range (pa_cons (pe_call (ok_l_next T U) (hr.mono (by decide)) (by rfl) T.l_next.g T.l_next.F.kp T.l_next.b .nil pass0 (pa_cons (pv 0) (pa_cons pe_int pa_nil))) pa_nil)) (pg_name (i := 4) sc_l_wager.nd rfl (.inl rfl))
      (pss_one (ps_set (i := 3) sc_l_wager.nd rfl (.inl rfl) (pe_op op_catS (pv 3) (pe_tup (pa_cons (pe_tup (pa_cons (pe_ix ix_list (pv 2) (pe_call (ok_l_next T U) (hr.mono (by decide)) (by rfl) T.l_next.g T.l_next.F.kp T.l_next.b .nil pass0 (pa_cons (pv 0) (pa_cons pe_int pa_nil))) (fun _ _ => rfl)) (pa_cons (pe_call (ok_l_simple T U) (hr.mono (by decide)) (by rfl) T.l_simple.g T.l_simple.F.kp T.l_simple.b .nil pass0 (pa_cons (pv 0) (pa_cons (pe_ix ix_tup (pv 1) pe_int (fun _ _ => rfl)) pa_nil))) pa_nil))) pa_nil))))))
      (pss_cons (ps_set (i := 5) sc_l_wager.nd rfl (.inl rfl) (pe_tup (pa_cons (pv 3) (pa_cons (pe_call (ok_l_simple T U) (hr.mono (by decide)) (by rfl) T.l_simple.g T.l_simple.F.kp T.l_simple.b .nil pass0 (pa_cons (pv 0) (pa_cons (pe_ix ix_tup (pv 1) pe_int (fun _ _ => rfl)) pa_nil))) pa_nil))))
      (pss_cons (ps_if (pt_cmpR (op_eqD hr.units) (pe_lc (own := [("_law_paid_here", 6)]) (g := gName 6) rfl sc_l_wager.nd (pi_tup (pe_call (ok_l_table T U) (hr.mono (by decide)) (by rfl) T.l_table.g T.l_table.F.kp T.l_table.b .nil pass0 (pa_cons (pv 1) (pa_cons (pv 5) pa_nil)))) (blkOk_by (own := [("_law_paid_here", 6)]) (N := N_l_wager) (sc := defScope s_l_wager) (by decide +kernel)) (fun _ _ _ _ _ => (pg_name (i := 6) sc_l_wager.nd rfl (.inl rfl))) (fun _ _ _ _ _ => (pts_one (pt_cmpR op_notN (pv 6) pe_non (nomark _)))) (fun _ _ _ _ _ => (pv 6))) (pe_lst pa_nil) (nomark _)) (pss_one (ps_ret (pe_tup (pa_cons (pv 3) (pa_cons (pe_tup (pa_cons pe_str pa_nil)) pa_nil))))) pss_nil)
      (pss_one (ps_ret (pv 5)))))))), ?_⟩
    have h6 := hO.c6
    obtain ⟨ra, rvs, tA, _, _⟩ := id hH
    refine ⟨by show 2 ≤ sizeLine; decide, fun a1 n1 => ?_⟩
    have s1 := same_upd (o := .tup [.int 0, .int 1]) n1
    refine ⟨by show 2 ≤ sizeLine; decide, fun a2 n2 => ?_⟩
    have s2 := same_upd (o := .tup [.int 1, .int 1]) n2
    refine ⟨by show 2 ≤ sizeLine; decide, fun a3 n3 => ?_⟩
    have s3 := same_upd (o := .tup [.int 2, .int 1]) n3
    refine ⟨1, rfl, by show 2 ≤ sizeLine; decide, fun a4 n4 => ?_⟩
    have s4 := same_upd (o := .tup [.int (-1), .int 1]) n4
    refine ⟨3, rfl, by show 2 ≤ sizeLine; decide, fun a5 n5 => ?_⟩
    have s5 := same_upd (o := .tup [.int (-3), .int 2]) n5
    refine ⟨by show 2 ≤ sizeLine; decide, fun a6 n6 => ?_⟩
    have s6 := same_upd (o := .tup [.int 5, .int 7]) n6
    refine ⟨by show 2 ≤ sizeLine; decide, fun a7 n7 => ?_⟩
    have s7 := same_upd (o := .tup [.int 40, .int 1]) n7
    refine ⟨_, _, rfl, rfl, ⟨by decide, by decide, by decide⟩, _, _, rfl, rfl, _, _, rfl, rfl, ⟨by decide, by decide, by decide⟩, by show 2 ≤ sizeLine; decide, fun a8 n8 => ?_⟩
    have s8 := same_upd (o := .tup [.int ((10 : Int) ^ (19 : Int).toNat + 1), .int ((10 : Int) ^ (6 : Int).toNat)]) n8
    refine ⟨by show 8 ≤ sizeLine; decide, fun L nL => ?_⟩
    have s9 := same_upd (o := .lst [.ref a1, .ref a2, .ref a3, .ref a4, .ref a5, .ref a6, .ref a7, .ref a8]) nL
    have t8 := s8.trans s9
    have t7 := s7.trans t8
    have t6 := s6.trans t7
    have t5 := s5.trans t6
    have t4 := s4.trans t5
    have t3 := s3.trans t4
    have t2 := s2.trans t3
    have t1 := s1.trans t2
    have nL1 := (hD.same (s1.trans (s2.trans (s3.trans (s4.trans (s5.trans (s6.trans (s7.trans s8)))))))).no nL
    have w9 := hD.same t1
    have item : ∀ {H' : Hp}, Tk K (tgt s9) H' → ∀ j : Nat, j < 8 → ∃ (p : Addr) (x : Int × Nat), atI [V.ref a1, .ref a2, .ref a3, .ref a4, .ref a5, .ref a6, .ref a7, .ref a8] (j : Int) = some (.ref p) ∧ SqT K H' p [.int x.1, .int x.2] ∧ Fb 7000000 (2 ^ 44) x := fun k j hj => by
      have : j = 0 ∨ j = 1 ∨ j = 2 ∨ j = 3 ∨ j = 4 ∨ j = 5 ∨ j = 6 ∨ j = 7 := by omega
      rcases this with rfl | rfl | rfl | rfl | rfl | rfl | rfl | rfl
      · exact ⟨a1, (0, 1), rfl, k _ _ (Same.tup t2 sqt_upd), fb_dec (by decide +kernel)⟩
      · exact ⟨a2, (1, 1), rfl, k _ _ (Same.tup t3 sqt_upd), fb_dec (by decide +kernel)⟩
      · exact ⟨a3, (2, 1), rfl, k _ _ (Same.tup t4 sqt_upd), fb_dec (by decide +kernel)⟩
      · exact ⟨a4, (-1, 1), rfl, k _ _ (Same.tup t5 sqt_upd), fb_dec (by decide +kernel)⟩
      · exact ⟨a5, (-3, 2), rfl, k _ _ (Same.tup t6 sqt_upd), fb_dec (by decide +kernel)⟩
      · exact ⟨a6, (5, 7), rfl, k _ _ (Same.tup t7 sqt_upd), fb_dec (by decide +kernel)⟩
      · exact ⟨a7, (40, 1), rfl, k _ _ (Same.tup t8 sqt_upd), fb_dec (by decide +kernel)⟩
      · exact ⟨a8, (10000000000000000001, 1000000), rfl, k _ _ (Same.tup s9 sqt_upd), fb_dec (by decide +kernel)⟩
    refine ⟨by show 0 ≤ sizeLine; decide, fun e0 ne0 => ?_⟩
    have s10 := same_upd (o := .tup []) ne0
    have w10 := w9.same s10
    refine ⟨_, rfl, d, b + 11, 3, rfl, by decide, by decide, w10.less (by omega), fun H1 r r0 r1 w1 k1 => ?_⟩
    have K1 : Kp d H H1 := (Same.kp (t1.trans s10)).trans k1
    have T1 : Tk K (tgt s9) H1 := fun _ _ t => Kp.tup k1 w10 (Same.tup s10 t)
    refine ⟨r, rfl, by omega, by omega, for_range (lo := 0) (n := r.toNat) (fun i σ H' => ∃ (x4 x5 x6 : Option V) (p : Addr) (tvs : List V) (ts : List Tm), σ = [some (.ref d.dr), some (.ref h), some (.ref L), some (.ref p), x4, x5, x6] ∧ SqT K H' p tvs ∧ F2 (TmAt K H') tvs ts ∧ ts.length = i ∧ (∀ x ∈ ts, Fb 7000000 (2 ^ 44) x.a ∧ Sy cs x.w ∧ x.w.length ≤ 10) ∧ Drw H' d (b + 11 - 4 * i) ∧ Kp d H1 H') ⟨none, none, none, e0, [], [], rfl, Kp.tup k1 w10 sqt_upd, .nil, rfl, nofun, w1, Kp.refl _ _⟩ ?_ ?_⟩
    · rintro i σ H2 hi ⟨x4, x5, x6, p, tvs, ts, rfl, tp, ft, lt, ok, w2, k2⟩
      have hi2 : i < 2 := by omega
      have lv := ft.len
      have K2 := K1.trans k2
      refine ⟨_, rfl, _, rfl, _, rfl, d, b + 11 - 4 * i - 1, 8, rfl, by decide, by decide, w2.less (by omega), fun H3 r' r0' r1' w3 k3 => ?_⟩
      obtain ⟨j, rfl⟩ := Int.eq_ofNat_of_zero_le r0'
      have K3 := K2.trans k3
      have T3 : Tk K (tgt s9) H3 := fun _ _ t => Kp.tup k3 w2 (Kp.tup k2 w1 (T1 _ _ t))
      obtain ⟨pa, x, hix, tx', fx⟩ := item T3 j (by omega)
      have hL3 : H3 L = _ := k3 _ _ (k2 _ _ (k1 _ _ (s10 _ _ upd_same) nL1.1 nL1.2) nL1.1 nL1.2) nL1.1 nL1.2
      refine ⟨L, _, (j : Int), .ref pa, rfl, rfl, .inl (.inl hL3), hix, ?_⟩
      have tA3 : SqT K H3 h [.str (tx cs), .ref ra] := Kp.tup K3 hD tA
      refine ⟨_, rfl, _, rfl, h, _, 0, .str (tx cs), rfl, rfl, tA3, rfl, d, b + 11 - 4 * i - 4, cs, rfl, c1, h6, w3.less (by omega), fun H4 pu u tu yu lu w4 k4 => ?_⟩
      refine ⟨by show 2 ≤ sizeLine; decide, fun q1 m1 => ?_⟩
      have z1 := same_upd (o := .tup [.ref pa, .ref pu]) m1
      refine ⟨by show 1 ≤ sizeLine; decide, fun q2 m2 => ?_⟩
      have z2 := same_upd (o := .tup [.ref q1]) m2
      have Z2 := z1.trans z2
      have M : Tk K H2 (tgt z2) := fun _ _ t => Same.tup Z2 (Kp.tup k4 w3 (Kp.tup k3 w2 t))
      refine ⟨p, q2, tvs, _, rfl, rfl, M _ _ tp, sqt_upd, by show tvs.length + 1 ≤ 100000; omega, fun q3 H5 t5 z3 => ?_⟩
      have t5 : SqT K H5 q3 (tvs ++ [.ref q1]) := t5
      refine ⟨_, _, _, q3, tvs ++ [.ref q1], ts ++ [⟨x, u⟩], rfl, t5, (tms_tk ft (fun _ _ t => Same.tup z3 (M _ _ t))).app (.cons ⟨q1, pa, pu, rfl, Same.tup (z2.trans z3) sqt_upd, Same.tup (Z2.trans z3) (Kp.tup k4 w3 tx'), Same.tup (Z2.trans z3) tu⟩ .nil), by rw [List.length_append, lt]; rfl, fun y hy => ?_, (w4.same (Z2.trans z3)).less (by omega), k2.trans (k3.trans (k4.trans (Same.kp (Z2.trans z3))))⟩
      rcases List.mem_append.mp hy with z | z
      · exact ok y z
      · rw [List.mem_singleton.mp z]
        exact ⟨fx, yu, by show u.length ≤ 10; omega⟩
    rintro σ H2 ⟨x4, x5, x6, p, tvs, ts, rfl, tp, ft, lt, ok, w2, k2⟩
    have K2 := K1.trans k2
    have l2 : ts.length ≤ 2 := by omega
    have tA2 : SqT K H2 h [.str (tx cs), .ref ra] := Kp.tup K2 hD tA
    refine ⟨_, rfl, _, rfl, _, rfl, h, _, 0, .str (tx cs), rfl, rfl, tA2, rfl, d, b, cs, rfl, c1, h6, w2.less (by omega), fun H3 pg g tg yg lg w3 k3 => ?_⟩
    refine ⟨by show 2 ≤ sizeLine; decide, fun bt nbt => ?_⟩
    have z1 := same_upd (o := .tup [.ref p, .ref pg]) nbt
    have M : Tk K H2 (tgt z1) := fun _ _ t => Same.tup z1 (Kp.tup k3 w2 t)
    have hB : BtAt K (tgt z1) bt ts g := ⟨p, pg, tvs, sqt_upd, M _ _ tp, tms_tk ft M, Same.tup z1 tg⟩
    have bw := BwOk.of ok l2 yg (show g.length ≤ 10 by omega)
    have w4 := w3.same z1
    have K4 : Kp d H (tgt z1) := K2.trans (k3.trans (Same.kp z1))
    have hH4 := hH.mono fun _ _ t => Kp.tup K4 hD t
    refine ⟨_, rfl, _, rfl, h, bt, cs, rs, ts, g, rfl, hH4, hO, hB, bw.ok, fun H5 pt us tt ft5 s5 => ?_⟩
    have ul := ft5.len
    rw [tabO_len] at ul
    have wl := wor_le (rs := rs) h6
    refine ⟨pt, rfl, ⟨_, tt⟩, fun D nD => ?_⟩
    refine lcp_tup (K := K) (R := FAt K) (IR := PdAt K H5) (tabO cs ts g (wor cs rs)) id (fun _ _ _ _ k h => h.mono k) ft5 nD tt (Nat.lt_of_le_of_lt (show us.length ≤ 64 by omega) (by decide)) ?_ ?_
    · rintro v o H6 pv _ s6 Y N hYes hNo
      refine ⟨rfl, _, rfl, rfl, _, rfl, ?_⟩
      rw [pdAt_notNone pv]
      cases o with
      | none => exact hNo _ (fun _ _ h => h) rfl
      | some x => exact ⟨_, rfl, hYes _ _ x (fun _ _ h => h) rfl (FAt.mono (Same.tk s6) pv)⟩
    intro H6 ys h6' f6 s6
    refine ⟨by decide, fun E nE => ?_⟩
    have s7 := same_upd (o := .lst []) nE
    refine ⟨_, _, .lst (.inl (.inl (s7 _ _ h6'))) ((fas_tk f6 (Same.tk s7)).dp fun _ _ h => h.dp), .lst sql_upd .nil, odats_shaped _, rfl, _, rfl, ?_⟩
    have S7 := s5.trans (s6.trans s7)
    rw [eqv_nil, List.isEmpty_map]
    refine ite2 (fun e => ?_) (fun e => ?_)
    · refine ⟨_, rfl, by show 1 ≤ sizeLine; decide, fun y1 ny1 => ?_⟩
      have u1 := same_upd (o := .tup [.str "yes"]) ny1
      refine ⟨by show 2 ≤ sizeLine; decide, fun y2 ny2 => ?_⟩
      have u2 := same_upd (o := .tup [.ref p, .ref y1]) ny2
      have U := S7.trans (u1.trans u2)
      exact q _ y2 ts [.yes] ⟨p, y1, tvs, sqt_upd, Same.tup U (M _ _ tp), tms_tk (tms_tk ft M) (Same.tk U), Same.tup u2 sqt_upd⟩ (BwOk.of ok l2 Sy.yes (by show 1 ≤ 10; decide)) (somes_yes ts hne) (w4.same U) (K4.trans (Same.kp U))
    · refine ⟨_, rfl, q _ bt ts g (hB.mono (Same.tk S7)) bw ?_ (w4.same S7) (K4.trans (Same.kp S7))⟩
      intro z
      exact e (by rw [show (tabO cs ts g (wor cs rs)).filterMap id = [] from z]; rfl)
end
end B

namespace B
open PySem PySem.Spec PyProof.Rows L2

def sp_lives (K : PySem.W.Frag) : Sp := fun vs H Q _ => ∃ (h : Addr) (v : V) (d : PyData) (cs : List Nat) (rs : List (List Wd)), vs = [.ref h, v] ∧ HsAt K H h cs rs ∧ HsOk cs rs ∧ Th K H v d ∧ szD d = true ∧ ∀ H', Same H H' → Q (.bl (livD cs rs d)) H'

section
variable {P : Program} {w : World} {K : PySem.W.Frag} {mg : Str → Option Value} {base : Heap}
theorem ok_lives (T : Tx K mg w) (U : Unl P base) : FnOk P w K mg base CX0 40 T.lives.f T.lives.fd ["house", "thing"] (sp_lives K) := by
  refine T.lives.F.ok sc_lives (fun vs H Q E h => ?_) (fun cdv A outer s H vs Q E hr h => ?_)
  · obtain ⟨h, v, d, cs, rs, rfl, hH, hO, hT, hz, q⟩ := h
    rfl
  · obtain ⟨h, v, d, cs, rs, rfl, hH, hO, hT, hz, q⟩ := h
    refine ⟨_, (pss_one (ps_ret (pe_and (pe_call (ok_is_bet T U) (hr.mono (by decide)) (by rfl) T.is_bet.g T.is_bet.F.kp T.is_bet.b .nil pass0 (pa_cons (pe_ix ix_tup (pv 0) pe_int (fun _ _ => rfl)) (pa_cons (pv 1) pa_nil))) (pe_one (pe_call (ok_may_be T U) (hr.mono (by decide)) (by rfl) T.may_be.g T.may_be.F.kp T.may_be.b .nil pass0 (pa_cons (pv 0) (pa_cons (pe_ix ix_tup (pv 1) pe_int (fun _ _ => rfl)) pa_nil))))))), ?_⟩
    obtain ⟨ra, rvs, tH, _, _⟩ := id hH
    refine ⟨_, rfl, h, _, 0, .str (tx cs), rfl, rfl, tH, rfl, _, rfl, cs, v, d, rfl, hT, hz, fun H1 s1 => ⟨_, rfl, ?_⟩⟩
    unfold livD at q
    cases e2 : isBtD cs d with
    | false =>
      rw [e2, Bool.false_and] at q
      exact iteF (q _ s1)
    | true =>
      rw [e2, Bool.true_and] at q
      match d, e2, hT, q with
      | .tuple [.tuple ds, g], e2, t1, q =>
        have e2 : (decide (ds.length ≤ 8) && (isSay cs g && ds.all (isTm cs))) = true := e2
        rw [Bool.and_eq_true, Bool.and_eq_true] at e2
        obtain ⟨ws, rfl, yw, lw⟩ := isSay_iff.mp e2.2.1
        cases t1 with
        | tup tB bl =>
        rename_i b ys
        cases bl with
        | cons s1' bl =>
        cases bl with
        | cons s2' bl =>
        cases bl
        cases s2' with
        | tup tC cl =>
        rename_i c zs
        have ez : zs = ws.map wv := by
          have : ∀ {zs : List V} {ws : List Wd}, ThAll K H zs (ws.map fun w => .str w.s) → zs = ws.map wv := by
            intro zs ws
            induction ws generalizing zs with
            | nil => intro t; cases t; rfl
            | cons w r ih =>
              intro t
              cases t with
              | cons t1 t2 =>
                cases t1
                rw [ih t2]
                rfl
          exact this cl
        subst ez
        have q : ∀ H', Same H H' → Q (.bl ((wor cs rs).any fun bs => sval (vl cs bs) (wdsD (wdat ws)))) H' := q
        rw [wdsD_wdat] at q
        exact iteT ⟨_, rfl, _, rfl, b, _, 1, .ref c, rfl, rfl, Same.tup s1 tB, rfl, h, c, cs, rs, ws, rfl, hH.same s1, hO, Same.tup s1 tC, yw, by omega, fun H2 s2 => q _ (s1.trans s2)⟩
end
end B

namespace B
open PySem PySem.Spec PyProof.Rows L2

def sp_covered (K : PySem.W.Frag) : Sp := fun vs H Q _ => ∃ (h P T : Addr) (cs : List Nat) (rs : List (List Wd)) (pvs tvs : List V) (ps : List (Int × Nat)) (tks : List Tkt) (D M : Nat), vs = [.ref h, .ref P, .ref T] ∧ HsAt K H h cs rs ∧ HsOk cs rs ∧ SqT K H P pvs ∧ F2 (FAt K H) pvs ps ∧ ps.length ≤ 100 ∧ SqT K H T tvs ∧ F2 (TkAt K H) tvs tks ∧ (∀ t ∈ tks, TkOk cs t ∧ t.l < ps.length ∧ t.s < ps.length) ∧ (∀ bs ∈ wor cs rs, WzOk D M (vl cs bs) ps tks) ∧ ∀ H', Same H H' → Q (.bl (covB cs (wor cs rs) ps tks)) H'

section
variable {P : Program} {w : World} {K : PySem.W.Frag} {mg : Str → Option Value} {base : Heap}
theorem ok_covered (T : Tx K mg w) (U : Unl P base) : FnOk P w K mg base CX0 40 T.covered.f T.covered.fd ["house", "purses", "tickets"] (sp_covered K) := by
  refine T.covered.F.ok sc_covered (fun vs H Q E h => ?_) (fun cdv A outer s H vs Q E hr h => ?_)
  · obtain ⟨h, P, T', cs, rs, pvs, tvs, ps, tks, D, M, rfl, hH, hO, tP, fP, hl, tT, fT, hK, hZ, q⟩ := h
    rfl
  · obtain ⟨h, P, T', cs, rs, pvs, tvs, ps, tks, D, M, rfl, hH, hO, tP, fP, hl, tT, fT, hK, hZ, q⟩ := h
    refine ⟨_, (pss_cons (ps_for PassesOwn.never rfl (pi_tup (pe_call (ok_worlds_of T U) (hr.mono (by decide)) (by rfl) T.worlds_of.g T.worlds_of.F.kp T.worlds_of.b .nil pass0 (pa_cons (pv 0) pa_nil))) (pg_name (i := 3) sc_covered.nd rfl (.inl rfl))
      (pss_one (ps_if (pt_val (pe_callB (cr_any rfl) (by rfl) T.m_any (by decide +kernel) (pa_cons (pe_lc (own := [("worth", 4)]) (g := gName 4) (tt := tYes) rfl sc_covered.nd (pi_list (pe_call (ok_worths_at T U) (hr.mono (by decide)) (by rfl) T.worths_at.g T.worths_at.F.kp T.worths_at.b .nil pass0 (pa_cons (pe_ix ix_tup (pv 0) pe_int (fun _ _ => rfl)) (pa_cons (pv 1) (pa_cons (pv 2) (pa_cons (pv 3) pa_nil)))))) (blkOk_by (own := [("worth", 4)]) (N := N_covered) (sc := defScope s_covered) (by decide +kernel)) (fun _ _ _ _ _ => (pg_name (i := 4) sc_covered.nd rfl (.inl rfl))) (fun _ _ _ _ _ => pts_nil) (fun _ _ _ _ _ => (pe_cmpR op_lt (pe_ix (r := rIxT K) ix_tup (pv 4) pe_int (fun _ _ => rfl)) pe_int (nomark _)))) pa_nil))) (pss_one (ps_ret pe_bl)) pss_nil)))
      (pss_one (ps_ret pe_bl))), ?_⟩
    obtain ⟨ra, rvs, tA, _, _⟩ := id hH
    have h6 := hO.c6
    refine ⟨_, rfl, h, cs, rs, rfl, hH, hO, fun H1 p h1 s1 => ?_⟩
    have tp : SqT K H1 p (wvs (wor cs rs)) := .inl (.inl h1)
    refine ⟨p, rfl, ⟨_, tp⟩, for_it (walk_tup (K := K) (a := p) (xs := wvs (wor cs rs))) (fun i σ H' => ∃ (x3 x4 : Option V), σ = [some (.ref h), some (.ref P), some (.ref T'), x3, x4] ∧ covB cs ((wor cs rs).take i) ps tks = true ∧ Same H1 H') ⟨none, none, rfl, rfl, Same.refl _⟩ (fun i σ H' _ ⟨_, _, _, _, e⟩ => Same.tup e tp) ?_ ?_⟩
    · rintro i x σ H2 _ hi ⟨x3, x4, rfl, hc, s2⟩ ⟨rfl, hx⟩
      obtain ⟨bs, hbs, rfl⟩ := wvs_get hx
      have lb := wor_len (List.mem_of_getElem? hbs)
      have S2 := s1.trans s2
      have z := hZ bs (List.mem_of_getElem? hbs)
      refine ⟨_, rfl, h, _, 0, .str (tx cs), rfl, rfl, Same.tup S2 tA, rfl, _, rfl, _, rfl, _, rfl, cs, bs, P, T', pvs, tvs, ps, tks, D, M, rfl, Same.tup S2 tP, fas_tk fP (Same.tk S2), .inr (Same.tup S2 tT), tks_tk fT (Same.tk S2), hK, z, lb.symm, by omega, fun H3 L us hL fL _ s3 => ?_⟩
      have S3 := S2.trans s3
      refine ⟨L, rfl, ⟨_, .inl (.inl hL)⟩, fun D' nD => ?_⟩
      refine lcp_list (K := K) (xs := us) (R := fun _ v (b : Bool) => v = .bl b) (IR := FAt K H3) (worthsF (vl cs bs) ps tks) (fun p => some (decide (p.1 < 0))) (fun _ _ _ _ _ h => h) fL nD hL (by rw [fL.len, worthsF_len]; exact Nat.lt_of_le_of_lt hl (by decide)) ?_ ?_
      · rintro v p H4 ⟨f, rfl, tf⟩ _ s4 Y N hY _
        exact ⟨rfl, lc_yes ⟨_, rfl, f, _, 0, .int p.1, rfl, rfl, Same.tup s4 tf, rfl, _, _, rfl, rfl, hY _ _ _ (Same.refl _) rfl rfl⟩⟩
      intro H4 ys h4 f4 s4
      have e4 := f2_eq f4
      rw [fm_some] at e4
      rw [e4] at h4
      refine ⟨D', _, rfl, .inl (.inl h4), _, rfl, ?_⟩
      rw [any_map_id]
      have S4 := S3.trans s4
      refine ite2 (fun e => ?_) (fun e => ?_)
      · have : covB cs (wor cs rs) ps tks = false := by
          rw [Bool.eq_false_iff]
          intro z
          have := List.all_eq_true.mp z bs (List.mem_of_getElem? hbs)
          rw [e] at this
          exact nomatch this
        rw [this] at q
        exact q _ S4
      · refine ⟨_, _, rfl, ?_, s2.trans (s3.trans s4)⟩
        unfold covB at hc ⊢
        rw [take_one _ i _ hbs, List.all_append, hc, Bool.true_and]
        show ((!(worthsF (vl cs bs) ps tks).any fun p => decide (p.1 < 0)) && true) = true
        rw [Bool.eq_false_iff.mpr e]
        rfl
    · rintro σ H2 ⟨x3, x4, rfl, hc, s2⟩
      rw [wvs_len, List.take_length] at hc
      rw [hc] at q
      exact q _ (s1.trans s2)
end
end B

namespace B
open PySem PySem.Spec PyProof.Rows L2

def sp_l_worths (K : PySem.W.Frag) : Sp := fun vs H Q _ => ∃ (a h P T : Addr) (rest pvs tvs : List V) (cs : List Nat) (rs : List (List Wd)) (ps : List (Int × Nat)) (tks : List Tkt) (D M : Nat), vs = [.ref a] ∧ SqT K H a (.ref h :: .ref P :: .ref T :: rest) ∧ HsAt K H h cs rs ∧ HsOk cs rs ∧ SqT K H P pvs ∧ F2 (FAt K H) pvs ps ∧ ps.length ≤ 100 ∧ SqT K H T tvs ∧ F2 (TkAt K H) tvs tks ∧ (∀ t ∈ tks, TkOk cs t ∧ t.l < ps.length ∧ t.s < ps.length) ∧ (∀ bs ∈ wor cs rs, WzOk D M (vl cs bs) ps tks) ∧ ∀ (H' : Hp) (L : Addr), Grid K H H' L ps.length (wor cs rs).length (fun i j => oneF (vl cs ((wor cs rs).getD j [])) i (ps.getD i (0, 1)) tks) → Same H H' → Q (.ref L) H'

section
variable {P : Program} {w : World} {K : PySem.W.Frag} {mg : Str → Option Value} {base : Heap}
theorem ok_l_worths (T : Tx K mg w) (U : Unl P base) : FnOk P w K mg base CX0 40 T.l_worths.f T.l_worths.fd ["_law_stand"] (sp_l_worths K) := by
  refine T.l_worths.F.ok sc_l_worths (fun vs H Q E h => ?_) (fun cdv A outer s H vs Q E hr h => ?_)
  · obtain ⟨a, h, P, T', rest, pvs, tvs, cs, rs, ps, tks, D, M, rfl, tS, hH, hO, tP, fP, hl, tT, fT, hK, hZ, q⟩ := h
    rfl
  · obtain ⟨a, h, P, T', rest, pvs, tvs, cs, rs, ps, tks, D, M, rfl, tS, hH, hO, tP, fP, hl, tT, fT, hK, hZ, q⟩ := h
    refine ⟨_, (pss_cons (ps_setLc (i := 2) (own := [("_law_purse", 1)]) (g := gName 1) (tt := tYes) rfl sc_l_worths.nd rfl rfl (sw_true rfl rfl rfl (by decide +kernel)) (pi_tup (pe_ix ix_tup (pv 0) pe_int (fun _ _ => rfl))) (blkOk_by (own := [("_law_purse", 1)]) (N := N_l_worths) (sc := defScope s_l_worths) (by decide +kernel)) (fun _ _ _ _ _ => (pg_name (i := 1) sc_l_worths.nd rfl (.inl rfl))) (fun _ _ _ _ _ => pts_nil) (fun _ _ _ _ _ => (pe_op op_rep (pe_lst (pa_cons (pv 1) pa_nil)) (pe_callB (id := "len") (r := fun xs H Q => ∃ p ys, xs = [.ref p] ∧ (SqL K H p ys ∨ SqT K H p ys) ∧ Q (.int ys.length) H) call_len_seq (by rfl) T.m_len (by decide +kernel) (pa_cons (pe_call (ok_l_worlds T U) (hr.mono (by decide)) (by rfl) T.l_worlds.g T.l_worlds.F.kp T.l_worlds.b .nil pass0 (pa_cons (pe_ix (r := rIxT K) ix_tup (pv 0) pe_int (fun _ _ => rfl)) pa_nil)) pa_nil)))))
      (pss_cons (ps_for PassesOwn.never rfl (pi_tup (pe_ix ix_tup (pv 0) pe_int (fun _ _ => rfl))) (pg_name (i := 3) sc_l_worths.nd rfl (.inl rfl))
      (pss_one (ps_for PassesOwn.never rfl (pi_enumG (by rfl) T.m_enumerate (pa_cons (pe_call (ok_l_brings T U) (hr.mono (by decide)) (by rfl) T.l_brings.g T.l_brings.F.kp T.l_brings.b .nil pass0 (pa_cons (pe_ix ix_tup (pv 0) pe_int (fun _ _ => rfl)) (pa_cons (pv 3) pa_nil))) pa_nil)) (pg_tup rfl (pgs_cons (pg_name (i := 4) sc_l_worths.nd rfl (.inl rfl)) (pgs_cons (pg_name (i := 5) sc_l_worths.nd rfl (.inl rfl)) pgs_nil)))
      (pss_cons (ps_asg (pe_call (ok_l_plus T U) (hr.mono (by decide)) (by rfl) T.l_plus.g T.l_plus.F.kp T.l_plus.b .nil pass0 (pa_cons (pe_ix ix_list (pe_ix ix_list (pv 2) (pe_ix ix_tup (pv 3) pe_int (fun _ _ => rfl)) (fun _ _ => rfl)) (pv 4) (fun _ _ => rfl)) (pa_cons (pv 5) pa_nil))) (pg_sub (pe_ix ix_list (pv 2) (pe_ix ix_tup (pv 3) pe_int (fun _ _ => rfl)) (fun _ _ => rfl)) (pv 4) set_list))
      (pss_one (ps_asg (pe_call (ok_l_plus T U) (hr.mono (by decide)) (by rfl) T.l_plus.g T.l_plus.F.kp T.l_plus.b .nil pass0 (pa_cons (pe_ix ix_list (pe_ix ix_list (pv 2) (pe_ix ix_tup (pv 3) pe_int (fun _ _ => rfl)) (fun _ _ => rfl)) (pv 4) (fun _ _ => rfl)) (pa_cons (pe_call (ok_l_turned T U) (hr.mono (by decide)) (by rfl) T.l_turned.g T.l_turned.F.kp T.l_turned.b .nil pass0 (pa_cons (pv 5) pa_nil)) pa_nil))) (pg_sub (pe_ix ix_list (pv 2) (pe_ix ix_tup (pv 3) pe_int (fun _ _ => rfl)) (fun _ _ => rfl)) (pv 4) set_list)))))))
      (pss_one (ps_ret (pv 2))))), ?_⟩
    obtain ⟨ra, rvs, tA, tR, fR⟩ := id hH
    have h6 := hO.c6
    have wle := wor_le (rs := rs) h6
    have lp := fP.len
    have lt := fT.len
    have fewr := hO.few
    refine ⟨_, rfl, a, _, 1, .ref P, rfl, rfl, tS, atI_nat (j := 1) rfl, P, rfl, ⟨_, tP⟩, fun L nL => ?_⟩
    refine lc_tup (K := K) (a := P) (xs := pvs) (fun j H' => Grid K H H' L j (wor cs rs).length (fun i _ => ps.getD i (0, 1)) ∧ Same H H') ⟨⟨[], rfl, .nil, nofun, nL, nofun, upd_same, nofun⟩, same_upd nL⟩ (fun j H' _ ⟨_, e⟩ => Same.tup e tP) ?_ ?_
    · rintro j x H2 hx ⟨g, s2⟩
      obtain ⟨p, hp, f, rfl, tf⟩ := (fas_tk fP (Same.tk s2)).getA hx
      refine ⟨rfl, lc_yes ?_⟩
      refine ⟨_, rfl, by show 1 ≤ sizeLine; decide, fun l1 n1 => ?_⟩
      have s3 := same_upd (o := .lst [.ref f]) n1
      have S3 := s2.trans s3
      refine ⟨_, rfl, a, _, 0, .ref h, rfl, rfl, Same.tup S3 tS, atI_nat (j := 0) rfl, h, ra, cs, rvs, rs, rfl, Same.tup S3 tA, Same.tup S3 tR, fR.mono fun _ _ t => Same.tup S3 t, (fun r hr => ⟨(hO.sy r hr).1, by have := (hO.sy r hr).2; omega⟩), by omega, h6, hO.sm, fun H4 pw tw s4 => ?_⟩
      have S4 := S3.trans s4
      refine ⟨pw, _, rfl, .inr tw, ?_⟩
      rw [wvs_len]
      refine ⟨l1, ((wor cs rs).length : Int), _, rfl, rfl, s4 _ _ upd_same, by omega, by omega, by rw [Int.toNat_natCast]; exact Nat.le_trans (show 1 * (wor cs rs).length ≤ 64 by omega) (by decide), fun l2 n2 => ?_⟩
      rw [Int.toNat_natCast, flat_rep]
      have s5 := same_upd (o := .lst (List.replicate (wor cs rs).length (.ref f))) n2
      have S5 := S4.trans s5
      have s25 := s3.trans (s4.trans s5)
      obtain ⟨as, h1, h2, h3, h4, h5, h7, h8⟩ := g.same s25
      have n2' : H l2 = none := by
        cases e : H l2 with
        | none => rfl
        | some o => rw [S4 _ _ e] at n2; cases n2
      have nL2 : L ≠ l2 := fun e => by
        obtain ⟨_, _, _, _, _, _, q7, _⟩ := g
        rw [← e, (s3.trans s4) _ _ q7] at n2
        cases n2
      have nas : l2 ∉ as := fun hm => by
        obtain ⟨as', q1, q2, q3, q4, q5, q7, q8⟩ := g
        have e7 := s25 _ _ q7
        rw [h7] at e7
        injection e7 with e7
        injection e7 with e7
        have : as = as' := by
          have inj : ∀ {x y : List Addr}, x.map V.ref = y.map V.ref → x = y := by
            intro x
            induction x with
            | nil => intro y e; cases y with | nil => rfl | cons _ _ => cases e
            | cons a r ih => intro y e; cases y with | nil => cases e | cons b z => injection e with e1 e2; injection e1 with e1; rw [e1, ih e2]
          exact inj e7
        subst this
        obtain ⟨i, hi⟩ := List.getElem?_of_mem hm
        obtain ⟨us, k1, _⟩ := q8 i l2 hi
        rw [(s3.trans s4) _ _ k1] at n2
        cases n2
      have U := fun p xs t' => tup_upd (K := K) (a := p) (ys := xs) (zs := as.map V.ref ++ [.ref l2]) h7 t'
      refine ⟨_, h7, ?_, ?_, same_mut nL S5⟩
      · have hj := (List.getElem?_eq_some_iff.mp hp).1
        rw [List.length_map, h1]
        exact Nat.lt_of_lt_of_le (show j < 100 by omega) (by decide)
      · refine ⟨as ++ [l2], by rw [List.length_append, h1]; rfl, ?_, ?_, nL, ?_, by rw [upd_same, List.map_append]; rfl, fun i b hb => ?_⟩
        · exact List.pairwise_append.mpr ⟨h2, List.pairwise_singleton _ _, fun x hx y hy e => by rw [List.mem_singleton] at hy; rw [e, hy] at hx; exact nas hx⟩
        · intro hm
          rcases List.mem_append.mp hm with z | z
          · exact h3 z
          · exact nL2 (List.mem_singleton.mp z)
        · intro b hb
          rcases List.mem_append.mp hb with z | z
          · exact h5 b z
          · rw [List.mem_singleton.mp z]; exact n2'
        · by_cases hi : i < as.length
          · rw [List.getElem?_append_left hi] at hb
            obtain ⟨us, k1, k2, k3⟩ := h8 i b hb
            refine ⟨us, (upd_ne (show b ≠ L from fun e => h3 (e ▸ List.mem_of_getElem? hb))).trans k1, k2, fun j' u hu => (k3 j' u hu).mono U⟩
          · rw [List.getElem?_append_right (by omega)] at hb
            have hi2 := (List.getElem?_eq_some_iff.mp hb).1
            have hi3 : i = j := by
              have : i - as.length < 1 := hi2
              omega
            rw [show i - as.length = 0 by omega] at hb
            cases hb
            refine ⟨List.replicate (wor cs rs).length (.ref f), by rw [upd_ne nL2.symm]; exact upd_same, by rw [List.length_replicate], fun j' u hu => ?_⟩
            have := List.eq_of_mem_replicate (List.mem_of_getElem? hu)
            rw [this, hi3, List.getD_eq_getElem?_getD, hp]
            exact ⟨f, rfl, U _ _ (Same.tup s25 tf)⟩
    rintro H1 ⟨g1, s1⟩
    rw [lp] at g1
    have fbp : ∀ {bs : List Bool}, bs ∈ wor cs rs → ∀ (i : Nat), i < ps.length → Fb D M (ps.getD i (0, 1)) := fun hb i hi => by
      rw [List.getD_eq_getElem?_getD, List.getElem?_eq_getElem hi]
      exact (hZ _ hb).p _ (List.getElem_mem hi)
    refine ⟨_, rfl, a, _, 2, .ref T', rfl, rfl, Same.tup s1 tS, atI_nat (j := 2) rfl, T', rfl, ⟨_, Same.tup s1 tT⟩, for_it (walk_tup (K := K) (a := T') (xs := tvs)) (fun k σ H' => ∃ (x1 x3 x4 x5 : Option V), σ = [some (.ref a), x1, some (.ref L), x3, x4, x5] ∧ Grid K H H' L ps.length (wor cs rs).length (fun i j => oneF (vl cs ((wor cs rs).getD j [])) i (ps.getD i (0, 1)) (tks.take k)) ∧ Same H H') ⟨none, none, none, none, rfl, g1.congr (fun i j _ _ => rfl), s1⟩ (fun i σ H' _ ⟨_, _, _, _, _, _, e⟩ => Same.tup e tT) ?_ ?_⟩
    · rintro k x σ H2 _ hk ⟨x1, x3, x4, x5, rfl, g2, s2⟩ ⟨rfl, hx⟩
      obtain ⟨t, ht, hT⟩ := (tks_tk fT (Same.tk s2)).getA hx
      obtain ⟨okt, o1, o2⟩ := hK t (List.mem_of_getElem? ht)
      obtain ⟨tq, b, c, e, rfl, t1, t2, t3, t4⟩ := id hT
      refine ⟨_, rfl, a, _, 0, .ref h, rfl, rfl, Same.tup s2 tS, atI_nat (j := 0) rfl, _, rfl, h, _, cs, rs, t, rfl, hH.same s2, hO, hT, okt, fun H3 B us hB fB nB s3 => ?_⟩
      have S3 := s2.trans s3
      have g3 := g2.same s3
      have lb := fB.len
      rw [List.length_map] at lb
      have t1' := Same.tup s3 t1
      obtain ⟨rows0, hr0, hB0⟩ : ∃ rows0, H3 L = some (.lst rows0) ∧ V.ref B ∉ rows0 := by
        obtain ⟨as, _, _, _, _, _, q6, q7⟩ := id g2
        refine ⟨as.map V.ref, s3 _ _ q6, fun hm => ?_⟩
        obtain ⟨y, hy, e⟩ := List.mem_map.mp hm
        injection e with e
        subst e
        obtain ⟨i, hi⟩ := List.getElem?_of_mem hy
        obtain ⟨us', k1, _⟩ := q7 i y hi
        rw [k1] at nB
        cases nB
      refine ⟨.l, .ref B, _, rfl, ⟨B, rfl, .inl (.inl hB)⟩, for_it (walk_enumG (K := K) (xs := us)) (fun m σ H' => ∃ (x4 x5 : Option V), σ = [some (.ref a), x1, some (.ref L), some (.ref tq), x4, x5] ∧ Grid K H H' L ps.length (wor cs rs).length (fun i j => oneF (vl cs ((wor cs rs).getD j [])) i (ps.getD i (0, 1)) (tks.take (if j < m then k + 1 else k))) ∧ H' B = some (.lst us) ∧ H' L = some (.lst rows0) ∧ F2 (FAt K H') us ((wor cs rs).map fun bs => brF (vl cs bs) t) ∧ SqT K H' tq [.int t.n, .int t.l, .int t.s, .ref b, .ref c, .ref e] ∧ Same H H') ⟨_, _, rfl, g3.congr (fun i j _ _ => by rw [if_neg (Nat.not_lt_zero _)]), hB, hr0, fB, t1', S3⟩ (fun m σ H' _ ⟨_, _, _, _, z, _⟩ => ⟨B, rfl, .inl (.inl z)⟩) ?_ ?_⟩
      · rintro m v σ H4 _ hm ⟨x4, x5, rfl, g4, hB4, hr4, fB4, tq4, s4⟩ ⟨T2, y, rfl, nT, rfl, hy⟩
        have sT := same_upd (o := .tup [.int (m : Nat), y]) nT
        have S4 := s4.trans sT
        obtain ⟨bv, hbv, g, rfl, tg⟩ := (fas_tk fB4 (Same.tk sT)).getA hy
        rw [List.getElem?_map] at hbv
        cases hbs : (wor cs rs)[m]? with
        | none => rw [hbs] at hbv; cases hbv
        | some bs =>
        rw [hbs] at hbv
        cases hbv
        have hmw := (List.getElem?_eq_some_iff.mp hbs).1
        have hbm := List.mem_of_getElem? hbs
        have eD : (wor cs rs).getD m [] = bs := by rw [List.getD_eq_getElem?_getD, hbs]; rfl
        have Z := hZ bs hbm
        have ob := okt.br (vl cs bs)
        have g5 := g4.same sT
        have tq5 := Same.tup sT tq4
        have hB5 := sT _ _ hB4
        have hr5 := sT _ _ hr4
        have fB5 := fas_tk fB4 (Same.tk sT)
        refine ⟨T2, _, rfl, sqt_upd, rfl, _, _, rfl, _, _, rfl, rfl, ?_⟩
        obtain ⟨rows, r1, ru, rc, k1, k2, k3, k4, k5, k6, k7, k8, k9, k10⟩ := g5.get (i := t.l) (j := m) o1 hmw
        rw [eD, if_neg (Nat.lt_irrefl m)] at k7
        obtain ⟨z1, z2⟩ := Z.step ht (i := t.l) (fbp hbm t.l o1)
        refine ⟨_, rfl, _, rfl, tq, _, 1, .int t.l, rfl, rfl, tq5, rfl, L, rows, (t.l : Int), .ref r1, rfl, rfl, .inl (.inl k1), atI_nat k3, _, rfl, r1, ru, (m : Int), .ref rc, rfl, rfl, .inl (.inl k4), atI_nat k6, _, rfl, rc, g, _, _, _, _, rfl, k7, tg, z1.f, ob.f, (z1.up (by decide)).z, (ob.up (by decide)).z, fun w nw => ?_⟩
        have s6 := same_upd (o := .tup [.int (addF (oneF (vl cs bs) t.l (ps.getD t.l (0, 1)) (tks.take k)) (brF (vl cs bs) t)).1, .int (addF (oneF (vl cs bs) t.l (ps.getD t.l (0, 1)) (tks.take k)) (brF (vl cs bs) t)).2]) nw
        have g6 := g5.same s6
        obtain ⟨rows', r1', ru', rc', j1, j2, j3, j4, j5, j6, j7, j8, j9, j10⟩ := g6.get (i := t.l) (j := m) o1 hmw
        refine ⟨_, rfl, _, rfl, tq, _, 1, .int t.l, rfl, rfl, Same.tup s6 tq5, rfl, L, rows', (t.l : Int), .ref r1', rfl, rfl, .inl (.inl j1), atI_nat j3, _, rfl, r1', ru', (m : Int), m, rfl, rfl, j4, ixn (by omega), ?_⟩
        obtain ⟨g7, U7⟩ := j8 w (addF (oneF (vl cs bs) t.l (ps.getD t.l (0, 1)) (tks.take k)) (brF (vl cs bs) t)) sqt_upd
        have e1 : rows' = rows0 := by
          have := (s6 _ _ hr5).symm.trans j1
          injection this with this
          injection this with this
          exact this.symm
        have nrB : B ≠ r1' := fun e => hB0 (by rw [e, ← e1]; exact List.mem_of_getElem? j3)
        have hB7 := (upd_ne (H := tgt s6) (o := .lst (ru'.set m (.ref w))) nrB).trans (s6 _ _ hB5)
        have hr7 := (upd_ne (H := tgt s6) (o := .lst (ru'.set m (.ref w))) j10.symm).trans (s6 _ _ hr5)
        have fB7 := fas_tk (fas_tk fB5 (Same.tk s6)) U7
        have tq7 := U7 _ _ (Same.tup s6 tq5)
        have tg7 := U7 _ _ (Same.tup s6 tg)
        have S7 := same_mut (o := .lst (ru'.set m (.ref w))) j9 (S4.trans s6)
        -- the short one
        obtain ⟨rows2, r2, ru2, rc2, l1, l2, l3, l4, l5, l6, l7, l8, l9, l10⟩ := g7.get (i := t.s) (j := m) o2 hmw
        have eX : (if t.s = t.l ∧ m = m then addF (oneF (vl cs bs) t.l (ps.getD t.l (0, 1)) (tks.take k)) (brF (vl cs bs) t) else oneF (vl cs ((wor cs rs).getD m [])) t.s (ps.getD t.s (0, 1)) (tks.take (if m < m then k + 1 else k))) = (if t.l = t.s then addF (oneF (vl cs bs) t.s (ps.getD t.s (0, 1)) (tks.take k)) (brF (vl cs bs) t) else oneF (vl cs bs) t.s (ps.getD t.s (0, 1)) (tks.take k)) := by
          rw [eD, if_neg (Nat.lt_irrefl m)]
          by_cases z : t.s = t.l
          · rw [if_pos ⟨z, rfl⟩, if_pos z.symm, z]
          · rw [if_neg (fun y => z y.1), if_neg (fun y => z y.symm)]
        rw [eX] at l7
        obtain ⟨z3, z4⟩ := Z.step ht (i := t.s) (fbp hbm t.s o2)
        have oX : Fok 2000 (if t.l = t.s then addF (oneF (vl cs bs) t.s (ps.getD t.s (0, 1)) (tks.take k)) (brF (vl cs bs) t) else oneF (vl cs bs) t.s (ps.getD t.s (0, 1)) (tks.take k)) := by
          split
          · exact z4
          · exact z3
        generalize eXX : (if t.l = t.s then addF (oneF (vl cs bs) t.s (ps.getD t.s (0, 1)) (tks.take k)) (brF (vl cs bs) t) else oneF (vl cs bs) t.s (ps.getD t.s (0, 1)) (tks.take k)) = X at *
        refine ⟨_, rfl, _, rfl, tq, _, 2, .int t.s, rfl, rfl, tq7, rfl, L, rows2, (t.s : Int), .ref r2, rfl, rfl, .inl (.inl l1), atI_nat l3, _, rfl, r2, ru2, (m : Int), .ref rc2, rfl, rfl, .inl (.inl l4), atI_nat l6, _, rfl, g, _, rfl, tg7, fun H8 ng tn _ s8 => ?_⟩
        refine ⟨rc2, ng, _, _, _, _, rfl, Same.tup s8 l7, tn, oX.f, ob.neg.f, (oX.up (by decide)).z, (ob.neg.up (by decide)).z, fun w2 nw2 => ?_⟩
        have s9 := same_upd (o := .tup [.int (addF X (negF (brF (vl cs bs) t))).1, .int (addF X (negF (brF (vl cs bs) t))).2]) nw2
        have S89 := s8.trans s9
        have g9 := g7.same S89
        obtain ⟨rows3, r3, ru3, rc3, p1, p2, p3, p4, p5, p6, p7, p8, p9, p10⟩ := g9.get (i := t.s) (j := m) o2 hmw
        refine ⟨_, rfl, _, rfl, tq, _, 2, .int t.s, rfl, rfl, Same.tup S89 tq7, rfl, L, rows3, (t.s : Int), .ref r3, rfl, rfl, .inl (.inl p1), atI_nat p3, _, rfl, r3, ru3, (m : Int), m, rfl, rfl, p4, ixn (by omega), ?_⟩
        obtain ⟨gA, UA⟩ := p8 w2 (addF X (negF (brF (vl cs bs) t))) sqt_upd
        have e2 : rows3 = rows0 := by
          have := (S89 _ _ hr7).symm.trans p1
          injection this with this
          injection this with this
          exact this.symm
        have nrB2 : B ≠ r3 := fun e => hB0 (by rw [e, ← e2]; exact List.mem_of_getElem? p3)
        refine ⟨_, _, rfl, gA.congr fun i j hi hj => ?_, (upd_ne nrB2).trans (S89 _ _ hB7), (upd_ne p10.symm).trans (S89 _ _ hr7), fas_tk (fas_tk fB7 (Same.tk S89)) UA, UA _ _ (Same.tup S89 tq7), same_mut p9 (S7.trans S89)⟩
        by_cases ej : j = m
        · subst ej
          rw [eD, if_pos (Nat.lt_succ_self j), one_take _ _ _ ht, if_neg (Nat.lt_irrefl j)]
          by_cases es : i = t.s
          · rw [if_pos (show i = t.s ∧ j = j from ⟨es, rfl⟩), if_pos (show t.s = i from es.symm), ← eXX, es]
          · rw [if_neg (show ¬ (i = t.s ∧ j = j) from fun y => es y.1), if_neg (show ¬ t.s = i from fun y => es y.symm)]
            by_cases el : i = t.l
            · rw [if_pos (show i = t.l ∧ j = j from ⟨el, rfl⟩), if_pos (show t.l = i from el.symm), el]
            · rw [if_neg (show ¬ (i = t.l ∧ j = j) from fun y => el y.1), if_neg (show ¬ t.l = i from fun y => el y.symm)]
        · rw [if_neg (show ¬ (i = t.s ∧ j = m) from fun y => ej y.2), if_neg (show ¬ (i = t.l ∧ j = m) from fun y => ej y.2)]
          by_cases hjm : j < m
          · rw [if_pos hjm, if_pos (Nat.lt_succ_of_lt hjm)]
          · rw [if_neg hjm, if_neg (by omega)]
      · rintro σ H4 ⟨x4, x5, rfl, g4, hB4, hr4, fB4, tq4, s4⟩
        rw [lb] at g4
        exact ⟨x1, _, _, _, rfl, g4.congr (fun i j _ hj => by rw [if_pos hj]), s4⟩
    · rintro σ H2 ⟨x1, x3, x4, x5, rfl, g2, s2⟩
      rw [lt, List.take_length] at g2
      exact ⟨_, rfl, q _ L g2 s2⟩
end
end B

namespace B
open PySem PySem.Spec PyProof.Rows L2

def sp_l_ticket (K : PySem.W.Frag) : Sp := fun vs H Q _ => ∃ (d : Dr) (b n m : Nat) (h : Addr) (cs : List Nat) (rs : List (List Wd)), vs = [.ref d.dr, .ref h, .int n, .int m] ∧ 2 ≤ n ∧ n ≤ 6 ∧ HsAt K H h cs rs ∧ HsOk cs rs ∧ 1 ≤ cs.length ∧ wor cs rs ≠ [] ∧ Drw H d (b + 18) ∧ ∀ (H' : Hp) (v : V) (t : Tkt), TkAt K H' v t → TkW cs t → t.n = m → t.l < n → t.s < n → t.l ≠ t.s → somes (tabO cs t.b.ts t.b.g (wor cs rs)) ≠ [] → Drw H' d b → Kp d H H' → Q v H'

section
variable {P : Program} {w : World} {K : PySem.W.Frag} {mg : Str → Option Value} {base : Heap}
theorem ok_l_ticket (T : Tx K mg w) (U : Unl P base) : FnOk P w K mg base CX0 40 T.l_ticket.f T.l_ticket.fd ["_law_drawn", "_law_house", "_law_holders", "_law_number"] (sp_l_ticket K) := by
  refine T.l_ticket.F.ok sc_l_ticket (fun vs H Q E h => ?_) (fun cdv A outer s H vs Q E hr h => ?_)
  · obtain ⟨d, b, n, m, h, cs, rs, rfl, n2, n6, hH, hO, c1, hne, hD, q⟩ := h
    rfl
  · obtain ⟨d, b, n, m, h, cs, rs, rfl, n2, n6, hH, hO, c1, hne, hD, q⟩ := h
    refine ⟨_, (pss_cons (ps_set (i := 4) sc_l_ticket.nd rfl (.inl rfl) (pe_call (ok_l_next T U) (hr.mono (by decide)) (by rfl) T.l_next.g T.l_next.F.kp T.l_next.b .nil pass0 (pa_cons (pv 0) (pa_cons (pv 2) pa_nil))))
      (pss_cons (ps_set (i := 5) sc_l_ticket.nd rfl (.inl rfl) (pe_op op_mod (pe_op op_add (pe_op op_add (pv 4) pe_int) (pe_call (ok_l_next T U) (hr.mono (by decide)) (by rfl) T.l_next.g T.l_next.F.kp T.l_next.b .nil pass0 (pa_cons (pv 0) (pa_cons (pe_op op_sub (pv 2) pe_int) pa_nil)))) (pv 2)))
      (pss_cons (ps_set (i := 6) sc_l_ticket.nd rfl (.inl rfl) (pe_call (ok_l_wager T U) (hr.mono (by decide)) (by rfl) T.l_wager.g T.l_wager.F.kp T.l_wager.b .nil pass0 (pa_cons (pv 0) (pa_cons (pv 1) pa_nil))))
      (pss_one (ps_ret (pe_tup (pa_cons (pv 3) (pa_cons (pv 4) (pa_cons (pv 5) (pa_cons (pv 6) (pa_cons (pe_call (ok_l_cost T U) (hr.mono (by decide)) (by rfl) T.l_cost.g T.l_cost.F.kp T.l_cost.b .nil pass0 (pa_cons (pv 0) (pa_cons (pe_call (ok_l_table T U) (hr.mono (by decide)) (by rfl) T.l_table.g T.l_table.F.kp T.l_table.b .nil pass0 (pa_cons (pv 1) (pa_cons (pv 6) pa_nil))) pa_nil))) (pa_cons (pe_call (ok_l_stake T U) (hr.mono (by decide)) (by rfl) T.l_stake.g T.l_stake.F.kp T.l_stake.b .nil pass0 (pa_cons (pv 0) pa_nil)) pa_nil)))))))))))), ?_⟩
    have wl := wor_le (rs := rs) hO.c6
    refine ⟨_, rfl, _, rfl, d, b + 17, (n : Int), rfl, by omega, by omega, hD, fun H1 r r0 r1 w1 k1 => ?_⟩
    obtain ⟨i, rfl⟩ := Int.eq_ofNat_of_zero_le r0
    refine ⟨_, rfl, _, _, rfl, rfl, _, rfl, _, rfl, _, _, rfl, rfl, d, b + 16, (n : Int) - 1, rfl, by omega, by omega, w1, fun H2 r' r0' r1' w2 k2 => ?_⟩
    obtain ⟨j, rfl⟩ := Int.eq_ofNat_of_zero_le r0'
    refine ⟨_, _, rfl, rfl, _, rfl, _, _, rfl, rfl, (show (0 : Int) < n by omega), ?_⟩
    have eS : ((i : Int) + 1 + (j : Int)) % (n : Int) = (((i + 1 + j) % n : Nat) : Int) := by
      rw [Int.natCast_emod, Int.natCast_add, Int.natCast_add]
      rfl
    have hS : (i + 1 + j) % n < n := Nat.mod_lt _ (by omega)
    have hLS : i ≠ (i + 1 + j) % n := by
      have hi : i < n := by omega
      have hj : j < n - 1 := by omega
      by_cases z : i + 1 + j < n
      · rw [Nat.mod_eq_of_lt z]; omega
      · have e : i + 1 + j = (i + 1 + j - n) + n := by omega
        rw [e, Nat.add_mod_right, Nat.mod_eq_of_lt (by omega)]
        omega
    have K2 := k1.trans k2
    have hH2 := hH.mono fun _ _ t => Kp.tup K2 hD t
    refine ⟨_, rfl, _, rfl, d, b + 4, h, cs, rs, rfl, hH2, hO, c1, hne, w2.less (by omega), fun H3 bt ts g hB bw lv w3 k3 => ?_⟩
    have hH3 := hH2.mono fun _ _ t => Kp.tup k3 w2 t
    refine ⟨_, rfl, _, rfl, _, rfl, _, rfl, _, rfl, _, rfl, _, rfl, h, bt, cs, rs, ts, g, rfl, hH3, hO, hB, bw.ok, fun H4 pt us tt ft s4 => ?_⟩
    refine ⟨d, b + 2, pt, us, _, rfl, tt, ft, by rw [tabO_len]; exact wl, lv, ?_, w3.same s4, fun H5 pr x tx' fx w5 k5 => ?_⟩
    · intro x hx
      obtain ⟨o, ho, e⟩ := List.mem_filterMap.mp hx
      obtain ⟨bs, _, rfl⟩ := List.mem_map.mp ho
      have e : payO (vl cs bs) ts g = some x := e
      rw [payO_some e]
      exact bw.pay _
    refine ⟨_, rfl, d, b, rfl, w5, fun H6 ps y ty fy y0 w6 k6 => ?_⟩
    refine ⟨by show 6 ≤ sizeLine; decide, fun tk ntk => ?_⟩
    show Q (.ref tk) (upd H6 tk (.tup [.int (m : Nat), .int (i : Nat), .int (((i : Int) + 1 + (j : Int)) % (n : Int)), .ref bt, .ref pr, .ref ps]))
    rw [eS]
    have s7 := same_upd (o := .tup [.int (m : Nat), .int (i : Nat), .int ((i + 1 + j) % n : Nat), .ref bt, .ref pr, .ref ps]) ntk
    have T5 : Tk K H3 H5 := fun _ _ t => Kp.tup k5 (w3.same s4) (Same.tup s4 t)
    have T6 : Tk K H5 (tgt s7) := fun _ _ t => Same.tup s7 (Kp.tup k6 w5 t)
    refine q _ (.ref tk) ⟨m, i, (i + 1 + j) % n, ⟨ts, g, x⟩, y⟩ ⟨tk, bt, pr, ps, rfl, sqt_upd, hB.mono fun _ _ t => T6 _ _ (T5 _ _ t), T6 _ _ tx', Same.tup s7 ty⟩ ⟨bw, fx, fy, y0⟩ rfl (by show i < n; omega) hS hLS lv (w6.same s7) (K2.trans (k3.trans ((Same.kp s4).trans (k5.trans (k6.trans (Same.kp s7))))))
end
end B

namespace B
open PySem PySem.Spec PyProof.Rows L2

def sp_sure (K : PySem.W.Frag) : Sp := fun vs H Q E => ∃ (a : Addr) (S : Std) (D M : Nat), vs = [.ref a] ∧ StdAt K H a S ∧ StdOk D M S ∧ (covB S.cs (wor S.cs S.rs) S.ps S.ts = false → ∀ C, XIs K "NoCover" C → ∀ d H', DOk H' d → Same H H' → E (.ref C) d H') ∧ (covB S.cs (wor S.cs S.rs) S.ps S.ts = true → ∀ H', Same H H' → Q (.ref a) H')

section
variable {P : Program} {w : World} {K : PySem.W.Frag} {mg : Str → Option Value} {base : Heap}
theorem ok_sure (T : Tx K mg w) (U : Unl P base) : FnOk P w K mg base (L2.CX P w) 41 T.sure.f T.sure.fd ["stand"] (sp_sure K) := by
  refine T.sure.F.okX sc_sure (fun vs H Q E h => ?_) (fun cdv A outer s H vs Q E hr h => ?_)
  · obtain ⟨a, S, D, M, rfl, hS, hO, hE, hQ⟩ := h
    rfl
  · obtain ⟨a, S, D, M, rfl, hS, hO, hE, hQ⟩ := h
    refine ⟨_, (pss_cons (ps_asg (pv 0) (pg_tup rfl (pgs_cons (pg_name (i := 1) sc_sure.nd rfl (.inl rfl)) (pgs_cons (pg_name (i := 2) sc_sure.nd rfl (.inl rfl)) (pgs_cons (pg_name (i := 3) sc_sure.nd rfl (.inl rfl)) (pgs_cons (pg_name (i := 4) sc_sure.nd rfl (.inl rfl)) (pgs_cons (pg_name (i := 5) sc_sure.nd rfl (.inl rfl)) pgs_nil)))))))
      (pss_cons (ps_if (pt_not (pt_val (pe_call (ok_covered T U) (hr.mono (by decide)) (by rfl) T.covered.g T.covered.F.kp T.covered.b .nil pass0 (pa_cons (pv 1) (pa_cons (pv 2) (pa_cons (pv 3) pa_nil)))))) (pss_one (ps_raise rfl (takes_of rfl rfl rfl rfl) (pmk_none T.x_NoCover hr (by rfl)))) pss_nil)
      (pss_one (ps_ret (pv 0))))), ?_⟩
    obtain ⟨h, p, t, l, pvs, tvs, lvs, tS, hH, tP, fP, tT, fT, tL, fL⟩ := id hS
    refine ⟨_, rfl, a, _, rfl, tS, rfl, _, _, rfl, _, _, rfl, _, _, rfl, _, _, rfl, _, _, rfl, rfl, ?_⟩
    have p6 := hO.p6
    refine ⟨_, rfl, _, rfl, _, rfl, h, p, t, S.cs, S.rs, pvs, tvs, S.ps, S.ts, D, M, rfl, hH, hO.h, tP, fP, by omega, tT, fT, hO.t, hO.z, fun H1 s1 => ⟨_, rfl, ?_⟩⟩
    cases e : covB S.cs (wor S.cs S.rs) S.ps S.ts with
    | false => exact iteT fun d nd => hE e _ T.x_NoCover.ns _ _ dok_upd (s1.trans (same_upd nd))
    | true => exact iteF ⟨_, rfl, hQ e _ s1⟩
end
end B

namespace B
open PySem PySem.Spec PyProof.Rows L2

def sp_l_covered (K : PySem.W.Frag) : Sp := fun vs H Q _ => ∃ (a : Addr) (S : Std) (D M : Nat), vs = [.ref a] ∧ StdAt K H a S ∧ StdOk D M S ∧ ∀ H', Same H H' → Q (.bl (covB S.cs (wor S.cs S.rs) S.ps S.ts)) H'

section
variable {P : Program} {w : World} {K : PySem.W.Frag} {mg : Str → Option Value} {base : Heap}
theorem ok_l_covered (T : Tx K mg w) (U : Unl P base) : FnOk P w K mg base CX0 41 T.l_covered.f T.l_covered.fd ["_law_stand"] (sp_l_covered K) := by
  refine T.l_covered.F.ok sc_l_covered (fun vs H Q E h => ?_) (fun cdv A outer s H vs Q E hr h => ?_)
  · obtain ⟨a, S, D, M, rfl, hS, hO, q⟩ := h
    rfl
  · obtain ⟨a, S, D, M, rfl, hS, hO, q⟩ := h
    refine ⟨_, (pss_cons (ps_for PassesOwn.never rfl (pi_list (pe_call (ok_l_worths T U) (hr.mono (by decide)) (by rfl) T.l_worths.g T.l_worths.F.kp T.l_worths.b .nil pass0 (pa_cons (pv 0) pa_nil))) (pg_name (i := 1) sc_l_covered.nd rfl (.inl rfl))
      (pss_one (ps_if (pt_cmpR (op_neL0 hr.units) (pe_lc (own := [("_law_amount", 2)]) (g := gName 2) rfl sc_l_covered.nd (pi_list (pv 1)) (blkOk_by (own := [("_law_amount", 2)]) (N := N_l_covered) (sc := defScope s_l_covered) (by decide +kernel)) (fun _ _ _ _ _ => (pg_name (i := 2) sc_l_covered.nd rfl (.inl rfl))) (fun _ _ _ _ _ => (pts_one (pt_cmpR op_lt (pe_ix (r := rIxT K) ix_tup (pv 2) pe_int (fun _ _ => rfl)) pe_int (nomark _)))) (fun _ _ _ _ _ => (pv 2))) (pe_lst pa_nil) (nomark _)) (pss_one (ps_ret pe_bl)) pss_nil)))
      (pss_one (ps_ret pe_bl))), ?_⟩
    obtain ⟨h, P, T', L', pvs, tvs, lvs, tS, hH, tP, fP, tT, fT, tL, fL⟩ := id hS
    have p6 := hO.p6
    have c6 := hO.h.c6
    rw [cov_rows fun t ht => (hO.t t ht).2] at q
    refine ⟨_, rfl, a, h, P, T', _, pvs, tvs, S.cs, S.rs, S.ps, S.ts, D, M, rfl, tS, hH, hO.h, tP, fP, by omega, tT, fT, hO.t, hO.z, fun H1 L g1 s1 => ?_⟩
    obtain ⟨rows, hrL, hrl, hrow⟩ := g1.row
    have wle := wor_le (rs := S.rs) c6
    refine ⟨L, rfl, ⟨_, .inl (.inl hrL)⟩, for_list (K := K) (a := L) (xs := rows) (fun i σ H' => ∃ (x1 x2 : Option V), σ = [some (.ref a), x1, x2] ∧ (List.range i).all (rowB S.cs (wor S.cs S.rs) S.ps S.ts) = true ∧ Same H1 H') ⟨none, none, rfl, rfl, Same.refl _⟩ (fun i σ H' _ ⟨_, _, _, _, e⟩ => .inl (.inl (e _ _ hrL))) ?_ ?_⟩
    · rintro i v σ H2 hv ⟨x1, x2, rfl, hc, s2⟩
      obtain ⟨ra, us, rfl, hra, lus, frow⟩ := hrow i v hv
      have hi : i < S.ps.length := by have := (List.getElem?_eq_some_iff.mp hv).1; omega
      have er := range_getD (f := fun bs => oneF (vl S.cs bs) i (S.ps.getD i (0, 1)) S.ts) (wor S.cs S.rs)
      rw [er] at frow
      have hra2 := s2 _ _ hra
      have frow2 := fas_tk frow (Same.tk s2)
      refine ⟨_, rfl, ra, rfl, ⟨_, .inl (.inl hra2)⟩, fun D' nD => ?_⟩
      refine lcp_list (K := K) (xs := us) (R := fun _ _ (_ : Unit) => True) (IR := FAt K H2) ((wor S.cs S.rs).map fun bs => oneF (vl S.cs bs) i (S.ps.getD i (0, 1)) S.ts) (fun p => if p.1 < 0 then some () else none) (fun _ _ _ _ _ _ => trivial) frow2 nD hra2 (by rw [lus]; exact Nat.lt_of_le_of_lt wle (by decide)) ?_ ?_
      · rintro v p H4 ⟨f, rfl, tf⟩ _ s4 Y N hY hN
        refine ⟨rfl, _, rfl, f, _, 0, .int p.1, rfl, rfl, Same.tup s4 tf, rfl, _, _, rfl, rfl, _, rfl, ?_⟩
        refine ite2 (fun e => ?_) (fun e => ?_)
        · exact ⟨_, rfl, hY _ _ () (Same.refl _) (if_pos (of_decide_eq_true e)) trivial⟩
        · exact hN _ (Same.refl _) (if_neg (fun z => e (decide_eq_true z)))
      intro H4 ys h4 f4 s4
      refine ⟨by decide, fun E nE => ?_⟩
      have s5 := same_upd (o := .lst []) nE
      refine ⟨D', E, ys, rfl, rfl, .inl (.inl (s5 _ _ h4)), sql_upd, ?_⟩
      have S5 := s2.trans (s4.trans s5)
      have ey : ys.isEmpty = rowB S.cs (wor S.cs S.rs) S.ps S.ts i := by
        rw [Bool.eq_iff_iff, List.isEmpty_iff, ← List.length_eq_zero_iff, f4.len, List.length_eq_zero_iff, List.filterMap_eq_nil_iff]
        unfold rowB
        simp only [List.all_eq_true, List.mem_map, Bool.not_eq_true', decide_eq_false_iff_not, forall_exists_index, and_imp, forall_apply_eq_imp_iff₂]
        constructor
        · intro h bs hb z
          exact nomatch (if_pos z).symm.trans (h bs hb)
        · intro h bs hb
          exact if_neg (h bs hb)
      rw [ey]
      cases e : rowB S.cs (wor S.cs S.rs) S.ps S.ts i with
      | false =>
        have : (List.range S.ps.length).all (rowB S.cs (wor S.cs S.rs) S.ps S.ts) = false := by
          rw [Bool.eq_false_iff]
          intro z
          have := List.all_eq_true.mp z i (List.mem_range.mpr hi)
          rw [e] at this
          exact nomatch this
        rw [this] at q
        exact ⟨_, rfl, iteT (q _ (s1.trans S5))⟩
      | true =>
        refine ⟨_, rfl, iteF ⟨_, _, rfl, ?_, S5⟩⟩
        rw [List.range_succ, List.all_append, hc]
        show (true && (rowB S.cs (wor S.cs S.rs) S.ps S.ts i && true)) = true
        rw [e]
        rfl
    · rintro σ H2 ⟨x1, x2, rfl, hc, s2⟩
      rw [hrl] at hc
      rw [hc] at q
      exact q _ (s1.trans s2)
end
end B

namespace B
open PySem PySem.Spec PyProof.Rows L2

def sp_l_tickets (K : PySem.W.Frag) : Sp := fun vs H Q _ => ∃ (d : Dr) (b n m : Nat) (h : Addr) (cs : List Nat) (rs : List (List Wd)), vs = [.ref d.dr, .ref h, .int n, .int m] ∧ 2 ≤ n ∧ n ≤ 6 ∧ m ≤ 100 ∧ HsAt K H h cs rs ∧ HsOk cs rs ∧ 1 ≤ cs.length ∧ wor cs rs ≠ [] ∧ Drw H d (b + 25 * m) ∧ ∀ (H' : Hp) (p : Addr) (tvs : List V) (tks : List Tkt), SqT K H' p tvs → F2 (TkAt K H') tvs tks → TksW cs rs n (10 * m) tks → tks.length = m → Drw H' d b → Kp d H H' → Q (.ref p) H'

section
variable {P : Program} {w : World} {K : PySem.W.Frag} {mg : Str → Option Value} {base : Heap}
theorem ok_l_tickets (T : Tx K mg w) (U : Unl P base) : FnOk P w K mg base CX0 41 T.l_tickets.f T.l_tickets.fd ["_law_drawn", "_law_house", "_law_holders", "_law_many"] (sp_l_tickets K) := by
  refine T.l_tickets.F.ok sc_l_tickets (fun vs H Q E h => ?_) (fun cdv A outer s H vs Q E hr h => ?_)
  · obtain ⟨d, b, n, m, h, cs, rs, rfl, n2, n6, m100, hH, hO, c1, hne, hD, q⟩ := h
    rfl
  · obtain ⟨d, b, n, m, h, cs, rs, rfl, n2, n6, m100, hH, hO, c1, hne, hD, q⟩ := h
    refine ⟨_, (pss_cons (ps_set (i := 4) sc_l_tickets.nd rfl (.inl rfl) (pe_tup pa_nil))
      (pss_cons (ps_set (i := 5) sc_l_tickets.nd rfl (.inl rfl) pe_int)
      (pss_cons (ps_for PassesOwn.never rfl (pi_range1 (by rfl) T.m_range (pa_cons (pv 3) pa_nil)) (pg_name (i := 6) sc_l_tickets.nd rfl (.inl rfl))
      (pss_cons (ps_set (i := 5) sc_l_tickets.nd rfl (.inl rfl) (pe_op op_add (pv 5) (pe_ix ix_list (pe_lst (pa_cons pe_int (pa_cons pe_int (pa_cons pe_int pa_nil)))) (pe_call (ok_l_next T U) (hr.mono (by decide)) (by rfl) T.l_next.g T.l_next.F.kp T.l_next.b .nil pass0 (pa_cons (pv 0) (pa_cons pe_int pa_nil))) (fun _ _ => rfl))))
      (pss_cons (ps_set (i := 7) sc_l_tickets.nd rfl (.inl rfl) (pe_call (ok_l_ticket T U) (hr.mono (by decide)) (by rfl) T.l_ticket.g T.l_ticket.F.kp T.l_ticket.b .nil pass0 (pa_cons (pv 0) (pa_cons (pv 1) (pa_cons (pv 2) (pa_cons (pv 5) pa_nil))))))
      (pss_cons (ps_if (PW.pt (pw_and (pt_cmpR (op_neD hr.units) (pv 4) (pe_tup pa_nil) (nomark _)) (pw_and1 (pt_cmpR op_eq (pe_call (ok_l_next T U) (hr.mono (by decide)) (by rfl) T.l_next.g T.l_next.F.kp T.l_next.b .nil pass0 (pa_cons (pv 0) (pa_cons pe_int pa_nil))) pe_int (nomark _))))) (pss_one (ps_set (i := 7) sc_l_tickets.nd rfl (.inl rfl) (pe_op op_catS (pe_op op_catS (pe_slice sl_tupS (pv 7) po_none (po_some pe_int)) (pe_slice sl_tupS (pe_ix ix_tup (pv 4) (pe_call (ok_l_next T U) (hr.mono (by decide)) (by rfl) T.l_next.g T.l_next.F.kp T.l_next.b .nil pass0 (pa_cons (pv 0) (pa_cons (pe_callB call_len_seq (by rfl) T.m_len (by decide +kernel) (pa_cons (pv 4) pa_nil)) pa_nil))) (fun _ _ => rfl)) (po_some pe_int) (po_some pe_int))) (pe_slice sl_tupS (pv 7) (po_some pe_int) po_none)))) pss_nil)
      (pss_cons (ps_set (i := 4) sc_l_tickets.nd rfl (.inl rfl) (pe_op op_catS (pv 4) (pe_tup (pa_cons (pv 7) pa_nil))))
      (pss_one (ps_set (i := 5) sc_l_tickets.nd rfl (.inl rfl) (pe_op op_add (pv 5) pe_int))))))))
      (pss_one (ps_ret (pv 4)))))), ?_⟩
    refine ⟨by show 0 ≤ sizeLine; decide, fun e0 ne0 => ?_⟩
    have s0 := same_upd (o := .tup []) ne0
    refine ⟨_, rfl, (m : Int), rfl, by omega, by omega, for_range (lo := 0) (n := ((m : Nat) : Int).toNat) (fun i σ H' => ∃ (x6 x7 : Option V) (p : Addr) (tvs : List V) (tks : List Tkt) (num : Nat), σ = [some (.ref d.dr), some (.ref h), some (.int n), some (.int m), some (.ref p), some (.int num), x6, x7] ∧ SqT K H' p tvs ∧ F2 (TkAt K H') tvs tks ∧ TksW cs rs n num tks ∧ num ≤ 10 * i ∧ tks.length = i ∧ Drw H' d (b + 25 * m - 25 * i) ∧ Kp d H H') ⟨none, none, e0, [], [], 0, rfl, sqt_upd, .nil, ⟨nofun, .nil⟩, Nat.le_refl _, rfl, hD.same s0, Same.kp s0⟩ ?_ ?_⟩
    · rintro i σ H1 hi ⟨x6, x7, p, tvs, tks, num, rfl, tp, ft, ok, hn, hl, w1, k1⟩
      rw [Int.toNat_natCast] at hi
      have lv := ft.len
      refine ⟨_, rfl, by show 3 ≤ sizeLine; decide, fun L nL => ?_⟩
      have sL := same_upd (o := .lst [.int 0, .int 1, .int 9]) nL
      have nL1 := w1.no nL
      have w2 := w1.same sL
      refine ⟨_, rfl, d, b + 25 * m - 25 * i - 1, 3, rfl, by decide, by decide, w2.less (by omega), fun H3 r r0 r1 w3 k3 => ?_⟩
      obtain ⟨j, rfl⟩ := Int.eq_ofNat_of_zero_le r0
      obtain ⟨z, hix, hz⟩ : ∃ z : Nat, atI [V.int 0, .int 1, .int 9] (j : Int) = some (.int z) ∧ z ≤ 9 := by
        have : j = 0 ∨ j = 1 ∨ j = 2 := by omega
        rcases this with rfl | rfl | rfl
        · exact ⟨0, rfl, by decide⟩
        · exact ⟨1, rfl, by decide⟩
        · exact ⟨9, rfl, by decide⟩
      refine ⟨L, _, (j : Int), .int z, rfl, rfl, .inl (.inl (k3 _ _ upd_same nL1.1 nL1.2)), hix, _, _, rfl, rfl, ?_⟩
      have K3 : Kp d H1 H3 := (Same.kp sL).trans k3
      have hH3 := hH.mono fun _ _ t => Kp.tup (k1.trans K3) hD t
      have eN : (num : Int) + (z : Int) = ((num + z : Nat) : Int) := (Int.natCast_add num z).symm
      refine ⟨_, rfl, _, rfl, _, rfl, _, rfl, d, b + 25 * m - 25 * i - 19, n, num + z, h, cs, rs, by rw [← eN]; rfl, n2, n6, hH3, hO, c1, hne, w3.less (by omega), fun H4 v t hT tw tn tl ts tls lv' w4 k4 => ?_⟩
      have T13 : Tk K H1 H3 := fun _ _ t => Kp.tup K3 w1 t
      have T34 : Tk K H3 H4 := fun _ _ t => Kp.tup k4 w3 t
      have T14 : Tk K H1 H4 := fun _ _ t => T34 _ _ (T13 _ _ t)
      have K4 := K3.trans k4
      obtain ⟨tq, a, c, k, rfl, t1, t2, t3, t4⟩ := id hT
      refine ⟨_, rfl, by show 0 ≤ sizeLine; decide, fun e1 ne1 => ?_⟩
      have s5 := same_upd (o := .tup []) ne1
      have ft5 := tks_tk (tks_tk ft T14) (Same.tk s5)
      have big : ∀ x ∈ tks, Shw 5 3726 (tkdat x) := fun x hx => by
        obtain ⟨y1, y2, y3, y4, y5, y6⟩ := ok.w x hx
        have : (2 : Nat) ^ 10 ≤ 2 ^ 400 := Nat.pow_le_pow_right (by decide) (by decide)
        exact tkt_shw hO.sm y1 (by omega) (by omega) (by omega)
      refine ⟨_, _, .tup (Same.tup s5 (T14 _ _ tp)) (ft5.dp fun _ _ q => q.dp), .tup sqt_upd .nil, (Shw.tup (k := 100) (fun d hd => by obtain ⟨x, hx, rfl⟩ := List.mem_map.mp hd; exact big x hx) (by rw [List.length_map]; omega)).shaped (by decide), rfl, _, rfl, ?_⟩
      rw [eqv_nilT, List.isEmpty_map]
      have S5 := s5
      cases e : tks.isEmpty with
      | true =>
        refine iteF ?_
        have TP := Same.tup S5 (T14 _ _ tp)
        have FT := ft5
        have HT := TkAt.mono (Same.tk S5) hT
        have WW := w4.same S5
        have KK := K4.trans (Same.kp S5)
        have OKT : TkW cs t ∧ t.l < n ∧ t.s < n ∧ t.l ≠ t.s ∧ t.n < num + z + 1 ∧ somes (tabO cs t.b.ts t.b.g (wor cs rs)) ≠ [] := ⟨tw, tl, ts, tls, by omega, lv'⟩
        have NQ : t.n = num + z := tn
        refine ⟨_, rfl, _, rfl, by show 1 ≤ sizeLine; decide, fun q1 nq => ?_⟩
        have u1 := same_upd (o := .tup [.ref tq]) nq
        refine ⟨p, q1, tvs, _, rfl, rfl, Same.tup u1 TP, sqt_upd, by show tvs.length + 1 ≤ 100000; omega, fun q2 HZ tz u2 => ?_⟩
        have tz : SqT K HZ q2 (tvs ++ [.ref tq]) := tz
        refine ⟨_, rfl, _, _, rfl, rfl, _, _, q2, _, tks ++ [t], num + z + 1, by rw [eN]; rfl, tz, (tks_tk FT (Same.tk (u1.trans u2))).app (.cons (TkAt.mono (Same.tk (u1.trans u2)) HT) .nil), ⟨fun x hx => ?_, ?_⟩, by omega, by rw [List.length_append, hl]; rfl, (WW.same (u1.trans u2)).less (by omega), k1.trans (KK.trans (Same.kp (u1.trans u2)))⟩
        · rcases List.mem_append.mp hx with hx | hx
          · obtain ⟨y1, y2, y3, y4, y5, y6⟩ := ok.w x hx
            exact ⟨y1, y2, y3, y4, by omega, y6⟩
          · rw [List.mem_singleton.mp hx]
            exact OKT
        · refine List.pairwise_append.mpr ⟨ok.r, List.pairwise_singleton _ _, fun x hx y hy => ?_⟩
          rw [List.mem_singleton.mp hy]
          have := (ok.w x hx).2.2.2.2.1
          show x.n < (t).n
          omega
      | false =>
        refine iteT ?_
        refine ⟨_, rfl, d, b + 25 * m - 25 * i - 20, 3, rfl, by decide, by decide, (w4.same s5).less (by omega), fun H6 r' r0' r1' w6 k6 => ⟨rfl, _, rfl, ?_⟩⟩
        have T46 : Tk K H4 H6 := fun _ _ t => Kp.tup k6 (w4.same s5) (Same.tup s5 t)
        refine ite2 (fun ez => ?_) (fun ez => ?_)
        · have t16 := T46 _ _ t1
          refine ⟨_, rfl, 3, rfl, tq, _, rfl, t16, fun c1' H7 tc1 s7 => ?_⟩
          have tc1 : SqT K H7 c1' [.int t.n, .int t.l, .int t.s] := tc1
          have tp7 := Same.tup s7 (T46 _ _ (T14 _ _ tp))
          have pos : 0 < tks.length := by
            cases tks with
            | nil => cases e
            | cons _ _ => exact Nat.succ_pos _
          refine ⟨_, rfl, _, rfl, _, rfl, p, tvs, rfl, .inr tp7, d, b + 25 * m - 25 * i - 21, (tvs.length : Int), rfl, by omega, by show tvs.length < _; exact Nat.lt_of_le_of_lt (show tvs.length ≤ 100 by omega) (by decide), (w6.same s7).less (by omega), fun H8 r'' r0'' r1'' w8 k8 => ?_⟩
          obtain ⟨y, rfl⟩ := Int.eq_ofNat_of_zero_le r0''
          have T78 : Tk K H7 H8 := fun _ _ t => Kp.tup k8 (w6.same s7) t
          have T48 : Tk K H4 H8 := fun _ _ t => T78 _ _ (Same.tup s7 (T46 _ _ t))
          have gy := List.getElem?_eq_getElem (l := tks) (i := y) (by omega)
          have my := List.mem_of_getElem? gy
          generalize tks[y] = t' at gy my
          obtain ⟨v', hv', tq', a', c', k', rfl, t1', t2', t3', t4'⟩ := (tks_tk ft fun _ _ t => T48 _ _ (T14 _ _ t)).getB gy
          obtain ⟨y1, y2, y3, y4, y5, y6⟩ := ok.w t' my
          refine ⟨p, tvs, (y : Int), .ref tq', rfl, rfl, T78 _ _ tp7, atI_nat hv', 3, rfl, 5, rfl, tq', _, rfl, t1', fun c2' H9 tc2 s9 => ?_⟩
          have tc2 : SqT K H9 c2' [.ref a', .ref c'] := tc2
          refine ⟨c1', c2', _, _, rfl, rfl, Same.tup s9 (T78 _ _ tc1), tc2, by show 3 + 2 ≤ 100000; decide, fun c3' H10 tc3 s10 => ?_⟩
          have S910 := s9.trans s10
          refine ⟨_, rfl, 5, rfl, tq, _, rfl, Same.tup S910 (T48 _ _ t1), fun c4' H11 tc4 s11 => ?_⟩
          have tc4 : SqT K H11 c4' [.ref k] := tc4
          refine ⟨c3', c4', _, _, rfl, rfl, Same.tup s11 tc3, tc4, by show 5 + 1 ≤ 100000; decide, fun c5' H12 tc5 s12 => ?_⟩
          have tc5 : SqT K H12 c5' [.int t.n, .int t.l, .int t.s, .ref a', .ref c', .ref k] := tc5
          have S12 := S910.trans (s11.trans s12)
          have T412 : Tk K H4 H12 := fun _ _ t => Same.tup S12 (T48 _ _ t)
          have T812 : Tk K H8 H12 := Same.tk S12
          have TP := T412 _ _ (T14 _ _ tp)
          have FT := tks_tk ft fun _ _ t => T412 _ _ (T14 _ _ t)
          have HT : TkAt K H12 (.ref c5') ⟨t.n, t.l, t.s, t'.b, t.k⟩ := ⟨c5', a', c', k, rfl, tc5, t2'.mono T812, T812 _ _ t3', T412 _ _ t4⟩
          have WW := w8.same S12
          have KK := K4.trans ((Same.kp s5).trans (k6.trans ((Same.kp s7).trans (k8.trans (Same.kp S12)))))
          have OKT : TkW cs ⟨t.n, t.l, t.s, t'.b, t.k⟩ ∧ t.l < n ∧ t.s < n ∧ t.l ≠ t.s ∧ t.n < num + z + 1 ∧ somes (tabO cs t'.b.ts t'.b.g (wor cs rs)) ≠ [] := ⟨⟨y1.b, y1.p, tw.k, tw.k0⟩, tl, ts, tls, by omega, y6⟩
          have NQ : t.n = num + z := tn
          generalize eT : (⟨t.n, t.l, t.s, t'.b, t.k⟩ : Tkt) = u at *
          have NQ : u.n = num + z := by rw [← eT]; exact NQ
          have OKT : TkW cs u ∧ u.l < n ∧ u.s < n ∧ u.l ≠ u.s ∧ u.n < num + z + 1 ∧ somes (tabO cs u.b.ts u.b.g (wor cs rs)) ≠ [] := by
            rw [← eT] at OKT ⊢
            exact OKT
          refine ⟨_, rfl, _, rfl, by show 1 ≤ sizeLine; decide, fun q1 nq => ?_⟩
          have u1 := same_upd (o := .tup [.ref c5']) nq
          refine ⟨p, q1, tvs, _, rfl, rfl, Same.tup u1 TP, sqt_upd, by show tvs.length + 1 ≤ 100000; omega, fun q2 HZ tz u2 => ?_⟩
          have tz : SqT K HZ q2 (tvs ++ [.ref c5']) := tz
          refine ⟨_, rfl, _, _, rfl, rfl, _, _, q2, _, tks ++ [u], num + z + 1, by rw [eN]; rfl, tz, (tks_tk FT (Same.tk (u1.trans u2))).app (.cons (TkAt.mono (Same.tk (u1.trans u2)) HT) .nil), ⟨fun x hx => ?_, ?_⟩, by omega, by rw [List.length_append, hl]; rfl, (WW.same (u1.trans u2)).less (by omega), k1.trans (KK.trans (Same.kp (u1.trans u2)))⟩
          · rcases List.mem_append.mp hx with hx | hx
            · obtain ⟨y1, y2, y3, y4, y5, y6⟩ := ok.w x hx
              exact ⟨y1, y2, y3, y4, by omega, y6⟩
            · rw [List.mem_singleton.mp hx]
              exact OKT
          · refine List.pairwise_append.mpr ⟨ok.r, List.pairwise_singleton _ _, fun x hx y hy => ?_⟩
            rw [List.mem_singleton.mp hy]
            have := (ok.w x hx).2.2.2.2.1
            show x.n < (u).n
            omega
        · have s5' := s5
          have TP := T46 _ _ (T14 _ _ tp)
          have FT := tks_tk ft fun _ _ t => T46 _ _ (T14 _ _ t)
          have HT := TkAt.mono T46 hT
          have WW := w6
          have KK := K4.trans ((Same.kp s5).trans k6)
          have OKT : TkW cs t ∧ t.l < n ∧ t.s < n ∧ t.l ≠ t.s ∧ t.n < num + z + 1 ∧ somes (tabO cs t.b.ts t.b.g (wor cs rs)) ≠ [] := ⟨tw, tl, ts, tls, by omega, lv'⟩
          have NQ : t.n = num + z := tn
          refine ⟨_, rfl, _, rfl, by show 1 ≤ sizeLine; decide, fun q1 nq => ?_⟩
          have u1 := same_upd (o := .tup [.ref tq]) nq
          refine ⟨p, q1, tvs, _, rfl, rfl, Same.tup u1 TP, sqt_upd, by show tvs.length + 1 ≤ 100000; omega, fun q2 HZ tz u2 => ?_⟩
          have tz : SqT K HZ q2 (tvs ++ [.ref tq]) := tz
          refine ⟨_, rfl, _, _, rfl, rfl, _, _, q2, _, tks ++ [t], num + z + 1, by rw [eN]; rfl, tz, (tks_tk FT (Same.tk (u1.trans u2))).app (.cons (TkAt.mono (Same.tk (u1.trans u2)) HT) .nil), ⟨fun x hx => ?_, ?_⟩, by omega, by rw [List.length_append, hl]; rfl, (WW.same (u1.trans u2)).less (by omega), k1.trans (KK.trans (Same.kp (u1.trans u2)))⟩
          · rcases List.mem_append.mp hx with hx | hx
            · obtain ⟨y1, y2, y3, y4, y5, y6⟩ := ok.w x hx
              exact ⟨y1, y2, y3, y4, by omega, y6⟩
            · rw [List.mem_singleton.mp hx]
              exact OKT
          · refine List.pairwise_append.mpr ⟨ok.r, List.pairwise_singleton _ _, fun x hx y hy => ?_⟩
            rw [List.mem_singleton.mp hy]
            have := (ok.w x hx).2.2.2.2.1
            show x.n < (t).n
            omega
    · rintro σ H1 ⟨x6, x7, p, tvs, tks, num, rfl, tp, ft, ok, hn, hl, w1, k1⟩
      rw [Int.toNat_natCast] at hl hn w1
      exact ⟨_, rfl, q _ p tvs tks tp ft ⟨fun t ht => by obtain ⟨y1, y2, y3, y4, y5, y6⟩ := ok.w t ht; exact ⟨y1, y2, y3, y4, by omega, y6⟩, ok.r⟩ hl (w1.less (by omega)) k1⟩
end
end B

namespace B
open PySem PySem.Spec PyProof.Rows L2

def sp_l_purses (K : PySem.W.Frag) : Sp := fun vs H Q _ => ∃ (d : Dr) (b n m : Nat) (h T : Addr) (tvs : List V) (cs : List Nat) (rs : List (List Wd)) (tks : List Tkt), vs = [.ref d.dr, .ref h, .int n, .ref T] ∧ n ≤ 6 ∧ HsAt K H h cs rs ∧ HsOk cs rs ∧ wor cs rs ≠ [] ∧ SqT K H T tvs ∧ F2 (TkAt K H) tvs tks ∧ TksW cs rs n m tks ∧ tks.length ≤ 100 ∧ Drw H d (b + 3 * n) ∧ ∀ (H' : Hp) (p : Addr) (pvs : List V) (ps : List (Int × Nat)), SqT K H' p pvs → F2 (FAt K H') pvs ps → ps.length = n → PsW cs (wor cs rs) ps tks → Drw H' d b → Kp d H H' → Q (.ref p) H'

section
variable {P : Program} {w : World} {K : PySem.W.Frag} {mg : Str → Option Value} {base : Heap}
theorem ok_l_purses (T : Tx K mg w) (U : Unl P base) : FnOk P w K mg base CX0 41 T.l_purses.f T.l_purses.fd ["_law_drawn", "_law_house", "_law_holders", "_law_tickets_here"] (sp_l_purses K) := by
  refine T.l_purses.F.ok sc_l_purses (fun vs H Q E h => ?_) (fun cdv A outer s H vs Q E hr h => ?_)
  · obtain ⟨d, b, n, m, h, T', tvs, cs, rs, tks, rfl, n6, hH, hO, hne, tT, fT, hW, hl, hD, q⟩ := h
    rfl
  · obtain ⟨d, b, n, m, h, T', tvs, cs, rs, tks, rfl, n6, hH, hO, hne, tT, fT, hW, hl, hD, q⟩ := h
    refine ⟨_, (pss_cons (ps_set (i := 4) sc_l_purses.nd rfl (.inl rfl) (pe_lst pa_nil))
      (pss_cons (ps_for PassesOwn.never rfl (pi_list (pe_call (ok_l_worths T U) (hr.mono (by decide)) (by rfl) T.l_worths.g T.l_worths.F.kp T.l_worths.b .nil pass0 (pa_cons (pe_tup (pa_cons (pv 1) (pa_cons (pe_op op_repN (pe_tup (pa_cons (pe_tup (pa_cons pe_int (pa_cons pe_int pa_nil))) pa_nil)) (pv 2)) (pa_cons (pv 3) pa_nil)))) pa_nil))) (pg_name (i := 5) sc_l_purses.nd rfl (.inl rfl))
      (pss_cons (ps_set (i := 6) sc_l_purses.nd rfl (.inl rfl) (pe_ix ix_list (pe_lst (pa_cons (pe_tup (pa_cons pe_int (pa_cons pe_int pa_nil))) (pa_cons (pe_tup (pa_cons pe_int (pa_cons pe_int pa_nil))) (pa_cons (pe_tup (pa_cons pe_int (pa_cons pe_int pa_nil))) (pa_cons (pe_call (ok_l_stake T U) (hr.mono (by decide)) (by rfl) T.l_stake.g T.l_stake.F.kp T.l_stake.b .nil pass0 (pa_cons (pv 0) pa_nil)) pa_nil))))) (pe_call (ok_l_next T U) (hr.mono (by decide)) (by rfl) T.l_next.g T.l_next.F.kp T.l_next.b .nil pass0 (pa_cons (pv 0) (pa_cons pe_int pa_nil))) (fun _ _ => rfl)))
      (pss_one (ps_expr (pe_bm PySem.F.plainAttrs_list PySem.F.slot_list_append PySem.F.type_list_append mt_append (pv 4) (pa_cons (pe_call (ok_l_plus T U) (hr.mono (by decide)) (by rfl) T.l_plus.g T.l_plus.F.kp T.l_plus.b .nil pass0 (pa_cons (pe_call (ok_l_turned T U) (hr.mono (by decide)) (by rfl) T.l_turned.g T.l_turned.F.kp T.l_turned.b .nil pass0 (pa_cons (pe_ix ix_list (pv 5) (pe_call (ok_l_least T U) (hr.mono (by decide)) (by rfl) T.l_least.g T.l_least.F.kp T.l_least.b .nil pass0 (pa_cons (pv 5) pa_nil)) (fun _ _ => rfl)) pa_nil)) (pa_cons (pv 6) pa_nil))) pa_nil))))))
      (pss_one (ps_ret (pe_callTy call_tuple_of (by rfl) T.m_tuple (by decide +kernel) (pa_cons (pv 4) pa_nil)))))), ?_⟩
    have wle := wor_le (rs := rs) hO.c6
    have wpos := List.length_pos_iff.mpr hne
    refine ⟨by decide, fun R nR => ?_⟩
    have sR := same_upd (o := .lst []) nR
    have nR1 := hD.no nR
    have nR2 := hD.nc nR
    refine ⟨_, rfl, by show 2 ≤ sizeLine; decide, fun a1 n1 => ?_⟩
    have s1 := same_upd (o := .tup [.int 0, .int 1]) n1
    refine ⟨by show 1 ≤ sizeLine; decide, fun a2 n2 => ?_⟩
    have s2 := same_upd (o := .tup [.ref a1]) n2
    refine ⟨_, rfl, a2, (n : Int), [.ref a1], rfl, rfl, sqt_upd, by simp, by omega, by omega, by show 1 ≤ 1000; decide, fun a3 H3 t3 s3 => ?_⟩
    rw [Int.toNat_natCast, flat_rep] at t3
    refine ⟨_, rfl, by show 3 ≤ sizeLine; decide, fun a4 n4 => ?_⟩
    have s4 := same_upd (o := .tup [.ref h, .ref a3, .ref T']) n4
    have S4 := sR.trans (s1.trans (s2.trans (s3.trans s4)))
    have hK : ∀ t ∈ tks, TkOk cs t ∧ t.l < (List.replicate n ((0, 1) : Int × Nat)).length ∧ t.s < (List.replicate n ((0, 1) : Int × Nat)).length := fun t ht => by
      obtain ⟨y1, y2, y3, _⟩ := hW.w t ht
      rw [List.length_replicate]
      exact ⟨y1.ok, y2, y3⟩
    have hZ := fun (bs : List Bool) (_ : bs ∈ wor cs rs) => tksW_wz (vl cs bs) hW hl n
    have fz : F2 (FAt K (tgt s4)) (List.replicate n (.ref a1)) (List.replicate n ((0, 1) : Int × Nat)) := f2_rep ⟨a1, rfl, Same.tup (s2.trans (s3.trans s4)) sqt_upd⟩
    refine ⟨a4, h, a3, T', [], _, tvs, cs, rs, _, tks, 2520000000, 2 ^ 52, rfl, sqt_upd, hH.same S4, hO, Same.tup s4 t3, fz, by rw [List.length_replicate]; omega, Same.tup S4 tT, tks_tk fT (Same.tk S4), hK, hZ, fun H5 L g5 s5 => ?_⟩
    rw [List.length_replicate] at g5
    have S5 := S4.trans s5
    obtain ⟨rows, hrL, hrl, hrow⟩ := g5.row
    have hG : ∃ o, (tgt s4) R = some o := ⟨_, (s1.trans (s2.trans (s3.trans s4))) _ _ upd_same⟩
    have wG : Drw (tgt s4) d (b + 3 * n) := hD.same S4
    have gL : (tgt s4) L = none := by
      obtain ⟨_, _, _, _, z, _⟩ := g5
      exact z
    refine ⟨L, rfl, ⟨_, .inl (.inl hrL)⟩, for_list (K := K) (a := L) (xs := rows) (fun i σ H' => ∃ (x5 x6 : Option V) (pvs : List V) (ps : List (Int × Nat)), σ = [some (.ref d.dr), some (.ref h), some (.int n), some (.ref T'), some (.ref R), x5, x6] ∧ H' R = some (.lst pvs) ∧ F2 (FAt K H') pvs ps ∧ ps.length = i ∧ PsW1 cs (wor cs rs) ps tks ∧ Fk (tgt s4) H5 H' ∧ Tk K H5 H' ∧ Drw H' d (b + 3 * n - 3 * i) ∧ Kp d H H') ⟨none, none, [], [], rfl, (s1.trans (s2.trans (s3.trans (s4.trans s5)))) _ _ upd_same, .nil, rfl, ⟨nofun, fun i p e => nomatch e⟩, Fk.refl _ _, fun _ _ t => t, wG.same s5, Same.kp S5⟩ (fun i σ H' _ ⟨_, _, _, _, _, _, _, _, _, fk, _⟩ => .inl (.inl (fk _ _ hrL gL))) ?_ ?_⟩
    · rintro i v σ H6 hv ⟨x5, x6, pvs, ps, rfl, hR, fP, pl, ok, fk, tk, w6, k6⟩
      obtain ⟨ra, us, rfl, hra, lus, frow⟩ := hrow i v hv
      have hi : i < n := by have := (List.getElem?_eq_some_iff.mp hv).1; omega
      have gra : (tgt s4) ra = none := by
        obtain ⟨as, _, _, _, _, z5, z6, _⟩ := g5
        rw [hrL] at z6
        injection z6 with z6
        injection z6 with z6
        rw [z6] at hv
        obtain ⟨y, hy, e⟩ := List.mem_map.mp (List.mem_of_getElem? hv)
        injection e with e
        rw [← e]
        exact z5 y hy
      have pl' := fP.len
      have gz : (List.replicate n ((0, 1) : Int × Nat)).getD i (0, 1) = (0, 1) := by
        rw [List.getD_eq_getElem?_getD, List.getElem?_replicate]
        split <;> rfl
      have er := range_getD (f := fun bs => oneF (vl cs bs) i (0, 1) tks) (wor cs rs)
      rw [show ((fun j => oneF (vl cs ((wor cs rs).getD j [])) i ((List.replicate n ((0, 1) : Int × Nat)).getD i (0, 1)) tks)) = fun j => oneF (vl cs ((wor cs rs).getD j [])) i (0, 1) tks from by rw [gz]] at frow
      rw [er] at frow
      generalize el : ((wor cs rs).map fun bs => oneF (vl cs bs) i (0, 1) tks) = l at *
      have ll : l.length = (wor cs rs).length := by rw [← el, List.length_map]
      have hfb : ∀ p ∈ l, Fb 2520000000 (2 ^ 60) p := fun p hp => by
        rw [← el] at hp
        obtain ⟨bs, _, rfl⟩ := List.mem_map.mp hp
        exact tksW_one (vl cs bs) hW hl i
      have hfo : ∀ p ∈ l, Fok 92 p := fun p hp => (hfb p hp).fok (a := 32) (c := 60) (by decide) (by decide) (Nat.le_refl _)
      have hra6 : H6 ra = some (.lst us) := fk _ _ hra gra
      have hraR : ra ≠ R := fun e => by
        obtain ⟨o, ho⟩ := hG
        rw [e, ho] at gra
        cases gra
      have frow6 : F2 (FAt K H6) us l := fas_tk frow tk
      refine ⟨by show 2 ≤ sizeLine; decide, fun b1 m1 => ?_⟩
      have u1 := same_upd (o := .tup [.int 0, .int 1]) m1
      refine ⟨by show 2 ≤ sizeLine; decide, fun b2 m2 => ?_⟩
      have u2 := same_upd (o := .tup [.int 5, .int 1]) m2
      refine ⟨by show 2 ≤ sizeLine; decide, fun b3 m3 => ?_⟩
      have u3 := same_upd (o := .tup [.int 100, .int 1]) m3
      have U3 := u1.trans (u2.trans u3)
      refine ⟨_, rfl, d, b + 3 * n - 3 * i - 2, rfl, (w6.same U3).less (by omega), fun H7 st y ty fy y0 w7 k7 => ?_⟩
      have T37 : Tk K (tgt u3) H7 := fun _ _ t => Kp.tup k7 (w6.same U3) t
      refine ⟨by show 4 ≤ sizeLine; decide, fun L2 nL2 => ?_⟩
      have u4 := same_upd (o := .lst [.ref b1, .ref b2, .ref b3, .ref st]) nL2
      have nL21 := w7.no nL2
      refine ⟨_, rfl, d, b + 3 * n - 3 * i - 3, 4, rfl, by decide, by decide, (w7.same u4).less (by omega), fun H8 r r0 r1 w8 k8 => ?_⟩
      obtain ⟨j, rfl⟩ := Int.eq_ofNat_of_zero_le r0
      have T78 : Tk K H7 H8 := fun _ _ t => Kp.tup k8 (w7.same u4) (Same.tup u4 t)
      have T38 : Tk K (tgt u3) H8 := fun _ _ t => T78 _ _ (T37 _ _ t)
      obtain ⟨pa, x, hix, tx', fx, x0⟩ : ∃ (p : Addr) (x : Int × Nat), atI [V.ref b1, .ref b2, .ref b3, .ref st] (j : Int) = some (.ref p) ∧ SqT K H8 p [.int x.1, .int x.2] ∧ Fb 2520000000 100 x ∧ 0 ≤ x.1 := by
        have : j = 0 ∨ j = 1 ∨ j = 2 ∨ j = 3 := by omega
        rcases this with rfl | rfl | rfl | rfl
        · exact ⟨b1, (0, 1), rfl, T38 _ _ (Same.tup (u2.trans u3) sqt_upd), fb_dec (by decide +kernel), by decide⟩
        · exact ⟨b2, (5, 1), rfl, T38 _ _ (Same.tup u3 sqt_upd), fb_dec (by decide +kernel), by decide⟩
        · exact ⟨b3, (100, 1), rfl, T38 _ _ sqt_upd, fb_dec (by decide +kernel), by decide⟩
        · exact ⟨st, y, rfl, T78 _ _ ty, fy.up (by decide) (by decide), Int.le_of_lt y0⟩
      refine ⟨L2, _, (j : Int), .ref pa, rfl, rfl, .inl (.inl (k8 _ _ upd_same nL21.1 nL21.2)), hix, ?_⟩
      have T68 : Tk K H6 H8 := fun _ _ t => T38 _ _ (Same.tup U3 t)
      have K68 : Kp d H6 H8 := (Same.kp U3).trans (k7.trans ((Same.kp u4).trans k8))
      have hra1 : ra ≠ d.dr ∧ ra ≠ d.rs := wG.no gra
      have hra8 := K68 _ _ hra6 hra1.1 hra1.2
      have hR8 := K68 _ _ hR nR1.1 nR1.2
      have frow8 := fas_tk frow6 T68
      refine ⟨_, rfl, .inl ⟨rfl, _, .inl (.inl hR8)⟩, _, rfl, _, rfl, ra, us, l, rfl, hra8, frow8, by omega, (fun p hp => (hfo p hp).up (by decide)), fun H9 s9 => ?_⟩
      have bl := bestI_le l l.length
      have gb := List.getElem?_eq_getElem (l := l) (i := bestI l l.length) (by omega)
      have eb : l.getD (bestI l l.length) (0, 1) = l[bestI l l.length]'(by omega) := by rw [List.getD_eq_getElem?_getD, gb]; rfl
      obtain ⟨v2, hv2, f2', rfl, tf2⟩ := (fas_tk frow8 (Same.tk s9)).getB gb
      have ob := hfb _ (List.mem_of_getElem? gb)
      have oo := hfo _ (List.mem_of_getElem? gb)
      have hbest := fun i' (h' : i' < l.length) => bestI_least l (fun p hp => (hfb p hp).f) l.length i' h' (Nat.le_refl _)
      rw [eb] at hbest
      generalize l[bestI l l.length]'(by omega) = mn at *
      refine ⟨ra, us, (bestI l l.length : Int), .ref f2', rfl, rfl, .inl (.inl (s9 _ _ hra8)), atI_nat hv2, f2', mn, rfl, tf2, fun H10 ng tn _ s10 => ?_⟩
      have ox := (fx.fok (a := 32) (c := 7) (by decide) (by decide) (by decide)).up (show 7 + 32 ≤ 400000 by decide)
      have S910 := s9.trans s10
      refine ⟨_, rfl, ng, pa, _, _, _, _, rfl, tn, Same.tup S910 tx', oo.neg.f, ox.f, (oo.neg.up (by decide)).z, ox.z, fun w nw => ?_⟩
      have s11 := same_upd (o := .tup [.int (addF (negF mn) x).1, .int (addF (negF mn) x).2]) nw
      have S11 := S910.trans s11
      have hR11 := S11 _ _ hR8
      have U := fun p xs t' => tup_upd (K := K) (a := p) (ys := xs) (zs := pvs ++ [.ref w]) hR11 t'
      refine ⟨R, pvs, .ref w, rfl, rfl, hR11, Nat.lt_of_le_of_lt (show pvs.length ≤ 64 by omega) (by decide), ?_⟩
      have T611 : Tk K H6 (tgt s11) := fun _ _ t => Same.tup S11 (T68 _ _ t)
      have K611 : Kp d H6 (tgt s11) := K68.trans (Same.kp S11)
      have fbw : Fb 2520000000 (2 ^ 61) (addF (negF mn) x) := (ob.neg.add fx (by decide)).up (Nat.dvd_refl _) (by decide)
      refine ⟨_, _, pvs ++ [.ref w], ps ++ [addF (negF mn) x], rfl, upd_same, (fas_tk (fas_tk fP T611) U).app (.cons ⟨w, rfl, U _ _ sqt_upd⟩ .nil), by rw [List.length_append, pl]; rfl, ⟨fun p hp => ?_, fun i' p hp => ?_⟩, ?_, fun _ _ t => U _ _ (T611 _ _ (tk _ _ t)), ((w8.same S11).mut nR1.1 nR2 nR1.2).less (by omega), kp_mut nR (k6.trans K611)⟩
      · rcases List.mem_append.mp hp with z | z
        · exact ok.f p z
        · rw [List.mem_singleton.mp z]
          exact fbw
      · by_cases z : i' < ps.length
        · rw [List.getElem?_append_left z] at hp
          exact ok.c i' p hp
        · rw [List.getElem?_append_right (by omega)] at hp
          have z2 := (List.getElem?_eq_some_iff.mp hp).1
          have z3 : i' = i := by have : i' - ps.length < 1 := z2; omega
          rw [show i' - ps.length = 0 by omega] at hp
          cases hp
          intro bs hbs
          obtain ⟨k', hk'⟩ := List.getElem?_of_mem hbs
          have hk2 : k' < l.length := by have := (List.getElem?_eq_some_iff.mp hk').1; omega
          have h3 := hbest k' hk2
          have e3 : l.getD k' (0, 1) = oneF (vl cs bs) i (0, 1) tks := by
            rw [← el, List.getD_eq_getElem?_getD, List.getElem?_map, hk']
            rfl
          rw [e3] at h3
          rw [z3, (one_ql fbw.f tks fun t ht => ((hW.w t ht).1.br (vl cs bs)).f).2, ql_add ob.neg.f.pos fx.f.pos, ql_neg]
          have x0' := (ql_nonneg fx.f).mpr x0
          grind
      · refine fk.trans ((Fk.kp wG K611).trans (Fk.mut hG))
    · rintro σ H6 ⟨x5, x6, pvs, ps, rfl, hR, fP, pl, ok, fk, tk, w6, k6⟩
      rw [hrl] at pl w6
      refine ⟨_, rfl, R, pvs, rfl, .inl ⟨.inl (.inl hR), fun p np => ?_⟩⟩
      have s7 := same_upd (o := .tup pvs) np
      exact q _ p pvs ps sqt_upd (fas_tk fP (Same.tk s7)) pl ⟨ok.f, fun i p hp bs hb => ok.c i p hp bs hb⟩ ((w6.less (by omega)).same s7) (k6.trans (Same.kp s7))
end
end B

namespace B
open PySem PySem.Spec PyProof.Rows L2

def sp_with_ticket (K : PySem.W.Frag) : Sp := fun vs H Q E => ∃ (a b p k : Addr) (S : Std) (t : Tkt) (D M : Nat), vs = [.ref a, .int t.l, .int t.s, .ref b, .ref p, .ref k] ∧ StdAt K H a S ∧ t.n = S.m ∧ S.ts.length ≤ 100 ∧ BtAt K H b t.b.ts t.b.g ∧ SqT K H p [.int t.b.p.1, .int t.b.p.2] ∧ SqT K H k [.int t.k.1, .int t.k.2] ∧ (S.ts.length + 1 ≤ 12 → StdOk D M (S.add t)) ∧ OutR K (wtO S t) S.m H Q E

section
variable {P : Program} {w : World} {K : PySem.W.Frag} {mg : Str → Option Value} {base : Heap}
theorem ok_with_ticket (T : Tx K mg w) (U : Unl P base) : FnOk P w K mg base (L2.CX P w) 42 T.with_ticket.f T.with_ticket.fd ["stand", "long", "short", "bet", "price", "stake"] (sp_with_ticket K) := by
  refine T.with_ticket.F.okX sc_with_ticket (fun vs H Q E h => ?_) (fun cdv A outer s H vs Q E hr h => ?_)
  · obtain ⟨a, b, p, k, S, t, D, M, rfl, hS, hn, l100, hB, tp, tk, hO, q⟩ := h
    rfl
  · obtain ⟨a, b, p, k, S, t, D, M, rfl, hS, hn, l100, hB, tp, tk, hO, q⟩ := h
    refine ⟨_, (pss_cons (ps_asg (pv 0) (pg_tup rfl (pgs_cons (pg_name (i := 6) sc_with_ticket.nd rfl (.inl rfl)) (pgs_cons (pg_name (i := 7) sc_with_ticket.nd rfl (.inl rfl)) (pgs_cons (pg_name (i := 8) sc_with_ticket.nd rfl (.inl rfl)) (pgs_cons (pg_name (i := 9) sc_with_ticket.nd rfl (.inl rfl)) (pgs_cons (pg_name (i := 10) sc_with_ticket.nd rfl (.inl rfl)) pgs_nil)))))))
      (pss_cons (ps_set (i := 11) sc_with_ticket.nd rfl (.inl rfl) (pe_callS (ok_few_enough T U) (hr.mono (by decide)) (by rfl) T.few_enough.g T.few_enough.F.kp T.few_enough.b (fun σ => passAt (takes_of rfl rfl rfl rfl) σ) (pa_cons (pe_op op_catS (pv 8) (pe_tup (pa_cons (pe_tup (pa_cons (pv 10) (pa_cons (pv 1) (pa_cons (pv 2) (pa_cons (pv 3) (pa_cons (pv 4) (pa_cons (pv 5) pa_nil))))))) pa_nil))) pa_nil)))
      (pss_one (ps_ret (pe_tup (pa_cons (pv 10) (pa_cons (pe_callS (ok_sure T U) (hr.mono (by decide)) (by rfl) T.sure.g T.sure.F.kp T.sure.b (fun σ => passAt (takes_of rfl rfl rfl rfl) σ) (pa_cons (pe_tup (pa_cons (pv 6) (pa_cons (pv 7) (pa_cons (pv 11) (pa_cons (pv 9) (pa_cons (pe_op op_add (pv 10) pe_int) pa_nil)))))) pa_nil)) pa_nil))))))), ?_⟩
    obtain ⟨h, pp, tt, l', pvs, tvs, lvs, tS, hH, tP, fP, tT, fT, tL, fL⟩ := id hS
    have lT := fT.len
    refine ⟨_, rfl, a, _, rfl, tS, rfl, _, _, rfl, _, _, rfl, _, _, rfl, _, _, rfl, _, _, rfl, rfl, ?_⟩
    by_cases l12 : 12 < S.ts.length + 1
    · rw [show wtO S t = .inl "TooMany" from if_pos l12] at q
      refine ⟨_, rfl, _, rfl, _, rfl, _, rfl, _, rfl, _, rfl, _, rfl, by show 6 ≤ sizeLine; decide, fun q1 n1 => ⟨by show 1 ≤ sizeLine; decide, fun q2 n2 => ?_⟩⟩
      have s1 := same_upd (o := .tup [.int S.m, .int t.l, .int t.s, .ref b, .ref p, .ref k]) n1
      have s2 := same_upd (o := .tup [.ref q1]) n2
      refine ⟨tt, q2, tvs, [.ref q1], rfl, rfl, Same.tup (s1.trans s2) tT, sqt_upd, Nat.le_trans (show tvs.length + 1 ≤ 1000 by omega) (by decide), fun q3 H3 t3 s3 => ?_⟩
      refine ⟨q3, _, rfl, t3, (fun _ C c d H' dk s' => q C c d H' dk (((s1.trans s2).trans s3).trans s')), fun l => ?_⟩
      rw [List.length_append] at l
      have l : tvs.length + 1 ≤ 12 := l
      omega
    refine ⟨_, rfl, _, rfl, _, rfl, _, rfl, _, rfl, _, rfl, _, rfl, by show 6 ≤ sizeLine; decide, fun q1 n1 => ⟨by show 1 ≤ sizeLine; decide, fun q2 n2 => ?_⟩⟩
    have s1 := same_upd (o := .tup [.int S.m, .int t.l, .int t.s, .ref b, .ref p, .ref k]) n1
    have s2 := same_upd (o := .tup [.ref q1]) n2
    refine ⟨tt, q2, tvs, [.ref q1], rfl, rfl, Same.tup (s1.trans s2) tT, sqt_upd, Nat.le_trans (show tvs.length + 1 ≤ 1000 by omega) (by decide), fun q3 H3 t3 s3 => ?_⟩
    have t3 : SqT K H3 q3 (tvs ++ [.ref q1]) := t3
    refine ⟨q3, _, rfl, t3, (fun l C c d H' dk s' => absurd l (by rw [List.length_append]; show ¬ 12 < tvs.length + 1; omega)), fun l => ?_⟩
    have S3 := (s1.trans s2).trans s3
    refine ⟨_, rfl, _, rfl, _, rfl, _, rfl, _, rfl, _, rfl, _, _, rfl, rfl, by show 5 ≤ sizeLine; decide, fun q4 n4 => ?_⟩
    have s4 := same_upd (o := .tup [.ref h, .ref pp, .ref q3, .ref l', .int ((S.m : Int) + 1)]) n4
    have S4 := S3.trans s4
    have tk1 : TkAt K (tgt s4) (.ref q1) t := ⟨q1, b, p, k, rfl, by rw [hn]; exact Same.tup ((s2.trans s3).trans s4) sqt_upd, hB.mono fun _ _ x => Same.tup S4 x, Same.tup S4 tp, Same.tup S4 tk⟩
    have st : StdAt K (tgt s4) q4 (S.add t) := ⟨h, pp, q3, l', pvs, tvs ++ [.ref q1], lvs, sqt_upd, hH.same S4, Same.tup S4 tP, fas_tk fP (Same.tk S4), Same.tup s4 t3, (tks_tk fT (Same.tk S4)).app (F2.one tk1), Same.tup S4 tL, fL.imp fun _ _ x => x.mono (Same.tk S4)⟩
    refine ⟨q4, S.add t, D, M, rfl, st, hO (by omega), (fun c C cc d H' dk s' => ?_), fun c H5 s5 => ⟨by show 2 ≤ sizeLine; decide, fun q6 n6 => ?_⟩⟩
    · have e : wtO S t = .inl "NoCover" := (if_neg l12).trans (if_pos c)
      rw [e] at q
      exact q C cc d H' dk (S4.trans s')
    · have c : covB S.cs (wor S.cs S.rs) S.ps (S.ts ++ [t]) = true := c
      have e : wtO S t = .inr (S.add t) := (if_neg l12).trans (if_neg (by rw [c]; decide))
      rw [e] at q
      have s6 := same_upd (o := .tup [.int S.m, .ref q4]) n6
      exact q _ q6 q4 sqt_upd (st.mono (Same.tk (s5.trans s6))) (S4.trans (s5.trans s6))
end
end B

namespace B
open PySem PySem.Spec PyProof.Rows L2

def sp_handed (K : PySem.W.Frag) : Sp := fun vs H Q E => ∃ (a q : Addr) (S : Std) (v1 v2 v3 v4 : V) (d1 d2 d3 d4 : PyData) (o : Wh), vs = [.ref a, .ref q] ∧ StdAt K H a S ∧ (∀ p ∈ S.ps, Fok 100000 p) ∧ S.ps.length ≤ 6 ∧ S.ts.length ≤ 100 ∧ StdN S ∧ SqT K H q [v1, v2, v3, v4] ∧ Th K H v1 d1 ∧ Th K H v2 d2 ∧ Th K H v3 d3 ∧ Th K H v4 d4 ∧ HandR S d1 d2 d3 d4 o ∧ OutG K o H Q E

section
variable {P : Program} {w : World} {K : PySem.W.Frag} {mg : Str → Option Value} {base : Heap}
theorem ok_handed (T : Tx K mg w) (U : Unl P base) : FnOk P w K mg base (L2.CX P w) 42 T.handed.f T.handed.fd ["stand", "parts"] (sp_handed K) := by
  refine T.handed.F.okX sc_handed (fun vs H Q E h => ?_) (fun cdv A outer s H vs Q E hr h => ?_)
  · obtain ⟨a, q, S, v1, v2, v3, v4, d1, d2, d3, d4, o, rfl, hS, hpz, p6, l100, hN, tq, h1, h2, h3, h4, hR, hQ⟩ := h
    rfl
  · obtain ⟨a, q, S, v1, v2, v3, v4, d1, d2, d3, d4, o, rfl, hS, hpz, p6, l100, hN, tq, h1, h2, h3, h4, hR, hQ⟩ := h
    refine ⟨_, (pss_cons (ps_asg (pv 1) (pg_tup rfl (pgs_cons (pg_name (i := 2) sc_handed.nd rfl (.inl rfl)) (pgs_cons (pg_name (i := 3) sc_handed.nd rfl (.inl rfl)) (pgs_cons (pg_name (i := 4) sc_handed.nd rfl (.inl rfl)) (pgs_cons (pg_name (i := 5) sc_handed.nd rfl (.inl rfl)) pgs_nil))))))
      (pss_cons (ps_asg (pv 0) (pg_tup rfl (pgs_cons (pg_name (i := 6) sc_handed.nd rfl (.inl rfl)) (pgs_cons (pg_name (i := 7) sc_handed.nd rfl (.inl rfl)) (pgs_cons (pg_name (i := 8) sc_handed.nd rfl (.inl rfl)) (pgs_cons (pg_name (i := 9) sc_handed.nd rfl (.inl rfl)) (pgs_cons (pg_name (i := 10) sc_handed.nd rfl (.inl rfl)) pgs_nil)))))))
      (pss_cons (ps_set (i := 11) sc_handed.nd rfl (.inl rfl) (pe_callS (ok_standing T U) (hr.mono (by decide)) (by rfl) T.standing.g T.standing.F.kp T.standing.b (fun σ => passAt (takes_of rfl rfl rfl rfl) σ) (pa_cons (pv 0) (pa_cons (pv 2) pa_nil))))
      (pss_cons (ps_if (PW.pt (pw_or (pt_not (pt_val (pe_call (ok_is_number T U) (hr.mono (by decide)) (by rfl) T.is_number.g T.is_number.F.kp T.is_number.b .nil pass0 (pa_cons (pv 3) pa_nil)))) (pw_or1 (pt_cmpR (op_notInDT (room65 hr)) (pv 3) (pe_slice sl_tupS (pv 11) (po_some pe_int) (po_some pe_int)) (by rfl))))) (pss_one (ps_raise rfl (takes_of rfl rfl rfl rfl) (pmk_none T.x_NoTicket hr (by rfl)))) pss_nil)
      (pss_cons (ps_if (pt_not (pt_val (pe_call (ok_are_two T U) (hr.mono (by decide)) (by rfl) T.are_two.g T.are_two.F.kp T.are_two.b .nil pass0 (pa_cons (pe_callB call_len_seq (by rfl) T.m_len (by decide +kernel) (pa_cons (pv 7) pa_nil)) (pa_cons (pv 3) (pa_cons (pv 4) pa_nil)))))) (pss_one (ps_raise rfl (takes_of rfl rfl rfl rfl) (pmk_none T.x_NoHolder hr (by rfl)))) pss_nil)
      (pss_cons (ps_if (pt_not (pt_val (pe_call (ok_is_fraction T U) (hr.mono (by decide)) (by rfl) T.is_fraction.g T.is_fraction.F.kp T.is_fraction.b .nil pass0 (pa_cons (pv 5) pa_nil)))) (pss_one (ps_raise rfl (takes_of rfl rfl rfl rfl) (pmk_none T.x_NoStake hr (by rfl)))) pss_nil)
      (pss_cons (ps_set (i := 12) sc_handed.nd rfl (.inl rfl) (pe_call (ok_moved T U) (hr.mono (by decide)) (by rfl) T.moved.g T.moved.F.kp T.moved.b .nil pass0 (pa_cons (pv 7) (pa_cons (pv 3) (pa_cons (pv 4) (pa_cons (pv 5) pa_nil))))))
      (pss_one (ps_ret (pe_tup (pa_cons pe_non (pa_cons (pe_callS (ok_sure T U) (hr.mono (by decide)) (by rfl) T.sure.g T.sure.F.kp T.sure.b (fun σ => passAt (takes_of rfl rfl rfl rfl) σ) (pa_cons (pe_tup (pa_cons (pv 6) (pa_cons (pv 12) (pa_cons (pe_call (ok_passed_on T U) (hr.mono (by decide)) (by rfl) T.passed_on.g T.passed_on.F.kp T.passed_on.b .nil pass0 (pa_cons (pv 8) (pa_cons (pv 11) (pa_cons (pv 3) (pa_cons (pv 4) pa_nil))))) (pa_cons (pv 9) (pa_cons (pv 10) pa_nil)))))) pa_nil)) pa_nil)))))))))))), ?_⟩
    obtain ⟨h, pp, tt, l, pvs, tvs, lvs, tS, hH, tP, fP, tT, fT, tL, fL⟩ := id hS
    have lP := fP.len
    have lT := fT.len
    refine ⟨_, rfl, q, _, rfl, tq, rfl, _, _, rfl, _, _, rfl, _, _, rfl, _, _, rfl, rfl, ?_⟩
    refine ⟨_, rfl, a, _, rfl, tS, rfl, _, _, rfl, _, _, rfl, _, _, rfl, _, _, rfl, _, _, rfl, rfl, ?_⟩
    refine ⟨_, rfl, _, rfl, a, v1, d1, S, rfl, hS, h1, (fun hn C hC d H' dk s' => ?_), fun i u t hu hT e => ?_⟩
    · cases hR with
      | tick _ => exact hQ C hC d H' dk s'
      | side m _ _ => exact absurd rfl (hn _ m)
      | two m _ _ => exact absurd rfl (hn _ m)
      | stake m _ _ _ => exact absurd rfl (hn _ m)
      | ok m _ _ _ _ => exact absurd rfl (hn _ m)
    obtain ⟨tq', ba, pa, ka, eu, t1, _⟩ := id hT
    subst eu
    refine ⟨_, rfl, v2, d2, rfl, h2, _, rfl, ?_⟩
    subst e
    have hm := List.mem_of_getElem? hu
    have hI := hR.inv hN hm
    cases e2 : isN d2 with
    | false =>
      refine iteT (iteT fun d nd => ?_)
      rcases hI with ⟨_, _, rfl⟩ | ⟨g, _, rfl, _⟩
      · exact hQ _ T.x_NoTicket.ns _ _ dok_upd (same_upd nd)
      · cases e2
    | true =>
    obtain ⟨z, rfl⟩ : ∃ z : Int, d2 = .int z := by
      cases d2 with
      | int k => exact ⟨k, rfl⟩
      | _ => cases e2
    cases h2
    refine iteF ⟨_, rfl, _, rfl, 1, rfl, 3, rfl, tq', _, rfl, t1, fun c1 H1 tc s1 => ?_⟩
    have tc : SqT K H1 c1 [.int t.l, .int t.s] := tc
    have T1 : Tk K H H1 := Same.tk s1
    have eqi : ∀ a b : Int, PyData.eqv (.int a) (.int b) = decide (a = b) := fun a b => by
      first
        | rfl
        | simp [PyData.eqv]
    refine ⟨.int z, [.int t.l, .int t.s], .int z, .tup tc (.cons (.int _) (.cons (.int _) .nil)), rfl, rfl, _, rfl, ?_⟩
    rw [show [PyData.int (t.l : Int), .int (t.s : Int)].any (fun y => PyData.eqv y (.int z)) = (decide ((t.l : Int) = z) || (decide ((t.s : Int) = z) || false)) by
      show (PyData.eqv (.int (t.l : Int)) (.int z) || (PyData.eqv (.int (t.s : Int)) (.int z) || false)) = _
      rw [eqi, eqi]]
    rcases hI with ⟨n1, n2, rfl⟩ | ⟨g, hg, eg, hI⟩
    · rw [decide_eq_false (p := (t.l : Int) = z) (fun e => n1 (by rw [e])), decide_eq_false (p := (t.s : Int) = z) (fun e => n2 (by rw [e]))]
      exact iteT fun d nd => hQ _ T.x_NoTicket.ns _ _ dok_upd (s1.trans (same_upd nd))
    injection eg with eg
    subst eg
    have eo : (decide ((t.l : Int) = (g : Int)) || (decide ((t.s : Int) = (g : Int)) || false)) = true := by
      rcases hg with rfl | rfl
      · rw [decide_eq_true rfl]
        rfl
      · rw [decide_eq_true (p := (t.s : Int) = (t.s : Int)) rfl]
        exact Bool.or_true _
    rw [eo]
    refine iteF ⟨_, rfl, pp, pvs, rfl, .inr (T1 _ _ tP), _, rfl, _, rfl, _, .int g, v3, .int g, d3, rfl, .int _, th_same s1 h3, _, rfl, ?_⟩
    rw [lP]
    rcases hI with ⟨e, rfl⟩ | hI
    · rw [e]
      exact iteT fun d nd => hQ _ T.x_NoHolder.ns _ _ dok_upd (s1.trans (same_upd nd))
    have e : isTwo S.ps.length (.int (g : Int)) d3 = true := by
      rcases hI with ⟨e, _⟩ | ⟨k, x, _, _, rfl, _, e, _⟩
      · exact e
      · exact e
    rw [e]
    refine iteF ⟨_, rfl, v4, d4, rfl, th_same s1 h4, _, rfl, ?_⟩
    rcases hI with ⟨_, e4, rfl⟩ | ⟨k, x, D, M, rfl, rfl, _, fx, ok, rfl⟩
    · rw [e4]
      exact iteT fun d nd => hQ _ T.x_NoStake.ns _ _ dok_upd (s1.trans (same_upd nd))
    rw [isFr_iff.mpr ⟨x, fx.f, rfl⟩]
    cases h3
    obtain ⟨fa, rfl, tf⟩ := th_pair h4
    obtain ⟨i', j', ei, ej, li, lj, nij⟩ := two_inv e
    injection ei with ei
    injection ej with ej
    have lg : g < S.ps.length := by omega
    have lk : k < S.ps.length := by omega
    refine iteF ⟨_, rfl, _, rfl, _, rfl, _, rfl, pp, fa, pvs, S.ps, g, k, x, rfl, T1 _ _ tP, fas_tk fP T1, lg, lk, T1 _ _ tf, hpz, fx, fun H2 r us tr fu s2 => ?_⟩
    have S2 := s1.trans s2
    have T2 : Tk K H H2 := Same.tk S2
    refine ⟨_, rfl, _, rfl, _, rfl, _, rfl, _, rfl, _, rfl, tt, .ref tq', tvs, S.ts, t, g, k, (if t.l = g then k else t.l), (if t.l = g then t.s else k), rfl, T2 _ _ tT, tks_tk fT T2, l100, hT.mono T2, (by split <;> rfl), fun H3 p us3 tp fu3 s3 => ?_⟩
    refine ⟨_, rfl, _, rfl, by show 5 ≤ sizeLine; decide, fun q4 n4 => ?_⟩
    have s4 := same_upd (o := .tup [.ref h, .ref r, .ref p, .ref l, .int S.m]) n4
    have S34 := s3.trans s4
    have S4 := S2.trans S34
    have st : StdAt K (tgt s4) q4 (S.hand t g k x) := ⟨h, r, p, l, us, us3, lvs, sqt_upd, hH.same S4, Same.tup S34 tr, fas_tk fu (Same.tk S34), Same.tup s4 tp, tks_tk fu3 (Same.tk s4), Same.tup S4 tL, fL.imp fun _ _ x => x.mono (Same.tk S4)⟩
    refine ⟨q4, S.hand t g k x, D, M, rfl, st, ok, (fun c C cc d H' dk s' => ?_), fun c H5 s5 => ⟨by show 2 ≤ sizeLine; decide, fun q6 n6 => ?_⟩⟩
    · have e : covO .none (S.hand t g k x) = .inl "NoCover" := if_pos c
      rw [e] at hQ
      exact hQ C cc d H' dk (S4.trans s')
    · have e : covO .none (S.hand t g k x) = .inr (.none, S.hand t g k x) := if_neg (by rw [c]; decide)
      rw [e] at hQ
      have s6 := same_upd (o := .tup [.non, .ref q4]) n6
      exact hQ _ q6 q4 .non sqt_upd .non (st.mono (Same.tk (s5.trans s6))) (S4.trans (s5.trans s6))
end
end B

namespace B
open PySem PySem.Spec PyProof.Rows L2

def sp_l_bare_stand (K : PySem.W.Frag) : Sp := fun vs H Q _ => ∃ (d : Dr) (b k : Nat), vs = [.ref d.dr, .int k] ∧ k ≤ 12 ∧ Drw H d (b + 2801) ∧ ∀ (H' : Hp) (a : Addr) (S : Std), StdAt K H' a S → StdB S 0 2520000000 → covB S.cs (wor S.cs S.rs) S.ps S.ts = true → S.ts.length ≤ 12 → Ls 6 S.cs → StdN S → Drw H' d b → Kp d H H' → Q (.ref a) H'

section
variable {P : Program} {w : World} {K : PySem.W.Frag} {mg : Str → Option Value} {base : Heap}
theorem ok_l_bare_stand (T : Tx K mg w) (U : Unl P base) : FnOk P w K mg base CX0 42 T.l_bare_stand.f T.l_bare_stand.fd ["_law_drawn", "_law_most"] (sp_l_bare_stand K) := by
  refine T.l_bare_stand.F.ok sc_l_bare_stand (fun vs H Q E h => ?_) (fun cdv A outer s H vs Q E hr h => ?_)
  · obtain ⟨d, b, k, rfl, k12, hD, q⟩ := h
    rfl
  · obtain ⟨d, b, k, rfl, k12, hD, q⟩ := h
    refine ⟨_, (pss_cons (ps_set (i := 2) sc_l_bare_stand.nd rfl (.inl rfl) (pe_call (ok_l_place T U) (hr.mono (by decide)) (by rfl) T.l_place.g T.l_place.F.kp T.l_place.b .nil pass0 (pa_cons (pv 0) pa_nil)))
      (pss_cons (ps_set (i := 3) sc_l_bare_stand.nd rfl (.inl rfl) (pe_ix ix_list (pe_lst (pa_cons pe_int (pa_cons pe_int (pa_cons pe_int (pa_cons pe_int (pa_cons pe_int pa_nil)))))) (pe_call (ok_l_next T U) (hr.mono (by decide)) (by rfl) T.l_next.g T.l_next.F.kp T.l_next.b .nil pass0 (pa_cons (pv 0) (pa_cons pe_int pa_nil))) (fun _ _ => rfl)))
      (pss_cons (ps_set (i := 4) sc_l_bare_stand.nd rfl (.inl rfl) (pe_call (ok_l_tickets T U) (hr.mono (by decide)) (by rfl) T.l_tickets.g T.l_tickets.F.kp T.l_tickets.b .nil pass0 (pa_cons (pv 0) (pa_cons (pv 2) (pa_cons (pv 3) (pa_cons (pe_call (ok_l_next T U) (hr.mono (by decide)) (by rfl) T.l_next.g T.l_next.F.kp T.l_next.b .nil pass0 (pa_cons (pv 0) (pa_cons (pe_op op_add (pv 1) pe_int) pa_nil))) pa_nil))))))
      (pss_cons (ps_set (i := 6) sc_l_bare_stand.nd rfl (.inl rfl) (pe_op op_add (pe_callB (cr_sum rfl) (by rfl) T.m_sum (by decide +kernel) (pa_cons (pe_lc (own := [("_law_ticket_here", 5)]) (g := gName 5) (tt := tYes) rfl sc_l_bare_stand.nd (pi_tup (pe_slice sl_tupS (pv 4) (po_some (pe_un un_neg pe_int)) po_none)) (blkOk_by (own := [("_law_ticket_here", 5)]) (N := N_l_bare_stand) (sc := defScope s_l_bare_stand) (by decide +kernel)) (fun _ _ _ _ _ => (pg_name (i := 5) sc_l_bare_stand.nd rfl (.inl rfl))) (fun _ _ _ _ _ => pts_nil) (fun _ _ _ _ _ => (pe_op op_add (pe_ix (r := rIxT K) ix_tup (pv 5) pe_int (fun _ _ => rfl)) pe_int))) pa_nil)) (pe_ix ix_list (pe_lst (pa_cons pe_int (pa_cons pe_int (pa_cons pe_int pa_nil)))) (pe_call (ok_l_next T U) (hr.mono (by decide)) (by rfl) T.l_next.g T.l_next.F.kp T.l_next.b .nil pass0 (pa_cons (pv 0) (pa_cons pe_int pa_nil))) (fun _ _ => rfl))))
      (pss_one (ps_ret (pe_tup (pa_cons (pv 2) (pa_cons (pe_call (ok_l_purses T U) (hr.mono (by decide)) (by rfl) T.l_purses.g T.l_purses.F.kp T.l_purses.b .nil pass0 (pa_cons (pv 0) (pa_cons (pv 2) (pa_cons (pv 3) (pa_cons (pv 4) pa_nil))))) (pa_cons (pv 4) (pa_cons (pe_op op_repN (pe_tup (pa_cons (pe_tup pa_nil) pa_nil)) (pv 3)) (pa_cons (pv 6) pa_nil)))))))))))), ?_⟩
    refine ⟨_, rfl, d, b + 2798, rfl, hD.less (by omega), fun H1 h cs rs hH hO hL _ hne r1 r3 w1 k1 => ?_⟩
    have c1 := hL.pos
    refine ⟨by show 5 ≤ sizeLine; decide, fun L nL => ?_⟩
    have sL := same_upd (o := .lst [.int 2, .int 3, .int 3, .int 4, .int 6]) nL
    have nL1 := w1.no nL
    refine ⟨_, rfl, d, b + 2797, 5, rfl, by decide, by decide, w1.same sL, fun H2 r r0 r1' w2 k2 => ?_⟩
    obtain ⟨i, rfl⟩ := Int.eq_ofNat_of_zero_le r0
    obtain ⟨n, hix, n2, n6⟩ : ∃ n : Nat, atI [V.int 2, .int 3, .int 3, .int 4, .int 6] (i : Int) = some (.int n) ∧ 2 ≤ n ∧ n ≤ 6 := by
      have : i = 0 ∨ i = 1 ∨ i = 2 ∨ i = 3 ∨ i = 4 := by omega
      rcases this with rfl | rfl | rfl | rfl | rfl
      · exact ⟨2, rfl, by decide, by decide⟩
      · exact ⟨3, rfl, by decide, by decide⟩
      · exact ⟨3, rfl, by decide, by decide⟩
      · exact ⟨4, rfl, by decide, by decide⟩
      · exact ⟨6, rfl, by decide, by decide⟩
    refine ⟨L, _, (i : Int), .int n, rfl, rfl, .inl (.inl (k2 _ _ upd_same nL1.1 nL1.2)), hix, ?_⟩
    have K2 : Kp d H1 H2 := (Same.kp sL).trans k2
    have hH2 := hH.mono fun _ _ t => Kp.tup K2 w1 t
    refine ⟨_, rfl, _, rfl, _, rfl, _, rfl, _, rfl, _, _, rfl, rfl, d, b + 2796, (k : Int) + 1, rfl, by omega, by omega, w2, fun H3 r' r0' r1'' w3 k3 => ?_⟩
    obtain ⟨m, rfl⟩ := Int.eq_ofNat_of_zero_le r0'
    have hH3 := hH2.mono fun _ _ t => Kp.tup k3 w2 t
    refine ⟨d, b + 400, n, m, h, cs, rs, rfl, n2, n6, by omega, hH3, hO, c1, hne, w3.less (by omega), fun H6 T' tvs tks tT6 fT6 hW hl w6 k4 => ?_⟩
    have hH6 := hH3.mono fun _ _ t => Kp.tup k4 w3 t
    have lt := fT6.len
    refine ⟨_, rfl, 1, rfl, -1, rfl, T', tvs, rfl, tT6, fun T2 H7 t7 s7 => ?_⟩
    rw [cutEnd] at t7
    refine ⟨T2, rfl, ⟨_, t7⟩, fun D nD => ?_⟩
    refine lcp_tup (K := K) (xs := tvs.drop (tvs.length - 1)) (R := fun _ v (z : Int) => v = .int z) (IR := TkAt K H7) (tks.drop (tvs.length - 1)) (fun t => some ((t.n : Int) + 1)) (fun _ _ _ _ _ h => h) ((tks_tk fT6 (Same.tk s7)).drop _) nD t7 (by rw [List.length_drop]; exact Nat.lt_of_le_of_lt (show tvs.length - (tvs.length - 1) ≤ 1 by omega) (by decide)) ?_ ?_
    · rintro v t H8 ⟨tq, a, c, e, rfl, t1, _⟩ _ s8 Y N hY _
      exact ⟨rfl, lc_yes ⟨_, rfl, tq, _, 0, .int t.n, rfl, rfl, Same.tup s8 t1, rfl, _, _, rfl, rfl, hY _ _ _ (Same.refl _) rfl rfl⟩⟩
    intro H8 ys h8 f8 s8
    have e8 := f2_eq f8
    rw [fm_some] at e8
    rw [e8] at h8
    obtain ⟨z, hz, hzl, hzm⟩ : ∃ z : Nat, (((tks.drop (tvs.length - 1)).map fun t => (t.n : Int) + 1)).sum = z ∧ z ≤ 2000 ∧ ∀ t ∈ tks, t.n < z := by
      rw [lt]
      rcases List.eq_nil_or_concat tks with e | ⟨l, t, e⟩
      · rw [e]
        exact ⟨0, rfl, by decide, nofun⟩
      · rw [List.concat_eq_append] at e
        have : tks.drop (tks.length - 1) = [t] := by rw [e]; simp
        rw [this]
        have ht := (hW.w t (by rw [e]; simp)).2.2.2.2.1
        refine ⟨t.n + 1, by simp, by omega, fun y hy => ?_⟩
        have hr := hW.r
        rw [e] at hr hy
        rcases List.mem_append.mp hy with w | w
        · have := (List.pairwise_append.mp hr).2.2 y w t (by simp)
          omega
        · rw [List.mem_singleton.mp w]
          omega
    refine ⟨D, _, rfl, .inl (.inl (by rw [h8, List.map_map])), ?_⟩
    rw [hz]
    refine ⟨by show 3 ≤ sizeLine; decide, fun L3 nL3 => ?_⟩
    have sL3 := same_upd (o := .lst [.int 0, .int 1, .int 40]) nL3
    have w8 := w6.same (s7.trans s8)
    have nL31 := w8.no nL3
    refine ⟨_, rfl, d, b + 300, 3, rfl, by decide, by decide, (w8.same sL3).less (by omega), fun H9 x x0 x1 w9 k9 => ?_⟩
    obtain ⟨y, rfl⟩ := Int.eq_ofNat_of_zero_le x0
    obtain ⟨c, hix3, c40⟩ : ∃ c : Nat, atI [V.int 0, .int 1, .int 40] (y : Int) = some (.int c) ∧ c ≤ 40 := by
      have : y = 0 ∨ y = 1 ∨ y = 2 := by omega
      rcases this with rfl | rfl | rfl
      · exact ⟨0, rfl, by decide⟩
      · exact ⟨1, rfl, by decide⟩
      · exact ⟨40, rfl, by decide⟩
    refine ⟨L3, _, (y : Int), .int c, rfl, rfl, .inl (.inl (k9 _ _ upd_same nL31.1 nL31.2)), hix3, _, _, rfl, rfl, ?_⟩
    have K69 : Kp d H6 H9 := (Same.kp (s7.trans (s8.trans sL3))).trans k9
    have T69 : Tk K H6 H9 := fun _ _ t => Kp.tup K69 w6 t
    have hH9 := hH6.mono T69
    refine ⟨_, rfl, _, rfl, _, rfl, _, rfl, _, rfl, d, b + 200, n, 10 * m, h, T', tvs, cs, rs, tks, rfl, n6, hH9, hO, hne, T69 _ _ tT6, tks_tk fT6 T69, hW, by omega, w9.less (by omega), fun H10 P pvs ps tP fP lp hP w10 k10 => ?_⟩
    have T10 : Tk K H6 H10 := fun _ _ t => Kp.tup k10 w9 (T69 _ _ t)
    refine ⟨_, rfl, by show 0 ≤ sizeLine; decide, fun a2 n2' => ⟨by show 1 ≤ sizeLine; decide, fun a3 n3 => ?_⟩⟩
    have u1 := same_upd (o := .tup []) n2'
    have u2 := same_upd (o := .tup [.ref a2]) n3
    refine ⟨_, rfl, a3, (n : Int), [.ref a2], rfl, rfl, sqt_upd, by simp, by omega, by omega, by show 1 ≤ 1000; decide, fun a4 H11 t4 u3 => ?_⟩
    rw [Int.toNat_natCast, flat_rep] at t4
    refine ⟨_, rfl, by show 5 ≤ sizeLine; decide, fun a na => ?_⟩
    have u4 := same_upd (o := .tup [.ref h, .ref P, .ref T', .ref a4, .int ((z : Int) + (c : Int))]) na
    have U4 := u1.trans (u2.trans (u3.trans u4))
    have TU : Tk K H10 (tgt u4) := Same.tk U4
    have T6U : Tk K H6 (tgt u4) := fun _ _ t => TU _ _ (T10 _ _ t)
    have eM : (z : Int) + (c : Int) = ((z + c : Nat) : Int) := (Int.natCast_add z c).symm
    refine q _ a ⟨cs, rs, ps, tks, List.replicate n [], z + c⟩ ⟨h, P, T', a4, pvs, tvs, _, ?_, hH6.mono T6U, TU _ _ tP, fas_tk fP TU, T6U _ _ tT6, tks_tk fT6 T6U, Same.tup u4 t4, f2_rep ⟨a2, [], rfl, Same.tup (u2.trans (u3.trans u4)) sqt_upd, .nil⟩⟩ ?_ (hP.cov hW lp) (by show tks.length ≤ 12; omega) hL ⟨hW.r, fun t ht => ⟨by have := hzm t ht; show t.n < z + c; omega, (hW.w t ht).2.2.2.1⟩⟩ ((w10.same U4).less (by omega)) (k1.trans (K2.trans (k3.trans (k4.trans (K69.trans (k10.trans (Same.kp U4)))))))
    · show SqT K (tgt u4) a [.ref h, .ref P, .ref T', .ref a4, .int ((z + c : Nat) : Int)]
      rw [← eM]
      exact sqt_upd
    · refine ⟨hO, hne, by show 2 ≤ ps.length; omega, by show ps.length ≤ 6; omega, fun t ht => ?_, by decide, by decide, fun v t ht => ((hW.w t ht).1.br v).up (Nat.dvd_refl _) (by decide), fun p hp => (hP.f p hp).up (Nat.dvd_refl _) (by decide), by show tks.length ≤ 13; omega, by show (List.replicate n ([] : List Bd)).length = ps.length; rw [List.length_replicate]; omega, fun bds hb => ?_⟩
      · obtain ⟨y1, y2, y3, _⟩ := hW.w t ht
        exact ⟨y1.ok, by show t.l < ps.length; omega, by show t.s < ps.length; omega⟩
      · rw [List.eq_of_mem_replicate (show bds ∈ List.replicate n ([] : List Bd) from hb)]
        exact ⟨by show 0 ≤ 6; decide, nofun⟩
end
end B

namespace B
open PySem PySem.Spec PyProof.Rows L2

def sp_l_dealt (K : PySem.W.Frag) : Sp := fun vs H Q _ => ∃ (d : Dr) (b : Nat) (st : Addr) (S : Std) (D : Nat), vs = [.ref d.dr, .ref st] ∧ StdAt K H st S ∧ StdB S 0 D ∧ S.ts.length ≤ 12 ∧ Ls 6 S.cs ∧ Drw H d (b + 21) ∧ ∀ (H' : Hp) (r dq a : Addr) (vs0 : List V) (ds : List (Str × Bool)) (o : Wh), SqT K H' r [.ref dq, .ref a] → H' a = some (.lst vs0) → F2 (DueAt K H') vs0 ds → ds.length ≤ 10 → DealQ K H' S dq o → (dueL ds).head? = whN o → Drw H' d b → Kp d H H' → Q (.ref r) H'

section
variable {P : Program} {w : World} {K : PySem.W.Frag} {mg : Str → Option Value} {base : Heap}
theorem ok_l_dealt (T : Tx K mg w) (U : Unl P base) : FnOk P w K mg base CX0 42 T.l_dealt.f T.l_dealt.fd ["_law_drawn", "_law_stand"] (sp_l_dealt K) := by
  refine T.l_dealt.F.ok sc_l_dealt (fun vs H Q E h => ?_) (fun cdv A outer s H vs Q E hr h => ?_)
  · obtain ⟨d, b, st, S, D, rfl, hS, hB, n12, hL, hD, q⟩ := h
    rfl
  · obtain ⟨d, b, st, S, D, rfl, hS, hB, n12, hL, hD, q⟩ := h
    refine ⟨_, (pss_cons (ps_set (i := 2) sc_l_dealt.nd rfl (.inl rfl) (pe_call (ok_l_wrongs T U) (hr.mono (by decide)) (by rfl) T.l_wrongs.g T.l_wrongs.F.kp T.l_wrongs.b .nil pass0 (pa_cons (pv 0) (pa_cons pe_int pa_nil))))
      (pss_cons (ps_asg (pe_call (ok_l_two T U) (hr.mono (by decide)) (by rfl) T.l_two.g T.l_two.F.kp T.l_two.b .nil pass0 (pa_cons (pv 0) (pa_cons (pe_callB call_len_seq (by rfl) T.m_len (by decide +kernel) (pa_cons (pe_ix ix_tup (pv 1) pe_int (fun _ _ => rfl)) pa_nil)) pa_nil))) (pg_tup rfl (pgs_cons (pg_name (i := 3) sc_l_dealt.nd rfl (.inl rfl)) (pgs_cons (pg_name (i := 4) sc_l_dealt.nd rfl (.inl rfl)) pgs_nil))))
      (pss_cons (ps_set (i := 5) sc_l_dealt.nd rfl (.inl rfl) (pe_call (ok_l_wager T U) (hr.mono (by decide)) (by rfl) T.l_wager.g T.l_wager.F.kp T.l_wager.b .nil pass0 (pa_cons (pv 0) (pa_cons (pe_ix ix_tup (pv 1) pe_int (fun _ _ => rfl)) pa_nil))))
      (pss_cons (ps_set (i := 6) sc_l_dealt.nd rfl (.inl rfl) (pe_call (ok_l_cost T U) (hr.mono (by decide)) (by rfl) T.l_cost.g T.l_cost.F.kp T.l_cost.b .nil pass0 (pa_cons (pv 0) (pa_cons (pe_call (ok_l_table T U) (hr.mono (by decide)) (by rfl) T.l_table.g T.l_table.F.kp T.l_table.b .nil pass0 (pa_cons (pe_ix ix_tup (pv 1) pe_int (fun _ _ => rfl)) (pa_cons (pv 5) pa_nil))) pa_nil))))
      (pss_cons (ps_set (i := 7) sc_l_dealt.nd rfl (.inl rfl) (pe_call (ok_l_bad T U) (hr.mono (by decide)) (by rfl) T.l_bad.g T.l_bad.F.kp T.l_bad.b .nil pass0 (pa_cons (pe_ix ix_list (pv 2) pe_int (fun _ _ => rfl)) (pa_cons (pe_tup (pa_cons pe_int (pa_cons (pe_op op_pow pe_int pe_int) pa_nil))) (pa_cons (pe_tup (pa_cons (pe_op op_pow pe_int pe_int) (pa_cons pe_int pa_nil))) pa_nil)))))
      (pss_cons (ps_set (i := 8) sc_l_dealt.nd rfl (.inl rfl) (pe_op op_catS (pe_ix ix_tup (pv 1) pe_int (fun _ _ => rfl)) (pe_tup (pa_cons (pe_tup (pa_cons (pe_ix ix_tup (pv 1) pe_int (fun _ _ => rfl)) (pa_cons (pv 3) (pa_cons (pv 4) (pa_cons (pv 5) (pa_cons (pv 6) (pa_cons (pv 7) pa_nil))))))) pa_nil))))
      (pss_cons (ps_set (i := 9) sc_l_dealt.nd rfl (.inl rfl) (pe_lst (pa_cons (pe_tup (pa_cons pe_str (pa_cons (pe_ix ix_list (pv 2) pe_int (fun _ _ => rfl)) pa_nil))) (pa_cons (pe_tup (pa_cons pe_str (pa_cons (pe_ix ix_list (pv 2) pe_int (fun _ _ => rfl)) pa_nil))) (pa_cons (pe_tup (pa_cons pe_str (pa_cons (pe_ix ix_list (pv 2) pe_int (fun _ _ => rfl)) pa_nil))) (pa_cons (pe_tup (pa_cons pe_str (pa_cons (pe_cmpR op_eq (pe_callB call_len_seq (by rfl) T.m_len (by decide +kernel) (pa_cons (pv 8) pa_nil)) pe_int (nomark _)) pa_nil))) pa_nil))))))
      (pss_cons (ps_set (i := 9) sc_l_dealt.nd rfl (.inl rfl) (pe_op op_cat (pv 9) (pe_lst (pa_cons (pe_tup (pa_cons pe_str (pa_cons (pe_not (pe_call (ok_l_covered T U) (hr.mono (by decide)) (by rfl) T.l_covered.g T.l_covered.F.kp T.l_covered.b .nil pass0 (pa_cons (pe_op op_catS (pe_op op_catS (pe_slice sl_tupS (pv 1) po_none (po_some pe_int)) (pe_tup (pa_cons (pv 8) pa_nil))) (pe_slice sl_tupS (pv 1) (po_some pe_int) po_none)) pa_nil))) pa_nil))) pa_nil))))
      (pss_cons (ps_set (i := 10) sc_l_dealt.nd rfl (.inl rfl) (pe_call (ok_l_bad T U) (hr.mono (by decide)) (by rfl) T.l_bad.g T.l_bad.F.kp T.l_bad.b .nil pass0 (pa_cons (pe_ix ix_list (pv 2) pe_int (fun _ _ => rfl)) (pa_cons (pv 7) (pa_cons (pe_tup (pa_cons pe_int (pa_cons pe_int pa_nil))) pa_nil)))))
      (pss_cons (ps_set (i := 11) sc_l_dealt.nd rfl (.inl rfl) (pe_call (ok_l_bad T U) (hr.mono (by decide)) (by rfl) T.l_bad.g T.l_bad.F.kp T.l_bad.b .nil pass0 (pa_cons (pe_ix ix_list (pv 2) pe_int (fun _ _ => rfl)) (pa_cons (pv 4) (pa_cons (pe_ix ix_list (pe_lst (pa_cons (pv 3) (pa_cons (pe_callB call_len_seq (by rfl) T.m_len (by decide +kernel) (pa_cons (pe_ix ix_tup (pv 1) pe_int (fun _ _ => rfl)) pa_nil)) (pa_cons (pe_un un_neg pe_int) pa_nil)))) (pe_call (ok_l_next T U) (hr.mono (by decide)) (by rfl) T.l_next.g T.l_next.F.kp T.l_next.b .nil pass0 (pa_cons (pv 0) (pa_cons pe_int pa_nil))) (fun _ _ => rfl)) pa_nil)))))
      (pss_one (ps_ret (pe_tup (pa_cons (pe_tup (pa_cons pe_str (pa_cons (pv 3) (pa_cons (pv 11) (pa_cons (pe_call (ok_l_bad T U) (hr.mono (by decide)) (by rfl) T.l_bad.g T.l_bad.F.kp T.l_bad.b .nil pass0 (pa_cons (pe_ix ix_list (pv 2) pe_int (fun _ _ => rfl)) (pa_cons (pv 5) (pa_cons (pe_tup (pa_cons (pe_ix ix_tup (pv 5) pe_int (fun _ _ => rfl)) (pa_cons (pe_tup (pa_cons pe_str pa_nil)) pa_nil))) pa_nil)))) (pa_cons (pv 6) (pa_cons (pv 10) pa_nil))))))) (pa_cons (pv 9) pa_nil))))))))))))))), ?_⟩
    obtain ⟨h, pp, tt, l', pvs, tvs, lvs, tS, hH, tP, fP, tT, fT, tL, fL⟩ := id hS
    have lP := fP.len
    have lT := fT.len
    have p2 := hB.p2
    have p6 := hB.p6
    have c1 := hL.pos
    have hcs : ∀ c ∈ S.cs, 97 ≤ c := fun c hc => (hL.small c hc).1
    refine ⟨_, rfl, d, b + 17, 4, rfl, by decide, by decide, hD, fun H1 W ws hW lW nW w1 k1 => ?_⟩
    obtain ⟨w0, wa, wb, wc, rfl⟩ : ∃ a b c e : Bool, ws = [a, b, c, e] := by
      match ws, lW with
      | [a, b, c, e], _ => exact ⟨a, b, c, e, rfl⟩
    obtain ⟨nw1, nw2⟩ := hD.no nW
    have T1 : Tk K H H1 := fun _ _ t => Kp.tup k1 hD t
    refine ⟨_, rfl, _, rfl, st, _, 1, .ref pp, rfl, rfl, T1 _ _ tS, rfl, pp, pvs, rfl, .inr (T1 _ _ tP), d, b + 15, pvs.length, rfl, by omega, by omega, w1, fun H2 tw l g ttw ll lg nlg w2 k2 => ?_⟩
    have ll : l < S.ps.length := by omega
    have lg : g < S.ps.length := by omega
    have T2 : Tk K H H2 := fun _ _ t => Kp.tup k2 w1 (T1 _ _ t)
    refine ⟨tw, _, rfl, ttw, rfl, _, _, rfl, _, _, rfl, rfl, ?_⟩
    refine ⟨_, rfl, _, rfl, st, _, 0, .ref h, rfl, rfl, T2 _ _ tS, atI_nat (j := 0) rfl, d, b + 3, h, S.cs, S.rs, rfl, hH.mono T2, hB.h, c1, hB.w, w2, fun H3 xb ts gw hb bw hne w3 k3 => ?_⟩
    have T3 : Tk K H H3 := fun _ _ t => Kp.tup k3 w2 (T2 _ _ t)
    refine ⟨_, rfl, _, rfl, st, _, 0, .ref h, rfl, rfl, T3 _ _ tS, atI_nat (j := 0) rfl, _, rfl, h, xb, S.cs, S.rs, ts, gw, rfl, hH.mono T3, hB.h, hb, bw.ok, fun H4 pt us tpt fus s4 => ?_⟩
    have w4 := w3.same s4
    have wle := wor_le (rs := S.rs) hB.h.c6
    refine ⟨d, b + 1, pt, us, tabO S.cs ts gw (wor S.cs S.rs), rfl, tpt, fus, by rw [tabO_len]; exact wle, hne, ?_, w4, fun H5 xp pr tpr fpr w5 k5 => ?_⟩
    · intro x hx
      obtain ⟨o, ho, e⟩ := List.mem_filterMap.mp hx
      obtain ⟨bs, _, rfl⟩ := List.mem_map.mp ho
      have e : payO (vl S.cs bs) ts gw = some x := e
      rw [payO_some e]
      exact bw.pay _
    have K35 : Tk K H3 H5 := fun _ _ t => Kp.tup k5 w4 (Same.tup s4 t)
    have T5 : Tk K H H5 := fun _ _ t => K35 _ _ (T3 _ _ t)
    have KK5 : Kp d H1 H5 := k2.trans (k3.trans ((Same.kp s4).trans k5))
    have hW5 := KK5 _ _ hW nw1 nw2
    obtain ⟨hliv, hsz⟩ := liv_right bw hne
    have hb5 := hb.mono K35
    have tta := T5 _ _ tT
    have tS5 := T5 _ _ tS
    refine ⟨_, rfl, W, _, 3, .bl wc, rfl, rfl, .inl (.inl hW5), rfl, _, _, rfl, rfl, ⟨by decide, by decide, by decide⟩, by show 2 ≤ sizeLine; decide, fun c1 n1 => ⟨_, _, rfl, rfl, ⟨by decide, by decide, by decide⟩, by show 2 ≤ sizeLine; decide, fun c2 n2 => ⟨wc, .ref c1, .ref c2, rfl, fun H6 s6 => ?_⟩⟩⟩
    have m1 : Same H5 (upd H5 c1 (.tup [.int 1, .int 1000000000000000000000000000000])) := same_upd n1
    have m2 : Same (tgt m1) (upd (tgt m1) c2 (.tup [.int 1000000000000000000000000000000, .int 1])) := same_upd n2
    have M6 := m1.trans (m2.trans s6)
    have tc1 : SqT K (tgt m1) c1 [.int ((1, 1000000000000000000000000000000) : Int × Nat).1, .int ((1, 1000000000000000000000000000000) : Int × Nat).2] := sqt_upd
    have tc2 : SqT K (tgt m2) c2 [.int ((1000000000000000000000000000000, 1) : Int × Nat).1, .int ((1000000000000000000000000000000, 1) : Int × Nat).2] := sqt_upd
    obtain ⟨sk, kk, esk, tsk, kk0, fkk⟩ : ∃ (sk : Addr) (kk : Int × Nat), (if wc = true then V.ref c2 else V.ref c1) = V.ref sk ∧ SqT K H6 sk [.int kk.1, .int kk.2] ∧ 0 < kk.1 ∧ Fb 1000000000000000000000000000000 1000000000000000000000000000000 kk := by
      cases wc with
      | true => exact ⟨c2, _, rfl, Same.tup s6 tc2, by decide, fb_dec (by decide +kernel)⟩
      | false => exact ⟨c1, _, rfl, Same.tup (m2.trans s6) tc1, by decide, fb_dec (by decide +kernel)⟩
    rw [esk]
    have gk : StkG D 0 kk := ⟨1000000000000000000000000000000, by decide, by decide, fkk.up (Nat.dvd_mul_left ..) (by decide)⟩
    obtain ⟨D2, hB2⟩ := hB.sell (t := ⟨S.m, l, g, ⟨ts, gw, pr⟩, kk⟩) (by omega) n12 bw fpr gk ll lg
    have ok2 := hB2.ok (show 0 + 1 ≤ 5 by omega)
    have w6 := w5.same M6
    refine ⟨_, rfl, st, _, 2, .ref tt, rfl, rfl, Same.tup M6 tS5, rfl, _, rfl, st, _, 4, .int S.m, rfl, rfl, Same.tup M6 tS5, rfl, _, rfl, _, rfl, _, rfl, _, rfl, _, rfl, by show 6 ≤ sizeLine; decide, fun tq ntq => ⟨by show 1 ≤ sizeLine; decide, fun t1 nt1 => ?_⟩⟩
    have m3 := same_upd (o := .tup [.int S.m, .int l, .int g, .ref xb, .ref xp, .ref sk]) ntq
    have m4 := same_upd (o := .tup [.ref tq]) nt1
    have M4 := M6.trans (m3.trans m4)
    refine ⟨tt, t1, tvs, [.ref tq], rfl, rfl, Same.tup M4 tta, sqt_upd, Nat.le_trans (show tvs.length + 1 ≤ 1000 by omega) (by decide), fun tn H7 ttn s7 => ?_⟩
    have ttn : SqT K H7 tn (tvs ++ [.ref tq]) := ttn
    have M7 := M4.trans s7
    have ltn : (tvs ++ [V.ref tq]).length = S.ts.length + 1 := by rw [List.length_append, List.length_singleton, lT]
    have hW7 := M7 _ _ hW5
    refine ⟨_, rfl, W, _, 0, .bl w0, rfl, rfl, .inl (.inl hW7), rfl, by show 2 ≤ sizeLine; decide, fun q0 nq0 => ?_⟩
    have e0 := same_upd (o := .tup [.str "NoHolder", .bl w0]) nq0
    refine ⟨_, rfl, W, _, 1, .bl wa, rfl, rfl, .inl (.inl (e0 _ _ hW7)), rfl, by show 2 ≤ sizeLine; decide, fun q1 nq1 => ?_⟩
    have e1 := same_upd (o := .tup [.str "NoBet", .bl wa]) nq1
    have E1 := e0.trans e1
    refine ⟨_, rfl, W, _, 2, .bl wb, rfl, rfl, .inl (.inl (E1 _ _ hW7)), rfl, by show 2 ≤ sizeLine; decide, fun q2 nq2 => ?_⟩
    have e2 := same_upd (o := .tup [.str "NoStake", .bl wb]) nq2
    have E2 := E1.trans e2
    refine ⟨_, rfl, tn, _, rfl, .inr (Same.tup E2 ttn), rfl, by show 2 ≤ sizeLine; decide, fun q3 nq3 => ⟨by show 4 ≤ sizeLine; decide, fun A nA => ?_⟩⟩
    rw [ltn] at nA
    rw [ltn]
    have e3 := same_upd (o := .tup [.str "TooMany", .bl (decide (V.int ((S.ts.length + 1 : Nat) : Int) = V.int 13))]) nq3
    have e4 := same_upd (o := .lst [.ref q0, .ref q1, .ref q2, .ref q3]) nA
    have E4 := E2.trans (e3.trans e4)
    have M8 := M7.trans E4
    refine ⟨_, rfl, _, rfl, 2, rfl, st, _, rfl, Same.tup M8 tS5, fun a1 H8 ta1 s8 => ?_⟩
    have ta1 : SqT K H8 a1 [.ref h, .ref pp] := ta1
    refine ⟨_, rfl, by show 1 ≤ sizeLine; decide, fun a2 na2 => ?_⟩
    have e5 := same_upd (o := .tup [.ref tn]) na2
    refine ⟨a1, a2, _, _, rfl, rfl, Same.tup e5 ta1, sqt_upd, by show 3 ≤ 100000; decide, fun a3 H9 ta3 s9 => ?_⟩
    have ta3 : SqT K H9 a3 [.ref h, .ref pp, .ref tn] := ta3
    have M9 := M8.trans (s8.trans (e5.trans s9))
    refine ⟨_, rfl, 3, rfl, st, _, rfl, Same.tup M9 tS5, fun a4 H10 ta4 s10 => ?_⟩
    have ta4 : SqT K H10 a4 [.ref l', .int S.m] := ta4
    refine ⟨a3, a4, _, _, rfl, rfl, Same.tup s10 ta3, ta4, by show 5 ≤ 100000; decide, fun a5 H11 ta5 s11 => ?_⟩
    have ta5 : SqT K H11 a5 [.ref h, .ref pp, .ref tn, .ref l', .int S.m] := ta5
    have M89 := s8.trans (e5.trans (s9.trans (s10.trans s11)))
    have M11 := M8.trans M89
    have T11 : Tk K H H11 := fun _ _ t => Same.tup M11 (T5 _ _ t)
    have hb11 := hb5.mono (Same.tk M11)
    have tkt : TkAt K H11 (.ref tq) ⟨S.m, l, g, ⟨ts, gw, pr⟩, kk⟩ := ⟨tq, xb, xp, sk, rfl, Same.tup (m4.trans (s7.trans (E4.trans M89))) sqt_upd, hb11, Same.tup M11 (tpr), Same.tup (m3.trans (m4.trans (s7.trans (E4.trans M89)))) tsk⟩
    have st5 : StdAt K H11 a5 ⟨S.cs, S.rs, S.ps, S.ts ++ [⟨S.m, l, g, ⟨ts, gw, pr⟩, kk⟩], S.bs, S.m⟩ := ⟨h, pp, tn, l', pvs, tvs ++ [.ref tq], lvs, ta5, hH.mono T11, T11 _ _ tP, fas_tk fP T11, Same.tup (E4.trans M89) ttn, (tks_tk fT T11).app (F2.one tkt), T11 _ _ tL, fL.imp fun _ _ x => x.mono T11⟩
    have hok : StdOk D2 (2 ^ (61 + 110 * (0 + 1))) (⟨S.cs, S.rs, S.ps, S.ts ++ [⟨S.m, l, g, ⟨ts, gw, pr⟩, kk⟩], S.bs, S.m⟩ : Std) := ⟨ok2.h, ok2.p2, ok2.p6, ok2.t, ok2.z, ok2.n⟩
    refine ⟨a5, _, D2, _, rfl, st5, hok, fun H12 s12 => ?_⟩
    obtain ⟨cb, ecb⟩ : ∃ cb, covB S.cs (wor S.cs S.rs) S.ps (S.ts ++ [⟨S.m, l, g, ⟨ts, gw, pr⟩, kk⟩]) = cb := ⟨_, rfl⟩
    rw [show covB (⟨S.cs, S.rs, S.ps, S.ts ++ [⟨S.m, l, g, ⟨ts, gw, pr⟩, kk⟩], S.bs, S.m⟩ : Std).cs (wor (⟨S.cs, S.rs, S.ps, S.ts ++ [⟨S.m, l, g, ⟨ts, gw, pr⟩, kk⟩], S.bs, S.m⟩ : Std).cs (⟨S.cs, S.rs, S.ps, S.ts ++ [⟨S.m, l, g, ⟨ts, gw, pr⟩, kk⟩], S.bs, S.m⟩ : Std).rs) (⟨S.cs, S.rs, S.ps, S.ts ++ [⟨S.m, l, g, ⟨ts, gw, pr⟩, kk⟩], S.bs, S.m⟩ : Std).ps (⟨S.cs, S.rs, S.ps, S.ts ++ [⟨S.m, l, g, ⟨ts, gw, pr⟩, kk⟩], S.bs, S.m⟩ : Std).ts = cb from ecb]
    refine ⟨_, rfl, by show 2 ≤ sizeLine; decide, fun q4 nq4 => ⟨by show 1 ≤ sizeLine; decide, fun B nB => ?_⟩⟩
    have e6 := same_upd (o := .tup [.str "NoCover", .bl !cb]) nq4
    have e7 := same_upd (o := .lst [.ref q4]) nB
    have E7 := M89.trans (s12.trans (e6.trans e7))
    refine ⟨A, B, [.ref q0, .ref q1, .ref q2, .ref q3], [.ref q4], rfl, rfl, E7 _ _ upd_same, upd_same, by show 5 ≤ sizeLine; decide, fun C nC => ?_⟩
    have e8 := same_upd (o := .lst ([.ref q0, .ref q1, .ref q2, .ref q3] ++ [.ref q4])) nC
    have M13 := M8.trans (E7.trans e8)
    have hC : tgt e8 C = some (.lst [.ref q0, .ref q1, .ref q2, .ref q3, .ref q4]) := upd_same
    have w13 := w5.same M13
    have nC0 : H C = none := Kp.free ((k1.trans KK5).trans (Same.kp (M8.trans E7))) (w5.same (M8.trans E7)) nC
    have hW13 := M13 _ _ hW5
    have due : F2 (DueAt K (tgt e8)) [.ref q0, .ref q1, .ref q2, .ref q3, .ref q4] [("NoHolder", w0), ("NoBet", wa), ("NoStake", wb), ("TooMany", decide (V.int ((S.ts.length + 1 : Nat) : Int) = V.int 13)), ("NoCover", !cb)] := by
      have z4 : SqT K (tgt e6) q4 [.str "NoCover", .bl !cb] := sqt_upd
      have z3 : SqT K (tgt e3) q3 [.str "TooMany", .bl (decide (V.int ((S.ts.length + 1 : Nat) : Int) = V.int 13))] := sqt_upd
      have z2 : SqT K (tgt e2) q2 [.str "NoStake", .bl wb] := sqt_upd
      have z1 : SqT K (tgt e1) q1 [.str "NoBet", .bl wa] := sqt_upd
      have z0 : SqT K (tgt e0) q0 [.str "NoHolder", .bl w0] := sqt_upd
      exact .cons ⟨q0, rfl, Same.tup (e1.trans (e2.trans (e3.trans (e4.trans (E7.trans e8))))) z0⟩ (.cons ⟨q1, rfl, Same.tup (e2.trans (e3.trans (e4.trans (E7.trans e8)))) z1⟩ (.cons ⟨q2, rfl, Same.tup (e3.trans (e4.trans (E7.trans e8))) z2⟩ (.cons ⟨q3, rfl, Same.tup (e4.trans (E7.trans e8)) z3⟩ (.cons ⟨q4, rfl, Same.tup (e7.trans e8) z4⟩ .nil))))
    refine ⟨_, rfl, W, _, 2, .bl wb, rfl, rfl, .inl (.inl hW13), rfl, _, rfl, by show 2 ≤ sizeLine; decide, fun c3 n3 => ⟨wb, .ref sk, .ref c3, rfl, fun H14 s14 => ?_⟩⟩
    have e9 := same_upd (o := .tup [.int 0, .int 1]) n3
    have tc3 : SqT K (tgt e9) c3 [.int ((0, 1) : Int × Nat).1, .int ((0, 1) : Int × Nat).2] := sqt_upd
    have M14 := M13.trans (e9.trans s14)
    obtain ⟨za, zz, eza, tza, az, bz⟩ : ∃ (za : Addr) (zz : Int × Nat), (if wb = true then V.ref c3 else V.ref sk) = V.ref za ∧ SqT K H14 za [.int zz.1, .int zz.2] ∧ (wb = false → zz = kk) ∧ (wb = true → zz = (0, 1)) := by
      cases wb with
      | true => exact ⟨c3, _, rfl, Same.tup s14 tc3, nofun, fun _ => rfl⟩
      | false => exact ⟨sk, _, rfl, Same.tup ((m3.trans (m4.trans (s7.trans E4))).trans (E7.trans (e8.trans (e9.trans s14)))) tsk, fun _ => rfl, nofun⟩
    rw [eza]
    have hW14 := M14 _ _ hW5
    have T14 : Tk K H H14 := fun _ _ t => Same.tup M14 (T5 _ _ t)
    refine ⟨_, rfl, W, _, 0, .bl w0, rfl, rfl, .inl (.inl hW14), rfl, _, rfl, _, rfl, _, rfl, st, _, 1, .ref pp, rfl, rfl, T14 _ _ tS, rfl, pp, pvs, rfl, .inr (T14 _ _ tP), 1, rfl, by show 3 ≤ sizeLine; decide, fun L nL => ?_⟩
    have e10 := same_upd (o := .lst [.int l, .int pvs.length, .int (-1)]) nL
    have w14 := w5.same M14
    have nL1 := w14.no nL
    refine ⟨_, rfl, d, b, 3, rfl, by decide, by decide, w14.same e10, fun H15 r r0 r1 w15 k15 => ?_⟩
    obtain ⟨i, rfl⟩ := Int.eq_ofNat_of_zero_le r0
    obtain ⟨zo, hzo, bo⟩ : ∃ zo : Int, atI [V.int l, .int pvs.length, .int (-1)] (i : Int) = some (.int zo) ∧ isTwo S.ps.length (.int (l : Int)) (.int zo) = false := by
      have : i = 0 ∨ i = 1 ∨ i = 2 := by omega
      rcases this with rfl | rfl | rfl
      · exact ⟨_, rfl, isTwo_eq _ _⟩
      · exact ⟨_, rfl, by rw [lP]; exact isTwo_over2 _ _⟩
      · exact ⟨_, rfl, isTwo_low _ _⟩
    refine ⟨L, _, (i : Int), .int zo, rfl, rfl, .inl (.inl (k15 _ _ upd_same nL1.1 nL1.2)), hzo, w0, .int g, .int zo, rfl, fun H16 s16 => ?_⟩
    obtain ⟨yo, eyo, ay, by'⟩ : ∃ yo : Int, (if w0 = true then V.int zo else V.int g) = V.int yo ∧ (w0 = false → PyData.int yo = .int (g : Int)) ∧ (w0 = true → isTwo S.ps.length (.int (l : Int)) (.int yo) = false) := by
      cases w0 with
      | true => exact ⟨zo, rfl, nofun, fun _ => bo⟩
      | false => exact ⟨g, rfl, fun _ => rfl, nofun⟩
    rw [eyo]
    have KK : Kp d H14 H16 := (Same.kp e10).trans (k15.trans (Same.kp s16))
    have w16 := w15.same s16
    have TT : Tk K H14 H16 := fun _ _ t => Same.tup s16 (Kp.tup k15 (w14.same e10) (Same.tup e10 t))
    have hW16 := KK _ _ hW14 nw1 nw2
    have hb16 : BtAt K H16 xb ts gw := (hb5.mono (Same.tk M14)).mono TT
    obtain ⟨ta, tg, tvs', u1, u2, u3, u4⟩ := id hb16
    refine ⟨_, rfl, _, rfl, _, rfl, W, _, 1, .bl wa, rfl, rfl, .inl (.inl hW16), rfl, _, rfl, _, rfl, xb, _, 0, .ref ta, rfl, rfl, u1, rfl, by show 1 ≤ sizeLine; decide, fun a6 n6 => ⟨by show 2 ≤ sizeLine; decide, fun a7 n7 => ⟨wa, .ref xb, .ref a7, rfl, fun H17 s17 => ?_⟩⟩⟩
    have f1 := same_upd (o := .tup [.str "no"]) n6
    have f2 := same_upd (o := .tup [.ref ta, .ref a6]) n7
    have F17 := f1.trans (f2.trans s17)
    have bdead : BtAt K H17 a7 ts [.no] := ⟨ta, a6, tvs', Same.tup s17 sqt_upd, Same.tup F17 u2, u3.imp fun _ _ q => q.mono (Same.tk F17), Same.tup (f2.trans s17) sqt_upd⟩
    obtain ⟨vb, db, evb, tvb, szb, av, bv⟩ : ∃ (vb : V) (db : PyData), (if wa = true then V.ref a7 else V.ref xb) = vb ∧ Dp K H17 vb db ∧ szD db = true ∧ (wa = false → vb = .ref xb ∧ db = bdat ts gw) ∧ (wa = true → livD S.cs S.rs db = false) := by
      cases wa with
      | true => exact ⟨_, _, rfl, bdp bdead, sz_dead hsz, nofun, fun _ => liv_dead⟩
      | false => exact ⟨_, _, rfl, bdp (hb16.mono (Same.tk F17)), hsz, fun _ => ⟨rfl, rfl⟩, nofun⟩
    rw [evb]
    refine ⟨_, rfl, _, rfl, by show 6 ≤ sizeLine; decide, fun dq ndq => ⟨_, rfl, by show 2 ≤ sizeLine; decide, fun rr nrr => ?_⟩⟩
    have f3 := same_upd (o := .tup [.str "deal", .int l, .int yo, vb, .ref xp, .ref za]) ndq
    have f4 := same_upd (o := .tup [.ref dq, .ref C]) nrr
    have F4 := f3.trans f4
    have FF := F17.trans F4
    have TF : Tk K H14 (tgt f4) := fun _ _ t => Same.tup FF (TT _ _ t)
    have K14 : Kp d (tgt e8) (tgt f4) := (Same.kp (e9.trans s14)).trans (KK.trans (Same.kp FF))
    have w8 : Drw (tgt e8) d (b + 1) := w13
    have T8 : Tk K (tgt e8) (tgt f4) := fun _ _ t => TF _ _ (Same.tup (e9.trans s14) t)
    obtain ⟨nc1, nc2⟩ := hD.no nC0
    have tpr' : SqT K (tgt f4) xp [.int pr.1, .int pr.2] := TF _ _ (Same.tup M14 tpr)
    have hfp : isFr (fdat pr) = true := isFr_iff.mpr ⟨pr, fpr.f, rfl⟩
    have hfk : isFr (fdat kk) = true := isFr_iff.mpr ⟨kk, fkk.f, rfl⟩
    have ab : isAb (fdat kk) = true := by
      show (isFr (fdat kk) && decide (0 < kk.1)) = true
      rw [hfk, decide_eq_true kk0]
      rfl
    have hR := dealr_of (K := K) (H := tgt f4) (S := S) (w0 := w0) (w1 := wa) (w2 := wb) (v3 := vb) (l := l) (g := g) (d2 := .int yo) (d3 := db) (p := pr) (k := kk) (z := zz) nlg ll lg ay by' av bv az bz ((hb16.mono (Same.tk F17)).mono (Same.tk F4)) hliv hfp ab
    refine q _ rr dq C _ _ (ogO S.m (wayO S (if w0 = true then .inl "NoHolder" else if wa = true then .inl "NoBet" else if wb = true then .inl "NoStake" else .inr ⟨S.m, l, g, ⟨ts, gw, pr⟩, kk⟩))) sqt_upd (K14 _ _ hC nc1 nc2) (due.imp fun _ _ x => x.mono T8) (by show 5 ≤ 10; decide) ⟨.int l, .int yo, vb, .ref xp, .ref za, _, _, _, _, _, _, D2, 2 ^ (61 + 110 * (0 + 1)), Same.tup f4 sqt_upd, .int _, .int _, th_same F4 (dq_th (dq_dp tvb)), dq_th (dq2 tpr'), dq_th (dq2 (TF _ _ tza)), szb, hR, ?_, rfl⟩ ?_ (w16.same FF) ((k1.trans KK5).trans ((Same.kp M14).trans (KK.trans (Same.kp FF))))
    · intro t e h12
      cases w0 with
      | true => cases e
      | false =>
      cases wa with
      | true => cases e
      | false =>
      cases wb with
      | true => cases e
      | false =>
      injection e with e
      rw [← e]
      exact ok2
    · rw [← ecb]
      exact deal_due rfl n12
end
end B

namespace B
open PySem PySem.Spec PyProof.Rows L2

def sp_l_moved (K : PySem.W.Frag) : Sp := fun vs H Q _ => ∃ (d : Dr) (b : Nat) (st : Addr) (S : Std) (D : Nat), vs = [.ref d.dr, .ref st] ∧ StdAt K H st S ∧ StdB S 0 D ∧ StdN S ∧ S.ts ≠ [] ∧ Drw H d (b + 8) ∧ ∀ (H' : Hp) (r dq a : Addr) (vs0 : List V) (ds : List (Str × Bool)) (o : Wh), SqT K H' r [.ref dq, .ref a] → H' a = some (.lst vs0) → F2 (DueAt K H') vs0 ds → ds.length ≤ 10 → HandQ K H' S dq o → (dueL ds).head? = whN o → Drw H' d b → Kp d H H' → Q (.ref r) H'

section
variable {P : Program} {w : World} {K : PySem.W.Frag} {mg : Str → Option Value} {base : Heap}
theorem ok_l_moved (T : Tx K mg w) (U : Unl P base) : FnOk P w K mg base CX0 42 T.l_moved.f T.l_moved.fd ["_law_drawn", "_law_stand"] (sp_l_moved K) := by
  refine T.l_moved.F.ok sc_l_moved (fun vs H Q E h => ?_) (fun cdv A outer s H vs Q E hr h => ?_)
  · obtain ⟨d, b, st, S, D, rfl, hS, hB, hN, hne, hD, q⟩ := h
    rfl
  · obtain ⟨d, b, st, S, D, rfl, hS, hB, hN, hne, hD, q⟩ := h
    refine ⟨_, (pss_cons (ps_set (i := 2) sc_l_moved.nd rfl (.inl rfl) (pe_call (ok_l_wrongs T U) (hr.mono (by decide)) (by rfl) T.l_wrongs.g T.l_wrongs.F.kp T.l_wrongs.b .nil pass0 (pa_cons (pv 0) (pa_cons pe_int pa_nil))))
      (pss_cons (ps_set (i := 3) sc_l_moved.nd rfl (.inl rfl) (pe_call (ok_l_next T U) (hr.mono (by decide)) (by rfl) T.l_next.g T.l_next.F.kp T.l_next.b .nil pass0 (pa_cons (pv 0) (pa_cons (pe_callB call_len_seq (by rfl) T.m_len (by decide +kernel) (pa_cons (pe_ix ix_tup (pv 1) pe_int (fun _ _ => rfl)) pa_nil)) pa_nil))))
      (pss_cons (ps_set (i := 4) sc_l_moved.nd rfl (.inl rfl) (pe_ix ix_tup (pe_ix ix_tup (pv 1) pe_int (fun _ _ => rfl)) (pv 3) (fun _ _ => rfl)))
      (pss_cons (ps_set (i := 5) sc_l_moved.nd rfl (.inl rfl) (pe_call (ok_l_next T U) (hr.mono (by decide)) (by rfl) T.l_next.g T.l_next.F.kp T.l_next.b .nil pass0 (pa_cons (pv 0) (pa_cons pe_int pa_nil))))
      (pss_cons (ps_par (i := 6) (j := 7) (by rfl) sc_l_moved.nd rfl rfl (by decide) rfl rfl (pa_cons (pe_ix ix_tup (pv 4) (pe_op op_add pe_int (pv 5)) (fun _ _ => rfl)) (pa_cons (pe_ix ix_tup (pv 4) (pe_op op_sub pe_int (pv 5)) (fun _ _ => rfl)) pa_nil)) (by rfl))
      (pss_cons (ps_set (i := 8) sc_l_moved.nd rfl (.inl rfl) (pe_call (ok_l_bad T U) (hr.mono (by decide)) (by rfl) T.l_bad.g T.l_bad.F.kp T.l_bad.b .nil pass0 (pa_cons (pe_ix ix_list (pv 2) pe_int (fun _ _ => rfl)) (pa_cons (pe_tup (pa_cons pe_int (pa_cons pe_int pa_nil))) (pa_cons (pe_tup (pa_cons (pe_op op_pow pe_int pe_int) (pa_cons pe_int pa_nil))) pa_nil)))))
      (pss_cons (ps_set (i := 9) sc_l_moved.nd rfl (.inl rfl) (pe_call (ok_l_put T U) (hr.mono (by decide)) (by rfl) T.l_put.g T.l_put.F.kp T.l_put.b .nil pass0 (pa_cons (pe_ix ix_tup (pv 1) pe_int (fun _ _ => rfl)) (pa_cons (pv 6) (pa_cons (pe_call (ok_l_plus T U) (hr.mono (by decide)) (by rfl) T.l_plus.g T.l_plus.F.kp T.l_plus.b .nil pass0 (pa_cons (pe_ix ix_tup (pe_ix ix_tup (pv 1) pe_int (fun _ _ => rfl)) (pv 6) (fun _ _ => rfl)) (pa_cons (pe_call (ok_l_turned T U) (hr.mono (by decide)) (by rfl) T.l_turned.g T.l_turned.F.kp T.l_turned.b .nil pass0 (pa_cons (pv 8) pa_nil)) pa_nil))) pa_nil)))))
      (pss_cons (ps_set (i := 9) sc_l_moved.nd rfl (.inl rfl) (pe_call (ok_l_put T U) (hr.mono (by decide)) (by rfl) T.l_put.g T.l_put.F.kp T.l_put.b .nil pass0 (pa_cons (pv 9) (pa_cons (pv 7) (pa_cons (pe_call (ok_l_plus T U) (hr.mono (by decide)) (by rfl) T.l_plus.g T.l_plus.F.kp T.l_plus.b .nil pass0 (pa_cons (pe_ix ix_tup (pv 9) (pv 7) (fun _ _ => rfl)) (pa_cons (pv 8) pa_nil))) pa_nil)))))
      (pss_cons (ps_set (i := 10) sc_l_moved.nd rfl (.inl rfl) (pe_op op_catS (pe_tup (pa_cons (pe_ix ix_tup (pv 1) pe_int (fun _ _ => rfl)) (pa_cons (pv 9) (pa_cons (pe_op op_catS (pe_slice sl_tupS (pe_ix ix_tup (pv 1) pe_int (fun _ _ => rfl)) po_none (po_some (pv 3))) (pe_slice sl_tupS (pe_ix ix_tup (pv 1) pe_int (fun _ _ => rfl)) (po_some (pe_op op_add (pv 3) pe_int)) po_none)) pa_nil)))) (pe_slice sl_tupS (pv 1) (po_some pe_int) po_none)))
      (pss_mid (ps_set (i := 11) sc_l_moved.nd rfl (.inl rfl) (pe_lst (pa_cons (pe_tup (pa_cons pe_str (pa_cons (pe_ix ix_list (pv 2) pe_int (fun _ _ => rfl)) pa_nil))) (pa_cons (pe_tup (pa_cons pe_str (pa_cons (pe_ix ix_list (pv 2) pe_int (fun _ _ => rfl)) pa_nil))) (pa_cons (pe_tup (pa_cons pe_str (pa_cons (pe_ix ix_list (pv 2) pe_int (fun _ _ => rfl)) pa_nil))) pa_nil)))))
      (pss_cons (ps_set (i := 11) sc_l_moved.nd rfl (.inl rfl) (pe_op op_cat (pv 11) (pe_lst (pa_cons (pe_tup (pa_cons pe_str (pa_cons (pe_not (pe_call (ok_l_covered T U) (hr.mono (by decide)) (by rfl) T.l_covered.g T.l_covered.F.kp T.l_covered.b .nil pass0 (pa_cons (pv 10) pa_nil))) pa_nil))) pa_nil))))
      (pss_cons (ps_set (i := 12) sc_l_moved.nd rfl (.inl rfl) (pe_call (ok_l_bad T U) (hr.mono (by decide)) (by rfl) T.l_bad.g T.l_bad.F.kp T.l_bad.b .nil pass0 (pa_cons (pe_ix ix_list (pv 2) pe_int (fun _ _ => rfl)) (pa_cons (pe_ix ix_tup (pv 4) pe_int (fun _ _ => rfl)) (pa_cons (pe_ix ix_tup (pv 1) pe_int (fun _ _ => rfl)) pa_nil)))))
      (pss_cons (ps_set (i := 13) sc_l_moved.nd rfl (.inl rfl) (pe_call (ok_l_bad T U) (hr.mono (by decide)) (by rfl) T.l_bad.g T.l_bad.F.kp T.l_bad.b .nil pass0 (pa_cons (pe_ix ix_list (pv 2) pe_int (fun _ _ => rfl)) (pa_cons (pv 8) (pa_cons (pe_call (ok_l_no_fraction T U) (hr.mono (by decide)) (by rfl) T.l_no_fraction.g T.l_no_fraction.F.kp T.l_no_fraction.b .nil pass0 (pa_cons (pv 0) pa_nil)) pa_nil)))))
      (pss_cons (ps_set (i := 14) sc_l_moved.nd rfl (.inl rfl) (pe_call (ok_l_bad T U) (hr.mono (by decide)) (by rfl) T.l_bad.g T.l_bad.F.kp T.l_bad.b .nil pass0 (pa_cons (pe_ix ix_list (pv 2) pe_int (fun _ _ => rfl)) (pa_cons (pv 7) (pa_cons (pe_ix ix_list (pe_lst (pa_cons (pv 6) (pa_cons (pe_callB call_len_seq (by rfl) T.m_len (by decide +kernel) (pa_cons (pv 9) pa_nil)) pa_nil))) (pe_call (ok_l_next T U) (hr.mono (by decide)) (by rfl) T.l_next.g T.l_next.F.kp T.l_next.b .nil pass0 (pa_cons (pv 0) (pa_cons pe_int pa_nil))) (fun _ _ => rfl)) pa_nil)))))
      (pss_one (ps_ret (pe_tup (pa_cons (pe_tup (pa_cons pe_str (pa_cons (pv 12) (pa_cons (pv 6) (pa_cons (pv 14) (pa_cons (pv 13) pa_nil)))))) (pa_cons (pv 11) pa_nil))))))))))))))))))), ?_⟩
    obtain ⟨h, pp, tt, l', pvs, tvs, lvs, tS, hH, tP, fP, tT, fT, tL, fL⟩ := id hS
    have lP := fP.len
    have lT := fT.len
    have p2 := hB.p2
    have p6 := hB.p6
    have n13 := hB.n
    have t0 : 0 < S.ts.length := List.length_pos_iff.mpr hne
    have hpz : ∀ p ∈ S.ps, Fok 100000 p := fun p hp => ((hB.pz p hp).fok (a := 32 + 180 * 0) (c := 61 + 110 * 0) hB.d0 hB.d (Nat.le_refl _)).up (by decide)
    refine ⟨_, rfl, d, b + 4, 4, rfl, by decide, by decide, hD, fun H1 W ws hW lW nW w1 k1 => ?_⟩
    obtain ⟨w0, wa, wb, wc, rfl⟩ : ∃ a b c e : Bool, ws = [a, b, c, e] := by
      match ws, lW with
      | [a, b, c, e], _ => exact ⟨a, b, c, e, rfl⟩
    obtain ⟨nw1, nw2⟩ := hD.no nW
    have T1 : Tk K H H1 := fun _ _ t => Kp.tup k1 hD t
    refine ⟨_, rfl, _, rfl, st, _, 2, .ref tt, rfl, rfl, T1 _ _ tS, rfl, tt, tvs, rfl, .inr (T1 _ _ tT), d, b + 3, (tvs.length : Int), rfl, by omega, by omega, w1, fun H2 r r0 r1 w2 k2 => ?_⟩
    obtain ⟨i, rfl⟩ := Int.eq_ofNat_of_zero_le r0
    obtain ⟨t, ht⟩ : ∃ t, S.ts[i]? = some t := ⟨_, List.getElem?_eq_getElem (by omega)⟩
    have hm := List.mem_of_getElem? ht
    have T2 : Tk K H H2 := fun _ _ t => Kp.tup k2 w1 (T1 _ _ t)
    obtain ⟨v, hv, hT⟩ := (tks_tk fT T2).getB ht
    obtain ⟨tq', ba, pa, ka, rfl, t1, t2, u3, u4⟩ := id hT
    refine ⟨_, rfl, st, _, 2, .ref tt, rfl, rfl, T2 _ _ tS, rfl, _, rfl, tt, tvs, (i : Int), .ref tq', rfl, rfl, T2 _ _ tT, atI_nat hv, ?_⟩
    refine ⟨_, rfl, d, b + 2, 2, rfl, by decide, by decide, w2, fun H3 r' r0' r1' w3 k3 => ?_⟩
    obtain ⟨m, rfl⟩ := Int.eq_ofNat_of_zero_le r0'
    have T23 : Tk K H2 H3 := fun _ _ t => Kp.tup k3 w2 t
    have T3 : Tk K H H3 := fun _ _ t => T23 _ _ (T2 _ _ t)
    have hsd := hB.t t hm
    have nls := (hN.t t hm).2
    obtain ⟨g, k, hgi, hki, hg, nk, eLR⟩ : ∃ g k : Nat, atI [V.int t.n, .int t.l, .int t.s, .ref ba, .ref pa, .ref ka] (1 + (m : Int)) = some (.int g) ∧ atI [V.int t.n, .int t.l, .int t.s, .ref ba, .ref pa, .ref ka] (2 - (m : Int)) = some (.int k) ∧ (g = t.l ∨ g = t.s) ∧ g ≠ k ∧ (if t.l = g then k else t.l) = (if t.l = g then t.s else k) := by
      have : m = 0 ∨ m = 1 := by omega
      rcases this with rfl | rfl
      · exact ⟨t.l, t.s, rfl, rfl, .inl rfl, nls, by rw [if_pos rfl, if_pos rfl]⟩
      · exact ⟨t.s, t.l, rfl, rfl, .inr rfl, fun e => nls e.symm, by rw [if_neg nls, if_neg nls]⟩
    have lg : g < S.ps.length := by rcases hg with rfl | rfl <;> omega
    have lk : k < S.ps.length := by
      by_cases c : t.l = g
      · rw [if_pos c, if_pos c] at eLR
        omega
      · rw [if_neg c, if_neg c] at eLR
        omega
    have t13 := T23 _ _ t1
    refine ⟨_, rfl, _, rfl, _, _, rfl, rfl, tq', _, (1 + (m : Int)), .int g, rfl, rfl, t13, hgi, _, rfl, _, rfl, _, _, rfl, rfl, tq', _, (2 - (m : Int)), .int k, rfl, rfl, t13, hki, _, _, rfl, ?_⟩
    have K13 : Kp d H1 H3 := k2.trans k3
    have hW3 := K13 _ _ hW nw1 nw2
    refine ⟨_, rfl, W, _, 3, .bl wc, rfl, rfl, .inl (.inl hW3), rfl, by show 2 ≤ sizeLine; decide, fun c1 n1 => ⟨_, _, rfl, rfl, ⟨by decide, by decide, by decide⟩, by show 2 ≤ sizeLine; decide, fun c2 n2 => ⟨wc, .ref c1, .ref c2, rfl, fun H6 s6 => ?_⟩⟩⟩
    have m1 : Same H3 (upd H3 c1 (.tup [.int 0, .int 1])) := same_upd n1
    have m2 : Same (tgt m1) (upd (tgt m1) c2 (.tup [.int 1000000000000000000000000000000, .int 1])) := same_upd n2
    have M6 := m1.trans (m2.trans s6)
    have tc1 : SqT K (tgt m1) c1 [.int ((0, 1) : Int × Nat).1, .int ((0, 1) : Int × Nat).2] := sqt_upd
    have tc2 : SqT K (tgt m2) c2 [.int ((1000000000000000000000000000000, 1) : Int × Nat).1, .int ((1000000000000000000000000000000, 1) : Int × Nat).2] := sqt_upd
    obtain ⟨fa, x, esk, tfa, fxx⟩ : ∃ (sk : Addr) (kk : Int × Nat), (if wc = true then V.ref c2 else V.ref c1) = V.ref sk ∧ SqT K H6 sk [.int kk.1, .int kk.2] ∧ Fb 1 1000000000000000000000000000000 kk := by
      cases wc with
      | true => exact ⟨c2, _, rfl, Same.tup s6 tc2, fb_dec (by decide +kernel)⟩
      | false => exact ⟨c1, _, rfl, Same.tup (m2.trans s6) tc1, fb_dec (by decide +kernel)⟩
    rw [esk]
    have gx : FeeG D 0 x := FeeG.of fxx (by decide) (by decide) (by decide)
    have fx : Fok 100000 x := (gx.fok hB.d0 hB.d (by decide)).up (by decide)
    obtain ⟨D', hB'⟩ := hB.hand (g := g) (k := k) hm nk lg lk gx
    have ok' := hB'.ok (show 0 + 1 ≤ 5 by decide)
    have T6 : Tk K H H6 := fun _ _ t => Same.tup M6 (T3 _ _ t)
    obtain ⟨y, hy⟩ : ∃ y, S.ps[g]? = some y := ⟨_, List.getElem?_eq_getElem lg⟩
    obtain ⟨v1, hv1, f1, rfl, tf1⟩ := (fas_tk fP T6).getB hy
    have oy := hpz y (List.mem_of_getElem? hy)
    obtain ⟨z, hz⟩ : ∃ z, (S.ps.set g (subF y x))[k]? = some z := ⟨_, List.getElem?_eq_getElem (by rw [List.length_set]; exact lk)⟩
    have oz : Fok 300000 z := by
      rcases List.mem_or_eq_of_mem_set (List.mem_of_getElem? hz) with h | h
      · exact (hpz z h).up (by decide)
      · rw [h]
        exact (oy.sub fx).up (by decide)
    have fnx := fx.negF
    refine ⟨_, rfl, st, _, 1, .ref pp, rfl, rfl, T6 _ _ tS, rfl, _, rfl, _, rfl, st, _, 1, .ref pp, rfl, rfl, T6 _ _ tS, rfl, _, rfl, pp, pvs, (g : Int), .ref f1, rfl, rfl, T6 _ _ tP, atI_nat hv1, _, rfl, fa, x, rfl, tfa, fun Hr r1' tr1 _ sr1 => ?_⟩
    refine ⟨f1, r1', _, _, _, _, rfl, Same.tup sr1 tf1, tr1, oy.f, fnx.f, (oy.up (by decide)).z, (fnx.up (by decide)).z, fun p1 np1 => ?_⟩
    have sp1 := same_upd (o := .tup [.int (addT y.1 y.2 (negF x).1 (negF x).2), .int (addB y.1 y.2 (negF x).1 (negF x).2)]) np1
    have SP1 := sr1.trans sp1
    refine ⟨pp, g, .ref p1, pvs, rfl, Same.tup SP1 (T6 _ _ tP), by omega, fun H9 q2 tq2 s9 => ?_⟩
    rw [put_set (by omega)] at tq2
    have T9 : Tk K H H9 := fun _ _ t => Same.tup (SP1.trans s9) (T6 _ _ t)
    have F9 : F2 (FAt K H9) (pvs.set g (.ref p1)) (S.ps.set g (subF y x)) := F2.set (i := g) (fas_tk fP T9) ⟨p1, rfl, Same.tup s9 sqt_upd⟩
    obtain ⟨v2, hv2, f2, rfl, tf2⟩ := F9.getB hz
    have S69 := SP1.trans s9
    refine ⟨_, rfl, _, rfl, _, rfl, _, rfl, q2, _, (k : Int), .ref f2, rfl, rfl, tq2, atI_nat hv2, _, rfl, f2, fa, _, _, _, _, rfl, tf2, Same.tup S69 tfa, oz.f, fx.f, (oz.up (by decide)).z, (fx.up (by decide)).z, fun p3 np3 => ?_⟩
    have sp3 := same_upd (o := .tup [.int (addT z.1 z.2 x.1 x.2), .int (addB z.1 z.2 x.1 x.2)]) np3
    refine ⟨q2, k, .ref p3, _, rfl, Same.tup sp3 tq2, by rw [List.length_set]; omega, fun H10 q4 tq4 s10 => ?_⟩
    rw [put_set (by rw [List.length_set]; omega)] at tq4
    have F10 : F2 (FAt K H10) ((pvs.set g (.ref p1)).set k (.ref p3)) ((S.ps.set g (subF y x)).set k (addF z x)) := F2.set (i := k) (fas_tk F9 (Same.tk (sp3.trans s10))) ⟨p3, rfl, Same.tup s10 sqt_upd⟩
    have SB := S69.trans (sp3.trans s10)
    have T10 : Tk K H H10 := fun _ _ t => Same.tup SB (T6 _ _ t)
    refine ⟨_, rfl, st, _, 0, .ref h, rfl, rfl, T10 _ _ tS, atI_nat (j := 0) rfl, _, rfl, _, rfl, st, _, 2, .ref tt, rfl, rfl, T10 _ _ tS, rfl, _, rfl, (i : Int), rfl, tt, tvs, rfl, T10 _ _ tT, fun b1 G1 u1 y1 => ?_⟩
    rw [cut_take] at u1
    refine ⟨_, rfl, st, _, 2, .ref tt, rfl, rfl, Same.tup y1 (T10 _ _ tS), rfl, _, rfl, _, _, rfl, rfl, ((i + 1 : Nat) : Int), rfl, tt, tvs, rfl, Same.tup y1 (T10 _ _ tT), fun b3 G3 u3' y3 => ?_⟩
    rw [cut_drop] at u3'
    refine ⟨b1, b3, _, _, rfl, rfl, Same.tup y3 u1, u3', by simp only [List.length_append, List.length_take, List.length_drop]; omega, fun b4 G4 u4' y4 => ⟨by show 3 ≤ sizeLine; decide, fun a3 na3 => ?_⟩⟩
    have g3 := same_upd (o := .tup [.ref h, .ref q4, .ref b4]) na3
    have Y4 := y1.trans (y3.trans (y4.trans g3))
    have ta3 : SqT K (tgt g3) a3 [.ref h, .ref q4, .ref b4] := sqt_upd
    refine ⟨_, rfl, 3, rfl, st, _, rfl, Same.tup Y4 (T10 _ _ tS), fun a4 G5 ta4 y5 => ?_⟩
    have ta4 : SqT K G5 a4 [.ref l', .int S.m] := ta4
    refine ⟨a3, a4, _, _, rfl, rfl, Same.tup y5 ta3, ta4, by show 5 ≤ 100000; decide, fun bh G6 tbh y6 => ?_⟩
    have tbh : SqT K G6 bh [.ref h, .ref q4, .ref b4, .ref l', .int S.m] := tbh
    have Y6 := Y4.trans (y5.trans y6)
    have SZ := SB.trans Y6
    have TZ : Tk K H G6 := fun _ _ t => Same.tup SZ (T6 _ _ t)
    have stb : StdAt K G6 bh (S.hand t g k x) := by
      refine ⟨h, q4, b4, l', _, tvs.take i ++ tvs.drop (i + 1), lvs, tbh, hH.mono TZ, Same.tup Y6 tq4, ?_, Same.tup (g3.trans (y5.trans y6)) u4', ?_, TZ _ _ tL, fL.imp fun _ _ x => x.mono TZ⟩
      · show F2 _ _ (mvF S.ps g k x)
        rw [mvF_of hy hz]
        exact fas_tk F10 (Same.tk Y6)
      · show F2 _ _ (psF S.ts t (if t.l = g then k else t.l) (if t.l = g then t.s else k))
        rw [psF_at ht hN.r, if_pos eLR, List.append_nil]
        exact ((tks_tk fT TZ).take i).app ((tks_tk fT TZ).drop (i + 1))
    have M3 := M6.trans SZ
    have hW7 := M3 _ _ hW3
    have tS7 := TZ _ _ tS
    refine ⟨fun σ' H' => ∃ (A q0 q1 q2' : Addr), σ' = [some (.ref d.dr), some (.ref st), some (.ref W), some (.int i), some (.ref tq'), some (.int m), some (.int g), some (.int k), some (.ref fa), some (.ref q4), some (.ref bh), some (.ref A), none, none, none] ∧ H' A = some (.lst [.ref q0, .ref q1, .ref q2']) ∧ SqT K H' q0 [.str "NoTicket", .bl w0] ∧ SqT K H' q1 [.str "NoHolder", .bl wa] ∧ SqT K H' q2' [.str "NoStake", .bl wb] ∧ Same G6 H', ?_, ?_⟩
    · refine ⟨_, rfl, W, _, 0, .bl w0, rfl, rfl, .inl (.inl hW7), rfl, by show 2 ≤ sizeLine; decide, fun q0 nq0 => ?_⟩
      have e0 := same_upd (o := .tup [.str "NoTicket", .bl w0]) nq0
      refine ⟨_, rfl, W, _, 1, .bl wa, rfl, rfl, .inl (.inl (e0 _ _ hW7)), rfl, by show 2 ≤ sizeLine; decide, fun q1 nq1 => ?_⟩
      have e1 := same_upd (o := .tup [.str "NoHolder", .bl wa]) nq1
      have E1 := e0.trans e1
      refine ⟨_, rfl, W, _, 2, .bl wb, rfl, rfl, .inl (.inl (E1 _ _ hW7)), rfl, by show 2 ≤ sizeLine; decide, fun q2' nq2 => ⟨by show 3 ≤ sizeLine; decide, fun A nA => ?_⟩⟩
      have e2 := same_upd (o := .tup [.str "NoStake", .bl wb]) nq2
      have e3 := same_upd (o := .lst [.ref q0, .ref q1, .ref q2']) nA
      exact ⟨A, q0, q1, q2', rfl, upd_same, Same.tup (e1.trans (e2.trans e3)) sqt_upd, Same.tup (e2.trans e3) sqt_upd, Same.tup e3 sqt_upd, E1.trans (e2.trans e3)⟩
    rintro σ G7 ⟨A, q0, q1, q2', rfl, hA7, z0, z1, z2, E3⟩
    refine ⟨_, rfl, _, rfl, bh, S.hand t g k x, D', _, rfl, stb.mono (Same.tk E3), ok', fun H12 s12 => ?_⟩
    obtain ⟨cb, ecb⟩ : ∃ cb, covB (S.hand t g k x).cs (wor (S.hand t g k x).cs (S.hand t g k x).rs) (S.hand t g k x).ps (S.hand t g k x).ts = cb := ⟨_, rfl⟩
    rw [ecb]
    refine ⟨_, rfl, by show 2 ≤ sizeLine; decide, fun q4' nq4 => ⟨by show 1 ≤ sizeLine; decide, fun B nB => ?_⟩⟩
    have e6 := same_upd (o := .tup [.str "NoCover", .bl !cb]) nq4
    have e7 := same_upd (o := .lst [.ref q4']) nB
    have E7 := s12.trans (e6.trans e7)
    refine ⟨A, B, [.ref q0, .ref q1, .ref q2'], [.ref q4'], rfl, rfl, E7 _ _ hA7, upd_same, by show 4 ≤ sizeLine; decide, fun C nC => ?_⟩
    have e8 := same_upd (o := .lst ([.ref q0, .ref q1, .ref q2'] ++ [.ref q4'])) nC
    have hC : tgt e8 C = some (.lst [.ref q0, .ref q1, .ref q2', .ref q4']) := upd_same
    have E8 := E3.trans (E7.trans e8)
    have M8 := M3.trans E8
    have w8 := w3.same M8
    have nC0 : H C = none := Kp.free ((k1.trans K13).trans (Same.kp (M3.trans (E3.trans E7)))) (w3.same (M3.trans (E3.trans E7))) nC
    obtain ⟨nc1, nc2⟩ := hD.no nC0
    have due : F2 (DueAt K (tgt e8)) [.ref q0, .ref q1, .ref q2', .ref q4'] [("NoTicket", w0), ("NoHolder", wa), ("NoStake", wb), ("NoCover", !cb)] := by
      have z4 : SqT K (tgt e6) q4' [.str "NoCover", .bl !cb] := sqt_upd
      exact .cons ⟨q0, rfl, Same.tup (E7.trans e8) z0⟩ (.cons ⟨q1, rfl, Same.tup (E7.trans e8) z1⟩ (.cons ⟨q2', rfl, Same.tup (E7.trans e8) z2⟩ (.cons ⟨q4', rfl, Same.tup (e7.trans e8) z4⟩ .nil)))
    have hW8 := E8 _ _ hW7
    refine ⟨_, rfl, W, _, 0, .bl w0, rfl, rfl, .inl (.inl hW8), rfl, _, rfl, tq', _, 0, .int t.n, rfl, rfl, Same.tup M8 t13, rfl, _, rfl, st, _, 4, .int S.m, rfl, rfl, Same.tup E8 tS7, rfl, w0, .int t.n, .int S.m, rfl, fun H13 s13 => ?_⟩
    obtain ⟨yn, eyn, an, bn⟩ : ∃ yn : Int, (if w0 = true then V.int S.m else V.int t.n) = V.int yn ∧ (w0 = false → PyData.int yn = .int (t.n : Int)) ∧ (w0 = true → PyData.int yn = .int (S.m : Int)) := by
      cases w0 with
      | true => exact ⟨S.m, rfl, nofun, fun _ => rfl⟩
      | false => exact ⟨t.n, rfl, fun _ => rfl, nofun⟩
    rw [eyn]
    have w13 := w8.same s13
    refine ⟨_, rfl, W, _, 2, .bl wb, rfl, rfl, .inl (.inl (s13 _ _ hW8)), rfl, _, rfl, _, rfl, d, b + 1, rfl, w13, fun H14 vf dd hT' hF w14 k14 => ⟨wb, .ref fa, vf, rfl, fun H15 s15 => ?_⟩⟩
    have K15 : Kp d (tgt e8) H15 := (Same.kp s13).trans (k14.trans (Same.kp s15))
    have T15 : Tk K (tgt e8) H15 := fun _ _ t => Same.tup s15 (Kp.tup k14 w13 (Same.tup s13 t))
    have w15 := w14.same s15
    have tfa15 : SqT K H15 fa [.int x.1, .int x.2] := T15 _ _ (Same.tup (SZ.trans E8) tfa)
    obtain ⟨vg, dg, evg, tvg, ag, bg⟩ : ∃ (vg : V) (dg : PyData), (if wb = true then vf else V.ref fa) = vg ∧ Th K (offD d H15) vg dg ∧ (wb = false → dg = fdat x) ∧ (wb = true → isFr dg = false) := by
      cases wb with
      | true => exact ⟨vf, dd, rfl, th_same (offD_same s15) hT', nofun, fun _ => hF⟩
      | false => exact ⟨_, _, rfl, dq_th (dq2 (off_tup w15 tfa15)), fun _ => rfl, nofun⟩
    rw [evg]
    have hW15 := K15 _ _ hW8 nw1 nw2
    refine ⟨_, rfl, W, _, 1, .bl wa, rfl, rfl, .inl (.inl hW15), rfl, _, rfl, _, rfl, _, rfl, q4, _, rfl, .inr (T15 _ _ (Same.tup (Y6.trans E8) tq4)), by show 2 ≤ sizeLine; decide, fun L nL => ?_⟩
    have e10 := same_upd (o := .lst [.int g, .int ((pvs.set g (.ref p1)).set k (.ref p3)).length]) nL
    have nL1 := w15.no nL
    refine ⟨_, rfl, d, b, 2, rfl, by decide, by decide, w15.same e10, fun H16 r r0 r1 w16 k16 => ?_⟩
    obtain ⟨n, rfl⟩ := Int.eq_ofNat_of_zero_le r0
    obtain ⟨zo, hzo, bo⟩ : ∃ zo : Int, atI [V.int g, .int ((pvs.set g (.ref p1)).set k (.ref p3)).length] (n : Int) = some (.int zo) ∧ isTwo S.ps.length (.int (g : Int)) (.int zo) = false := by
      have : n = 0 ∨ n = 1 := by omega
      rcases this with rfl | rfl
      · exact ⟨_, rfl, isTwo_eq _ _⟩
      · exact ⟨_, rfl, by rw [List.length_set, List.length_set, lP]; exact isTwo_over2 _ _⟩
    refine ⟨L, _, (n : Int), .int zo, rfl, rfl, .inl (.inl (k16 _ _ upd_same nL1.1 nL1.2)), hzo, wa, .int k, .int zo, rfl, fun H17 s17 => ?_⟩
    obtain ⟨yo, eyo, ay, by'⟩ : ∃ yo : Int, (if wa = true then V.int zo else V.int k) = V.int yo ∧ (wa = false → PyData.int yo = .int (k : Int)) ∧ (wa = true → isTwo S.ps.length (.int (g : Int)) (.int yo) = false) := by
      cases wa with
      | true => exact ⟨zo, rfl, nofun, fun _ => bo⟩
      | false => exact ⟨k, rfl, fun _ => rfl, nofun⟩
    rw [eyo]
    refine ⟨_, rfl, _, rfl, _, rfl, _, rfl, by show 5 ≤ sizeLine; decide, fun dq ndq => ⟨_, rfl, by show 2 ≤ sizeLine; decide, fun rr nrr => ?_⟩⟩
    have f3 := same_upd (o := .tup [.str "hand", .int yn, .int g, .int yo, vg]) ndq
    have f4 := same_upd (o := .tup [.ref dq, .ref C]) nrr
    have F4 := f3.trans f4
    have S17 := s17.trans F4
    have w17 := w16.same S17
    have K17 : Kp d H15 (tgt f4) := (Same.kp e10).trans (k16.trans (Same.kp S17))
    have T17 : Tk K H15 (tgt f4) := fun _ _ t => Same.tup S17 (Kp.tup k16 (w15.same e10) (Same.tup e10 t))
    have K8 : Kp d (tgt e8) (tgt f4) := K15.trans K17
    have T8 : Tk K (tgt e8) (tgt f4) := fun _ _ t => T17 _ _ (T15 _ _ t)
    have tvg' : Th K (tgt f4) vg dg := th_same (((offD_kp K17)).trans offD_to) tvg
    have hR := handr_of (w0 := w0) (w1 := wa) (w2 := wb) (d1 := .int yn) (d3 := .int yo) (d4 := dg) hN hm hg nk lg lk an bn ay by' ag bg fx ok'
    refine q _ rr dq C _ _ _ sqt_upd (K8 _ _ hC nc1 nc2) (due.imp fun _ _ x => x.mono T8) (by show 4 ≤ 10; decide) ⟨.int yn, .int g, .int yo, vg, _, _, _, _, Same.tup f4 sqt_upd, .int _, .int _, .int _, tvg', hR⟩ ?_ w17 ((k1.trans K13).trans ((Same.kp M8).trans K8))
    rw [← ecb]
    exact hand_due
end
end B

namespace B
open PySem PySem.Spec PyProof.Rows L2

def sp_dealt (K : PySem.W.Frag) : Sp := fun vs H Q E => ∃ (a q : Addr) (S : Std) (v1 v2 v3 v4 v5 : V) (d1 d2 d3 d4 d5 : PyData) (o : Str ⊕ Tkt) (D M : Nat), vs = [.ref a, .ref q] ∧ StdAt K H a S ∧ HsOk S.cs S.rs ∧ S.ts.length ≤ 100 ∧ SqT K H q [v1, v2, v3, v4, v5] ∧ Th K H v1 d1 ∧ Th K H v2 d2 ∧ Th K H v3 d3 ∧ Th K H v4 d4 ∧ Th K H v5 d5 ∧ szD d3 = true ∧ DealR K H S v3 d1 d2 d3 d4 d5 o ∧ (∀ t, o = .inr t → S.ts.length + 1 ≤ 12 → StdOk D M (S.add t)) ∧ OutR K (wayO S o) S.m H Q E

section
variable {P : Program} {w : World} {K : PySem.W.Frag} {mg : Str → Option Value} {base : Heap}
theorem ok_dealt (T : Tx K mg w) (U : Unl P base) : FnOk P w K mg base (L2.CX P w) 43 T.dealt.f T.dealt.fd ["stand", "parts"] (sp_dealt K) := by
  refine T.dealt.F.okX sc_dealt (fun vs H Q E h => ?_) (fun cdv A outer s H vs Q E hr h => ?_)
  · obtain ⟨a, q, S, v1, v2, v3, v4, v5, d1, d2, d3, d4, d5, o, D, M, rfl, hS, hHO, l100, tq, h1, h2, h3, h4, h5, z3, hR, hO, hQ⟩ := h
    rfl
  · obtain ⟨a, q, S, v1, v2, v3, v4, v5, d1, d2, d3, d4, d5, o, D, M, rfl, hS, hHO, l100, tq, h1, h2, h3, h4, h5, z3, hR, hO, hQ⟩ := h
    refine ⟨_, (pss_cons (ps_asg (pv 1) (pg_tup rfl (pgs_cons (pg_name (i := 2) sc_dealt.nd rfl (.inl rfl)) (pgs_cons (pg_name (i := 3) sc_dealt.nd rfl (.inl rfl)) (pgs_cons (pg_name (i := 4) sc_dealt.nd rfl (.inl rfl)) (pgs_cons (pg_name (i := 5) sc_dealt.nd rfl (.inl rfl)) (pgs_cons (pg_name (i := 6) sc_dealt.nd rfl (.inl rfl)) pgs_nil)))))))
      (pss_cons (ps_if (pt_not (pt_val (pe_call (ok_are_two T U) (hr.mono (by decide)) (by rfl) T.are_two.g T.are_two.F.kp T.are_two.b .nil pass0 (pa_cons (pe_callB call_len_seq (by rfl) T.m_len (by decide +kernel) (pa_cons (pe_ix ix_tup (pv 0) pe_int (fun _ _ => rfl)) pa_nil)) (pa_cons (pv 2) (pa_cons (pv 3) pa_nil)))))) (pss_one (ps_raise rfl (takes_of rfl rfl rfl rfl) (pmk_none T.x_NoHolder hr (by rfl)))) pss_nil)
      (pss_cons (ps_if (pt_not (pt_val (pe_call (ok_lives T U) (hr.mono (by decide)) (by rfl) T.lives.g T.lives.F.kp T.lives.b .nil pass0 (pa_cons (pe_ix ix_tup (pv 0) pe_int (fun _ _ => rfl)) (pa_cons (pv 4) pa_nil))))) (pss_one (ps_raise rfl (takes_of rfl rfl rfl rfl) (pmk_none T.x_NoBet hr (by rfl)))) pss_nil)
      (pss_cons (ps_if (PW.pt (pw_or (pt_not (pt_val (pe_call (ok_is_fraction T U) (hr.mono (by decide)) (by rfl) T.is_fraction.g T.is_fraction.F.kp T.is_fraction.b .nil pass0 (pa_cons (pv 5) pa_nil)))) (pw_or1 (pt_not (pt_val (pe_call (ok_is_above_zero T U) (hr.mono (by decide)) (by rfl) T.is_above_zero.g T.is_above_zero.F.kp T.is_above_zero.b .nil pass0 (pa_cons (pv 6) pa_nil))))))) (pss_one (ps_raise rfl (takes_of rfl rfl rfl rfl) (pmk_none T.x_NoStake hr (by rfl)))) pss_nil)
      (pss_one (ps_ret (pe_callS (ok_with_ticket T U) (hr.mono (by decide)) (by rfl) T.with_ticket.g T.with_ticket.F.kp T.with_ticket.b (fun σ => passAt (takes_of rfl rfl rfl rfl) σ) (pa_cons (pv 0) (pa_cons (pv 2) (pa_cons (pv 3) (pa_cons (pv 4) (pa_cons (pv 5) (pa_cons (pv 6) pa_nil))))))))))))), ?_⟩
    obtain ⟨h, pp, tt, l, pvs, tvs, lvs, tS, hH, tP, fP, tT, fT, tL, fL⟩ := id hS
    have lP := fP.len
    refine ⟨_, rfl, q, _, rfl, tq, rfl, _, _, rfl, _, _, rfl, _, _, rfl, _, _, rfl, _, _, rfl, rfl, ?_⟩
    refine ⟨_, rfl, a, _, 1, .ref pp, rfl, rfl, tS, rfl, pp, pvs, rfl, .inr tP, _, rfl, _, rfl, _, v1, v2, d1, d2, rfl, h1, h2, _, rfl, ?_⟩
    rw [lP]
    cases e : isTwo S.ps.length d1 d2 with
    | false =>
      cases hR with
      | two _ => exact iteT fun d nd => hQ _ T.x_NoHolder.ns _ _ dok_upd (same_upd nd)
      | bet x _ => rw [e] at x; cases x
      | stake x _ _ => rw [e] at x; cases x
      | ok x _ _ _ _ _ => rw [e] at x; cases x
    | true =>
    refine iteF ⟨_, rfl, a, _, 0, .ref h, rfl, rfl, tS, atI_nat (j := 0) rfl, _, rfl, h, v3, d3, S.cs, S.rs, rfl, hH, hHO, h3, z3, fun H1 s1 => ⟨_, rfl, ?_⟩⟩
    cases e3 : livD S.cs S.rs d3 with
    | false =>
      cases hR with
      | two x => rw [e] at x; cases x
      | bet _ _ => exact iteT fun d nd => hQ _ T.x_NoBet.ns _ _ dok_upd (s1.trans (same_upd nd))
      | stake _ x _ => rw [e3] at x; cases x
      | ok _ x _ _ _ _ => rw [e3] at x; cases x
    | true =>
    refine iteF ⟨_, rfl, v4, d4, rfl, th_same s1 h4, _, rfl, ?_⟩
    cases e4 : isFr d4 with
    | false =>
      cases hR with
      | two x => rw [e] at x; cases x
      | bet _ x => rw [e3] at x; cases x
      | stake _ _ _ => exact iteT (iteT fun d nd => hQ _ T.x_NoStake.ns _ _ dok_upd (s1.trans (same_upd nd)))
      | ok _ _ _ _ x _ => rw [e4] at x; cases x
    | true =>
    refine iteF ⟨_, rfl, v5, d5, rfl, th_same s1 h5, _, rfl, ?_⟩
    cases e5 : isAb d5 with
    | false =>
      cases hR with
      | two x => rw [e] at x; cases x
      | bet _ x => rw [e3] at x; cases x
      | stake _ _ _ => exact iteT fun d nd => hQ _ T.x_NoStake.ns _ _ dok_upd (s1.trans (same_upd nd))
      | ok _ _ _ _ _ x => rw [e5] at x; cases x
    | true =>
    cases hR with
    | two x => rw [e] at x; cases x
    | bet _ x => rw [e3] at x; cases x
    | stake _ _ x => rw [e4, e5] at x; cases x
    | ok x1 x2 x3 x4 x5 x6 =>
    cases h1
    cases h2
    subst x3
    obtain ⟨pa, rfl, tp⟩ := th_pair h4
    obtain ⟨ka, rfl, tk⟩ := th_pair h5
    exact iteF ⟨_, rfl, _, rfl, _, rfl, _, rfl, _, rfl, _, rfl, a, _, pa, ka, S, _, D, M, rfl, hS.mono (Same.tk s1), rfl, l100, x4.same s1, Same.tup s1 tp, Same.tup s1 tk, (fun h12 => hO _ rfl h12), hQ.same s1⟩
end
end B

namespace B
open PySem PySem.Spec PyProof.Rows L2

def sp_done (K : PySem.W.Frag) : Sp := fun vs H Q E => ∃ (s dq : Addr) (nm : Str) (ps : List V), vs = [.ref s, .ref dq] ∧ SqT K H dq (.str nm :: ps) ∧ (nm, (ps.length : Int)) ∈ ([("deal", 5), ("split", 2), ("hand", 4), ("net", 2), ("clear", 1), ("post", 2), ("sell", 4), ("hear", 1)] : List (Str × Int)) ∧ ((nm = "deal" ∧ ∀ H' q, SqT K H' q ps → Same H H' → sp_dealt K [.ref s, .ref q] H' Q E) ∨ (nm = "hand" ∧ ∀ H' q, SqT K H' q ps → Same H H' → sp_handed K [.ref s, .ref q] H' Q E))

section
variable {P : Program} {w : World} {K : PySem.W.Frag} {mg : Str → Option Value} {base : Heap}
theorem ok_done (T : Tx K mg w) (U : Unl P base) : FnOk P w K mg base (L2.CX P w) 44 T.done.f T.done.fd ["stand", "deed"] (sp_done K) := by
  refine T.done.F.okX sc_done (fun vs H Q E h => ?_) (fun cdv A outer s H vs Q E hr h => ?_)
  · obtain ⟨s, dq, nm, ps, rfl, tD, hm, q⟩ := h
    rfl
  · obtain ⟨s, dq, nm, ps, rfl, tD, hm, q⟩ := h
    refine ⟨_, (pss_cons (ps_if (pt_not (pt_val (pe_call (ok_is_deed T U) (hr.mono (by decide)) (by rfl) T.is_deed.g T.is_deed.F.kp T.is_deed.b .nil pass0 (pa_cons (pv 1) pa_nil)))) (pss_one (ps_raise rfl (takes_of rfl rfl rfl rfl) (pmk_none T.x_NoDeed hr (by rfl)))) pss_nil)
      (pss_cons (ps_set (i := 2) sc_done.nd rfl (.inl rfl) (pe_ix ix_kdict (pe_glob (v := .ref T.a_ACTIONS) (by rfl) T.g_ACTIONS rfl) (pe_ix ix_tup (pv 1) pe_int (fun _ _ => rfl)) (fun _ _ => rfl)))
      (pss_one (ps_ret (pe_callV (i := 2) rfl (.inl rfl) (fun σ => passAt (takes_of rfl rfl rfl rfl) σ) (pa_cons (pv 0) (pa_cons (pe_slice sl_tupS (pv 1) (po_some pe_int) po_none) pa_nil))))))), ?_⟩
    have a0 : atI (V.str nm :: ps) 0 = some (.str nm) := atI_nat (show (V.str nm :: ps)[0]? = some (V.str nm) from rfl)
    have D := T.d_ACTIONS.choose_spec.choose_spec
    refine ⟨_, rfl, dq, nm, ps, rfl, tD, hm, _, rfl, iteF ?_⟩
    rcases q with ⟨rfl, q⟩ | ⟨rfl, q⟩
    · obtain ⟨u, e, r⟩ := T.v_ACTIONS ("deal", T.dealt.f) (by simp)
      refine ⟨_, rfl, dq, _, 0, .str "deal", rfl, rfl, tD, a0, T.a_ACTIONS, "deal", .ref T.dealt.f, rfl, rfl, ⟨_, _, u, D.at_, D.lit, e, r⟩, ?_⟩
      refine ⟨T.dealt.f, sp_dealt K, rfl, ⟨_, _, _, ok_dealt T U, hr.mono (by decide), T.dealt.F.kp, T.dealt.b⟩, _, rfl, _, rfl, 1, rfl, dq, _, rfl, tD, fun q1 H1 tq s1 => ?_⟩
      have tq : SqT K H1 q1 ps := by
        have := tq
        rw [show (some (1 : Int)) = some ((1 : Nat) : Int) from rfl, cut_drop] at this
        exact this
      exact q H1 q1 tq s1
    · obtain ⟨u, e, r⟩ := T.v_ACTIONS ("hand", T.handed.f) (by simp)
      refine ⟨_, rfl, dq, _, 0, .str "hand", rfl, rfl, tD, a0, T.a_ACTIONS, "hand", .ref T.handed.f, rfl, rfl, ⟨_, _, u, D.at_, D.lit, e, r⟩, ?_⟩
      refine ⟨T.handed.f, sp_handed K, rfl, ⟨_, _, _, ok_handed T U, hr.mono (by decide), T.handed.F.kp, T.handed.b⟩, _, rfl, _, rfl, 1, rfl, dq, _, rfl, tD, fun q1 H1 tq s1 => ?_⟩
      have tq : SqT K H1 q1 ps := by
        have := tq
        rw [show (some (1 : Int)) = some ((1 : Nat) : Int) from rfl, cut_drop] at this
        exact this
      exact q H1 q1 tq s1
end
end B

namespace B
open PySem PySem.Spec PyProof.Rows L2

def sp_l_done (K : PySem.W.Frag) : Sp := fun vs H Q _ => ∃ (s dq : Addr) (o : Wh), vs = [.ref s, .ref dq] ∧ (∀ nm, o = .inl nm → nm = "NoHolder" ∨ nm = "NoBet" ∨ nm = "NoStake" ∨ nm = "NoTicket" ∨ nm = "TooMany" ∨ nm = "NoCover") ∧ (∀ H' Q' E', Same H H' → OutG K o H' Q' E' → sp_done K [.ref s, .ref dq] H' Q' E') ∧ ∀ H' r, OutGV K H' r o → Same H H' → Q (.ref r) H'

section
variable {P : Program} {w : World} {K : PySem.W.Frag} {mg : Str → Option Value} {base : Heap}
theorem ok_l_done (T : Tx K mg w) (U : Unl P base) : FnOk P w K mg base CX0 45 T.l_done.f T.l_done.fd ["_law_stand", "_law_deed"] (sp_l_done K) := by
  refine T.l_done.F.ok sc_l_done (fun vs H Q E h => ?_) (fun cdv A outer s H vs Q E hr h => ?_)
  · obtain ⟨s, dq, o, rfl, hn, hd, q⟩ := h
    rfl
  · obtain ⟨s, dq, o, rfl, hn, hd, q⟩ := h
    refine ⟨_, (pss_cons (ps_try_as (i := 3) (Wout := fun _ _ _ _ => False) rfl rfl sc_l_done.nd rfl rfl ⟨rfl, by decide, Or.inl T.x_StallError.g⟩ takes0 (fun W pn xe tk _ => (pss_one (ps_set (i := 2) sc_l_done.nd rfl (.inl rfl) (by exact (pe_callS (ok_done T U) (hr.mono (by decide)) (by rfl) T.done.g T.done.F.kp T.done.b (fun σ => passAt tk σ) (pa_cons (pv 0) (pa_cons (pv 1) pa_nil))))))) (fun a oe cls d pn hz hf => (pss_one (ps_set (i := 2) sc_l_done.nd rfl (.inl rfl) (by exact (pe_tup (pa_cons (pe_callE hz hf (ok_l_class T U) (L2H.roomH_of (hr.mono (by decide))) (by rfl) T.l_class.g T.l_class.F.kp T.l_class.b (pa_cons (pv 3) pa_nil)) (pa_cons pe_non pa_nil))))))))
      (pss_one (ps_ret (pv 2)))), ?_⟩
    have kNoHolder : KindOf K T.x_NoHolder.C "NoHolder" := fun x m C c => by
      simp only [List.mem_cons, List.not_mem_nil, or_false] at m
      rcases m with rfl | rfl | rfl | rfl | rfl | rfl | rfl | rfl | rfl | rfl | rfl | rfl | rfl | rfl | rfl
      · obtain rfl := c.eq T.x_TooLong.ns
        rw [show (("TooLong" : Str) == "NoHolder") = false by decide +kernel]
        exact kit_own T.x_TooLong.ic T.x_TooLong.ty T.x_NoHolder.me T.i_NoHolder_TooLong
      · obtain rfl := c.eq T.x_TooMany.ns
        rw [show (("TooMany" : Str) == "NoHolder") = false by decide +kernel]
        exact kit_own T.x_TooMany.ic T.x_TooMany.ty T.x_NoHolder.me T.i_NoHolder_TooMany
      · obtain rfl := c.eq T.x_NoWorld.ns
        rw [show (("NoWorld" : Str) == "NoHolder") = false by decide +kernel]
        exact kit_own T.x_NoWorld.ic T.x_NoWorld.ty T.x_NoHolder.me T.i_NoHolder_NoWorld
      · obtain rfl := c.eq T.x_NotAlike.ns
        rw [show (("NotAlike" : Str) == "NoHolder") = false by decide +kernel]
        exact kit_own T.x_NotAlike.ic T.x_NotAlike.ty T.x_NoHolder.me T.i_NoHolder_NotAlike
      · obtain rfl := c.eq T.x_Unfair.ns
        rw [show (("Unfair" : Str) == "NoHolder") = false by decide +kernel]
        exact kit_own T.x_Unfair.ic T.x_Unfair.ty T.x_NoHolder.me T.i_NoHolder_Unfair
      · obtain rfl := c.eq T.x_Fair.ns
        rw [show (("Fair" : Str) == "NoHolder") = false by decide +kernel]
        exact kit_own T.x_Fair.ic T.x_Fair.ty T.x_NoHolder.me T.i_NoHolder_Fair
      · obtain rfl := c.eq T.x_NoBet.ns
        rw [show (("NoBet" : Str) == "NoHolder") = false by decide +kernel]
        exact kit_own T.x_NoBet.ic T.x_NoBet.ty T.x_NoHolder.me T.i_NoHolder_NoBet
      · obtain rfl := c.eq T.x_NoHolder.ns
        rw [show (("NoHolder" : Str) == "NoHolder") = true by decide +kernel]
        exact kit_own T.x_NoHolder.ic T.x_NoHolder.ty T.x_NoHolder.me T.i_NoHolder_NoHolder
      · obtain rfl := c.eq T.x_NoStake.ns
        rw [show (("NoStake" : Str) == "NoHolder") = false by decide +kernel]
        exact kit_own T.x_NoStake.ic T.x_NoStake.ty T.x_NoHolder.me T.i_NoHolder_NoStake
      · obtain rfl := c.eq T.x_NoTicket.ns
        rw [show (("NoTicket" : Str) == "NoHolder") = false by decide +kernel]
        exact kit_own T.x_NoTicket.ic T.x_NoTicket.ty T.x_NoHolder.me T.i_NoHolder_NoTicket
      · obtain rfl := c.eq T.x_NoCover.ns
        rw [show (("NoCover" : Str) == "NoHolder") = false by decide +kernel]
        exact kit_own T.x_NoCover.ic T.x_NoCover.ty T.x_NoHolder.me T.i_NoHolder_NoCover
      · obtain rfl := c.eq T.x_NoSaying.ns
        rw [show (("NoSaying" : Str) == "NoHolder") = false by decide +kernel]
        exact kit_own T.x_NoSaying.ic T.x_NoSaying.ty T.x_NoHolder.me T.i_NoHolder_NoSaying
      · obtain rfl := c.eq T.x_NoDeed.ns
        rw [show (("NoDeed" : Str) == "NoHolder") = false by decide +kernel]
        exact kit_own T.x_NoDeed.ic T.x_NoDeed.ty T.x_NoHolder.me T.i_NoHolder_NoDeed
      · obtain rfl := c.eq T.x_NoStep.ns
        rw [show (("NoStep" : Str) == "NoHolder") = false by decide +kernel]
        exact kit_own T.x_NoStep.ic T.x_NoStep.ty T.x_NoHolder.me T.i_NoHolder_NoStep
      · obtain rfl := c.eq T.x_NoText.ns
        rw [show (("NoText" : Str) == "NoHolder") = false by decide +kernel]
        exact kit_own T.x_NoText.ic T.x_NoText.ty T.x_NoHolder.me T.i_NoHolder_NoText
    have kNoBet : KindOf K T.x_NoBet.C "NoBet" := fun x m C c => by
      simp only [List.mem_cons, List.not_mem_nil, or_false] at m
      rcases m with rfl | rfl | rfl | rfl | rfl | rfl | rfl | rfl | rfl | rfl | rfl | rfl | rfl | rfl | rfl
      · obtain rfl := c.eq T.x_TooLong.ns
        rw [show (("TooLong" : Str) == "NoBet") = false by decide +kernel]
        exact kit_own T.x_TooLong.ic T.x_TooLong.ty T.x_NoBet.me T.i_NoBet_TooLong
      · obtain rfl := c.eq T.x_TooMany.ns
        rw [show (("TooMany" : Str) == "NoBet") = false by decide +kernel]
        exact kit_own T.x_TooMany.ic T.x_TooMany.ty T.x_NoBet.me T.i_NoBet_TooMany
      · obtain rfl := c.eq T.x_NoWorld.ns
        rw [show (("NoWorld" : Str) == "NoBet") = false by decide +kernel]
        exact kit_own T.x_NoWorld.ic T.x_NoWorld.ty T.x_NoBet.me T.i_NoBet_NoWorld
      · obtain rfl := c.eq T.x_NotAlike.ns
        rw [show (("NotAlike" : Str) == "NoBet") = false by decide +kernel]
        exact kit_own T.x_NotAlike.ic T.x_NotAlike.ty T.x_NoBet.me T.i_NoBet_NotAlike
      · obtain rfl := c.eq T.x_Unfair.ns
        rw [show (("Unfair" : Str) == "NoBet") = false by decide +kernel]
        exact kit_own T.x_Unfair.ic T.x_Unfair.ty T.x_NoBet.me T.i_NoBet_Unfair
      · obtain rfl := c.eq T.x_Fair.ns
        rw [show (("Fair" : Str) == "NoBet") = false by decide +kernel]
        exact kit_own T.x_Fair.ic T.x_Fair.ty T.x_NoBet.me T.i_NoBet_Fair
      · obtain rfl := c.eq T.x_NoBet.ns
        rw [show (("NoBet" : Str) == "NoBet") = true by decide +kernel]
        exact kit_own T.x_NoBet.ic T.x_NoBet.ty T.x_NoBet.me T.i_NoBet_NoBet
      · obtain rfl := c.eq T.x_NoHolder.ns
        rw [show (("NoHolder" : Str) == "NoBet") = false by decide +kernel]
        exact kit_own T.x_NoHolder.ic T.x_NoHolder.ty T.x_NoBet.me T.i_NoBet_NoHolder
      · obtain rfl := c.eq T.x_NoStake.ns
        rw [show (("NoStake" : Str) == "NoBet") = false by decide +kernel]
        exact kit_own T.x_NoStake.ic T.x_NoStake.ty T.x_NoBet.me T.i_NoBet_NoStake
      · obtain rfl := c.eq T.x_NoTicket.ns
        rw [show (("NoTicket" : Str) == "NoBet") = false by decide +kernel]
        exact kit_own T.x_NoTicket.ic T.x_NoTicket.ty T.x_NoBet.me T.i_NoBet_NoTicket
      · obtain rfl := c.eq T.x_NoCover.ns
        rw [show (("NoCover" : Str) == "NoBet") = false by decide +kernel]
        exact kit_own T.x_NoCover.ic T.x_NoCover.ty T.x_NoBet.me T.i_NoBet_NoCover
      · obtain rfl := c.eq T.x_NoSaying.ns
        rw [show (("NoSaying" : Str) == "NoBet") = false by decide +kernel]
        exact kit_own T.x_NoSaying.ic T.x_NoSaying.ty T.x_NoBet.me T.i_NoBet_NoSaying
      · obtain rfl := c.eq T.x_NoDeed.ns
        rw [show (("NoDeed" : Str) == "NoBet") = false by decide +kernel]
        exact kit_own T.x_NoDeed.ic T.x_NoDeed.ty T.x_NoBet.me T.i_NoBet_NoDeed
      · obtain rfl := c.eq T.x_NoStep.ns
        rw [show (("NoStep" : Str) == "NoBet") = false by decide +kernel]
        exact kit_own T.x_NoStep.ic T.x_NoStep.ty T.x_NoBet.me T.i_NoBet_NoStep
      · obtain rfl := c.eq T.x_NoText.ns
        rw [show (("NoText" : Str) == "NoBet") = false by decide +kernel]
        exact kit_own T.x_NoText.ic T.x_NoText.ty T.x_NoBet.me T.i_NoBet_NoText
    have kNoStake : KindOf K T.x_NoStake.C "NoStake" := fun x m C c => by
      simp only [List.mem_cons, List.not_mem_nil, or_false] at m
      rcases m with rfl | rfl | rfl | rfl | rfl | rfl | rfl | rfl | rfl | rfl | rfl | rfl | rfl | rfl | rfl
      · obtain rfl := c.eq T.x_TooLong.ns
        rw [show (("TooLong" : Str) == "NoStake") = false by decide +kernel]
        exact kit_own T.x_TooLong.ic T.x_TooLong.ty T.x_NoStake.me T.i_NoStake_TooLong
      · obtain rfl := c.eq T.x_TooMany.ns
        rw [show (("TooMany" : Str) == "NoStake") = false by decide +kernel]
        exact kit_own T.x_TooMany.ic T.x_TooMany.ty T.x_NoStake.me T.i_NoStake_TooMany
      · obtain rfl := c.eq T.x_NoWorld.ns
        rw [show (("NoWorld" : Str) == "NoStake") = false by decide +kernel]
        exact kit_own T.x_NoWorld.ic T.x_NoWorld.ty T.x_NoStake.me T.i_NoStake_NoWorld
      · obtain rfl := c.eq T.x_NotAlike.ns
        rw [show (("NotAlike" : Str) == "NoStake") = false by decide +kernel]
        exact kit_own T.x_NotAlike.ic T.x_NotAlike.ty T.x_NoStake.me T.i_NoStake_NotAlike
      · obtain rfl := c.eq T.x_Unfair.ns
        rw [show (("Unfair" : Str) == "NoStake") = false by decide +kernel]
        exact kit_own T.x_Unfair.ic T.x_Unfair.ty T.x_NoStake.me T.i_NoStake_Unfair
      · obtain rfl := c.eq T.x_Fair.ns
        rw [show (("Fair" : Str) == "NoStake") = false by decide +kernel]
        exact kit_own T.x_Fair.ic T.x_Fair.ty T.x_NoStake.me T.i_NoStake_Fair
      · obtain rfl := c.eq T.x_NoBet.ns
        rw [show (("NoBet" : Str) == "NoStake") = false by decide +kernel]
        exact kit_own T.x_NoBet.ic T.x_NoBet.ty T.x_NoStake.me T.i_NoStake_NoBet
      · obtain rfl := c.eq T.x_NoHolder.ns
        rw [show (("NoHolder" : Str) == "NoStake") = false by decide +kernel]
        exact kit_own T.x_NoHolder.ic T.x_NoHolder.ty T.x_NoStake.me T.i_NoStake_NoHolder
      · obtain rfl := c.eq T.x_NoStake.ns
        rw [show (("NoStake" : Str) == "NoStake") = true by decide +kernel]
        exact kit_own T.x_NoStake.ic T.x_NoStake.ty T.x_NoStake.me T.i_NoStake_NoStake
      · obtain rfl := c.eq T.x_NoTicket.ns
        rw [show (("NoTicket" : Str) == "NoStake") = false by decide +kernel]
        exact kit_own T.x_NoTicket.ic T.x_NoTicket.ty T.x_NoStake.me T.i_NoStake_NoTicket
      · obtain rfl := c.eq T.x_NoCover.ns
        rw [show (("NoCover" : Str) == "NoStake") = false by decide +kernel]
        exact kit_own T.x_NoCover.ic T.x_NoCover.ty T.x_NoStake.me T.i_NoStake_NoCover
      · obtain rfl := c.eq T.x_NoSaying.ns
        rw [show (("NoSaying" : Str) == "NoStake") = false by decide +kernel]
        exact kit_own T.x_NoSaying.ic T.x_NoSaying.ty T.x_NoStake.me T.i_NoStake_NoSaying
      · obtain rfl := c.eq T.x_NoDeed.ns
        rw [show (("NoDeed" : Str) == "NoStake") = false by decide +kernel]
        exact kit_own T.x_NoDeed.ic T.x_NoDeed.ty T.x_NoStake.me T.i_NoStake_NoDeed
      · obtain rfl := c.eq T.x_NoStep.ns
        rw [show (("NoStep" : Str) == "NoStake") = false by decide +kernel]
        exact kit_own T.x_NoStep.ic T.x_NoStep.ty T.x_NoStake.me T.i_NoStake_NoStep
      · obtain rfl := c.eq T.x_NoText.ns
        rw [show (("NoText" : Str) == "NoStake") = false by decide +kernel]
        exact kit_own T.x_NoText.ic T.x_NoText.ty T.x_NoStake.me T.i_NoStake_NoText
    have kNoTicket : KindOf K T.x_NoTicket.C "NoTicket" := fun x m C c => by
      simp only [List.mem_cons, List.not_mem_nil, or_false] at m
      rcases m with rfl | rfl | rfl | rfl | rfl | rfl | rfl | rfl | rfl | rfl | rfl | rfl | rfl | rfl | rfl
      · obtain rfl := c.eq T.x_TooLong.ns
        rw [show (("TooLong" : Str) == "NoTicket") = false by decide +kernel]
        exact kit_own T.x_TooLong.ic T.x_TooLong.ty T.x_NoTicket.me T.i_NoTicket_TooLong
      · obtain rfl := c.eq T.x_TooMany.ns
        rw [show (("TooMany" : Str) == "NoTicket") = false by decide +kernel]
        exact kit_own T.x_TooMany.ic T.x_TooMany.ty T.x_NoTicket.me T.i_NoTicket_TooMany
      · obtain rfl := c.eq T.x_NoWorld.ns
        rw [show (("NoWorld" : Str) == "NoTicket") = false by decide +kernel]
        exact kit_own T.x_NoWorld.ic T.x_NoWorld.ty T.x_NoTicket.me T.i_NoTicket_NoWorld
      · obtain rfl := c.eq T.x_NotAlike.ns
        rw [show (("NotAlike" : Str) == "NoTicket") = false by decide +kernel]
        exact kit_own T.x_NotAlike.ic T.x_NotAlike.ty T.x_NoTicket.me T.i_NoTicket_NotAlike
      · obtain rfl := c.eq T.x_Unfair.ns
        rw [show (("Unfair" : Str) == "NoTicket") = false by decide +kernel]
        exact kit_own T.x_Unfair.ic T.x_Unfair.ty T.x_NoTicket.me T.i_NoTicket_Unfair
      · obtain rfl := c.eq T.x_Fair.ns
        rw [show (("Fair" : Str) == "NoTicket") = false by decide +kernel]
        exact kit_own T.x_Fair.ic T.x_Fair.ty T.x_NoTicket.me T.i_NoTicket_Fair
      · obtain rfl := c.eq T.x_NoBet.ns
        rw [show (("NoBet" : Str) == "NoTicket") = false by decide +kernel]
        exact kit_own T.x_NoBet.ic T.x_NoBet.ty T.x_NoTicket.me T.i_NoTicket_NoBet
      · obtain rfl := c.eq T.x_NoHolder.ns
        rw [show (("NoHolder" : Str) == "NoTicket") = false by decide +kernel]
        exact kit_own T.x_NoHolder.ic T.x_NoHolder.ty T.x_NoTicket.me T.i_NoTicket_NoHolder
      · obtain rfl := c.eq T.x_NoStake.ns
        rw [show (("NoStake" : Str) == "NoTicket") = false by decide +kernel]
        exact kit_own T.x_NoStake.ic T.x_NoStake.ty T.x_NoTicket.me T.i_NoTicket_NoStake
      · obtain rfl := c.eq T.x_NoTicket.ns
        rw [show (("NoTicket" : Str) == "NoTicket") = true by decide +kernel]
        exact kit_own T.x_NoTicket.ic T.x_NoTicket.ty T.x_NoTicket.me T.i_NoTicket_NoTicket
      · obtain rfl := c.eq T.x_NoCover.ns
        rw [show (("NoCover" : Str) == "NoTicket") = false by decide +kernel]
        exact kit_own T.x_NoCover.ic T.x_NoCover.ty T.x_NoTicket.me T.i_NoTicket_NoCover
      · obtain rfl := c.eq T.x_NoSaying.ns
        rw [show (("NoSaying" : Str) == "NoTicket") = false by decide +kernel]
        exact kit_own T.x_NoSaying.ic T.x_NoSaying.ty T.x_NoTicket.me T.i_NoTicket_NoSaying
      · obtain rfl := c.eq T.x_NoDeed.ns
        rw [show (("NoDeed" : Str) == "NoTicket") = false by decide +kernel]
        exact kit_own T.x_NoDeed.ic T.x_NoDeed.ty T.x_NoTicket.me T.i_NoTicket_NoDeed
      · obtain rfl := c.eq T.x_NoStep.ns
        rw [show (("NoStep" : Str) == "NoTicket") = false by decide +kernel]
        exact kit_own T.x_NoStep.ic T.x_NoStep.ty T.x_NoTicket.me T.i_NoTicket_NoStep
      · obtain rfl := c.eq T.x_NoText.ns
        rw [show (("NoText" : Str) == "NoTicket") = false by decide +kernel]
        exact kit_own T.x_NoText.ic T.x_NoText.ty T.x_NoTicket.me T.i_NoTicket_NoText
    have kTooMany : KindOf K T.x_TooMany.C "TooMany" := fun x m C c => by
      simp only [List.mem_cons, List.not_mem_nil, or_false] at m
      rcases m with rfl | rfl | rfl | rfl | rfl | rfl | rfl | rfl | rfl | rfl | rfl | rfl | rfl | rfl | rfl
      · obtain rfl := c.eq T.x_TooLong.ns
        rw [show (("TooLong" : Str) == "TooMany") = false by decide +kernel]
        exact kit_own T.x_TooLong.ic T.x_TooLong.ty T.x_TooMany.me T.i_TooMany_TooLong
      · obtain rfl := c.eq T.x_TooMany.ns
        rw [show (("TooMany" : Str) == "TooMany") = true by decide +kernel]
        exact kit_own T.x_TooMany.ic T.x_TooMany.ty T.x_TooMany.me T.i_TooMany_TooMany
      · obtain rfl := c.eq T.x_NoWorld.ns
        rw [show (("NoWorld" : Str) == "TooMany") = false by decide +kernel]
        exact kit_own T.x_NoWorld.ic T.x_NoWorld.ty T.x_TooMany.me T.i_TooMany_NoWorld
      · obtain rfl := c.eq T.x_NotAlike.ns
        rw [show (("NotAlike" : Str) == "TooMany") = false by decide +kernel]
        exact kit_own T.x_NotAlike.ic T.x_NotAlike.ty T.x_TooMany.me T.i_TooMany_NotAlike
      · obtain rfl := c.eq T.x_Unfair.ns
        rw [show (("Unfair" : Str) == "TooMany") = false by decide +kernel]
        exact kit_own T.x_Unfair.ic T.x_Unfair.ty T.x_TooMany.me T.i_TooMany_Unfair
      · obtain rfl := c.eq T.x_Fair.ns
        rw [show (("Fair" : Str) == "TooMany") = false by decide +kernel]
        exact kit_own T.x_Fair.ic T.x_Fair.ty T.x_TooMany.me T.i_TooMany_Fair
      · obtain rfl := c.eq T.x_NoBet.ns
        rw [show (("NoBet" : Str) == "TooMany") = false by decide +kernel]
        exact kit_own T.x_NoBet.ic T.x_NoBet.ty T.x_TooMany.me T.i_TooMany_NoBet
      · obtain rfl := c.eq T.x_NoHolder.ns
        rw [show (("NoHolder" : Str) == "TooMany") = false by decide +kernel]
        exact kit_own T.x_NoHolder.ic T.x_NoHolder.ty T.x_TooMany.me T.i_TooMany_NoHolder
      · obtain rfl := c.eq T.x_NoStake.ns
        rw [show (("NoStake" : Str) == "TooMany") = false by decide +kernel]
        exact kit_own T.x_NoStake.ic T.x_NoStake.ty T.x_TooMany.me T.i_TooMany_NoStake
      · obtain rfl := c.eq T.x_NoTicket.ns
        rw [show (("NoTicket" : Str) == "TooMany") = false by decide +kernel]
        exact kit_own T.x_NoTicket.ic T.x_NoTicket.ty T.x_TooMany.me T.i_TooMany_NoTicket
      · obtain rfl := c.eq T.x_NoCover.ns
        rw [show (("NoCover" : Str) == "TooMany") = false by decide +kernel]
        exact kit_own T.x_NoCover.ic T.x_NoCover.ty T.x_TooMany.me T.i_TooMany_NoCover
      · obtain rfl := c.eq T.x_NoSaying.ns
        rw [show (("NoSaying" : Str) == "TooMany") = false by decide +kernel]
        exact kit_own T.x_NoSaying.ic T.x_NoSaying.ty T.x_TooMany.me T.i_TooMany_NoSaying
      · obtain rfl := c.eq T.x_NoDeed.ns
        rw [show (("NoDeed" : Str) == "TooMany") = false by decide +kernel]
        exact kit_own T.x_NoDeed.ic T.x_NoDeed.ty T.x_TooMany.me T.i_TooMany_NoDeed
      · obtain rfl := c.eq T.x_NoStep.ns
        rw [show (("NoStep" : Str) == "TooMany") = false by decide +kernel]
        exact kit_own T.x_NoStep.ic T.x_NoStep.ty T.x_TooMany.me T.i_TooMany_NoStep
      · obtain rfl := c.eq T.x_NoText.ns
        rw [show (("NoText" : Str) == "TooMany") = false by decide +kernel]
        exact kit_own T.x_NoText.ic T.x_NoText.ty T.x_TooMany.me T.i_TooMany_NoText
    have kNoCover : KindOf K T.x_NoCover.C "NoCover" := fun x m C c => by
      simp only [List.mem_cons, List.not_mem_nil, or_false] at m
      rcases m with rfl | rfl | rfl | rfl | rfl | rfl | rfl | rfl | rfl | rfl | rfl | rfl | rfl | rfl | rfl
      · obtain rfl := c.eq T.x_TooLong.ns
        rw [show (("TooLong" : Str) == "NoCover") = false by decide +kernel]
        exact kit_own T.x_TooLong.ic T.x_TooLong.ty T.x_NoCover.me T.i_NoCover_TooLong
      · obtain rfl := c.eq T.x_TooMany.ns
        rw [show (("TooMany" : Str) == "NoCover") = false by decide +kernel]
        exact kit_own T.x_TooMany.ic T.x_TooMany.ty T.x_NoCover.me T.i_NoCover_TooMany
      · obtain rfl := c.eq T.x_NoWorld.ns
        rw [show (("NoWorld" : Str) == "NoCover") = false by decide +kernel]
        exact kit_own T.x_NoWorld.ic T.x_NoWorld.ty T.x_NoCover.me T.i_NoCover_NoWorld
      · obtain rfl := c.eq T.x_NotAlike.ns
        rw [show (("NotAlike" : Str) == "NoCover") = false by decide +kernel]
        exact kit_own T.x_NotAlike.ic T.x_NotAlike.ty T.x_NoCover.me T.i_NoCover_NotAlike
      · obtain rfl := c.eq T.x_Unfair.ns
        rw [show (("Unfair" : Str) == "NoCover") = false by decide +kernel]
        exact kit_own T.x_Unfair.ic T.x_Unfair.ty T.x_NoCover.me T.i_NoCover_Unfair
      · obtain rfl := c.eq T.x_Fair.ns
        rw [show (("Fair" : Str) == "NoCover") = false by decide +kernel]
        exact kit_own T.x_Fair.ic T.x_Fair.ty T.x_NoCover.me T.i_NoCover_Fair
      · obtain rfl := c.eq T.x_NoBet.ns
        rw [show (("NoBet" : Str) == "NoCover") = false by decide +kernel]
        exact kit_own T.x_NoBet.ic T.x_NoBet.ty T.x_NoCover.me T.i_NoCover_NoBet
      · obtain rfl := c.eq T.x_NoHolder.ns
        rw [show (("NoHolder" : Str) == "NoCover") = false by decide +kernel]
        exact kit_own T.x_NoHolder.ic T.x_NoHolder.ty T.x_NoCover.me T.i_NoCover_NoHolder
      · obtain rfl := c.eq T.x_NoStake.ns
        rw [show (("NoStake" : Str) == "NoCover") = false by decide +kernel]
        exact kit_own T.x_NoStake.ic T.x_NoStake.ty T.x_NoCover.me T.i_NoCover_NoStake
      · obtain rfl := c.eq T.x_NoTicket.ns
        rw [show (("NoTicket" : Str) == "NoCover") = false by decide +kernel]
        exact kit_own T.x_NoTicket.ic T.x_NoTicket.ty T.x_NoCover.me T.i_NoCover_NoTicket
      · obtain rfl := c.eq T.x_NoCover.ns
        rw [show (("NoCover" : Str) == "NoCover") = true by decide +kernel]
        exact kit_own T.x_NoCover.ic T.x_NoCover.ty T.x_NoCover.me T.i_NoCover_NoCover
      · obtain rfl := c.eq T.x_NoSaying.ns
        rw [show (("NoSaying" : Str) == "NoCover") = false by decide +kernel]
        exact kit_own T.x_NoSaying.ic T.x_NoSaying.ty T.x_NoCover.me T.i_NoCover_NoSaying
      · obtain rfl := c.eq T.x_NoDeed.ns
        rw [show (("NoDeed" : Str) == "NoCover") = false by decide +kernel]
        exact kit_own T.x_NoDeed.ic T.x_NoDeed.ty T.x_NoCover.me T.i_NoCover_NoDeed
      · obtain rfl := c.eq T.x_NoStep.ns
        rw [show (("NoStep" : Str) == "NoCover") = false by decide +kernel]
        exact kit_own T.x_NoStep.ic T.x_NoStep.ty T.x_NoCover.me T.i_NoCover_NoStep
      · obtain rfl := c.eq T.x_NoText.ns
        rw [show (("NoText" : Str) == "NoCover") = false by decide +kernel]
        exact kit_own T.x_NoText.ic T.x_NoText.ty T.x_NoCover.me T.i_NoCover_NoText
    refine ⟨_, rfl, _, rfl, hd _ _ _ (Same.refl _) ?_⟩
    cases o with
    | inr x =>
      exact fun H2 r sp u a b c s2 => ⟨_, rfl, q H2 r ⟨u, sp, a, b, c⟩ s2⟩
    | inl nm =>
    have hn := hn nm rfl
    intro C hC d H2 dk s2
    rcases hn with rfl | rfl | rfl | rfl | rfl | rfl
    · obtain rfl := hC.eq T.x_NoHolder.ns
      refine ⟨true, exm_own T.x_StallError.sb T.x_StallError.ic T.x_StallError.ty T.i_NoHolder_StallError, fun _ a na => ?_, fun z => nomatch z⟩
      refine ⟨_, rfl, T.x_NoHolder.C, "NoHolder", rfl, rfl, dk, T.x_NoHolder.ec, kit_val (by decide +kernel) T.v_NoHolder, kNoHolder, by simp, fun H3 s3 => ⟨by show 2 ≤ sizeLine; decide, fun p np => ?_⟩⟩
      have s4 := same_upd (o := .tup [.str "NoHolder", .non]) np
      exact ⟨_, rfl, q _ p sqt_upd (s2.trans (s3.trans s4))⟩
    · obtain rfl := hC.eq T.x_NoBet.ns
      refine ⟨true, exm_own T.x_StallError.sb T.x_StallError.ic T.x_StallError.ty T.i_NoBet_StallError, fun _ a na => ?_, fun z => nomatch z⟩
      refine ⟨_, rfl, T.x_NoBet.C, "NoBet", rfl, rfl, dk, T.x_NoBet.ec, kit_val (by decide +kernel) T.v_NoBet, kNoBet, by simp, fun H3 s3 => ⟨by show 2 ≤ sizeLine; decide, fun p np => ?_⟩⟩
      have s4 := same_upd (o := .tup [.str "NoBet", .non]) np
      exact ⟨_, rfl, q _ p sqt_upd (s2.trans (s3.trans s4))⟩
    · obtain rfl := hC.eq T.x_NoStake.ns
      refine ⟨true, exm_own T.x_StallError.sb T.x_StallError.ic T.x_StallError.ty T.i_NoStake_StallError, fun _ a na => ?_, fun z => nomatch z⟩
      refine ⟨_, rfl, T.x_NoStake.C, "NoStake", rfl, rfl, dk, T.x_NoStake.ec, kit_val (by decide +kernel) T.v_NoStake, kNoStake, by simp, fun H3 s3 => ⟨by show 2 ≤ sizeLine; decide, fun p np => ?_⟩⟩
      have s4 := same_upd (o := .tup [.str "NoStake", .non]) np
      exact ⟨_, rfl, q _ p sqt_upd (s2.trans (s3.trans s4))⟩
    · obtain rfl := hC.eq T.x_NoTicket.ns
      refine ⟨true, exm_own T.x_StallError.sb T.x_StallError.ic T.x_StallError.ty T.i_NoTicket_StallError, fun _ a na => ?_, fun z => nomatch z⟩
      refine ⟨_, rfl, T.x_NoTicket.C, "NoTicket", rfl, rfl, dk, T.x_NoTicket.ec, kit_val (by decide +kernel) T.v_NoTicket, kNoTicket, by simp, fun H3 s3 => ⟨by show 2 ≤ sizeLine; decide, fun p np => ?_⟩⟩
      have s4 := same_upd (o := .tup [.str "NoTicket", .non]) np
      exact ⟨_, rfl, q _ p sqt_upd (s2.trans (s3.trans s4))⟩
    · obtain rfl := hC.eq T.x_TooMany.ns
      refine ⟨true, exm_own T.x_StallError.sb T.x_StallError.ic T.x_StallError.ty T.i_TooMany_StallError, fun _ a na => ?_, fun z => nomatch z⟩
      refine ⟨_, rfl, T.x_TooMany.C, "TooMany", rfl, rfl, dk, T.x_TooMany.ec, kit_val (by decide +kernel) T.v_TooMany, kTooMany, by simp, fun H3 s3 => ⟨by show 2 ≤ sizeLine; decide, fun p np => ?_⟩⟩
      have s4 := same_upd (o := .tup [.str "TooMany", .non]) np
      exact ⟨_, rfl, q _ p sqt_upd (s2.trans (s3.trans s4))⟩
    · obtain rfl := hC.eq T.x_NoCover.ns
      refine ⟨true, exm_own T.x_StallError.sb T.x_StallError.ic T.x_StallError.ty T.i_NoCover_StallError, fun _ a na => ?_, fun z => nomatch z⟩
      refine ⟨_, rfl, T.x_NoCover.C, "NoCover", rfl, rfl, dk, T.x_NoCover.ec, kit_val (by decide +kernel) T.v_NoCover, kNoCover, by simp, fun H3 s3 => ⟨by show 2 ≤ sizeLine; decide, fun p np => ?_⟩⟩
      have s4 := same_upd (o := .tup [.str "NoCover", .non]) np
      exact ⟨_, rfl, q _ p sqt_upd (s2.trans (s3.trans s4))⟩
end
end B

namespace B
open PySem PySem.Spec PyProof.Rows L2

def spn_l_just (K : PySem.W.Frag) : Nat → Sp
  | 0 => fun _ _ _ _ => False
  | n + 1 => fun vs H Q _ => ∃ (v v' : V) (d : PyData), vs = [v, v'] ∧ Dq K H v d ∧ Dq K H v' d ∧ plJ (n + 1) d = true ∧ ∀ H', Same H H' → Q (.bl true) H'

section
variable {P : Program} {w : World} {K : PySem.W.Frag} {mg : Str → Option Value} {base : Heap}
theorem okn_l_just (T : Tx K mg w) (U : Unl P base) : ∀ n : Nat, FnOk P w K mg base CX0 (36 + n) T.l_just.f T.l_just.fd ["_law_thing", "_law_due"] (spn_l_just K n)
  | 0 => T.l_just.F.ok sc_l_just (fun vs H Q E h => h.elim) (fun cdv A outer s H vs Q E hr h => h.elim)
  | n + 1 => by
    have ih := okn_l_just T U n
    refine T.l_just.F.ok sc_l_just (fun vs H Q E h => ?_) (fun cdv A outer s H vs Q E hr h => ?_)
    · obtain ⟨v, v', d, rfl, hA, hB, hp, q⟩ := h
      rfl
    · obtain ⟨v, v', d, rfl, hA, hB, hp, q⟩ := h
      refine ⟨_, (pss_cons (ps_if (pt_val (pe_callB call_isi (by rfl) T.m_isinstance (by decide +kernel) (pa_cons (pv 1) (pa_cons (pe_bltn (v := .ty "tuple") (u := .type "tuple") (by rfl) T.m_tuple (by decide +kernel) rfl) pa_nil)))) (pss_cons (ps_if (PW.pt (pw_or (pt_not (pt_val (pe_callB call_isi (by rfl) T.m_isinstance (by decide +kernel) (pa_cons (pv 0) (pa_cons (pe_bltn (v := .ty "tuple") (u := .type "tuple") (by rfl) T.m_tuple (by decide +kernel) rfl) pa_nil))))) (pw_or1 (pt_cmpR op_ne (pe_callB call_len_seq (by rfl) T.m_len (by decide +kernel) (pa_cons (pv 0) pa_nil)) (pe_callB call_len_seq (by rfl) T.m_len (by decide +kernel) (pa_cons (pv 1) pa_nil)) (nomark _))))) (pss_one (ps_ret pe_bl)) pss_nil)
      (pss_one (ps_ret (pe_cmpR (op_eqL0 hr.units) (pe_lc (own := [("_law_one", 2), ("_law_other", 3)]) (g := (gTup K 2 (gCons (gName 2) (gCons (gName 3) gNil)))) rfl sc_l_just.nd (pi_zipG (by rfl) T.m_zip (pa_cons (pv 0) (pa_cons (pv 1) pa_nil))) (blkOk_by (own := [("_law_one", 2), ("_law_other", 3)]) (N := N_l_just) (sc := defScope s_l_just) (by decide +kernel)) (fun _ _ _ _ _ => (pg_tup rfl (pgs_cons (pg_name (i := 2) sc_l_just.nd rfl (.inl rfl)) (pgs_cons (pg_name (i := 3) sc_l_just.nd rfl (.inl rfl)) pgs_nil)))) (fun _ _ _ _ _ => (pts_one (pt_not (pt_val (pe_call ih (hr.mono (by (try simp only [Nat.add_eq]); omega)) (by rfl) T.l_just.g T.l_just.F.kp T.l_just.b .nil pass0 (pa_cons (pv 2) (pa_cons (pv 3) pa_nil))))))) (fun _ _ _ _ _ => pe_int)) (pe_lst pa_nil) (nomark _))))) pss_nil)
      (pss_cons (ps_if (pt_cmpR op_isN (pv 1) pe_non (nomark _)) (pss_one (ps_ret (pe_cmpR op_isN (pv 0) pe_non (nomark _)))) pss_nil)
      (pss_cons (ps_if (pt_val (pe_callB call_isi (by rfl) T.m_isinstance (by decide +kernel) (pa_cons (pv 1) (pa_cons (pe_bltn (v := .ty "str") (u := .type "str") (by rfl) T.m_str (by decide +kernel) rfl) pa_nil)))) (pss_one (ps_ret (pe_and (pe_callB call_isi (by rfl) T.m_isinstance (by decide +kernel) (pa_cons (pv 0) (pa_cons (pe_bltn (v := .ty "str") (u := .type "str") (by rfl) T.m_str (by decide +kernel) rfl) pa_nil))) (pe_one (pe_cmpR op_eq (pv 0) (pv 1) (nomark _)))))) pss_nil)
      (pss_one (ps_ret (pe_and (pe_call (ok_l_whole T U) (hr.mono (by (try simp only [Nat.add_eq]); omega)) (by rfl) T.l_whole.g T.l_whole.F.kp T.l_whole.b .nil pass0 (pa_cons (pv 0) pa_nil)) (pe_one (pe_cmpR op_eq (pv 0) (pv 1) (nomark _))))))))), ?_⟩
      have tA := dq_th hA
      have tB := dq_th hB
      refine ⟨_, rfl, _, .ty "tuple", .type (tyN d), .type "tuple", isT d, rfl, .ty _, tB.ty, kit_ty (kit_tup d), _, rfl, ?_⟩
      cases d with
      | none =>
        cases hA
        cases hB
        exact iteF ⟨_, rfl, rfl, _, rfl, iteT ⟨_, rfl, rfl, q _ (Same.refl _)⟩⟩
      | int i =>
        cases hA
        cases hB
        refine iteF ⟨_, rfl, rfl, _, rfl, iteF ⟨_, rfl, _, .ty "str", .type (tyN (.int i)), .type "str", isS (.int i), rfl, .ty _, tB.ty, kit_ty (kit_str (.int i)), _, rfl, iteF ?_⟩⟩
        refine ⟨_, rfl, i, rfl, _, rfl, iteT ⟨_, rfl, _, rfl, rfl, ?_⟩⟩
        rw [eq_same]
        exact q _ (Same.refl _)
      | str x =>
        cases hA
        cases hB
        refine iteF ⟨_, rfl, rfl, _, rfl, iteF ⟨_, rfl, _, .ty "str", .type (tyN (.str x)), .type "str", isS (.str x), rfl, .ty _, tB.ty, kit_ty (kit_str (.str x)), _, rfl, iteT ?_⟩⟩
        refine ⟨_, rfl, _, .ty "str", .type (tyN (.str x)), .type "str", isS (.str x), rfl, .ty _, tA.ty, kit_ty (kit_str (.str x)), _, rfl, iteT ⟨_, rfl, _, rfl, rfl, ?_⟩⟩
        rw [eq_same]
        exact q _ (Same.refl _)
      | tuple ds =>
        cases hA with
        | tup sA aA =>
        cases hB with
        | tup sB aB =>
        rename_i a xs b ys
        have hp : (decide (ds.length ≤ 1000) && ds.all (plJ n)) = true := hp
        rw [Bool.and_eq_true, decide_eq_true_eq] at hp
        have lA := aA.len
        have lB := aB.len
        refine iteT ⟨_, rfl, _, .ty "tuple", .type (tyN (.tuple ds)), .type "tuple", isT (.tuple ds), rfl, .ty _, tA.ty, kit_ty (kit_tup (.tuple ds)), _, rfl, iteF ?_⟩
        refine ⟨_, rfl, a, xs, rfl, .inr sA, _, rfl, b, ys, rfl, .inr sB, rfl, _, rfl, iteE (by rw [lA, lB]; simp) ?_⟩
        refine ⟨_, rfl, _, rfl, .t, .t, .ref a, .ref b, _, _, rfl, ⟨a, rfl, sA⟩, ⟨b, rfl, sB⟩, fun D nD => ?_⟩
        refine lcp_it (K := K) (walk_zipG (xs := xs) (ys := ys)) (fun _ => (none : Option Unit)) (fun _ _ _ => True) (fun _ _ _ _ _ _ => trivial) nD (Nat.lt_of_le_of_lt (show min xs.length ys.length ≤ 1000 by omega) (by decide)) (fun H' s => ⟨⟨a, rfl, Same.tup s sA⟩, ⟨b, rfl, Same.tup s sB⟩⟩) ?_ ?_
        · rintro i v H2 _ hi s2 ⟨tq, x, y, rfl, nT, rfl, hx, hy⟩ Y N hYes hNo
          have sT := same_upd (o := .tup [x, y]) nT
          have S := s2.trans sT
          obtain ⟨dx, hdx, qx⟩ := (dqAll_f2 (dqAll_same S aA)).getA hx
          obtain ⟨dy, hdy, qy⟩ := (dqAll_f2 (dqAll_same S aB)).getA hy
          rw [hdx] at hdy
          cases hdy
          have pl := List.all_eq_true.mp hp.2 dx (List.mem_of_getElem? hdx)
          refine ⟨tq, _, rfl, sqt_upd, rfl, _, _, rfl, _, _, rfl, rfl, rfl, ?_⟩
          cases n with
          | zero => exact nomatch (show false = true from pl)
          | succ n' => exact ⟨_, rfl, _, rfl, x, y, dx, rfl, qx, qy, pl, fun H3 s3 => ⟨_, rfl, iteF (hNo _ (sT.trans s3) rfl)⟩⟩
        intro H2 zs h2 f2 s2
        refine ⟨by decide, fun E nE => ?_⟩
        have s3 := same_upd (o := .lst []) nE
        refine ⟨D, E, zs, rfl, rfl, .inl (.inl (s3 _ _ h2)), sql_upd, ?_⟩
        have ez : zs.isEmpty = true := by
          have := f2.len
          have e0 : ∀ m : Nat, ((List.range m).filterMap fun _ => (none : Option Unit)).length = 0 := fun m => by simp
          rw [e0] at this
          rw [List.isEmpty_iff]
          exact List.length_eq_zero_iff.mp this
        rw [ez]
        exact q _ (s2.trans s3)
      | _ => exact nomatch (show false = true from hp)
theorem ok_l_just (T : Tx K mg w) (U : Unl P base) : FnOk P w K mg base CX0 46 T.l_just.f T.l_just.fd ["_law_thing", "_law_due"] (spn_l_just K 10) := okn_l_just T U 10
end
end B

namespace B
open PySem PySem.Spec PyProof.Rows L2

def sp_l_is (K : PySem.W.Frag) : Sp := fun vs H Q _ => ∃ (s dq : Addr) (u1 u2 : V) (o : Wh), vs = [.ref s, .ref dq, u1, u2] ∧ (∀ nm, o = .inl nm → nm = "NoHolder" ∨ nm = "NoBet" ∨ nm = "NoStake" ∨ nm = "NoTicket" ∨ nm = "TooMany" ∨ nm = "NoCover") ∧ (∀ H' Q' E', Same H H' → OutG K o H' Q' E' → sp_done K [.ref s, .ref dq] H' Q' E') ∧ Dq K H u1 (og1 o) ∧ Dq K H u2 (og2 o) ∧ plJ 10 (ogD o) = true ∧ ∀ H', Same H H' → Q (.bl true) H'

section
variable {P : Program} {w : World} {K : PySem.W.Frag} {mg : Str → Option Value} {base : Heap}
theorem ok_l_is (T : Tx K mg w) (U : Unl P base) : FnOk P w K mg base CX0 47 T.l_is.f T.l_is.fd ["_law_stand", "_law_deed", "_law_told", "_law_behind"] (sp_l_is K) := by
  refine T.l_is.F.ok sc_l_is (fun vs H Q E h => ?_) (fun cdv A outer s H vs Q E hr h => ?_)
  · obtain ⟨s, dq, u1, u2, o, rfl, hn, hd, g1, g2, hp, q⟩ := h
    rfl
  · obtain ⟨s, dq, u1, u2, o, rfl, hn, hd, g1, g2, hp, q⟩ := h
    refine ⟨_, (pss_cons (ps_for PassesOwn.never rfl (pi_range1 (by rfl) T.m_range (pa_cons pe_int pa_nil)) (pg_name (i := 4) sc_l_is.nd rfl (.inl rfl))
      (pss_one (ps_if (pt_not (pt_val (pe_call (ok_l_just T U) (hr.mono (by decide)) (by rfl) T.l_just.g T.l_just.F.kp T.l_just.b .nil pass0 (pa_cons (pe_call (ok_l_done T U) (hr.mono (by decide)) (by rfl) T.l_done.g T.l_done.F.kp T.l_done.b .nil pass0 (pa_cons (pv 0) (pa_cons (pv 1) pa_nil))) (pa_cons (pe_tup (pa_cons (pv 2) (pa_cons (pv 3) pa_nil))) pa_nil))))) (pss_one (ps_ret pe_bl)) pss_nil)))
      (pss_one (ps_ret pe_bl))), ?_⟩
    refine ⟨2, rfl, by decide, by decide, for_range (lo := 0) (n := 2) (fun i σ H' => ∃ (x4 : Option V), σ = [some (.ref s), some (.ref dq), some u1, some u2, x4] ∧ Same H H') ⟨none, rfl, Same.refl _⟩ ?_ ?_⟩
    · rintro i σ H2 hi ⟨x4, rfl, s2⟩
      refine ⟨_, rfl, _, rfl, s, dq, o, rfl, hn, (fun H3 Q3 E3 s3 hh => hd H3 Q3 E3 (s2.trans s3) hh), fun H3 r hV s3 => ?_⟩
      refine ⟨_, rfl, _, rfl, by show 2 ≤ sizeLine; decide, fun p np => ?_⟩
      have s4 := same_upd (o := .tup [u1, u2]) np
      have S4 := s2.trans (s3.trans s4)
      refine ⟨.ref r, .ref p, _, rfl, dq_same s4 hV.dq, .tup sqt_upd (.cons (dq_same S4 g1) (.cons (dq_same S4 g2) .nil)), hp, fun H5 s5 => ⟨_, rfl, iteF ?_⟩⟩
      exact ⟨_, rfl, S4.trans s5⟩
    · rintro σ H2 ⟨x4, rfl, s2⟩
      exact q _ s2
end
end B

namespace B
open PySem PySem.Spec PyProof.Rows L2

def sp_l_refused_so (K : PySem.W.Frag) : Sp := fun vs H Q _ => ∃ (s dq a : Addr) (u : V) (o : Wh) (ds : List (Str × Bool)) (vs0 : List V), vs = [.ref s, .ref dq, .ref a, u] ∧ H a = some (.lst vs0) ∧ F2 (DueAt K H) vs0 ds ∧ ds.length ≤ 10 ∧ (∀ nm, o = .inl nm → nm = "NoHolder" ∨ nm = "NoBet" ∨ nm = "NoStake" ∨ nm = "NoTicket" ∨ nm = "TooMany" ∨ nm = "NoCover") ∧ (∀ H' Q' E', Same H H' → OutG K o H' Q' E' → sp_done K [.ref s, .ref dq] H' Q' E') ∧ (dueL ds).head? = whN o ∧ (∀ x, o = .inr x → (u = .non ∨ (∃ m : Int, u = .int m ∧ x.1 = .int m))) ∧ ∀ H', Same H H' → Q (.bl true) H'

section
variable {P : Program} {w : World} {K : PySem.W.Frag} {mg : Str → Option Value} {base : Heap}
theorem ok_l_refused_so (T : Tx K mg w) (U : Unl P base) : FnOk P w K mg base CX0 48 T.l_refused_so.f T.l_refused_so.fd ["_law_stand", "_law_deed", "_law_dues", "_law_number"] (sp_l_refused_so K) := by
  refine T.l_refused_so.F.ok sc_l_refused_so (fun vs H Q E h => ?_) (fun cdv A outer s H vs Q E hr h => ?_)
  · obtain ⟨s, dq, a, u, o, ds, vs0, rfl, hA, fA, l10, hn, hd, hw, hu, q⟩ := h
    rfl
  · obtain ⟨s, dq, a, u, o, ds, vs0, rfl, hA, fA, l10, hn, hd, hw, hu, q⟩ := h
    refine ⟨_, (pss_cons (ps_setLc (i := 6) (own := [("_law_word", 4), ("_law_is_due", 5)]) (g := (gTup K 2 (gCons (gName 4) (gCons (gName 5) gNil)))) rfl sc_l_refused_so.nd rfl rfl (sw_true rfl rfl rfl (by decide +kernel)) (pi_list (pv 2)) (blkOk_by (own := [("_law_word", 4), ("_law_is_due", 5)]) (N := N_l_refused_so) (sc := defScope s_l_refused_so) (by decide +kernel)) (fun _ _ _ _ _ => (pg_tup rfl (pgs_cons (pg_name (i := 4) sc_l_refused_so.nd rfl (.inl rfl)) (pgs_cons (pg_name (i := 5) sc_l_refused_so.nd rfl (.inl rfl)) pgs_nil)))) (fun _ _ _ _ _ => (pts_one (pt_val (pv 5)))) (fun _ _ _ _ _ => (pv 4)))
      (pss_cons (ps_if (pt_cmpR (op_neL0 hr.units) (pv 6) (pe_lst pa_nil) (nomark _)) (pss_one (ps_ret (pe_call (ok_l_is T U) (hr.mono (by decide)) (by rfl) T.l_is.g T.l_is.F.kp T.l_is.b .nil pass0 (pa_cons (pv 0) (pa_cons (pv 1) (pa_cons (pe_ix ix_list (pv 6) pe_int (fun _ _ => rfl)) (pa_cons pe_non pa_nil))))))) pss_nil)
      (pss_cons (ps_asg (pe_call (ok_l_done T U) (hr.mono (by decide)) (by rfl) T.l_done.g T.l_done.F.kp T.l_done.b .nil pass0 (pa_cons (pv 0) (pa_cons (pv 1) pa_nil))) (pg_tup rfl (pgs_cons (pg_name (i := 7) sc_l_refused_so.nd rfl (.inl rfl)) (pgs_cons (pg_name (i := 8) sc_l_refused_so.nd rfl (.inl rfl)) pgs_nil))))
      (pss_one (ps_ret (pe_and (pe_cmpR op_notN (pv 8) pe_non (nomark _)) (pe_one (pe_or (pe_cmpR op_isN (pv 3) pe_non (nomark _)) (pe_one (pe_call (ok_l_just T U) (hr.mono (by decide)) (by rfl) T.l_just.g T.l_just.F.kp T.l_just.b .nil pass0 (pa_cons (pv 7) (pa_cons (pv 3) pa_nil)))))))))))), ?_⟩
    have lA := fA.len
    refine ⟨_, rfl, a, rfl, ⟨_, .inl (.inl hA)⟩, fun D nD => ?_⟩
    refine lcp_list (K := K) (xs := vs0) (R := fun _ v (z : Str) => v = .str z) (IR := DueAt K H) ds (fun x => if x.2 = true then some x.1 else none) (fun _ _ _ _ _ h => h) fA nD hA (Nat.lt_of_le_of_lt (show vs0.length ≤ 10 by omega) (by decide)) ?_ ?_
    · rintro v x H2 ⟨tq, rfl, tt⟩ _ s2 Y N hY hN
      refine ⟨tq, _, rfl, Same.tup s2 tt, rfl, _, _, rfl, _, _, rfl, rfl, ?_⟩
      refine ⟨rfl, _, rfl, _, rfl, ?_⟩
      cases e : x.2 with
      | true => exact ⟨_, rfl, hY _ _ _ (Same.refl _) (if_pos e) rfl⟩
      | false => exact hN _ (Same.refl _) (if_neg (by rw [e]; decide))
    intro H2 ys h2 f2 s2
    refine ⟨_, rfl, by decide, fun E nE => ?_⟩
    have s3 := same_upd (o := .lst []) nE
    refine ⟨D, E, ys, rfl, rfl, .inl (.inl (s3 _ _ h2)), sql_upd, _, rfl, ?_⟩
    have hs : Same H (tgt s3) := s2.trans s3
    have f2 : F2 (fun v (z : Str) => v = .str z) ys (dueL ds) := f2
    cases o with
    | inl nm =>
      obtain ⟨y, ys', e⟩ : ∃ y ys', dueL ds = y :: ys' := by
        cases h : dueL ds with
        | nil => rw [h] at hw; cases hw
        | cons y ys' => exact ⟨y, ys', rfl⟩
      rw [e] at hw f2
      have ey : y = nm := Option.some.inj hw
      subst ey
      cases f2 with
      | cons ha hb =>
      subst ha
      refine iteT ⟨_, rfl, _, rfl, _, rfl, D, _, 0, .str y, rfl, rfl, .inl (.inl (s3 _ _ h2)), atI_nat (j := 0) rfl, s, dq, .str y, .non, .inl y, rfl, hn, (fun H' Q' E' s' hh => hd H' Q' E' (hs.trans s') hh), .str _, .non, rfl, fun H4 s4 => q _ (hs.trans s4)⟩
    | inr x =>
      have e : dueL ds = [] := by
        cases h : dueL ds with
        | nil => rfl
        | cons y ys' => rw [h] at hw; cases hw
      rw [e] at f2
      cases f2
      refine iteF ⟨_, rfl, _, rfl, s, dq, .inr x, rfl, hn, (fun H' Q' E' s' hh => hd H' Q' E' (hs.trans s') hh), fun H4 r hV s4 => ?_⟩
      obtain ⟨u', sp, tr, hu', hS'⟩ := hV
      refine ⟨r, _, rfl, tr, rfl, _, _, rfl, _, _, rfl, rfl, ?_⟩
      refine ⟨_, rfl, rfl, _, rfl, iteK (by rw [decide_eq_false (fun z : V.ref sp = V.non => nomatch z)]; rfl) ?_⟩
      rcases hu x rfl with rfl | ⟨m, rfl, ex⟩
      · refine ⟨_, rfl, rfl, _, rfl, ?_⟩
        exact iteK (decide_eq_true rfl) (q _ (hs.trans s4))
      · refine ⟨_, rfl, rfl, _, rfl, ?_⟩
        exact iteE (decide_eq_false nofun) ⟨_, rfl, _, rfl, u', .int m, .int m, rfl, by rw [← ex]; exact hu', .int _, rfl, fun H5 s5 => q _ (hs.trans (s4.trans s5))⟩
end
end B

namespace B
open PySem PySem.Spec PyProof.Rows L2

def sp_law (K : PySem.W.Frag) : Sp := fun vs H Q _ => ∃ (a : Addr) (ns : List Int), vs = [.ref a] ∧ SqL K H a (ns.map V.int) ∧ ns.length ≤ 63 ∧ (∀ z ∈ ns, Builtin.Int.intBits z ≤ 1048576) ∧ ∀ H', Q (.bl true) H'

section
variable {P : Program} {w : World} {K : PySem.W.Frag} {mg : Str → Option Value} {base : Heap}
theorem ok_law (T : Tx K mg w) (U : Unl P base) : FnOk P w K mg base CX0 49 T.law.f T.law.fd ["_law_script"] (sp_law K) := by
  refine T.law.F.ok sc_law (fun vs H Q E h => ?_) (fun cdv A outer s H vs Q E hr h => ?_)
  · obtain ⟨a, ns, rfl, hS, hlen, _, q⟩ := h
    rfl
  · obtain ⟨a, ns, rfl, hS, hlen, _, q⟩ := h
    refine ⟨_, (pss_cons (ps_set (i := 1) sc_law.nd rfl (.inl rfl) (pe_call (ok_l_draws T U) (hr.mono (by decide)) (by rfl) T.l_draws.g T.l_draws.F.kp T.l_draws.b .nil pass0 (pa_cons (pv 0) pa_nil)))
      (pss_cons (ps_set (i := 2) sc_law.nd rfl (.inl rfl) (pe_call (ok_l_bare_stand T U) (hr.mono (by decide)) (by rfl) T.l_bare_stand.g T.l_bare_stand.F.kp T.l_bare_stand.b .nil pass0 (pa_cons (pv 1) (pa_cons pe_int pa_nil))))
      (pss_mid (ps_if (pt_cmpR op_eq (pe_call (ok_l_next T U) (hr.mono (by decide)) (by rfl) T.l_next.g T.l_next.F.kp T.l_next.b .nil pass0 (pa_cons (pv 1) (pa_cons pe_int pa_nil))) pe_int (nomark _)) (pss_cons (ps_set (i := 3) sc_law.nd rfl (.inl rfl) (pe_call (ok_l_tickets T U) (hr.mono (by decide)) (by rfl) T.l_tickets.g T.l_tickets.F.kp T.l_tickets.b .nil pass0 (pa_cons (pv 1) (pa_cons (pe_ix ix_tup (pv 2) pe_int (fun _ _ => rfl)) (pa_cons (pe_callB call_len_seq (by rfl) T.m_len (by decide +kernel) (pa_cons (pe_ix ix_tup (pv 2) pe_int (fun _ _ => rfl)) pa_nil)) (pa_cons pe_int pa_nil))))))
      (pss_cons (ps_set (i := 4) sc_law.nd rfl (.inl rfl) (pe_call (ok_l_purses T U) (hr.mono (by decide)) (by rfl) T.l_purses.g T.l_purses.F.kp T.l_purses.b .nil pass0 (pa_cons (pv 1) (pa_cons (pe_ix ix_tup (pv 2) pe_int (fun _ _ => rfl)) (pa_cons (pe_callB call_len_seq (by rfl) T.m_len (by decide +kernel) (pa_cons (pe_ix ix_tup (pv 2) pe_int (fun _ _ => rfl)) pa_nil)) (pa_cons (pv 3) pa_nil))))))
      (pss_one (ps_set (i := 2) sc_law.nd rfl (.inl rfl) (pe_tup (pa_cons (pe_ix ix_tup (pv 2) pe_int (fun _ _ => rfl)) (pa_cons (pv 4) (pa_cons (pv 3) (pa_cons (pe_ix ix_tup (pv 2) pe_int (fun _ _ => rfl)) (pa_cons (pe_op op_add (pe_ix ix_tup (pe_ix ix_tup (pv 3) (pe_un un_neg pe_int) (fun _ _ => rfl)) pe_int (fun _ _ => rfl)) pe_int) pa_nil)))))))))) pss_nil)
      (pss_cons (ps_for PassesOwn.never rfl (pi_range1 (by rfl) T.m_range (pa_cons pe_int pa_nil)) (pg_name (i := 5) sc_law.nd rfl (.inl rfl))
      (pss_cons (ps_asg (pe_call (ok_l_dealt T U) (hr.mono (by decide)) (by rfl) T.l_dealt.g T.l_dealt.F.kp T.l_dealt.b .nil pass0 (pa_cons (pv 1) (pa_cons (pv 2) pa_nil))) (pg_tup rfl (pgs_cons (pg_name (i := 6) sc_law.nd rfl (.inl rfl)) (pgs_cons (pg_name (i := 7) sc_law.nd rfl (.inl rfl)) pgs_nil))))
      (pss_cons (ps_if (pt_not (pt_val (pe_call (ok_l_refused_so T U) (hr.mono (by decide)) (by rfl) T.l_refused_so.g T.l_refused_so.F.kp T.l_refused_so.b .nil pass0 (pa_cons (pv 2) (pa_cons (pv 6) (pa_cons (pv 7) (pa_cons (pe_ix ix_tup (pv 2) pe_int (fun _ _ => rfl)) pa_nil))))))) (pss_one (ps_ret pe_bl)) pss_nil)
      (pss_one (ps_if (pt_cmpR (op_neT0 hr.units) (pe_ix ix_tup (pv 2) pe_int (fun _ _ => rfl)) (pe_tup pa_nil) (nomark _)) (pss_cons (ps_asg (pe_call (ok_l_moved T U) (hr.mono (by decide)) (by rfl) T.l_moved.g T.l_moved.F.kp T.l_moved.b .nil pass0 (pa_cons (pv 1) (pa_cons (pv 2) pa_nil))) (pg_tup rfl (pgs_cons (pg_name (i := 6) sc_law.nd rfl (.inl rfl)) (pgs_cons (pg_name (i := 7) sc_law.nd rfl (.inl rfl)) pgs_nil))))
      (pss_one (ps_if (pt_not (pt_val (pe_call (ok_l_refused_so T U) (hr.mono (by decide)) (by rfl) T.l_refused_so.g T.l_refused_so.F.kp T.l_refused_so.b .nil pass0 (pa_cons (pv 2) (pa_cons (pv 6) (pa_cons (pv 7) (pa_cons pe_non pa_nil))))))) (pss_one (ps_ret pe_bl)) pss_nil))) pss_nil)))))
      (pss_one (ps_ret pe_bl)))))), ?_⟩
    refine ⟨_, rfl, a, ns, rfl, hS, hlen, fun H1 d w1 _ _ _ => ?_⟩
    refine ⟨_, rfl, d, 2000, 3, rfl, by decide, w1.less (by decide), fun H3 st S hS3 hB3 hC3 nt3 hL3 hN3 w3 k3 => ?_⟩
    refine ⟨fun σ' H' => ∃ (st : Addr) (S : Std) (x3 x4 : Option V), σ' = [some (.ref a), some (.ref d.dr), some (.ref st), x3, x4, none, none, none] ∧ StdAt K H' st S ∧ StdB S 0 2520000000 ∧ StdN S ∧ S.ts.length ≤ 12 ∧ Ls 6 S.cs ∧ Drw H' d 1000, ?_, ?_⟩
    · refine ⟨_, rfl, d, 1999, 3, rfl, by decide, by decide, w3, fun H4 r r0 r1 w4 k4 => ?_⟩
      have T4 : Tk K H3 H4 := fun _ _ t => Kp.tup k4 w3 t
      have hS4 := hS3.mono T4
      by_cases c : r = 0
      · subst c
        refine ⟨rfl, _, rfl, iteK (decide_eq_true rfl) ?_⟩
        obtain ⟨h, pp, tt, l', pvs, tvs, lvs, tS, hH, tP, fP, tT, fT, tL, fL⟩ := id hS4
        have lP := fP.len
        have p2 := hB3.p2
        have p6 := hB3.p6
        have c1 := hL3.pos
        refine ⟨_, rfl, _, rfl, st, _, 0, .ref h, rfl, rfl, tS, atI_nat (j := 0) rfl, _, rfl, st, _, 1, .ref pp, rfl, rfl, tS, rfl, pp, pvs, rfl, .inr tP, d, 1600, pvs.length, 12, h, S.cs, S.rs, rfl, by omega, by omega, by decide, hH, hB3.h, c1, hB3.w, w4.less (by decide), fun H5 T' tvs5 tks tT5 fT5 hW hl w5 k5 => ?_⟩
        have T5 : Tk K H4 H5 := fun _ _ t => Kp.tup k5 w4 t
        refine ⟨_, rfl, _, rfl, st, _, 0, .ref h, rfl, rfl, T5 _ _ tS, atI_nat (j := 0) rfl, _, rfl, st, _, 1, .ref pp, rfl, rfl, T5 _ _ tS, rfl, pp, pvs, rfl, .inr (T5 _ _ tP), _, rfl, d, 1500, pvs.length, 120, h, T', tvs5, S.cs, S.rs, tks, rfl, by omega, hH.mono T5, hB3.h, hB3.w, tT5, fT5, hW, by omega, w5.less (by omega), fun H6 P6 pvs6 ps tP6 fP6 lp hP w6 k6 => ?_⟩
        have T56 : Tk K H5 H6 := fun _ _ t => Kp.tup k6 w5 t
        have T6 : Tk K H4 H6 := fun _ _ t => T56 _ _ (T5 _ _ t)
        obtain ⟨l, t, e⟩ : ∃ l t, tks = l ++ [t] := by
          rcases List.eq_nil_or_concat tks with e | ⟨l, t, e⟩
          · rw [e] at hl
            cases hl
          · exact ⟨l, t, by rw [e, List.concat_eq_append]⟩
        have lt5 := fT5.len
        have gl : tks[tks.length - 1]? = some t := by
          rw [e, List.length_append, List.length_singleton, Nat.add_sub_cancel, List.getElem?_append_right (Nat.le_refl _), Nat.sub_self]
          rfl
        obtain ⟨vl', hvl, hTl⟩ := (tks_tk fT5 T56).getB gl
        obtain ⟨tq', ba, pa, ka, rfl, t1, _⟩ := id hTl
        have hvm := (hW.w t (by rw [e]; simp)).2.2.2.2.1
        refine ⟨_, rfl, st, _, 0, .ref h, rfl, rfl, T6 _ _ tS, atI_nat (j := 0) rfl, _, rfl, _, rfl, _, rfl, st, _, 3, .ref l', rfl, rfl, T6 _ _ tS, rfl, _, rfl, 1, rfl, T', tvs5, (-1), .ref tq', rfl, rfl, T56 _ _ tT5, atI_end (k := tks.length - 1) (by omega) hvl, tq', _, 0, .int t.n, rfl, rfl, t1, rfl, _, _, rfl, rfl, by show 5 ≤ sizeLine; decide, fun a9 n9 => ?_⟩
        have s9 := same_upd (o := .tup [.ref h, .ref P6, .ref T', .ref l', .int ((t.n : Int) + 1)]) n9
        have U9 : Tk K H6 (tgt s9) := Same.tk s9
        have T9 : Tk K H4 (tgt s9) := fun _ _ t => U9 _ _ (T6 _ _ t)
        have eM : ((t.n : Int) + 1) = ((t.n + 1 : Nat) : Int) := rfl
        refine ⟨a9, ⟨S.cs, S.rs, ps, tks, S.bs, t.n + 1⟩, _, _, rfl, ⟨h, P6, T', l', pvs6, tvs5, lvs, sqt_upd, hH.mono T9, U9 _ _ tP6, fas_tk fP6 U9, U9 _ _ (T56 _ _ tT5), tks_tk fT5 (fun _ _ t => U9 _ _ (T56 _ _ t)), T9 _ _ tL, fL.imp fun _ _ x => x.mono T9⟩, ⟨hB3.h, hB3.w, by show 2 ≤ ps.length; omega, by show ps.length ≤ 6; omega, fun t ht => ?_, by decide, by decide, fun v t ht => ((hW.w t ht).1.br v).up (Nat.dvd_refl _) (by decide), fun p hp => (hP.f p hp).up (Nat.dvd_refl _) (by decide), by show tks.length ≤ 13; omega, by show S.bs.length = ps.length; rw [hB3.b]; omega, hB3.bl⟩, ⟨hW.r, fun y hy => ⟨?_, (hW.w y hy).2.2.2.1⟩⟩, by show tks.length ≤ 12; omega, hL3, (w6.same s9).less (by decide)⟩
        · obtain ⟨y1, y2, y3, _⟩ := hW.w t ht
          exact ⟨y1.ok, by show t.l < ps.length; omega, by show t.s < ps.length; omega⟩
        · show y.n < t.n + 1
          have hr := hW.r
          rw [e] at hr
          have hy : y ∈ tks := hy
          rw [e] at hy
          rcases List.mem_append.mp hy with z | z
          · have := (List.pairwise_append.mp hr).2.2 y z t (by simp)
            omega
          · rw [List.mem_singleton.mp z]
            omega
      · refine ⟨rfl, _, rfl, iteE (decide_eq_false fun e => c (V.int.inj e)) ?_⟩
        exact ⟨st, S, _, _, rfl, hS4, hB3, hN3, nt3, hL3, w4.less (by decide)⟩
    rintro σ H5 ⟨st, S, y3, y4, rfl, hS5, hB, hN, n12, hL, w5⟩
    refine ⟨4, rfl, by decide, by decide, for_range (lo := 0) (n := 4) (fun i σ H' => ∃ (x3 x4 x5 x6 x7 : Option V), σ = [some (.ref a), some (.ref d.dr), some (.ref st), x3, x4, x5, x6, x7] ∧ StdAt K H' st S ∧ Drw H' d (1000 - 50 * i)) ⟨_, _, _, _, _, rfl, hS5, w5⟩ ?_ ?_⟩
    · rintro j σ H6 hj ⟨x3, x4, x5, x6, x7, rfl, hS6, w6⟩
      have hj : j < 4 := hj
      have p6 := hB.p6
      have hpz : ∀ p ∈ S.ps, Fok 100000 p := fun p hp => ((hB.pz p hp).fok (a := 32 + 180 * 0) (c := 61 + 110 * 0) hB.d0 hB.d (Nat.le_refl _)).up (by decide)
      refine ⟨_, rfl, _, rfl, d, 1000 - 50 * j - 21, st, S, 2520000000, rfl, hS6, hB, n12, hL, w6.less (by omega), fun H7 r dq A vs0 ds o tr hA fd l10 hQ hh w7 k7 => ?_⟩
      have hS7 := hS6.mono fun _ _ t => Kp.tup k7 w6 t
      obtain ⟨h, pp, tt, l', pvs, tvs, lvs, tS, hH, tP, fP, tT, fT, tL, fL⟩ := id hS7
      have lT := fT.len
      refine ⟨r, _, rfl, tr, rfl, _, _, rfl, _, _, rfl, rfl, ?_⟩
      have hnm : ∀ nm, o = .inl nm → _ := fun nm e => hQ.name e
      obtain ⟨v1, v2, v3, v4, v5, d1, d2, d3, d4, d5, o', D9, M9, td, h1, h2, h3, h4, h5, z3, hR, hO, eo⟩ := id hQ
      refine ⟨_, rfl, _, rfl, _, rfl, _, rfl, st, _, 4, .int S.m, rfl, rfl, tS, rfl, st, dq, A, .int S.m, o, ds, vs0, rfl, hA, fd, l10, hnm, (fun H' Q' E' s' hh => ⟨st, dq, "deal", [v1, v2, v3, v4, v5], rfl, Same.tup s' td, by simp, .inl ⟨rfl, fun H2 q' tq2 s'' => ⟨st, q', S, v1, v2, v3, v4, v5, d1, d2, d3, d4, d5, o', D9, M9, rfl, hS7.mono (Same.tk (s'.trans s'')), hB.h, by omega, tq2, th_same (s'.trans s'') h1, th_same (s'.trans s'') h2, th_same (s'.trans s'') h3, th_same (s'.trans s'') h4, th_same (s'.trans s'') h5, z3, hR.tk (Same.tk (s'.trans s'')), hO, OutR.of (by rw [← eo]; exact hh.same s'')⟩⟩⟩), hh, (fun x e => ?_), fun H8 s8 => ⟨_, rfl, iteF ?_⟩⟩
      · rw [eo] at e
        cases ew : wayO S o' with
        | inl y => rw [ew] at e; cases e
        | inr y =>
          rw [ew] at e
          injection e with e
          rw [← e]
          exact .inr ⟨S.m, rfl, rfl⟩
      have hS8 := hS7.mono (Same.tk s8)
      have w8 := w7.same s8
      refine ⟨_, rfl, st, _, 2, .ref tt, rfl, rfl, Same.tup s8 tS, rfl, by show 0 ≤ sizeLine; decide, fun e0 ne0 => ?_⟩
      have s9 := same_upd (o := .tup []) ne0
      have hS9 := hS8.mono (Same.tk s9)
      have w9 := w8.same s9
      refine ⟨tt, e0, tvs, rfl, rfl, Same.tup (s8.trans s9) tT, sqt_upd, _, rfl, ?_⟩
      cases e : tvs.isEmpty with
      | true =>
        refine iteF ?_
        exact ⟨_, _, _, _, _, rfl, hS9, w9.less (by omega)⟩
      | false =>
      have hne : S.ts ≠ [] := fun z => by
        rw [z] at lT
        have : tvs = [] := List.length_eq_zero_iff.mp lT
        rw [this] at e
        cases e
      refine iteT ⟨_, rfl, _, rfl, d, 1000 - 50 * j - 29, st, S, 2520000000, rfl, hS9, hB, hN, hne, w9.less (by omega), fun H10 r dq A vs0 ds o tr hA fd l10 hQ hh w10 k10 => ?_⟩
      have hS10 := hS9.mono fun _ _ t => Kp.tup k10 w9 t
      refine ⟨r, _, rfl, tr, rfl, _, _, rfl, _, _, rfl, rfl, ?_⟩
      have hnm : ∀ nm, o = .inl nm → _ := fun nm e => hQ.name e
      obtain ⟨v1, v2, v3, v4, d1, d2, d3, d4, td, h1, h2, h3, h4, hR⟩ := id hQ
      refine ⟨_, rfl, _, rfl, _, rfl, st, dq, A, .non, o, ds, vs0, rfl, hA, fd, l10, hnm, (fun H' Q' E' s' hh => ⟨st, dq, "hand", [v1, v2, v3, v4], rfl, Same.tup s' td, by simp, .inr ⟨rfl, fun H2 q' tq2 s'' => ⟨st, q', S, v1, v2, v3, v4, d1, d2, d3, d4, o, rfl, hS10.mono (Same.tk (s'.trans s'')), hpz, p6, by omega, hN, tq2, th_same (s'.trans s'') h1, th_same (s'.trans s'') h2, th_same (s'.trans s'') h3, th_same (s'.trans s'') h4, hR, hh.same s''⟩⟩⟩), hh, (fun x e => .inl rfl), fun H11 s11 => ⟨_, rfl, iteF ?_⟩⟩
      exact ⟨_, _, _, _, _, rfl, hS10.mono (Same.tk s11), (w10.same s11).less (by omega)⟩
    · rintro σ H5 _
      exact q _
end
end B
namespace B
open PySem PySem.Spec PyProof.Rows L2
theorem lt_end {l : PySem.W.OpenLaw} {w : World} {K : PySem.W.Frag} {h : Heap} {mg : Str → Option Value} {fa : Addr} (tree : l.prog.given.tree = none) (X : K.In h) (G : h.Ns mainGlobals mg) (hfa : mg "law" = some (.ref fa)) (cM : SaysM lt_fa lt_fn lt_lf lt_ts w K) :
    ∃ fd : FuncData, (∀ (s : Shared) (v : Value), BindsTo s fd ⟨[v], []⟩ [("_law_script", v)]) ∧ ∀ base : Heap, K.In base → base.Ns mainGlobals mg → base.NoSeer → FnG l.prog w K mg base 49 fa fd ["_law_script"] (sp_law K) := by
  have c := cM.l
  obtain ⟨fd0, D00⟩ := c.d.def_ 0 rfl
  have D0 : FunD K "is_number" "is_number" (defArgs s_is_number) (defBody s_is_number) (defScope s_is_number) [] [] (He.ga K "is_number") fd0 := D00
  have g0 := He.glo_ok X G (c.d.fact 0 (f := .glo "is_number") rfl)
  obtain ⟨T0, ef0, efd0⟩ := df_of (ps := ["thing"]) D0 g0 (fun _ _ _ _ _ _ us hl => match us, hl with | [_], _ => rfl)
  obtain ⟨fd1, D10⟩ := c.d.def_ 1 rfl
  have D1 : FunD K "is_row" "is_row" (defArgs s_is_row) (defBody s_is_row) (defScope s_is_row) [] [] (He.ga K "is_row") fd1 := D10
  have g1 := He.glo_ok X G (c.d.fact 1 (f := .glo "is_row") rfl)
  obtain ⟨T1, ef1, efd1⟩ := df_of (ps := ["thing", "least", "most"]) D1 g1 (fun _ _ _ _ _ _ us hl => match us, hl with | [_, _, _], _ => rfl)
  obtain ⟨fd2, D20⟩ := c.d.def_ 2 rfl
  have D2 : FunD K "common" "common" (defArgs s_common) (defBody s_common) (defScope s_common) [] [] (He.ga K "common") fd2 := D20
  have g2 := He.glo_ok X G (c.d.fact 2 (f := .glo "common") rfl)
  obtain ⟨T2, ef2, efd2⟩ := df_of (ps := ["one", "other"]) D2 g2 (fun _ _ _ _ _ _ us hl => match us, hl with | [_, _], _ => rfl)
  obtain ⟨fd3, D30⟩ := c.d.def_ 3 rfl
  have D3 : FunD K "plus" "plus" (defArgs s_plus) (defBody s_plus) (defScope s_plus) [] [] (He.ga K "plus") fd3 := D30
  have g3 := He.glo_ok X G (c.d.fact 3 (f := .glo "plus") rfl)
  obtain ⟨T3, ef3, efd3⟩ := df_of (ps := ["one", "other"]) D3 g3 (fun _ _ _ _ _ _ us hl => match us, hl with | [_, _], _ => rfl)
  obtain ⟨fd4, D40⟩ := c.d.def_ 4 rfl
  have D4 : FunD K "times" "times" (defArgs s_times) (defBody s_times) (defScope s_times) [] [] (He.ga K "times") fd4 := D40
  have g4 := He.glo_ok X G (c.d.fact 4 (f := .glo "times") rfl)
  obtain ⟨T4, ef4, efd4⟩ := df_of (ps := ["one", "other"]) D4 g4 (fun _ _ _ _ _ _ us hl => match us, hl with | [_, _], _ => rfl)
  obtain ⟨fd5, D50⟩ := c.d.def_ 5 rfl
  have D5 : FunD K "turned_about" "turned_about" (defArgs s_turned_about) (defBody s_turned_about) (defScope s_turned_about) [] [] (He.ga K "turned_about") fd5 := D50
  have g5 := He.glo_ok X G (c.d.fact 5 (f := .glo "turned_about") rfl)
  obtain ⟨T5, ef5, efd5⟩ := df_of (ps := ["one"]) D5 g5 (fun _ _ _ _ _ _ us hl => match us, hl with | [_], _ => rfl)
  obtain ⟨fd6, D60⟩ := c.d.def_ 6 rfl
  have D6 : FunD K "minus" "minus" (defArgs s_minus) (defBody s_minus) (defScope s_minus) [] [] (He.ga K "minus") fd6 := D60
  have g6 := He.glo_ok X G (c.d.fact 6 (f := .glo "minus") rfl)
  obtain ⟨T6, ef6, efd6⟩ := df_of (ps := ["one", "other"]) D6 g6 (fun _ _ _ _ _ _ us hl => match us, hl with | [_, _], _ => rfl)
  obtain ⟨fd7, D70⟩ := c.d.def_ 7 rfl
  have D7 : FunD K "is_fraction" "is_fraction" (defArgs s_is_fraction) (defBody s_is_fraction) (defScope s_is_fraction) [] [] (He.ga K "is_fraction") fd7 := D70
  have g7 := He.glo_ok X G (c.d.fact 7 (f := .glo "is_fraction") rfl)
  obtain ⟨T7, ef7, efd7⟩ := df_of (ps := ["thing"]) D7 g7 (fun _ _ _ _ _ _ us hl => match us, hl with | [_], _ => rfl)
  obtain ⟨fd8, D80⟩ := c.d.def_ 8 rfl
  have D8 : FunD K "wanted" "wanted" (defArgs s_wanted) (defBody s_wanted) (defScope s_wanted) [] [] (He.ga K "wanted") fd8 := D80
  have g8 := He.glo_ok X G (c.d.fact 8 (f := .glo "wanted") rfl)
  obtain ⟨T8, ef8, efd8⟩ := df_of (ps := ["letters", "word"]) D8 g8 (fun _ _ _ _ _ _ us hl => match us, hl with | [_, _], _ => rfl)
  obtain ⟨fd9, D90⟩ := c.d.def_ 9 rfl
  have D9 : FunD K "is_saying" "is_saying" (defArgs s_is_saying) (defBody s_is_saying) (defScope s_is_saying) [] [] (He.ga K "is_saying") fd9 := D90
  have g9 := He.glo_ok X G (c.d.fact 9 (f := .glo "is_saying") rfl)
  obtain ⟨T9, ef9, efd9⟩ := df_of (ps := ["letters", "thing"]) D9 g9 (fun _ _ _ _ _ _ us hl => match us, hl with | [_, _], _ => rfl)
  obtain ⟨fd10, D100⟩ := c.d.def_ 10 rfl
  have D10 : FunD K "laid" "laid" (defArgs s_laid) (defBody s_laid) (defScope s_laid) [] [] (He.ga K "laid") fd10 := D100
  have g10 := He.glo_ok X G (c.d.fact 10 (f := .glo "laid") rfl)
  obtain ⟨T10, ef10, efd10⟩ := df_of (ps := ["letters", "word", "world"]) D10 g10 (fun _ _ _ _ _ _ us hl => match us, hl with | [_, _, _], _ => rfl)
  obtain ⟨fd11, D110⟩ := c.d.def_ 11 rfl
  have D11 : FunD K "joint" "joint" (defArgs s_joint) (defBody s_joint) (defScope s_joint) [] [] (He.ga K "joint") fd11 := D110
  have g11 := He.glo_ok X G (c.d.fact 11 (f := .glo "joint") rfl)
  obtain ⟨T11, ef11, efd11⟩ := df_of (ps := ["word", "one", "other"]) D11 g11 (fun _ _ _ _ _ _ us hl => match us, hl with | [_, _, _], _ => rfl)
  obtain ⟨fd12, D120⟩ := c.d.def_ 12 rfl
  have D12 : FunD K "holds" "holds" (defArgs s_holds) (defBody s_holds) (defScope s_holds) [] [] (He.ga K "holds") fd12 := D120
  have g12 := He.glo_ok X G (c.d.fact 12 (f := .glo "holds") rfl)
  obtain ⟨T12, ef12, efd12⟩ := df_of (ps := ["letters", "saying", "world"]) D12 g12 (fun _ _ _ _ _ _ us hl => match us, hl with | [_, _, _], _ => rfl)
  obtain ⟨fd13, D130⟩ := c.d.def_ 13 rfl
  have D13 : FunD K "is_term" "is_term" (defArgs s_is_term) (defBody s_is_term) (defScope s_is_term) [] [] (He.ga K "is_term") fd13 := D130
  have g13 := He.glo_ok X G (c.d.fact 13 (f := .glo "is_term") rfl)
  obtain ⟨T13, ef13, efd13⟩ := df_of (ps := ["letters", "thing"]) D13 g13 (fun _ _ _ _ _ _ us hl => match us, hl with | [_, _], _ => rfl)
  obtain ⟨fd14, D140⟩ := c.d.def_ 14 rfl
  have D14 : FunD K "is_bet" "is_bet" (defArgs s_is_bet) (defBody s_is_bet) (defScope s_is_bet) [] [] (He.ga K "is_bet") fd14 := D140
  have g14 := He.glo_ok X G (c.d.fact 14 (f := .glo "is_bet") rfl)
  obtain ⟨T14, ef14, efd14⟩ := df_of (ps := ["letters", "thing"]) D14 g14 (fun _ _ _ _ _ _ us hl => match us, hl with | [_, _], _ => rfl)
  obtain ⟨fd15, D150⟩ := c.d.def_ 15 rfl
  have D15 : FunD K "pays" "pays" (defArgs s_pays) (defBody s_pays) (defScope s_pays) [] [] (He.ga K "pays") fd15 := D150
  have g15 := He.glo_ok X G (c.d.fact 15 (f := .glo "pays") rfl)
  obtain ⟨T15, ef15, efd15⟩ := df_of (ps := ["letters", "bet", "world"]) D15 g15 (fun _ _ _ _ _ _ us hl => match us, hl with | [_, _, _], _ => rfl)
  obtain ⟨fd16, D160⟩ := c.d.def_ 16 rfl
  have D16 : FunD K "worlds_over" "worlds_over" (defArgs s_worlds_over) (defBody s_worlds_over) (defScope s_worlds_over) [] [] (He.ga K "worlds_over") fd16 := D160
  have g16 := He.glo_ok X G (c.d.fact 16 (f := .glo "worlds_over") rfl)
  obtain ⟨T16, ef16, efd16⟩ := df_of (ps := ["letters"]) D16 g16 (fun _ _ _ _ _ _ us hl => match us, hl with | [_], _ => rfl)
  obtain ⟨fd17, D170⟩ := c.d.def_ 17 rfl
  have D17 : FunD K "keeps" "keeps" (defArgs s_keeps) (defBody s_keeps) (defScope s_keeps) [] [] (He.ga K "keeps") fd17 := D170
  have g17 := He.glo_ok X G (c.d.fact 17 (f := .glo "keeps") rfl)
  obtain ⟨T17, ef17, efd17⟩ := df_of (ps := ["letters", "rules", "world"]) D17 g17 (fun _ _ _ _ _ _ us hl => match us, hl with | [_, _, _], _ => rfl)
  obtain ⟨fd18, D180⟩ := c.d.def_ 18 rfl
  have D18 : FunD K "worlds_of" "worlds_of" (defArgs s_worlds_of) (defBody s_worlds_of) (defScope s_worlds_of) [] [] (He.ga K "worlds_of") fd18 := D180
  have g18 := He.glo_ok X G (c.d.fact 18 (f := .glo "worlds_of") rfl)
  obtain ⟨T18, ef18, efd18⟩ := df_of (ps := ["house"]) D18 g18 (fun _ _ _ _ _ _ us hl => match us, hl with | [_], _ => rfl)
  obtain ⟨fd19, D190⟩ := c.d.def_ 19 rfl
  have D19 : FunD K "may_be" "may_be" (defArgs s_may_be) (defBody s_may_be) (defScope s_may_be) [] [] (He.ga K "may_be") fd19 := D190
  have g19 := He.glo_ok X G (c.d.fact 19 (f := .glo "may_be") rfl)
  obtain ⟨T19, ef19, efd19⟩ := df_of (ps := ["house", "saying"]) D19 g19 (fun _ _ _ _ _ _ us hl => match us, hl with | [_, _], _ => rfl)
  obtain ⟨fd20, D200⟩ := c.d.def_ 20 rfl
  have D20 : FunD K "is_place" "is_place" (defArgs s_is_place) (defBody s_is_place) (defScope s_is_place) [] [] (He.ga K "is_place") fd20 := D200
  have g20 := He.glo_ok X G (c.d.fact 20 (f := .glo "is_place") rfl)
  obtain ⟨T20, ef20, efd20⟩ := df_of (ps := ["many", "thing"]) D20 g20 (fun _ _ _ _ _ _ us hl => match us, hl with | [_, _], _ => rfl)
  obtain ⟨fd21, D210⟩ := c.d.def_ 21 rfl
  have D21 : FunD K "are_two" "are_two" (defArgs s_are_two) (defBody s_are_two) (defScope s_are_two) [] [] (He.ga K "are_two") fd21 := D210
  have g21 := He.glo_ok X G (c.d.fact 21 (f := .glo "are_two") rfl)
  obtain ⟨T21, ef21, efd21⟩ := df_of (ps := ["many", "one", "other"]) D21 g21 (fun _ _ _ _ _ _ us hl => match us, hl with | [_, _, _], _ => rfl)
  obtain ⟨fd22, D220⟩ := c.d.def_ 22 rfl
  have D22 : FunD K "is_above_zero" "is_above_zero" (defArgs s_is_above_zero) (defBody s_is_above_zero) (defScope s_is_above_zero) [] [] (He.ga K "is_above_zero") fd22 := D220
  have g22 := He.glo_ok X G (c.d.fact 22 (f := .glo "is_above_zero") rfl)
  obtain ⟨T22, ef22, efd22⟩ := df_of (ps := ["thing"]) D22 g22 (fun _ _ _ _ _ _ us hl => match us, hl with | [_], _ => rfl)
  obtain ⟨fd23, D230⟩ := c.d.def_ 23 rfl
  have D23 : FunD K "lives" "lives" (defArgs s_lives) (defBody s_lives) (defScope s_lives) [] [] (He.ga K "lives") fd23 := D230
  have g23 := He.glo_ok X G (c.d.fact 23 (f := .glo "lives") rfl)
  obtain ⟨T23, ef23, efd23⟩ := df_of (ps := ["house", "thing"]) D23 g23 (fun _ _ _ _ _ _ us hl => match us, hl with | [_, _], _ => rfl)
  obtain ⟨fd24, D240⟩ := c.d.def_ 24 rfl
  have D24 : FunD K "brought" "brought" (defArgs s_brought) (defBody s_brought) (defScope s_brought) [] [] (He.ga K "brought") fd24 := D240
  have g24 := He.glo_ok X G (c.d.fact 24 (f := .glo "brought") rfl)
  obtain ⟨T24, ef24, efd24⟩ := df_of (ps := ["letters", "ticket", "world"]) D24 g24 (fun _ _ _ _ _ _ us hl => match us, hl with | [_, _, _], _ => rfl)
  obtain ⟨fd25, D250⟩ := c.d.def_ 25 rfl
  have D25 : FunD K "ticket_of" "ticket_of" (defArgs s_ticket_of) (defBody s_ticket_of) (defScope s_ticket_of) [] [] (He.ga K "ticket_of") fd25 := D250
  have g25 := He.glo_ok X G (c.d.fact 25 (f := .glo "ticket_of") rfl)
  obtain ⟨T25, ef25, efd25⟩ := df_of (ps := ["tickets", "number"]) D25 g25 (fun _ _ _ _ _ _ us hl => match us, hl with | [_, _], _ => rfl)
  obtain ⟨fd26, D260⟩ := c.d.def_ 26 rfl
  have D26 : FunD K "without" "without" (defArgs s_without) (defBody s_without) (defScope s_without) [] [] (He.ga K "without") fd26 := D260
  have g26 := He.glo_ok X G (c.d.fact 26 (f := .glo "without") rfl)
  obtain ⟨T26, ef26, efd26⟩ := df_of (ps := ["tickets", "gone"]) D26 g26 (fun _ _ _ _ _ _ us hl => match us, hl with | [_, _], _ => rfl)
  obtain ⟨fd27, D270⟩ := c.d.def_ 27 rfl
  have D27 : FunD K "exchanged" "exchanged" (defArgs s_exchanged) (defBody s_exchanged) (defScope s_exchanged) [] [] (He.ga K "exchanged") fd27 := D270
  have g27 := He.glo_ok X G (c.d.fact 27 (f := .glo "exchanged") rfl)
  obtain ⟨T27, ef27, efd27⟩ := df_of (ps := ["tickets", "new"]) D27 g27 (fun _ _ _ _ _ _ us hl => match us, hl with | [_, _], _ => rfl)
  obtain ⟨fd28, D280⟩ := c.d.def_ 28 rfl
  have D28 : FunD K "worths_at" "worths_at" (defArgs s_worths_at) (defBody s_worths_at) (defScope s_worths_at) [] [] (He.ga K "worths_at") fd28 := D280
  have g28 := He.glo_ok X G (c.d.fact 28 (f := .glo "worths_at") rfl)
  obtain ⟨T28, ef28, efd28⟩ := df_of (ps := ["letters", "purses", "tickets", "world"]) D28 g28 (fun _ _ _ _ _ _ us hl => match us, hl with | [_, _, _, _], _ => rfl)
  obtain ⟨fd29, D290⟩ := c.d.def_ 29 rfl
  have D29 : FunD K "covered" "covered" (defArgs s_covered) (defBody s_covered) (defScope s_covered) [] [] (He.ga K "covered") fd29 := D290
  have g29 := He.glo_ok X G (c.d.fact 29 (f := .glo "covered") rfl)
  obtain ⟨T29, ef29, efd29⟩ := df_of (ps := ["house", "purses", "tickets"]) D29 g29 (fun _ _ _ _ _ _ us hl => match us, hl with | [_, _, _], _ => rfl)
  obtain ⟨fd30, D300⟩ := c.d.def_ 30 rfl
  have D30 : FunD K "sure" "sure" (defArgs s_sure) (defBody s_sure) (defScope s_sure) [] [] (He.ga K "sure") fd30 := D300
  have g30 := He.glo_ok X G (c.d.fact 30 (f := .glo "sure") rfl)
  obtain ⟨T30, ef30, efd30⟩ := df_of (ps := ["stand"]) D30 g30 (fun _ _ _ _ _ _ us hl => match us, hl with | [_], _ => rfl)
  obtain ⟨fd31, D310⟩ := c.d.def_ 31 rfl
  have D31 : FunD K "few_enough" "few_enough" (defArgs s_few_enough) (defBody s_few_enough) (defScope s_few_enough) [] [] (He.ga K "few_enough") fd31 := D310
  have g31 := He.glo_ok X G (c.d.fact 31 (f := .glo "few_enough") rfl)
  obtain ⟨T31, ef31, efd31⟩ := df_of (ps := ["tickets"]) D31 g31 (fun _ _ _ _ _ _ us hl => match us, hl with | [_], _ => rfl)
  obtain ⟨fd32, D320⟩ := c.d.def_ 32 rfl
  have D32 : FunD K "standing" "standing" (defArgs s_standing) (defBody s_standing) (defScope s_standing) [] [] (He.ga K "standing") fd32 := D320
  have g32 := He.glo_ok X G (c.d.fact 32 (f := .glo "standing") rfl)
  obtain ⟨T32, ef32, efd32⟩ := df_of (ps := ["stand", "number"]) D32 g32 (fun _ _ _ _ _ _ us hl => match us, hl with | [_, _], _ => rfl)
  obtain ⟨fd33, D330⟩ := c.d.def_ 33 rfl
  have D33 : FunD K "moved" "moved" (defArgs s_moved) (defBody s_moved) (defScope s_moved) [] [] (He.ga K "moved") fd33 := D330
  have g33 := He.glo_ok X G (c.d.fact 33 (f := .glo "moved") rfl)
  obtain ⟨T33, ef33, efd33⟩ := df_of (ps := ["purses", "giver", "taker", "amount"]) D33 g33 (fun _ _ _ _ _ _ us hl => match us, hl with | [_, _, _, _], _ => rfl)
  obtain ⟨fd34, D340⟩ := c.d.def_ 34 rfl
  have D34 : FunD K "with_ticket" "with_ticket" (defArgs s_with_ticket) (defBody s_with_ticket) (defScope s_with_ticket) [] [] (He.ga K "with_ticket") fd34 := D340
  have g34 := He.glo_ok X G (c.d.fact 34 (f := .glo "with_ticket") rfl)
  obtain ⟨T34, ef34, efd34⟩ := df_of (ps := ["stand", "long", "short", "bet", "price", "stake"]) D34 g34 (fun _ _ _ _ _ _ us hl => match us, hl with | [_, _, _, _, _, _], _ => rfl)
  obtain ⟨fd35, D350⟩ := c.d.def_ 35 rfl
  have D35 : FunD K "dealt" "dealt" (defArgs s_dealt) (defBody s_dealt) (defScope s_dealt) [] [] (He.ga K "dealt") fd35 := D350
  have g35 := He.glo_ok X G (c.d.fact 35 (f := .glo "dealt") rfl)
  obtain ⟨T35, ef35, efd35⟩ := df_of (ps := ["stand", "parts"]) D35 g35 (fun _ _ _ _ _ _ us hl => match us, hl with | [_, _], _ => rfl)
  obtain ⟨fd36, D360⟩ := c.d.def_ 36 rfl
  have D36 : FunD K "parted" "parted" (defArgs s_parted) (defBody s_parted) (defScope s_parted) [] [] (He.ga K "parted") fd36 := D360
  have g36 := He.glo_ok X G (c.d.fact 36 (f := .glo "parted") rfl)
  obtain ⟨T36, ef36, efd36⟩ := df_of (ps := ["stand", "parts"]) D36 g36 (fun _ _ _ _ _ _ us hl => match us, hl with | [_, _], _ => rfl)
  obtain ⟨fd37, D370⟩ := c.d.def_ 37 rfl
  have D37 : FunD K "passed_on" "passed_on" (defArgs s_passed_on) (defBody s_passed_on) (defScope s_passed_on) [] [] (He.ga K "passed_on") fd37 := D370
  have g37 := He.glo_ok X G (c.d.fact 37 (f := .glo "passed_on") rfl)
  obtain ⟨T37, ef37, efd37⟩ := df_of (ps := ["tickets", "ticket", "holder", "to"]) D37 g37 (fun _ _ _ _ _ _ us hl => match us, hl with | [_, _, _, _], _ => rfl)
  obtain ⟨fd38, D380⟩ := c.d.def_ 38 rfl
  have D38 : FunD K "handed" "handed" (defArgs s_handed) (defBody s_handed) (defScope s_handed) [] [] (He.ga K "handed") fd38 := D380
  have g38 := He.glo_ok X G (c.d.fact 38 (f := .glo "handed") rfl)
  obtain ⟨T38, ef38, efd38⟩ := df_of (ps := ["stand", "parts"]) D38 g38 (fun _ _ _ _ _ _ us hl => match us, hl with | [_, _], _ => rfl)
  obtain ⟨fd39, D390⟩ := c.d.def_ 39 rfl
  have D39 : FunD K "netted" "netted" (defArgs s_netted) (defBody s_netted) (defScope s_netted) [] [] (He.ga K "netted") fd39 := D390
  have g39 := He.glo_ok X G (c.d.fact 39 (f := .glo "netted") rfl)
  obtain ⟨T39, ef39, efd39⟩ := df_of (ps := ["stand", "parts"]) D39 g39 (fun _ _ _ _ _ _ us hl => match us, hl with | [_, _], _ => rfl)
  obtain ⟨fd40, D400⟩ := c.d.def_ 40 rfl
  have D40 : FunD K "cleared" "cleared" (defArgs s_cleared) (defBody s_cleared) (defScope s_cleared) [] [] (He.ga K "cleared") fd40 := D400
  have g40 := He.glo_ok X G (c.d.fact 40 (f := .glo "cleared") rfl)
  obtain ⟨T40, ef40, efd40⟩ := df_of (ps := ["stand", "parts"]) D40 g40 (fun _ _ _ _ _ _ us hl => match us, hl with | [_, _], _ => rfl)
  obtain ⟨fd41, D410⟩ := c.d.def_ 41 rfl
  have D41 : FunD K "posted" "posted" (defArgs s_posted) (defBody s_posted) (defScope s_posted) [] [] (He.ga K "posted") fd41 := D410
  have g41 := He.glo_ok X G (c.d.fact 41 (f := .glo "posted") rfl)
  obtain ⟨T41, ef41, efd41⟩ := df_of (ps := ["stand", "parts"]) D41 g41 (fun _ _ _ _ _ _ us hl => match us, hl with | [_, _], _ => rfl)
  obtain ⟨fd42, D420⟩ := c.d.def_ 42 rfl
  have D42 : FunD K "sold" "sold" (defArgs s_sold) (defBody s_sold) (defScope s_sold) [] [] (He.ga K "sold") fd42 := D420
  have g42 := He.glo_ok X G (c.d.fact 42 (f := .glo "sold") rfl)
  obtain ⟨T42, ef42, efd42⟩ := df_of (ps := ["stand", "parts"]) D42 g42 (fun _ _ _ _ _ _ us hl => match us, hl with | [_, _], _ => rfl)
  obtain ⟨fd43, D430⟩ := c.d.def_ 43 rfl
  have D43 : FunD K "heard" "heard" (defArgs s_heard) (defBody s_heard) (defScope s_heard) [] [] (He.ga K "heard") fd43 := D430
  have g43 := He.glo_ok X G (c.d.fact 43 (f := .glo "heard") rfl)
  obtain ⟨T43, ef43, efd43⟩ := df_of (ps := ["stand", "parts"]) D43 g43 (fun _ _ _ _ _ _ us hl => match us, hl with | [_, _], _ => rfl)
  obtain ⟨fd44, D440⟩ := c.d.def_ 44 rfl
  have D44 : FunD K "is_deed" "is_deed" (defArgs s_is_deed) (defBody s_is_deed) (defScope s_is_deed) [] [] (He.ga K "is_deed") fd44 := D440
  have g44 := He.glo_ok X G (c.d.fact 44 (f := .glo "is_deed") rfl)
  obtain ⟨T44, ef44, efd44⟩ := df_of (ps := ["thing"]) D44 g44 (fun _ _ _ _ _ _ us hl => match us, hl with | [_], _ => rfl)
  obtain ⟨fd45, D450⟩ := c.d.def_ 45 rfl
  have D45 : FunD K "done" "done" (defArgs s_done) (defBody s_done) (defScope s_done) [] [] (He.ga K "done") fd45 := D450
  have g45 := He.glo_ok X G (c.d.fact 45 (f := .glo "done") rfl)
  obtain ⟨T45, ef45, efd45⟩ := df_of (ps := ["stand", "deed"]) D45 g45 (fun _ _ _ _ _ _ us hl => match us, hl with | [_, _], _ => rfl)
  obtain ⟨fd46, D460⟩ := c.d.def_ 46 rfl
  have D46 : FunD K "_law_draws" "_law_draws" (defArgs s_l_draws) (defBody s_l_draws) (defScope s_l_draws) [] [] (He.ga K "_law_draws") fd46 := D460
  have g46 := He.glo_ok X G (c.d.fact 46 (f := .glo "_law_draws") rfl)
  obtain ⟨T46, ef46, efd46⟩ := df_of (ps := ["_law_script"]) D46 g46 (fun _ _ _ _ _ _ us hl => match us, hl with | [_], _ => rfl)
  obtain ⟨fd47, D470⟩ := c.d.def_ 47 rfl
  have D47 : FunD K "_law_next" "_law_next" (defArgs s_l_next) (defBody s_l_next) (defScope s_l_next) [] [] (He.ga K "_law_next") fd47 := D470
  have g47 := He.glo_ok X G (c.d.fact 47 (f := .glo "_law_next") rfl)
  obtain ⟨T47, ef47, efd47⟩ := df_of (ps := ["_law_drawn", "_law_many"]) D47 g47 (fun _ _ _ _ _ _ us hl => match us, hl with | [_, _], _ => rfl)
  obtain ⟨fd48, D480⟩ := c.d.def_ 48 rfl
  have D48 : FunD K "_law_whole" "_law_whole" (defArgs s_l_whole) (defBody s_l_whole) (defScope s_l_whole) [] [] (He.ga K "_law_whole") fd48 := D480
  have g48 := He.glo_ok X G (c.d.fact 48 (f := .glo "_law_whole") rfl)
  obtain ⟨T48, ef48, efd48⟩ := df_of (ps := ["_law_thing"]) D48 g48 (fun _ _ _ _ _ _ us hl => match us, hl with | [_], _ => rfl)
  obtain ⟨fd49, D490⟩ := c.d.def_ 49 rfl
  have D49 : FunD K "_law_lowest" "_law_lowest" (defArgs s_l_lowest) (defBody s_l_lowest) (defScope s_l_lowest) [] [] (He.ga K "_law_lowest") fd49 := D490
  have g49 := He.glo_ok X G (c.d.fact 49 (f := .glo "_law_lowest") rfl)
  obtain ⟨T49, ef49, efd49⟩ := df_of (ps := ["_law_top", "_law_bottom"]) D49 g49 (fun _ _ _ _ _ _ us hl => match us, hl with | [_, _], _ => rfl)
  obtain ⟨fd50, D500⟩ := c.d.def_ 50 rfl
  have D50 : FunD K "_law_plus" "_law_plus" (defArgs s_l_plus) (defBody s_l_plus) (defScope s_l_plus) [] [] (He.ga K "_law_plus") fd50 := D500
  have g50 := He.glo_ok X G (c.d.fact 50 (f := .glo "_law_plus") rfl)
  obtain ⟨T50, ef50, efd50⟩ := df_of (ps := ["_law_one", "_law_other"]) D50 g50 (fun _ _ _ _ _ _ us hl => match us, hl with | [_, _], _ => rfl)
  obtain ⟨fd51, D510⟩ := c.d.def_ 51 rfl
  have D51 : FunD K "_law_times" "_law_times" (defArgs s_l_times) (defBody s_l_times) (defScope s_l_times) [] [] (He.ga K "_law_times") fd51 := D510
  have g51 := He.glo_ok X G (c.d.fact 51 (f := .glo "_law_times") rfl)
  obtain ⟨T51, ef51, efd51⟩ := df_of (ps := ["_law_one", "_law_other"]) D51 g51 (fun _ _ _ _ _ _ us hl => match us, hl with | [_, _], _ => rfl)
  obtain ⟨fd52, D520⟩ := c.d.def_ 52 rfl
  have D52 : FunD K "_law_less" "_law_less" (defArgs s_l_less) (defBody s_l_less) (defScope s_l_less) [] [] (He.ga K "_law_less") fd52 := D520
  have g52 := He.glo_ok X G (c.d.fact 52 (f := .glo "_law_less") rfl)
  obtain ⟨T52, ef52, efd52⟩ := df_of (ps := ["_law_one", "_law_other"]) D52 g52 (fun _ _ _ _ _ _ us hl => match us, hl with | [_, _], _ => rfl)
  obtain ⟨fd53, D530⟩ := c.d.def_ 53 rfl
  have D53 : FunD K "_law_holds" "_law_holds" (defArgs s_l_holds) (defBody s_l_holds) (defScope s_l_holds) [] [] (He.ga K "_law_holds") fd53 := D530
  have g53 := He.glo_ok X G (c.d.fact 53 (f := .glo "_law_holds") rfl)
  obtain ⟨T53, ef53, efd53⟩ := df_of (ps := ["_law_letters", "_law_saying", "_law_world"]) D53 g53 (fun _ _ _ _ _ _ us hl => match us, hl with | [_, _, _], _ => rfl)
  obtain ⟨fd54, D540⟩ := c.d.def_ 54 rfl
  have D54 : FunD K "_law_worlds" "_law_worlds" (defArgs s_l_worlds) (defBody s_l_worlds) (defScope s_l_worlds) [] [] (He.ga K "_law_worlds") fd54 := D540
  have g54 := He.glo_ok X G (c.d.fact 54 (f := .glo "_law_worlds") rfl)
  obtain ⟨T54, ef54, efd54⟩ := df_of (ps := ["_law_house"]) D54 g54 (fun _ _ _ _ _ _ us hl => match us, hl with | [_], _ => rfl)
  obtain ⟨fd55, D550⟩ := c.d.def_ 55 rfl
  have D55 : FunD K "_law_paid" "_law_paid" (defArgs s_l_paid) (defBody s_l_paid) (defScope s_l_paid) [] [] (He.ga K "_law_paid") fd55 := D550
  have g55 := He.glo_ok X G (c.d.fact 55 (f := .glo "_law_paid") rfl)
  obtain ⟨T55, ef55, efd55⟩ := df_of (ps := ["_law_letters", "_law_bet", "_law_world"]) D55 g55 (fun _ _ _ _ _ _ us hl => match us, hl with | [_, _, _], _ => rfl)
  obtain ⟨fd56, D560⟩ := c.d.def_ 56 rfl
  have D56 : FunD K "_law_table" "_law_table" (defArgs s_l_table) (defBody s_l_table) (defScope s_l_table) [] [] (He.ga K "_law_table") fd56 := D560
  have g56 := He.glo_ok X G (c.d.fact 56 (f := .glo "_law_table") rfl)
  obtain ⟨T56, ef56, efd56⟩ := df_of (ps := ["_law_house", "_law_bet"]) D56 g56 (fun _ _ _ _ _ _ us hl => match us, hl with | [_, _], _ => rfl)
  obtain ⟨fd57, D570⟩ := c.d.def_ 57 rfl
  have D57 : FunD K "_law_turned" "_law_turned" (defArgs s_l_turned) (defBody s_l_turned) (defScope s_l_turned) [] [] (He.ga K "_law_turned") fd57 := D570
  have g57 := He.glo_ok X G (c.d.fact 57 (f := .glo "_law_turned") rfl)
  obtain ⟨T57, ef57, efd57⟩ := df_of (ps := ["_law_one"]) D57 g57 (fun _ _ _ _ _ _ us hl => match us, hl with | [_], _ => rfl)
  obtain ⟨fd58, D580⟩ := c.d.def_ 58 rfl
  have D58 : FunD K "_law_just" "_law_just" (defArgs s_l_just) (defBody s_l_just) (defScope s_l_just) [] [] (He.ga K "_law_just") fd58 := D580
  have g58 := He.glo_ok X G (c.d.fact 58 (f := .glo "_law_just") rfl)
  obtain ⟨T58, ef58, efd58⟩ := df_of (ps := ["_law_thing", "_law_due"]) D58 g58 (fun _ _ _ _ _ _ us hl => match us, hl with | [_, _], _ => rfl)
  obtain ⟨fd59, D590⟩ := c.d.def_ 59 rfl
  have D59 : FunD K "_law_brings" "_law_brings" (defArgs s_l_brings) (defBody s_l_brings) (defScope s_l_brings) [] [] (He.ga K "_law_brings") fd59 := D590
  have g59 := He.glo_ok X G (c.d.fact 59 (f := .glo "_law_brings") rfl)
  obtain ⟨T59, ef59, efd59⟩ := df_of (ps := ["_law_house", "_law_ticket_here"]) D59 g59 (fun _ _ _ _ _ _ us hl => match us, hl with | [_, _], _ => rfl)
  obtain ⟨fd60, D600⟩ := c.d.def_ 60 rfl
  have D60 : FunD K "_law_worths" "_law_worths" (defArgs s_l_worths) (defBody s_l_worths) (defScope s_l_worths) [] [] (He.ga K "_law_worths") fd60 := D600
  have g60 := He.glo_ok X G (c.d.fact 60 (f := .glo "_law_worths") rfl)
  obtain ⟨T60, ef60, efd60⟩ := df_of (ps := ["_law_stand"]) D60 g60 (fun _ _ _ _ _ _ us hl => match us, hl with | [_], _ => rfl)
  obtain ⟨fd61, D610⟩ := c.d.def_ 61 rfl
  have D61 : FunD K "_law_put" "_law_put" (defArgs s_l_put) (defBody s_l_put) (defScope s_l_put) [] [] (He.ga K "_law_put") fd61 := D610
  have g61 := He.glo_ok X G (c.d.fact 61 (f := .glo "_law_put") rfl)
  obtain ⟨T61, ef61, efd61⟩ := df_of (ps := ["_law_row", "_law_at", "_law_thing"]) D61 g61 (fun _ _ _ _ _ _ us hl => match us, hl with | [_, _, _], _ => rfl)
  obtain ⟨fd62, D620⟩ := c.d.def_ 62 rfl
  have D62 : FunD K "_law_no_fraction" "_law_no_fraction" (defArgs s_l_no_fraction) (defBody s_l_no_fraction) (defScope s_l_no_fraction) [] [] (He.ga K "_law_no_fraction") fd62 := D620
  have g62 := He.glo_ok X G (c.d.fact 62 (f := .glo "_law_no_fraction") rfl)
  obtain ⟨T62, ef62, efd62⟩ := df_of (ps := ["_law_drawn"]) D62 g62 (fun _ _ _ _ _ _ us hl => match us, hl with | [_], _ => rfl)
  obtain ⟨fd63, D630⟩ := c.d.def_ 63 rfl
  have D63 : FunD K "_law_covered" "_law_covered" (defArgs s_l_covered) (defBody s_l_covered) (defScope s_l_covered) [] [] (He.ga K "_law_covered") fd63 := D630
  have g63 := He.glo_ok X G (c.d.fact 63 (f := .glo "_law_covered") rfl)
  obtain ⟨T63, ef63, efd63⟩ := df_of (ps := ["_law_stand"]) D63 g63 (fun _ _ _ _ _ _ us hl => match us, hl with | [_], _ => rfl)
  obtain ⟨fd64, D640⟩ := c.d.def_ 64 rfl
  have D64 : FunD K "_law_least" "_law_least" (defArgs s_l_least) (defBody s_l_least) (defScope s_l_least) [] [] (He.ga K "_law_least") fd64 := D640
  have g64 := He.glo_ok X G (c.d.fact 64 (f := .glo "_law_least") rfl)
  obtain ⟨T64, ef64, efd64⟩ := df_of (ps := ["_law_row"]) D64 g64 (fun _ _ _ _ _ _ us hl => match us, hl with | [_], _ => rfl)
  obtain ⟨fd65, D650⟩ := c.d.def_ 65 rfl
  have D65 : FunD K "_law_stake" "_law_stake" (defArgs s_l_stake) (defBody s_l_stake) (defScope s_l_stake) [] [] (He.ga K "_law_stake") fd65 := D650
  have g65 := He.glo_ok X G (c.d.fact 65 (f := .glo "_law_stake") rfl)
  obtain ⟨T65, ef65, efd65⟩ := df_of (ps := ["_law_drawn"]) D65 g65 (fun _ _ _ _ _ _ us hl => match us, hl with | [_], _ => rfl)
  obtain ⟨fd66, D660⟩ := c.d.def_ 66 rfl
  have D66 : FunD K "_law_place" "_law_place" (defArgs s_l_place) (defBody s_l_place) (defScope s_l_place) [] [] (He.ga K "_law_place") fd66 := D660
  have g66 := He.glo_ok X G (c.d.fact 66 (f := .glo "_law_place") rfl)
  obtain ⟨T66, ef66, efd66⟩ := df_of (ps := ["_law_drawn"]) D66 g66 (fun _ _ _ _ _ _ us hl => match us, hl with | [_], _ => rfl)
  obtain ⟨fd67, D670⟩ := c.d.def_ 67 rfl
  have D67 : FunD K "_law_simple" "_law_simple" (defArgs s_l_simple) (defBody s_l_simple) (defScope s_l_simple) [] [] (He.ga K "_law_simple") fd67 := D670
  have g67 := He.glo_ok X G (c.d.fact 67 (f := .glo "_law_simple") rfl)
  obtain ⟨T67, ef67, efd67⟩ := df_of (ps := ["_law_drawn", "_law_letters"]) D67 g67 (fun _ _ _ _ _ _ us hl => match us, hl with | [_, _], _ => rfl)
  obtain ⟨fd68, D680⟩ := c.d.def_ 68 rfl
  have D68 : FunD K "_law_wager" "_law_wager" (defArgs s_l_wager) (defBody s_l_wager) (defScope s_l_wager) [] [] (He.ga K "_law_wager") fd68 := D680
  have g68 := He.glo_ok X G (c.d.fact 68 (f := .glo "_law_wager") rfl)
  obtain ⟨T68, ef68, efd68⟩ := df_of (ps := ["_law_drawn", "_law_house"]) D68 g68 (fun _ _ _ _ _ _ us hl => match us, hl with | [_, _], _ => rfl)
  obtain ⟨fd69, D690⟩ := c.d.def_ 69 rfl
  have D69 : FunD K "_law_cost" "_law_cost" (defArgs s_l_cost) (defBody s_l_cost) (defScope s_l_cost) [] [] (He.ga K "_law_cost") fd69 := D690
  have g69 := He.glo_ok X G (c.d.fact 69 (f := .glo "_law_cost") rfl)
  obtain ⟨T69, ef69, efd69⟩ := df_of (ps := ["_law_drawn", "_law_table_here"]) D69 g69 (fun _ _ _ _ _ _ us hl => match us, hl with | [_, _], _ => rfl)
  obtain ⟨fd70, D700⟩ := c.d.def_ 70 rfl
  have D70 : FunD K "_law_ticket" "_law_ticket" (defArgs s_l_ticket) (defBody s_l_ticket) (defScope s_l_ticket) [] [] (He.ga K "_law_ticket") fd70 := D700
  have g70 := He.glo_ok X G (c.d.fact 70 (f := .glo "_law_ticket") rfl)
  obtain ⟨T70, ef70, efd70⟩ := df_of (ps := ["_law_drawn", "_law_house", "_law_holders", "_law_number"]) D70 g70 (fun _ _ _ _ _ _ us hl => match us, hl with | [_, _, _, _], _ => rfl)
  obtain ⟨fd71, D710⟩ := c.d.def_ 71 rfl
  have D71 : FunD K "_law_tickets" "_law_tickets" (defArgs s_l_tickets) (defBody s_l_tickets) (defScope s_l_tickets) [] [] (He.ga K "_law_tickets") fd71 := D710
  have g71 := He.glo_ok X G (c.d.fact 71 (f := .glo "_law_tickets") rfl)
  obtain ⟨T71, ef71, efd71⟩ := df_of (ps := ["_law_drawn", "_law_house", "_law_holders", "_law_many"]) D71 g71 (fun _ _ _ _ _ _ us hl => match us, hl with | [_, _, _, _], _ => rfl)
  obtain ⟨fd72, D720⟩ := c.d.def_ 72 rfl
  have D72 : FunD K "_law_purses" "_law_purses" (defArgs s_l_purses) (defBody s_l_purses) (defScope s_l_purses) [] [] (He.ga K "_law_purses") fd72 := D720
  have g72 := He.glo_ok X G (c.d.fact 72 (f := .glo "_law_purses") rfl)
  obtain ⟨T72, ef72, efd72⟩ := df_of (ps := ["_law_drawn", "_law_house", "_law_holders", "_law_tickets_here"]) D72 g72 (fun _ _ _ _ _ _ us hl => match us, hl with | [_, _, _, _], _ => rfl)
  obtain ⟨fd73, D730⟩ := c.d.def_ 73 rfl
  have D73 : FunD K "_law_class" "_law_class" (defArgs s_l_class) (defBody s_l_class) (defScope s_l_class) [] [] (He.ga K "_law_class") fd73 := D730
  have g73 := He.glo_ok X G (c.d.fact 73 (f := .glo "_law_class") rfl)
  obtain ⟨T73, ef73, efd73⟩ := df_of (ps := ["_law_error"]) D73 g73 (fun _ _ _ _ _ _ us hl => match us, hl with | [_], _ => rfl)
  obtain ⟨fd74, D740⟩ := c.d.def_ 74 rfl
  have D74 : FunD K "_law_done" "_law_done" (defArgs s_l_done) (defBody s_l_done) (defScope s_l_done) [] [] (He.ga K "_law_done") fd74 := D740
  have g74 := He.glo_ok X G (c.d.fact 74 (f := .glo "_law_done") rfl)
  obtain ⟨T74, ef74, efd74⟩ := df_of (ps := ["_law_stand", "_law_deed"]) D74 g74 (fun _ _ _ _ _ _ us hl => match us, hl with | [_, _], _ => rfl)
  obtain ⟨fd75, D750⟩ := c.d.def_ 75 rfl
  have D75 : FunD K "_law_is" "_law_is" (defArgs s_l_is) (defBody s_l_is) (defScope s_l_is) [] [] (He.ga K "_law_is") fd75 := D750
  have g75 := He.glo_ok X G (c.d.fact 75 (f := .glo "_law_is") rfl)
  obtain ⟨T75, ef75, efd75⟩ := df_of (ps := ["_law_stand", "_law_deed", "_law_told", "_law_behind"]) D75 g75 (fun _ _ _ _ _ _ us hl => match us, hl with | [_, _, _, _], _ => rfl)
  obtain ⟨fd76, D760⟩ := c.d.def_ 76 rfl
  have D76 : FunD K "_law_two" "_law_two" (defArgs s_l_two) (defBody s_l_two) (defScope s_l_two) [] [] (He.ga K "_law_two") fd76 := D760
  have g76 := He.glo_ok X G (c.d.fact 76 (f := .glo "_law_two") rfl)
  obtain ⟨T76, ef76, efd76⟩ := df_of (ps := ["_law_drawn", "_law_holders"]) D76 g76 (fun _ _ _ _ _ _ us hl => match us, hl with | [_, _], _ => rfl)
  obtain ⟨fd77, D770⟩ := c.d.def_ 77 rfl
  have D77 : FunD K "_law_bare_stand" "_law_bare_stand" (defArgs s_l_bare_stand) (defBody s_l_bare_stand) (defScope s_l_bare_stand) [] [] (He.ga K "_law_bare_stand") fd77 := D770
  have g77 := He.glo_ok X G (c.d.fact 77 (f := .glo "_law_bare_stand") rfl)
  obtain ⟨T77, ef77, efd77⟩ := df_of (ps := ["_law_drawn", "_law_most"]) D77 g77 (fun _ _ _ _ _ _ us hl => match us, hl with | [_, _], _ => rfl)
  obtain ⟨fd78, D780⟩ := c.d.def_ 78 rfl
  have D78 : FunD K "_law_refused_so" "_law_refused_so" (defArgs s_l_refused_so) (defBody s_l_refused_so) (defScope s_l_refused_so) [] [] (He.ga K "_law_refused_so") fd78 := D780
  have g78 := He.glo_ok X G (c.d.fact 78 (f := .glo "_law_refused_so") rfl)
  obtain ⟨T78, ef78, efd78⟩ := df_of (ps := ["_law_stand", "_law_deed", "_law_dues", "_law_number"]) D78 g78 (fun _ _ _ _ _ _ us hl => match us, hl with | [_, _, _, _], _ => rfl)
  obtain ⟨fd79, D790⟩ := c.d.def_ 79 rfl
  have D79 : FunD K "_law_wrongs" "_law_wrongs" (defArgs s_l_wrongs) (defBody s_l_wrongs) (defScope s_l_wrongs) [] [] (He.ga K "_law_wrongs") fd79 := D790
  have g79 := He.glo_ok X G (c.d.fact 79 (f := .glo "_law_wrongs") rfl)
  obtain ⟨T79, ef79, efd79⟩ := df_of (ps := ["_law_drawn", "_law_many"]) D79 g79 (fun _ _ _ _ _ _ us hl => match us, hl with | [_, _], _ => rfl)
  obtain ⟨fd80, D800⟩ := c.d.def_ 80 rfl
  have D80 : FunD K "_law_bad" "_law_bad" (defArgs s_l_bad) (defBody s_l_bad) (defScope s_l_bad) [] [] (He.ga K "_law_bad") fd80 := D800
  have g80 := He.glo_ok X G (c.d.fact 80 (f := .glo "_law_bad") rfl)
  obtain ⟨T80, ef80, efd80⟩ := df_of (ps := ["_law_wrong", "_law_right", "_law_other"]) D80 g80 (fun _ _ _ _ _ _ us hl => match us, hl with | [_, _, _], _ => rfl)
  obtain ⟨fd81, D810⟩ := c.d.def_ 81 rfl
  have D81 : FunD K "_law_dealt" "_law_dealt" (defArgs s_l_dealt) (defBody s_l_dealt) (defScope s_l_dealt) [] [] (He.ga K "_law_dealt") fd81 := D810
  have g81 := He.glo_ok X G (c.d.fact 81 (f := .glo "_law_dealt") rfl)
  obtain ⟨T81, ef81, efd81⟩ := df_of (ps := ["_law_drawn", "_law_stand"]) D81 g81 (fun _ _ _ _ _ _ us hl => match us, hl with | [_, _], _ => rfl)
  obtain ⟨fd82, D820⟩ := c.d.def_ 82 rfl
  have D82 : FunD K "_law_moved" "_law_moved" (defArgs s_l_moved) (defBody s_l_moved) (defScope s_l_moved) [] [] (He.ga K "_law_moved") fd82 := D820
  have g82 := He.glo_ok X G (c.d.fact 82 (f := .glo "_law_moved") rfl)
  obtain ⟨T82, ef82, efd82⟩ := df_of (ps := ["_law_drawn", "_law_stand"]) D82 g82 (fun _ _ _ _ _ _ us hl => match us, hl with | [_, _], _ => rfl)
  obtain ⟨fd83, D830⟩ := c.d.def_ 83 rfl
  have D83 : FunD K "law" "law" (defArgs s_law) (defBody s_law) (defScope s_law) [] [] (He.ga K "law") fd83 := D830
  have g83 := He.glo_ok X G (c.d.fact 83 (f := .glo "law") rfl)
  obtain ⟨T83, ef83, efd83⟩ := df_of (ps := ["_law_script"]) D83 g83 (fun _ _ _ _ _ _ us hl => match us, hl with | [_], _ => rfl)
  obtain ⟨tc1, gc1⟩ := He.int_ok X G (c.d.fact 102 (f := .int "MOST_WORDS" 40) rfl)
  obtain ⟨tc3, gc3⟩ := He.int_ok X G (c.d.fact 104 (f := .int "MOST_TERMS" 8) rfl)
  obtain ⟨tc4, gc4⟩ := He.int_ok X G (c.d.fact 105 (f := .int "MOST_TICKETS" 12) rfl)
  have vt0 : ∀ p ∈ ([("deal", 5), ("split", 2), ("hand", 4), ("net", 2), ("clear", 1), ("post", 2), ("sell", 4), ("hear", 1)] : List (Str × Int)), ∃ u, PySem.W.nsIn K (He.ga K "PARTS") p.1 = some (some u) ∧ RelV (.int p.2) u := by
      intro p hp
      simp only [List.mem_cons, List.not_mem_nil, or_false] at hp
      rcases hp with rfl | rfl | rfl | rfl | rfl | rfl | rfl | rfl
      · exact tab_int (c.fact 2 (f := .tab "PARTS" [("deal", .int 5), ("split", .int 2), ("hand", .int 4), ("net", .int 2), ("clear", .int 1), ("post", .int 2), ("sell", .int 4), ("hear", .int 1)]) rfl) (List.mem_of_getElem? (i := 0) rfl)
      · exact tab_int (c.fact 2 (f := .tab "PARTS" [("deal", .int 5), ("split", .int 2), ("hand", .int 4), ("net", .int 2), ("clear", .int 1), ("post", .int 2), ("sell", .int 4), ("hear", .int 1)]) rfl) (List.mem_of_getElem? (i := 1) rfl)
      · exact tab_int (c.fact 2 (f := .tab "PARTS" [("deal", .int 5), ("split", .int 2), ("hand", .int 4), ("net", .int 2), ("clear", .int 1), ("post", .int 2), ("sell", .int 4), ("hear", .int 1)]) rfl) (List.mem_of_getElem? (i := 2) rfl)
      · exact tab_int (c.fact 2 (f := .tab "PARTS" [("deal", .int 5), ("split", .int 2), ("hand", .int 4), ("net", .int 2), ("clear", .int 1), ("post", .int 2), ("sell", .int 4), ("hear", .int 1)]) rfl) (List.mem_of_getElem? (i := 3) rfl)
      · exact tab_int (c.fact 2 (f := .tab "PARTS" [("deal", .int 5), ("split", .int 2), ("hand", .int 4), ("net", .int 2), ("clear", .int 1), ("post", .int 2), ("sell", .int 4), ("hear", .int 1)]) rfl) (List.mem_of_getElem? (i := 4) rfl)
      · exact tab_int (c.fact 2 (f := .tab "PARTS" [("deal", .int 5), ("split", .int 2), ("hand", .int 4), ("net", .int 2), ("clear", .int 1), ("post", .int 2), ("sell", .int 4), ("hear", .int 1)]) rfl) (List.mem_of_getElem? (i := 5) rfl)
      · exact tab_int (c.fact 2 (f := .tab "PARTS" [("deal", .int 5), ("split", .int 2), ("hand", .int 4), ("net", .int 2), ("clear", .int 1), ("post", .int 2), ("sell", .int 4), ("hear", .int 1)]) rfl) (List.mem_of_getElem? (i := 6) rfl)
      · exact tab_int (c.fact 2 (f := .tab "PARTS" [("deal", .int 5), ("split", .int 2), ("hand", .int 4), ("net", .int 2), ("clear", .int 1), ("post", .int 2), ("sell", .int 4), ("hear", .int 1)]) rfl) (List.mem_of_getElem? (i := 7) rfl)
  have vt1 : ∀ p ∈ ([("deal", T35.f), ("split", T36.f), ("hand", T38.f), ("net", T39.f), ("clear", T40.f), ("post", T41.f), ("sell", T42.f), ("hear", T43.f)] : List (Str × Addr)), ∃ u, PySem.W.nsIn K (He.ga K "ACTIONS") p.1 = some (some u) ∧ RelV (.ref p.2) u := by
      intro p hp
      simp only [List.mem_cons, List.not_mem_nil, or_false] at hp
      rcases hp with rfl | rfl | rfl | rfl | rfl | rfl | rfl | rfl
      · exact tab_ref (c.fact 3 (f := .tab "ACTIONS" [("deal", .glo "dealt"), ("split", .glo "parted"), ("hand", .glo "handed"), ("net", .glo "netted"), ("clear", .glo "cleared"), ("post", .glo "posted"), ("sell", .glo "sold"), ("hear", .glo "heard")]) rfl) (List.mem_of_getElem? (i := 0) rfl) ef35
      · exact tab_ref (c.fact 3 (f := .tab "ACTIONS" [("deal", .glo "dealt"), ("split", .glo "parted"), ("hand", .glo "handed"), ("net", .glo "netted"), ("clear", .glo "cleared"), ("post", .glo "posted"), ("sell", .glo "sold"), ("hear", .glo "heard")]) rfl) (List.mem_of_getElem? (i := 1) rfl) ef36
      · exact tab_ref (c.fact 3 (f := .tab "ACTIONS" [("deal", .glo "dealt"), ("split", .glo "parted"), ("hand", .glo "handed"), ("net", .glo "netted"), ("clear", .glo "cleared"), ("post", .glo "posted"), ("sell", .glo "sold"), ("hear", .glo "heard")]) rfl) (List.mem_of_getElem? (i := 2) rfl) ef38
      · exact tab_ref (c.fact 3 (f := .tab "ACTIONS" [("deal", .glo "dealt"), ("split", .glo "parted"), ("hand", .glo "handed"), ("net", .glo "netted"), ("clear", .glo "cleared"), ("post", .glo "posted"), ("sell", .glo "sold"), ("hear", .glo "heard")]) rfl) (List.mem_of_getElem? (i := 3) rfl) ef39
      · exact tab_ref (c.fact 3 (f := .tab "ACTIONS" [("deal", .glo "dealt"), ("split", .glo "parted"), ("hand", .glo "handed"), ("net", .glo "netted"), ("clear", .glo "cleared"), ("post", .glo "posted"), ("sell", .glo "sold"), ("hear", .glo "heard")]) rfl) (List.mem_of_getElem? (i := 4) rfl) ef40
      · exact tab_ref (c.fact 3 (f := .tab "ACTIONS" [("deal", .glo "dealt"), ("split", .glo "parted"), ("hand", .glo "handed"), ("net", .glo "netted"), ("clear", .glo "cleared"), ("post", .glo "posted"), ("sell", .glo "sold"), ("hear", .glo "heard")]) rfl) (List.mem_of_getElem? (i := 5) rfl) ef41
      · exact tab_ref (c.fact 3 (f := .tab "ACTIONS" [("deal", .glo "dealt"), ("split", .glo "parted"), ("hand", .glo "handed"), ("net", .glo "netted"), ("clear", .glo "cleared"), ("post", .glo "posted"), ("sell", .glo "sold"), ("hear", .glo "heard")]) rfl) (List.mem_of_getElem? (i := 6) rfl) ef42
      · exact tab_ref (c.fact 3 (f := .tab "ACTIONS" [("deal", .glo "dealt"), ("split", .glo "parted"), ("hand", .glo "handed"), ("net", .glo "netted"), ("clear", .glo "cleared"), ("post", .glo "posted"), ("sell", .glo "sold"), ("hear", .glo "heard")]) rfl) (List.mem_of_getElem? (i := 7) rfl) ef43
  obtain ⟨fe0, E0⟩ := c.d.def_ 84 (d := errD "StallError" "StallError.__init__" ⟨50, 17, 50, 21⟩ ⟨51, 8, 51, 12⟩ ⟨51, 8, 51, 18⟩ ⟨51, 21, 51, 33⟩ ⟨51, 8, 51, 33⟩) rfl
  obtain ⟨Y0, y0⟩ := err_mk X G (c.fact 4 (f := .err "StallError") rfl) E0
  obtain ⟨fe1, E1⟩ := c.d.def_ 85 (d := errD "TooLong" "TooLong.__init__" ⟨54, 17, 54, 21⟩ ⟨55, 8, 55, 12⟩ ⟨55, 8, 55, 18⟩ ⟨55, 21, 55, 30⟩ ⟨55, 8, 55, 30⟩) rfl
  obtain ⟨Y1, y1⟩ := err_mk X G (c.fact 5 (f := .err "TooLong") rfl) E1
  obtain ⟨fe2, E2⟩ := c.d.def_ 86 (d := errD "TooMany" "TooMany.__init__" ⟨58, 17, 58, 21⟩ ⟨59, 8, 59, 12⟩ ⟨59, 8, 59, 18⟩ ⟨59, 21, 59, 30⟩ ⟨59, 8, 59, 30⟩) rfl
  obtain ⟨Y2, y2⟩ := err_mk X G (c.fact 6 (f := .err "TooMany") rfl) E2
  obtain ⟨fe3, E3⟩ := c.d.def_ 87 (d := errD "NoWorld" "NoWorld.__init__" ⟨62, 17, 62, 21⟩ ⟨63, 8, 63, 12⟩ ⟨63, 8, 63, 18⟩ ⟨63, 21, 63, 30⟩ ⟨63, 8, 63, 30⟩) rfl
  obtain ⟨Y3, y3⟩ := err_mk X G (c.fact 7 (f := .err "NoWorld") rfl) E3
  obtain ⟨fe4, E4⟩ := c.d.def_ 88 (d := errD "NotAlike" "NotAlike.__init__" ⟨66, 17, 66, 21⟩ ⟨67, 8, 67, 12⟩ ⟨67, 8, 67, 18⟩ ⟨67, 21, 67, 31⟩ ⟨67, 8, 67, 31⟩) rfl
  obtain ⟨Y4, y4⟩ := err_mk X G (c.fact 8 (f := .err "NotAlike") rfl) E4
  obtain ⟨fe5, E5⟩ := c.d.def_ 89 (d := errD "Unfair" "Unfair.__init__" ⟨70, 17, 70, 21⟩ ⟨71, 8, 71, 12⟩ ⟨71, 8, 71, 18⟩ ⟨71, 21, 71, 29⟩ ⟨71, 8, 71, 29⟩) rfl
  obtain ⟨Y5, y5⟩ := err_mk X G (c.fact 9 (f := .err "Unfair") rfl) E5
  obtain ⟨fe6, E6⟩ := c.d.def_ 90 (d := errD "Fair" "Fair.__init__" ⟨74, 17, 74, 21⟩ ⟨75, 8, 75, 12⟩ ⟨75, 8, 75, 18⟩ ⟨75, 21, 75, 27⟩ ⟨75, 8, 75, 27⟩) rfl
  obtain ⟨Y6, y6⟩ := err_mk X G (c.fact 10 (f := .err "Fair") rfl) E6
  obtain ⟨fe7, E7⟩ := c.d.def_ 91 (d := errD "NoBet" "NoBet.__init__" ⟨78, 17, 78, 21⟩ ⟨79, 8, 79, 12⟩ ⟨79, 8, 79, 18⟩ ⟨79, 21, 79, 28⟩ ⟨79, 8, 79, 28⟩) rfl
  obtain ⟨Y7, y7⟩ := err_mk X G (c.fact 11 (f := .err "NoBet") rfl) E7
  obtain ⟨fe8, E8⟩ := c.d.def_ 92 (d := errD "NoHolder" "NoHolder.__init__" ⟨82, 17, 82, 21⟩ ⟨83, 8, 83, 12⟩ ⟨83, 8, 83, 18⟩ ⟨83, 21, 83, 31⟩ ⟨83, 8, 83, 31⟩) rfl
  obtain ⟨Y8, y8⟩ := err_mk X G (c.fact 12 (f := .err "NoHolder") rfl) E8
  obtain ⟨fe9, E9⟩ := c.d.def_ 93 (d := errD "NoStake" "NoStake.__init__" ⟨86, 17, 86, 21⟩ ⟨87, 8, 87, 12⟩ ⟨87, 8, 87, 18⟩ ⟨87, 21, 87, 30⟩ ⟨87, 8, 87, 30⟩) rfl
  obtain ⟨Y9, y9⟩ := err_mk X G (c.fact 13 (f := .err "NoStake") rfl) E9
  obtain ⟨fe10, E10⟩ := c.d.def_ 94 (d := errD "NoTicket" "NoTicket.__init__" ⟨90, 17, 90, 21⟩ ⟨91, 8, 91, 12⟩ ⟨91, 8, 91, 18⟩ ⟨91, 21, 91, 31⟩ ⟨91, 8, 91, 31⟩) rfl
  obtain ⟨Y10, y10⟩ := err_mk X G (c.fact 14 (f := .err "NoTicket") rfl) E10
  obtain ⟨fe11, E11⟩ := c.d.def_ 95 (d := errD "NoCover" "NoCover.__init__" ⟨94, 17, 94, 21⟩ ⟨95, 8, 95, 12⟩ ⟨95, 8, 95, 18⟩ ⟨95, 21, 95, 30⟩ ⟨95, 8, 95, 30⟩) rfl
  obtain ⟨Y11, y11⟩ := err_mk X G (c.fact 15 (f := .err "NoCover") rfl) E11
  obtain ⟨fe12, E12⟩ := c.d.def_ 96 (d := errD "NoSaying" "NoSaying.__init__" ⟨98, 17, 98, 21⟩ ⟨99, 8, 99, 12⟩ ⟨99, 8, 99, 18⟩ ⟨99, 21, 99, 31⟩ ⟨99, 8, 99, 31⟩) rfl
  obtain ⟨Y12, y12⟩ := err_mk X G (c.fact 16 (f := .err "NoSaying") rfl) E12
  obtain ⟨fe13, E13⟩ := c.d.def_ 97 (d := errD "NoDeed" "NoDeed.__init__" ⟨102, 17, 102, 21⟩ ⟨103, 8, 103, 12⟩ ⟨103, 8, 103, 18⟩ ⟨103, 21, 103, 29⟩ ⟨103, 8, 103, 29⟩) rfl
  obtain ⟨Y13, y13⟩ := err_mk X G (c.fact 17 (f := .err "NoDeed") rfl) E13
  obtain ⟨fe14, E14⟩ := c.d.def_ 98 (d := errD "NoStep" "NoStep.__init__" ⟨106, 17, 106, 21⟩ ⟨107, 8, 107, 12⟩ ⟨107, 8, 107, 18⟩ ⟨107, 21, 107, 29⟩ ⟨107, 8, 107, 29⟩) rfl
  obtain ⟨Y14, y14⟩ := err_mk X G (c.fact 18 (f := .err "NoStep") rfl) E14
  obtain ⟨fe15, E15⟩ := c.d.def_ 99 (d := errD "NoText" "NoText.__init__" ⟨110, 17, 110, 21⟩ ⟨111, 8, 111, 12⟩ ⟨111, 8, 111, 18⟩ ⟨111, 21, 111, 29⟩ ⟨111, 8, 111, 29⟩) rfl
  obtain ⟨Y15, y15⟩ := err_mk X G (c.fact 19 (f := .err "NoText") rfl) E15
  have e : fa = T83.f := by rw [ef83]; exact Value.ref.inj (Option.some.inj (hfa.symm.trans g83))
  subst e
  have b := FunD.bindsA (ps := ["_law_script"]) D83 fun _ _ _ _ _ _ us hl => match us, hl with | [_], _ => rfl
  refine ⟨T83.fd, fun s v => by rw [efd83]; exact b s [v] rfl, fun base _ _ seen => ?_⟩
  exact (g_of (ok_law ⟨T0, T1, T2, T3, T4, T5, T6, T7, T8, T9, T10, T11, T12, T13, T14, T15, T16, T17, T18, T19, T20, T21, T22, T23, T24, T25, T26, T27, T28, T29, T30, T31, T32, T33, T34, T35, T36, T37, T38, T39, T40, T41, T42, T43, T44, T45, T46, T47, T48, T49, T50, T51, T52, T53, T54, T55, T56, T57, T58, T59, T60, T61, T62, T63, T64, T65, T66, T67, T68, T69, T70, T71, T72, T73, T74, T75, T76, T77, T78, T79, T80, T81, T82, T83, He.free_ok X G (c.d.fact 84 (f := .free "ValueError") rfl), He.free_ok X G (c.d.fact 85 (f := .free "abs") rfl), He.free_ok X G (c.d.fact 86 (f := .free "all") rfl), He.free_ok X G (c.d.fact 87 (f := .free "any") rfl), He.free_ok X G (c.d.fact 88 (f := .free "bool") rfl), He.free_ok X G (c.d.fact 89 (f := .free "enumerate") rfl), He.free_ok X G (c.d.fact 90 (f := .free "int") rfl), He.free_ok X G (c.d.fact 91 (f := .free "isinstance") rfl), He.free_ok X G (c.d.fact 92 (f := .free "len") rfl), He.free_ok X G (c.d.fact 93 (f := .free "list") rfl), He.free_ok X G (c.d.fact 94 (f := .free "max") rfl), He.free_ok X G (c.d.fact 95 (f := .free "range") rfl), He.free_ok X G (c.d.fact 96 (f := .free "sorted") rfl), He.free_ok X G (c.d.fact 97 (f := .free "str") rfl), He.free_ok X G (c.d.fact 98 (f := .free "sum") rfl), He.free_ok X G (c.d.fact 99 (f := .free "tuple") rfl), He.free_ok X G (c.d.fact 100 (f := .free "zip") rfl), He.ga K "ZERO", He.glo_ok X G (c.d.fact 101 (f := .glo "ZERO") rfl), fun H => He.tupB_ok (x := "ZERO") (vs := [.int 0, .int 1]) (c.fact 0 (f := .tup "ZERO" [.int 0, .int 1]) rfl) H, tc1, gc1, He.ga K "JOINING", He.glo_ok X G (c.d.fact 103 (f := .glo "JOINING") rfl), fun H => He.tupB_ok (x := "JOINING") (vs := [.str "and", .str "or", .str "same"]) (c.fact 1 (f := .tup "JOINING" [.str "and", .str "or", .str "same"]) rfl) H, tc3, gc3, tc4, gc4, He.ga K "PARTS", He.glo_ok X G (c.d.fact 106 (f := .glo "PARTS") rfl), cM.tab 0 (t := ("PARTS", ["deal", "split", "hand", "net", "clear", "post", "sell", "hear"])), vt0, He.ga K "ACTIONS", He.glo_ok X G (c.d.fact 107 (f := .glo "ACTIONS") rfl), cM.tab 1 (t := ("ACTIONS", ["deal", "split", "hand", "net", "clear", "post", "sell", "hear"])), vt1, Y0, Y1, Y2, Y3, Y4, Y5, Y6, Y7, Y8, Y9, Y10, Y11, Y12, Y13, Y14, Y15, sub_of y7 y0 (c.fact 20 (f := .sub "NoBet" "StallError" true) rfl), sub_of y7 y1 (c.fact 21 (f := .sub "NoBet" "TooLong" false) rfl), sub_of y7 y2 (c.fact 22 (f := .sub "NoBet" "TooMany" false) rfl), sub_of y7 y3 (c.fact 23 (f := .sub "NoBet" "NoWorld" false) rfl), sub_of y7 y4 (c.fact 24 (f := .sub "NoBet" "NotAlike" false) rfl), sub_of y7 y5 (c.fact 25 (f := .sub "NoBet" "Unfair" false) rfl), sub_of y7 y6 (c.fact 26 (f := .sub "NoBet" "Fair" false) rfl), sub_of y7 y7 (c.fact 27 (f := .sub "NoBet" "NoBet" true) rfl), sub_of y7 y8 (c.fact 28 (f := .sub "NoBet" "NoHolder" false) rfl), sub_of y7 y9 (c.fact 29 (f := .sub "NoBet" "NoStake" false) rfl), sub_of y7 y10 (c.fact 30 (f := .sub "NoBet" "NoTicket" false) rfl), sub_of y7 y11 (c.fact 31 (f := .sub "NoBet" "NoCover" false) rfl), sub_of y7 y12 (c.fact 32 (f := .sub "NoBet" "NoSaying" false) rfl), sub_of y7 y13 (c.fact 33 (f := .sub "NoBet" "NoDeed" false) rfl), sub_of y7 y14 (c.fact 34 (f := .sub "NoBet" "NoStep" false) rfl), sub_of y7 y15 (c.fact 35 (f := .sub "NoBet" "NoText" false) rfl), subT_of y7 (c.fact 36 (f := .subT "NoBet" "ValueError" true) rfl), sub_of y11 y0 (c.fact 37 (f := .sub "NoCover" "StallError" true) rfl), sub_of y11 y1 (c.fact 38 (f := .sub "NoCover" "TooLong" false) rfl), sub_of y11 y2 (c.fact 39 (f := .sub "NoCover" "TooMany" false) rfl), sub_of y11 y3 (c.fact 40 (f := .sub "NoCover" "NoWorld" false) rfl), sub_of y11 y4 (c.fact 41 (f := .sub "NoCover" "NotAlike" false) rfl), sub_of y11 y5 (c.fact 42 (f := .sub "NoCover" "Unfair" false) rfl), sub_of y11 y6 (c.fact 43 (f := .sub "NoCover" "Fair" false) rfl), sub_of y11 y7 (c.fact 44 (f := .sub "NoCover" "NoBet" false) rfl), sub_of y11 y8 (c.fact 45 (f := .sub "NoCover" "NoHolder" false) rfl), sub_of y11 y9 (c.fact 46 (f := .sub "NoCover" "NoStake" false) rfl), sub_of y11 y10 (c.fact 47 (f := .sub "NoCover" "NoTicket" false) rfl), sub_of y11 y11 (c.fact 48 (f := .sub "NoCover" "NoCover" true) rfl), sub_of y11 y12 (c.fact 49 (f := .sub "NoCover" "NoSaying" false) rfl), sub_of y11 y13 (c.fact 50 (f := .sub "NoCover" "NoDeed" false) rfl), sub_of y11 y14 (c.fact 51 (f := .sub "NoCover" "NoStep" false) rfl), sub_of y11 y15 (c.fact 52 (f := .sub "NoCover" "NoText" false) rfl), subT_of y11 (c.fact 53 (f := .subT "NoCover" "ValueError" true) rfl), sub_of y13 y0 (c.fact 54 (f := .sub "NoDeed" "StallError" true) rfl), sub_of y13 y1 (c.fact 55 (f := .sub "NoDeed" "TooLong" false) rfl), sub_of y13 y2 (c.fact 56 (f := .sub "NoDeed" "TooMany" false) rfl), sub_of y13 y3 (c.fact 57 (f := .sub "NoDeed" "NoWorld" false) rfl), sub_of y13 y4 (c.fact 58 (f := .sub "NoDeed" "NotAlike" false) rfl), sub_of y13 y5 (c.fact 59 (f := .sub "NoDeed" "Unfair" false) rfl), sub_of y13 y6 (c.fact 60 (f := .sub "NoDeed" "Fair" false) rfl), sub_of y13 y7 (c.fact 61 (f := .sub "NoDeed" "NoBet" false) rfl), sub_of y13 y8 (c.fact 62 (f := .sub "NoDeed" "NoHolder" false) rfl), sub_of y13 y9 (c.fact 63 (f := .sub "NoDeed" "NoStake" false) rfl), sub_of y13 y10 (c.fact 64 (f := .sub "NoDeed" "NoTicket" false) rfl), sub_of y13 y11 (c.fact 65 (f := .sub "NoDeed" "NoCover" false) rfl), sub_of y13 y12 (c.fact 66 (f := .sub "NoDeed" "NoSaying" false) rfl), sub_of y13 y13 (c.fact 67 (f := .sub "NoDeed" "NoDeed" true) rfl), sub_of y13 y14 (c.fact 68 (f := .sub "NoDeed" "NoStep" false) rfl), sub_of y13 y15 (c.fact 69 (f := .sub "NoDeed" "NoText" false) rfl), subT_of y13 (c.fact 70 (f := .subT "NoDeed" "ValueError" true) rfl), sub_of y8 y0 (c.fact 71 (f := .sub "NoHolder" "StallError" true) rfl), sub_of y8 y1 (c.fact 72 (f := .sub "NoHolder" "TooLong" false) rfl), sub_of y8 y2 (c.fact 73 (f := .sub "NoHolder" "TooMany" false) rfl), sub_of y8 y3 (c.fact 74 (f := .sub "NoHolder" "NoWorld" false) rfl), sub_of y8 y4 (c.fact 75 (f := .sub "NoHolder" "NotAlike" false) rfl), sub_of y8 y5 (c.fact 76 (f := .sub "NoHolder" "Unfair" false) rfl), sub_of y8 y6 (c.fact 77 (f := .sub "NoHolder" "Fair" false) rfl), sub_of y8 y7 (c.fact 78 (f := .sub "NoHolder" "NoBet" false) rfl), sub_of y8 y8 (c.fact 79 (f := .sub "NoHolder" "NoHolder" true) rfl), sub_of y8 y9 (c.fact 80 (f := .sub "NoHolder" "NoStake" false) rfl), sub_of y8 y10 (c.fact 81 (f := .sub "NoHolder" "NoTicket" false) rfl), sub_of y8 y11 (c.fact 82 (f := .sub "NoHolder" "NoCover" false) rfl), sub_of y8 y12 (c.fact 83 (f := .sub "NoHolder" "NoSaying" false) rfl), sub_of y8 y13 (c.fact 84 (f := .sub "NoHolder" "NoDeed" false) rfl), sub_of y8 y14 (c.fact 85 (f := .sub "NoHolder" "NoStep" false) rfl), sub_of y8 y15 (c.fact 86 (f := .sub "NoHolder" "NoText" false) rfl), subT_of y8 (c.fact 87 (f := .subT "NoHolder" "ValueError" true) rfl), sub_of y12 y0 (c.fact 88 (f := .sub "NoSaying" "StallError" true) rfl), sub_of y12 y1 (c.fact 89 (f := .sub "NoSaying" "TooLong" false) rfl), sub_of y12 y2 (c.fact 90 (f := .sub "NoSaying" "TooMany" false) rfl), sub_of y12 y3 (c.fact 91 (f := .sub "NoSaying" "NoWorld" false) rfl), sub_of y12 y4 (c.fact 92 (f := .sub "NoSaying" "NotAlike" false) rfl), sub_of y12 y5 (c.fact 93 (f := .sub "NoSaying" "Unfair" false) rfl), sub_of y12 y6 (c.fact 94 (f := .sub "NoSaying" "Fair" false) rfl), sub_of y12 y7 (c.fact 95 (f := .sub "NoSaying" "NoBet" false) rfl), sub_of y12 y8 (c.fact 96 (f := .sub "NoSaying" "NoHolder" false) rfl), sub_of y12 y9 (c.fact 97 (f := .sub "NoSaying" "NoStake" false) rfl), sub_of y12 y10 (c.fact 98 (f := .sub "NoSaying" "NoTicket" false) rfl), sub_of y12 y11 (c.fact 99 (f := .sub "NoSaying" "NoCover" false) rfl), sub_of y12 y12 (c.fact 100 (f := .sub "NoSaying" "NoSaying" true) rfl), sub_of y12 y13 (c.fact 101 (f := .sub "NoSaying" "NoDeed" false) rfl), sub_of y12 y14 (c.fact 102 (f := .sub "NoSaying" "NoStep" false) rfl), sub_of y12 y15 (c.fact 103 (f := .sub "NoSaying" "NoText" false) rfl), subT_of y12 (c.fact 104 (f := .subT "NoSaying" "ValueError" true) rfl), sub_of y9 y0 (c.fact 105 (f := .sub "NoStake" "StallError" true) rfl), sub_of y9 y1 (c.fact 106 (f := .sub "NoStake" "TooLong" false) rfl), sub_of y9 y2 (c.fact 107 (f := .sub "NoStake" "TooMany" false) rfl), sub_of y9 y3 (c.fact 108 (f := .sub "NoStake" "NoWorld" false) rfl), sub_of y9 y4 (c.fact 109 (f := .sub "NoStake" "NotAlike" false) rfl), sub_of y9 y5 (c.fact 110 (f := .sub "NoStake" "Unfair" false) rfl), sub_of y9 y6 (c.fact 111 (f := .sub "NoStake" "Fair" false) rfl), sub_of y9 y7 (c.fact 112 (f := .sub "NoStake" "NoBet" false) rfl), sub_of y9 y8 (c.fact 113 (f := .sub "NoStake" "NoHolder" false) rfl), sub_of y9 y9 (c.fact 114 (f := .sub "NoStake" "NoStake" true) rfl), sub_of y9 y10 (c.fact 115 (f := .sub "NoStake" "NoTicket" false) rfl), sub_of y9 y11 (c.fact 116 (f := .sub "NoStake" "NoCover" false) rfl), sub_of y9 y12 (c.fact 117 (f := .sub "NoStake" "NoSaying" false) rfl), sub_of y9 y13 (c.fact 118 (f := .sub "NoStake" "NoDeed" false) rfl), sub_of y9 y14 (c.fact 119 (f := .sub "NoStake" "NoStep" false) rfl), sub_of y9 y15 (c.fact 120 (f := .sub "NoStake" "NoText" false) rfl), subT_of y9 (c.fact 121 (f := .subT "NoStake" "ValueError" true) rfl), sub_of y10 y0 (c.fact 122 (f := .sub "NoTicket" "StallError" true) rfl), sub_of y10 y1 (c.fact 123 (f := .sub "NoTicket" "TooLong" false) rfl), sub_of y10 y2 (c.fact 124 (f := .sub "NoTicket" "TooMany" false) rfl), sub_of y10 y3 (c.fact 125 (f := .sub "NoTicket" "NoWorld" false) rfl), sub_of y10 y4 (c.fact 126 (f := .sub "NoTicket" "NotAlike" false) rfl), sub_of y10 y5 (c.fact 127 (f := .sub "NoTicket" "Unfair" false) rfl), sub_of y10 y6 (c.fact 128 (f := .sub "NoTicket" "Fair" false) rfl), sub_of y10 y7 (c.fact 129 (f := .sub "NoTicket" "NoBet" false) rfl), sub_of y10 y8 (c.fact 130 (f := .sub "NoTicket" "NoHolder" false) rfl), sub_of y10 y9 (c.fact 131 (f := .sub "NoTicket" "NoStake" false) rfl), sub_of y10 y10 (c.fact 132 (f := .sub "NoTicket" "NoTicket" true) rfl), sub_of y10 y11 (c.fact 133 (f := .sub "NoTicket" "NoCover" false) rfl), sub_of y10 y12 (c.fact 134 (f := .sub "NoTicket" "NoSaying" false) rfl), sub_of y10 y13 (c.fact 135 (f := .sub "NoTicket" "NoDeed" false) rfl), sub_of y10 y14 (c.fact 136 (f := .sub "NoTicket" "NoStep" false) rfl), sub_of y10 y15 (c.fact 137 (f := .sub "NoTicket" "NoText" false) rfl), subT_of y10 (c.fact 138 (f := .subT "NoTicket" "ValueError" true) rfl), sub_of y4 y0 (c.fact 139 (f := .sub "NotAlike" "StallError" true) rfl), sub_of y4 y1 (c.fact 140 (f := .sub "NotAlike" "TooLong" false) rfl), sub_of y4 y2 (c.fact 141 (f := .sub "NotAlike" "TooMany" false) rfl), sub_of y4 y3 (c.fact 142 (f := .sub "NotAlike" "NoWorld" false) rfl), sub_of y4 y4 (c.fact 143 (f := .sub "NotAlike" "NotAlike" true) rfl), sub_of y4 y5 (c.fact 144 (f := .sub "NotAlike" "Unfair" false) rfl), sub_of y4 y6 (c.fact 145 (f := .sub "NotAlike" "Fair" false) rfl), sub_of y4 y7 (c.fact 146 (f := .sub "NotAlike" "NoBet" false) rfl), sub_of y4 y8 (c.fact 147 (f := .sub "NotAlike" "NoHolder" false) rfl), sub_of y4 y9 (c.fact 148 (f := .sub "NotAlike" "NoStake" false) rfl), sub_of y4 y10 (c.fact 149 (f := .sub "NotAlike" "NoTicket" false) rfl), sub_of y4 y11 (c.fact 150 (f := .sub "NotAlike" "NoCover" false) rfl), sub_of y4 y12 (c.fact 151 (f := .sub "NotAlike" "NoSaying" false) rfl), sub_of y4 y13 (c.fact 152 (f := .sub "NotAlike" "NoDeed" false) rfl), sub_of y4 y14 (c.fact 153 (f := .sub "NotAlike" "NoStep" false) rfl), sub_of y4 y15 (c.fact 154 (f := .sub "NotAlike" "NoText" false) rfl), subT_of y4 (c.fact 155 (f := .subT "NotAlike" "ValueError" true) rfl), sub_of y2 y0 (c.fact 156 (f := .sub "TooMany" "StallError" true) rfl), sub_of y2 y1 (c.fact 157 (f := .sub "TooMany" "TooLong" false) rfl), sub_of y2 y2 (c.fact 158 (f := .sub "TooMany" "TooMany" true) rfl), sub_of y2 y3 (c.fact 159 (f := .sub "TooMany" "NoWorld" false) rfl), sub_of y2 y4 (c.fact 160 (f := .sub "TooMany" "NotAlike" false) rfl), sub_of y2 y5 (c.fact 161 (f := .sub "TooMany" "Unfair" false) rfl), sub_of y2 y6 (c.fact 162 (f := .sub "TooMany" "Fair" false) rfl), sub_of y2 y7 (c.fact 163 (f := .sub "TooMany" "NoBet" false) rfl), sub_of y2 y8 (c.fact 164 (f := .sub "TooMany" "NoHolder" false) rfl), sub_of y2 y9 (c.fact 165 (f := .sub "TooMany" "NoStake" false) rfl), sub_of y2 y10 (c.fact 166 (f := .sub "TooMany" "NoTicket" false) rfl), sub_of y2 y11 (c.fact 167 (f := .sub "TooMany" "NoCover" false) rfl), sub_of y2 y12 (c.fact 168 (f := .sub "TooMany" "NoSaying" false) rfl), sub_of y2 y13 (c.fact 169 (f := .sub "TooMany" "NoDeed" false) rfl), sub_of y2 y14 (c.fact 170 (f := .sub "TooMany" "NoStep" false) rfl), sub_of y2 y15 (c.fact 171 (f := .sub "TooMany" "NoText" false) rfl), subT_of y2 (c.fact 172 (f := .subT "TooMany" "ValueError" true) rfl)⟩ ⟨tree, seen⟩))
end B
open PySem PySem.W PySem.Calls PyProof.Rows
set_option maxRecDepth 100000 in
set_option maxHeartbeats 0 in
theorem PySem.Challenge.cw_betstall_k79_refusals_in_order_holds : PySem.Challenge.rw_betstall_k79_refusals_in_order.Holds := by
  w_on; o_law
  refine HandSHeadRun.head_any (r := OpenLaw.row PySem.Challenge.rw_betstall_k79_refusals_in_order) (q := view (OpenLaw.row PySem.Challenge.rw_betstall_k79_refusals_in_order).prog [164]) (H := B.lt_hk) (ob := B.lt_ob) (M := 200000) (loose := B.lt_nm) (d := HandSHeadRun.topDef (OpenLaw.row PySem.Challenge.rw_betstall_k79_refusals_in_order).prog 164) (kwd := []) B.lt_ob_eq
    (by kernel_rfl) (fun s => by kernel_rfl) B.lt_run (by kernel_rfl) (by kernel_rfl) (by kernel_rfl) (by rfl) (by first | assumption | decide +kernel) (by decide +kernel) ⟨rfl, rfl, rfl, rfl, rfl, by decide +kernel⟩ ?hw ?hc
  case hw => w_witness2
  case hc =>
    refine B.walkL (l := PySem.Challenge.rw_betstall_k79_refusals_in_order) (n := 63) (k := 49) (x := "_law_script") (by decide +kernel) rfl (by decide) (by kernel_rfl) ⟨rfl, by decide, by decide⟩ ?F
    intro w mg fa h Y G hmg0
    obtain ⟨K, KX, c⟩ := Y
    have hmg : mg ("law" : PySem.Str) = some (.ref fa) := by
      have e : (HandSHeadRun.topDef (OpenLaw.row PySem.Challenge.rw_betstall_k79_refusals_in_order).prog 164).name = ("law" : PySem.Str) := by kernel_rfl
      rw [← e]
      exact hmg0
    obtain ⟨fd, hb, hF⟩ := B.lt_end (l := PySem.Challenge.rw_betstall_k79_refusals_in_order) (w := w) rfl KX G hmg c
    exact ⟨K, fd, B.sp_law K, KX, hb, hF, fun _ a ns hl hb _ hS => ⟨a, ns, rfl, hS, hl, hb, fun _ => rfl⟩⟩
