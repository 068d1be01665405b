import PyProof.Rows.All
import Wide.All
import OpenK.AllK
import Wide.FinOn
import HandS.Base
import HandS.Call
import HandS.List
import HandS.Comp
import HandS.Ends
import HandS.Dict
import HandS.Iter
import HandS.Text
import HandS.Words
import HandS.TryOnly
import HandS.Wide
import HandS.IsInst
import HandS.EndBits
import HandS.TupAny
import HandS.TupMul
import HandS.Replace
import HandS.SortInts
import HandS.Evl
import HandS.Zip
import HandS.Exc
import HandS.ExcOwn
import HandS.ExcValue
import HandS.ExcIs
import HandS.WordsExc
import HandS.TryMany
import HandS.Walk
import HandS.TupLe
import HandS.Defaults
import HandS.CallSlots
import HandS.Conv
import PyProof.TupleOfStr
import HandS.Strs
import HandS.SetFor
import KE.GoesMore
import KE.GoesEnum
import KE.GoesNew
import KE.KExcIs
import KE.KDictZip
import HandS.HotCalls
import PySem.Challenge.RW_betstall_k65_beside
set_option Elab.async false
set_option linter.all false
set_option maxRecDepth 100000
set_option maxHeartbeats 4000000
namespace B
open PySem PySem.Spec PyProof.Rows L2
structure Df (K : PySem.W.Frag) (mg : Str → Option Value) (x : Str) (st : Stmt) (ps : List Str) where
  f : Addr
  fd : FuncData
  F : Fun K x x st f fd
  b : Binds K fd ps []
  g : mg x = some (.ref f)
theorem same_upd {H : Hp} {p : Addr} {o : HO} (h : H p = none) : Same H (upd H p o) := fun b x e => by
  rw [upd_ne (ne_of_none e h)]
  exact e
theorem Same.tup {K : PySem.W.Frag} {H H' : Hp} {a : Addr} {xs : List V} (e : Same H H') (h : SqT K H a xs) : SqT K H' a xs := by
  rcases h with (h | ⟨o, h⟩) | h
  · exact .inl (.inl (e _ _ h))
  · exact .inl (.inr ⟨o, e _ _ h⟩)
  · exact .inr h
theorem sqt_upd {K : PySem.W.Frag} {H : Hp} {p : Addr} {xs : List V} : SqT K (upd H p (.tup xs)) p xs := .inl (.inl upd_same)
theorem sql_upd {K : PySem.W.Frag} {H : Hp} {p : Addr} {xs : List V} : SqL K (upd H p (.lst xs)) p xs := .inl (.inl upd_same)
/-- the three objects of a row of draws -/
structure Dr where
  dr : Addr
  cl : Addr
  rs : Addr
/-- such a row stands at d, and b further draws may be asked -/
structure Drw (H : Hp) (d : Dr) (b : Nat) : Prop where
  ex : ∃ (cs rr : List Int) (c : Nat), H d.dr = some (.lst [.ref d.cl, .int c, .ref d.rs]) ∧ H d.cl = some (.lst (cs.map V.int)) ∧ H d.rs = some (.lst (rr.map V.int)) ∧ cs.length = rr.length ∧ 0 < cs.length ∧ cs.length ≤ 63 ∧ c + b ≤ 1000000
  ne : d.cl ≠ d.rs
/-- all else that was tracked is as it was -/
def Kp (d : Dr) (H H' : Hp) : Prop := ∀ b o, H b = some o → b ≠ d.dr → b ≠ d.rs → H' b = some o
theorem Kp.trans {d : Dr} {H H1 H2 : Hp} (a : Kp d H H1) (b : Kp d H1 H2) : Kp d H H2 := fun x o h n m => b x o (a x o h n m) n m
theorem Same.kp {d : Dr} {H H' : Hp} (e : Same H H') : Kp d H H' := fun b o h _ _ => e b o h
theorem Kp.upd {d : Dr} {H H' : Hp} {p : Addr} {o : HO} (k : Kp d H H') (h : H p = none) : Kp d H (upd H' p o) := fun b x e n m => by
  rw [upd_ne (ne_of_none e h)]
  exact k b x e n m
theorem Drw.less {H : Hp} {d : Dr} {b c : Nat} (h : Drw H d b) (e : c ≤ b) : Drw H d c := by
  obtain ⟨⟨cs, rr, k, h1, h2, h3, h4, h5, h6, h7⟩, ne⟩ := h
  exact ⟨⟨cs, rr, k, h1, h2, h3, h4, h5, h6, by omega⟩, ne⟩
theorem Drw.same {H H' : Hp} {d : Dr} {b : Nat} (h : Drw H d b) (e : Same H H') : Drw H' d b := by
  obtain ⟨⟨cs, rr, k, h1, h2, h3, h4⟩, ne⟩ := h
  exact ⟨⟨cs, rr, k, e _ _ h1, e _ _ h2, e _ _ h3, h4⟩, ne⟩
theorem Drw.upd {H : Hp} {d : Dr} {b : Nat} {p : Addr} {o : HO} (h : Drw H d b) (n : H p = none) : Drw (upd H p o) d b := h.same (same_upd n)
theorem Drw.dr {H : Hp} {d : Dr} {b : Nat} (h : Drw H d b) : ∃ xs, H d.dr = some (.lst xs) := by
  obtain ⟨⟨cs, rr, k, h1, h2, h3, h4⟩, ne⟩ := h
  exact ⟨_, h1⟩
theorem Drw.rs {H : Hp} {d : Dr} {b : Nat} (h : Drw H d b) : ∃ xs, H d.rs = some (.lst xs) := by
  obtain ⟨⟨cs, rr, k, h1, h2, h3, h4⟩, ne⟩ := h
  exact ⟨_, h3⟩
theorem Drw.no {H : Hp} {d : Dr} {b : Nat} {p : Addr} (h : Drw H d b) (n : H p = none) : p ≠ d.dr ∧ p ≠ d.rs := by
  obtain ⟨x, hx⟩ := h.dr
  obtain ⟨y, hy⟩ := h.rs
  exact ⟨(ne_of_none hx n).symm, (ne_of_none hy n).symm⟩
/-- a tuple stays as it is, whatever is drawn -/
theorem Kp.tup {K : PySem.W.Frag} {d : Dr} {b : Nat} {H H' : Hp} {a : Addr} {xs : List V} (k : Kp d H H') (w : Drw H d b) (h : SqT K H a xs) : SqT K H' a xs := by
  obtain ⟨ys, hy⟩ := w.dr
  obtain ⟨zs, hz⟩ := w.rs
  rcases h with (h | ⟨o, h⟩) | h
  · exact .inl (.inl (k _ _ h (ne_of h hy (by intro q; cases q)) (ne_of h hz (by intro q; cases q))))
  · exact .inl (.inr ⟨o, k _ _ h (ne_of h hy (by intro q; cases q)) (ne_of h hz (by intro q; cases q))⟩)
  · exact .inr h
/-- what a division of any size asks of the run: nothing looks on -/
structure Unl (P : Program) (base : Heap) : Prop where
  tree : P.given.tree = none
  seer : base.NoSeer
/-- // by any divisor but 0, by any divisor above 0 -/
def CDivN (_ j : Int) : Prop := j ≠ 0
def CDivW (_ j : Int) : Prop := 0 < j
section
variable {X : Cx} {env : Env} {l : List Env}
theorem op_fdivNW (U : Unl X.prog X.base) (room : Room 34 X.A) (top : X.stack = env :: l) (ge : env.scope.isGenerator = false) (co : env.scope.isCoroutine = false) (bu : env.builtins = builtinsNs) (gl : env.globals = mainGlobals) : OpR X (binaryOp .FloorDiv) (rI CDivN fun i j => .int (i.fdiv j)) := by
  rintro pins s σ H _ _ _ _ Q I rx ry ⟨i, j, rfl, rfl, nz, q⟩
  obtain ⟨t, rfl⟩ := rx
  obtain ⟨t', rfl⟩ := ry
  have frames : X.A.frames = some (env :: l) := I.ok.frames.trans (congrArg some top)
  have deep : X.A.depth + Builtin.pylongFrames < recursionLimit := by
    have := room.dp
    show X.A.depth + 100 < _
    omega
  exact floordiv_int nz ⟨.int (i.fdiv j), H, I.tok _, ⟨_, rfl⟩, q⟩ (.inr (PySem.PylongRoom.of (I.ok.mod.nolimit.keeps I.bk) deep (PySem.SeerAt.of (U.seer.keeps I.bk) U.tree frames ge co bu gl)))
theorem op_fdivW (U : Unl X.prog X.base) (room : Room 34 X.A) (top : X.stack = env :: l) (ge : env.scope.isGenerator = false) (co : env.scope.isCoroutine = false) (bu : env.builtins = builtinsNs) (gl : env.globals = mainGlobals) : OpR X (binaryOp .FloorDiv) (rI CDivW fun i j => .int (i / j)) := by
  rintro pins s σ H x y v u Q I rx ry ⟨i, j, ex, ey, pos, q⟩
  have pos : 0 < j := pos
  refine op_fdivNW U room top ge co bu gl pins s σ H x y v u Q I rx ry ⟨i, j, ex, ey, by show j ≠ 0; omega, ?_⟩
  show Q (.int (i.fdiv j)) H
  rw [Int.fdiv_eq_ediv_of_nonneg i (by omega)]
  exact q
end
theorem wide_div {i j : Int} {b : Nat} (h : 0 < j) (_ : j.natAbs < 2 ^ b) (_ : 0 < b) (_ : b ≤ 900000) : CDivW i j := h
theorem iteE {k : Bool} {A B : Prop} (h : k = false) (q : B) : if k = true then A else B := by
  subst h
  exact iteF q
theorem lc_yes {σ : L2.St} {H : Hp} {X Y : Hp → Prop} (h : X H) : tYes σ H (fun b H3 => if b = true then X H3 else Y H3) := by
  show if true = true then X H else Y H
  rw [if_pos rfl]
  exact h
theorem ty_tup {K : PySem.W.Frag} {H : Hp} {a : Addr} {xs : List V} (h : SqT K H a xs) : TyX K H (.ref a) (.type "tuple") := by
  rcases h with (h | ⟨o, h⟩) | ⟨o, its, n, e, c, _⟩
  · exact .base (.tup h)
  · exact .fTuple h
  · exact .kTuple e c
theorem at_nat {xs : List V} {j : Nat} {v : V} (h : xs[j]? = some v) : atI xs (j : Int) = some v := atI_nat h
end B
namespace B
open PySem PySem.Spec PyProof.Rows L2
end B
namespace B
open PySem PySem.Spec PyProof.Rows L2
end B
namespace B
open PySem PySem.Spec PyProof.Rows L2
/-- the text of such a class's maker: one word, told to the new error -/
def eiA (p : Pos) : Arguments := { posonlyargs := [], args := [{ arg := "self", annotation := none, pos := p }], vararg := none, kwonlyargs := [], kw_defaults := [], kwarg := none, defaults := [] }
def eiB (x : Str) (q1 q2 q3 q4 : Pos) : List Stmt := [.Assign [.Attribute (.Name "self" q1) "named" q2] (.Constant (.str x) 0 q3) q4]
def eiS : Scope := { kind := .function, names := [(PySem.Str.ofString "self", .local)], isGenerator := false, isCoroutine := false, more := [] }
/-- what the top says of an own class of errors (of ValueError's) -/
structure Xc (K : PySem.W.Frag) (mg : Str → Option Value) (x : Str) where
  C : Addr
  ns : PySem.W.nsIn K mainGlobals x = some (some (.ref C))
  g : mg x = some (.ref C)
  kp : PySem.W.keepIn K (.ref C) = true
  sb : PySem.W.subIn K (.ref C) (.type "BaseException") = some true
  ty : PySem.W.typeIn K (.ref C) = some (.type "type")
  ic : PySem.W.isClsIn K C = true
  me : PySem.W.subIn K (.ref C) (.ref C) = some true
  ec : ExcC K C
  cls : ∃ nm q N bs bm sn sub ab col dd k0 k1 k2 k3 k5, K.lookup C = some (excClassObj nm q C N bs bm true sn sub ab col dd k0 k1 k2 k3 k5 "ValueError.__new__") ∧ PySem.HandSPX.refsVE bm = true
  sa : PySem.W.findIn K (.ref C) "__setattr__" = some (some (.builtin "object.__setattr__"))
  no : PySem.W.findIn K (.ref C) "named" = some none
  fI : Addr
  iC : PySem.W.findIn K (.ref C) "__init__" = some (some (.ref fI))
  tI : PySem.W.typeIn K (.ref fI) = some (.type "function")
  fn : ∃ (oc : Value) (od : Option Addr) (doc pm : Value) (an : Option Addr) (cdv ct : Value) (osl : Array (Option Value)) (qn : Str) (p q1 q2 q3 q4 : Pos), K.lookup fI = some ⟨oc, od, .func (PySem.W.fnOf "__init__" qn (eiA p) (eiB x q1 q2 q3 q4) eiS .none .none doc pm an cdv ct), osl⟩ ∧ PySem.W.codeIn K cdv qn = true
/-- the class of that name -/
def XIs (K : PySem.W.Frag) (x : Str) (C : Addr) : Prop := PySem.W.nsIn K mainGlobals x = some (some (.ref C))
theorem XIs.eq {K : PySem.W.Frag} {x : Str} {C D : Addr} (h : XIs K x C) (k : PySem.W.nsIn K mainGlobals x = some (some (.ref D))) : C = D := by
  have e := (show PySem.W.nsIn K mainGlobals x = some (some (.ref C)) from h).symm.trans k
  cases e
  rfl
/-- what such a maker leaves of the new error at y: its dict at dx holds the word -/
structure EiEnd (h h' : Heap) (y C dx t1 : Addr) (v : Value) : Prop where
  rest : ∀ b o, b ≠ y → h.get? b = some o → h'.get? b = some o
  err : h'.get? y = some { cls := .ref C, dict := some dx, data := .fields #[.ref t1, .none, .none, .none, .bool false, .none] }
  far : h.objs.size ≤ dx
  two : dx ≠ y
  dct : h'.Ns1 dx (fun z => if z = "named" then some v else none)
section
open PySem.W PySem.Calls PySem.HandSPX
variable {prog : Program} {w : World} {A : Around} {R : Result → Shared → Prop} {s : Shared} {K : Frag} {mg : Str → Option Value} {x : Str}
theorem ei_run (T : Xc K mg x) {y t0 : Addr} (X : K.In s.heap) (hlim : s.heap.NoLimit) (hy : s.heap.get? y = some (excO T.C t0)) (hroom : A.depth < recursionLimit)
    (go : ∀ h' tk dx tv, EiEnd s.heap h' y T.C dx t0 (.str x tv) → R (.ok (.ret .none)) { s with heap := h', toks := tk }) :
    codeAny (model prog w) A (.call (.ref T.fI) ⟨[.ref y], []⟩) R s := by
  obtain ⟨oc, od, doc, pm, an, cdv, ct, osl, qn, p, q1, q2, q3, q4, ho, hcd⟩ := T.fn
  obtain ⟨nm, q, N, bs, bm, sn, sub, ab, col, dd, k0, k1, k2, k3, k5, hC, hbm⟩ := T.cls
  have hcl : clsIn K T.C = some { name := nm, bases := bs, mro := .ref T.C :: bm, ns := N, qualname := q, hasDict := true, slotNames := sn, subclasses := sub, abstract := ab, collection := col, hasDel := false } := by unfold clsIn; rw [hC] <;> rfl
  refine Att.call_fn (binds := [("self", .ref y)]) X hlim ho hcd hroom (BindsTo.of_eq (by first | rfl | with_unfolding_all rfl)) (by first | rfl | decide | with_unfolding_all rfl) (fun s₁ IC => ?_) rfl rfl rfl
  obtain ⟨h₁, tk₁, rfl⟩ := IC.toInCall.same
  have k := IC.toInCall.keep
  have hn := IC.toInCall.ns
  have hx₁ := k _ _ hy
  have X₁ : K.In h₁ := X.keeps k
  show wpAny _ _ (execs _ _) _ _ _
  refine wpAny_execs_cons (plainObj_wpAny_Assign_Attribute (Calls.Constant_str ?_))
  refine wpAny_Name (wpAny_loadName_local (m := bindL (envOfC qn eiS s.heap.objs.size T.fI cdv).kindOf [("self", Value.ref y)] fun _ => none) (v := .ref y) rfl (by first | rfl | with_unfolding_all rfl) hn (by first | rfl | with_unfolding_all rfl | kernel_rfl) ?_) (by decide)
  refine set_plain X₁ (ox := excO T.C t0) (od := none) ⟨hx₁, rfl, rfl, trivial⟩ T.sa ?_
  refine exc_osa X₁ hx₁ hcl (show refsVE (.ref T.C :: bm) = true from hbm) rfl T.no (fun h₃ tk₃ dx k₃ dn dne hx₃ hn₃ => ?_)
  show wpAny _ _ (execs _ _) _ _ _
  have z : s.heap.objs.size < h₁.objs.size := hn.lt
  exact wpAny_execs_nil (go h₃ tk₃ dx _ ⟨fun b o hb e => k₃ b o hb (k b o e), hx₃, Nat.le_of_lt (Nat.lt_of_lt_of_le z dn), dne, hn₃⟩)
/-- a made one -/
structure EiMade (h h' : Heap) (e C d : Addr) (v : Value) : Prop where
  keep : ∀ b o, h.get? b = some o → h'.get? b = some o
  new : h.objs.size ≤ e
  obj : ∃ oe vs, h'.get? e = some oe ∧ oe.cls = .ref C ∧ oe.dict = some d ∧ oe.data = .fields vs ∧ vs[1]? = some .none ∧ vs[2]? = some .none
  far : h.objs.size ≤ d
  two : d ≠ e
  dct : h'.Ns1 d (fun z => if z = "named" then some v else none)
theorem ei_made (T : Xc K mg x) (X : K.In s.heap) (hlim : s.heap.NoLimit) (hroom : A.depth + 1 < recursionLimit)
    (go : ∀ h' tk e d tv, EiMade s.heap h' e T.C d (.str x tv) → R (.ok (.ret (.ref e))) { s with heap := h', toks := tk }) :
    codeAny (model prog w) A (.call (.ref T.C) ⟨[], []⟩) R s := by
  obtain ⟨nm, q, N, bs, bm, sn, sub, ab, col, dd, k0, k1, k2, k3, k5, hC, hbm⟩ := T.cls
  obtain ⟨hp, g, dr, tk, os⟩ := s
  have k : ∀ b o, hp.get? b = some o → ((hp.push (kdv_tup [])).push (excO T.C hp.objs.size)).get? b = some o := fun b o e => Heap.get?_push_of_some _ (Heap.get?_push_of_some _ e)
  have hget : ((hp.push (kdv_tup [])).push (excO T.C hp.objs.size)).get? (hp.objs.size + 1) = some (excO T.C hp.objs.size) := by heap_get
  refine call_own F.excBase_ValueError (fun Y => refsVE_contains Y bm hbm) (X _ _ hC) (looks_findIn X T.iC) (fun self => bind_fn X self T.tI) (Nat.zero_le _) ?_
  refine ei_run (s := ⟨(hp.push (kdv_tup [])).push (excO T.C hp.objs.size), g, dr, tk, os⟩) T (X.keeps k) (hlim.keeps k) hget ?_ fun h' tk' dx tv ⟨k', hx, dn, dne, hns⟩ => ?_
  · show A.depth + 1 < recursionLimit
    exact hroom
  · have old : ∀ b o, hp.get? b = some o → h'.get? b = some o := fun b o e => k' b o (Nat.ne_of_lt (Nat.lt_succ_of_lt (Heap.lt_size e))) (k b o e)
    have z : hp.objs.size + 1 + 1 ≤ dx := by
      have q := dn
      simp only [Heap.size_push] at q
      exact q
    exact ⟨rfl, go h' tk' (hp.objs.size + 1) dx tv ⟨old, Nat.le_succ _, ⟨_, _, hx, rfl, rfl, rfl, rfl, rfl⟩, Nat.le_trans (Nat.le_trans (Nat.le_succ _) (Nat.le_succ _)) z, dne, hns⟩⟩
end
/-- the dict of such an error -/
abbrev wordOf (x : Str) : List (Str × V) := [("named", .str x)]
theorem relO_word {x : Str} {tv : Tok} (f : Str) : RelO (List.lookup f (wordOf x)) (if f = "named" then some (.str x tv) else none) := by
  show RelO (List.lookup f [("named", V.str x)]) _
  by_cases h : f = "named"
  · rw [if_pos h, h]
    have e : List.lookup ("named" : Str) [(("named" : Str), V.str x)] = some (V.str x) := by simp [List.lookup]
    rw [e]
    exact ⟨_, rfl⟩
  · rw [if_neg h]
    have e : (f == ("named" : Str)) = false := by simpa using h
    have e2 : List.lookup f [(("named" : Str), V.str x)] = none := by simp [List.lookup, e]
    rw [e2]
    trivial
section
variable {X : Cx} {x : Str} {pins : List (Addr × Obj)} {σ : L2.St} {H : Hp} {s : Shared}
/-- the heap behind C(): the dict is tracked, the error itself not -/
theorem ei_land {A : Around} {R : Result → Shared → Prop} (T : Xc X.K X.mg x) {k : Nat} (hr : Room k X.A) (I : L2.Inv X pins σ H s)
    (go : ∀ h' tk' e d oe vs (G : Heap), H d = none → H e = none → d ≠ e → h'.get? e = some oe → Zc (.ref T.C) (some d) oe → oe.data = .fields vs → vs[1]? = some .none → vs[2]? = some .none → (∀ b o, G.get? b = some o → h'.get? b = some o) → G.get? e = none →
      (∀ b, b ≠ e → G.get? b = h'.get? b) → L2.Inv X pins σ (upd H d (.xd (wordOf x))) { s with heap := G, toks := tk' } → R (.ok (.ret (.ref e))) { s with heap := h', toks := tk' }) :
    codeAny (model X.prog X.w) X.A (.call (.ref T.C) ⟨[], []⟩) R s := by
  have hlim := I.nolimit
  refine ei_made T I.kIn hlim (by have := hr.dp; omega) fun h' tk' e d tv M => ?_
  obtain ⟨oe, fv, hoe, hc, hd, hdat, h1, h2⟩ := M.obj
  have hns := M.dct
  obtain ⟨G, g1, g2⟩ := restrict h' fun b => decide (b ≠ e)
  have gk : ∀ b, b ≠ e → G.get? b = h'.get? b := fun b hb => g1 b (decide_eq_true hb)
  have ge : G.get? e = none := g2 e (by simp)
  have old : ∀ b o, s.heap.get? b = some o → G.get? b = some o := fun b o q => (gk b (Nat.ne_of_lt (Nat.lt_of_lt_of_le (Heap.lt_size q) M.new))).trans (M.keep b o q)
  have ob : ObjOk X.prog X.w (upd H d (.xd (wordOf x))) G d (.xd (wordOf x)) := ⟨_, hns.at (fun o q => (gk d M.two).trans q), fun f => relO_word f⟩
  refine go h' tk' e d oe fv G (I.hok.fresh M.far) (I.hok.fresh M.new) M.two hoe ⟨hc, hd⟩ hdat h1 h2 (fun b o q => ?_) ge gk (I.laid (t' := tk') old M.far ob)
  by_cases hb : b = e
  · rw [hb, ge] at q; cases q
  · exact (gk b hb).symm.trans q
end
/-- such a dict stands there, where the error has one -/
def DOk (H : Hp) : Option Addr → Prop
  | none => True
  | some d => ∃ fs, H d = some (.xd fs)
theorem Same.dok {H H' : Hp} {d : Option Addr} (e : Same H H') (h : DOk H d) : DOk H' d := by
  cases d with
  | none => trivial
  | some d => obtain ⟨fs, h⟩ := h; exact ⟨fs, e _ _ h⟩
theorem dok_upd {H : Hp} {d : Addr} {fs : List (Str × V)} : DOk (upd H d (.xd fs)) (some d) := ⟨fs, upd_same⟩
theorem inst_at {X : Cx} {pins : List (Addr × Obj)} {σ : L2.St} {H : Hp} {s : Shared} {a D : Addr} {d : Option Addr} {oe : Obj} {vs : Array Value} (I : L2.Inv X pins σ H s) (got : s.heap.get? a = some oe) (z : Zc (.ref D) d oe) (fl : oe.data = .fields vs) (h : DOk H d) : ∃ od, PySem.W.InstAt s.heap a oe D od := by
  cases d with
  | none => exact ⟨none, got, z.1, by unfold PySem.W.notCls; rw [fl] <;> rfl, by rw [z.2]; trivial⟩
  | some d =>
    obtain ⟨fs, h⟩ := h
    obtain ⟨mA, hns, _⟩ := (show ObjOk X.prog X.w H s.heap d (.xd fs) from I.hok d _ h)
    obtain ⟨od, ho, _⟩ := lookIn_ns hns
    exact ⟨some od, got, z.1, by unfold PySem.W.notCls; rw [fl] <;> rfl, by rw [z.2]; exact ho⟩
theorem kit_of {K : PySem.W.Frag} {a D : Addr} {oe : Obj} {od : Option Obj} (ec : ExcC K D) : PySem.W.KitX K (.ref a) (.ref D) (fun h => PySem.W.InstAt h a oe D od) :=
  PySem.W.kitx_exc (by obtain ⟨cd, hc, _⟩ := PySem.W.any_some ec.hd; rw [hc]; rfl) ec.hg ec.hk ec.hs ec.ha ec.hn ec.ht ec.hm
section
variable {X : Cx} {a : Addr} {oe : Obj} {pn : List (Addr × Obj)} {cls : Value} {d : Option Addr}
/-- isinstance(e, c), e the error of the suite -/
def rIsX (K : PySem.W.Frag) (a : Addr) (cls : Value) (d : Option Addr) : List V → Hp → VK → Prop := fun xs H Q => ∃ (D : Addr) (c : V) (cv : Value) (b : Bool), cls = .ref D ∧ DOk H d ∧ ExcC K D ∧ xs = [.ref a, c] ∧ ClsV c cv ∧ PySem.W.kitOne K (.ref D) cv = some b ∧ Q (.bl b) H
end
theorem kitCls_own {K : PySem.W.Frag} {D : Value} {C : Addr} {b : Bool} (i : PySem.W.isClsIn K C = true) (t : PySem.W.typeIn K (.ref C) = some (.type "type")) (h : PySem.W.subIn K D (.ref C) = some b) : PySem.W.kitCls K D (.ref C) = some b := by
  have e : ((PySem.W.clsIn K C).isSome && PySem.W.typeIn K (.ref C) == some (.type "type")) = true := by
    have i' : (PySem.W.clsIn K C).isSome = true := i
    rw [i', t]
    rfl
  show (if ((PySem.W.clsIn K C).isSome && PySem.W.typeIn K (.ref C) == some (.type "type")) = true then PySem.W.subIn K D (.ref C) else none) = some b
  rw [if_pos e]
  exact h
theorem kit_own {K : PySem.W.Frag} {D C : Addr} {b : Bool} (i : PySem.W.isClsIn K C = true) (t : PySem.W.typeIn K (.ref C) = some (.type "type")) (me : PySem.W.subIn K (.ref D) (.ref D) = some true) (h : PySem.W.subIn K (.ref D) (.ref C) = some b) : PySem.W.kitOne K (.ref D) (.ref C) = some b := by
  unfold PySem.W.kitOne
  by_cases e : (Value.ref D == Value.ref C) = true
  · rw [if_pos e]
    have e2 : Value.ref D = Value.ref C := eq_of_beq e
    cases e2
    rw [me] at h
    exact h
  · rw [if_neg e]
    exact kitCls_own i t h
theorem kit_val {K : PySem.W.Frag} {D : Addr} {n : String} {b : Bool} (m : PySem.W.kitMeta n = true) (h : PySem.W.subIn K (.ref D) (.type n) = some b) : PySem.W.kitOne K (.ref D) (.type n) = some b := by
  have e : ¬ (Value.ref D == Value.type n) = true := by intro z; cases eq_of_beq z
  unfold PySem.W.kitOne
  rw [if_neg e]
  show (if PySem.W.kitMeta n = true then PySem.W.subIn K (.ref D) (.type n) else none) = some b
  rw [if_pos m]
  exact h
theorem exm_own {K : PySem.W.Frag} {D C : Addr} {b : Bool} (s : PySem.W.subIn K (.ref C) (.type "BaseException") = some true) (i : PySem.W.isClsIn K C = true) (t : PySem.W.typeIn K (.ref C) = some (.type "type")) (h : PySem.W.subIn K (.ref D) (.ref C) = some b) : PySem.W.exmOne K (.ref D) (.ref C) = some b := by
  have e : (PySem.W.subIn K (.ref C) (.type "BaseException") == some true) = true := by rw [s]; rfl
  unfold PySem.W.exmOne
  rw [if_pos e]
  exact kitCls_own i t h
end B
namespace B
open PySem PySem.Spec PyProof.Rows L2
section
variable {X : Cx} {pins : List (Addr × Obj)} {σ : L2.St} {H : Hp} {s : Shared}
end
section
variable {X : Cx} {n : Str} {i : Nat} {body : List Stmt} {h0 : ExceptHandler} {hds : List ExceptHandler} {l : List (Value × (Addr → Value → TS))} {pos : Pos} {tb : WX → TS}
end
end B
namespace B
open PySem PySem.Spec PyProof.Rows L2
inductive Kd where
  | l
  | t
  | s
/-- the items of v, by its kind -/
def Src (K : PySem.W.Frag) (H : Hp) : Kd → V → List V → Prop
  | .l, v, xs => ∃ a, v = .ref a ∧ SqL K H a xs
  | .t, v, xs => ∃ a, v = .ref a ∧ SqT K H a xs
  | .s, v, xs => ∃ x : Str, v = .str x ∧ xs = x.cps.toList.map fun c => V.str ⟨#[c]⟩
/-- its iterator, at it, ahead of item i -/
def ItSt : Kd → Value → Addr → Nat → Heap → Prop
  | .l, .ref a, it, i, h => h.IsListIter it a i
  | .t, .ref a, it, i, h => h.IsTupleIter it a i
  | .s, .str x t, it, i, h => h.IsStrIter it (strIterType x) x t i
  | _, _, _, _, _ => False
theorem ItSt.keep {k : Kd} {u : Value} {it : Addr} {i : Nat} {h h' : Heap} (st : ItSt k u it i h) (e : ∀ o, h.get? it = some o → h'.get? it = some o) : ItSt k u it i h' := by
  cases k <;> cases u <;> first | exact st.elim | (exact Heap.IsListIter.at st e) | (exact Heap.IsTupleIter.at st e) | (obtain ⟨o, a, b⟩ := st; exact ⟨o, e o a, b⟩)
theorem ItSt.obj {k : Kd} {u : Value} {it : Addr} {i : Nat} {h : Heap} (st : ItSt k u it i h) : ∃ o, h.get? it = some o ∧ ∀ v, o.data ≠ .cell v := by
  cases k <;> cases u <;> first | exact st.elim | (obtain ⟨o, e, c, d⟩ := st; exact ⟨o, e, fun v z => by rw [d] at z; cases z⟩)
section
variable {X : Cx} {pins : List (Addr × Obj)} {σ : L2.St} {H : Hp} {s : Shared}
theorem Src.inj {k : Kd} {v : V} {xs ys : List V} (I : Inv X pins σ H s) (h : Src X.K H k v xs) (h' : Src X.K H k v ys) : xs = ys := by
  cases k with
  | l =>
    obtain ⟨a, rfl, p⟩ := h
    obtain ⟨b, e, p'⟩ := h'
    cases e
    exact I.list_inj p p'
  | t =>
    obtain ⟨a, rfl, p⟩ := h
    obtain ⟨b, e, p'⟩ := h'
    cases e
    exact I.tuple_inj p p'
  | s =>
    obtain ⟨a, rfl, p⟩ := h
    obtain ⟨b, e, p'⟩ := h'
    cases e
    rw [p, p']
/-- what its iterator draws -/
theorem Src.draws {k : Kd} {v : V} {u : Value} {xs : List V} {A : Around} {it : Addr} (I : Inv X pins σ H s) (h : Src X.K H k v xs) (r : RelV v u) (hh : A.handled = none) (ne : ∀ a, u = .ref a → a < it) :
    ∃ (fp : List Addr) (P : Nat → Value → Prop) (St : Nat → Heap → Prop), Draws X.prog X.w A it (it :: fp) xs.length P St ∧ (∀ i x, P i x → ∃ y, xs[i]? = some y ∧ RelV y x) ∧ (∀ i, ItSt k u it i s.heap → St i s.heap) ∧ (∀ i h, St i h → ItSt k u it i h) ∧ (∀ b ∈ fp, u = .ref b) := by
  cases k with
  | l =>
    obtain ⟨a, rfl, p⟩ := h
    cases r
    obtain ⟨its, rv, ht, hz⟩ := I.list p
    have hl := rv.length
    have D := Draws.list (prog := X.prog) (w := X.w) hh it a (Nat.ne_of_lt (ne a rfl)) its.toArray
    rw [List.size_toArray, ← hl] at D
    refine ⟨[a], _, _, D, fun i x hx => ?_, fun i st => ⟨st, ht.isList⟩, fun i h st => st.1, fun b hb => by rw [List.mem_singleton] at hb; rw [hb]⟩
    have hx : its[i]? = some x := by simpa using hx
    have hi : i < xs.length := by rw [hl]; exact (List.getElem?_eq_some_iff.mp hx).1
    obtain ⟨u', hu, ru⟩ := rv.get (List.getElem?_eq_getElem hi)
    rw [hx] at hu
    cases hu
    exact ⟨_, List.getElem?_eq_getElem hi, ru⟩
  | t =>
    obtain ⟨a, rfl, p⟩ := h
    cases r
    obtain ⟨its, rv, ht, hz⟩ := I.tuple p
    have hl := rv.length
    have D := Draws.tuple (prog := X.prog) (w := X.w) hh it a (Nat.ne_of_lt (ne a rfl)) its.toArray
    rw [List.size_toArray, ← hl] at D
    refine ⟨[a], _, _, D, fun i x hx => ?_, fun i st => ⟨st, ht⟩, fun i h st => st.1, fun b hb => by rw [List.mem_singleton] at hb; rw [hb]⟩
    have hx : its[i]? = some x := by simpa using hx
    have hi : i < xs.length := by rw [hl]; exact (List.getElem?_eq_some_iff.mp hx).1
    obtain ⟨u', hu, ru⟩ := rv.get (List.getElem?_eq_getElem hi)
    rw [hx] at hu
    cases hu
    exact ⟨_, List.getElem?_eq_getElem hi, ru⟩
  | s =>
    obtain ⟨x, rfl, p⟩ := h
    obtain ⟨t, rfl⟩ := r
    have D := Draws.text (prog := X.prog) (w := X.w) hh it x t
    have hl : xs.length = x.cps.size := by rw [p, List.length_map, Array.length_toList]
    rw [← hl] at D
    refine ⟨[], _, _, D, fun i v hv => ?_, fun i st => st, fun i h st => st, fun b hb => nomatch hb⟩
    obtain ⟨c, w, hc, rfl⟩ := hv
    refine ⟨.str ⟨#[c]⟩, ?_, ⟨w, rfl⟩⟩
    rw [p, List.getElem?_map, Array.getElem?_toList, hc]
    rfl
/-- how it begins -/
theorem Src.begins {k : Kd} {v : V} {u : Value} {xs : List V} (I : Inv X pins σ H s) (h : Src X.K H k v xs) (r : RelV v u) :
    ∃ (o : Obj) (G : Heap → Prop), Begins u o G ∧ G s.heap ∧ (∀ (h' : Heap) (it : Addr), h'.get? it = some o → ItSt k u it 0 h') ∧ ∀ a, u = .ref a → a < s.heap.objs.size := by
  cases k with
  | l =>
    obtain ⟨a, rfl, p⟩ := h
    cases r
    obtain ⟨its, rv, ht, hz⟩ := I.list p
    exact ⟨_, _, begins_list a its.toArray, ht.isList, fun h' it e => ⟨_, e, rfl, rfl⟩, fun b e => by cases e; exact ht.lt⟩
  | t =>
    obtain ⟨a, rfl, p⟩ := h
    cases r
    obtain ⟨its, rv, ht, hz⟩ := I.tuple p
    exact ⟨_, _, begins_tuple a its.toArray, ht, fun h' it e => ⟨_, e, rfl, rfl⟩, fun b e => by cases e; obtain ⟨o, ho, _⟩ := ht; exact Heap.lt_size ho⟩
  | s =>
    obtain ⟨x, rfl, p⟩ := h
    obtain ⟨t, rfl⟩ := r
    exact ⟨_, _, begins_text x t, trivial, fun h' it e => ⟨_, e, rfl, rfl⟩, fun b e => by cases e⟩
end
/-- the two as they stand at each turn, the items in new pairs -/
def ItG (K : PySem.W.Frag) (k1 k2 : Kd) (v1 v2 : V) : It :=
  ⟨fun i H => ∃ (xs ys : List V) (x y : V), Src K H k1 v1 xs ∧ Src K H k2 v2 ys ∧ xs[i]? = some x ∧ ys[i]? = some y,
    fun i H v H' => ∃ T x y, v = .ref T ∧ H T = none ∧ H' = upd H T (.tup [x, y]) ∧ (∀ xs, Src K H k1 v1 xs → xs[i]? = some x) ∧ ∀ ys, Src K H k2 v2 ys → ys[i]? = some y,
    fun i H => ∃ xs ys : List V, Src K H k1 v1 xs ∧ Src K H k2 v2 ys ∧ i = min xs.length ys.length⟩
theorem turn_zipG {P : Program} {w : World} {K : PySem.W.Frag} {elts : List Expr} {kk : Nat} {tpos : Pos} {k1 k2 : Kd} {v1 v2 : V} {u1 u2 : Value} {N : Nat} (r1 : RelV v1 u1) (r2 : RelV v2 u2) (l1 : ∀ a, u1 = .ref a → a < N) (l2 : ∀ a, u2 = .ref a → a < N) :
    Turn P w K (.Tuple elts kk tpos) (ItG K k1 k2 v1 v2) [N + 4, N + 2, N + 3, N, N + 1] (N + 4) (fun i h => IsZip h (N + 4) (N + 2) (N + 3) .none ∧ IsTupOf2 h (N + 2) (.ref N) (.ref (N + 1)) ∧ (∃ a1 a2, IsTupOf2 h (N + 3) a1 a2) ∧ ItSt k1 u1 N i h ∧ ItSt k2 u2 (N + 1) i h) where
  mem := by simp
  obj := fun i h st c hc => by
    obtain ⟨hz, hTI, ⟨x, y, hTO⟩, s1, s2⟩ := st
    have e' : c = N + 4 ∨ c = N + 2 ∨ c = N + 3 ∨ c = N ∨ c = N + 1 := by simpa using hc
    rcases e' with q | q | q | q | q
    · rw [q]; exact ⟨_, hz, fun v q => nomatch q⟩
    · rw [q]; exact ⟨_, hTI, fun v q => nomatch q⟩
    · rw [q]; exact ⟨_, hTO, fun v q => nomatch q⟩
    · rw [q]; exact s1.obj
    · rw [q]; exact s2.obj
  keep := fun i h h' st k => by
    obtain ⟨hz, hTI, ⟨x, y, hTO⟩, s1, s2⟩ := st
    exact ⟨k (N + 4) (by simp) _ hz, k (N + 2) (by simp) _ hTI, ⟨x, y, k (N + 3) (by simp) _ hTO⟩, s1.keep fun o q => k N (by simp) o q, s2.keep fun o q => k (N + 1) (by simp) o q⟩
  item := by
    intro X hP hw hK hc i pins s σ H E I hf st hg
    subst hP hw hK
    obtain ⟨hz, hTI, hTO, s1, s2⟩ := st
    obtain ⟨xs, ys, x, y, hqx, hqy, hx, hy⟩ := hg
    have hh : X.A.in1.handled = none := I.ok.hd hc
    obtain ⟨fp1, P1, St1, D1, c1, a1, b1, m1⟩ := Src.draws (it := N) I hqx r1 hh l1
    obtain ⟨fp2, P2, St2, D2, c2, a2, b2, m2⟩ := Src.draws (it := N + 1) I hqy r2 hh fun a e => Nat.lt_succ_of_lt (l2 a e)
    have S := zip_sep2 (N := N) (fp1 := fp1) (fp2 := fp2) (fun b hb => l1 b (m1 b hb)) (fun b hb => l2 b (m2 b hb))
    have W := GoesN.zip2 (elts := elts) (x1 := kk) (pos := tpos) S D1 D2
    have hi1 := (List.getElem?_eq_some_iff.mp hx).1
    have hi2 := (List.getElem?_eq_some_iff.mp hy).1
    refine W.goes i s (fun u s2 => ∃ x H', Inv X pins σ H' s2 ∧ RelV x u ∧ (ItG X.K k1 k2 v1 v2).yld i H x H' ∧ _ ∧ ∀ b ∈ [N + 4, N + 2, N + 3, N, N + 1], H' b = none) E (by omega) ⟨hz, hTI, hTO, a1 i s1, a2 i s2⟩ ?_
    rintro v h' tk ⟨T, p, r, rfl, hT, hp, hr, ht⟩ st' hk htk
    obtain ⟨x', hx', rx⟩ := c1 i p hp
    obtain ⟨y', hy', ry⟩ := c2 i r hr
    have new : ObjOk X.prog X.w (upd H T (.tup [x', y'])) h' T (.tup [x', y']) := ⟨by show 2 ≤ sizeLine; decide, [p, r], .cons rx (.cons ry .nil), ht⟩
    have I1 : Inv X pins σ (upd H T (.tup [x', y'])) { s with heap := h', toks := tk } := I.turnedNew (ch := [N + 4, N + 2, N + 3, N, N + 1]) (fun c o hb q => hk c o (fun z => hb (by
      have z : c = N + 4 ∨ c = N + 3 ∨ c = N ∨ c = N + 1 := by simpa using z
      rcases z with z | z | z | z <;> rw [z] <;> simp)) q) hf hT new
    have hTn := I.hok.fresh hT
    refine ⟨.ref T, _, I1, rfl, ⟨T, x', y', rfl, hTn, rfl, fun zs hz' => by rw [Src.inj I hz' hqx]; exact hx', fun zs hz' => by rw [Src.inj I hz' hqy]; exact hy'⟩, ⟨st'.1, st'.2.1, st'.2.2.1, b1 _ _ st'.2.2.2.1, b2 _ _ st'.2.2.2.2⟩, fun c hc' => ?_⟩
    have hlt : c < s.heap.objs.size := by
      have e' : c = N + 4 ∨ c = N + 2 ∨ c = N + 3 ∨ c = N ∨ c = N + 1 := by simpa using hc'
      rcases e' with q | q | q | q | q
      · rw [q]; exact Heap.lt_size hz
      · rw [q]; exact Heap.lt_size hTI
      · rw [q]; obtain ⟨_, _, z⟩ := hTO; exact Heap.lt_size z
      · rw [q]; obtain ⟨_, z, _⟩ := s1.obj; exact Heap.lt_size z
      · rw [q]; obtain ⟨_, z, _⟩ := s2.obj; exact Heap.lt_size z
    rw [upd_ne (Nat.ne_of_lt (Nat.lt_of_lt_of_le hlt hT))]
    exact (hf c hc').1
  done := by
    intro X hP hw hK hc i pins s σ H E I hf st hg
    subst hP hw hK
    obtain ⟨hz, hTI, hTO, s1, s2⟩ := st
    obtain ⟨xs, ys, hqx, hqy, hend⟩ := hg
    have hh : X.A.in1.handled = none := I.ok.hd hc
    obtain ⟨fp1, P1, St1, D1, c1, a1, b1, m1⟩ := Src.draws (it := N) I hqx r1 hh l1
    obtain ⟨fp2, P2, St2, D2, c2, a2, b2, m2⟩ := Src.draws (it := N + 1) I hqy r2 hh fun a e => Nat.lt_succ_of_lt (l2 a e)
    have S := zip_sep2 (N := N) (fp1 := fp1) (fp2 := fp2) (fun b hb => l1 b (m1 b hb)) (fun b hb => l2 b (m2 b hb))
    have W := GoesN.zip2 (elts := elts) (x1 := kk) (pos := tpos) S D1 D2
    subst hend
    refine W.stops s (fun s1 => Inv X pins σ H s1) E ⟨hz, hTI, hTO, a1 _ s1, a2 _ s2⟩ fun h' tk hk htk => ?_
    exact I.turnedL (ch := [N + 4, N + 2, N + 3, N, N + 1]) (fun c o hb q => hk c o (fun z => hb (by
      have z : c = N + 4 ∨ c = N + 3 ∨ c = N ∨ c = N + 1 := by simpa using z
      rcases z with z | z | z | z <;> rw [z] <;> simp)) q) hf
  self := fun A i s Q E st h => wpAny_pyIter_zip st.1 h
def iZipG (K : PySem.W.Frag) (ta : TA) : TI := fun σ H R => ta σ H fun vs H1 => ∃ k1 k2 v1 v2 xs ys, vs = [v1, v2] ∧ Src K H1 k1 v1 xs ∧ Src K H1 k2 v2 ys ∧ R (ItG K k1 k2 v1 v2) H1
theorem pi_zipG {X : Cx} {e e2 : Expr} {ta : TA} {p pos tpos : Pos} {elts : List Expr} {kk : Nat} (hg : Gl X "zip") (hm : X.mg "zip" = none) (ha : PA X [e, e2] ta)
    (hs : starEach [e, e2] X.env = (false, eval e X.env) :: starEach [e2] X.env := by rfl) (hpl : (backTo pos (starEach [e2] X.env)).any (·.1) = false := by rfl) :
    PI X (.Tuple elts kk tpos) (.Call (.Name "zip" p) [e, e2] [] pos) (iZipG X.K ta) := by
  refine ⟨fun pins s σ H R I h => ?_⟩
  refine Call_ (ld_blt I hg hm PyProof.Rows.boot_zip (PyProof.Rows.callWith_type1 (thn (ha.run pos pins s σ H _ I h) fun us s1 ⟨vs, H1, I1, r1, q1⟩ => ?_) hs hpl))
  obtain ⟨k1, k2, v1, v2, xs, ys, ex, hqx, hqy, q⟩ := q1
  subst ex
  cases r1 with
  | cons r rr =>
    rename_i u1 us1
    cases rr with
    | cons r' rr =>
      rename_i u2 us2
      cases rr
      have fresh5 : ∀ c, c ∈ [s1.heap.objs.size + 4, s1.heap.objs.size + 2, s1.heap.objs.size + 3, s1.heap.objs.size, s1.heap.objs.size + 1] → FpOk X pins H1 c := fun c hcm => by
        have e' : c = s1.heap.objs.size + 4 ∨ c = s1.heap.objs.size + 2 ∨ c = s1.heap.objs.size + 3 ∨ c = s1.heap.objs.size ∨ c = s1.heap.objs.size + 1 := by simpa using hcm
        have hle : s1.heap.objs.size ≤ c := by
          rcases e' with z | z | z | z | z
          · rw [z]; exact Nat.le_add_right _ _
          · rw [z]; exact Nat.le_add_right _ _
          · rw [z]; exact Nat.le_add_right _ _
          · rw [z]; exact Nat.le_refl _
          · rw [z]; exact Nat.le_add_right _ _
        exact I1.fpOk hle (I1.hok.fresh hle)
      obtain ⟨o1, G1, B1, g1, b1, l1⟩ := Src.begins I1 hqx r
      obtain ⟨o2, G2, B2, g2, b2, l2⟩ := Src.begins I1 hqy r'
      refine zip_begins2 B1 B2 g1 g2 fun h' hz hTI hTO h1 h2 hsz hk => wpAny_pyIter_zip hz ?_
      have I2 : Inv X pins σ H1 { s1 with heap := h' } := I1.kept (t' := s1.toks) hk
      exact ⟨s1.heap.objs.size + 4, _, _, _, H1, rfl, I2, turn_zipG r r' l1 l2, ⟨hz, hTI, ⟨_, _, hTO⟩, b1 h' _ h1, b2 h' _ h2⟩, fresh5, q⟩
theorem walk_zipG {K : PySem.W.Frag} {k1 k2 : Kd} {v1 v2 : V} {xs ys : List V} : Walk (ItG K k1 k2 v1 v2) (min xs.length ys.length) (fun H => Src K H k1 v1 xs ∧ Src K H k2 v2 ys) (YPair (fun i => xs[i]?) (fun i => ys[i]?)) :=
  ⟨fun i H hi q => ⟨xs, ys, xs[i]'(by omega), ys[i]'(by omega), q.1, q.2, List.getElem?_eq_getElem _, List.getElem?_eq_getElem _⟩, fun H q => ⟨xs, ys, q.1, q.2, rfl⟩,
    fun i H v H' hi q y => by
      obtain ⟨T, x, y', e, n, e2, h1, h2⟩ := y
      exact ⟨T, x, y', e, n, e2, h1 xs q.1, h2 ys q.2⟩⟩
end B
namespace B
open PySem PySem.Spec PyProof.Rows L2
end B
namespace B
open PySem PySem.Spec PyProof.Rows L2
/-- like a def's promise, but asked only where no showing is under way -/
structure FnG (P : Program) (w : World) (K : PySem.W.Frag) (mg : Str → Option Value) (base : Heap) (k : Nat) (f : Addr) (fd : FuncData) (ps : List Str) (sp : Sp) : Prop where
  arity : ∀ vs H Q E, sp vs H Q E → vs.length = ps.length
  go : ∀ (A : Around) (out : List Env) (s : Shared) (H : Hp) (ar : Args) (us : List Value) (vs : List V) (Q : VK) (E : XK), Room k A ∧ A.guards = some [] → Env0 P w K mg base A out s H →
    BindsTo s fd ar (ps.zip us) → Vals vs us → sp vs H Q E → codeAny (model P w) A (.call (.ref f) ar) (CR CX0 out P w H s Q E) s
section
variable {P : Program} {w : World} {K : PySem.W.Frag} {mg : Str → Option Value} {base : Heap}
end
section
variable {X : Cx}
end
end B
namespace B
open PySem PySem.Spec PyProof.Rows L2
/-- a heap in which at most the script is tracked -/
theorem script_heap {P : Program} {w : World} {K : PySem.W.Frag} {h : Heap} {a : Addr} {vs : List Value} {ns : List Int} (inK : K.In h) (ha : h.get? a = some { cls := .type "list", data := .seq vs.toArray }) (hi : IntsAre vs ns)
    (hl : ns.length ≤ sizeLine) : ∃ H : Hp, Only H ∧ SqL K H a (ns.map V.int) ∧ HOk P w H h ∧ ∀ b, H b = none ∨ (b = a ∧ K.lookup a = none) := by
  have rel := vals_ints hi
  have ln := hi.length
  rcases Option.eq_none_or_eq_some (K.lookup a) with no | ⟨o, yes⟩
  · let ob : Obj := { cls := .type "list", data := .seq vs.toArray }
    let H : Hp := fun b => if b = a then some (.frz ob (.lst (ns.map V.int))) else none
    have on : H a = some (.frz ob (.lst (ns.map V.int))) := if_pos rfl
    have off : ∀ b, b ≠ a → H b = none := fun b n => if_neg n
    refine ⟨H, fun b => ?_, .inl (.inr ⟨ob, on⟩), fun b u z => ?_, fun b => ?_⟩
    · rcases Nat.decEq b a with n | y
      · exact .inl (off b n)
      · subst y; exact .inr ⟨_, _, on⟩
    · rcases Nat.decEq b a with n | y
      · rw [off b n] at z; cases z
      · subst y
        rw [on] at z
        cases z
        exact ⟨ha, by rw [List.length_map]; exact hl, vs, _, rel, ha⟩
    · rcases Nat.decEq b a with n | y
      · exact .inl (off b n)
      · exact .inr ⟨y, no⟩
  · have same := inK a o yes
    rw [ha] at same
    cases same
    exact ⟨fun _ => none, fun _ => .inl rfl, .inr ⟨_, vs.toArray, _, yes, rfl, rfl, rfl, by simpa [ln] using hl, by simpa using rel⟩, fun _ _ z => (nomatch z), fun _ => .inl rfl⟩
theorem head_call {P : Program} {w : World} {K : PySem.W.Frag} {mg mb : Str → Option Value} {k : Nat} {fa a : Addr} {fd : FuncData} {x : Str} {sp : Sp} {s : Shared} {vs : List Value} {ns : List Int} (inK : K.In s.heap) (top : s.heap.Ns mainGlobals mg)
    (bu : s.heap.Ns builtinsNs mb) (boot : ∀ x : Str, x ≠ "__name__" → mb x = bootBuiltins x) (lim : s.heap.NoLimit) (noG : s.gens = #[]) (ha : s.heap.get? a = some { cls := .type "list", data := .seq vs.toArray }) (hi : IntsAre vs ns) (hl : ns.length ≤ sizeLine)
    (room : Room k callerA) (seen : s.heap.NoSeer) (F : ∀ base : Heap, K.In base → base.Ns mainGlobals mg → base.NoSeer → FnG P w K mg base k fa fd [x] sp) (bind : ∀ (s : Shared) (u : Value), BindsTo s fd ⟨[u], []⟩ [(x, u)])
    (want : ∀ H : Hp, Only H → SqL K H a (ns.map V.int) → sp [.ref a] H (fun v _ => v = .bl true) E0) :
    codeAny (model P w) callerA (.call (.ref fa) ⟨[.ref a], []⟩) (fun r s' => r = .ok (.ret (.bool true)) ∧ OldK s.heap s'.heap ∧ s'.os = s.os ∧ AllBare s'.gens) s := by
  obtain ⟨H, only, script, hok, free⟩ := script_heap (P := P) (w := w) inK ha hi hl
  have old : ∀ {b : Addr} {o : Obj}, s.heap.get? b = some o → H b = none → (hidT s.heap H).get? b = some o := fun e n => hidT_get e n
  have ns' : ∀ {b : Addr} {m : Str → Option Value}, s.heap.Ns b m → (hidT s.heap H).Ns b m := by
    rintro b m ⟨o, es, ep, e, d, r⟩
    refine ⟨o, es, ep, old e ?_, d, r⟩
    rcases free b with n | ⟨rfl, _⟩
    · exact n
    · rw [ha] at e
      cases e
      cases d
  have inB : K.In (hidT s.heap H) := by
    intro b o e
    refine old (inK b o e) ?_
    rcases free b with n | ⟨rfl, n⟩
    · exact n
    · rw [n] at e
      cases e
  obtain ⟨mc, l1, l2⟩ := lim
  have seen' : (hidT s.heap H).NoSeer := by
    obtain ⟨⟨c, c1, c2⟩, ⟨m, m1, m2⟩, ⟨i, i1, i2⟩, ⟨g, bm, ob, g1, g2, g3, g4, g5⟩⟩ := seen
    refine ⟨⟨c, ns' c1, c2⟩, ⟨m, ns' m1, m2⟩, ⟨i, ns' i1, i2⟩, ⟨g, bm, ob, ns' g1, g2, old g3 ?_, g4, g5⟩⟩
    rcases free bm with n | ⟨rfl, _⟩
    · exact n
    · rw [ha] at g3
      cases g3
      exact absurd g4 fun z => by
        injection z with z
        exact absurd z (by decide)
  have env : Env0 P w K mg (hidT s.heap H) callerA [] s H :=
    ⟨rfl, ⟨inB, ns' top, ⟨mb, ns' bu, boot⟩, ⟨mc, ns' l1, l2⟩⟩, fun _ _ e => of_hidT e, Nat.le_of_eq (hidT_size _ _), trivial, fun _ h => (nomatch h), hok, .of_eq noG⟩
  refine codeAny_mono ((F _ inB (ns' top) seen').go callerA [] s H _ [.ref a] [.ref a] _ _ ⟨room, rfl⟩ env (bind s (.ref a)) (.cons rfl .nil) (want H only script)) ?_
  intro r s2 h2
  match r, h2 with
  | .error _, h2 => exact h2.elim
  | .ok .next, h2 => exact h2.elim
  | .ok .brk, h2 => exact h2.elim
  | .ok .cont, h2 => exact h2.elim
  | .ok (.ret u), h2 =>
    obtain ⟨v, H2, os, bare, un, hok2, rv, q⟩ := h2
    cases (show v = .bl true from q)
    cases (show u = Value.bool true from rv)
    refine ⟨rfl, OldK.of_keep fun b o e => ?_, os, bare⟩
    rcases only b with n | ⟨ob, xs, z⟩
    · exact un.keep b o e n (fun h => (nomatch h)) (fun h => (nomatch h))
    · have e1 := (hok b _ z).1
      rw [e] at e1
      cases e1
      exact (hok2 b _ (un.frzs b _ _ z)).1
/-- a def that shows nothing, too -/
theorem g_of {P : Program} {w : World} {K : PySem.W.Frag} {mg : Str → Option Value} {base : Heap} {k : Nat} {f : Addr} {fd : FuncData} {ps : List Str} {sp : Sp} (F : FnOk P w K mg base CX0 k f fd ps sp) : FnG P w K mg base k f fd ps sp :=
  ⟨F.len, fun A out s H ar us vs Q E room e b r q => F.run A out s H ar us vs Q E room.1 e b r q⟩
/-- the last step, as walk_ofB -/
theorem walkG {l : PySem.W.OpenLaw} {n k : Nat} {q : Program} {loose : List Str} {XP : (Str → Option Value) → Heap → Prop} {YP : World → Heap → Prop} {d : DefRec} {K : Params → PySem.W.Frag} {sp : World → Sp} {x : Str} (quiet : importsNone q = true) (most : l.most = some n)
    (small : n ≤ sizeLine) (nodef : d.params.defaults = []) (room : Room k callerA) (inK : ∀ (w : World) (h : Heap), YP w h → (K w.params).In h)
    (F : ∀ (w : World) (mg : Str → Option Value) (fa : Addr) (h : Heap), (K w.params).In h → h.Ns mainGlobals mg → mg d.name = some (.ref fa) → ∃ fd : FuncData, (∀ (s : Shared) (u : Value), BindsTo s fd ⟨[u], []⟩ [(x, u)]) ∧
      ∀ base : Heap, (K w.params).In base → base.Ns mainGlobals mg → base.NoSeer → FnG l.prog w (K w.params) mg base k fa fd [x] (sp w))
    (want : ∀ (w : World) (H : Hp) (a : Addr) (ns : List Int), ns.length ≤ n → (∀ z ∈ ns, Builtin.Int.intBits z ≤ 1048576) → Only H → SqL (K w.params) H a (ns.map V.int) → sp w [.ref a] H (fun v _ => v = .bl true) E0) :
    PySem.W.WalkO q loose XP YP l.row.toRowW d [] (fun f vs => PySem.call f vs) := by
  refine Att.attach_callB most nodef ?_
  intro w _ s mg mb fa _ _ _ _ a vs ns G Y _ _ _ at_ obj hin len bits noG
  obtain ⟨fd, bd, ok⟩ := F w mg fa _ (inK w _ Y) G.T.g at_
  exact head_call (inK w _ Y) G.T.g G.T.b G.T.builtins G.T.nolimit noG obj hin (Nat.le_trans len small) room (G.T.seer quiet) ok bd fun H o sc => want w H a ns len bits o sc
end B
namespace B
open PySem PySem.Spec PyProof.Rows L2
end B
namespace B
open PySem PySem.Spec PyProof.Rows L2
end B
namespace B
open PySem PySem.Spec PyProof.Rows L2
/-- the text of these signs, the text of one sign -/
def tx (cs : List Nat) : Str := ⟨cs.toArray⟩
def sg (c : Nat) : Str := ⟨#[c]⟩
theorem sg_tx (c : Nat) : sg c = tx [c] := rfl
theorem tx_len (cs : List Nat) : (tx cs).length = cs.length := rfl
theorem tx_list (cs : List Nat) : (tx cs).cps.toList = cs := rfl
section
open PySem.Builtin PySem.Builtin.Str PySem.StrLaws
theorem occ_done (s sub : Str) (hi : Nat) : ∀ (m cur : Nat) (st : Array Nat × Nat), st.1.size = 1 → (forIn (List.range' cur m) st (occBody s sub hi 1)).run.1 = st.1
  | 0, _, _, _ => rfl
  | m + 1, cur, st, h => by
    rw [List.range'_succ, List.forIn_cons]
    unfold occBody
    split
    · rename_i hc
      exact absurd hc.1.1.1 (by omega)
    · exact occ_done s sub hi m (cur + 1) st h
def occR (s sub : Str) (hi f cur m : Nat) : List Nat := (forIn (List.range' cur m) ((#[] : Array Nat), f) (occBody s sub hi 1)).run.1.toList
theorem occR_hit {s sub : Str} {hi f cur m : Nat} (hf : f ≤ cur) (hA : At s sub hi cur) : occR s sub hi f cur (m + 1) = [cur] := by
  unfold occR
  rw [List.range'_succ, List.forIn_cons]
  unfold occBody
  rw [if_pos ⟨⟨⟨by show (0 : Nat) < 1; decide, hf⟩, hA.1⟩, hA.2⟩]
  show (forIn (List.range' (cur + 1) m) ((#[] : Array Nat).push cur, cur + sub.length) (occBody s sub hi 1)).run.1.toList = [cur]
  rw [occ_done s sub hi m (cur + 1) _ rfl]
  rfl
theorem occR_miss {s sub : Str} {hi f cur m : Nat} (hA : ¬ At s sub hi cur) : occR s sub hi f cur (m + 1) = occR s sub hi f (cur + 1) m := by
  unfold occR
  rw [List.range'_succ, List.forIn_cons]
  unfold occBody
  rw [if_neg (fun hc => hA ⟨hc.1.2, hc.2⟩)]
  rfl
theorem occ_run1 (s sub : Str) (hi f : Nat) : ∀ (m cur : Nat), f ≤ cur → (∃ i, cur ≤ i ∧ i < cur + m ∧ At s sub hi i ∧ (∀ k, cur ≤ k → k < i → ¬ At s sub hi k) ∧ occR s sub hi f cur m = [i]) ∨
    ((∀ k, cur ≤ k → k < cur + m → ¬ At s sub hi k) ∧ occR s sub hi f cur m = [])
  | 0, cur, _ => .inr ⟨fun k h1 h2 => by omega, rfl⟩
  | m + 1, cur, hf => by
    by_cases hA : At s sub hi cur
    · exact .inl ⟨cur, Nat.le_refl _, by omega, hA, fun k h1 h2 => by omega, occR_hit hf hA⟩
    · rw [occR_miss hA]
      rcases occ_run1 s sub hi f m (cur + 1) (by omega) with ⟨i, h1, h2, h3, h4, h5⟩ | ⟨h1, h2⟩
      · refine .inl ⟨i, by omega, by omega, h3, fun k k1 k2 => ?_, h5⟩
        by_cases hk : k = cur
        · subst hk
          exact hA
        · exact h4 k (by omega) k2
      · refine .inr ⟨fun k k1 k2 => ?_, h2⟩
        by_cases hk : k = cur
        · subst hk
          exact hA
        · exact h1 k (by omega) (by omega)
theorem at_sign (cs : List Nat) (c i : Nat) : At (tx cs) (sg c) (tx cs).length i ↔ cs[i]? = some c := subAt_one (tx cs) c i
/-- where a sign first stands -/
theorem occ_sign {cs : List Nat} {c : Nat} (h : c ∈ cs) : ∃ i : Nat, occurrences (tx cs) (sg c) 0 (tx cs).length 1 = [i] ∧ cs[i]? = some c ∧ ∀ k, k < i → cs[k]? ≠ some c := by
  rw [occ_eq]
  rcases occ_run1 (tx cs) (sg c) (tx cs).length 0 ((tx cs).length + 1 - 0) 0 (Nat.le_refl _) with ⟨i, _, _, h3, h4, h5⟩ | ⟨h1, _⟩
  · exact ⟨i, h5, (at_sign cs c i).mp h3, fun k hk e => h4 k (by omega) hk ((at_sign cs c k).mpr e)⟩
  · exfalso
    obtain ⟨j, hj⟩ := List.getElem?_of_mem h
    have hlt := (List.getElem?_eq_some_iff.mp hj).1
    exact h1 j (by omega) (by rw [tx_len]; omega) ((at_sign cs c j).mpr hj)
theorem find_sign {cs : List Nat} {c : Nat} (h : c ∈ cs) : ∃ i : Nat, Txt.find (tx cs) (sg c) = (i : Int) ∧ occurrences (tx cs) (sg c) 0 (tx cs).length 1 = [i] ∧ cs[i]? = some c ∧ (∀ k, k < i → cs[k]? ≠ some c) := by
  obtain ⟨i, h1, h2, h3⟩ := occ_sign h
  refine ⟨i, ?_, h1, h2, h3⟩
  unfold Txt.find
  rw [h1]
end
theorem vals_get : ∀ {xs : List V} {us : List Value}, xs.length = us.length → (∀ (j : Nat) (v : V) (u : Value), xs[j]? = some v → us[j]? = some u → RelV v u) → Vals xs us
  | [], [], _, _ => .nil
  | x :: xs, u :: us, hl, h => .cons (h 0 x u rfl rfl) (vals_get (by simpa using hl) fun j v w a b => h (j + 1) v w a b)
section
variable {X : Cx}
/-- list(text) -/
theorem cr_listS (hc : X.calm = true) : CallR X (.type "list") (fun xs H Q => ∃ z : Str, xs = [.str z] ∧ z.cps.size ≤ sizeLine ∧ ∀ p, H p = none → Q (.ref p) (upd H p (.lst (z.cps.toList.map fun c => V.str (sg c))))) := by
  intro pins s σ H xs us Q I r h
  obtain ⟨z, rfl, hz, q⟩ := h
  obtain ⟨u, rfl, ru⟩ : ∃ u, us = [u] ∧ RelV (.str z) u := by
    cases r with
    | cons a b => cases b; exact ⟨_, rfl, a⟩
  obtain ⟨t, rfl⟩ := ru
  refine PySem.call_list_str (I.ok.hd hc) z t (hn := hz) fun h' tk acc c hk hS hacc => ?_
  refine ⟨.ref _, upd H s.heap.objs.size (.lst (z.cps.toList.map fun c => V.str (sg c))), I.laid (t' := tk) hk (Nat.le_refl _) ⟨?_, acc.toList, c, ?_, ?_⟩, rfl, q _ (I.hok.fresh (Nat.le_refl _))⟩
  · rw [List.length_map, Array.length_toList]
    exact hz
  · refine vals_get ?_ fun j v u a b => ?_
    · rw [List.length_map, Array.length_toList, Array.length_toList]
      exact hacc.1.symm
    · obtain ⟨d, k, hd, rfl⟩ := hacc.2 j u (by simpa using b)
      rw [List.getElem?_map, Array.getElem?_toList, hd] at a
      have e : V.str (sg d) = v := Option.some.inj a
      rw [← e]
      exact ⟨k, rfl⟩
  · simpa using hS
/-- max(a tuple of ints) -/
theorem cr_maxT (hc : X.calm = true) : CallR X (.builtin "max") (fun vs H Q => ∃ (a : Addr) (ns : List Int), vs = [V.ref a] ∧ SqT X.K H a (ns.map V.int) ∧ 0 < ns.length ∧ ∀ m, m ∈ ns → (∀ y, y ∈ ns → y ≤ m) → Q (.int m) H) := by
  intro pins s σ H vs us Q I r h
  obtain ⟨a, ns, rfl, hs, hne, q⟩ := h
  obtain ⟨its, rv, hT, _⟩ := I.tuple hs
  rw [Vals.ref1 r]
  have hi := rv.ints
  obtain ⟨xs, e⟩ := hi.allInts.items
  have hn : numsOf (intItems xs).toList = ns := by rw [← e]; exact hi.numsOf
  rw [nums_intItems] at hn
  subst hn
  rw [e] at hT
  have hsz : 0 < xs.size := by simpa using hne
  have hlt : a < s.heap.objs.size := by obtain ⟨_, z, _⟩ := hT; exact Heap.lt_size z
  refine PySem.call_max_walk (PyProof.Rows.iter_tuple hT ?_)
  refine ⟨_, _, _, _, _, _, _, rfl, Walks.tuple (A := X.A.in1) (I.ok.hd hc) s.heap.objs.size a (Nat.ne_of_lt hlt) (intItems xs), ⟨⟨_, Heap.get?_push_size _ rfl, rfl, rfl⟩, ?_⟩, ?_, by simpa [intItems] using hsz, CmpOf.ints_gt (numAt xs) (fun _ _ => intItems_at), fun v h' tk hP hk => ?_⟩
  · obtain ⟨o, z, z2⟩ := hT
    exact ⟨o, Heap.get?_push_of_some _ z, z2⟩
  · intro b hb
    show b < (s.heap.push _).objs.size
    rw [Heap.size_push]
    rcases List.mem_cons.mp hb with rfl | hb
    · exact Nat.lt_succ_self _
    · rcases List.mem_cons.mp hb with rfl | hb
      · exact Nat.lt_succ_of_lt hlt
      · cases hb
  · obtain ⟨t, rfl⟩ := intItems_at (by simpa [intItems] using hP)
    obtain ⟨h1, h2⟩ := argBest_gt (numAt xs) (xs.size - 1)
    simp only [gt_iff_lt] at h1 h2
    have kp : ∀ b o, s.heap.get? b = some o → h'.get? b = some o := fun b o z => by
      refine hk b o (fun hm => ?_) (Heap.get?_push_of_some _ z)
      rcases List.mem_cons.mp hm with e1 | hm
      · exact absurd (e1 ▸ Heap.lt_size z) (Nat.lt_irrefl _)
      · cases hm
    refine ⟨.int _, H, I.kept kp, ⟨_, rfl⟩, q _ ?_ fun y hy => ?_⟩
    · rw [numAt_eq]
      exact PySem.getD_mem (by rw [List.length_map, Array.length_toList]; omega)
    · obtain ⟨j, hj, rfl⟩ := mem_getD hy
      rw [List.length_map, Array.length_toList] at hj
      rw [← numAt_eq]
      exact h2 j (by omega)
end
end B
namespace B
open PySem PySem.Spec PyProof.Rows L2
theorem OpR.weak {X : Cx} {f : Value → Value → Sem Value} {r r' : R2} (o : OpR X f r) (h : ∀ x y H Q, r' x y H Q → r x y H Q) : OpR X f r' := fun pins s σ H x y v u Q I rx ry q => o pins s σ H x y v u Q I rx ry (h x y H Q q)
theorem SlR.weak {X : Cx} {r r' : V → Option Int → Option Int → Hp → VK → Prop} (o : SlR X r) (h : ∀ x lo hi H Q, r' x lo hi H Q → r x lo hi H Q) : SlR X r' := by
  intro pins s σ H x v vl vu lo hi sl Q I rx hs pl pu q
  exact o pins s σ H x v vl vu lo hi sl Q I rx hs pl pu (h x lo hi H Q q)
def rCatS (K : PySem.W.Frag) : R2 := fun x y H Q => ∃ a b xs ys, x = .ref a ∧ y = .ref b ∧ SqT K H a xs ∧ SqT K H b ys ∧ xs.length + ys.length ≤ 100000 ∧ ∀ p H', SqT K H' p (xs ++ ys) → Same H H' → Q (.ref p) H'
theorem op_catS {X : Cx} : OpR X (binaryOp .Add) (rCatS X.K) := OpR.weak op_catA fun x y H Q h => by
  obtain ⟨a, b, xs, ys, rfl, rfl, ha, hb, hl, q⟩ := h
  refine ⟨a, b, xs, ys, rfl, rfl, ha, hb, Nat.le_trans hl (by decide), fun e => ?_, fun _ e => ?_, fun _ _ p np => ?_⟩
  · subst e
    exact q b H hb (Same.refl H)
  · subst e
    exact q a H (by rw [List.append_nil]; exact ha) (Same.refl H)
  · exact q p _ sqt_upd (same_upd np)
def rSlS (K : PySem.W.Frag) : V → Option Int → Option Int → Hp → VK → Prop := fun x lo hi H Q => ∃ a xs, x = .ref a ∧ SqT K H a xs ∧ ∀ p H', SqT K H' p (cutV xs lo hi) → Same H H' → Q (.ref p) H'
theorem cutV_whole {xs : List V} {lo hi : Option Int} (h : HT.sIx xs.length 0 lo = 0 ∧ HT.sIx xs.length xs.length hi = xs.length) : cutV xs lo hi = xs := by
  unfold cutV
  rw [h.1, h.2, List.drop_zero, Nat.sub_zero, List.take_length]
theorem sl_tupS {X : Cx} : SlR X (rSlS X.K) := SlR.weak sl_tupA fun x lo hi H Q h => by
  obtain ⟨a, xs, rfl, ha, q⟩ := h
  refine ⟨a, xs, rfl, ha, fun e => ?_, fun _ p np => ?_⟩
  · exact q a H (by rw [cutV_whole e]; exact ha) (Same.refl H)
  · exact q p _ sqt_upd (same_upd np)
theorem tuple_mul1 (l : Addr) (items : Array Value) (n : Nat) (dd : Option Addr) (sl : Array (Option Value)) (u : Tok) :
    Meets (Builtin.«tuple.__mul__» ⟨[.ref l, .int 1 u], []⟩) (fun _ R s => s.heap.get? l = some { cls := .type "tuple", dict := dd, data := .seq items n, slots := sl } ∧ R (.ok (.ret (Value.ref l))) s) :=
  .of_wp fun prog w A R s h => by
    obtain ⟨hp, g, d, tk, os⟩ := s
    obtain ⟨hl, h⟩ := h
    have f1 := AutoSeq1.idx_int
    wp_walk using wpAny_loadPart' hl
    exact ⟨_, rfl, h⟩
theorem tuple_mul0 (l : Addr) (items : Array Value) (n : Nat) (dd : Option Addr) (sl : Array (Option Value)) (x : Int) (u : Tok) (c0 : (decide (x < -(2 ^ 63)) || decide (x ≥ 2 ^ 63)) = false) (c1 : (items.isEmpty || x == 1) = false) (c2 : (decide (x ≤ 0) || items.isEmpty) = true) :
    Meets (Builtin.«tuple.__mul__» ⟨[.ref l, .int x u], []⟩) (fun _ R s => s.heap.get? l = some { cls := .type "tuple", dict := dd, data := .seq items n, slots := sl } ∧
      R (.ok (.ret (Value.ref s.heap.objs.size))) { s with heap := s.heap.push { cls := Value.type "tuple", data := Data.seq #[] }, toks := s.toks }) :=
  .of_wp fun prog w A R s h => by
    obtain ⟨hp, g, d, tk, os⟩ := s
    obtain ⟨hl, h⟩ := h
    have f1 := AutoSeq1.idx_int
    wp_walk using wpAny_loadPart' hl
    repeat (first
      | (refine wpAny_ite_false (decide_eq_false (by rw [c0]; decide)) ?_; wp_walk using wpAny_loadPart' hl)
      | (refine wpAny_ite_false (decide_eq_false (by rw [c1]; decide)) ?_; wp_walk using wpAny_loadPart' hl)
      | (refine wpAny_ite_true (decide_eq_true c2) ?_; wp_walk using wpAny_loadPart' hl))
    exact ⟨_, rfl, h⟩
/-- a tuple so often, also once or not at all -/
def rRepN (K : PySem.W.Frag) : R2 := fun x y H Q => ∃ l k xs, x = .ref l ∧ y = .int k ∧ SqT K H l xs ∧ xs ≠ [] ∧ -1000 ≤ k ∧ k ≤ 1000 ∧ xs.length ≤ 1000 ∧ ∀ p H', SqT K H' p (List.replicate k.toNat xs).flatten → Same H H' → Q (.ref p) H'
theorem op_repN {X : Cx} : OpR X (binaryOp .Mult) (rRepN X.K) := by
  intro pins s σ H x y v u Q I rx ry h
  obtain ⟨l, k, xs, rfl, rfl, hT, hne, h0, h1, hz, q⟩ := h
  by_cases hk : 2 ≤ k
  · exact op_repT pins s σ H _ _ v u Q I rx ry ⟨l, k, xs, rfl, rfl, hT, hne, hk, h1, hz, fun p np => q p _ sqt_upd (same_upd np)⟩
  cases rx
  obtain ⟨t, rfl⟩ := ry
  obtain ⟨its, r, ⟨⟨cls, dd, data, sl⟩, ho, hc, n, hd⟩, hs⟩ := I.tuple hT
  simp only at hc hd
  subst hc hd
  by_cases h1' : k = 1
  · subst h1'
    refine wpAny_binaryOp_repeat_ref (T := "tuple") (U := "int") (by decide) ⟨_, ho, rfl⟩ (fun s' => typeIs_int s' 1 t) noFill_tuple_mul F.fills_int_mul F.slot_int_rmul repeat_tuple F.slot_int_index.lookup
      (call_meets F.slot_int_rmul (typeIs_int s 1 t) F.entry_int_rmul (F.args_int_rmul_2 _ _) (int_rmul_tuple 1 t l its.toArray n dd sl)
        ⟨ho, rfl, ⟨_, ho, rfl⟩, call_meets F.slot_tuple_mul ⟨_, ho, rfl⟩ F.entry_tuple_mul (F.args_tuple_mul_2 _ _) (tuple_mul1 l its.toArray n dd sl t) ⟨ho, ?_⟩⟩)
    exact ⟨.ref l, H, I, rfl, q l H (by show SqT X.K H l (xs ++ []); rw [List.append_nil]; exact hT) (Same.refl H)⟩
  · have hle : its.length = xs.length := r.length.symm
    have hi : its.toArray.isEmpty = false := by
      cases its with
      | nil => exact absurd (List.eq_nil_of_length_eq_zero hle.symm) hne
      | cons a b => rfl
    have c0 : (decide (k < -(2 ^ 63)) || decide (k ≥ 2 ^ 63)) = false := by
      rw [decide_eq_false (by omega), decide_eq_false (by omega)]; rfl
    have c1 : (its.toArray.isEmpty || k == 1) = false := by
      rw [hi, Bool.false_or]
      exact beq_eq_false_iff_ne.mpr h1'
    have c2 : (decide (k ≤ 0) || its.toArray.isEmpty) = true := by
      rw [decide_eq_true (by omega)]; rfl
    refine wpAny_binaryOp_repeat_ref (T := "tuple") (U := "int") (by decide) ⟨_, ho, rfl⟩ (fun s' => typeIs_int s' k t) noFill_tuple_mul F.fills_int_mul F.slot_int_rmul repeat_tuple F.slot_int_index.lookup
      (call_meets F.slot_int_rmul (typeIs_int s k t) F.entry_int_rmul (F.args_int_rmul_2 _ _) (int_rmul_tuple k t l its.toArray n dd sl)
        ⟨ho, rfl, ⟨_, ho, rfl⟩, call_meets F.slot_tuple_mul ⟨_, ho, rfl⟩ F.entry_tuple_mul (F.args_tuple_mul_2 _ _) (tuple_mul0 l its.toArray n dd sl k t c0 c1 c2) ⟨ho, ?_⟩⟩)
    have ek : k.toNat = 0 := by omega
    refine ⟨.ref s.heap.objs.size, _, I.laid (t' := s.toks) (o := .tup []) (fun b ob q => Heap.get?_push_of_some _ q) (Nat.le_refl _) ?_, rfl, q _ _ (by rw [ek]; exact sqt_upd) (same_upd (I.hok.fresh (Nat.le_refl _)))⟩
    exact ⟨Nat.zero_le _, [], .nil, IsTup.new _ _⟩
theorem cut_last (xs : List V) (h : xs ≠ []) : cutV xs none (some (-1)) = xs.dropLast := by
  have hl : 0 < xs.length := by
    cases xs with
    | nil => exact absurd rfl h
    | cons a b => simp
  unfold cutV
  rw [HT.sIx_none, List.drop_zero, Nat.sub_zero, List.dropLast_eq_take]
  congr 1
  show (if (-1 : Int) < 0 then ((-1 : Int) + (xs.length : Int)).toNat else min (-1 : Int).toNat xs.length) = xs.length - 1
  rw [if_pos (by decide)]
  omega
theorem cut_last2 (xs : List V) : cutV xs none (some (-2)) = xs.take (xs.length - 2) := by
  unfold cutV
  rw [HT.sIx_none, List.drop_zero, Nat.sub_zero]
  congr 1
  show (if (-2 : Int) < 0 then ((-2 : Int) + (xs.length : Int)).toNat else min (-2 : Int).toNat xs.length) = xs.length - 2
  rw [if_pos (by decide)]
  omega
theorem cut_end2 (xs : List V) : cutV xs (some (-2)) none = xs.drop (xs.length - 2) := by
  unfold cutV
  rw [HT.sIx_none]
  have e : HT.sIx xs.length 0 (some (-2)) = xs.length - 2 := by
    show (if (-2 : Int) < 0 then ((-2 : Int) + (xs.length : Int)).toNat else min (-2 : Int).toNat xs.length) = xs.length - 2
    rw [if_pos (by decide)]
    omega
  rw [e, List.take_of_length_le (by rw [List.length_drop]; omega)]
inductive Wd where
  | lt (c : Nat) | yes | no | nt | an | orr | sm
  deriving DecidableEq
def Wd.s : Wd → Str
  | .lt c => sg c
  | .yes => "yes" | .no => "no" | .nt => "not" | .an => "and" | .orr => "or" | .sm => "same"
def wv (w : Wd) : V := .str w.s
/-- how high the heap is behind the words -/
def ht : Nat → List Wd → Option Nat
  | h, [] => some h
  | h, .lt _ :: r => ht (h + 1) r
  | h, .yes :: r => ht (h + 1) r
  | h, .no :: r => ht (h + 1) r
  | h, .nt :: r => if 1 ≤ h then ht h r else none
  | h, .an :: r => if 2 ≤ h then ht (h - 1) r else none
  | h, .orr :: r => if 2 ≤ h then ht (h - 1) r else none
  | h, .sm :: r => if 2 ≤ h then ht (h - 1) r else none
theorem ht_add : ∀ (ws : List Wd) (h k d : Nat), ht h ws = some k → ht (h + d) ws = some (k + d)
  | [], h, k, d, e => by
    have e : h = k := Option.some.inj e
    subst e
    rfl
  | w :: r, h, k, d, e => by
    cases w with
    | lt c => have := ht_add r (h + 1) k d e; rw [Nat.add_right_comm] at this; exact this
    | yes => have := ht_add r (h + 1) k d e; rw [Nat.add_right_comm] at this; exact this
    | no => have := ht_add r (h + 1) k d e; rw [Nat.add_right_comm] at this; exact this
    | nt =>
      unfold ht at e ⊢
      by_cases h1 : 1 ≤ h
      · rw [if_pos h1] at e
        rw [if_pos (by omega)]
        exact ht_add r h k d e
      · rw [if_neg h1] at e
        cases e
    | an =>
      unfold ht at e ⊢
      by_cases h1 : 2 ≤ h
      · rw [if_pos h1] at e
        rw [if_pos (by omega), show h + d - 1 = h - 1 + d by omega]
        exact ht_add r (h - 1) k d e
      · rw [if_neg h1] at e
        cases e
    | orr =>
      unfold ht at e ⊢
      by_cases h1 : 2 ≤ h
      · rw [if_pos h1] at e
        rw [if_pos (by omega), show h + d - 1 = h - 1 + d by omega]
        exact ht_add r (h - 1) k d e
      · rw [if_neg h1] at e
        cases e
    | sm =>
      unfold ht at e ⊢
      by_cases h1 : 2 ≤ h
      · rw [if_pos h1] at e
        rw [if_pos (by omega), show h + d - 1 = h - 1 + d by omega]
        exact ht_add r (h - 1) k d e
      · rw [if_neg h1] at e
        cases e
theorem ht_app : ∀ (a b : List Wd) (h k : Nat), ht h a = some k → ht h (a ++ b) = ht k b
  | [], b, h, k, e => by
    have e : h = k := Option.some.inj e
    subst e
    rfl
  | w :: r, b, h, k, e => by
    rw [List.cons_append]
    cases w with
    | lt c => exact ht_app r b (h + 1) k e
    | yes => exact ht_app r b (h + 1) k e
    | no => exact ht_app r b (h + 1) k e
    | nt =>
      simp only [ht] at e ⊢
      by_cases h1 : 1 ≤ h
      · rw [if_pos h1] at e ⊢
        exact ht_app r b h k e
      · rw [if_neg h1] at e
        cases e
    | an =>
      simp only [ht] at e ⊢
      by_cases h1 : 2 ≤ h
      · rw [if_pos h1] at e ⊢
        exact ht_app r b (h - 1) k e
      · rw [if_neg h1] at e
        cases e
    | orr =>
      simp only [ht] at e ⊢
      by_cases h1 : 2 ≤ h
      · rw [if_pos h1] at e ⊢
        exact ht_app r b (h - 1) k e
      · rw [if_neg h1] at e
        cases e
    | sm =>
      simp only [ht] at e ⊢
      by_cases h1 : 2 ≤ h
      · rw [if_pos h1] at e ⊢
        exact ht_app r b (h - 1) k e
      · rw [if_neg h1] at e
        cases e
/-- a saying over the letters cs -/
structure Sy (cs : List Nat) (ws : List Wd) : Prop where
  ht : ht 0 ws = some 1
  lt : ∀ c, Wd.lt c ∈ ws → c ∈ cs
theorem Sy.not {cs : List Nat} {ws : List Wd} (h : Sy cs ws) : Sy cs (ws ++ [.nt]) := by
  refine ⟨by rw [ht_app _ _ _ _ h.ht]; rfl, fun c hc => ?_⟩
  rcases List.mem_append.mp hc with z | z
  · exact h.lt c z
  · simp at z
inductive Jn : Wd → Prop
  | an : Jn .an
  | orr : Jn .orr
  | sm : Jn .sm
theorem Sy.join {cs : List Nat} {a b : List Wd} {w : Wd} (ha : Sy cs a) (hb : Sy cs b) (hw : Jn w) : Sy cs (a ++ b ++ [w]) := by
  refine ⟨?_, fun c hc => ?_⟩
  · rw [List.append_assoc, ht_app _ _ _ _ ha.ht]
    have := ht_add b 0 1 1 hb.ht
    rw [ht_app _ _ _ _ this]
    cases hw <;> rfl
  · rcases List.mem_append.mp hc with z | z
    · rcases List.mem_append.mp z with z | z
      · exact ha.lt c z
      · exact hb.lt c z
    · rw [List.mem_singleton] at z
      subst z
      cases hw
theorem Sy.leaf {cs : List Nat} {c : Nat} (h : c ∈ cs) : Sy cs [.lt c] := ⟨rfl, fun d hd => by
  rw [List.mem_singleton] at hd
  cases hd
  exact h⟩
theorem Sy.yes {cs : List Nat} : Sy cs [.yes] := ⟨rfl, fun d hd => by simp at hd⟩
theorem Sy.no {cs : List Nat} : Sy cs [.no] := ⟨rfl, fun d hd => by simp at hd⟩
/-- what a word makes of the heap, its top ahead -/
def stp (v : Nat → Bool) : List Bool → Wd → List Bool
  | st, .lt c => v c :: st
  | st, .yes => true :: st
  | st, .no => false :: st
  | a :: st, .nt => (!a) :: st
  | b :: a :: st, .an => (a && b) :: st
  | b :: a :: st, .orr => (a || b) :: st
  | b :: a :: st, .sm => (a == b) :: st
  | st, _ => st
def run (v : Nat → Bool) (st : List Bool) (ws : List Wd) : List Bool := ws.foldl (stp v) st
/-- whether a saying holds -/
def sval (v : Nat → Bool) (ws : List Wd) : Bool := (run v [] ws).headD false
/-- one step: the word fits the heap -/
theorem ht_step {st : List Bool} {w : Wd} {r : List Wd} {k : Nat} (v : Nat → Bool) (h : ht st.length (w :: r) = some k) : ht (stp v st w).length r = some k := by
  cases w with
  | lt c => exact h
  | yes => exact h
  | no => exact h
  | nt =>
    unfold ht at h
    match st, h with
    | [], h => cases h
    | a :: st, h => exact h
  | an =>
    unfold ht at h
    match st, h with
    | [], h => cases h
    | [a], h => cases h
    | b :: a :: st, h => exact h
  | orr =>
    unfold ht at h
    match st, h with
    | [], h => cases h
    | [a], h => cases h
    | b :: a :: st, h => exact h
  | sm =>
    unfold ht at h
    match st, h with
    | [], h => cases h
    | [a], h => cases h
    | b :: a :: st, h => exact h
theorem ht_nt {st : List Bool} {r : List Wd} {k : Nat} (h : ht st.length (.nt :: r) = some k) : ∃ a s, st = a :: s := by
  unfold ht at h
  match st, h with
  | [], h => cases h
  | a :: s, _ => exact ⟨a, s, rfl⟩
theorem ht_jn {st : List Bool} {w : Wd} {r : List Wd} {k : Nat} (hw : Jn w) (h : ht st.length (w :: r) = some k) : ∃ b a s, st = b :: a :: s := by
  cases hw <;>
  · unfold ht at h
    match st, h with
    | [], h => cases h
    | [a], h => cases h
    | b :: a :: s, _ => exact ⟨b, a, s, rfl⟩
theorem run_cons (v : Nat → Bool) (st : List Bool) (w : Wd) (r : List Wd) : run v st (w :: r) = run v (stp v st w) r := rfl
theorem run_len (v : Nat → Bool) : ∀ (ws : List Wd) (st : List Bool) (k : Nat), ht st.length ws = some k → (run v st ws).length = k
  | [], st, k, h => Option.some.inj h
  | w :: r, st, k, h => run_len v r (stp v st w) k (ht_step v h)
theorem run_sy {cs : List Nat} {ws : List Wd} (v : Nat → Bool) (h : Sy cs ws) : run v [] ws = [sval v ws] := by
  have := run_len v ws [] 1 h.ht
  unfold sval
  match run v [] ws, this with
  | [b], _ => rfl
theorem sg_ne {c : Nat} {x : Str} (h : x.cps.size ≠ 1) : sg c ≠ x := by
  intro e
  rw [← e] at h
  exact h rfl
def Wd.isLt : Wd → Bool
  | .lt _ => true
  | _ => false
/-- a word is this one, by its text -/
theorem wd_eq (w u : Wd) (hu : u.isLt = false) : decide (wv w = wv u) = decide (w = u) := by
  cases w with
  | lt c =>
    have : sg c ≠ u.s := by
      cases u <;> first | (exact absurd (show true = false from hu) (by decide)) | exact sg_ne (by decide +kernel)
    have e : decide (wv (.lt c) = wv u) = false := decide_eq_false (fun e => this (V.str.inj e))
    rw [e]
    cases u <;> first | (exact absurd (show true = false from hu) (by decide)) | rfl
  | _ => cases u <;> first | (exact absurd (show true = false from hu) (by decide)) | decide +kernel
end B
namespace B
open PySem PySem.Spec PyProof.Rows L2
def bc (b : Bool) : Nat := if b then 49 else 48
/-- a world's text -/
def wtx (bs : List Bool) : Str := tx (bs.map bc)
/-- the letter c at the world bs over the letters cs -/
def vl (cs : List Nat) (bs : List Bool) (c : Nat) : Bool := bs.getD (cs.idxOf c) false
theorem idx_first : ∀ {cs : List Nat} {c i : Nat}, cs[i]? = some c → (∀ k, k < i → cs[k]? ≠ some c) → cs.idxOf c = i
  | [], c, i, h, _ => by simp at h
  | a :: r, c, 0, h, _ => by
    have e : a = c := Option.some.inj h
    subst e
    simp
  | a :: r, c, i + 1, h, n => by
    have h0 : a ≠ c := fun e => n 0 (by omega) (by rw [e]; rfl)
    have ih := idx_first (cs := r) (c := c) (i := i) h fun k hk e => n (k + 1) (by omega) e
    rw [List.idxOf_cons, ih]
    have hb : (a == c) = false := beq_eq_false_iff_ne.mpr h0
    rw [hb]
    rfl
theorem letter_at {cs : List Nat} {c : Nat} (h : c ∈ cs) : ∃ i : Nat, cs.idxOf c = i ∧ cs[i]? = some c ∧ Txt.find (tx cs) (sg c) = (i : Int) ∧ Builtin.Str.occurrences (tx cs) (sg c) 0 (tx cs).length 1 = [i] := by
  obtain ⟨i, h1, h2, h3, h4⟩ := find_sign h
  exact ⟨i, idx_first h3 h4, h3, h1, h2⟩
theorem bc_int (b : Bool) : PySem.intText? (sg (bc b)) = some (if b then 1 else 0) := by
  cases b <;> decide +kernel
/-- the world with this number over n letters -/
def bitsN : Nat → Nat → List Bool
  | 0, _ => []
  | n + 1, k => decide (k / 2 ^ n % 2 = 1) :: bitsN n k
theorem bitsN_len : ∀ n k, (bitsN n k).length = n
  | 0, _ => rfl
  | n + 1, k => by
    rw [bitsN, List.length_cons, bitsN_len n k]
/-- all worlds over n letters, rising -/
def allW (n : Nat) : List (List Bool) := (List.range (2 ^ n)).map (bitsN n)
theorem allW_len {n : Nat} {bs : List Bool} (h : bs ∈ allW n) : bs.length = n := by
  obtain ⟨k, _, rfl⟩ := List.mem_map.mp h
  exact bitsN_len n k
/-- the values are these sayings -/
def Rws (K : PySem.W.Frag) (H : Hp) : List V → List (List Wd) → Prop
  | [], [] => True
  | v :: vs, r :: rs => (∃ a, v = .ref a ∧ SqT K H a (r.map wv)) ∧ Rws K H vs rs
  | _, _ => False
theorem Rws.len {K : PySem.W.Frag} {H : Hp} : ∀ {vs : List V} {rs : List (List Wd)}, Rws K H vs rs → vs.length = rs.length
  | [], [], _ => rfl
  | _ :: vs, _ :: rs, h => by rw [List.length_cons, List.length_cons, Rws.len h.2]
theorem Rws.mono {K : PySem.W.Frag} {H H' : Hp} (k : ∀ a xs, SqT K H a xs → SqT K H' a xs) : ∀ {vs : List V} {rs : List (List Wd)}, Rws K H vs rs → Rws K H' vs rs
  | [], [], _ => trivial
  | _ :: _, _ :: _, h => ⟨by obtain ⟨a, e, q⟩ := h.1; exact ⟨a, e, k _ _ q⟩, Rws.mono k h.2⟩
theorem Rws.get {K : PySem.W.Frag} {H : Hp} : ∀ {vs : List V} {rs : List (List Wd)} {j : Nat} {r : List Wd}, Rws K H vs rs → rs[j]? = some r → ∃ a, vs[j]? = some (.ref a) ∧ SqT K H a (r.map wv)
  | [], [], j, r, _, e => by simp at e
  | v :: vs, q :: rs, 0, r, h, e => by
    obtain ⟨a, rfl, z⟩ := h.1
    have e : q = r := Option.some.inj e
    subst e
    exact ⟨a, rfl, z⟩
  | _ :: vs, _ :: rs, j + 1, r, h, e => Rws.get (vs := vs) (rs := rs) (j := j) h.2 (by simpa using e)
theorem Rws.getV {K : PySem.W.Frag} {H : Hp} : ∀ {vs : List V} {rs : List (List Wd)} {j : Nat} {v : V}, Rws K H vs rs → vs[j]? = some v → ∃ a r, v = .ref a ∧ rs[j]? = some r ∧ SqT K H a (r.map wv)
  | [], [], j, r, _, e => by simp at e
  | v :: vs, q :: rs, 0, r, h, e => by
    obtain ⟨a, e1, z⟩ := h.1
    have e : v = r := Option.some.inj e
    subst e
    exact ⟨a, q, e1, rfl, z⟩
  | _ :: vs, _ :: rs, j + 1, r, h, e => Rws.getV (vs := vs) (rs := rs) (j := j) h.2 (by simpa using e)
theorem Rws.app {K : PySem.W.Frag} {H : Hp} : ∀ {vs us : List V} {rs ss : List (List Wd)}, Rws K H vs rs → Rws K H us ss → Rws K H (vs ++ us) (rs ++ ss)
  | [], _, [], _, _, h => h
  | _ :: _, _, _ :: _, _, h, h2 => ⟨h.1, Rws.app h.2 h2⟩
theorem Rws.one {K : PySem.W.Frag} {H : Hp} {a : Addr} {r : List Wd} (h : SqT K H a (r.map wv)) : Rws K H [.ref a] [r] := ⟨⟨a, rfl, h⟩, trivial⟩
theorem Rws.take {K : PySem.W.Frag} {H : Hp} : ∀ {vs : List V} {rs : List (List Wd)} (n : Nat), Rws K H vs rs → Rws K H (vs.take n) (rs.take n)
  | [], [], n, _ => by rw [List.take_nil, List.take_nil]; trivial
  | _ :: _, _ :: _, 0, _ => trivial
  | _ :: _, _ :: _, n + 1, h => ⟨h.1, Rws.take n h.2⟩
theorem Rws.drop {K : PySem.W.Frag} {H : Hp} : ∀ {vs : List V} {rs : List (List Wd)} (n : Nat), Rws K H vs rs → Rws K H (vs.drop n) (rs.drop n)
  | [], [], n, _ => by rw [List.drop_nil, List.drop_nil]; trivial
  | _ :: _, _ :: _, 0, h => h
  | _ :: _, _ :: _, n + 1, h => Rws.drop n h.2
theorem Rws.set {K : PySem.W.Frag} {H : Hp} {a : Addr} {r : List Wd} (q : SqT K H a (r.map wv)) : ∀ {vs : List V} {rs : List (List Wd)} (n : Nat), Rws K H vs rs → Rws K H (vs.set n (.ref a)) (rs.set n r)
  | [], [], _, _ => trivial
  | _ :: _, _ :: _, 0, h => ⟨⟨a, rfl, q⟩, h.2⟩
  | _ :: _, _ :: _, n + 1, h => ⟨h.1, Rws.set q n h.2⟩
theorem Rws.same {K : PySem.W.Frag} {H H' : Hp} {vs : List V} {rs : List (List Wd)} (h : Rws K H vs rs) (e : Same H H') : Rws K H' vs rs := h.mono fun _ _ q => Same.tup e q
theorem Rws.kp {K : PySem.W.Frag} {H H' : Hp} {d : Dr} {b : Nat} {vs : List V} {rs : List (List Wd)} (h : Rws K H vs rs) (w : Drw H d b) (e : Kp d H H') : Rws K H' vs rs := h.mono fun _ _ q => Kp.tup e w q
/-- changes of one list alone leave tuples as they are -/
theorem tup_upd {K : PySem.W.Frag} {H : Hp} {l a : Addr} {xs ys : List V} {zs : List V} (hl : H l = some (.lst xs)) (h : SqT K H a ys) : SqT K (upd H l (.lst zs)) a ys := by
  rcases h with (h | ⟨o, h⟩) | h
  · exact .inl (.inl (by rw [upd_ne (ne_of h hl (by intro q; cases q))]; exact h))
  · exact .inl (.inr ⟨o, by rw [upd_ne (ne_of h hl (by intro q; cases q))]; exact h⟩)
  · exact .inr h
theorem Drw.mut {H : Hp} {d : Dr} {b : Nat} {p : Addr} {o : HO} (h : Drw H d b) (n1 : p ≠ d.dr) (n2 : p ≠ d.cl) (n3 : p ≠ d.rs) : Drw (L2.upd H p o) d b := by
  obtain ⟨⟨cs, rr, k, h1, h2, h3, h4⟩, ne⟩ := h
  exact ⟨⟨cs, rr, k, by rw [upd_ne n1.symm]; exact h1, by rw [upd_ne n2.symm]; exact h2, by rw [upd_ne n3.symm]; exact h3, h4⟩, ne⟩
theorem Drw.nc {H : Hp} {d : Dr} {b : Nat} {p : Addr} (h : Drw H d b) (n : H p = none) : p ≠ d.cl := by
  obtain ⟨⟨cs, rr, k, h1, h2, h3, h4⟩, ne⟩ := h
  exact (ne_of_none h2 n).symm
theorem iteW {w u : Wd} {A B : Prop} (hu : u.isLt = false) (h1 : w = u → A) (h2 : w ≠ u → B) : if decide (wv w = wv u) = true then A else B := by
  rw [wd_eq w u hu]
  exact ite2 (fun e => h1 (of_decide_eq_true e)) (fun e => h2 fun z => e (decide_eq_true z))
/-- what a word that wants nothing lays upon the heap -/
def lv (v : Nat → Bool) : Wd → Bool
  | .lt c => v c
  | .yes => true
  | _ => false
inductive Lf (cs : List Nat) : Wd → Prop
  | lt {c : Nat} (h : c ∈ cs) : Lf cs (.lt c)
  | yes : Lf cs .yes
  | no : Lf cs .no
theorem last_ix {xs : List V} {y : V} : ixN (xs ++ [y]).length (-1) = some xs.length := by
  unfold ixN
  rw [List.length_append]
  show (if (0 : Int) ≤ -1 then _ else if -((xs.length + 1 : Nat) : Int) ≤ -1 then some (-1 + ((xs.length + 1 : Nat) : Int)).toNat else none) = _
  rw [if_neg (by decide), if_pos (by omega)]
  congr 1
  omega
theorem last_set {xs : List V} {y z : V} : (xs ++ [y]).set xs.length z = xs ++ [z] := by
  rw [List.set_append_right _ _ (Nat.le_refl _), Nat.sub_self]
  rfl
def bi (b : Bool) : Int := if b then 1 else 0
def hq (st : List Bool) : List V := st.reverse.map fun b => V.int (bi b)
theorem hq_cons (b : Bool) (st : List Bool) : hq (b :: st) = hq st ++ [.int (bi b)] := by
  unfold hq
  rw [List.reverse_cons, List.map_append]
  rfl
theorem hq_len (st : List Bool) : (hq st).length = st.length := by
  unfold hq
  rw [List.length_map, List.length_reverse]
theorem at_last2 {xs : List V} {y z : V} : atI (xs ++ [y] ++ [z]) (-2) = some y := by
  unfold atI ixN
  rw [List.length_append, List.length_append]
  show (if (0 : Int) ≤ -2 then _ else if -((xs.length + 1 + 1 : Nat) : Int) ≤ -2 then some (-2 + ((xs.length + 1 + 1 : Nat) : Int)).toNat else none).bind _ = _
  rw [if_neg (by decide), if_pos (by omega)]
  have e : (-2 + ((xs.length + 1 + 1 : Nat) : Int)).toNat = xs.length := by omega
  rw [e]
  show (xs ++ [y] ++ [z])[xs.length]? = _
  rw [List.append_assoc, List.getElem?_append_right (Nat.le_refl _), Nat.sub_self]
  rfl
theorem cut2 {xs : List V} {y z : V} : cutV (xs ++ [y] ++ [z]) none (some (-2)) = xs ∧ cutV (xs ++ [y] ++ [z]) (some (-2)) none = [y, z] := by
  rw [cut_last2, cut_end2, List.append_assoc, List.length_append]
  show (xs ++ [y, z]).take (xs.length + 2 - 2) = xs ∧ (xs ++ [y, z]).drop (xs.length + 2 - 2) = [y, z]
  rw [Nat.add_sub_cancel]
  exact ⟨List.take_left, List.drop_left⟩
/-- letters: a rising row of small letters -/
structure Ls (n : Nat) (cs : List Nat) : Prop where
  pos : 1 ≤ cs.length
  most : cs.length ≤ n
  rise : cs.Pairwise (· < ·)
  small : ∀ c ∈ cs, 97 ≤ c ∧ c < 123
theorem eraseIdx_map {α β : Type} (f : α → β) : ∀ (l : List α) (n : Nat), (l.map f).eraseIdx n = (l.eraseIdx n).map f
  | [], _ => rfl
  | _ :: _, 0 => rfl
  | a :: r, n + 1 => by
    rw [List.map_cons, List.eraseIdx_cons_succ, List.eraseIdx_cons_succ, List.map_cons, eraseIdx_map f r n]
theorem perm_erase : ∀ {l : List Nat} {n c : Nat}, l[n]? = some c → ([c] ++ l.eraseIdx n).Perm l
  | [], n, c, h => by simp at h
  | a :: r, 0, c, h => by
    have e : a = c := Option.some.inj h
    subst e
    exact List.Perm.refl _
  | a :: r, n + 1, c, h => by
    have ih := perm_erase (l := r) (n := n) (c := c) (by simpa using h)
    rw [List.eraseIdx_cons_succ]
    exact (List.Perm.swap a c (r.eraseIdx n)).trans (List.Perm.cons a ih)
theorem perm_sg {ys : List Str} {fd : List Nat} (h : ys.Perm (fd.map sg)) : ∃ zs : List Nat, ys = zs.map sg ∧ zs.Perm fd := by
  refine ⟨ys.map fun z => z.cps.toList.headD 0, ?_, ?_⟩
  · rw [List.map_map]
    refine (List.map_id ys).symm.trans (List.map_congr_left fun y hy => ?_)
    obtain ⟨c, _, rfl⟩ := List.mem_map.mp (h.mem_iff.mp hy)
    rfl
  · have := h.map fun z : Str => z.cps.toList.headD 0
    rw [List.map_map] at this
    have e : fd.map ((fun z : Str => z.cps.toList.headD 0) ∘ sg) = fd := by
      refine (List.map_congr_left fun c _ => ?_).trans (List.map_id fd)
      rfl
    rw [e] at this
    exact this
theorem sum_one : ∀ zs : List Nat, (zs.map ((fun x : Str => x.length) ∘ sg)).sum = zs.length
  | [] => rfl
  | z :: r => by
    rw [List.map_cons, List.sum_cons, sum_one r, List.length_cons]
    show 1 + r.length = r.length + 1
    omega
theorem joinL_nil : ∀ l : List (List Nat), TL.joinL [] l = l.flatten
  | [] => rfl
  | [p] => by
    show p = p ++ []
    rw [List.append_nil]
  | p :: q :: r => by
    show p ++ ([] ++ TL.joinL [] (q :: r)) = p ++ (q :: r).flatten
    rw [List.nil_append, joinL_nil]
theorem flat_one : ∀ zs : List Nat, (zs.map fun c => [c]).flatten = zs
  | [] => rfl
  | z :: r => by
    show z :: (r.map fun c => [c]).flatten = z :: r
    rw [flat_one r]
theorem join_sg (zs : List Nat) : Txt.join "" (zs.map sg) = tx zs := by
  rw [TL.join_eq]
  refine TL.ext_tl ?_
  rw [TL.tl_join, List.map_map]
  show TL.joinL [] (zs.map fun c => [c]) = zs
  rw [joinL_nil, flat_one]
theorem ltCps_one (a b : Nat) : ltCps [a] [b] = decide (a < b) := by
  by_cases h : a < b
  · rw [decide_eq_true h]; simp [ltCps, h]
  · rw [decide_eq_false h]; simp [ltCps, h]
theorem rise_from : ∀ (p : Nat) (zs : List Nat), (p :: zs).Nodup → risingS (sg p) (zs.map sg) = true → (p :: zs).Pairwise (· < ·)
  | p, [], _, _ => List.pairwise_singleton _ _
  | p, z :: r, nd, h => by
    have h : (!ltCps [z] [p] && risingS (sg z) (r.map sg)) = true := h
    rw [Bool.and_eq_true] at h
    have nd2 := (List.nodup_cons.mp nd).2
    have ih := rise_from z r nd2 h.2
    have hle : ¬ z < p := by
      have := h.1
      rw [ltCps_one] at this
      simpa using this
    have hne : p ≠ z := fun e => (List.nodup_cons.mp nd).1 (by rw [e]; exact List.mem_cons_self ..)
    refine List.pairwise_cons.mpr ⟨fun x hx => ?_, ih⟩
    rcases List.mem_cons.mp hx with rfl | hx
    · omega
    · have := (List.pairwise_cons.mp ih).1 x hx
      omega
theorem rise_of {zs : List Nat} (nd : zs.Nodup) (h : sortedS (zs.map sg) = true) : zs.Pairwise (· < ·) := by
  cases zs with
  | nil => exact List.Pairwise.nil
  | cons z r => exact rise_from z r nd h
theorem cut_take (xs : List V) (j : Nat) : cutV xs none (some (j : Int)) = xs.take j := by
  unfold cutV
  rw [HT.sIx_none, HT.sIx_nat, List.drop_zero, Nat.sub_zero]
  rcases Nat.le_total j xs.length with h | h
  · rw [Nat.min_eq_left h]
  · rw [Nat.min_eq_right h, List.take_length, List.take_of_length_le h]
theorem cut_drop (xs : List V) (j : Nat) : cutV xs (some (j : Int)) none = xs.drop j := by
  unfold cutV
  rw [HT.sIx_none, HT.sIx_nat]
  rcases Nat.le_total j xs.length with h | h
  · rw [Nat.min_eq_left h, List.take_of_length_le (by rw [List.length_drop]; omega)]
  · rw [Nat.min_eq_right h, List.drop_length, List.take_nil, List.drop_of_length_le h]
theorem split2 {α : Type} {rs : List α} {j : Nat} {a b : α} (h1 : rs[j]? = some a) (h2 : rs[j + 1]? = some b) : rs = rs.take j ++ [a, b] ++ rs.drop (j + 2) := by
  obtain ⟨l1, e1⟩ := List.getElem?_eq_some_iff.mp h1
  obtain ⟨l2, e2⟩ := List.getElem?_eq_some_iff.mp h2
  have d1 : rs.drop j = a :: rs.drop (j + 1) := by rw [List.drop_eq_getElem_cons l1, e1]
  have d2 : rs.drop (j + 1) = b :: rs.drop (j + 2) := by rw [List.drop_eq_getElem_cons l2, e2]
  rw [List.append_assoc]
  show rs = rs.take j ++ (a :: b :: rs.drop (j + 2))
  rw [← d2, ← d1, List.take_append_drop]
/-- how many words there are in all -/
def tot (rs : List (List Wd)) : Nat := (rs.map List.length).sum
theorem tot_app (a b : List (List Wd)) : tot (a ++ b) = tot a + tot b := by
  unfold tot
  rw [List.map_append, List.sum_append]
theorem Kp.free {d : Dr} {H H' : Hp} {b : Nat} {p : Addr} (k : Kp d H H') (w : Drw H' d b) (n : H' p = none) : H p = none := by
  cases e : H p with
  | none => rfl
  | some o =>
    have := k p o e (w.no n).1 (w.no n).2
    rw [n] at this
    cases this
theorem flat_rep {α : Type} (x : α) : ∀ n : Nat, (List.replicate n [x]).flatten = List.replicate n x
  | 0 => rfl
  | n + 1 => by
    rw [List.replicate_succ, List.flatten_cons, flat_rep x n, List.replicate_succ]
    rfl
def wdat (r : List Wd) : PyData := .tuple (r.map fun w => .str w.s)
theorem wd_ok {cs : List Nat} (hs : ∀ c ∈ cs, c < 123) (w : Wd) (h : ∀ c, w = .lt c → c ∈ cs) : PyData.strOk w.s = true := by
  cases w with
  | lt c =>
    have := hs c (h c rfl)
    show (#[c] : Array Nat).all _ = true
    simp
    omega
  | _ => decide +kernel
theorem wdat_ok {cs : List Nat} (hs : ∀ c ∈ cs, c < 123) : ∀ (r : List Wd), (∀ c, Wd.lt c ∈ r → c ∈ cs) → PyData.canLayAll0 (r.map fun w => .str w.s) = true
  | [], _ => rfl
  | w :: r, h => by
    show (PyData.strOk w.s && PyData.canLayAll0 (r.map fun w => .str w.s)) = true
    rw [wd_ok hs w (fun c e => h c (by rw [e]; exact List.mem_cons_self ..)), wdat_ok hs r fun c hc => h c (List.mem_cons_of_mem _ hc)]
    rfl
theorem wdat_depth : ∀ r : List Wd, PyData.depthAll (r.map fun w => PyData.str w.s) = 0
  | [] => rfl
  | w :: r => by
    show max 0 (PyData.depthAll (r.map fun w => PyData.str w.s)) = 0
    rw [wdat_depth r]
    rfl
theorem wdp_all {K : PySem.W.Frag} {H : Hp} : ∀ r : List Wd, DpAll K H (r.map wv) (r.map fun w => .str w.s)
  | [] => .nil
  | w :: r => .cons (.str w.s) (wdp_all r)
theorem wdp {K : PySem.W.Frag} {H : Hp} {a : Addr} {r : List Wd} (h : SqT K H a (r.map wv)) : Dp K H (.ref a) (wdat r) := .tup h (wdp_all r)
theorem Rws.dp {K : PySem.W.Frag} {H : Hp} : ∀ {vs : List V} {rs : List (List Wd)}, Rws K H vs rs → DpAll K H vs (rs.map wdat)
  | [], [], _ => .nil
  | _ :: _, _ :: _, h => by
    obtain ⟨a, rfl, q⟩ := h.1
    exact .cons (wdp q) (Rws.dp h.2)
theorem rows_ok {cs : List Nat} (hs : ∀ c ∈ cs, c < 123) : ∀ (rs : List (List Wd)), (∀ r ∈ rs, ∀ c, Wd.lt c ∈ r → c ∈ cs) → PyData.canLayAll0 (rs.map wdat) = true ∧ PyData.depthAll (rs.map wdat) ≤ 1
  | [], _ => ⟨rfl, by decide⟩
  | r :: rs, h => by
    have ih := rows_ok hs rs fun x hx => h x (List.mem_cons_of_mem _ hx)
    have e1 : (wdat r).canLay0 = true := wdat_ok hs r (h r (List.mem_cons_self ..))
    have e2 : (wdat r).depth = 1 := by
      show PyData.depthAll (r.map fun w => PyData.str w.s) + 1 = 1
      rw [wdat_depth]
    refine ⟨?_, ?_⟩
    · show ((wdat r).canLay0 && PyData.canLayAll0 (rs.map wdat)) = true
      rw [e1, ih.1]
      rfl
    · show max (wdat r).depth (PyData.depthAll (rs.map wdat)) ≤ 1
      rw [e2]
      omega
theorem rows_shaped {cs : List Nat} (hs : ∀ c ∈ cs, c < 123) {rs : List (List Wd)} (h : ∀ r ∈ rs, ∀ c, Wd.lt c ∈ r → c ∈ cs) : SeqAt.shaped (.list (rs.map wdat)) = true := by
  obtain ⟨a, b⟩ := rows_ok hs rs h
  unfold SeqAt.shaped
  have e1 : (PyData.list (rs.map wdat)).canLay0 = true := a
  have e2 : (PyData.list (rs.map wdat)).depth ≤ 64 := by
    show PyData.depthAll (rs.map wdat) + 1 ≤ 64
    omega
  rw [e1, decide_eq_true e2]
  rfl
theorem eqv_nil (ds : List PyData) : PyData.eqv (.list ds) (.list []) = ds.isEmpty := by
  cases ds <;> rfl
theorem pow_at {n : Nat} (h : n ≤ 6) : atI [V.int 1, V.int 2, V.int 4, V.int 8, V.int 16, V.int 32, V.int 64] (n : Int) = some (.int ((2 ^ n : Nat) : Int)) := by
  have : n = 0 ∨ n = 1 ∨ n = 2 ∨ n = 3 ∨ n = 4 ∨ n = 5 ∨ n = 6 := by omega
  rcases this with rfl | rfl | rfl | rfl | rfl | rfl | rfl <;> rfl
theorem tx_app (a b : List Nat) : tx a ++ tx b = tx (a ++ b) := TL.ext_tl (by rw [TL.tl_append]; rfl)
theorem digit_cons (k : Nat) (bs : List Bool) : (Str.ofString (toString ((k : Int) % 2)) : Str) ++ wtx bs = wtx (decide (k % 2 = 1) :: bs) := by
  have h : k % 2 = 0 ∨ k % 2 = 1 := by omega
  have e : ((k : Int) % 2) = ((k % 2 : Nat) : Int) := rfl
  rw [e]
  rcases h with h | h
  · rw [h]
    show (Str.ofString (toString ((0 : Nat) : Int)) : Str) ++ tx (bs.map bc) = tx (48 :: bs.map bc)
    rw [show (Str.ofString (toString ((0 : Nat) : Int)) : Str) = tx [48] by decide +kernel, tx_app]
    rfl
  · rw [h]
    show (Str.ofString (toString ((1 : Nat) : Int)) : Str) ++ tx (bs.map bc) = tx (49 :: bs.map bc)
    rw [show (Str.ofString (toString ((1 : Nat) : Int)) : Str) = tx [49] by decide +kernel, tx_app]
    rfl
theorem digit_len (k : Nat) : (Str.ofString (toString ((k : Int) % 2)) : Str).length = 1 := by
  have h : k % 2 = 0 ∨ k % 2 = 1 := by omega
  have e : ((k : Int) % 2) = ((k % 2 : Nat) : Int) := rfl
  rw [e]
  rcases h with h | h <;> rw [h] <;> decide +kernel
theorem take_filter {α : Type} (P : α → Bool) (l : List α) (i : Nat) (x : α) (h : l[i]? = some x) : (l.take (i + 1)).filter P = (l.take i).filter P ++ (if P x then [x] else []) := by
  rw [List.take_add_one, h, List.filter_append]
  congr 1
  show (List.filter P [x]) = _
  cases e : P x <;> simp [e]
theorem allW_get {n i : Nat} (h : i < 2 ^ n) : (allW n)[i]? = some (bitsN n i) := by
  unfold allW
  rw [List.getElem?_map, List.getElem?_range h]
  rfl
theorem allW_length (n : Nat) : (allW n).length = 2 ^ n := by
  unfold allW
  rw [List.length_map, List.length_range]
/-- the worlds at which all rules hold -/
def wor (cs : List Nat) (rs : List (List Wd)) : List (List Bool) := (allW cs.length).filter fun bs => rs.all fun r => sval (vl cs bs) r
def wvs (l : List (List Bool)) : List V := l.map fun bs => V.str (wtx bs)
theorem all_take {α : Type} (P : α → Bool) (l : List α) (i : Nat) (x : α) (h : l[i]? = some x) : (l.take (i + 1)).all P = ((l.take i).all P && P x) := by
  rw [List.take_add_one, h, List.all_append]
  show (_ && (P x && true)) = _
  rw [Bool.and_true]
end B
namespace B
open PySem PySem.Spec PyProof.Rows L2
def two (w : List Bool) : List (List Bool) := [w ++ [false], w ++ [true]]
theorem wtx_snoc (w : List Bool) (b : Bool) : wtx w ++ sg (bc b) = wtx (w ++ [b]) := by
  unfold wtx
  rw [sg_tx, tx_app, List.map_append]
  rfl
/-- a house stands at p: letters cs, rules rs -/
structure HsAt (K : PySem.W.Frag) (H : Hp) (p : Addr) (cs : List Nat) (rs : List (List Wd)) : Prop where
  ex : ∃ (ra : Addr) (rvs : List V), SqT K H p [.str (tx cs), .ref ra] ∧ SqT K H ra rvs ∧ Rws K H rvs rs
theorem HsAt.mono {K : PySem.W.Frag} {H H' : Hp} {p : Addr} {cs : List Nat} {rs : List (List Wd)} (k : ∀ a xs, SqT K H a xs → SqT K H' a xs) (h : HsAt K H p cs rs) : HsAt K H' p cs rs := by
  obtain ⟨ra, rvs, a, b, c⟩ := h
  exact ⟨ra, rvs, k _ _ a, k _ _ b, c.mono k⟩
theorem HsAt.same {K : PySem.W.Frag} {H H' : Hp} {p : Addr} {cs : List Nat} {rs : List (List Wd)} (h : HsAt K H p cs rs) (e : Same H H') : HsAt K H' p cs rs := h.mono fun _ _ q => Same.tup e q
/-- what holds of letters and rules of a house -/
structure HsOk (cs : List Nat) (rs : List (List Wd)) : Prop where
  c6 : cs.length ≤ 6
  sm : ∀ c ∈ cs, c < 123
  sy : ∀ r ∈ rs, Sy cs r ∧ r.length ≤ 40
  few : rs.length ≤ 20
theorem wor_len {cs : List Nat} {rs : List (List Wd)} {bs : List Bool} (h : bs ∈ wor cs rs) : bs.length = cs.length := allW_len (List.mem_filter.mp h).1
theorem wor_le {cs : List Nat} {rs : List (List Wd)} (h : cs.length ≤ 6) : (wor cs rs).length ≤ 64 := by
  unfold wor
  refine Nat.le_trans (List.length_filter_le _ _) ?_
  rw [allW_length]
  exact Nat.le_trans (Nat.pow_le_pow_right (by decide) h) (by decide)
theorem any_map_id {α : Type} (f : α → Bool) (l : List α) : (l.map f).any id = l.any f := by
  rw [List.any_map]
  rfl
def wsdat (l : List (List Bool)) : PyData := .tuple (l.map fun bs => .str (wtx bs))
theorem wtx_ok (bs : List Bool) : PyData.strOk (wtx bs) = true := by
  show (bs.map bc).toArray.all _ = true
  rw [List.all_toArray, List.all_map, List.all_eq_true]
  intro b _
  cases b <;> decide
theorem wsdat_ok : ∀ l : List (List Bool), PyData.canLayAll0 (l.map fun bs => .str (wtx bs)) = true ∧ PyData.depthAll (l.map fun bs => PyData.str (wtx bs)) = 0
  | [] => ⟨rfl, rfl⟩
  | b :: l => by
    obtain ⟨h1, h2⟩ := wsdat_ok l
    refine ⟨?_, ?_⟩
    · show (PyData.strOk (wtx b) && PyData.canLayAll0 (l.map fun bs => .str (wtx bs))) = true
      rw [wtx_ok, h1]
      rfl
    · show max 0 (PyData.depthAll (l.map fun bs => PyData.str (wtx bs))) = 0
      rw [h2]
      rfl
theorem wsdat_shaped (l : List (List Bool)) : SeqAt.shaped (wsdat l) = true := by
  obtain ⟨h1, h2⟩ := wsdat_ok l
  unfold SeqAt.shaped
  have e1 : (wsdat l).canLay0 = true := h1
  have e2 : (wsdat l).depth = 1 := by
    show PyData.depthAll (l.map fun bs => PyData.str (wtx bs)) + 1 = 1
    rw [h2]
  rw [e1, e2]
  rfl
theorem wsdp_all {K : PySem.W.Frag} {H : Hp} : ∀ l : List (List Bool), DpAll K H (wvs l) (l.map fun bs => .str (wtx bs))
  | [] => .nil
  | b :: l => .cons (.str (wtx b)) (wsdp_all l)
theorem wsdp {K : PySem.W.Frag} {H : Hp} {a : Addr} {l : List (List Bool)} (h : SqT K H a (wvs l)) : Dp K H (.ref a) (wsdat l) := .tup h (wsdp_all l)
theorem eqv_nilT (ds : List PyData) : PyData.eqv (.tuple ds) (.tuple []) = ds.isEmpty := by
  cases ds <;> rfl
theorem ws_empty (l : List (List Bool)) : PyData.eqv (wsdat l) (.tuple []) = l.isEmpty := by
  unfold wsdat
  rw [eqv_nilT, List.isEmpty_map]
def hdat (cs : List Nat) (rs : List (List Wd)) : PyData := .tuple [.str (tx cs), .tuple (rs.map wdat)]
theorem tx_ok {cs : List Nat} (h : ∀ c ∈ cs, c < 123) : PyData.strOk (tx cs) = true := by
  show cs.toArray.all _ = true
  rw [List.all_toArray, List.all_eq_true]
  intro c hc
  exact decide_eq_true (Nat.lt_of_lt_of_le (h c hc) (by decide))
theorem hdat_ok {cs : List Nat} {rs : List (List Wd)} (h : HsOk cs rs) : (hdat cs rs).canLay0 = true ∧ (hdat cs rs).depth ≤ 3 := by
  obtain ⟨a, b⟩ := rows_ok h.sm rs fun r hr => (h.sy r hr).1.lt
  refine ⟨?_, ?_⟩
  · show (PyData.strOk (tx cs) && (PyData.canLayAll0 (rs.map wdat) && true)) = true
    rw [tx_ok h.sm, a]
    rfl
  · show max 0 (max (PyData.depthAll (rs.map wdat) + 1) 0) + 1 ≤ 3
    omega
theorem hdat_shaped {cs : List Nat} {rs : List (List Wd)} (h : HsOk cs rs) : SeqAt.shaped (hdat cs rs) = true := by
  obtain ⟨a, b⟩ := hdat_ok h
  unfold SeqAt.shaped
  rw [a, decide_eq_true (Nat.le_trans b (by decide))]
  rfl
theorem hdat_eqv {cs : List Nat} {rs : List (List Wd)} (h : HsOk cs rs) : PyData.eqv (hdat cs rs) (hdat cs rs) = true := SeqAt.eqv_refl _ (hdat_ok h).1
theorem hdp {K : PySem.W.Frag} {H : Hp} {p : Addr} {cs : List Nat} {rs : List (List Wd)} (h : HsAt K H p cs rs) : Dp K H (.ref p) (hdat cs rs) := by
  obtain ⟨ra, rvs, a, b, c⟩ := h
  exact .tup a (.cons (.str _) (.cons (.tup b c.dp) .nil))
theorem cutS_take (l : List Nat) (j : Nat) (h : j ≤ l.length) : cutS (tx l) none (some (j : Int)) = tx (l.take j) := by
  unfold cutS
  rw [HT.sIx_none, HT.sIx_nat, List.drop_zero, Nat.sub_zero]
  show tx (l.take (min j l.length)) = _
  rw [Nat.min_eq_left h]
end B
namespace B
open PySem PySem.Spec PyProof.Rows L2
section
variable {prog : Program} {w : World} {A : Around} {E : Value → Shared → Prop} {s : Shared}
/-- texts by their code points -/
def svO : Value → Str
  | .str x _ => x
  | _ => Str.empty
def ltSv (v u : Value) : Bool := decide ((svO v).cps.toList < (svO u).cps.toList)
theorem swo_str : SrtO.Swo ltSv := by
  refine ⟨fun x y h => ?_, fun x y z h1 h2 => ?_⟩
  · exact decide_eq_false (List.lt_asymm (of_decide_eq_true h))
  · have a := of_decide_eq_false h1
    have b := of_decide_eq_false h2
    exact decide_eq_false (List.le_trans (List.not_lt.mp a) (List.not_lt.mp b) |> List.not_lt.mpr)
theorem str_cmp {vs : List Value} {ss : List Str} (hS : StrsAre vs ss) : SrtO.Cmp prog w A s oneType' (fun p => p.1 ∈ vs) (SrtO.lt2 ltSv) := by
  intro p q hm hm'
  obtain ⟨a, t, e⟩ := hS.all _ hm
  obtain ⟨b, u, e'⟩ := hS.all _ hm'
  show wpAny (model prog w) A (keyLt' oneType' p.1 q.1) (fun r s' => s' = s ∧ r = ltSv p.1 q.1) (fun _ _ => False) s
  rw [e, e', keyLt'_oneType]
  exact oneLt_str ⟨rfl, rfl⟩
theorem str_sortable {a : Addr} {vs : List Value} {ss : List Str} (hS : StrsAre vs ss) (h2 : 2 ≤ vs.length) : SrtO.SortableO prog w A s a vs ltSv := by
  intro h' _
  refine ⟨oneType', fun Q E hq => ?_, str_cmp hS⟩
  match vs, hS, h2 with
  | v1 :: v2 :: rest, hS, _ =>
    rw [keyKind_strs hS]
    exact wpAny_pure hq
  | [], _, h => exact absurd h (by decide)
  | [v], _, h => exact absurd h (by simp)
theorem vals_strsO : ∀ {out : List Value}, (∀ v ∈ out, ∃ x t, v = Value.str x t) → Vals ((out.map svO).map V.str) out
  | [], _ => .nil
  | v :: r, h => by
    obtain ⟨x, t, rfl⟩ := h v List.mem_cons_self
    exact .cons ⟨t, rfl⟩ (vals_strsO fun u hu => h u (List.mem_cons_of_mem _ hu))
theorem svO_strs : ∀ {vs : List Value} {ss : List Str}, StrsAre vs ss → vs.map svO = ss
  | _, _, .nil => rfl
  | _, _, .cons x t r => congrArg (x :: ·) (svO_strs r)
end
end B
namespace B
open PySem PySem.Spec PyProof.Rows L2
inductive F2 {α β : Type} (R : α → β → Prop) : List α → List β → Prop
  | nil : F2 R [] []
  | cons {a : α} {b : β} {as : List α} {bs : List β} : R a b → F2 R as bs → F2 R (a :: as) (b :: bs)
namespace F2
variable {α β : Type} {R S : α → β → Prop}
theorem len {as : List α} {bs : List β} (h : F2 R as bs) : as.length = bs.length := by
  induction h with
  | nil => rfl
  | cons _ _ ih => rw [List.length_cons, List.length_cons, ih]
theorem imp {as : List α} {bs : List β} (h : F2 R as bs) (f : ∀ a b, R a b → S a b) : F2 S as bs := by
  induction h with
  | nil => exact .nil
  | cons x _ ih => exact .cons (f _ _ x) ih
theorem app {as as' : List α} {bs bs' : List β} (h : F2 R as bs) (k : F2 R as' bs') : F2 R (as ++ as') (bs ++ bs') := by
  induction h with
  | nil => exact k
  | cons x _ ih => exact .cons x ih
theorem one {a : α} {b : β} (h : R a b) : F2 R [a] [b] := .cons h .nil
end F2
theorem take_one {α : Type} (l : List α) (i : Nat) (x : α) (h : l[i]? = some x) : l.take (i + 1) = l.take i ++ [x] := by
  rw [List.take_add_one, h]
  rfl
end B
namespace B
open PySem PySem.Spec PyProof.Rows L2
theorem wvs_get {wl : List (List Bool)} {j : Nat} {x : V} (h : (wvs wl)[j]? = some x) : ∃ bs, wl[j]? = some bs ∧ x = .str (wtx bs) := by
  unfold wvs at h
  rw [List.getElem?_map] at h
  cases e : wl[j]? with
  | none => rw [e] at h; cases h
  | some bs => rw [e] at h; cases h; exact ⟨bs, rfl, rfl⟩
theorem same_mut {H H' : Hp} {D : Addr} {o : HO} (n : H D = none) (s : Same H H') : Same H (upd H' D o) := fun a x e => by
  rw [upd_ne (ne_of_none e n)]
  exact s _ _ e
end B
namespace B
open PySem PySem.Spec PyProof.Rows L2
end B
namespace B
open PySem PySem.Spec PyProof.Rows L2
end B
namespace B
open PySem PySem.Spec PyProof.Rows L2
end B
namespace B
open PySem PySem.Spec PyProof.Rows L2
/-- tuples stay tuples -/
def Tk (K : PySem.W.Frag) (H H' : Hp) : Prop := ∀ a xs, SqT K H a xs → SqT K H' a xs
theorem Same.tk {K : PySem.W.Frag} {H H' : Hp} (e : Same H H') : Tk K H H' := fun _ _ h => Same.tup e h
section
variable {K : PySem.W.Frag} {a : Addr} {xs : List V} {g : TG} {tt : TT} {te : TE} {vs : List Nat} {σ : L2.St} {H1 : Hp} {D : Addr} {Qd : Hp → Prop} {α β : Type} {R : Hp → V → β → Prop} {IR : V → α → Prop}
end
theorem f2_eq {α : Type} {f : α → V} {vs : List V} {L : List α} (h : F2 (fun v x => v = f x) vs L) : vs = L.map f := by
  induction h with
  | nil => rfl
  | cons e _ ih => rw [e, ih]; rfl
theorem fm_some {α β : Type} (f : α → β) (L : List α) : L.filterMap (fun x => some (f x)) = L.map f := by
  induction L with
  | nil => rfl
  | cons x r ih => rw [List.filterMap_cons, ih]; rfl
end B
namespace B
open PySem PySem.Spec PyProof.Rows L2
/-- the heap that is come to -/
abbrev tgt {H H' : Hp} (_ : Same H H') : Hp := H'
end B
namespace B
open PySem PySem.Spec PyProof.Rows L2
end B
namespace B
open PySem PySem.Spec PyProof.Rows L2
end B
namespace B
open PySem PySem.Spec PyProof.Rows L2
end B
namespace B
open PySem PySem.Spec PyProof.Rows L2
theorem refs_base : PySem.HandSPX.refsVE [.type "ValueError", .type "Exception", .type "BaseException", .type "object"] = true := by decide +kernel
theorem refs_step {r : List Value} {c : Addr} (h : PySem.HandSPX.refsVE r = true) : PySem.HandSPX.refsVE (.ref c :: r) = true := h
end B
namespace B
open PySem PySem.Spec PyProof.Rows L2
end B
namespace B
open PySem PySem.Spec PyProof.Rows L2
end B
namespace B
open PySem PySem.Spec PyProof.Rows L2
section
variable {prog : Program} {w : World} {A : Around} {E : Value → Shared → Prop} {s : Shared}
end
end B
namespace B
open PySem PySem.Spec PyProof.Rows L2
section
open AutoSeq1 (wpAny_loadPart')
end
section
variable {prog : Program} {w : World} {A : Around} {E : Value → Shared → Prop} {s : Shared}
end
end B
namespace B
open PySem PySem.Spec PyProof.Rows L2
section
variable {β : Type} {J : It} {n : Nat} {G : Hp → Prop} {Y : Nat → Hp → V → Hp → Prop} {K : PySem.W.Frag}
end
section
variable {β : Type} {J : It} {n : Nat} {G : Hp → Prop} {Y : Nat → Hp → V → Hp → Prop} {K : PySem.W.Frag}
theorem lcp_it (w : Walk J n G Y) {g : TG} {tt : TT} {te : TE} {vs : List Nat} {σ : L2.St} {H1 : Hp} {D : Addr} {Qd : Hp → Prop} (out : Nat → Option β) (R : Hp → V → β → Prop) (mono : ∀ H H' v y, Tk K H H' → R H v y → R H' v y) (nD : H1 D = none) (sz : n < sizeLine)
    (hG : ∀ H, Same H1 H → G H)
    (hs : ∀ i x H H', i < n → Same H1 H → Y i H x H' → ∀ (Y' : V → Hp → Prop) (N : Hp → Prop), (∀ y H4 z, Same H H4 → out i = some z → R H4 y z → Y' y H4) → (∀ H3, Same H H3 → out i = none → N H3) →
      g x (wipe σ vs) H' fun σ2 H2 => wipe σ2 vs = wipe σ vs ∧ tt σ2 H2 fun b H3 => if b = true then te σ2 H3 Y' else N H3)
    (hd : ∀ H ys, H D = some (.lst ys) → F2 (R H) ys ((List.range n).filterMap out) → Same H1 H → Qd H) :
    ∃ W : Nat → Nat → Hp → Prop, (∃ m, W 0 m (upd H1 D (.lst []))) ∧ ∀ i m H, W i m H →
      (J.stop i H ∧ Qd H) ∨ (J.go i H ∧ ∃ Nx : Hp → Prop, (∀ H', Nx H' → ∃ m', m' < m ∧ W (i + 1) m' H') ∧ ∀ x H', J.yld i H x H' → g x (wipe σ vs) H' fun σ2 H2 => wipe σ2 vs = wipe σ vs ∧ tt σ2 H2 fun b H3 =>
        if b = true then te σ2 H3 fun y H4 => ∃ acc, H4 D = some (.lst acc) ∧ acc.length < sizeLine ∧ Nx (upd H4 D (.lst (acc ++ [y]))) else Nx H3) := by
  refine lc_it w (fun i H => ∃ (ys : List V), H D = some (.lst ys) ∧ F2 (R H) ys ((List.range i).filterMap out) ∧ Same H1 H) ⟨[], upd_same, .nil, same_upd nD⟩ (fun i H _ ⟨_, _, _, k⟩ => hG H k) ?_ ?_
  · rintro i x H H' hi ⟨ys, hD, f, k⟩ y
    have fl := f.len
    have ll : ((List.range i).filterMap out).length ≤ i := Nat.le_trans (List.length_filterMap_le _ _) (Nat.le_of_eq List.length_range)
    have es : (List.range (i + 1)).filterMap out = (List.range i).filterMap out ++ (match out i with | some z => [z] | none => []) := by
      rw [List.range_succ, List.filterMap_append, List.filterMap_cons, List.filterMap_nil]
      cases out i <;> rfl
    refine hs i x H H' hi k y _ _ (fun v H4 z k4 e r => ?_) (fun H3 k3 e => ?_)
    · have hD4 := k4 _ _ hD
      have U := fun a xs h => tup_upd (K := K) (a := a) (ys := xs) (zs := ys ++ [v]) hD4 h
      rw [e] at es
      refine ⟨ys, hD4, by omega, ys ++ [v], upd_same, ?_, same_mut nD (k.trans k4)⟩
      rw [es]
      exact ((f.imp fun _ _ h => mono _ _ _ _ (Same.tk k4) h).app (F2.one r)).imp fun _ _ h => mono _ _ _ _ U h
    · rw [e] at es
      refine ⟨ys, k3 _ _ hD, ?_, k.trans k3⟩
      rw [es, List.append_nil]
      exact f.imp fun _ _ h => mono _ _ _ _ (Same.tk k3) h
  · rintro H ⟨ys, hD, f, k⟩
    exact hd H ys hD f k
end
end B
namespace B
open PySem PySem.Spec PyProof.Rows L2
end B
namespace B
open PySem PySem.Spec PyProof.Rows L2
end B
namespace B
open PySem PySem.Spec PyProof.Rows L2
end B
namespace B
open PySem PySem.Spec PyProof.Rows L2
end B
namespace B
open PySem PySem.Spec PyProof.Rows L2
end B
namespace B
open PySem PySem.Spec PyProof.Rows L2
section
variable {cs : List Nat} {wl : List (List Bool)} {bds : List Bd} {ss : List (Int × Nat)} {pr own : Int × Nat} {ts : List Tm} {bits : List (Int × Nat)}
end
section
variable {cs : List Nat} {wl : List (List Bool)} {bds : List Bd} {ss : List (Int × Nat)} {pr own : Int × Nat} {ts : List Tm} {bits : List (Int × Nat)}
end
end B
namespace B
open PySem PySem.Spec PyProof.Rows L2
theorem last_at {xs : List V} {y : V} : atI (xs ++ [y]) (-1) = some y := by
  show (ixN (xs ++ [y]).length (-1)).bind _ = _
  rw [last_ix]
  simp
end B
namespace B
open PySem PySem.Spec PyProof.Rows L2
end B
namespace B
open PySem PySem.Spec PyProof.Rows L2
end B
namespace B
open PySem PySem.Spec PyProof.Rows L2
section
variable {X : Cx} {pins : List (Addr × Obj)} {σ : L2.St} {H : Hp} {s : Shared}
end
section
variable {X : Cx}
end
end B
namespace B
open PySem PySem.Spec PyProof.Rows L2
end B
namespace B
open PySem PySem.Spec PyProof.Rows L2
end B
namespace B
open PySem PySem.Spec PyProof.Rows L2
end B
namespace B
open PySem PySem.Spec PyProof.Rows L2
end B
namespace B
open PySem PySem.Spec PyProof.Rows L2
end B
namespace B
open PySem PySem.Spec PyProof.Rows L2
end B
namespace B
open PySem PySem.Spec PyProof.Rows L2
end B
namespace B
open PySem PySem.Spec PyProof.Rows L2
end B
namespace B
open PySem PySem.Spec PyProof.Rows L2
end B
namespace B
open PySem PySem.Spec PyProof.Rows L2
end B
namespace B
open PySem PySem.Spec PyProof.Rows L2
/-- the letters that are not there -/
theorem few_in : ∀ (l cs : List Nat), l.Nodup → (∀ x ∈ l, x ∈ cs) → l.length ≤ cs.length
  | [], _, _, _ => Nat.zero_le _
  | x :: r, cs, nd, h => by
    have hx := h x (List.mem_cons_self ..)
    have nd' := List.nodup_cons.mp nd
    have := few_in r (cs.erase x) nd'.2 fun y hy => (List.mem_erase_of_ne (fun e => nd'.1 (by rw [← e]; exact hy))).mpr (h y (List.mem_cons_of_mem _ hy))
    rw [List.length_erase_of_mem hx] at this
    have hp : 0 < cs.length := List.length_pos_of_mem hx
    rw [List.length_cons]
    omega
def gone (cs : List Nat) : List Nat := (List.range' 97 26).filter fun c => !decide (c ∈ cs)
theorem gone_len {cs : List Nat} (h : cs.length ≤ 6) : 20 ≤ (gone cs).length := by
  have e := List.length_eq_countP_add_countP (fun c => decide (c ∈ cs)) (l := List.range' 97 26)
  rw [List.length_range', List.countP_eq_length_filter, List.countP_eq_length_filter] at e
  have k := few_in ((List.range' 97 26).filter fun c => decide (c ∈ cs)) cs ((by decide : (List.range' 97 26).Nodup).sublist List.filter_sublist) fun x hx => by
    have := (List.mem_filter.mp hx).2
    exact of_decide_eq_true this
  have e2 : ((List.range' 97 26).filter fun c => decide (¬ decide (c ∈ cs) = true)).length = (gone cs).length := by
    unfold gone
    congr 1
    refine List.filter_congr fun x _ => ?_
    cases decide (x ∈ cs) <;> rfl
  omega
end B
namespace B
open PySem PySem.Spec PyProof.Rows L2
end B
namespace B
open PySem PySem.Spec PyProof.Rows L2
end B
namespace B
open PySem PySem.Spec PyProof.Rows L2
end B
namespace B
open PySem PySem.Spec PyProof.Rows L2
end B
namespace B
open PySem PySem.Spec PyProof.Rows L2
def rNeL0 (K : PySem.W.Frag) : R2 := fun x y H Q => ∃ a b xs, x = .ref a ∧ y = .ref b ∧ SqL K H a xs ∧ SqL K H b [] ∧ Q (.bl !xs.isEmpty) H
theorem op_neL0 {X : Cx} (hu : X.A.units + 64 < cLine) : OpR X (compareOp .NotEq) (rNeL0 X.K) := by
  intro pins s σ H x y v u Q I rx ry h
  obtain ⟨a, b, xs, rfl, rfl, ha, hb, q⟩ := h
  cases xs with
  | nil => exact op_neD hu pins s σ H (.ref a) (.ref b) v u Q I rx ry ⟨.list [], .list [], .lst ha .nil, .lst hb .nil, rfl, rfl, q⟩
  | cons x xs =>
    obtain rfl : v = Value.ref a := rx
    obtain rfl : u = Value.ref b := ry
    obtain ⟨its, rv, hA, _⟩ := I.list ha
    obtain ⟨its2, rv2, hB, _⟩ := I.list hb
    have e1 := rv.length
    have e2 := rv2.length
    obtain ⟨⟨cls, dd, data, sl⟩, n, ho, hc, _, hd⟩ := hA
    obtain ⟨⟨cls2, dd2, data2, sl2⟩, n2, ho2, hc2, _, hd2⟩ := hB
    simp only at hc hd hc2 hd2
    subst hc hd hc2 hd2
    have ta : s.TypeIs (.ref a) "list" := ⟨_, ho, rfl⟩
    have tb : s.TypeIs (.ref b) "list" := ⟨_, ho2, rfl⟩
    have ne : (its.toArray.size != its2.toArray.size) = true := by
      simp only [List.size_toArray, ← e1, ← e2, List.length_cons, List.length_nil]
      rfl
    show wpAny (model X.prog X.w) X.A (richCompare .NotEq (.ref a) (.ref b)) _ _ s
    exact wpAny_richCompare_same_room (op := .NotEq) ta tb F.slot_list_ne (call_meets F.slot_list_ne ta F.entry_list_ne (F.args_list_ne_2 _ _) (PySem.SeqAt.list_ne_lengthsAt a b its.toArray its2.toArray n n2 dd dd2 sl sl2 ne)
      ⟨ho, ho2, show Value.bool true ≠ Value.notImplemented ∧ _ from ⟨(fun x => nomatch x), ⟨.bl true, H, I, rfl, q⟩⟩⟩) (by omega)
end B
namespace B
open PySem PySem.Spec PyProof.Rows L2
end B
namespace B
open PySem PySem.Spec PyProof.Rows L2
end B
namespace B
open PySem PySem.Spec PyProof.Rows L2
end B
namespace B
open PySem PySem.Spec PyProof.Rows L2
end B
namespace B
open PySem PySem.Spec PyProof.Rows L2
end B
namespace B
open PySem PySem.Spec PyProof.Rows L2
end B
namespace B
open PySem PySem.Spec PyProof.Rows L2
end B
namespace B
open PySem PySem.Spec PyProof.Rows L2
end B
namespace B
open PySem PySem.Spec PyProof.Rows L2
end B
namespace B
open PySem PySem.Spec PyProof.Rows L2
end B
namespace B
open PySem PySem.Spec PyProof.Rows L2
end B
namespace B
open PySem PySem.Spec PyProof.Rows L2
end B
namespace B
open PySem PySem.Spec PyProof.Rows L2
end B
namespace B
open PySem PySem.Spec PyProof.Rows L2
end B
namespace B
open PySem PySem.Spec PyProof.Rows L2
end B
namespace B
open PySem PySem.Spec PyProof.Rows L2
end B
namespace B
open PySem PySem.Spec PyProof.Rows L2
theorem last_get {xs : List V} {v : V} {n : Nat} (h : xs[n]? = some v) (l : xs.length = n + 1) : atI xs (-1) = some v := by
  have e := take_one xs n v h
  rw [List.take_of_length_le (by omega)] at e
  rw [e]
  exact last_at
end B
namespace B
open PySem PySem.Spec PyProof.Rows L2
section
variable {prog : Program} {w : World} {A : Around} {E : Value → Shared → Prop} {s : Shared}
theorem sorted_text {x : Str} {t : Tok} {ltv : Value → Value → Bool} {Q : Value → Shared → Prop} (hh : A.in1.handled = none) (O : SrtO.Swo ltv) (hz : x.cps.size ≤ sizeLine)
    (hS : ∀ (s' : Shared) (vs : List Value) (a : Addr), (∃ acc : Array Value, vs = acc.toList ∧ ItemsOf (SignAt x) acc x.cps.size) → 2 ≤ vs.length → SrtO.SortableO prog w A.in1.in1 s' a vs ltv)
    (h : ∀ (h' : Heap) (tk : Nat) (acc : Array Value) (out : List Value) (a e : Nat), ItemsOf (SignAt x) acc x.cps.size → SrtO.Srtd ltv out → SrtO.Stb ltv out acc.toList → (∀ b o, s.heap.get? b = some o → h'.get? b = some o) → (∃ h1 : Heap, (∀ b o, s.heap.get? b = some o → h1.get? b = some o) ∧ h1.objs.size ≤ a) → h'.get? a = some (seqObj "list" out.toArray e) → Q (.ref a) { s with heap := h', toks := tk }) :
    wpAny (model prog w) A (call (.builtin "sorted") [.str x t]) Q E s := by
  refine Calls.call_function_entry kind_sorted plain_sorted entry_sorted (args_sorted1 _) ?_
  unfold Builtin.«sorted»
  refine wpAny_bind (m := checkCount "sorted" 1 1 _) (wpAny_pure ?_)
  refine wpAny_bind (wpAny_collect_str hh x t (fun s' acc k1 k2 k3 k4 hI => ?_) hz)
  have la : acc.toList.length ≤ sizeLine := by rw [Array.length_toList, hI.1]; exact hz
  refine wpAny_bind (wpAny_newList ?_ la)
  obtain ⟨h1, g1, d1, tk1, o1⟩ := s'
  have k2 : g1 = s.gens := k2
  have k3 : d1 = s.drawn := k3
  have k4 : o1 = s.os := k4
  subst k2 k3 k4
  have eo : (h1.push (seqObj "list" acc.toList.toArray 0)).get? h1.objs.size = some (seqObj "list" acc.toList.toArray 0) := Heap.get?_push_size _ rfl
  refine wpAny_bind (wpAny_holding (wpAny_call_entry slot_list_sort ⟨_, eo, rfl⟩ entry_list_sort (SrtO.list_sort_ord O eo la (fun h2 => hS _ _ _ ⟨acc, rfl, hI⟩ h2) fun out hs hb => ⟨_, rfl, ?_⟩) (args_list_sort _)))
  refine wpAny_pure ⟨_, rfl, ?_⟩
  obtain ⟨e, he⟩ := sortedHeap_at (vs := acc.toList) (out := out.toArray) eo
  refine h _ _ acc out h1.objs.size e hI hs hb (fun b o q => ?_) ⟨h1, k1, Nat.le_refl _⟩ he
  have q1 := k1 b o q
  have lt : b < h1.objs.size := Heap.lt_size q1
  rw [sortedHeap_old (Nat.ne_of_lt lt) (by rw [size_push']; exact Nat.lt_succ_of_lt lt)]
  exact Heap.get?_push_of_some _ q1
end
theorem strs_of_signs {x : Str} {acc : Array Value} (h : ItemsOf (SignAt x) acc x.cps.size) : StrsAre acc.toList (x.cps.toList.map sg) := by
  refine strs_of_vals (vals_get ?_ fun j v u a b => ?_)
  · rw [List.length_map, List.length_map, Array.length_toList, Array.length_toList]
    exact h.1.symm
  · obtain ⟨d, k, hd, rfl⟩ := h.2 j u (by simpa using b)
    rw [List.map_map, List.getElem?_map, Array.getElem?_toList, hd] at a
    have e : V.str (sg d) = v := Option.some.inj a
    rw [← e]
    exact ⟨k, rfl⟩
/-- sorted(a text) -/
def rSortedX (K : PySem.W.Frag) : List V → Hp → VK → Prop := fun vs H Q => ∃ z : Str, vs = [V.str z] ∧ z.cps.size ≤ sizeLine ∧
  ∀ (ys : List Str) (p : Addr), ys.Perm (z.cps.toList.map sg) → ys.Pairwise (fun a b => ¬ b.cps.toList < a.cps.toList) → H p = none → Q (.ref p) (upd H p (.lst (ys.map V.str)))
theorem cr_sortedX {X : Cx} (hc : X.calm = true) : CallR X (.builtin "sorted") (rSortedX X.K) := by
  intro pins s σ H vs us Q I r h
  obtain ⟨z, rfl, hz, q⟩ := h
  obtain ⟨u, rfl, ru⟩ : ∃ u, us = [u] ∧ RelV (.str z) u := by
    cases r with
    | cons a b => cases b; exact ⟨_, rfl, a⟩
  obtain ⟨t, rfl⟩ := ru
  refine sorted_text (I.ok.hd hc) swo_str hz (fun s' vs a ⟨acc, e, hI⟩ h2 => by rw [e] at h2 ⊢; exact str_sortable (strs_of_signs hI) h2) fun h' tk acc out a e hI hs hb hk ⟨h1, k1, k2⟩ he => ?_
  have hS := strs_of_signs hI
  have hm : ∀ v ∈ out, ∃ x t, v = Value.str x t := fun v hv => hS.all v (hb.perm.mem_iff.mp hv)
  have hp : (out.map svO).Perm (z.cps.toList.map sg) := by
    have := hb.perm.map svO
    rw [svO_strs hS] at this
    exact this
  have hl : ((out.map svO).map V.str).length ≤ sizeLine := by
    rw [List.length_map, hp.length_eq, List.length_map, Array.length_toList]
    exact hz
  have hn : H a = none := HOk.fresh (HOk.kept I.hok k1) k2
  have ha : s.heap.get? a = none := by
    cases g : s.heap.get? a with
    | none => rfl
    | some o => exact absurd (Heap.lt_size (k1 _ _ g)) (Nat.not_lt.mpr k2)
  refine ⟨.ref a, upd H a (.lst ((out.map svO).map V.str)), I.laidN (t' := tk) hk ha hn ⟨hl, out, e, vals_strsO hm, he⟩, rfl, q _ _ hp ?_ hn⟩
  exact List.pairwise_map.mpr (hs.imp fun {x y} h => of_decide_eq_false h)
end B
namespace B
open PySem PySem.Spec PyProof.Rows L2
/-- the signs of some letters of a world -/
def partB (cs : List Nat) (bs : List Bool) (ss : List Nat) : List Bool := (List.range cs.length).filterMap fun i => if ss.contains (cs.getD i 0) then some (bs.getD i false) else none
theorem rangeD {α β : Type} {f : α → β} {d : α} (l : List α) : (List.range l.length).map (fun j => f (l.getD j d)) = l.map f := by
  induction l with
  | nil => rfl
  | cons x r ih =>
    rw [List.length_cons, List.range_succ_eq_map, List.map_cons, List.map_map, List.map_cons, ← ih]
    rfl
theorem range_any (f : Nat → Bool) (cs : List Nat) : ((List.range cs.length).any fun i => f (cs.getD i 0)) = cs.any f := by
  have := congrArg (fun l : List Bool => l.any id) (rangeD (f := f) (d := 0) cs)
  simp only [List.any_map] at this
  exact this
theorem rise_of2 {zs : List Nat} (nd : zs.Nodup) (h : (zs.map sg).Pairwise (fun a b => ¬ b.cps.toList < a.cps.toList)) : zs.Pairwise (· < ·) := by
  rw [List.pairwise_map] at h
  refine (List.Pairwise.and nd h).imp fun {a b} hh => ?_
  obtain ⟨h1, h2⟩ := hh
  have h2 : ¬ [b] < [a] := h2
  have h3 : ¬ b < a := fun z => h2 (List.Lex.rel z)
  omega
theorem nodup_of {cs : List Nat} (h : cs.Pairwise (· < ·)) : cs.Nodup := h.imp fun {a b} z => Nat.ne_of_lt z
theorem nodup_app {cs cs' : List Nat} (h : cs.Pairwise (· < ·)) (k : cs'.Pairwise (· < ·)) (e : cs.any (fun x => cs'.contains x) = false) : (cs ++ cs').Nodup := by
  refine List.nodup_append.mpr ⟨nodup_of h, nodup_of k, fun a ha b hb => ?_⟩
  rintro rfl
  rw [List.any_eq_false] at e
  exact e a ha (List.contains_iff_mem.mpr hb)
/-- which of the fifteen -/
def flags15 (k : Nat) : List V := (List.range 15).map fun j => V.bl (decide (j = k))
theorem flags15_at {k j : Nat} (hj : j < 15) : (flags15 k)[j]? = some (.bl (decide (j = k))) := by
  unfold flags15
  rw [List.getElem?_map, List.getElem?_range hj]
  rfl
theorem fm_fil (cs : List Nat) : ∀ l : List Nat, l.filterMap (fun i => if 97 + i ∈ cs then none else some (97 + i)) = (l.map (97 + ·)).filter fun c => !decide (c ∈ cs)
  | [] => rfl
  | x :: r => by
    rw [List.map_cons, List.filterMap_cons, List.filter_cons, fm_fil cs r]
    by_cases e : 97 + x ∈ cs
    · rw [if_pos e, decide_eq_true e]; rfl
    · rw [if_neg e, decide_eq_false e]; rfl
theorem gone_fm (cs : List Nat) : (List.range 26).filterMap (fun i => if 97 + i ∈ cs then none else some (97 + i)) = gone cs := by
  rw [fm_fil]
  unfold gone
  rw [List.range'_eq_map_range]
/-- two strictly rising rows with the same members -/
theorem rise_same : ∀ {a b : List Nat}, a.Pairwise (· < ·) → b.Pairwise (· < ·) → (∀ x, x ∈ a ↔ x ∈ b) → a = b
  | [], [], _, _, _ => rfl
  | [], y :: _, _, _, h => absurd ((h y).mpr (List.mem_cons_self ..)) (by simp)
  | x :: _, [], _, _, h => absurd ((h x).mp (List.mem_cons_self ..)) (by simp)
  | x :: r, y :: t, ha, hb, h => by
    have a1 := List.pairwise_cons.mp ha
    have b1 := List.pairwise_cons.mp hb
    have e : x = y := by
      rcases List.mem_cons.mp ((h x).mp (List.mem_cons_self ..)) with z | z
      · exact z
      · rcases List.mem_cons.mp ((h y).mpr (List.mem_cons_self ..)) with w | w
        · exact w.symm
        · have := a1.1 y w
          have := b1.1 x z
          omega
    subst e
    rw [rise_same a1.2 b1.2 fun z => ?_]
    have hz := h z
    rw [List.mem_cons, List.mem_cons] at hz
    constructor
    · intro q
      rcases hz.mp (.inr q) with w | w
      · have := a1.1 z q; omega
      · exact w
    · intro q
      rcases hz.mpr (.inr q) with w | w
      · have := b1.1 z q; omega
      · exact w
theorem idx_at {cs : List Nat} (nd : cs.Nodup) {i : Nat} (hi : i < cs.length) : cs.idxOf (cs.getD i 0) = i := by
  have e : cs.getD i 0 = cs[i] := by rw [List.getD_eq_getElem?_getD, List.getElem?_eq_getElem hi]; rfl
  rw [e]
  exact nd.idxOf_getElem i hi
theorem part_same {cs zs : List Nat} {bs : List Bool} (hc : cs.Pairwise (· < ·)) (hz : zs.Pairwise (· < ·)) (hm : ∀ c ∈ zs, c ∈ cs) : partB cs bs zs = zs.map fun c => bs.getD (cs.idxOf c) false := by
  have e1 : zs = cs.filter fun c => zs.contains c := rise_same hz (hc.sublist List.filter_sublist) fun x => by
    rw [List.mem_filter, List.contains_iff_mem]
    exact ⟨fun h => ⟨hm x h, h⟩, fun h => h.2⟩
  have e2 : cs.filter (fun c => zs.contains c) = ((List.range cs.length).filter fun i => zs.contains (cs.getD i 0)).map fun i => cs.getD i 0 := by
    have this : (List.range cs.length).map (fun i => cs.getD i 0) = cs := (rangeD (f := fun x : Nat => x) (d := 0) cs).trans (List.map_id cs)
    conv => lhs; rw [← this]
    rw [List.filter_map]
    rfl
  have e3 : partB cs bs zs = ((List.range cs.length).filter fun i => zs.contains (cs.getD i 0)).map fun i => bs.getD i false := by
    unfold partB
    generalize List.range cs.length = l
    induction l with
    | nil => rfl
    | cons x r ih =>
      rw [List.filterMap_cons, List.filter_cons]
      by_cases z : zs.contains (cs.getD x 0) = true
      · rw [if_pos z, if_pos z, List.map_cons, ← ih]
      · rw [if_neg z, if_neg z, ← ih]
  rw [e3]
  conv => rhs; rw [e1, e2]
  rw [List.map_map]
  refine List.map_congr_left fun i hi => ?_
  have := List.mem_range.mp (List.mem_filter.mp hi).1
  show bs.getD i false = bs.getD (cs.idxOf (cs.getD i 0)) false
  rw [idx_at (nodup_of hc) this]
end B
namespace B
end B
namespace B
end B
namespace B
section
variable {n m : Nat} {col : Nat → Col} {rhs : Col} {T T' : Nat → Nat → Int} {D D' : Int} {R R' Bn Bn' : Nat → Nat} {st st' : Bool} {r c : Nat}
end
section
variable {n m : Nat} {col : Nat → Col} {rhs : Col} {T : Nat → Nat → Nat → Int} {D : Nat → Int} {R Bn : Nat → Nat → Nat} {st : Nat → Bool} {r c : Nat → Nat}
end
end B
namespace B
section
variable {n m : Nat} {b : Bo} {r c : Nat}
end
end B
namespace B
section
variable {n m : Nat} {rows : List (List Int)} {bounds wants : List Int}
end
section
variable {n : Nat} {f : Nat → Int} {g : Nat → Nat}
end
section
variable {n m : Nat} {A : Nat → Nat → Int} {w bb : Nat → Int} {b : Bo}
end
end B
namespace B
section
variable {n m : Nat} {A : Nat → Nat → Int} {w bb : Nat → Int} {b : Bo}
end
end B
namespace B
open PySem PySem.Spec PyProof.Rows L2
section
variable (ra rr sr : Addr) (d : Int) (n : Nat)
end
section
variable {w : Nat → Int} {R : Nat → Nat} {k j : Nat}
end
section
variable {a b : Nat → Int} {Bn : Nat → Nat} {k j : Nat}
end
end B
namespace B
open PySem PySem.Spec PyProof.Rows L2
end B
namespace B
open PySem PySem.Spec PyProof.Rows L2
section
variable (m : Nat) (ta ra fa : Addr)
end
end B
namespace B
open PySem PySem.Spec PyProof.Rows L2
end B
namespace B
open PySem PySem.Spec PyProof.Rows L2
section
variable {α β : Type} {f : Nat × β → α}
end
end B
namespace B
open PySem PySem.Spec PyProof.Rows L2
def rs : List Nat → (Nat → Rat) → Rat
  | [], _ => 0
  | c :: r, F => F c + rs r F
end B
namespace B
open PySem PySem.Spec PyProof.Rows L2
end B
namespace B
open PySem PySem.Spec PyProof.Rows L2
end B
namespace B
open PySem PySem.Spec PyProof.Rows L2
end B
namespace B
open PySem PySem.Spec PyProof.Rows L2
section
variable {n m : Nat} {A : Nat → Nat → Int} {w bb : Nat → Int} {b : Bo}
end
end B
namespace B
open PySem PySem.Spec PyProof.Rows L2
section
variable {cs : List Nat} {wl : List (List Bool)} {bds : List Bd} {r : Nat} {x : Bd}
end
end B
namespace B
open PySem PySem.Spec PyProof.Rows L2
section
variable {cs : List Nat} {wl : List (List Bool)} {bds : List Bd} {e B : Nat}
end
end B
namespace B
open PySem PySem.Spec PyProof.Rows L2
section
variable {cs : List Nat} {wl : List (List Bool)} {bds : List Bd} {e B : Nat}
end
section
variable {cs : List Nat} {wl : List (List Bool)} {bds : List Bd} {e B : Nat}
end
end B
namespace B
open PySem PySem.Spec PyProof.Rows L2
end B
namespace B
open PySem PySem.Spec PyProof.Rows L2
end B
namespace B
open PySem PySem.Spec PyProof.Rows L2
end B
namespace B
open PySem PySem.Spec PyProof.Rows L2
end B
namespace B
open PySem PySem.Spec PyProof.Rows L2
section
variable {cs : List Nat} {wl : List (List Bool)} {L : List (List (Int × Nat))} {D M : Nat}
end
section
variable {cs : List Nat} {wl : List (List Bool)} {L : List (List (Int × Nat))} {bds : List Bd}
end
section
variable {cs : List Nat} {wl : List (List Bool)} {L : List (List (Int × Nat))} {D M : Nat}
end
end B
namespace B
open PySem PySem.Spec PyProof.Rows L2
end B
namespace B
open PySem PySem.Spec PyProof.Rows L2
section
variable {prog : Program} {w : World} {A : Around} {E : Value → Shared → Prop} {s : Shared} {q ti tt j1 j2 j3 : Addr} {f1 f2 f3 : List Addr} {n1 n2 n3 i : Nat} {P1 P2 P3 : Nat → Value → Prop} {S1 S2 S3 : Nat → Heap → Prop}
end
section
variable {X : Cx} {pins : List (Addr × Obj)} {σ : L2.St} {H : Hp} {s : Shared} {k1 k2 k3 : Kd} {v1 v2 v3 : V} {u1 u2 u3 : Value} {N i : Nat} {xs ys zs : List V}
end
end B
namespace B
open PySem PySem.Spec PyProof.Rows L2
section
variable {β : Type} {J : It} {n : Nat} {G : Hp → Prop} {Y : Nat → Hp → V → Hp → Prop} {K : PySem.W.Frag}
end
end B
namespace B
open PySem PySem.Spec PyProof.Rows L2
section
variable {prog : Program} {w : World} {A : Around} {E : Value → Shared → Prop} {s : Shared} {q ti tt j1 j2 : Addr} {f1 f2 : List Addr} {n1 n2 i : Nat} {P1 P2 : Nat → Value → Prop} {S1 S2 : Nat → Heap → Prop}
end
section
variable {X : Cx} {pins : List (Addr × Obj)} {σ : L2.St} {H : Hp} {s : Shared} {k1 k2 : Kd} {v1 v2 : V} {u1 u2 : Value} {N i : Nat} {xs ys : List V}
end
end B
namespace B
open PySem PySem.Spec PyProof.Rows L2
end B
namespace B
open PySem PySem.Spec PyProof.Rows L2
section
variable {G : Gn} {left : List Nat} {tab : List (Option (Int × Nat))}
end
end B
namespace B
open PySem PySem.Spec PyProof.Rows L2
section
variable {G : Gn} {ps mo : List (Int × Nat)} {tab : List (Option (Int × Nat))} {left all : List Nat} {L : List (List (Int × Nat))}
end
end B
namespace B
open PySem PySem.Spec PyProof.Rows L2
section
variable {G : Gn} {ps : List (Int × Nat)} {tab : List (Option (Int × Nat))} {ns : List Nat} {L : List (List (Int × Nat))}
end
end B
namespace B
open PySem PySem.Spec PyProof.Rows L2
section
variable {n m : Nat} {A : Nat → Nat → Int} {w bb : Nat → Int} {b : Bo}
end
section
variable {G : Gn} {ps mo : List (Int × Nat)} {tab : List (Option (Int × Nat))} {left all : List Nat} {L : List (List (Int × Nat))} {B : Nat}
end
end B
namespace B
open PySem PySem.Spec PyProof.Rows L2
section
variable {G : Gn} {ps : List (Int × Nat)} {ns : List Nat} {tab : List (Option (Int × Nat))} {D M B k : Nat}
end
section
variable {cs : List Nat} {wl : List (List Bool)} {bds : List Bd} {ts : List Tm} {g : List Wd} {e h z B : Nat}
end
section
variable {cs : List Nat} {wl : List (List Bool)} {bds : List Bd} {e B : Nat}
end
end B
namespace B
open PySem PySem.Spec PyProof.Rows L2
section
variable {cs : List Nat} {wl : List (List Bool)} {bds : List Bd} {ts : List Tm} {g : List Wd} {e h z B : Nat}
variable {x : (Int × Nat) × List (List (Int × Nat)) × List (Int × Nat) × List (Int × Nat)}
end
end B
namespace B
open PySem PySem.Spec PyProof.Rows L2
end B
namespace B
open PySem PySem.Spec PyProof.Rows L2
section
variable {cs : List Nat} {wl : List (List Bool)} {L : List (List (Int × Nat))} {D M : Nat}
end
section
variable {cs : List Nat} {wl : List (List Bool)} {L : List (List (Int × Nat))} {G : Nat} {bds : List Bd} {x : Bd}
end
section
variable {cs : List Nat} {wl : List (List Bool)} {bds bds' : List Bd} {ts : List Tm} {g : List Wd} {e h z B e' h' z' B' : Nat} {x y : (Int × Nat) × List (List (Int × Nat)) × List (Int × Nat) × List (Int × Nat)}
end
end B
namespace B
open PySem PySem.Spec PyProof.Rows L2
end B
namespace B
open PySem PySem.Spec PyProof.Rows L2
end B
namespace B
open PySem PySem.Spec PyProof.Rows L2
section
variable {cs : List Nat} {wl : List (List Bool)} {bds : List Bd} {e B : Nat}
end
section
variable {cs : List Nat} {wl : List (List Bool)} {bds : List Bd} {ts : List Tm} {g : List Wd} {e h z B : Nat} {x : (Int × Nat) × List (List (Int × Nat)) × List (Int × Nat) × List (Int × Nat)}
end
section
variable {cs : List Nat} {wl : List (List Bool)} {L : List (List (Int × Nat))} {bds : List Bd}
end
end B
namespace B
open PySem PySem.Spec PyProof.Rows L2
section
variable {cs : List Nat} {wl : List (List Bool)} {L : List (List (Int × Nat))} {A X S : Nat} {bds : List Bd} {x : Bd}
end
section
variable {cs : List Nat} {wl : List (List Bool)} {bds bds' : List Bd} {ts : List Tm} {g : List Wd} {e h z B e' h' z' B' : Nat}
end
end B
namespace B
open PySem PySem.Spec PyProof.Rows L2
section
variable {cs : List Nat} {wl : List (List Bool)} {bds : List Bd} {L : List (List (Int × Nat))}
end
end B
namespace B
open PySem PySem.Spec PyProof.Rows L2
section
variable {cs : List Nat} {wl : List (List Bool)} {bds : List Bd} {L : List (List (Int × Nat))}
end
end B
namespace B
open PySem PySem.Spec PyProof.Rows L2
section
variable {cs : List Nat} {wl : List (List Bool)} {bds bds' : List Bd} {ts : List Tm} {g : List Wd} {e h z B e' h' z' B' : Nat} {L : List (List (Int × Nat))}
end
section
variable {cs : List Nat} {wl : List (List Bool)} {bds : List Bd} {ts : List Tm} {g g0 : List Wd} {p : Int × Nat} {n m : Nat} {L : List (List (Int × Nat))}
variable {z : Nat}
end
end B
namespace B
open PySem PySem.Spec PyProof.Rows L2
section
variable {cs : List Nat} {wl : List (List Bool)} {bds : List Bd}
end
end B
namespace B
open PySem PySem.Spec PyProof.Rows L2
section
variable {cs : List Nat} {wl : List (List Bool)} {ts : List Tm} {g : List Wd} {p lo hi : Int × Nat} {e h z B e' h' z' B' : Nat} {x y : (Int × Nat) × List (List (Int × Nat)) × List (Int × Nat) × List (Int × Nat)}
end
end B
namespace B
open PySem PySem.Spec PyProof.Rows L2
/-- a contract that speaks of the error: its address, its class, its dict -/
abbrev SpE := Addr → Value → Option Addr → Sp
section
variable {P : Program} {w : World} {K : PySem.W.Frag} {mg : Str → Option Value} {base : Heap}
end
section
variable {X : Cx} {a : Addr} {oe : Obj} {cls : Value} {d : Option Addr} {pn : List (Addr × Obj)}
/-- isinstance(e, c), e the error that is pinned -/
theorem call_isE (hm : (a, oe) ∈ X.pn) (hz : Zc cls d oe) (hf : ∃ vs, oe.data = .fields vs) : CallR X (.builtin "isinstance") (rIsX X.K a cls d) := by
  rintro pins s σ H xs us Q I r ⟨D, c, cv, b, rfl, dok, ec, rfl, hc, e, q⟩
  obtain ⟨u1, u2, rfl, r1, r2⟩ := vals2 r
  cases (show u1 = Value.ref a from r1)
  cases ClsV.eq hc r2
  have got := (I.pin (a, oe) (List.mem_append.mpr (.inl hm))).1
  obtain ⟨vs, hv⟩ := hf
  obtain ⟨od, J⟩ := inst_at I got hz hv dok
  exact PySem.W.kia_one (kit_of ec) I.kIn J e (fun z => nomatch z) fun tk => ⟨.bl b, H, I.kept (t' := tk) fun _ _ z => z, rfl, q⟩
end
end B
namespace B
open PySem PySem.Spec PyProof.Rows L2
section
variable {prog : Program} {w : World} {A : Around} {E : Value → Shared → Prop} {s : Shared}
/-- StopIteration made and raised while an error is handled -/
theorem stop_hot {α : Type} {x1 : Addr} {Q : α → Shared → Prop} (hot : HotX.HotAt A x1 s.heap)
    (last : ∀ h' e, (∀ b o, s.heap.get? b = some o → h'.get? b = some o) → (∃ o, h'.get? e = some o ∧ o.cls = .type "StopIteration") → E (.ref e) { s with heap := h' }) :
    wpAny (model prog w) A ((newExc (.type "StopIteration") [] >>= fun e => raiseNew e : Sem α)) Q E s := by
  obtain ⟨now, ob, us, at_, dat, ctx⟩ := hot
  refine wpAny_bind (?_ : wpAny _ _ (newExc _ _) _ _ _)
  unfold newExc newTuple
  refine wpAny_bind (wpAny_newObj_type (wpAny_bind (m := firstArgMember _ _) (wpAny_of_eq (a := Value.none) (by first | rfl | (unfold firstArgMember; rfl)) (wpAny_newObj_type ?_ (by size_fits)))) (by size_fits))
  have there := Heap.get?_push_of_some ({ cls := .type "tuple", data := .seq #[] } : Obj) at_
  refine HotX.raiseNew_hot ⟨now, ob, us, Heap.get?_push_of_some _ (Heap.get?_push_of_some _ at_), dat, ctx⟩ (Nat.ne_of_lt (Heap.lt_size (Heap.get?_push_of_some _ at_))) (Heap.get?_push_size _ rfl) rfl (by first | (simp; done) | (simp; omega) | (simp only [Array.size_append]; simp; omega)) ?_
  refine last _ _ (fun b o e => ?_) ⟨_, Heap.get?_update_self _ (Heap.get?_push_size _ rfl) rfl, rfl⟩
  exact (Heap.get?_update_other _ _ (Nat.ne_of_gt (Heap.lt_size (Heap.get?_push_of_some _ e)))).trans (Heap.get?_push_of_some _ (Heap.get?_push_of_some _ e))
theorem nextOf_list_end_hot {it l x1 : Addr} {i : Nat} {items : Array Value} {Q : Value → Shared → Prop} (hot : HotX.HotAt A x1 s.heap) (ne : x1 ≠ it) (hit : s.heap.IsListIter it l i) (hl : s.heap.IsList l items) (hx : items[i]? = none)
    (last : ∀ h' e, Heap.ExtBut it s.heap h' → (∃ o, h'.get? e = some o ∧ o.cls = .type "StopIteration") → E (.ref e) { s with heap := h' }) : wpAny (model prog w) A (Builtin.SmallTypes.nextOf (.ref it)) Q E s := by
  have ty := hit.typeIs
  obtain ⟨oi, gi, -, di⟩ := hit
  obtain ⟨ol, gl, -, nl, dl⟩ := hl
  unfold Builtin.SmallTypes.nextOf
  refine wpAny_bind (wpAny_callSpecial?_slot (name := Str.ofString "__next__") ty slot_listiter_next (wpAny_call_entry slot_listiter_next ty entry_listiter_next (?_ : wpAny _ _ (field (.ref it) 0 >>= _) _ _ _) (args_listiter_next _)))
  refine wpAny_bind (wpAny_field gi di (x := .ref l) rfl (?_ : wpAny _ _ (if (Value.ref l == Value.none) = true then _ else _) _ _ _))
  rw [if_neg (c := (Value.ref l == Value.none) = true) (fun z => Bool.false_ne_true z)]
  refine wpAny_bind (wpAny_field gi di (x := .int i 0) rfl (?_ : wpAny _ _ (seqItems? (.ref l) >>= _) _ _ _))
  refine wpAny_bind (wpAny_seqItems gl dl ?_)
  have none_ : items[(i : Int).toNat]? = none := by rw [Int.toNat_natCast]; exact hx
  simp only [none_]
  refine wpAny_bind (wpAny_rule (wpAny_bind (wpAny_setField gi di (by simp) (stop_hot (x1 := x1) ⟨hot.1, ?_⟩ ?_))))
  · obtain ⟨-, ob, us, at_, dat, ctx⟩ := hot
    exact ⟨ob, us, (Heap.get?_update_other _ _ (Ne.symm ne)).trans at_, dat, ctx⟩
  · intro h' e k st
    exact last h' e (fun b o nb g => k b o ((Heap.get?_update_other _ _ (Ne.symm nb)).trans g)) st
/-- a tuple's iterator at its end, there -/
theorem next_tuple_end_hot {it t x1 : Addr} {i : Nat} {items : Array Value} {Q : Option Value → Shared → Prop} (hot : HotX.HotAt A x1 s.heap) (ne : x1 ≠ it) (hit : IsTupIter s.heap it t i) (ht : IsTup s.heap t items) (hx : items[i]? = none)
    (last : ∀ h', Heap.ExtBut it s.heap h' → Q none { s with heap := h' }) : wpAny (model prog w) A (pyNext (.ref it)) Q E s := by
  have ty := hit.typeIs
  obtain ⟨oi, gi, -, di⟩ := hit
  obtain ⟨ol, gl, -, nl, dl⟩ := ht
  unfold pyNext
  refine wpAny_bind (wpAny_attempt (wpAny_callSpecial?_slot (name := Str.ofString "__next__") ty slot_tupleiter_next (wpAny_call_entry slot_tupleiter_next ty entry_tupleiter_next (?_ : wpAny _ _ (field (.ref it) 0 >>= _) _ _ _) (args_tupleiter_next _))))
  refine wpAny_bind (wpAny_field gi di (x := .ref t) rfl (?_ : wpAny _ _ (if (Value.ref t == Value.none) = true then _ else _) _ _ _))
  rw [if_neg (c := (Value.ref t == Value.none) = true) (fun z => Bool.false_ne_true z)]
  refine wpAny_bind (wpAny_field gi di (x := .int i 0) rfl (?_ : wpAny _ _ (seqItems? (.ref t) >>= _) _ _ _))
  refine wpAny_bind (wpAny_seqItems gl dl ?_)
  have none_ : items[(i : Int).toNat]? = none := by rw [Int.toNat_natCast]; exact hx
  simp only [none_]
  refine wpAny_bind (wpAny_rule (wpAny_bind (wpAny_setField gi di (by simp) (stop_hot (x1 := x1) ⟨hot.1, ?_⟩ ?_))))
  · obtain ⟨-, ob, us, at_, dat, ctx⟩ := hot
    exact ⟨ob, us, (Heap.get?_update_other _ _ (Ne.symm ne)).trans at_, dat, ctx⟩
  · intro h' e k ⟨o, st, cl⟩
    exact wpAny_bind (wpAny_isInstance (T := "StopIteration") (b := true) ⟨o, st, cl⟩ isSubtype_stop (wpAny_pure (last h' fun b o nb g => k b o ((Heap.get?_update_other _ _ (Ne.symm nb)).trans g))))
/-- a tuple taken apart, there -/
theorem unpack_hot {t x1 : Addr} {items : Array Value} {Q : List Value → Shared → Prop} (hot : HotX.HotAt A x1 s.heap) (ht : IsTup s.heap t items)
    (go : ∀ h', Heap.ExtBut s.heap.objs.size s.heap h' → Q items.toList { s with heap := h' }) : wpAny (model prog w) A (unpackItems (.ref t) items.size none) Q E s := by
  have old : t ≠ s.heap.objs.size := by
    obtain ⟨o, g, _⟩ := ht
    exact Nat.ne_of_lt (Heap.lt_size g)
  unfold unpackItems
  refine wpAny_bind (?_ : wpAny _ _ (notIterableAtAll _) _ _ _)
  unfold notIterableAtAll
  refine wpAny_bind (wpAny_specialOf ht.typeIs slot_tuple_iter.lookup (wpAny_pure ?_))
  simp only [Bool.false_eq_true, if_false]
  refine wpAny_bind (wpAny_holding (iter_tuple ht (wpAny_bind (wpAny_holding (draw_tuple old items.size 0 _ _ ⟨_, Heap.get?_push_size _ rfl, rfl, rfl⟩ (ht.push _) (by omega) fun h1 it1 sb1 => ?_)))))
  rw [show List.take items.size (List.drop 0 items.toList) = items.toList by rw [List.drop_zero]; exact List.take_of_length_le (by simp), if_neg (by simp)]
  have t1 : IsTup h1 t items := (ht.push _).extBut sb1.extBut old
  obtain ⟨now, ob, us, at_, dat, ctx⟩ := hot
  have nx : x1 ≠ s.heap.objs.size := Nat.ne_of_lt (Heap.lt_size at_)
  refine wpAny_bind (wpAny_holding (next_tuple_end_hot (x1 := x1) ⟨now, ob, us, sb1.extBut _ _ nx (Heap.get?_push_of_some _ at_), dat, ctx⟩ nx it1 t1 (by simp) fun h2 e2 => ?_))
  simp only [Option.isSome_none, Bool.false_eq_true, if_false]
  exact wpAny_pure (go h2 fun b o nb g => e2 b o nb (sb1.extBut b o nb (Heap.get?_push_of_some _ g)))
/-- what such a list's iterator draws -/
theorem draws_list_hot (it l x1 : Addr) (hne : l ≠ it) (ne : x1 ≠ it) (items : Array Value) :
    Draws prog w A it [it, l, x1] items.size (fun i v => items[i]? = some v) (fun i h => (h.IsListIter it l i ∧ h.IsList l items) ∧ HotX.HotAt A x1 h) where
  live := fun _ _ st => let ⟨o, ho, _⟩ := st.1.1; ⟨o, ho⟩
  frame := fun _ _ _ st hk => ⟨⟨st.1.1.at fun o e => hk it (by simp) o e, st.1.2.at fun o e => hk l (by simp) o e⟩, st.2.1, by
    obtain ⟨_, o, vs, a, b, c⟩ := st.2
    exact ⟨o, vs, hk x1 (by simp) o a, b, c⟩⟩
  item := fun i s Q E hi st hQ => by
    refine wpAny_nextOf_list_item st.1.1 st.1.2 (x := items[i]) (by simp [hi]) fun h' hit' hs' => ?_
    refine hQ _ h' s.toks (by simp [hi]) ⟨⟨hit', st.1.2.extBut hs'.extBut hne⟩, st.2.1, ?_⟩ hs'
    obtain ⟨_, o, vs, a, b, c⟩ := st.2
    exact ⟨o, vs, (hs'.2 _ ne).trans a, b, c⟩
  done := fun s Q E st hE => nextOf_list_end_hot st.2 ne st.1.1 st.1.2 (by simp) hE
end
/-- the turns of an iterator while the error of p is handled -/
structure TurnX (P : Program) (w : World) (K : PySem.W.Frag) (p : Addr × Obj) (tg : Expr) (J : It) (fp : List Addr) (it : Addr) (tn : Nat → Heap → Prop) : Prop where
  off : p.1 ∉ fp
  obj : ∀ i h, tn i h → ∀ b ∈ fp, ∃ o, h.get? b = some o ∧ ∀ v, o.data ≠ .cell v
  keep : ∀ i h h', tn i h → (∀ b ∈ fp, ∀ o, h.get? b = some o → h'.get? b = some o) → tn i h'
  item : ∀ (X : Cx), X.prog = P → X.w = w → X.K = K → L2H.Hot1 X.A p → ∀ (i : Nat) (pins : List (Addr × Obj)) (s : Shared) (σ : L2.St) (H : Hp) (E : Value → Shared → Prop), p ∈ X.pn ++ pins → L2.Inv X pins σ H s → (∀ b ∈ fp, FpOk X pins H b) → tn i s.heap → J.go i H →
    wpAny (model P w) X.A (pyNext (.ref it)) (fun r s1 => ∃ u, r = some u ∧ wpAny (model P w) X.A (letOwnedTupleGo tg (.ref it) u) (fun _ s2 => ∃ x H', L2.Inv X pins σ H' s2 ∧ RelV x u ∧ J.yld i H x H' ∧ tn (i + 1) s2.heap ∧ ∀ b ∈ fp, H' b = none) E s1) E s
  done : ∀ (X : Cx), X.prog = P → X.w = w → X.K = K → L2H.Hot1 X.A p → ∀ (i : Nat) (pins : List (Addr × Obj)) (s : Shared) (σ : L2.St) (H : Hp) (E : Value → Shared → Prop), p ∈ X.pn ++ pins → L2.Inv X pins σ H s → (∀ b ∈ fp, FpOk X pins H b) → tn i s.heap → J.stop i H →
    wpAny (model P w) X.A (pyNext (.ref it)) (fun r s1 => r = none ∧ L2.Inv X pins σ H s1) E s
  self : ∀ (A : Around) (i : Nat) (s : Shared) (Q : Value → Shared → Prop) (E : Value → Shared → Prop), tn i s.heap → Q (.ref it) s → wpAny (model P w) A (pyIter (.ref it)) Q E s
structure PIX (X : Cx) (p : Addr × Obj) (tg iter : Expr) (wi : TI) : Prop where
  run : ∀ (pins : List (Addr × Obj)) (s : Shared) (σ : L2.St) (H : Hp) (R : It → Hp → Prop), L2.Inv X pins σ H s → wi σ H R →
    wpAny (model X.prog X.w) X.A (eval iter X.env) (fun v s1 => wpAny (model X.prog X.w) X.A (pyIter v) (fun itv s2 => ∃ (it : Addr) (fp : List Addr) (tn : Nat → Heap → Prop) (J : It) (H' : Hp), itv = .ref it ∧ L2.Inv X pins σ H' s2 ∧ TurnX X.prog X.w X.K p tg J fp it tn ∧ tn 0 s2.heap ∧ (∀ b ∈ fp, FpOk X pins H' b) ∧ R J H') X.xe s1) X.xe s
theorem hot_at {X : Cx} {pins : List (Addr × Obj)} {σ : L2.St} {H : Hp} {s : Shared} {p : Addr × Obj} (hot : L2H.Hot1 X.A p) (hp : p ∈ X.pn ++ pins) (I : L2.Inv X pins σ H s) : HotX.HotAt X.A p.1 s.heap := by
  obtain ⟨hh, vs, e, c⟩ := hot
  exact ⟨hh, p.2, vs, (I.pin p hp).1, e, c⟩
/-- a list's draws, read by what is tracked -/
theorem list_draws_hot {X : Cx} {pins : List (Addr × Obj)} {σ : L2.St} {H : Hp} {s : Shared} {x1 : Addr} {a it : Addr} {xs : List V} (I : L2.Inv X pins σ H s) (hot : HotX.HotAt X.A x1 s.heap) (h : SqL X.K H a xs) (ne : a < it) (ne2 : x1 < it) :
    ∃ (P : Nat → Value → Prop) (St : Nat → Heap → Prop), Draws X.prog X.w X.A.in1 it (it :: [a, x1]) xs.length P St ∧ (∀ i x, P i x → ∃ y, xs[i]? = some y ∧ RelV y x) ∧ (∀ i, s.heap.IsListIter it a i → St i s.heap) ∧ (∀ i h, St i h → h.IsListIter it a i) := by
  obtain ⟨its, rv, ht, hz⟩ := I.list h
  have hl := rv.length
  have D := draws_list_hot (prog := X.prog) (w := X.w) (A := X.A.in1) it a x1 (Nat.ne_of_lt ne) (Nat.ne_of_lt ne2) its.toArray
  rw [List.size_toArray, ← hl] at D
  refine ⟨_, _, D, fun i x hx => ?_, fun i st => ⟨⟨st, ht.isList⟩, hot⟩, fun i h st => st.1.1⟩
  have hx : its[i]? = some x := by simpa using hx
  have hi : i < xs.length := by rw [hl]; exact (List.getElem?_eq_some_iff.mp hx).1
  obtain ⟨u', hu, ru⟩ := rv.get (List.getElem?_eq_getElem hi)
  rw [hx] at hu
  cases hu
  exact ⟨_, List.getElem?_eq_getElem hi, ru⟩
theorem turn_zipX {P : Program} {w : World} {K : PySem.W.Frag} {elts : List Expr} {kk : Nat} {tpos : Pos} {p : Addr × Obj} {a b N : Nat} (l1 : a < N) (l2 : b < N) (lp : p.1 < N) :
    TurnX P w K p (.Tuple elts kk tpos) (ItG K .l .l (.ref a) (.ref b)) [N + 4, N + 2, N + 3, N, N + 1] (N + 4) (fun i h => IsZip h (N + 4) (N + 2) (N + 3) .none ∧ IsTupOf2 h (N + 2) (.ref N) (.ref (N + 1)) ∧ (∃ a1 a2, IsTupOf2 h (N + 3) a1 a2) ∧ h.IsListIter N a i ∧ h.IsListIter (N + 1) b i) := by
  have T := turn_zipG (P := P) (w := w) (K := K) (elts := elts) (kk := kk) (tpos := tpos) (k1 := .l) (k2 := .l) (v1 := .ref a) (v2 := .ref b) (u1 := .ref a) (u2 := .ref b) (N := N) rfl rfl (fun c e => by cases e; exact l1) (fun c e => by cases e; exact l2)
  have off : p.1 ∉ [N + 4, N + 2, N + 3, N, N + 1] := fun z => by
    have e : p.1 = N + 4 ∨ p.1 = N + 2 ∨ p.1 = N + 3 ∨ p.1 = N ∨ p.1 = N + 1 := by simpa using z
    have up : N ≤ p.1 := by
      rcases e with e | e | e | e | e <;> rw [e]
      · exact Nat.le_add_right _ _
      · exact Nat.le_add_right _ _
      · exact Nat.le_add_right _ _
      · exact Nat.le_refl _
      · exact Nat.le_add_right _ _
    exact absurd lp (Nat.not_lt.mpr up)
  refine ⟨off, T.obj, T.keep, ?_, ?_, T.self⟩
  · intro X hP hw hK hot i pins s σ H E hp I hf st hg
    subst hP hw hK
    obtain ⟨hz, hTI, hTO, s1, s2⟩ := st
    obtain ⟨xs, ys, x, y, ⟨a', ea, hqx⟩, ⟨b', eb, hqy⟩, hx, hy⟩ := hg
    cases ea; cases eb
    have ht := hot_at hot hp I
    obtain ⟨P1, St1, D1, c1, a1, b1⟩ := list_draws_hot (it := N) I ht hqx l1 lp
    obtain ⟨P2, St2, D2, c2, a2, b2⟩ := list_draws_hot (it := N + 1) I ht hqy (Nat.lt_succ_of_lt l2) (Nat.lt_succ_of_lt lp)
    have S := zip_sep2 (N := N) (fp1 := [a, p.1]) (fp2 := [b, p.1]) (by simp; exact ⟨l1, lp⟩) (by simp; exact ⟨l2, lp⟩)
    have W := GoesN.zip2 (elts := elts) (x1 := kk) (pos := tpos) S D1 D2
    have hi1 := (List.getElem?_eq_some_iff.mp hx).1
    have hi2 := (List.getElem?_eq_some_iff.mp hy).1
    refine W.goes i s (fun u s2 => ∃ x H', L2.Inv X pins σ H' s2 ∧ RelV x u ∧ (ItG X.K .l .l (.ref a) (.ref b)).yld i H x H' ∧ _ ∧ ∀ b ∈ [N + 4, N + 2, N + 3, N, N + 1], H' b = none) E (by omega) ⟨hz, hTI, hTO, a1 i s1, a2 i s2⟩ ?_
    rintro v h' tk ⟨T', p', r, rfl, hT, hp', hr, ht'⟩ st' hk htk
    obtain ⟨x', hx', rx⟩ := c1 i p' hp'
    obtain ⟨y', hy', ry⟩ := c2 i r hr
    have new : ObjOk X.prog X.w (upd H T' (.tup [x', y'])) h' T' (.tup [x', y']) := ⟨by show 2 ≤ sizeLine; decide, [p', r], .cons rx (.cons ry .nil), ht'⟩
    have I1 : L2.Inv X pins σ (upd H T' (.tup [x', y'])) { s with heap := h', toks := tk } := I.turnedNew (ch := [N + 4, N + 2, N + 3, N, N + 1]) (fun c o hb q => hk c o (fun z => hb (by
      have z : c = N + 4 ∨ c = N + 3 ∨ c = N ∨ c = N + 1 := by simpa using z
      rcases z with z | z | z | z <;> rw [z] <;> simp)) q) hf hT new
    have hTn := I.hok.fresh hT
    refine ⟨.ref T', _, I1, rfl, ⟨T', x', y', rfl, hTn, rfl, fun zs ⟨a2, e2, z2⟩ => by cases e2; rw [I.list_inj z2 hqx]; exact hx', fun zs ⟨a2, e2, z2⟩ => by cases e2; rw [I.list_inj z2 hqy]; exact hy'⟩, ⟨st'.1, st'.2.1, st'.2.2.1, b1 _ _ st'.2.2.2.1, b2 _ _ st'.2.2.2.2⟩, fun c hc' => ?_⟩
    obtain ⟨o, eo, _⟩ := T.obj i s.heap ⟨hz, hTI, hTO, s1, s2⟩ c hc'
    rw [upd_ne (Nat.ne_of_lt (Nat.lt_of_lt_of_le (Heap.lt_size eo) hT))]
    exact (hf c hc').1
  · intro X hP hw hK hot i pins s σ H E hp I hf st hg
    subst hP hw hK
    obtain ⟨hz, hTI, hTO, s1, s2⟩ := st
    obtain ⟨xs, ys, ⟨a', ea, hqx⟩, ⟨b', eb, hqy⟩, hend⟩ := hg
    cases ea; cases eb
    have ht := hot_at hot hp I
    obtain ⟨P1, St1, D1, c1, a1, b1⟩ := list_draws_hot (it := N) I ht hqx l1 lp
    obtain ⟨P2, St2, D2, c2, a2, b2⟩ := list_draws_hot (it := N + 1) I ht hqy (Nat.lt_succ_of_lt l2) (Nat.lt_succ_of_lt lp)
    have S := zip_sep2 (N := N) (fp1 := [a, p.1]) (fp2 := [b, p.1]) (by simp; exact ⟨l1, lp⟩) (by simp; exact ⟨l2, lp⟩)
    have W := GoesN.zip2 (elts := elts) (x1 := kk) (pos := tpos) S D1 D2
    subst hend
    refine W.stops s (fun s1 => L2.Inv X pins σ H s1) E ⟨hz, hTI, hTO, a1 _ s1, a2 _ s2⟩ fun h' tk hk htk => ?_
    exact I.turnedL (ch := [N + 4, N + 2, N + 3, N, N + 1]) (fun c o hb q => hk c o (fun z => hb (by
      have z : c = N + 4 ∨ c = N + 3 ∨ c = N ∨ c = N + 1 := by simpa using z
      rcases z with z | z | z | z <;> rw [z] <;> simp)) q) hf
/-- zip(a, b) of two lists there -/
def iZipX (K : PySem.W.Frag) (ta : TA) : TI := fun σ H R => ta σ H fun vs H1 => ∃ a b xs ys, vs = [.ref a, .ref b] ∧ SqL K H1 a xs ∧ SqL K H1 b ys ∧ R (ItG K .l .l (.ref a) (.ref b)) H1
theorem pi_zipX {X : Cx} {q : Addr × Obj} {e e2 : Expr} {ta : TA} {p pos tpos : Pos} {elts : List Expr} {kk : Nat} (hot : L2H.Hot1 X.A q) (hq : q ∈ X.pn) (hg : Gl X "zip") (hm : X.mg "zip" = none) (ha : PA X [e, e2] ta)
    (hs : starEach [e, e2] X.env = (false, eval e X.env) :: starEach [e2] X.env := by rfl) (hpl : (backTo pos (starEach [e2] X.env)).any (·.1) = false := by rfl) :
    PIX X q (.Tuple elts kk tpos) (.Call (.Name "zip" p) [e, e2] [] pos) (iZipX X.K ta) := by
  refine ⟨fun pins s σ H R I h => ?_⟩
  refine Call_ (ld_blt I hg hm PyProof.Rows.boot_zip (PyProof.Rows.callWith_type1 (thn (ha.run pos pins s σ H _ I h) fun us s1 ⟨vs, H1, I1, r1, q1⟩ => ?_) hs hpl))
  obtain ⟨a, b, xs, ys, rfl, hqx, hqy, fin⟩ := q1
  obtain ⟨u1, u2, rfl, ra, rb⟩ := vals2 r1
  cases (show u1 = Value.ref a from ra)
  cases (show u2 = Value.ref b from rb)
  obtain ⟨o1, G1, B1, g1, b1, l1⟩ := Src.begins (k := .l) I1 ⟨a, rfl, hqx⟩ (show RelV (.ref a) (.ref a) from rfl)
  obtain ⟨o2, G2, B2, g2, b2, l2⟩ := Src.begins (k := .l) I1 ⟨b, rfl, hqy⟩ (show RelV (.ref b) (.ref b) from rfl)
  have new : ∀ {c : Nat}, s1.heap.objs.size ≤ c → FpOk X pins H1 c := fun h => I1.fpOk h (I1.hok.fresh h)
  refine zip_begins2 B1 B2 g1 g2 fun h' hz hTI hTO h1 h2 hsz hk => wpAny_pyIter_zip hz ?_
  refine ⟨s1.heap.objs.size + 4, _, _, _, H1, rfl, I1.kept (t' := s1.toks) hk, turn_zipX (p := q) (l1 a rfl) (l2 b rfl) (Heap.lt_size (I1.pin q (List.mem_append_left _ hq)).1), ⟨hz, hTI, ⟨_, _, hTO⟩, b1 h' _ h1, b2 h' _ h2⟩, fun c hc => ?_, fin⟩
  have e : c = s1.heap.objs.size + 4 ∨ c = s1.heap.objs.size + 2 ∨ c = s1.heap.objs.size + 3 ∨ c = s1.heap.objs.size ∨ c = s1.heap.objs.size + 1 := by simpa using hc
  rcases e with e | e | e | e | e <;> rw [e]
  · exact new (Nat.le_add_right _ _)
  · exact new (Nat.le_add_right _ _)
  · exact new (Nat.le_add_right _ _)
  · exact new (Nat.le_refl _)
  · exact new (Nat.le_add_right _ _)
/-- a target of the block, q kept there -/
structure PGq (X : Cx) (q : Addr × Obj) (target : Expr) (t : TG) : Prop where
  run : ∀ (pins : List (Addr × Obj)) (s : Shared) (σ : L2.St) (H : Hp) (v : V) (u : Value) (Q : L2.St → Hp → Prop), q ∈ X.pn ++ pins → L2.Inv X pins σ H s → RelV v u → t v σ H Q →
    wpAny (model X.prog X.w) X.A (assign target X.env u) (fun _ s' => ∃ σ' H', L2.Inv X pins σ' H' s' ∧ Q σ' H') X.xe s
theorem pg_tupX {X : Cx} {q : Addr × Obj} {es : List Expr} {k : Nat} {pos : Pos} {t : TGs} {n : Nat} (hot : L2H.Hot1 X.A q) (h : PGs X es t)
    (hn : (assignEach es X.env).length = n := by rfl) (hst : (assignEach es X.env).findIdx? (·.1) = none := by rfl) : PGq X q (.Tuple es k pos) (gTup X.K n t) := by
  constructor
  intro pins s σ H v u Q hq I r want
  obtain ⟨a, xs, rfl, tup, len, want⟩ := want
  cases r
  obtain ⟨its, rv, ht, _⟩ := I.tuple tup
  have ln : (assignEach es X.env).length = its.toArray.size := by simp [hn, ← len, rv.length]
  rw [assign_Tuple]
  unfold unpack
  rw [ln, hst]
  refine wpAny_bind (wpAny_standAt (wpAny_bind (wpAny_holding (unpack_hot (hot_at hot hq I) ht fun h' k' => ?_))))
  exact h.run pins _ σ H xs _ Q (I.kept (t' := s.toks) fun b o e => k' b o (Nat.ne_of_lt (Heap.lt_size e)) e) (by simpa using rv) want
theorem off_stack {X : Cx} (ok : X.Ok) {a : Addr} (h1 : a ≠ X.env.locals) (h2 : a ∉ X.fs) : a ∉ frs X.stack := by
  rcases ok.stk with e | ⟨e, f⟩
  · rw [e]
    exact h2
  · rw [e]
    intro hm
    obtain ⟨v, hv, q⟩ := List.mem_filterMap.mp hm
    rcases List.mem_cons.mp hv with rfl | hv
    · rw [f] at q
      exact h1 (Option.some.inj q).symm
    · exact h2 (List.mem_filterMap.mpr ⟨v, hv, q⟩)
section
variable {X : Cx} {q : Addr × Obj} {elt tg iter : Expr} {ifs : List Expr} {scope : Scope} {own : List (Str × Nat)} {pos : Pos} {g : TG} {tt : TT} {te : TE}
/-- the environment of a comprehension's block, made at s -/
abbrev ceX (X : Cx) (scope : Scope) (s : Shared) : Env := compEnvC scope (cellsFrom (s.heap.objs.size + 1) scope.names (cloFrom X.env.cells scope.names [])) s.heap.objs.size X.env
/-- the block of a comprehension, run while an error is handled -/
theorem comp_runX {pins : List (Addr × Obj)} {σ : L2.St} {H3 : Hp} {s3 : Shared} {Q : VK} {J : It} {fp : List Addr} {it D : Addr} {tn : Nat → Heap → Prop} {W : Nat → Nat → Hp → Prop} {m0 : Nat} (hot : L2H.Hot1 X.A q) (hq : q ∈ X.pn) (hN : X.N.Nodup) (ok : BlkOk X.N X.env.scope scope own)
    (I3 : L2.Inv X pins σ H3 s3) (T : TurnX X.prog X.w X.K q tg J fp it tn) (st3 : tn 0 s3.heap) (f3 : ∀ b ∈ fp, FpOk X pins H3 b ∧ b < s3.heap.objs.size)
    (pg : PGq (X.blk s3 H3 scope (ceX X scope s3) fp) q tg g) (pt : PTs (X.blk s3 H3 scope (ceX X scope s3) fp) ifs tt) (pe : PE (X.blk s3 H3 scope (ceX X scope s3) fp) elt te) (w0 : W 0 m0 H3)
    (turn : ∀ i m H, W i m H → (J.stop i H ∧ Q (.ref D) H) ∨ (J.go i H ∧ ∃ Nx : Hp → Prop, (∀ H', Nx H' → ∃ m', m' < m ∧ W (i + 1) m' H') ∧ ∀ x H', J.yld i H x H' → g x (wipe σ (own.map (·.2))) H' fun σ2 H2 => wipe σ2 (own.map (·.2)) = wipe σ (own.map (·.2)) ∧ tt σ2 H2 fun b H3 =>
      if b = true then te σ2 H3 fun y H4 => ∃ acc, H4 D = some (.lst acc) ∧ acc.length < sizeLine ∧ Nx (upd H4 D (.lst (acc ++ [y]))) else Nx H3)) :
    codeAny (model X.prog X.w) X.A (.compStart (.ListComp elt [⟨tg, iter, ifs, 0⟩] scope pos) 0 (.ref it) (.ref D) (ceX X scope s3)) (compPost (model X.prog X.w) X.A X.xe none (EP X pins σ Q) (.ref D) s3.heap.objs.size)
      { s3 with heap := pushCells (s3.heap.push { cls := .type "dict", data := .dict #[] }) scope.names } := by
  obtain ⟨q1, q2, q3, q4, q5⟩ := I3.pin q (List.mem_append_left _ hq)
  have I0 := block_start I3 ok hN f3
  have locs : (ceX X scope s3).locals = s3.heap.objs.size := rfl
  have offq : q.1 ∉ (X.blk s3 H3 scope (ceX X scope s3) fp).fs := off_stack I3.ok q3 q4
  -- q stays in the block
  have I4 : L2.Inv (X.blk s3 H3 scope (ceX X scope s3) fp) [q] (wipe σ (own.map (·.2))) H3 { s3 with heap := pushCells (s3.heap.push { cls := .type "dict", data := .dict #[] }) scope.names } := I0.pins_of fun p hp => by
    rw [List.mem_singleton.mp hp]
    exact ⟨pushCells_keeps _ _ _ _ (Heap.get?_push_of_some _ q1), q2, Nat.ne_of_lt (Heap.lt_size q1), offq, q5⟩
  have hq4 : q ∈ (X.blk s3 H3 scope (ceX X scope s3) fp).pn ++ [q] := List.mem_append_right _ (List.mem_singleton.mpr rfl)
  have st4 : tn 0 (pushCells (s3.heap.push { cls := .type "dict", data := .dict #[] }) scope.names) := T.keep _ _ _ st3 fun b _ o e => pushCells_keeps _ _ _ _ (Heap.get?_push_of_some _ e)
  have nfp : ∀ b ∈ fp, H3 b = none := fun b hb => (f3 b hb).1.1
  have own_ : ∀ {σ' : L2.St} {H' : Hp} {s' : Shared}, L2.Inv (X.blk s3 H3 scope (ceX X scope s3) fp) [q] σ' H' s' → (∀ b ∈ fp, H' b = none) → ∀ b ∈ fp, FpOk (X.blk s3 H3 scope (ceX X scope s3) fp) [q] H' b := fun {σ' H' s'} I' hn b hb =>
    ⟨hn b hb, (I'.ok.exf b hb).1, I'.ok.exfs b hb, .inl hb, fun x c e => (I'.ok.exf b hb).2 x c e, fun p hp e => T.off (by
      have hp : p = q := List.mem_singleton.mp hp
      rw [hp] at e
      rw [e]
      exact hb)⟩
  generalize hs4 : ({ s3 with heap := pushCells (s3.heap.push { cls := .type "dict", data := .dict #[] }) scope.names } : Shared) = s4 at I4 ⊢
  have st4 : tn 0 s4.heap := by rw [← hs4]; exact st4
  clear I0
  refine codeAny_compStart_list ?_ (T.self X.A 0 _ _ _ st4 ?_)
  all_goals
    refine compLoop_any (fun n s' => ∃ i H', L2.Inv (X.blk s3 H3 scope (ceX X scope s3) fp) [q] (wipe σ (own.map (·.2))) H' s' ∧ tn i s'.heap ∧ (∀ b ∈ fp, H' b = none) ∧ W i n H') ?_ m0 ⟨0, H3, I4, st4, nfp, w0⟩
    rintro n s5 ⟨i, H5, I5, st5, n5, w5⟩
    rcases turn i n H5 w5 with ⟨stop, fin⟩ | ⟨go, Nx, hNx, step⟩
    · refine thnF (T.done (X.blk s3 H3 scope (ceX X scope s3) fp) rfl rfl rfl hot i [q] s5 _ H5 (fun _ _ => False) hq4 I5 (own_ I5 n5) st5 stop) ?_
      rintro _ s6 ⟨rfl, I6⟩
      obtain ⟨m, hn, _⟩ := I6.loc
      have free : H5 s3.heap.objs.size = none := I6.free
      have I7 : L2.Inv X pins σ H5 s6 := I3.call' (ch := fp) I6.os I6.base I6.hok I6.bare fun b hb => ⟨(f3 b hb).1.2.2.2.1, (f3 b hb).1.2.1, (f3 b hb).1.2.2.2.2.1, (f3 b hb).1.2.2.2.2.2⟩
      obtain ⟨f0, f1, f2, f4, f5, f6⟩ := I3.fpOk (Nat.le_refl _) free
      exact ⟨m, hn, fun h'' sb => ⟨.ref D, H5, I7.turned (t' := s6.toks) (fun b o hb e => (sb.2 b hb).trans e) f0 f1 f4 f5 f6, rfl, fin⟩⟩
    · refine thnF (T.item (X.blk s3 H3 scope (ceX X scope s3) fp) rfl rfl rfl hot i [q] s5 _ H5 (fun _ _ => False) hq4 I5 (own_ I5 n5) st5 go) ?_
      rintro _ s6 ⟨u, rfl, h6⟩
      refine thnF h6 ?_
      rintro _ s7 ⟨x, H7, I7, r7, y7, st7, n7⟩
      have I7' := I7.pinned (own_ I7 n7) (T.obj _ _ st7)
      refine thnF (pg.run _ s7 _ H7 x u _ (List.mem_append_right _ (List.mem_append_left _ (List.mem_singleton.mpr rfl))) I7' r7 (step x H7 y7)) ?_
      rintro _ s8 ⟨σ8, H8, I8, same8, tests⟩
      refine thnF (pt.run _ s8 σ8 H8 _ I8 tests) ?_
      rintro b s9 ⟨H9, I9, q9⟩
      have again : ∀ {s' : Shared} {H' : Hp}, L2.Inv (X.blk s3 H3 scope (ceX X scope s3) fp) ([q] ++ pinsAt fp s7.heap) σ8 H' s' → Nx H' → ∃ m, m < n ∧ ∃ i H', L2.Inv (X.blk s3 H3 scope (ceX X scope s3) fp) [q] (wipe σ (own.map (·.2))) H' s' ∧ tn i s'.heap ∧ (∀ b ∈ fp, H' b = none) ∧ W i m H' := fun {s' H'} I' nx => by
        obtain ⟨m', hm, w'⟩ := hNx H' nx
        have at_ : ∀ b ∈ fp, ∀ o, s7.heap.get? b = some o → s'.heap.get? b = some o ∧ H' b = none := fun b hb o e =>
          have z := I'.pin (b, o) (List.mem_append_right _ (List.mem_append_right _ (mem_pinsAt hb e)))
          ⟨z.1, z.2.1⟩
        refine ⟨m', hm, i + 1, H', (I'.unpinned (pins := [q])).weak (by rw [← same8, wipe_length]) (fun j v e => ?_), T.keep _ _ _ st7 fun b hb o e => (at_ b hb o e).1, fun b hb => ?_, w'⟩
        · rw [← same8] at e
          exact (wipe_some e).1
        · obtain ⟨o, e, _⟩ := T.obj _ _ st7 b hb
          exact (at_ b hb o e).2
      cases b with
      | false => exact again I9 q9
      | true =>
        refine thnF (pe.run _ s9 σ8 H9 _ I9 q9) ?_
        rintro z s10 ⟨yv, H10, I10, r10, acc, hD, hz, nx⟩
        exact app_ok (X := X.blk s3 H3 scope (ceX X scope s3) fp) I10 hD hz r10 fun s11 I11 => again I11 nx
/-- [elt for .. in .. if ..] while an error is handled -/
theorem pe_lcX {wi : TI} (hot : L2H.Hot1 X.A q) (hq : q ∈ X.pn) (hN : X.N.Nodup) (hi : PIX X q tg iter wi) (ok : BlkOk X.N X.env.scope scope own)
    (hg : ∀ (s : Shared) (H : Hp) (C : Addr) (cl : List (Str × Addr)) (fp : List Addr), PGq (X.blk s H scope (compEnvC scope cl C X.env) fp) q tg g) (ht : ∀ (s : Shared) (H : Hp) (C : Addr) (cl : List (Str × Addr)) (fp : List Addr), PTs (X.blk s H scope (compEnvC scope cl C X.env) fp) ifs tt)
    (he : ∀ (s : Shared) (H : Hp) (C : Addr) (cl : List (Str × Addr)) (fp : List Addr), PE (X.blk s H scope (compEnvC scope cl C X.env) fp) elt te) (hs : ∀ x, foldedSetIterable iter X.env x = pure x := by intro _; rfl) :
    PE X (.ListComp elt [⟨tg, iter, ifs, 0⟩] scope pos) (tLc wi g tt te (own.map (·.2))) := by
  constructor
  intro pins s σ H Q I want
  rw [eval_ListComp]
  have cells : ∀ y ∈ scope.names, y.2 = .free → ∃ c, X.env.cells.lookup y.1 = some c := fun y hy e => I.ok.has _ ((ok.free y hy e).imp id id)
  refine wpAny_comprehension_free (use := none) rfl hs (closure_ok cells) ok.kind (fun y hy e => by rw [ok.uniq y hy, e]) (thn (hi.run pins s σ H _ I want) fun _ s1 h1 => thn h1 ?_)
  rintro _ s2 ⟨it, fp, tn, J, H2, rfl, I2, T, st2, f2, turns⟩
  refine wpAny_newObj_type (newEnv_comp ?_) (by show 0 ≤ sizeLine; decide)
  have freshD : H2 s2.heap.objs.size = none := I2.hok.fresh (Nat.le_refl _)
  obtain ⟨W, ⟨m0, w0⟩, turn⟩ := turns _ freshD
  refine comp_runX (s3 := { s2 with heap := s2.heap.push { cls := .type "list", data := .seq ([] : List Value).toArray } }) (H3 := upd H2 s2.heap.objs.size (.lst [])) (D := s2.heap.objs.size) hot hq hN ok ?_ T ?_ ?_ (hg ..) (ht ..) (he ..) w0 turn
  · exact I2.laid (t' := s2.toks) (fun b o e => Heap.get?_push_of_some _ e) (Nat.le_refl _) ⟨Nat.zero_le _, [], 0, .nil, Heap.get?_push_size _ rfl⟩
  · exact T.keep _ _ _ st2 fun b _ o e => Heap.get?_push_of_some _ e
  · intro b hb
    obtain ⟨o, e, _⟩ := T.obj _ _ st2 b hb
    have lt := Heap.lt_size e
    refine ⟨⟨?_, (f2 b hb).2⟩, by rw [Heap.size_push]; exact Nat.lt_succ_of_lt lt⟩
    rw [upd_ne (Nat.ne_of_lt lt)]
    exact (f2 b hb).1
end
theorem takes0N {X : Cx} : L2N.Takes X (fun _ _ _ _ => False) := fun _ _ x => by
  obtain ⟨_, _, _, _, _, _, _, _, _, _, _, _, _, _, _, _, no⟩ := x
  exact no.elim
theorem okXN {P : Program} {w : World} {K : PySem.W.Frag} {mg : Str → Option Value} {base : Heap} {x qual : Str} {st : Stmt} {f : Addr} {fd : FuncData} {N ps : List Str} {k : Nat} {sp : Sp} (F : Fun K x qual st f fd) (S : FnScope N ps (defScope st)) (arity : ∀ vs H Q E, sp vs H Q E → vs.length = ps.length)
    (body : ∀ (cdv : Value) (A : Around) (outer : List Env) (s : Shared) (H : Hp) (vs : List V) (Q : VK) (E : XK), Room k (A.deeper (envOfC qual (defScope st) s.heap.objs.size f cdv)) → sp vs H Q E →
      ∃ t, PSs (cxOf (L2N.CX P w) P w K mg base N qual (defScope st) f cdv A outer s H E) (defBody st) t ∧ t { nx := fun _ H' => Q .non H', rt := Q } (start N vs) H) : FnOk P w K mg base (L2N.CX P w) (k + 1) f fd ps sp := by
  obtain ⟨c1, c2, c3, c4, c5, c6, c7, c8, c9, rfl, at_, code⟩ := F.ex
  exact fn_of at_ code S arity fun A out s H vs Q E room want => body c7 A out s H vs Q E room want
/-- C(), its context None -/
theorem pmk_noneN {X : Cx} {x : Str} {p pos : Pos} {k : Nat} (T : Xc X.K X.mg x) (hr : Room k X.A) (gl : Gl X x) (nd : (x == ("__debug__" : Str)) = false := by decide) :
    L2N.PMk X (.Call (.Name x p) [] [] pos) (fun _ H Q => ∀ d, H d = none → Q (.ref T.C) (some d) (upd H d (.xd (wordOf x)))) := by
  intro pins s σ H Q I want
  refine wpAny_Call_Name_kw (ld_glob I gl T.g ?_ nd)
  refine PySem.W.callWith_K0 I.kIn T.kp ?_
  refine wpAny_call (ei_land (A := X.A) T hr I fun h' tk' e d oe vs G nd ne dne hoe hz hdat h1 h2 gs ge gk J => ?_)
  have ctx : PySem.PXN.CtxN oe := fun us eu => by
    rw [hdat] at eu
    cases eu
    exact h2
  have free : upd H d (.xd (wordOf x)) e = none := by
    rw [upd_ne (Ne.symm dne)]
    exact ne
  exact ⟨e, oe, vs, _, _, .ref T.C, some d, rfl, J, gs, ge, hoe, ⟨hz.1, hz.2, ctx⟩, hdat, h1, free, rfl, I.bare, raises_own T.sb T.ty, want d nd⟩
/-- a def that is handed the handled error, whose context is None -/
structure FnX (P : Program) (w : World) (K : PySem.W.Frag) (mg : Str → Option Value) (base : Heap) (k : Nat) (f : Addr) (fd : FuncData) (ps : List Str) (sp : SpE) : Prop where
  arity : ∀ a cls d vs H Q E, sp a cls d vs H Q E → vs.length = ps.length
  go : ∀ (A : Around) (out : List Env) (s : Shared) (H : Hp) (ar : Args) (us : List Value) (vs : List V) (Q : VK) (E : XK) (a : Addr) (oe : Obj) (cls : Value) (d : Option Addr), L2H.RoomH k A → L2H.Hot1 A (a, oe) → Zc cls d oe → (∃ fs, oe.data = .fields fs) → L2H.PinOk out H s (a, oe) →
    Env0 P w K mg base A out s H → BindsTo s fd ar (ps.zip us) → Vals vs us → sp a cls d vs H Q E → codeAny (model P w) A (.call (.ref f) ar) (CR CX0 out P w H s Q E) s
section
variable {P : Program} {w : World} {K : PySem.W.Frag} {mg : Str → Option Value} {base : Heap}
theorem fun_okX {x qual : Str} {st : Stmt} {f : Addr} {fd : FuncData} {N ps : List Str} {k : Nat} {sp : SpE} (F : Fun K x qual st f fd) (S : FnScope N ps (defScope st)) (ln : ∀ a cls d vs H Q E, sp a cls d vs H Q E → vs.length = ps.length)
    (body : ∀ (cdv : Value) (A : Around) (outer : List Env) (s : Shared) (H : Hp) (vs : List V) (Q : VK) (E : XK) (a : Addr) (oe : Obj) (cls : Value) (d : Option Addr), L2H.RoomH k (A.deeper (envOfC qual (defScope st) s.heap.objs.size f cdv)) → L2H.Hot1 (A.deeper (envOfC qual (defScope st) s.heap.objs.size f cdv)) (a, oe) → Zc cls d oe → (∃ fs, oe.data = .fields fs) → sp a cls d vs H Q E →
      ∃ t, PSs (L2H.cxH CX0 P w K mg base N qual (defScope st) f cdv A outer s H E (a, oe)).nox (defBody st) t ∧ t { nx := fun _ H' => Q .non H', rt := Q } (start N vs) H) :
    FnX P w K mg base (k + 1) f fd ps sp := by
  obtain ⟨oc, od, kV, doc, pm, an, cv, ct, sl, rfl, look, code⟩ := F.ex
  refine ⟨ln, ?_⟩
  intro A out s H ar us vs Q E a oe cls d room hot hz hf pin e0 hb rel want
  have up : ∀ b o, base.get? b = some o → s.heap.get? b = some o := fun b o q => (e0.bs b o q).1
  have inK := e0.mod.kin.keeps up
  refine codeAny_call_function room.depth (inK _ _ look) rfl S.co S.gen rfl (PySem.W.codeRec_of inK code) (hb _ _ _ _ ?_)
  have kinds : ∀ y ∈ ps.zip us, (defScope st).names.lookup y.1 = some .local ∨
      ((defScope st).names.lookup y.1 = some .cell ∧ ((cellsFrom (s.heap.objs.size + 1) (defScope st).names []).lookup y.1).isSome = true) := by
    intro y hy
    have par := S.par y.1 (List.of_mem_zip (a := y.1) (b := y.2) hy).1
    exact par.imp id fun c => ⟨c, PySem.W.cellsFrom_some _ _ _ (.inl c)⟩
  refine wpAny_newFunctionEnv_cells S.kind kinds fun env same s1 inC => ?_
  cases same
  refine ⟨(e0.mod.nolimit.keeps up).keeps inC.toInCall.keep, codeAny_func ?_⟩
  obtain ⟨t, tb, tq⟩ := body cv A out s H vs Q E a oe cls d (room.deeper _) ⟨hot.1, hot.2⟩ hz hf want
  have J0 := L2H.inv_startH (CX := CX0) (E := E) S pin e0 (ln _ _ _ _ _ _ _ want) rel inC
  refine wpAny_mono (tb.nox.run [] s1 (start N vs) H _ J0 tq) ?_ fun _ _ h => h
  intro fl s2 h2
  cases fl
  case ret u => obtain ⟨v, _, H2, J, rv, q⟩ := h2; exact ⟨v, H2, J.os, J.bare, J.base, J.hok, rv, q⟩
  case next => obtain ⟨_, H2, J, q⟩ := h2; exact ⟨V.non, H2, J.os, J.bare, J.base, J.hok, rfl, q⟩
  case brk => exact h2.elim fun _ a => a.elim fun _ b => b.2.elim
  case cont => exact h2.elim fun _ a => a.elim fun _ b => b.2.elim
end
section
variable {X : Cx} {a : Addr} {oe : Obj} {cls : Value} {d : Option Addr} {pn : List (Addr × Obj)}
/-- f(e, ..) within the suite, f such a def -/
theorem pe_callX {k : Nat} {f : Addr} {fd : FuncData} {ps : List Str} {sp : SpE} {x : Str} {p pos : Pos} {e : Expr} {es : List Expr} {t : TA} (hz : L2N.Zn cls d oe) (hf : ∃ fs, oe.data = .fields fs) (F : FnX X.prog X.w X.K X.mg X.base k f fd ps sp) (room : L2H.RoomH k X.A) (gl : Gl (X.suite a ((a, oe) :: pn)) x)
    (at_ : X.mg x = some (.ref f)) (kp : PySem.W.keepIn X.K (.ref f) = true) (bd : Binds X.K fd ps []) (ha : PA (X.suite a ((a, oe) :: pn)) (e :: es) t)
    (nd : (x == ("__debug__" : Str)) = false := by decide) (st : starEach (e :: es) X.env = (false, eval e X.env) :: starEach es X.env := by rfl) (nst : (backTo pos (starEach es X.env)).any (·.1) = false := by rfl) :
    PE (X.suite a ((a, oe) :: pn)) (.Call (.Name x p) (e :: es) [] pos) (tCall (sp a cls d) [] E0 t) := by
  constructor
  intro pins s σ H Q I want
  have hot : L2H.Hot1 (X.suite a ((a, oe) :: pn)).A (a, oe) := by
    obtain ⟨vs, ev⟩ := hf
    exact ⟨rfl, vs, ev, hz.2.2 vs ev⟩
  refine wpAny_Call_Name_kw (ld_glob I gl at_ ?_ nd)
  refine PySem.W.callWith_K (h₀ := X.base) I.ok.mod.kin kp ?_ st nst
  refine thn (ha.run pos pins s σ H _ I want) ?_
  rintro us s1 ⟨vs, H1, J, rel, q⟩
  rw [List.append_nil] at q
  have hl : us.length = ps.length := rel.length.symm.trans (F.arity _ _ _ _ _ _ _ q)
  have bind := bd s1 us J.kIn (by simpa using hl)
  rw [List.append_nil] at bind
  have here := J.pin (a, oe) (List.mem_append.mpr (.inl List.mem_cons_self))
  have pin : L2H.PinOk (X.suite a ((a, oe) :: pn)).stack H1 s1 (a, oe) := ⟨here.1, here.2.1, fun m => (List.mem_cons.mp (J.stkSub a m)).elim here.2.2.1 here.2.2.2.1, here.2.2.2.2⟩
  refine ⟨J.kIn, wpAny_call (codeAny_mono (F.go (X.suite a ((a, oe) :: pn)).A (X.suite a ((a, oe) :: pn)).stack s1 H1 ⟨us, []⟩ us vs Q E0 a oe cls d ⟨room.dp, room.un⟩ hot hz.zc hf pin J.env0 bind rel q) ?_)⟩
  intro r s2 h2
  match r, h2 with
  | .error _, h2 => exact h2.elim
  | .ok .next, h2 => exact h2.elim
  | .ok .brk, h2 => exact h2.elim
  | .ok .cont, h2 => exact h2.elim
  | .ok (.ret u), h2 =>
    obtain ⟨v, H2, os, bare, un, hok, rv, q2⟩ := h2
    exact ⟨v, H2, J.call' os un hok bare (fun _ h => absurd h (by simp)), rv, q2⟩
end
end B
namespace B
open PySem PySem.Spec PyProof.Rows L2
def topS (i : Nat) : Stmt := PySem.Challenge.pw_betstall_k65_beside.main.body.getD i (.Pass ⟨0, 0, 0, 0⟩)
abbrev s_beside : Stmt := topS 20
abbrev N_beside : List Str := ["one", "other", "letters", "rules", "other_letters", "other_rules", "letter"]
theorem sc_beside : FnScope ["one", "other", "letters", "rules", "other_letters", "other_rules", "letter"] ["one", "other"] (defScope s_beside) := ⟨rfl, rfl, rfl, by decide +kernel, rfl, by decide +kernel, by decide +kernel⟩
abbrev s_part_of : Stmt := topS 21
abbrev N_part_of : List Str := ["letters", "world", "some", "letter", "sign"]
theorem sc_part_of : FnScope ["letters", "world", "some", "letter", "sign"] ["letters", "world", "some"] (defScope s_part_of) := ⟨rfl, rfl, rfl, by decide +kernel, rfl, by decide +kernel, by decide +kernel⟩
abbrev s_l_draws : Stmt := topS 23
abbrev N_l_draws : List Str := ["_law_script", "_law_cells", "_law_cell"]
theorem sc_l_draws : FnScope ["_law_script", "_law_cells", "_law_cell"] ["_law_script"] (defScope s_l_draws) := ⟨rfl, rfl, rfl, by decide +kernel, rfl, by decide +kernel, by decide +kernel⟩
abbrev s_l_next : Stmt := topS 24
abbrev N_l_next : List Str := ["_law_drawn", "_law_many", "_law_cells", "_law_count", "_law_rests", "_law_at", "_law_digit", "_law_primes", "_law_mixed", "_law_again"]
theorem sc_l_next : FnScope ["_law_drawn", "_law_many", "_law_cells", "_law_count", "_law_rests", "_law_at", "_law_digit", "_law_primes", "_law_mixed", "_law_again"] ["_law_drawn", "_law_many"] (defScope s_l_next) := ⟨rfl, rfl, rfl, by decide +kernel, rfl, by decide +kernel, by decide +kernel⟩
abbrev s_l_saying : Stmt := topS 25
abbrev N_l_saying : List Str := ["_law_drawn", "_law_letters_here", "_law_leaves", "_law_rows", "_law_k", "_law_way", "_law_leaf", "_law_at", "_law_word"]
theorem sc_l_saying : FnScope ["_law_drawn", "_law_letters_here", "_law_leaves", "_law_rows", "_law_k", "_law_way", "_law_leaf", "_law_at", "_law_word"] ["_law_drawn", "_law_letters_here", "_law_leaves"] (defScope s_l_saying) := ⟨rfl, rfl, rfl, by decide +kernel, rfl, by decide +kernel, by decide +kernel⟩
abbrev s_l_letters : Stmt := topS 26
abbrev N_l_letters : List Str := ["_law_drawn", "_law_most", "_law_left", "_law_found", "_law_k"]
theorem sc_l_letters : FnScope ["_law_drawn", "_law_most", "_law_left", "_law_found", "_law_k"] ["_law_drawn", "_law_most"] (defScope s_l_letters) := ⟨rfl, rfl, rfl, by decide +kernel, rfl, by decide +kernel, by decide +kernel⟩
abbrev s_l_holds : Stmt := topS 27
abbrev N_l_holds : List Str := ["_law_letters_here", "_law_saying_here", "_law_world", "_law_heap", "_law_word"]
theorem sc_l_holds : FnScope ["_law_letters_here", "_law_saying_here", "_law_world", "_law_heap", "_law_word"] ["_law_letters_here", "_law_saying_here", "_law_world"] (defScope s_l_holds) := ⟨rfl, rfl, rfl, by decide +kernel, rfl, by decide +kernel, by decide +kernel⟩
abbrev s_l_worlds : Stmt := topS 28
abbrev N_l_worlds : List Str := ["_law_house_here", "_law_letters_here", "_law_rules", "_law_found", "_law_number", "_law_world", "_law_rest", "_law_place", "_law_rule"]
theorem sc_l_worlds : FnScope ["_law_house_here", "_law_letters_here", "_law_rules", "_law_found", "_law_number", "_law_world", "_law_rest", "_law_place", "_law_rule"] ["_law_house_here"] (defScope s_l_worlds) := ⟨rfl, rfl, rfl, by decide +kernel, rfl, by decide +kernel, by decide +kernel⟩
abbrev s_l_house : Stmt := topS 29
abbrev N_l_house : List Str := ["_law_drawn", "_law_most", "_law_letters_here", "_law_rules", "_law_k", "_law_rule"]
theorem sc_l_house : FnScope ["_law_drawn", "_law_most", "_law_letters_here", "_law_rules", "_law_k", "_law_rule"] ["_law_drawn", "_law_most"] (defScope s_l_house) := ⟨rfl, rfl, rfl, by decide +kernel, rfl, by decide +kernel, by decide +kernel⟩
abbrev s_l_refusal : Stmt := topS 30
abbrev N_l_refusal : List Str := ["_law_e", "_law_found", "_law_words", "_law_word", "_law_mark"]
theorem sc_l_refusal : FnScope ["_law_e", "_law_found", "_law_words", "_law_word", "_law_mark"] ["_law_e"] (defScope s_l_refusal) := ⟨rfl, rfl, rfl, by decide +kernel, rfl, by decide +kernel, by decide +kernel⟩
abbrev s_l_full : Stmt := topS 31
abbrev N_l_full : List Str := ["_law_drawn", "_law_house_here", "_law_rule"]
theorem sc_l_full : FnScope ["_law_drawn", "_law_house_here", "_law_rule"] ["_law_drawn", "_law_house_here"] (defScope s_l_full) := ⟨rfl, rfl, rfl, by decide +kernel, rfl, by decide +kernel, by decide +kernel⟩
abbrev s_l_other : Stmt := topS 32
abbrev N_l_other : List Str := ["_law_drawn", "_law_house_here", "_law_letter", "_law_left", "_law_letters_here", "_law_k", "_law_rules", "_law_rule"]
theorem sc_l_other : FnScope ["_law_drawn", "_law_house_here", "_law_letter", "_law_left", "_law_letters_here", "_law_k", "_law_rules", "_law_rule"] ["_law_drawn", "_law_house_here"] (defScope s_l_other) := ⟨rfl, rfl, rfl, by decide +kernel, rfl, by decide +kernel, by decide +kernel⟩
abbrev s_l_due : Stmt := topS 33
abbrev N_l_due : List Str := ["_law_one", "_law_other_here", "_law_letter"]
theorem sc_l_due : FnScope ["_law_one", "_law_other_here", "_law_letter"] ["_law_one", "_law_other_here"] (defScope s_l_due) := ⟨rfl, rfl, rfl, by decide +kernel, rfl, by decide +kernel, by decide +kernel⟩
abbrev s_l_told : Stmt := topS 34
abbrev N_l_told : List Str := ["_law_one", "_law_other_here", "_law_kinds", "_law_e"]
theorem sc_l_told : FnScope ["_law_one", "_law_other_here", "_law_kinds", "_law_e"] ["_law_one", "_law_other_here"] (defScope s_l_told) := ⟨rfl, rfl, rfl, by decide +kernel, rfl, by decide +kernel, by decide +kernel⟩
abbrev s_l_part : Stmt := topS 35
abbrev N_l_part : List Str := ["_law_letters_here", "_law_world", "_law_some", "_law_found", "_law_letter"]
theorem sc_l_part : FnScope ["_law_letters_here", "_law_world", "_law_some", "_law_found", "_law_letter"] ["_law_letters_here", "_law_world", "_law_some"] (defScope s_l_part) := ⟨rfl, rfl, rfl, by decide +kernel, rfl, by decide +kernel, by decide +kernel⟩
abbrev s_l_parts_right : Stmt := topS 36
abbrev N_l_parts_right : List Str := ["_law_drawn", "_law_letters_here", "_law_worlds_here", "_law_one", "_law_other_here", "_law_letter", "_law_some", "_law_world", "_law_part_here"]
theorem sc_l_parts_right : FnScope ["_law_drawn", "_law_letters_here", "_law_worlds_here", "_law_one", "_law_other_here", "_law_letter", "_law_some", "_law_world", "_law_part_here"] ["_law_drawn", "_law_letters_here", "_law_worlds_here", "_law_one", "_law_other_here"] (defScope s_l_parts_right) := ⟨rfl, rfl, rfl, by decide +kernel, rfl, by decide +kernel, by decide +kernel⟩
abbrev s_law : Stmt := topS 37
abbrev N_law : List Str := ["_law_script", "_law_drawn", "_law_turn", "_law_one", "_law_other_here", "_law_due_here", "_law_found"]
theorem sc_law : FnScope ["_law_script", "_law_drawn", "_law_turn", "_law_one", "_law_other_here", "_law_due_here", "_law_found"] ["_law_script"] (defScope s_law) := ⟨rfl, rfl, rfl, by decide +kernel, rfl, by decide +kernel, by decide +kernel⟩
set_option genInjectivity false in
set_option genSizeOf false in
structure Tx (K : PySem.W.Frag) (mg : Str → Option Value) where
  beside : Df K mg "beside" s_beside ["one", "other"]
  part_of : Df K mg "part_of" s_part_of ["letters", "world", "some"]
  l_draws : Df K mg "_law_draws" s_l_draws ["_law_script"]
  l_next : Df K mg "_law_next" s_l_next ["_law_drawn", "_law_many"]
  l_saying : Df K mg "_law_saying" s_l_saying ["_law_drawn", "_law_letters_here", "_law_leaves"]
  l_letters : Df K mg "_law_letters" s_l_letters ["_law_drawn", "_law_most"]
  l_holds : Df K mg "_law_holds" s_l_holds ["_law_letters_here", "_law_saying_here", "_law_world"]
  l_worlds : Df K mg "_law_worlds" s_l_worlds ["_law_house_here"]
  l_house : Df K mg "_law_house" s_l_house ["_law_drawn", "_law_most"]
  l_refusal : Df K mg "_law_refusal" s_l_refusal ["_law_e"]
  l_full : Df K mg "_law_full" s_l_full ["_law_drawn", "_law_house_here"]
  l_other : Df K mg "_law_other" s_l_other ["_law_drawn", "_law_house_here"]
  l_due : Df K mg "_law_due" s_l_due ["_law_one", "_law_other_here"]
  l_told : Df K mg "_law_told" s_l_told ["_law_one", "_law_other_here"]
  l_part : Df K mg "_law_part" s_l_part ["_law_letters_here", "_law_world", "_law_some"]
  l_parts_right : Df K mg "_law_parts_right" s_l_parts_right ["_law_drawn", "_law_letters_here", "_law_worlds_here", "_law_one", "_law_other_here"]
  law : Df K mg "law" s_law ["_law_script"]
  m_ValueError : mg "ValueError" = none
  m_any : mg "any" = none
  m_int : mg "int" = none
  m_isinstance : mg "isinstance" = none
  m_len : mg "len" = none
  m_list : mg "list" = none
  m_max : mg "max" = none
  m_range : mg "range" = none
  m_sorted : mg "sorted" = none
  m_str : mg "str" = none
  m_tuple : mg "tuple" = none
  m_zip : mg "zip" = none
  t_MOST_LETTERS : Tok
  g_MOST_LETTERS : mg "MOST_LETTERS" = some (.int 6 t_MOST_LETTERS)
  t_MOST_RULES : Tok
  g_MOST_RULES : mg "MOST_RULES" = some (.int 8 t_MOST_RULES)
  x_StallError : Xc K mg "StallError"
  x_TooLong : Xc K mg "TooLong"
  x_TooMany : Xc K mg "TooMany"
  x_NoWorld : Xc K mg "NoWorld"
  x_NotAlike : Xc K mg "NotAlike"
  x_Unfair : Xc K mg "Unfair"
  x_Fair : Xc K mg "Fair"
  x_NoBet : Xc K mg "NoBet"
  x_NoHolder : Xc K mg "NoHolder"
  x_NoStake : Xc K mg "NoStake"
  x_NoTicket : Xc K mg "NoTicket"
  x_NoCover : Xc K mg "NoCover"
  x_NoSaying : Xc K mg "NoSaying"
  x_NoDeed : Xc K mg "NoDeed"
  x_NoStep : Xc K mg "NoStep"
  x_NoText : Xc K mg "NoText"
  i_NotAlike_StallError : PySem.W.subIn K (.ref x_NotAlike.C) (.ref x_StallError.C) = some true
  i_NotAlike_TooLong : PySem.W.subIn K (.ref x_NotAlike.C) (.ref x_TooLong.C) = some false
  i_NotAlike_TooMany : PySem.W.subIn K (.ref x_NotAlike.C) (.ref x_TooMany.C) = some false
  i_NotAlike_NoWorld : PySem.W.subIn K (.ref x_NotAlike.C) (.ref x_NoWorld.C) = some false
  i_NotAlike_NotAlike : PySem.W.subIn K (.ref x_NotAlike.C) (.ref x_NotAlike.C) = some true
  i_NotAlike_Unfair : PySem.W.subIn K (.ref x_NotAlike.C) (.ref x_Unfair.C) = some false
  i_NotAlike_Fair : PySem.W.subIn K (.ref x_NotAlike.C) (.ref x_Fair.C) = some false
  i_NotAlike_NoBet : PySem.W.subIn K (.ref x_NotAlike.C) (.ref x_NoBet.C) = some false
  i_NotAlike_NoHolder : PySem.W.subIn K (.ref x_NotAlike.C) (.ref x_NoHolder.C) = some false
  i_NotAlike_NoStake : PySem.W.subIn K (.ref x_NotAlike.C) (.ref x_NoStake.C) = some false
  i_NotAlike_NoTicket : PySem.W.subIn K (.ref x_NotAlike.C) (.ref x_NoTicket.C) = some false
  i_NotAlike_NoCover : PySem.W.subIn K (.ref x_NotAlike.C) (.ref x_NoCover.C) = some false
  i_NotAlike_NoSaying : PySem.W.subIn K (.ref x_NotAlike.C) (.ref x_NoSaying.C) = some false
  i_NotAlike_NoDeed : PySem.W.subIn K (.ref x_NotAlike.C) (.ref x_NoDeed.C) = some false
  i_NotAlike_NoStep : PySem.W.subIn K (.ref x_NotAlike.C) (.ref x_NoStep.C) = some false
  i_NotAlike_NoText : PySem.W.subIn K (.ref x_NotAlike.C) (.ref x_NoText.C) = some false
  v_NotAlike : PySem.W.subIn K (.ref x_NotAlike.C) (.type "ValueError") = some true
  i_TooMany_StallError : PySem.W.subIn K (.ref x_TooMany.C) (.ref x_StallError.C) = some true
  i_TooMany_TooLong : PySem.W.subIn K (.ref x_TooMany.C) (.ref x_TooLong.C) = some false
  i_TooMany_TooMany : PySem.W.subIn K (.ref x_TooMany.C) (.ref x_TooMany.C) = some true
  i_TooMany_NoWorld : PySem.W.subIn K (.ref x_TooMany.C) (.ref x_NoWorld.C) = some false
  i_TooMany_NotAlike : PySem.W.subIn K (.ref x_TooMany.C) (.ref x_NotAlike.C) = some false
  i_TooMany_Unfair : PySem.W.subIn K (.ref x_TooMany.C) (.ref x_Unfair.C) = some false
  i_TooMany_Fair : PySem.W.subIn K (.ref x_TooMany.C) (.ref x_Fair.C) = some false
  i_TooMany_NoBet : PySem.W.subIn K (.ref x_TooMany.C) (.ref x_NoBet.C) = some false
  i_TooMany_NoHolder : PySem.W.subIn K (.ref x_TooMany.C) (.ref x_NoHolder.C) = some false
  i_TooMany_NoStake : PySem.W.subIn K (.ref x_TooMany.C) (.ref x_NoStake.C) = some false
  i_TooMany_NoTicket : PySem.W.subIn K (.ref x_TooMany.C) (.ref x_NoTicket.C) = some false
  i_TooMany_NoCover : PySem.W.subIn K (.ref x_TooMany.C) (.ref x_NoCover.C) = some false
  i_TooMany_NoSaying : PySem.W.subIn K (.ref x_TooMany.C) (.ref x_NoSaying.C) = some false
  i_TooMany_NoDeed : PySem.W.subIn K (.ref x_TooMany.C) (.ref x_NoDeed.C) = some false
  i_TooMany_NoStep : PySem.W.subIn K (.ref x_TooMany.C) (.ref x_NoStep.C) = some false
  i_TooMany_NoText : PySem.W.subIn K (.ref x_TooMany.C) (.ref x_NoText.C) = some false
  v_TooMany : PySem.W.subIn K (.ref x_TooMany.C) (.type "ValueError") = some true
end B
namespace B
open PySem PySem.Spec PyProof.Rows L2

def sp_beside (K : PySem.W.Frag) : Sp := fun vs H Q E => ∃ (a c : Addr) (cs cs' : List Nat) (rs rs' : List (List Wd)), vs = [.ref a, .ref c] ∧ HsAt K H a cs rs ∧ HsAt K H c cs' rs' ∧ Ls 6 cs ∧ Ls 6 cs' ∧ rs.length ≤ 100 ∧ rs'.length ≤ 100 ∧
  (cs.any (fun x => cs'.contains x) = true → ∀ C, XIs K "NotAlike" C → ∀ d H', DOk H' d → Same H H' → E (.ref C) d H') ∧
  (cs.any (fun x => cs'.contains x) = false → (6 < cs.length + cs'.length ∨ 8 < rs.length + rs'.length) → ∀ C, XIs K "TooMany" C → ∀ d H', DOk H' d → Same H H' → E (.ref C) d H') ∧
  (cs.any (fun x => cs'.contains x) = false → cs.length + cs'.length ≤ 6 → rs.length + rs'.length ≤ 8 → ∀ (H' : Hp) (p : Addr) (zs : List Nat), zs.Perm (cs ++ cs') → zs.Pairwise (· < ·) → HsAt K H' p zs (rs ++ rs') → Same H H' → Q (.ref p) H')

section
variable {P : Program} {w : World} {K : PySem.W.Frag} {mg : Str → Option Value} {base : Heap}
theorem ok_beside (T : Tx K mg) (U : Unl P base) : FnOk P w K mg base (L2N.CX P w) 35 T.beside.f T.beside.fd ["one", "other"] (sp_beside K) := by
  refine okXN T.beside.F sc_beside (fun vs H Q E h => ?_) (fun cdv A outer s H vs Q E hr h => ?_)
  · obtain ⟨a, c, cs, cs', rs, rs', rfl, hA, hC, hL, hL', h1, h2, hE1, hE2, hQ⟩ := h
    rfl
  · obtain ⟨a, c, cs, cs', rs, rs', rfl, hA, hC, hL, hL', h1, h2, hE1, hE2, hQ⟩ := h
    refine ⟨_, (pss_cons (ps_asg (pv 0) (pg_tup rfl (pgs_cons (pg_name (i := 2) sc_beside.nd rfl (.inl rfl)) (pgs_cons (pg_name (i := 3) sc_beside.nd rfl (.inl rfl)) pgs_nil))))
      (pss_cons (ps_asg (pv 1) (pg_tup rfl (pgs_cons (pg_name (i := 4) sc_beside.nd rfl (.inr rfl)) (pgs_cons (pg_name (i := 5) sc_beside.nd rfl (.inl rfl)) pgs_nil))))
      (pss_cons (ps_if (pt_val (pe_callB (cr_any rfl) (by rfl) T.m_any (by decide +kernel) (pa_cons (pe_lc (own := [("letter", 6)]) (g := gName 6) (tt := tYes) rfl sc_beside.nd (pi_str (pv 2)) (blkOk_by (own := [("letter", 6)]) (N := N_beside) (sc := defScope s_beside) (by decide +kernel)) (fun _ _ _ _ _ => (pg_name (i := 6) sc_beside.nd rfl (.inl rfl))) (fun _ _ _ _ _ => pts_nil) (fun _ _ _ _ _ => (pe_cmpR op_in_sign (pv 6) (pv 4) (by rfl)))) pa_nil))) (pss_one (L2N.ps_raise rfl (L2N.takes_of rfl rfl rfl rfl) (pmk_noneN T.x_NotAlike hr (by rfl)))) pss_nil)
      (pss_cons (ps_if (PW.pt (pw_or (pt_cmpR op_gt (pe_callB call_len_str (by rfl) T.m_len (by decide +kernel) (pa_cons (pe_op op_add_str (pv 2) (pv 4)) pa_nil)) (pe_glob (v := .int 6) (by rfl) T.g_MOST_LETTERS ⟨_, rfl⟩) (nomark _)) (pw_or1 (pt_cmpR op_gt (pe_callB call_len_seq (by rfl) T.m_len (by decide +kernel) (pa_cons (pe_op op_catS (pv 3) (pv 5)) pa_nil)) (pe_glob (v := .int 8) (by rfl) T.g_MOST_RULES ⟨_, rfl⟩) (nomark _))))) (pss_one (L2N.ps_raise rfl (L2N.takes_of rfl rfl rfl rfl) (pmk_noneN T.x_TooMany hr (by rfl)))) pss_nil)
      (pss_one (ps_ret (pe_tup (pa_cons (pe_bm PySem.F.plainAttrs_str PySem.F.slot_str_join PySem.F.type_str_join mt_join pe_str (pa_cons (pe_callB (cr_sortedX rfl) (by rfl) T.m_sorted (by decide +kernel) (pa_cons (pe_op op_add_str (pv 2) (pv 4)) pa_nil)) pa_nil)) (pa_cons (pe_op op_catS (pv 3) (pv 5)) pa_nil))))))))), ?_⟩
    obtain ⟨ra, rvs, tA, tR, fR⟩ := id hA
    obtain ⟨rc, rws, tC, tS, fS⟩ := id hC
    refine ⟨_, rfl, a, _, rfl, tA, rfl, _, _, rfl, _, _, rfl, rfl, ?_⟩
    refine ⟨_, rfl, c, _, rfl, tC, rfl, _, _, rfl, _, _, rfl, rfl, ?_⟩
    have l6 := hL.most
    have l6' := hL'.most
    have sz : (tx cs).length + (tx cs').length ≤ sizeLine := Nat.le_trans (show cs.length + cs'.length ≤ 12 by omega) (by decide)
    have sz2 : (tx (cs ++ cs')).length ≤ sizeLine := by
      show (cs ++ cs').length ≤ sizeLine
      rw [List.length_append]
      exact sz
    have lr := fR.len
    have ls := fS.len
    refine ⟨_, rfl, tx cs, rfl, fun D nD => ?_⟩
    refine lcp_it (K := K) (walk_str (z := tx cs)) (fun i => some (cs'.contains (cs.getD i 0))) (fun _ v (b : Bool) => v = .bl b) (fun _ _ _ _ _ h => h) nD (Nat.lt_of_le_of_lt (show cs.length ≤ 6 by omega) (by decide)) (fun _ _ => trivial) ?_ ?_
    · rintro i v H2 _ hi s2 ⟨rfl, x, hx, rfl⟩ Y N hY _
      have hx : cs[i]? = some x := by
        have : (tx cs).cps.toList[i]? = some x := by rw [Array.getElem?_toList]; exact hx
        exact this
      have gx : cs.getD i 0 = x := by rw [List.getD_eq_getElem?_getD, hx]; rfl
      exact ⟨rfl, lc_yes ⟨_, rfl, _, rfl, x, tx cs', rfl, rfl, hY _ _ (cs'.contains x) (Same.refl _) (by rw [gx]) (congrArg V.bl (by rw [Bool.eq_iff_iff, decide_eq_true_eq, List.contains_iff_mem]; rfl))⟩⟩
    intro H2 ys h2 f2 s2
    have e2 := f2_eq f2
    rw [fm_some] at e2
    rw [e2] at h2
    refine ⟨D, _, rfl, .inl (.inl h2), _, rfl, ?_⟩
    rw [any_map_id, show (List.range (tx cs).cps.size).any (fun i => cs'.contains (cs.getD i 0)) = cs.any (fun x => cs'.contains x) from range_any _ cs]
    cases e : cs.any fun x => cs'.contains x with
    | true => exact iteT fun d nd => hE1 e _ T.x_NotAlike.ns _ _ dok_upd (s2.trans (same_upd nd))
    | false =>
    refine iteF ⟨_, rfl, _, rfl, tx cs, tx cs', rfl, rfl, sz, ?_⟩
    rw [tx_app]
    refine ⟨tx (cs ++ cs'), rfl, sz2, _, _, rfl, rfl, _, rfl, ite2 (fun z => ?_) (fun z => ?_)⟩
    · have z : (((cs ++ cs').length : Nat) : Int) > 6 := of_decide_eq_true z
      rw [List.length_append] at z
      exact fun d nd => hE2 e (.inl (by omega)) _ T.x_TooMany.ns _ _ dok_upd (s2.trans (same_upd nd))
    have z : ¬ (((cs ++ cs').length : Nat) : Int) > 6 := fun y => z (decide_eq_true y)
    rw [List.length_append] at z
    refine ⟨_, rfl, _, rfl, ra, rc, rvs, rws, rfl, rfl, Same.tup s2 tR, Same.tup s2 tS, by omega, fun p3 H3 t3 s3 => ?_⟩
    have S3 := s2.trans s3
    refine ⟨p3, _, rfl, .inr t3, _, _, rfl, rfl, _, rfl, ite2 (fun y => ?_) (fun y => ?_)⟩
    · have y : (((rvs ++ rws).length : Nat) : Int) > 8 := of_decide_eq_true y
      rw [List.length_append] at y
      exact fun d nd => hE2 e (.inr (by omega)) _ T.x_TooMany.ns _ _ dok_upd (S3.trans (same_upd nd))
    have y : ¬ (((rvs ++ rws).length : Nat) : Int) > 8 := fun w => y (decide_eq_true w)
    rw [List.length_append] at y
    refine ⟨rfl, _, rfl, _, rfl, tx cs, tx cs', rfl, rfl, sz, ?_⟩
    rw [tx_app]
    refine ⟨tx (cs ++ cs'), rfl, sz2, fun ys p hperm hsort np => ?_⟩
    obtain ⟨zs, rfl, hz⟩ := perm_sg hperm
    have lz : zs.length = (cs ++ cs').length := hz.length_eq
    rw [List.length_append] at lz
    have s4 := same_upd (o := .lst ((zs.map sg).map V.str)) np
    refine ⟨"", p, zs.map sg, rfl, rfl, .inl (.inl (.inl upd_same)), ?_, ?_⟩
    · rw [List.map_map]
      have : (zs.map sg).length * Str.length "" = 0 := rfl
      rw [sum_one, List.length_map]
      show zs.length + zs.length * 0 ≤ 16777216
      omega
    rw [join_sg]
    have S4 := S3.trans s4
    refine ⟨_, rfl, _, rfl, ra, rc, rvs, rws, rfl, rfl, Same.tup S4 tR, Same.tup S4 tS, by omega, fun p5 H5 t5 s5 => ?_⟩
    refine ⟨by show 2 ≤ sizeLine; decide, fun p6 n6 => ?_⟩
    have s6 := same_upd (o := .tup [.str (tx zs), .ref p5]) n6
    have S6 := S4.trans (s5.trans s6)
    exact hQ e (by omega) (by omega) _ p6 zs hz (rise_of2 (hz.symm.nodup (nodup_app hL.rise hL'.rise e)) hsort) ⟨p5, _, sqt_upd, Same.tup s6 t5, Rws.app (fR.same S6) (fS.same S6)⟩ S6
end
end B

namespace B
open PySem PySem.Spec PyProof.Rows L2

def sp_part_of (K : PySem.W.Frag) : Sp := fun vs H Q _ => ∃ (cs ss : List Nat) (bs : List Bool), vs = [.str (tx cs), .str (wtx bs), .str (tx ss)] ∧ cs.length = bs.length ∧ cs.length ≤ 26 ∧ ss.length ≤ 100 ∧ ∀ H', Same H H' → Q (.str (wtx (partB cs bs ss))) H'

section
variable {P : Program} {w : World} {K : PySem.W.Frag} {mg : Str → Option Value} {base : Heap}
theorem ok_part_of (T : Tx K mg) (U : Unl P base) : FnOk P w K mg base CX0 35 T.part_of.f T.part_of.fd ["letters", "world", "some"] (sp_part_of K) := by
  refine T.part_of.F.ok sc_part_of (fun vs H Q E h => ?_) (fun cdv A outer s H vs Q E hr h => ?_)
  · obtain ⟨cs, ss, bs, rfl, hl, h26, hs, q⟩ := h
    rfl
  · obtain ⟨cs, ss, bs, rfl, hl, h26, hs, q⟩ := h
    refine ⟨_, (pss_one (ps_ret (pe_bm PySem.F.plainAttrs_str PySem.F.slot_str_join PySem.F.type_str_join mt_join pe_str (pa_cons (pe_lc (own := [("letter", 3), ("sign", 4)]) (g := (gTup K 2 (gCons (gName 3) (gCons (gName 4) gNil)))) rfl sc_part_of.nd (pi_zipG (by rfl) T.m_zip (pa_cons (pv 0) (pa_cons (pv 1) pa_nil))) (blkOk_by (own := [("letter", 3), ("sign", 4)]) (N := N_part_of) (sc := defScope s_part_of) (by decide +kernel)) (fun _ _ _ _ _ => (pg_tup rfl (pgs_cons (pg_name (i := 3) sc_part_of.nd rfl (.inl rfl)) (pgs_cons (pg_name (i := 4) sc_part_of.nd rfl (.inl rfl)) pgs_nil)))) (fun _ _ _ _ _ => (pts_one (pt_cmpR op_in_sign (pv 3) (pv 2) (by rfl)))) (fun _ _ _ _ _ => (pv 4))) pa_nil)))), ?_⟩
    have hb := hl
    refine ⟨rfl, _, rfl, _, rfl, .s, .s, .str (tx cs), .str (wtx bs), _, _, rfl, ⟨tx cs, rfl, rfl⟩, ⟨wtx bs, rfl, rfl⟩, fun D nD => ?_⟩
    have em : min ((tx cs).cps.toList.map fun c => V.str ⟨#[c]⟩).length ((wtx bs).cps.toList.map fun c => V.str ⟨#[c]⟩).length = cs.length := by
      rw [List.length_map, List.length_map]
      show min cs.length (bs.map bc).length = cs.length
      rw [List.length_map]
      omega
    refine lcp_it (K := K) (walk_zipG (xs := (tx cs).cps.toList.map fun c => V.str ⟨#[c]⟩) (ys := (wtx bs).cps.toList.map fun c => V.str ⟨#[c]⟩)) (fun i => if ss.contains (cs.getD i 0) then some (bs.getD i false) else none) (fun _ v (b : Bool) => v = .str (sg (bc b))) (fun _ _ _ _ _ h => h) nD (by rw [em]; exact Nat.lt_of_le_of_lt h26 (by decide)) (fun H' s => ⟨⟨tx cs, rfl, rfl⟩, ⟨wtx bs, rfl, rfl⟩⟩) ?_ ?_
    · rintro i v H2 _ hi s2 ⟨tq, x, y, rfl, nT, rfl, hx, hy⟩ Y N hYes hNo
      rw [em] at hi
      have sT := same_upd (o := .tup [x, y]) nT
      have hx : ((tx cs).cps.toList.map fun c => V.str ⟨#[c]⟩)[i]? = some x := hx
      have hy : ((wtx bs).cps.toList.map fun c => V.str ⟨#[c]⟩)[i]? = some y := hy
      rw [List.getElem?_map, tx_list, List.getElem?_eq_getElem hi] at hx
      rw [List.getElem?_map, show (wtx bs).cps.toList = bs.map bc from rfl, List.getElem?_map, List.getElem?_eq_getElem (show i < bs.length by omega)] at hy
      cases hx
      cases hy
      have ec : cs.getD i 0 = cs[i] := by rw [List.getD_eq_getElem?_getD, List.getElem?_eq_getElem hi]; rfl
      have eb : bs.getD i false = bs[i] := by rw [List.getD_eq_getElem?_getD, List.getElem?_eq_getElem (show i < bs.length by omega)]; rfl
      refine ⟨tq, _, rfl, sqt_upd, rfl, _, _, rfl, _, _, rfl, rfl, rfl, ?_⟩
      refine ⟨_, rfl, _, rfl, cs[i], tx ss, rfl, rfl, _, rfl, ?_⟩
      rw [tx_list]
      refine ite2 (fun e => ?_) (fun e => ?_)
      · exact ⟨_, rfl, hYes _ _ bs[i] sT (by rw [ec, eb]; exact if_pos (List.contains_iff_mem.mpr (of_decide_eq_true e))) rfl⟩
      · exact hNo _ sT (by rw [ec]; exact if_neg fun z => e (decide_eq_true (List.contains_iff_mem.mp z)))
    intro H2 ys h2 f2 s2
    have e2 := f2_eq f2
    rw [em] at e2
    have e2 : ys = (((partB cs bs ss).map bc).map sg).map V.str := by
      rw [e2, List.map_map, List.map_map]
      rfl
    rw [e2] at h2
    have lp : (partB cs bs ss).length ≤ 26 := Nat.le_trans (List.length_filterMap_le _ _) (by rw [List.length_range]; exact h26)
    refine ⟨"", D, ((partB cs bs ss).map bc).map sg, rfl, rfl, .inl (.inl (.inl h2)), ?_, ?_⟩
    · have : (((partB cs bs ss).map bc).map sg).length * Str.length "" = 0 := rfl
      rw [List.map_map, sum_one, List.length_map, List.length_map]
      show (partB cs bs ss).length + (partB cs bs ss).length * 0 ≤ 16777216
      omega
    · rw [join_sg]
      exact q _ s2
end
end B

namespace B
open PySem PySem.Spec PyProof.Rows L2
theorem cut63 {xs : List V} (h : xs.length ≤ 63) : cutV xs none (some 63) = xs := by
  unfold cutV
  rw [HT.sIx_none, show HT.sIx xs.length xs.length (some 63) = min 63 xs.length from HT.sIx_nat xs.length xs.length 63]
  rw [List.drop_zero, List.take_of_length_le (by omega)]

def sp_l_draws (K : PySem.W.Frag) : Sp := fun vs H Q _ => ∃ (a : Addr) (ns : List Int), vs = [.ref a] ∧ SqL K H a (ns.map V.int) ∧ ns.length ≤ 63 ∧ ∀ (H' : Hp) (d : Dr), Drw H' d 900000 → Same H H' → H d.dr = none → H d.rs = none → Q (.ref d.dr) H'

section
variable {P : Program} {w : World} {K : PySem.W.Frag} {mg : Str → Option Value} {base : Heap}
theorem ok_l_draws (T : Tx K mg) (U : Unl P base) : FnOk P w K mg base CX0 35 T.l_draws.f T.l_draws.fd ["_law_script"] (sp_l_draws K) := by
  refine T.l_draws.F.ok sc_l_draws (fun vs H Q E h => ?_) (fun cdv A outer s H vs Q E hr h => ?_)
  · obtain ⟨a, ns, rfl, hS, hlen, q⟩ := h
    rfl
  · obtain ⟨a, ns, rfl, hS, hlen, q⟩ := h
    refine ⟨_, (pss_cons (ps_set (i := 1) sc_l_draws.nd rfl (.inl rfl) (pe_op op_cat (pe_callTy call_list_of (by rfl) T.m_list (by decide +kernel) (pa_cons (pe_slice sl_list (pv 0) po_none (po_some pe_int)) pa_nil)) (pe_op op_rep (pe_lst (pa_cons pe_int pa_nil)) (pe_callTy call_int1 (by rfl) T.m_int (by decide +kernel) (pa_cons (pe_cmpR op_eq (pe_callB call_len_seq (by rfl) T.m_len (by decide +kernel) (pa_cons (pv 0) pa_nil)) pe_int (nomark _)) pa_nil)))))
      (pss_one (ps_ret (pe_lst (pa_cons (pv 1) (pa_cons pe_int (pa_cons (pe_lc (own := [("_law_cell", 2)]) (g := gName 2) (tt := tYes) rfl sc_l_draws.nd (pi_list (pv 1)) (blkOk_by (own := [("_law_cell", 2)]) (N := N_l_draws) (sc := defScope s_l_draws) (by decide +kernel)) (fun _ _ _ _ _ => (pg_name (i := 2) sc_l_draws.nd rfl (.inl rfl))) (fun _ _ _ _ _ => pts_nil) (fun _ _ _ _ _ => (pe_op op_mul (pv 2) (pe_callTy (T := "int") call_int1 (by rfl) T.m_int (by decide +kernel) (pa_cons (pe_cmpR op_ge (pv 2) (pe_op op_pow pe_int pe_int) (nomark _)) pa_nil))))) pa_nil))))))), ?_⟩
    have lns : (ns.map V.int).length = ns.length := List.length_map ..
    refine ⟨_, rfl, 63, rfl, a, _, rfl, hS, fun p1 np1 => ?_⟩
    have s1 := same_upd (o := .lst (cutV (ns.map V.int) none (some 63))) np1
    refine ⟨p1, _, rfl, .inl sql_upd, fun l nl => ?_⟩
    rw [cut63 (by rw [lns]; exact hlen)] at s1 nl ⊢
    have s2 := s1.trans (same_upd (o := .lst (ns.map V.int)) nl)
    refine ⟨by decide, fun z nz => ?_⟩
    have s3 := s2.trans (same_upd (o := .lst [.int 0]) nz)
    refine ⟨_, rfl, a, _, rfl, .inl (s3.seq hS), rfl, .inr ⟨_, rfl, ?_⟩⟩
    have hl3 : (upd (upd (upd H p1 (.lst (ns.map V.int))) l (.lst (ns.map V.int))) z (.lst [.int 0])) l = some (.lst (ns.map V.int)) := by
      rw [upd_ne (ne_of_none upd_same nz), upd_same]
    obtain ⟨k, hk, k2⟩ : ∃ k : Nat, (if decide (V.int ((ns.map V.int).length : Nat) = V.int 0) = true then (1 : Int) else 0) = (k : Int) ∧ ((ns = [] ∧ k = 1) ∨ (ns ≠ [] ∧ k = 0)) := by
      cases ns with
      | nil => exact ⟨1, rfl, .inl ⟨rfl, rfl⟩⟩
      | cons x r =>
        refine ⟨0, ?_, .inr ⟨by simp, rfl⟩⟩
        rw [if_neg]
        · rfl
        · intro e
          have e2 := V.int.inj (of_decide_eq_true e)
          rw [List.length_map, List.length_cons] at e2
          omega
    refine ⟨z, _, _, rfl, rfl, upd_same, ?_, ?_, ?_, fun r nr => ?_⟩
    · rw [hk]
      omega
    · rw [hk]
      omega
    · rw [hk, Int.toNat_natCast]
      show 1 * k ≤ sizeLine
      exact Nat.le_trans (show 1 * k ≤ 1 by omega) (by decide)
    rw [hk, Int.toNat_natCast]
    have s4 := s3.trans (same_upd (o := .lst (List.replicate k [V.int 0]).flatten) nr)
    obtain ⟨cs, ecs, c0, c63⟩ : ∃ cs : List Int, ns.map V.int ++ (List.replicate k [V.int 0]).flatten = cs.map V.int ∧ 0 < cs.length ∧ cs.length ≤ 63 := by
      rcases k2 with ⟨rfl, rfl⟩ | ⟨h, rfl⟩
      · exact ⟨[0], rfl, by decide, by decide⟩
      · refine ⟨ns, by simp, ?_, hlen⟩
        cases ns with
        | nil => exact absurd rfl h
        | cons x r => rw [List.length_cons]; omega
    refine ⟨l, r, ns.map V.int, _, rfl, rfl, ?_, upd_same, ?_, fun c nc => ?_⟩
    · rw [upd_ne (ne_of_none hl3 nr)]
      exact hl3
    · have e := congrArg List.length ecs
      rw [List.length_append, List.length_map] at e
      rw [List.length_map, e, List.length_map]
      exact Nat.le_trans c63 (by decide)
    rw [ecs]
    have s5 := s4.trans (same_upd (o := .lst (cs.map V.int)) nc)
    have hc5 := upd_same (H := upd (upd (upd (upd H p1 (.lst (ns.map V.int))) l (.lst (ns.map V.int))) z (.lst [.int 0])) r (.lst (List.replicate k [V.int 0]).flatten)) (a := c) (o := .lst (cs.map V.int))
    generalize upd (upd (upd (upd (upd H p1 (.lst (ns.map V.int))) l (.lst (ns.map V.int))) z (.lst [.int 0])) r (.lst (List.replicate k [V.int 0]).flatten)) c (.lst (cs.map V.int)) = H5 at s5 hc5 ⊢
    refine ⟨_, rfl, _, rfl, c, rfl, ⟨_, .inl (.inl hc5)⟩, fun D nD => ?_⟩
    refine lc_list (K := K) (a := c) (xs := cs.map V.int) (fun i H' => ∃ acc : List Int, H' D = some (.lst (acc.map V.int)) ∧ acc.length = i ∧ i ≤ cs.length ∧ Same H5 H') ⟨[], upd_same, rfl, by omega, same_upd nD⟩ (fun i H' _ ⟨_, _, _, _, e⟩ => .inl (.inl (e _ _ hc5))) ?_ ?_
    · rintro i x H' hx ⟨acc, h1, h2, h3, h4⟩
      have hi : i < cs.length := by
        have := (List.getElem?_eq_some_iff.mp hx).1
        rw [List.length_map] at this
        exact this
      obtain ⟨y, hy, rfl⟩ : ∃ y, cs[i]? = some y ∧ x = V.int y := by
        rw [List.getElem?_map] at hx
        cases e : cs[i]? with
        | none => rw [e] at hx; cases hx
        | some y => rw [e] at hx; exact ⟨y, rfl, (Option.some.inj hx).symm⟩
      refine ⟨rfl, lc_yes ?_⟩
      refine ⟨_, rfl, _, rfl, _, _, rfl, rfl, ⟨by decide, by decide, by decide⟩, _, _, rfl, rfl, .inr ⟨_, rfl, ?_⟩⟩
      refine ⟨_, _, rfl, rfl, .inr ?_, _, h1, ?_, ?_⟩
      · constructor
        · split <;> decide
        · split <;> decide
      · rw [List.length_map]
        exact Nat.lt_of_le_of_lt (show acc.length ≤ 63 by omega) (by decide)
      · refine ⟨acc ++ [_], by rw [upd_same, List.map_append]; rfl, by rw [List.length_append, h2]; rfl, hi, fun b o e => ?_⟩
        rw [upd_ne (ne_of_none e nD)]
        exact h4 b o e
    · rintro H' ⟨acc, h1, h2, h3, h4⟩
      refine ⟨by show 3 ≤ sizeLine; decide, fun p np => ?_⟩
      rw [List.length_map] at h2
      refine q _ ⟨p, c, D⟩ ⟨⟨cs, acc, 0, upd_same, ?_, ?_, h2.symm, c0, c63, by decide⟩, ?_⟩ ?_ ?_ ?_
      · rw [upd_ne (ne_of_none (h4 _ _ hc5) np)]
        exact h4 _ _ hc5
      · rw [upd_ne (ne_of_none h1 np)]
        exact h1
      · exact ne_of_none hc5 nD
      · exact (s5.trans h4).trans (same_upd np)
      · exact (s5.trans h4).free np
      · exact s5.free nD
end
end B

namespace B
open PySem PySem.Spec PyProof.Rows L2

def sp_l_next (_ : PySem.W.Frag) : Sp := fun vs H Q _ => ∃ (d : Dr) (b : Nat) (many : Int), vs = [.ref d.dr, .int many] ∧ 0 < many ∧ many.natAbs < 2 ^ 70 ∧ Drw H d (b + 1) ∧ ∀ (H' : Hp) (r : Int), 0 ≤ r → r < many → Drw H' d b → Kp d H H' → Q (.int r) H'

section
variable {P : Program} {w : World} {K : PySem.W.Frag} {mg : Str → Option Value} {base : Heap}
theorem ok_l_next (T : Tx K mg) (U : Unl P base) : FnOk P w K mg base CX0 35 T.l_next.f T.l_next.fd ["_law_drawn", "_law_many"] (sp_l_next K) := by
  refine T.l_next.F.ok sc_l_next (fun vs H Q E h => ?_) (fun cdv A outer s H vs Q E hr h => ?_)
  · obtain ⟨d, b, many, rfl, hm0, hm1, ⟨⟨cs, rr, c, h1, h2, h3, hl, hp, h63, hb⟩, ne⟩, q⟩ := h
    rfl
  · obtain ⟨d, b, many, rfl, hm0, hm1, ⟨⟨cs, rr, c, h1, h2, h3, hl, hp, h63, hb⟩, ne⟩, q⟩ := h
    refine ⟨_, (pss_cons (ps_asg (pv 0) (pg_lst rfl (pgs_cons (pg_name (i := 2) sc_l_next.nd rfl (.inl rfl)) (pgs_cons (pg_name (i := 3) sc_l_next.nd rfl (.inl rfl)) (pgs_cons (pg_name (i := 4) sc_l_next.nd rfl (.inl rfl)) pgs_nil)))))
      (pss_cons (ps_set (i := 5) sc_l_next.nd rfl (.inl rfl) (pe_op op_mod (pv 3) (pe_callB call_len_seq (by rfl) T.m_len (by decide +kernel) (pa_cons (pv 2) pa_nil))))
      (pss_cons (ps_asg (pe_op op_add (pv 3) pe_int) (pg_sub (pv 0) pe_int set_list))
      (pss_cons (ps_if (pt_cmpR op_gt (pe_ix ix_list (pv 4) (pv 5) (fun _ _ => rfl)) pe_int (nomark _)) (pss_cons (ps_set (i := 6) sc_l_next.nd rfl (.inl rfl) (pe_op op_mod (pe_ix ix_list (pv 4) (pv 5) (fun _ _ => rfl)) (pv 1)))
      (pss_cons (ps_asg (pe_op (op_fdivW U (hr.mono (by decide)) rfl sc_l_next.gen sc_l_next.co rfl rfl) (pe_ix ix_list (pv 4) (pv 5) (fun _ _ => rfl)) (pv 1)) (pg_sub (pv 4) (pv 5) set_list))
      (pss_one (ps_ret (pv 6))))) pss_nil)
      (pss_cons (ps_set (i := 7) sc_l_next.nd rfl (.inl rfl) (pe_lst (pa_cons pe_int (pa_cons pe_int (pa_cons pe_int (pa_cons pe_int (pa_cons pe_int (pa_cons pe_int (pa_cons pe_int pa_nil)))))))))
      (pss_cons (ps_set (i := 8) sc_l_next.nd rfl (.inl rfl) (pe_op op_pow (pe_op op_add (pe_op op_add (pe_op op_mod (pe_ix ix_list (pv 2) (pv 5) (fun _ _ => rfl)) pe_int) (pe_op op_mul pe_int (pv 3))) pe_int) pe_int))
      (pss_cons (ps_set (i := 8) sc_l_next.nd rfl (.inl rfl) (pe_op op_mod (pv 8) (pe_ix ix_list (pv 7) (pe_op op_mod (pv 3) pe_int) (fun _ _ => rfl))))
      (pss_cons (ps_set (i := 9) sc_l_next.nd rfl (.inl rfl) (pe_op op_mod (pe_op op_pow (pe_op op_add (pv 8) (pe_op op_mul pe_int (pv 3))) pe_int) pe_int))
      (pss_one (ps_ret (pe_op op_mod (pe_op op_mod (pe_op op_add (pe_op op_mul (pv 9) pe_int) (pv 8)) pe_int) (pv 1)))))))))))), ?_⟩
    have n1 : d.dr ≠ d.cl := ne_of h1 h2 (by intro z; cases cs with | nil => cases z | cons x r => cases z)
    have n2 : d.dr ≠ d.rs := ne_of h1 h3 (by intro z; cases rr with | nil => cases z | cons x r => cases z)
    have lc : (cs.map V.int).length = cs.length := List.length_map ..
    have lr : (rr.map V.int).length = cs.length := by rw [List.length_map, hl]
    have hj : c % (cs.map V.int).length < cs.length := by
      rw [lc]
      exact Nat.mod_lt _ hp
    obtain ⟨x, hx⟩ : ∃ x, cs[c % (cs.map V.int).length]? = some x := ⟨_, List.getElem?_eq_getElem hj⟩
    obtain ⟨y, hy⟩ : ∃ y, rr[c % (cs.map V.int).length]? = some y := ⟨_, List.getElem?_eq_getElem (by rw [← hl]; exact hj)⟩
    refine ⟨_, rfl, d.dr, _, rfl, .inl (.inl h1), rfl, _, _, rfl, _, _, rfl, _, _, rfl, rfl, ?_⟩
    refine ⟨_, rfl, _, rfl, d.cl, _, rfl, .inl (.inl (.inl h2)), _, _, rfl, rfl, (by show (0 : Int) < ((cs.map V.int).length : Int); omega), ?_⟩
    refine ⟨_, rfl, _, _, rfl, rfl, _, rfl, d.dr, _, 1, 1, rfl, rfl, h1, rfl, ?_⟩
    have H1r : (upd H d.dr (.lst ([.ref d.cl, .int c, .ref d.rs].set 1 (.int ((c : Int) + 1))))) d.rs = some (.lst (rr.map V.int)) := by rw [upd_ne n2.symm]; exact h3
    have H1c : (upd H d.dr (.lst ([.ref d.cl, .int c, .ref d.rs].set 1 (.int ((c : Int) + 1))))) d.cl = some (.lst (cs.map V.int)) := by rw [upd_ne n1.symm]; exact h2
    have ary : atI (rr.map V.int) ((c % (cs.map V.int).length : Nat) : Int) = some (.int y) := at_nat (by rw [List.getElem?_map, hy]; rfl)
    have arx : atI (cs.map V.int) ((c % (cs.map V.int).length : Nat) : Int) = some (.int x) := at_nat (by rw [List.getElem?_map, hx]; rfl)
    refine ⟨_, rfl, _, rfl, d.rs, _, ((c % (cs.map V.int).length : Nat) : Int), _, rfl, rfl, .inl (.inl H1r), ary, _, _, rfl, rfl, _, rfl, ite2 (fun e => ?_) (fun e => ?_)⟩
    · refine ⟨_, rfl, _, rfl, d.rs, _, ((c % (cs.map V.int).length : Nat) : Int), _, rfl, rfl, .inl (.inl H1r), ary, _, rfl, _, _, rfl, rfl, hm0, ?_⟩
      refine ⟨_, rfl, _, rfl, d.rs, _, ((c % (cs.map V.int).length : Nat) : Int), _, rfl, rfl, .inl (.inl H1r), ary, _, rfl, _, _, rfl, rfl, wide_div hm0 hm1 (by decide) (by decide), _, rfl, _, rfl, d.rs, _, ((c % (cs.map V.int).length : Nat) : Int), c % (cs.map V.int).length, rfl, rfl, H1r, ?_, ?_⟩
      · unfold ixN
        rw [if_pos (by omega), if_pos (by rw [lr]; omega)]
        rfl
      refine ⟨_, rfl, ?_⟩
      refine q _ _ (Int.emod_nonneg _ (by omega)) (Int.emod_lt_of_pos _ hm0) ⟨⟨cs, rr.set (c % (cs.map V.int).length) (y / many), c + 1, ?_, ?_, ?_, ?_, hp, h63, by omega⟩, ne⟩ ?_
      · rw [upd_ne n2, upd_same]
        rfl
      · rw [upd_ne ne]
        exact H1c
      · rw [upd_same, List.map_set]
      · rw [List.length_set]
        exact hl
      · intro p o hp1 a1 a2
        rw [upd_ne a2, upd_ne a1]
        exact hp1
    · refine ⟨by decide, fun pr npr => ?_⟩
      have npc : d.cl ≠ pr := ne_of_none H1c npr
      refine ⟨_, rfl, _, rfl, d.cl, _, ((c % (cs.map V.int).length : Nat) : Int), _, rfl, rfl, .inl (.inl (by rw [upd_ne npc]; exact H1c)), arx, _, _, rfl, rfl, (by show (0 : Int) < 2147483647; decide), _, rfl, _, _, rfl, rfl, .inl ⟨by decide, by decide⟩, _, _, rfl, rfl, _, _, rfl, rfl, ?_⟩
      have c7 : c % 7 < 7 := Nat.mod_lt _ (by decide)
      obtain ⟨pm, hpm, pm0, pm1⟩ : ∃ pm : Int, ([.int 2147483629, .int 2147483587, .int 2147483579, .int 2147483563, .int 2147483549, .int 2147483543, .int 2147483497] : List V)[c % 7]? = some (.int pm) ∧ 0 < pm ∧ pm < 2147483648 := by
        generalize c % 7 = z at c7
        match z, c7 with
        | 0, _ => exact ⟨_, rfl, by decide, by decide⟩
        | 1, _ => exact ⟨_, rfl, by decide, by decide⟩
        | 2, _ => exact ⟨_, rfl, by decide, by decide⟩
        | 3, _ => exact ⟨_, rfl, by decide, by decide⟩
        | 4, _ => exact ⟨_, rfl, by decide, by decide⟩
        | 5, _ => exact ⟨_, rfl, by decide, by decide⟩
        | 6, _ => exact ⟨_, rfl, by decide, by decide⟩
      refine ⟨_, _, rfl, rfl, ⟨by decide, by decide, by omega⟩, _, rfl, _, rfl, _, rfl, _, _, rfl, rfl, (by show (0 : Int) < 7; decide), pr, _, ((c % 7 : Nat) : Int), _, rfl, rfl, .inl (.inl upd_same), at_nat hpm, _, _, rfl, rfl, pm0, ?_⟩
      have m2 := Int.emod_nonneg ((x % 2147483647 + 48271 * (c : Int) + 104729) ^ (3 : Int).toNat) (show pm ≠ 0 by omega)
      have m2' := Int.emod_lt_of_pos ((x % 2147483647 + 48271 * (c : Int) + 104729) ^ (3 : Int).toNat) pm0
      refine ⟨_, rfl, _, rfl, _, _, rfl, rfl, .inl ⟨by decide, by decide⟩, _, _, rfl, rfl, _, _, rfl, rfl, ⟨by decide, by decide, by omega⟩, _, _, rfl, rfl, (by show (0 : Int) < 2147483477; decide), ?_⟩
      refine ⟨_, rfl, _, _, rfl, rfl, .inr ⟨by decide, by decide⟩, _, rfl, _, _, rfl, rfl, _, _, rfl, rfl, (by show (0 : Int) < 4611686018427387847; decide), _, rfl, _, _, rfl, rfl, hm0, ?_⟩
      refine q _ _ (Int.emod_nonneg _ (by omega)) (Int.emod_lt_of_pos _ hm0) ⟨⟨cs, rr, c + 1, ?_, ?_, ?_, hl, hp, h63, by omega⟩, ne⟩ ?_
      · rw [upd_ne (ne_of_none (upd_same (H := H)) npr), upd_same]
        rfl
      · rw [upd_ne npc]
        exact H1c
      · rw [upd_ne (ne_of_none H1r npr)]
        exact H1r
      · intro p o hp1 a1 a2
        have e1 : (upd H d.dr (.lst ([.ref d.cl, .int c, .ref d.rs].set 1 (.int ((c : Int) + 1))))) p = some o := by rw [upd_ne a1]; exact hp1
        rw [upd_ne (ne_of_none e1 npr)]
        exact e1
end
end B

namespace B
open PySem PySem.Spec PyProof.Rows L2

def sp_l_holds (K : PySem.W.Frag) : Sp := fun vs H Q _ => ∃ (cs : List Nat) (a : Addr) (ws : List Wd) (bs : List Bool), vs = [.str (tx cs), .ref a, .str (wtx bs)] ∧ SqT K H a (ws.map wv) ∧ Sy cs ws ∧ cs.length = bs.length ∧ bs.length ≤ 100 ∧ ws.length ≤ 10000 ∧ ∀ H', Same H H' → Q (.bl (sval (vl cs bs) ws)) H'

section
variable {P : Program} {w : World} {K : PySem.W.Frag} {mg : Str → Option Value} {base : Heap}
theorem ok_l_holds (T : Tx K mg) (U : Unl P base) : FnOk P w K mg base CX0 35 T.l_holds.f T.l_holds.fd ["_law_letters_here", "_law_saying_here", "_law_world"] (sp_l_holds K) := by
  refine T.l_holds.F.ok sc_l_holds (fun vs H Q E h => ?_) (fun cdv A outer s H vs Q E hr h => ?_)
  · obtain ⟨cs, a, ws, bs, rfl, hA, hY, hl, h100, hz, q⟩ := h
    rfl
  · obtain ⟨cs, a, ws, bs, rfl, hA, hY, hl, h100, hz, q⟩ := h
    refine ⟨_, (pss_cons (ps_set (i := 3) sc_l_holds.nd rfl (.inl rfl) (pe_tup pa_nil))
      (pss_cons (ps_for PassesOwn.never rfl (pi_tup (pv 1)) (pg_name (i := 4) sc_l_holds.nd rfl (.inl rfl))
      (pss_one (ps_if (pt_cmpR op_eq (pv 4) pe_str (nomark _)) (pss_one (ps_set (i := 3) sc_l_holds.nd rfl (.inl rfl) (pe_op op_catS (pe_slice sl_tupS (pv 3) po_none (po_some (pe_un un_neg pe_int))) (pe_tup (pa_cons (pe_op op_sub pe_int (pe_ix ix_tup (pv 3) (pe_un un_neg pe_int) (fun _ _ => rfl))) pa_nil))))) (pss_one (ps_if (pt_cmpR op_eq (pv 4) pe_str (nomark _)) (pss_one (ps_set (i := 3) sc_l_holds.nd rfl (.inl rfl) (pe_op op_catS (pe_slice sl_tupS (pv 3) po_none (po_some (pe_un un_neg pe_int))) (pe_tup (pa_cons (pe_op op_mul (pe_ix ix_tup (pv 3) (pe_un un_neg pe_int) (fun _ _ => rfl)) (pe_ix ix_tup (pv 3) (pe_un un_neg pe_int) (fun _ _ => rfl))) pa_nil))))) (pss_one (ps_if (pt_cmpR op_eq (pv 4) pe_str (nomark _)) (pss_one (ps_set (i := 3) sc_l_holds.nd rfl (.inl rfl) (pe_op op_catS (pe_slice sl_tupS (pv 3) po_none (po_some (pe_un un_neg pe_int))) (pe_tup (pa_cons (pe_callB (cr_maxT rfl) (by rfl) T.m_max (by decide +kernel) (pa_cons (pe_slice sl_tupS (pv 3) (po_some (pe_un un_neg pe_int)) po_none) pa_nil)) pa_nil))))) (pss_one (ps_if (pt_cmpR op_eq (pv 4) pe_str (nomark _)) (pss_one (ps_set (i := 3) sc_l_holds.nd rfl (.inl rfl) (pe_op op_catS (pe_slice sl_tupS (pv 3) po_none (po_some (pe_un un_neg pe_int))) (pe_tup (pa_cons (pe_callTy call_int1 (by rfl) T.m_int (by decide +kernel) (pa_cons (pe_cmpR op_eq (pe_ix ix_tup (pv 3) (pe_un un_neg pe_int) (fun _ _ => rfl)) (pe_ix ix_tup (pv 3) (pe_un un_neg pe_int) (fun _ _ => rfl)) (nomark _)) pa_nil)) pa_nil))))) (pss_one (ps_if (PW.pt (pw_or (pt_cmpR op_eq (pv 4) pe_str (nomark _)) (pw_or1 (pt_cmpR op_eq (pv 4) pe_str (nomark _))))) (pss_one (ps_set (i := 3) sc_l_holds.nd rfl (.inl rfl) (pe_op op_catS (pv 3) (pe_tup (pa_cons (pe_callTy call_int1 (by rfl) T.m_int (by decide +kernel) (pa_cons (pe_cmpR op_eq (pv 4) pe_str (nomark _)) pa_nil)) pa_nil))))) (pss_one (ps_set (i := 3) sc_l_holds.nd rfl (.inl rfl) (pe_op op_catS (pv 3) (pe_tup (pa_cons (pe_callTy call_int_str (by rfl) T.m_int (by decide +kernel) (pa_cons (pe_ix ix_str (pv 2) (pe_bm PySem.F.plainAttrs_str PySem.F.slot_str_find PySem.F.type_str_find mt_find (pv 0) (pa_cons (pv 4) pa_nil)) (fun _ _ => rfl)) pa_nil)) pa_nil))))))))))))))))
      (pss_one (ps_ret (pe_cmpR op_eq (pe_ix ix_tup (pv 3) pe_int (fun _ _ => rfl)) pe_int (nomark _)))))), ?_⟩
    refine ⟨by decide, fun l nl => ?_⟩
    have S0 := same_upd (o := .tup []) nl
    refine ⟨_, rfl, a, rfl, ⟨_, Same.tup S0 hA⟩, for_tup (K := K) (a := a) (xs := ws.map wv) (fun i σ H' => ∃ (l : Addr) (x4 : Option V) (st : List Bool), σ = [some (.str (tx cs)), some (.ref a), some (.str (wtx bs)), some (.ref l), x4] ∧ SqT K H' l (hq st) ∧ ht st.length (ws.drop i) = some 1 ∧ run (vl cs bs) st (ws.drop i) = [sval (vl cs bs) ws] ∧ st.length ≤ i ∧ Same H H') ⟨l, none, [], rfl, sqt_upd, hY.ht, run_sy _ hY, Nat.le_refl _, S0⟩ (fun i σ H' _ ⟨_, _, _, _, _, _, _, _, e⟩ => Same.tup e hA) ?_ ?_⟩
    · rintro i x σ H1 hx ⟨l, x4, st, rfl, h1, h2, h3, h4, s1⟩
      have hi : i < ws.length := by
        have := (List.getElem?_eq_some_iff.mp hx).1
        rw [List.length_map] at this
        exact this
      obtain ⟨w, hw, rfl⟩ : ∃ w, ws[i]? = some w ∧ x = wv w := by
        rw [List.getElem?_map, List.getElem?_eq_getElem hi] at hx
        exact ⟨_, List.getElem?_eq_getElem hi, (Option.some.inj hx).symm⟩
      have ed : ws.drop i = w :: ws.drop (i + 1) := by
        rw [List.drop_eq_getElem_cons hi]
        rw [List.getElem?_eq_getElem hi] at hw
        rw [Option.some.inj hw]
      rw [ed] at h2 h3
      have h2' := ht_step (vl cs bs) h2
      rw [run_cons] at h3
      have sz : ∀ {n : Nat}, n ≤ i → n ≤ 10000 := fun h => by omega
      refine ⟨_, rfl, rfl, _, rfl, iteW (w := w) (u := .nt) rfl (fun e => ?_) (fun e => ?_)⟩
      · have e : w = .nt := e
        subst e
        obtain ⟨b, s, rfl⟩ := ht_nt h2
        rw [hq_cons] at h1
        refine ⟨_, rfl, 1, rfl, _, rfl, l, _, rfl, h1, fun p1 H2 t2 s2 => ?_⟩
        rw [cut_last _ (by simp), List.dropLast_concat] at t2
        have h1' := Same.tup s2 h1
        refine ⟨_, rfl, 1, rfl, l, _, -1, .int (bi b), rfl, rfl, h1', atI_last _ _, _, _, rfl, rfl, by show 1 ≤ sizeLine; decide, fun p3 n3 => ?_⟩
        have s3 := same_upd (o := .tup [.int (1 - bi b)]) n3
        refine ⟨p1, p3, _, _, rfl, rfl, Same.tup s3 t2, sqt_upd, ?_, fun p4 H4 t4 s4 => ?_⟩
        · rw [hq_len]
          simp only [List.length_cons, List.length_nil] at h4 ⊢
          omega
        · have eb : 1 - bi b = bi (!b) := by cases b <;> rfl
          have t4 : SqT K H4 p4 (hq s ++ [.int (1 - bi b)]) := t4
          rw [eb, ← hq_cons] at t4
          exact ⟨p4, _, (!b) :: s, rfl, t4, h2', h3, by simp only [List.length_cons] at h4 ⊢; omega, ((s1.trans s2).trans s3).trans s4⟩
      refine ⟨_, rfl, rfl, _, rfl, iteW (w := w) (u := .an) rfl (fun e1 => ?_) (fun e1 => ?_)⟩
      · have e : w = .an := e1
        subst e
        obtain ⟨b, c, s, rfl⟩ := ht_jn .an h2
        rw [hq_cons, hq_cons] at h1
        refine ⟨_, rfl, 2, rfl, _, rfl, l, _, rfl, h1, fun p1 H2 t2 s2 => ?_⟩
        rw [cut2.1] at t2
        have h1' := Same.tup s2 h1
        refine ⟨_, rfl, 2, rfl, l, _, -2, .int (bi c), rfl, rfl, h1', at_last2, _, rfl, 1, rfl, l, _, -1, .int (bi b), rfl, rfl, h1', atI_last _ _, _, _, rfl, rfl, .inl (by cases c <;> exact ⟨by decide, by decide⟩), by show 1 ≤ sizeLine; decide, fun p3 n3 => ?_⟩
        have s3 := same_upd (o := .tup [.int (bi c * bi b)]) n3
        refine ⟨p1, p3, _, _, rfl, rfl, Same.tup s3 t2, sqt_upd, ?_, fun p4 H4 t4 s4 => ?_⟩
        · rw [hq_len]
          simp only [List.length_cons, List.length_nil] at h4 ⊢
          omega
        · have eb : bi c * bi b = bi (c && b) := by cases b <;> cases c <;> rfl
          have t4 : SqT K H4 p4 (hq s ++ [.int (bi c * bi b)]) := t4
          rw [eb, ← hq_cons] at t4
          exact ⟨p4, _, (c && b) :: s, rfl, t4, h2', h3, by simp only [List.length_cons] at h4 ⊢; omega, ((s1.trans s2).trans s3).trans s4⟩
      refine ⟨_, rfl, rfl, _, rfl, iteW (w := w) (u := .orr) rfl (fun e2 => ?_) (fun e2 => ?_)⟩
      · have e : w = .orr := e2
        subst e
        obtain ⟨b, c, s, rfl⟩ := ht_jn .orr h2
        rw [hq_cons, hq_cons] at h1
        refine ⟨_, rfl, 2, rfl, _, rfl, l, _, rfl, h1, fun p1 H2 t2 s2 => ?_⟩
        rw [cut2.1] at t2
        have h1' := Same.tup s2 h1
        refine ⟨_, rfl, 2, rfl, _, rfl, l, _, rfl, h1', fun p3 H3 t3 s3 => ?_⟩
        rw [cut2.2] at t3
        refine ⟨p3, [bi c, bi b], rfl, t3, by show 0 < 2; decide, fun m m1 m2 => ?_⟩
        refine ⟨by show 1 ≤ sizeLine; decide, fun p5 n5 => ?_⟩
        have s5 := same_upd (o := .tup [.int m]) n5
        refine ⟨p1, p5, _, _, rfl, rfl, Same.tup (s3.trans s5) t2, sqt_upd, ?_, fun p4 H4 t4 s4 => ?_⟩
        · rw [hq_len]
          simp only [List.length_cons, List.length_nil] at h4 ⊢
          omega
        · have eb : m = bi (c || b) := by
            have a1 := m2 (bi c) (by simp)
            have a2 := m2 (bi b) (by simp)
            have a3 : m = bi c ∨ m = bi b := by simpa using m1
            cases b <;> cases c <;> simp [bi] at a1 a2 a3 ⊢ <;> omega
          have t4 : SqT K H4 p4 (hq s ++ [.int (m)]) := t4
          rw [eb, ← hq_cons] at t4
          exact ⟨p4, _, (c || b) :: s, rfl, t4, h2', h3, by simp only [List.length_cons] at h4 ⊢; omega, (((s1.trans s2).trans s3).trans s5).trans s4⟩
      refine ⟨_, rfl, rfl, _, rfl, iteW (w := w) (u := .sm) rfl (fun e3 => ?_) (fun e3 => ?_)⟩
      · have e : w = .sm := e3
        subst e
        obtain ⟨b, c, s, rfl⟩ := ht_jn .sm h2
        rw [hq_cons, hq_cons] at h1
        refine ⟨_, rfl, 2, rfl, _, rfl, l, _, rfl, h1, fun p1 H2 t2 s2 => ?_⟩
        rw [cut2.1] at t2
        have h1' := Same.tup s2 h1
        refine ⟨_, rfl, 2, rfl, l, _, -2, .int (bi c), rfl, rfl, h1', at_last2, _, rfl, 1, rfl, l, _, -1, .int (bi b), rfl, rfl, h1', atI_last _ _, rfl, .inr ⟨_, rfl, by show 1 ≤ sizeLine; decide, fun p3 n3 => ?_⟩⟩
        have s3 := same_upd (o := .tup [.int (if decide (V.int (bi c) = V.int (bi b)) = true then 1 else 0)]) n3
        refine ⟨p1, p3, _, _, rfl, rfl, Same.tup s3 t2, sqt_upd, ?_, fun p4 H4 t4 s4 => ?_⟩
        · rw [hq_len]
          simp only [List.length_cons, List.length_nil] at h4 ⊢
          omega
        · have eb : (if decide (V.int (bi c) = V.int (bi b)) = true then (1 : Int) else 0) = bi (c == b) := by cases b <;> cases c <;> rfl
          have t4 : SqT K H4 p4 (hq s ++ [.int (if decide (V.int (bi c) = V.int (bi b)) = true then 1 else 0)]) := t4
          rw [eb, ← hq_cons] at t4
          exact ⟨p4, _, (c == b) :: s, rfl, t4, h2', h3, by simp only [List.length_cons] at h4 ⊢; omega, ((s1.trans s2).trans s3).trans s4⟩
      have hf : Lf cs w := by
        cases w with
        | lt c => exact .lt (hY.lt c (List.mem_of_getElem? hw))
        | yes => exact .yes
        | no => exact .no
        | nt => exact absurd rfl e
        | an => exact absurd rfl e1
        | orr => exact absurd rfl e2
        | sm => exact absurd rfl e3
      have es : stp (vl cs bs) st w = lv (vl cs bs) w :: st := by cases hf <;> rfl
      rw [es] at h2' h3
      have fin : ∀ (H2 : Hp) (p : Addr) (z : Int), z = bi (lv (vl cs bs) w) → Same H1 H2 → SqT K H2 p [.int z] → rCatS K (.ref l) (.ref p) H2 (fun x H3 => ∃ (l : Addr) (x4 : Option V) (st : List Bool), [some (.str (tx cs)), some (.ref a), some (.str (wtx bs)), some x, some (wv w)] = [some (.str (tx cs)), some (.ref a), some (.str (wtx bs)), some (.ref l), x4] ∧ SqT K H3 l (hq st) ∧ ht st.length (ws.drop (i + 1)) = some 1 ∧ run (vl cs bs) st (ws.drop (i + 1)) = [sval (vl cs bs) ws] ∧ st.length ≤ i + 1 ∧ Same H H3) := by
        intro H2 p z ez s2 hp
        subst ez
        refine ⟨l, p, _, _, rfl, rfl, Same.tup s2 h1, hp, ?_, fun p4 H4 t4 s4 => ?_⟩
        · rw [hq_len]
          show st.length + 1 ≤ 100000
          omega
        · rw [← hq_cons] at t4
          exact ⟨p4, _, lv (vl cs bs) w :: st, rfl, t4, h2', h3, by rw [List.length_cons]; omega, (s1.trans s2).trans s4⟩
      have yn : ∀ (k : Bool), (k = decide (w = .yes)) → w = .yes ∨ w = .no → (if k = true then (1 : Int) else 0) = bi (lv (vl cs bs) w) := by
        intro k hk h
        rcases h with rfl | rfl <;> rw [hk] <;> rfl
      refine ⟨_, rfl, rfl, _, rfl, iteW (w := w) (u := .yes) rfl (fun e4 => ?_) (fun e4 => ?_)⟩
      · have e : w = .yes := e4
        refine ⟨_, rfl, _, rfl, rfl, .inr ⟨_, rfl, by show 1 ≤ sizeLine; decide, fun p n => ?_⟩⟩
        exact fin _ p _ (yn _ (wd_eq w .yes rfl) (.inl e)) (same_upd n) sqt_upd
      refine ⟨_, rfl, rfl, _, rfl, iteW (w := w) (u := .no) rfl (fun e5 => ?_) (fun e5 => ?_)⟩
      · have e : w = .no := e5
        refine ⟨_, rfl, _, rfl, rfl, .inr ⟨_, rfl, by show 1 ≤ sizeLine; decide, fun p n => ?_⟩⟩
        exact fin _ p _ (yn _ (wd_eq w .yes rfl) (.inr e)) (same_upd n) sqt_upd
      cases hf with
      | yes => exact absurd rfl e4
      | no => exact absurd rfl e5
      | @lt c hc =>
        obtain ⟨j, g1, g2, g3, g4⟩ := letter_at hc
        have hj : j < bs.length := by
          rw [← hl]
          exact (List.getElem?_eq_some_iff.mp g2).1
        have hb : bs[j]? = some (vl cs bs c) := by
          unfold vl
          rw [g1, List.getD_eq_getElem?_getD, List.getElem?_eq_getElem hj]
          rfl
        refine ⟨_, rfl, _, rfl, _, rfl, rfl, _, rfl, tx cs, sg c, rfl, rfl, wtx bs, (j : Int), bc (vl cs bs c), rfl, ?_, ?_, ?_, sg (bc (vl cs bs c)), bi (vl cs bs c), rfl, bc_int _, by show 1 ≤ 640; decide, by show 1 ≤ sizeLine; decide, fun p n => fin _ p _ rfl (same_upd n) sqt_upd⟩
        · rw [g3]
        · show (bs.map bc).length ≤ sizeLine
          rw [List.length_map]
          exact Nat.le_trans h100 (by decide)
        · refine atI_nat ?_
          show (bs.map bc)[j]? = _
          rw [List.getElem?_map, hb]
          rfl
    · rintro σ H1 ⟨l, x4, st, rfl, h1, h2, h3, h4, s1⟩
      rw [List.length_map, List.drop_length] at h2 h3
      have h3 : st = [sval (vl cs bs) ws] := h3
      subst h3
      refine ⟨_, rfl, l, _, 0, .int (bi (sval (vl cs bs) ws)), rfl, rfl, h1, rfl, rfl, ?_⟩
      have : decide (V.int (bi (sval (vl cs bs) ws)) = V.int 1) = sval (vl cs bs) ws := by cases sval (vl cs bs) ws <;> rfl
      rw [this]
      exact q _ s1
end
end B

namespace B
open PySem PySem.Spec PyProof.Rows L2

def sp_l_refusal (K : PySem.W.Frag) : SpE := fun x cls d vs H Q _ => ∃ (C : Addr) (nm : Str), cls = .ref C ∧ vs = [.ref x] ∧ DOk H d ∧ ((XIs K "TooMany" C ∧ nm = "TooMany") ∨ (XIs K "NotAlike" C ∧ nm = "NotAlike")) ∧ ∀ (H' : Hp) (p : Addr), H' p = some (.lst [.str nm]) → Same H H' → Q (.ref p) H'

section
variable {P : Program} {w : World} {K : PySem.W.Frag} {mg : Str → Option Value} {base : Heap}
theorem ok_l_refusal (T : Tx K mg) (U : Unl P base) : FnX P w K mg base 35 T.l_refusal.f T.l_refusal.fd ["_law_e"] (sp_l_refusal K) := by
  refine fun_okX T.l_refusal.F sc_l_refusal (fun ea cls d vs H Q E h => ?_) (fun cdv A outer s H vs Q E ea eo cls d hr hq1 hz hf h => ?_)
  · obtain ⟨C, nm, rfl, rfl, hd, hC, q⟩ := h
    rfl
  · obtain ⟨C, nm, rfl, rfl, hd, hC, q⟩ := h
    refine ⟨_, (pss_cons (ps_set (i := 1) sc_l_refusal.nd rfl (.inl rfl) (pe_lst (pa_cons (pe_callB (call_isE (a := ea) (List.mem_singleton.mpr rfl) hz hf) (by rfl) T.m_isinstance (by decide +kernel) (pa_cons (pv 0) (pa_cons (pe_glob (v := .ref T.x_TooLong.C) (by rfl) T.x_TooLong.g rfl) pa_nil))) (pa_cons (pe_callB (call_isE (a := ea) (List.mem_singleton.mpr rfl) hz hf) (by rfl) T.m_isinstance (by decide +kernel) (pa_cons (pv 0) (pa_cons (pe_glob (v := .ref T.x_TooMany.C) (by rfl) T.x_TooMany.g rfl) pa_nil))) (pa_cons (pe_callB (call_isE (a := ea) (List.mem_singleton.mpr rfl) hz hf) (by rfl) T.m_isinstance (by decide +kernel) (pa_cons (pv 0) (pa_cons (pe_glob (v := .ref T.x_NoWorld.C) (by rfl) T.x_NoWorld.g rfl) pa_nil))) pa_nil)))))
      (pss_cons (ps_set (i := 1) sc_l_refusal.nd rfl (.inl rfl) (pe_op op_cat (pv 1) (pe_lst (pa_cons (pe_callB (call_isE (a := ea) (List.mem_singleton.mpr rfl) hz hf) (by rfl) T.m_isinstance (by decide +kernel) (pa_cons (pv 0) (pa_cons (pe_glob (v := .ref T.x_NotAlike.C) (by rfl) T.x_NotAlike.g rfl) pa_nil))) (pa_cons (pe_callB (call_isE (a := ea) (List.mem_singleton.mpr rfl) hz hf) (by rfl) T.m_isinstance (by decide +kernel) (pa_cons (pv 0) (pa_cons (pe_glob (v := .ref T.x_Unfair.C) (by rfl) T.x_Unfair.g rfl) pa_nil))) (pa_cons (pe_callB (call_isE (a := ea) (List.mem_singleton.mpr rfl) hz hf) (by rfl) T.m_isinstance (by decide +kernel) (pa_cons (pv 0) (pa_cons (pe_glob (v := .ref T.x_Fair.C) (by rfl) T.x_Fair.g rfl) pa_nil))) pa_nil))))))
      (pss_cons (ps_set (i := 1) sc_l_refusal.nd rfl (.inl rfl) (pe_op op_cat (pv 1) (pe_lst (pa_cons (pe_callB (call_isE (a := ea) (List.mem_singleton.mpr rfl) hz hf) (by rfl) T.m_isinstance (by decide +kernel) (pa_cons (pv 0) (pa_cons (pe_glob (v := .ref T.x_NoBet.C) (by rfl) T.x_NoBet.g rfl) pa_nil))) (pa_cons (pe_callB (call_isE (a := ea) (List.mem_singleton.mpr rfl) hz hf) (by rfl) T.m_isinstance (by decide +kernel) (pa_cons (pv 0) (pa_cons (pe_glob (v := .ref T.x_NoHolder.C) (by rfl) T.x_NoHolder.g rfl) pa_nil))) (pa_cons (pe_callB (call_isE (a := ea) (List.mem_singleton.mpr rfl) hz hf) (by rfl) T.m_isinstance (by decide +kernel) (pa_cons (pv 0) (pa_cons (pe_glob (v := .ref T.x_NoStake.C) (by rfl) T.x_NoStake.g rfl) pa_nil))) pa_nil))))))
      (pss_cons (ps_set (i := 1) sc_l_refusal.nd rfl (.inl rfl) (pe_op op_cat (pv 1) (pe_lst (pa_cons (pe_callB (call_isE (a := ea) (List.mem_singleton.mpr rfl) hz hf) (by rfl) T.m_isinstance (by decide +kernel) (pa_cons (pv 0) (pa_cons (pe_glob (v := .ref T.x_NoTicket.C) (by rfl) T.x_NoTicket.g rfl) pa_nil))) (pa_cons (pe_callB (call_isE (a := ea) (List.mem_singleton.mpr rfl) hz hf) (by rfl) T.m_isinstance (by decide +kernel) (pa_cons (pv 0) (pa_cons (pe_glob (v := .ref T.x_NoCover.C) (by rfl) T.x_NoCover.g rfl) pa_nil))) (pa_cons (pe_callB (call_isE (a := ea) (List.mem_singleton.mpr rfl) hz hf) (by rfl) T.m_isinstance (by decide +kernel) (pa_cons (pv 0) (pa_cons (pe_glob (v := .ref T.x_NoSaying.C) (by rfl) T.x_NoSaying.g rfl) pa_nil))) pa_nil))))))
      (pss_cons (ps_set (i := 1) sc_l_refusal.nd rfl (.inl rfl) (pe_op op_cat (pv 1) (pe_lst (pa_cons (pe_callB (call_isE (a := ea) (List.mem_singleton.mpr rfl) hz hf) (by rfl) T.m_isinstance (by decide +kernel) (pa_cons (pv 0) (pa_cons (pe_glob (v := .ref T.x_NoDeed.C) (by rfl) T.x_NoDeed.g rfl) pa_nil))) (pa_cons (pe_callB (call_isE (a := ea) (List.mem_singleton.mpr rfl) hz hf) (by rfl) T.m_isinstance (by decide +kernel) (pa_cons (pv 0) (pa_cons (pe_glob (v := .ref T.x_NoStep.C) (by rfl) T.x_NoStep.g rfl) pa_nil))) (pa_cons (pe_callB (call_isE (a := ea) (List.mem_singleton.mpr rfl) hz hf) (by rfl) T.m_isinstance (by decide +kernel) (pa_cons (pv 0) (pa_cons (pe_glob (v := .ref T.x_NoText.C) (by rfl) T.x_NoText.g rfl) pa_nil))) pa_nil))))))
      (pss_cons (ps_set (i := 2) sc_l_refusal.nd rfl (.inl rfl) (pe_lst (pa_cons pe_str (pa_cons pe_str (pa_cons pe_str (pa_cons pe_str (pa_cons pe_str (pa_cons pe_str (pa_cons pe_str (pa_cons pe_str pa_nil))))))))))
      (pss_cons (ps_set (i := 2) sc_l_refusal.nd rfl (.inl rfl) (pe_op op_cat (pv 2) (pe_lst (pa_cons pe_str (pa_cons pe_str (pa_cons pe_str (pa_cons pe_str (pa_cons pe_str (pa_cons pe_str (pa_cons pe_str pa_nil))))))))))
      (pss_cons (ps_if (PW.pt (pw_or (pt_not (pt_val (pe_callB (call_isE (a := ea) (List.mem_singleton.mpr rfl) hz hf) (by rfl) T.m_isinstance (by decide +kernel) (pa_cons (pv 0) (pa_cons (pe_glob (v := .ref T.x_StallError.C) (by rfl) T.x_StallError.g rfl) pa_nil))))) (pw_or1 (pt_not (pt_val (pe_callB (call_isE (a := ea) (List.mem_singleton.mpr rfl) hz hf) (by rfl) T.m_isinstance (by decide +kernel) (pa_cons (pv 0) (pa_cons (pe_bltn (v := .ty "ValueError") (u := .type "ValueError") (by rfl) T.m_ValueError (by decide +kernel) rfl) pa_nil)))))))) (pss_one (ps_ret (pe_lst (pa_cons pe_str pa_nil)))) pss_nil)
      (pss_one (ps_ret (pe_lcX (own := [("_law_word", 3), ("_law_mark", 4)]) (g := (gTup K 2 (gCons (gName 3) (gCons (gName 4) gNil)))) hq1 (List.mem_singleton.mpr rfl) sc_l_refusal.nd (pi_zipX hq1 (List.mem_singleton.mpr rfl) (by rfl) T.m_zip (pa_cons (pv 2) (pa_cons (pv 1) pa_nil))) (blkOk_by (own := [("_law_word", 3), ("_law_mark", 4)]) (N := N_l_refusal) (sc := defScope s_l_refusal) (by decide +kernel)) (fun _ _ _ _ _ => (pg_tupX hq1 (pgs_cons (pg_name (i := 3) sc_l_refusal.nd rfl (.inl rfl)) (pgs_cons (pg_name (i := 4) sc_l_refusal.nd rfl (.inl rfl)) pgs_nil)))) (fun _ _ _ _ _ => (pts_one (pt_val (pv 4)))) (fun _ _ _ _ _ => (pv 3))))))))))))), ?_⟩
    rcases hC with ⟨hX, rfl⟩ | ⟨hX, rfl⟩
    · obtain rfl := hX.eq T.x_TooMany.ns
      refine ⟨_, rfl, T.x_TooMany.C, _, _, false, rfl, hd, T.x_TooMany.ec, rfl, .own _, kit_own T.x_TooLong.ic T.x_TooLong.ty T.x_TooMany.me T.i_TooMany_TooLong, _, rfl, T.x_TooMany.C, _, _, true, rfl, hd, T.x_TooMany.ec, rfl, .own _, kit_own T.x_TooMany.ic T.x_TooMany.ty T.x_TooMany.me T.x_TooMany.me, _, rfl, T.x_TooMany.C, _, _, false, rfl, hd, T.x_TooMany.ec, rfl, .own _, kit_own T.x_NoWorld.ic T.x_NoWorld.ty T.x_TooMany.me T.i_TooMany_NoWorld, by show 3 ≤ sizeLine; decide, fun L0 n0 => ?_⟩
      have s0 := same_upd (o := .lst [.bl false, .bl true, .bl false]) n0
      have S0 := s0
      refine ⟨_, rfl, _, rfl, T.x_TooMany.C, _, _, false, rfl, (Same.dok S0 hd), T.x_TooMany.ec, rfl, .own _, kit_own T.x_NotAlike.ic T.x_NotAlike.ty T.x_TooMany.me T.i_TooMany_NotAlike, _, rfl, T.x_TooMany.C, _, _, false, rfl, (Same.dok S0 hd), T.x_TooMany.ec, rfl, .own _, kit_own T.x_Unfair.ic T.x_Unfair.ty T.x_TooMany.me T.i_TooMany_Unfair, _, rfl, T.x_TooMany.C, _, _, false, rfl, (Same.dok S0 hd), T.x_TooMany.ec, rfl, .own _, kit_own T.x_Fair.ic T.x_Fair.ty T.x_TooMany.me T.i_TooMany_Fair, by show 3 ≤ sizeLine; decide, fun G1 m1 => ?_⟩
      have u1 := same_upd (o := .lst [.bl false, .bl false, .bl false]) m1
      refine ⟨L0, G1, [.bl false, .bl true, .bl false], [.bl false, .bl false, .bl false], rfl, rfl, u1 _ _ upd_same, upd_same, by show 6 ≤ sizeLine; decide, fun L1 n1 => ?_⟩
      have s1 := same_upd (o := .lst [.bl false, .bl true, .bl false, .bl false, .bl false, .bl false]) n1
      have S1 := (S0.trans u1).trans s1
      refine ⟨_, rfl, _, rfl, T.x_TooMany.C, _, _, false, rfl, (Same.dok S1 hd), T.x_TooMany.ec, rfl, .own _, kit_own T.x_NoBet.ic T.x_NoBet.ty T.x_TooMany.me T.i_TooMany_NoBet, _, rfl, T.x_TooMany.C, _, _, false, rfl, (Same.dok S1 hd), T.x_TooMany.ec, rfl, .own _, kit_own T.x_NoHolder.ic T.x_NoHolder.ty T.x_TooMany.me T.i_TooMany_NoHolder, _, rfl, T.x_TooMany.C, _, _, false, rfl, (Same.dok S1 hd), T.x_TooMany.ec, rfl, .own _, kit_own T.x_NoStake.ic T.x_NoStake.ty T.x_TooMany.me T.i_TooMany_NoStake, by show 3 ≤ sizeLine; decide, fun G2 m2 => ?_⟩
      have u2 := same_upd (o := .lst [.bl false, .bl false, .bl false]) m2
      refine ⟨L1, G2, [.bl false, .bl true, .bl false, .bl false, .bl false, .bl false], [.bl false, .bl false, .bl false], rfl, rfl, u2 _ _ upd_same, upd_same, by show 9 ≤ sizeLine; decide, fun L2 n2 => ?_⟩
      have s2 := same_upd (o := .lst [.bl false, .bl true, .bl false, .bl false, .bl false, .bl false, .bl false, .bl false, .bl false]) n2
      have S2 := (S1.trans u2).trans s2
      refine ⟨_, rfl, _, rfl, T.x_TooMany.C, _, _, false, rfl, (Same.dok S2 hd), T.x_TooMany.ec, rfl, .own _, kit_own T.x_NoTicket.ic T.x_NoTicket.ty T.x_TooMany.me T.i_TooMany_NoTicket, _, rfl, T.x_TooMany.C, _, _, false, rfl, (Same.dok S2 hd), T.x_TooMany.ec, rfl, .own _, kit_own T.x_NoCover.ic T.x_NoCover.ty T.x_TooMany.me T.i_TooMany_NoCover, _, rfl, T.x_TooMany.C, _, _, false, rfl, (Same.dok S2 hd), T.x_TooMany.ec, rfl, .own _, kit_own T.x_NoSaying.ic T.x_NoSaying.ty T.x_TooMany.me T.i_TooMany_NoSaying, by show 3 ≤ sizeLine; decide, fun G3 m3 => ?_⟩
      have u3 := same_upd (o := .lst [.bl false, .bl false, .bl false]) m3
      refine ⟨L2, G3, [.bl false, .bl true, .bl false, .bl false, .bl false, .bl false, .bl false, .bl false, .bl false], [.bl false, .bl false, .bl false], rfl, rfl, u3 _ _ upd_same, upd_same, by show 12 ≤ sizeLine; decide, fun L3 n3 => ?_⟩
      have s3 := same_upd (o := .lst [.bl false, .bl true, .bl false, .bl false, .bl false, .bl false, .bl false, .bl false, .bl false, .bl false, .bl false, .bl false]) n3
      have S3 := (S2.trans u3).trans s3
      refine ⟨_, rfl, _, rfl, T.x_TooMany.C, _, _, false, rfl, (Same.dok S3 hd), T.x_TooMany.ec, rfl, .own _, kit_own T.x_NoDeed.ic T.x_NoDeed.ty T.x_TooMany.me T.i_TooMany_NoDeed, _, rfl, T.x_TooMany.C, _, _, false, rfl, (Same.dok S3 hd), T.x_TooMany.ec, rfl, .own _, kit_own T.x_NoStep.ic T.x_NoStep.ty T.x_TooMany.me T.i_TooMany_NoStep, _, rfl, T.x_TooMany.C, _, _, false, rfl, (Same.dok S3 hd), T.x_TooMany.ec, rfl, .own _, kit_own T.x_NoText.ic T.x_NoText.ty T.x_TooMany.me T.i_TooMany_NoText, by show 3 ≤ sizeLine; decide, fun G4 m4 => ?_⟩
      have u4 := same_upd (o := .lst [.bl false, .bl false, .bl false]) m4
      refine ⟨L3, G4, [.bl false, .bl true, .bl false, .bl false, .bl false, .bl false, .bl false, .bl false, .bl false, .bl false, .bl false, .bl false], [.bl false, .bl false, .bl false], rfl, rfl, u4 _ _ upd_same, upd_same, by show 15 ≤ sizeLine; decide, fun L4 n4 => ?_⟩
      have s4 := same_upd (o := .lst [.bl false, .bl true, .bl false, .bl false, .bl false, .bl false, .bl false, .bl false, .bl false, .bl false, .bl false, .bl false, .bl false, .bl false, .bl false]) n4
      have S4 := (S3.trans u4).trans s4
      refine ⟨by show 8 ≤ sizeLine; decide, fun W0 p0 => ?_⟩
      have v0 := same_upd (o := .lst [.str "TooLong", .str "TooMany", .str "NoWorld", .str "NotAlike", .str "Unfair", .str "Fair", .str "NoBet", .str "NoHolder"]) p0
      refine ⟨_, rfl, by show 7 ≤ sizeLine; decide, fun W1 p1 => ?_⟩
      have v1 := same_upd (o := .lst [.str "NoStake", .str "NoTicket", .str "NoCover", .str "NoSaying", .str "NoDeed", .str "NoStep", .str "NoText"]) p1
      refine ⟨W0, W1, [.str "TooLong", .str "TooMany", .str "NoWorld", .str "NotAlike", .str "Unfair", .str "Fair", .str "NoBet", .str "NoHolder"], [.str "NoStake", .str "NoTicket", .str "NoCover", .str "NoSaying", .str "NoDeed", .str "NoStep", .str "NoText"], rfl, rfl, v1 _ _ upd_same, upd_same, by show 15 ≤ sizeLine; decide, fun W2 p2 => ?_⟩
      have v2 := same_upd (o := .lst [.str "TooLong", .str "TooMany", .str "NoWorld", .str "NotAlike", .str "Unfair", .str "Fair", .str "NoBet", .str "NoHolder", .str "NoStake", .str "NoTicket", .str "NoCover", .str "NoSaying", .str "NoDeed", .str "NoStep", .str "NoText"]) p2
      have V2 := v0.trans (v1.trans v2)
      have S5 := S4.trans V2
      refine ⟨_, rfl, T.x_TooMany.C, _, _, true, rfl, Same.dok S5 hd, T.x_TooMany.ec, rfl, .own _, kit_own T.x_StallError.ic T.x_StallError.ty T.x_TooMany.me T.i_TooMany_StallError, _, rfl, iteF ?_⟩
      refine ⟨_, rfl, T.x_TooMany.C, _, _, true, rfl, Same.dok S5 hd, T.x_TooMany.ec, rfl, .ty _, kit_val (by decide +kernel) T.v_TooMany, _, rfl, iteF ?_⟩
      refine ⟨_, rfl, _, rfl, W2, L4, [.str "TooLong", .str "TooMany", .str "NoWorld", .str "NotAlike", .str "Unfair", .str "Fair", .str "NoBet", .str "NoHolder", .str "NoStake", .str "NoTicket", .str "NoCover", .str "NoSaying", .str "NoDeed", .str "NoStep", .str "NoText"], [.bl false, .bl true, .bl false, .bl false, .bl false, .bl false, .bl false, .bl false, .bl false, .bl false, .bl false, .bl false, .bl false, .bl false, .bl false], rfl, .inl (.inl upd_same), .inl (.inl (V2 _ _ upd_same)), fun D nD => ?_⟩
      refine lcp_it (K := K) (walk_zipG (xs := [V.str "TooLong", V.str "TooMany", V.str "NoWorld", V.str "NotAlike", V.str "Unfair", V.str "Fair", V.str "NoBet", V.str "NoHolder", V.str "NoStake", V.str "NoTicket", V.str "NoCover", V.str "NoSaying", V.str "NoDeed", V.str "NoStep", V.str "NoText"]) (ys := [V.bl false, V.bl true, V.bl false, V.bl false, V.bl false, V.bl false, V.bl false, V.bl false, V.bl false, V.bl false, V.bl false, V.bl false, V.bl false, V.bl false, V.bl false])) (fun i => if i = 1 then some () else none) (fun _ v _ => v = .str "TooMany") (fun _ _ _ _ _ h => h) nD (by show 15 < sizeLine; decide) (fun H' s => ⟨⟨W2, rfl, .inl (.inl (s _ _ upd_same))⟩, ⟨L4, rfl, .inl (.inl (s _ _ (V2 _ _ upd_same)))⟩⟩) ?_ ?_
      · rintro i v H2 _ hi s6 ⟨tq, y, z, rfl, nT, rfl, hy, hz⟩ Y N hYes hNo
        have hi : i < 15 := hi
        have sT := same_upd (o := .tup [y, z]) nT
        have hz : (flags15 1)[i]? = some z := hz
        rw [flags15_at hi] at hz
        cases hz
        refine ⟨tq, _, rfl, sqt_upd, rfl, _, _, rfl, _, _, rfl, rfl, rfl, ?_⟩
        refine ⟨_, rfl, _, rfl, ite2 (fun e => ?_) (fun e => ?_)⟩
        · have e : i = 1 := of_decide_eq_true e
          subst e
          cases hy
          exact ⟨_, rfl, hYes _ _ () sT (if_pos rfl) rfl⟩
        · exact hNo _ sT (if_neg fun e2 => e (decide_eq_true e2))
      intro H2 ys h2 f2 s6
      have e2 : (List.range 15).filterMap (fun i => if i = 1 then some () else none) = [()] := by decide
      have f2 : F2 (fun v _ => v = .str "TooMany") ys ((List.range 15).filterMap (fun i => if i = 1 then some () else none)) := f2
      rw [e2] at f2
      have ey : ys = [.str "TooMany"] := by
        cases f2 with
        | cons a b => cases b; rw [a]
      rw [ey] at h2
      exact q _ D h2 (S5.trans s6)
    · obtain rfl := hX.eq T.x_NotAlike.ns
      refine ⟨_, rfl, T.x_NotAlike.C, _, _, false, rfl, hd, T.x_NotAlike.ec, rfl, .own _, kit_own T.x_TooLong.ic T.x_TooLong.ty T.x_NotAlike.me T.i_NotAlike_TooLong, _, rfl, T.x_NotAlike.C, _, _, false, rfl, hd, T.x_NotAlike.ec, rfl, .own _, kit_own T.x_TooMany.ic T.x_TooMany.ty T.x_NotAlike.me T.i_NotAlike_TooMany, _, rfl, T.x_NotAlike.C, _, _, false, rfl, hd, T.x_NotAlike.ec, rfl, .own _, kit_own T.x_NoWorld.ic T.x_NoWorld.ty T.x_NotAlike.me T.i_NotAlike_NoWorld, by show 3 ≤ sizeLine; decide, fun L0 n0 => ?_⟩
      have s0 := same_upd (o := .lst [.bl false, .bl false, .bl false]) n0
      have S0 := s0
      refine ⟨_, rfl, _, rfl, T.x_NotAlike.C, _, _, true, rfl, (Same.dok S0 hd), T.x_NotAlike.ec, rfl, .own _, kit_own T.x_NotAlike.ic T.x_NotAlike.ty T.x_NotAlike.me T.x_NotAlike.me, _, rfl, T.x_NotAlike.C, _, _, false, rfl, (Same.dok S0 hd), T.x_NotAlike.ec, rfl, .own _, kit_own T.x_Unfair.ic T.x_Unfair.ty T.x_NotAlike.me T.i_NotAlike_Unfair, _, rfl, T.x_NotAlike.C, _, _, false, rfl, (Same.dok S0 hd), T.x_NotAlike.ec, rfl, .own _, kit_own T.x_Fair.ic T.x_Fair.ty T.x_NotAlike.me T.i_NotAlike_Fair, by show 3 ≤ sizeLine; decide, fun G1 m1 => ?_⟩
      have u1 := same_upd (o := .lst [.bl true, .bl false, .bl false]) m1
      refine ⟨L0, G1, [.bl false, .bl false, .bl false], [.bl true, .bl false, .bl false], rfl, rfl, u1 _ _ upd_same, upd_same, by show 6 ≤ sizeLine; decide, fun L1 n1 => ?_⟩
      have s1 := same_upd (o := .lst [.bl false, .bl false, .bl false, .bl true, .bl false, .bl false]) n1
      have S1 := (S0.trans u1).trans s1
      refine ⟨_, rfl, _, rfl, T.x_NotAlike.C, _, _, false, rfl, (Same.dok S1 hd), T.x_NotAlike.ec, rfl, .own _, kit_own T.x_NoBet.ic T.x_NoBet.ty T.x_NotAlike.me T.i_NotAlike_NoBet, _, rfl, T.x_NotAlike.C, _, _, false, rfl, (Same.dok S1 hd), T.x_NotAlike.ec, rfl, .own _, kit_own T.x_NoHolder.ic T.x_NoHolder.ty T.x_NotAlike.me T.i_NotAlike_NoHolder, _, rfl, T.x_NotAlike.C, _, _, false, rfl, (Same.dok S1 hd), T.x_NotAlike.ec, rfl, .own _, kit_own T.x_NoStake.ic T.x_NoStake.ty T.x_NotAlike.me T.i_NotAlike_NoStake, by show 3 ≤ sizeLine; decide, fun G2 m2 => ?_⟩
      have u2 := same_upd (o := .lst [.bl false, .bl false, .bl false]) m2
      refine ⟨L1, G2, [.bl false, .bl false, .bl false, .bl true, .bl false, .bl false], [.bl false, .bl false, .bl false], rfl, rfl, u2 _ _ upd_same, upd_same, by show 9 ≤ sizeLine; decide, fun L2 n2 => ?_⟩
      have s2 := same_upd (o := .lst [.bl false, .bl false, .bl false, .bl true, .bl false, .bl false, .bl false, .bl false, .bl false]) n2
      have S2 := (S1.trans u2).trans s2
      refine ⟨_, rfl, _, rfl, T.x_NotAlike.C, _, _, false, rfl, (Same.dok S2 hd), T.x_NotAlike.ec, rfl, .own _, kit_own T.x_NoTicket.ic T.x_NoTicket.ty T.x_NotAlike.me T.i_NotAlike_NoTicket, _, rfl, T.x_NotAlike.C, _, _, false, rfl, (Same.dok S2 hd), T.x_NotAlike.ec, rfl, .own _, kit_own T.x_NoCover.ic T.x_NoCover.ty T.x_NotAlike.me T.i_NotAlike_NoCover, _, rfl, T.x_NotAlike.C, _, _, false, rfl, (Same.dok S2 hd), T.x_NotAlike.ec, rfl, .own _, kit_own T.x_NoSaying.ic T.x_NoSaying.ty T.x_NotAlike.me T.i_NotAlike_NoSaying, by show 3 ≤ sizeLine; decide, fun G3 m3 => ?_⟩
      have u3 := same_upd (o := .lst [.bl false, .bl false, .bl false]) m3
      refine ⟨L2, G3, [.bl false, .bl false, .bl false, .bl true, .bl false, .bl false, .bl false, .bl false, .bl false], [.bl false, .bl false, .bl false], rfl, rfl, u3 _ _ upd_same, upd_same, by show 12 ≤ sizeLine; decide, fun L3 n3 => ?_⟩
      have s3 := same_upd (o := .lst [.bl false, .bl false, .bl false, .bl true, .bl false, .bl false, .bl false, .bl false, .bl false, .bl false, .bl false, .bl false]) n3
      have S3 := (S2.trans u3).trans s3
      refine ⟨_, rfl, _, rfl, T.x_NotAlike.C, _, _, false, rfl, (Same.dok S3 hd), T.x_NotAlike.ec, rfl, .own _, kit_own T.x_NoDeed.ic T.x_NoDeed.ty T.x_NotAlike.me T.i_NotAlike_NoDeed, _, rfl, T.x_NotAlike.C, _, _, false, rfl, (Same.dok S3 hd), T.x_NotAlike.ec, rfl, .own _, kit_own T.x_NoStep.ic T.x_NoStep.ty T.x_NotAlike.me T.i_NotAlike_NoStep, _, rfl, T.x_NotAlike.C, _, _, false, rfl, (Same.dok S3 hd), T.x_NotAlike.ec, rfl, .own _, kit_own T.x_NoText.ic T.x_NoText.ty T.x_NotAlike.me T.i_NotAlike_NoText, by show 3 ≤ sizeLine; decide, fun G4 m4 => ?_⟩
      have u4 := same_upd (o := .lst [.bl false, .bl false, .bl false]) m4
      refine ⟨L3, G4, [.bl false, .bl false, .bl false, .bl true, .bl false, .bl false, .bl false, .bl false, .bl false, .bl false, .bl false, .bl false], [.bl false, .bl false, .bl false], rfl, rfl, u4 _ _ upd_same, upd_same, by show 15 ≤ sizeLine; decide, fun L4 n4 => ?_⟩
      have s4 := same_upd (o := .lst [.bl false, .bl false, .bl false, .bl true, .bl false, .bl false, .bl false, .bl false, .bl false, .bl false, .bl false, .bl false, .bl false, .bl false, .bl false]) n4
      have S4 := (S3.trans u4).trans s4
      refine ⟨by show 8 ≤ sizeLine; decide, fun W0 p0 => ?_⟩
      have v0 := same_upd (o := .lst [.str "TooLong", .str "TooMany", .str "NoWorld", .str "NotAlike", .str "Unfair", .str "Fair", .str "NoBet", .str "NoHolder"]) p0
      refine ⟨_, rfl, by show 7 ≤ sizeLine; decide, fun W1 p1 => ?_⟩
      have v1 := same_upd (o := .lst [.str "NoStake", .str "NoTicket", .str "NoCover", .str "NoSaying", .str "NoDeed", .str "NoStep", .str "NoText"]) p1
      refine ⟨W0, W1, [.str "TooLong", .str "TooMany", .str "NoWorld", .str "NotAlike", .str "Unfair", .str "Fair", .str "NoBet", .str "NoHolder"], [.str "NoStake", .str "NoTicket", .str "NoCover", .str "NoSaying", .str "NoDeed", .str "NoStep", .str "NoText"], rfl, rfl, v1 _ _ upd_same, upd_same, by show 15 ≤ sizeLine; decide, fun W2 p2 => ?_⟩
      have v2 := same_upd (o := .lst [.str "TooLong", .str "TooMany", .str "NoWorld", .str "NotAlike", .str "Unfair", .str "Fair", .str "NoBet", .str "NoHolder", .str "NoStake", .str "NoTicket", .str "NoCover", .str "NoSaying", .str "NoDeed", .str "NoStep", .str "NoText"]) p2
      have V2 := v0.trans (v1.trans v2)
      have S5 := S4.trans V2
      refine ⟨_, rfl, T.x_NotAlike.C, _, _, true, rfl, Same.dok S5 hd, T.x_NotAlike.ec, rfl, .own _, kit_own T.x_StallError.ic T.x_StallError.ty T.x_NotAlike.me T.i_NotAlike_StallError, _, rfl, iteF ?_⟩
      refine ⟨_, rfl, T.x_NotAlike.C, _, _, true, rfl, Same.dok S5 hd, T.x_NotAlike.ec, rfl, .ty _, kit_val (by decide +kernel) T.v_NotAlike, _, rfl, iteF ?_⟩
      refine ⟨_, rfl, _, rfl, W2, L4, [.str "TooLong", .str "TooMany", .str "NoWorld", .str "NotAlike", .str "Unfair", .str "Fair", .str "NoBet", .str "NoHolder", .str "NoStake", .str "NoTicket", .str "NoCover", .str "NoSaying", .str "NoDeed", .str "NoStep", .str "NoText"], [.bl false, .bl false, .bl false, .bl true, .bl false, .bl false, .bl false, .bl false, .bl false, .bl false, .bl false, .bl false, .bl false, .bl false, .bl false], rfl, .inl (.inl upd_same), .inl (.inl (V2 _ _ upd_same)), fun D nD => ?_⟩
      refine lcp_it (K := K) (walk_zipG (xs := [V.str "TooLong", V.str "TooMany", V.str "NoWorld", V.str "NotAlike", V.str "Unfair", V.str "Fair", V.str "NoBet", V.str "NoHolder", V.str "NoStake", V.str "NoTicket", V.str "NoCover", V.str "NoSaying", V.str "NoDeed", V.str "NoStep", V.str "NoText"]) (ys := [V.bl false, V.bl false, V.bl false, V.bl true, V.bl false, V.bl false, V.bl false, V.bl false, V.bl false, V.bl false, V.bl false, V.bl false, V.bl false, V.bl false, V.bl false])) (fun i => if i = 3 then some () else none) (fun _ v _ => v = .str "NotAlike") (fun _ _ _ _ _ h => h) nD (by show 15 < sizeLine; decide) (fun H' s => ⟨⟨W2, rfl, .inl (.inl (s _ _ upd_same))⟩, ⟨L4, rfl, .inl (.inl (s _ _ (V2 _ _ upd_same)))⟩⟩) ?_ ?_
      · rintro i v H2 _ hi s6 ⟨tq, y, z, rfl, nT, rfl, hy, hz⟩ Y N hYes hNo
        have hi : i < 15 := hi
        have sT := same_upd (o := .tup [y, z]) nT
        have hz : (flags15 3)[i]? = some z := hz
        rw [flags15_at hi] at hz
        cases hz
        refine ⟨tq, _, rfl, sqt_upd, rfl, _, _, rfl, _, _, rfl, rfl, rfl, ?_⟩
        refine ⟨_, rfl, _, rfl, ite2 (fun e => ?_) (fun e => ?_)⟩
        · have e : i = 3 := of_decide_eq_true e
          subst e
          cases hy
          exact ⟨_, rfl, hYes _ _ () sT (if_pos rfl) rfl⟩
        · exact hNo _ sT (if_neg fun e2 => e (decide_eq_true e2))
      intro H2 ys h2 f2 s6
      have e2 : (List.range 15).filterMap (fun i => if i = 3 then some () else none) = [()] := by decide
      have f2 : F2 (fun v _ => v = .str "NotAlike") ys ((List.range 15).filterMap (fun i => if i = 3 then some () else none)) := f2
      rw [e2] at f2
      have ey : ys = [.str "NotAlike"] := by
        cases f2 with
        | cons a b => cases b; rw [a]
      rw [ey] at h2
      exact q _ D h2 (S5.trans s6)
end
end B

namespace B
open PySem PySem.Spec PyProof.Rows L2

def sp_l_due (K : PySem.W.Frag) : Sp := fun vs H Q _ => ∃ (a c : Addr) (cs cs' : List Nat) (rs rs' : List (List Wd)), vs = [.ref a, .ref c] ∧ HsAt K H a cs rs ∧ HsAt K H c cs' rs' ∧ Ls 6 cs ∧ Ls 6 cs' ∧ rs.length ≤ 100 ∧ rs'.length ≤ 100 ∧
  (cs.any (fun x => cs'.contains x) = true → ∀ H', Same H H' → Q (.str "NotAlike") H') ∧
  (cs.any (fun x => cs'.contains x) = false → (6 < cs.length + cs'.length ∨ 8 < rs.length + rs'.length) → ∀ H', Same H H' → Q (.str "TooMany") H') ∧
  (cs.any (fun x => cs'.contains x) = false → cs.length + cs'.length ≤ 6 → rs.length + rs'.length ≤ 8 → ∀ (H' : Hp) (p : Addr) (zs : List Nat), zs.Perm (cs ++ cs') → zs.Pairwise (· < ·) → HsAt K H' p zs (rs ++ rs') → Same H H' → Q (.ref p) H')

section
variable {P : Program} {w : World} {K : PySem.W.Frag} {mg : Str → Option Value} {base : Heap}
theorem ok_l_due (T : Tx K mg) (U : Unl P base) : FnOk P w K mg base CX0 35 T.l_due.f T.l_due.fd ["_law_one", "_law_other_here"] (sp_l_due K) := by
  refine T.l_due.F.ok sc_l_due (fun vs H Q E h => ?_) (fun cdv A outer s H vs Q E hr h => ?_)
  · obtain ⟨a, c, cs, cs', rs, rs', rfl, hA, hC, hL, hL', h1, h2, hE1, hE2, hQ⟩ := h
    rfl
  · obtain ⟨a, c, cs, cs', rs, rs', rfl, hA, hC, hL, hL', h1, h2, hE1, hE2, hQ⟩ := h
    refine ⟨_, (pss_cons (ps_if (pt_cmpR (op_neL0 hr.units) (pe_lc (own := [("_law_letter", 2)]) (g := gName 2) rfl sc_l_due.nd (pi_str (pe_ix ix_tup (pv 0) pe_int (fun _ _ => rfl))) (blkOk_by (own := [("_law_letter", 2)]) (N := N_l_due) (sc := defScope s_l_due) (by decide +kernel)) (fun _ _ _ _ _ => (pg_name (i := 2) sc_l_due.nd rfl (.inl rfl))) (fun _ _ _ _ _ => (pts_one (pt_cmpR op_in_sign (pv 2) (pe_ix (r := rIxT K) ix_tup (pv 1) pe_int (fun _ _ => rfl)) (by rfl)))) (fun _ _ _ _ _ => (pv 2))) (pe_lst pa_nil) (nomark _)) (pss_one (ps_ret pe_str)) pss_nil)
      (pss_cons (ps_if (PW.pt (pw_or (pt_cmpR op_gt (pe_callB call_len_str (by rfl) T.m_len (by decide +kernel) (pa_cons (pe_op op_add_str (pe_ix ix_tup (pv 0) pe_int (fun _ _ => rfl)) (pe_ix ix_tup (pv 1) pe_int (fun _ _ => rfl))) pa_nil)) pe_int (nomark _)) (pw_or1 (pt_cmpR op_gt (pe_callB call_len_seq (by rfl) T.m_len (by decide +kernel) (pa_cons (pe_op op_catS (pe_ix ix_tup (pv 0) pe_int (fun _ _ => rfl)) (pe_ix ix_tup (pv 1) pe_int (fun _ _ => rfl))) pa_nil)) pe_int (nomark _))))) (pss_one (ps_ret pe_str)) pss_nil)
      (pss_one (ps_ret (pe_tup (pa_cons (pe_bm PySem.F.plainAttrs_str PySem.F.slot_str_join PySem.F.type_str_join mt_join pe_str (pa_cons (pe_callB cr_sortedS (by rfl) T.m_sorted (by decide +kernel) (pa_cons (pe_op op_cat (pe_callTy (cr_listS rfl) (by rfl) T.m_list (by decide +kernel) (pa_cons (pe_ix ix_tup (pv 0) pe_int (fun _ _ => rfl)) pa_nil)) (pe_callTy (cr_listS rfl) (by rfl) T.m_list (by decide +kernel) (pa_cons (pe_ix ix_tup (pv 1) pe_int (fun _ _ => rfl)) pa_nil))) pa_nil)) pa_nil)) (pa_cons (pe_callTy call_tuple_of (by rfl) T.m_tuple (by decide +kernel) (pa_cons (pe_op op_cat (pe_callTy call_list_of (by rfl) T.m_list (by decide +kernel) (pa_cons (pe_ix ix_tup (pv 0) pe_int (fun _ _ => rfl)) pa_nil)) (pe_callTy call_list_of (by rfl) T.m_list (by decide +kernel) (pa_cons (pe_ix ix_tup (pv 1) pe_int (fun _ _ => rfl)) pa_nil))) pa_nil)) pa_nil))))))), ?_⟩
    obtain ⟨ra, rvs, tA, tR, fR⟩ := id hA
    obtain ⟨rc, rws, tC, tS, fS⟩ := id hC
    have l6 := hL.most
    have l6' := hL'.most
    have lr := fR.len
    have ls := fS.len
    refine ⟨_, rfl, a, _, 0, .str (tx cs), rfl, rfl, tA, rfl, tx cs, rfl, fun D nD => ?_⟩
    have sz : (tx cs).length + (tx cs').length ≤ sizeLine := Nat.le_trans (show cs.length + cs'.length ≤ 12 by omega) (by decide)
    have sz2 : (tx (cs ++ cs')).length ≤ sizeLine := by
      show (cs ++ cs').length ≤ sizeLine
      rw [List.length_append]
      exact sz
    refine lcp_it (K := K) (walk_str (z := tx cs)) (fun i => if cs'.contains (cs.getD i 0) then some () else none) (fun _ _ _ => True) (fun _ _ _ _ _ _ => trivial) nD (Nat.lt_of_le_of_lt (show cs.length ≤ 6 by omega) (by decide)) (fun _ _ => trivial) ?_ ?_
    · rintro i v H2 _ hi s2 ⟨rfl, x, hx, rfl⟩ Y N hY hN
      have hx : cs[i]? = some x := by
        have : (tx cs).cps.toList[i]? = some x := by rw [Array.getElem?_toList]; exact hx
        exact this
      have gx : cs.getD i 0 = x := by rw [List.getD_eq_getElem?_getD, hx]; rfl
      refine ⟨rfl, _, rfl, _, rfl, c, _, 0, .str (tx cs'), rfl, rfl, Same.tup s2 tC, rfl, x, tx cs', rfl, rfl, _, rfl, ite2 (fun e => ?_) (fun e => ?_)⟩
      · exact ⟨_, rfl, hY _ _ () (Same.refl _) (by rw [gx]; exact if_pos (List.contains_iff_mem.mpr (of_decide_eq_true e))) trivial⟩
      · exact hN _ (Same.refl _) (by rw [gx]; exact if_neg fun z => e (decide_eq_true (List.contains_iff_mem.mp z)))
    intro H2 ys h2 f2 s2
    refine ⟨by decide, fun E nE => ?_⟩
    have s3 := same_upd (o := .lst []) nE
    refine ⟨D, E, ys, rfl, rfl, .inl (.inl (s3 _ _ h2)), sql_upd, ?_⟩
    have S3 := s2.trans s3
    have ey : ys.isEmpty = !(cs.any fun x => cs'.contains x) := by
      rw [← range_any (fun x => cs'.contains x) cs, Bool.eq_iff_iff, List.isEmpty_iff, ← List.length_eq_zero_iff, f2.len, List.length_eq_zero_iff, List.filterMap_eq_nil_iff, Bool.not_eq_true', List.any_eq_false]
      constructor
      · intro h x hx z
        exact nomatch (if_pos z).symm.trans (h x hx)
      · intro h x hx
        exact if_neg (h x hx)
    rw [ey]
    cases e : cs.any fun x => cs'.contains x with
    | true => exact ⟨_, rfl, iteT (hE1 e _ S3)⟩
    | false =>
    refine ⟨_, rfl, iteF ?_⟩
    have tA3 := Same.tup S3 tA
    have tC3 := Same.tup S3 tC
    refine ⟨_, rfl, a, _, 0, .str (tx cs), rfl, rfl, tA3, rfl, _, rfl, c, _, 0, .str (tx cs'), rfl, rfl, tC3, rfl, tx cs, tx cs', rfl, rfl, sz, ?_⟩
    rw [tx_app]
    refine ⟨tx (cs ++ cs'), rfl, sz2, _, _, rfl, rfl, _, rfl, ite2 (fun z => ?_) (fun z => ?_)⟩
    · have z : (((cs ++ cs').length : Nat) : Int) > 6 := of_decide_eq_true z
      rw [List.length_append] at z
      exact hE2 e (.inl (by omega)) _ S3
    have z : ¬ (((cs ++ cs').length : Nat) : Int) > 6 := fun y => z (decide_eq_true y)
    rw [List.length_append] at z
    refine ⟨_, rfl, a, _, 1, .ref ra, rfl, rfl, tA3, rfl, _, rfl, c, _, 1, .ref rc, rfl, rfl, tC3, rfl, ra, rc, rvs, rws, rfl, rfl, Same.tup S3 tR, Same.tup S3 tS, by omega, fun p4 H4 t4 s4 => ?_⟩
    have S4 := S3.trans s4
    refine ⟨p4, _, rfl, .inr t4, _, _, rfl, rfl, _, rfl, ite2 (fun y => ?_) (fun y => ?_)⟩
    · have y : (((rvs ++ rws).length : Nat) : Int) > 8 := of_decide_eq_true y
      rw [List.length_append] at y
      exact hE2 e (.inr (by omega)) _ S4
    have y : ¬ (((rvs ++ rws).length : Nat) : Int) > 8 := fun w => y (decide_eq_true w)
    rw [List.length_append] at y
    have tA4 := Same.tup S4 tA
    have tC4 := Same.tup S4 tC
    refine ⟨rfl, _, rfl, a, _, 0, .str (tx cs), rfl, rfl, tA4, rfl, tx cs, rfl, Nat.le_trans (show cs.length ≤ 6 by omega) (by decide), fun q1 n1 => ?_⟩
    have s5 := same_upd (o := .lst ((tx cs).cps.toList.map fun c => V.str (sg c))) n1
    refine ⟨_, rfl, c, _, 0, .str (tx cs'), rfl, rfl, Same.tup s5 tC4, rfl, tx cs', rfl, Nat.le_trans (show cs'.length ≤ 6 by omega) (by decide), fun q2 n2 => ?_⟩
    have s6 := same_upd (o := .lst ((tx cs').cps.toList.map fun c => V.str (sg c))) n2
    refine ⟨q1, q2, _, _, rfl, rfl, s6 _ _ upd_same, upd_same, ?_, fun q3 n3 => ?_⟩
    · rw [tx_list, tx_list, List.length_map, List.length_map]
      exact Nat.le_trans (show cs.length + cs'.length ≤ 12 by omega) (by decide)
    rw [tx_list, tx_list, ← List.map_append] at *
    have s7 := same_upd (o := .lst ((cs ++ cs').map fun c => V.str (sg c))) n3
    have S7 := S4.trans (s5.trans (s6.trans s7))
    refine ⟨q3, (cs ++ cs').map sg, rfl, .inl (.inl (by rw [List.map_map]; exact upd_same)), by rw [List.length_map, List.length_append]; omega, fun ys p hperm hsort np => ?_⟩
    obtain ⟨zs, rfl, hz⟩ := perm_sg hperm
    have lz : zs.length = (cs ++ cs').length := hz.length_eq
    rw [List.length_append] at lz
    have s8 := same_upd (o := .lst ((zs.map sg).map V.str)) np
    refine ⟨"", p, zs.map sg, rfl, rfl, .inl (.inl (.inl upd_same)), ?_, ?_⟩
    · rw [List.map_map]
      have : (zs.map sg).length * Str.length "" = 0 := rfl
      rw [sum_one, List.length_map]
      show zs.length + zs.length * 0 ≤ 16777216
      omega
    rw [join_sg]
    have S8 := S7.trans s8
    refine ⟨_, rfl, a, _, 1, .ref ra, rfl, rfl, Same.tup S8 tA, rfl, ra, rvs, rfl, .inr (Same.tup S8 tR), fun m1 k1 => ?_⟩
    have s9 := same_upd (o := .lst rvs) k1
    have S9 := S8.trans s9
    refine ⟨_, rfl, c, _, 1, .ref rc, rfl, rfl, Same.tup S9 tC, rfl, rc, rws, rfl, .inr (Same.tup S9 tS), fun m2 k2 => ?_⟩
    have s10 := same_upd (o := .lst rws) k2
    refine ⟨m1, m2, rvs, rws, rfl, rfl, s10 _ _ upd_same, upd_same, Nat.le_trans (show rvs.length + rws.length ≤ 8 by omega) (by decide), fun m3 k3 => ?_⟩
    have s11 := same_upd (o := .lst (rvs ++ rws)) k3
    refine ⟨m3, rvs ++ rws, rfl, .inl ⟨.inl (.inl upd_same), fun p5 n5 => ?_⟩⟩
    have s12 := same_upd (o := .tup (rvs ++ rws)) n5
    refine ⟨by show 2 ≤ sizeLine; decide, fun p6 n6 => ?_⟩
    have s13 := same_upd (o := .tup [.str (tx zs), .ref p5]) n6
    have S13 := S9.trans (s10.trans (s11.trans (s12.trans s13)))
    exact hQ e (by omega) (by omega) _ p6 zs hz (rise_of (hz.symm.nodup (nodup_app hL.rise hL'.rise e)) hsort) ⟨p5, _, sqt_upd, Same.tup s13 sqt_upd, Rws.app (fR.same S13) (fS.same S13)⟩ S13
end
end B

namespace B
open PySem PySem.Spec PyProof.Rows L2

def sp_l_part (K : PySem.W.Frag) : Sp := fun vs H Q _ => ∃ (cs ss : List Nat) (bs : List Bool), vs = [.str (tx cs), .str (wtx bs), .str (tx ss)] ∧ cs.length = bs.length ∧ cs.length ≤ 26 ∧ ss.length ≤ 100 ∧ (∀ c ∈ ss, c ∈ cs) ∧ Q (.str (wtx (ss.map fun c => bs.getD (cs.idxOf c) false))) H

section
variable {P : Program} {w : World} {K : PySem.W.Frag} {mg : Str → Option Value} {base : Heap}
theorem ok_l_part (T : Tx K mg) (U : Unl P base) : FnOk P w K mg base CX0 35 T.l_part.f T.l_part.fd ["_law_letters_here", "_law_world", "_law_some"] (sp_l_part K) := by
  refine T.l_part.F.ok sc_l_part (fun vs H Q E h => ?_) (fun cdv A outer s H vs Q E hr h => ?_)
  · obtain ⟨cs, ss, bs, rfl, hl, h26, hs, hm, q⟩ := h
    rfl
  · obtain ⟨cs, ss, bs, rfl, hl, h26, hs, hm, q⟩ := h
    refine ⟨_, (pss_cons (ps_set (i := 3) sc_l_part.nd rfl (.inl rfl) pe_str)
      (pss_cons (ps_for PassesOwn.never rfl (pi_str (pv 2)) (pg_name (i := 4) sc_l_part.nd rfl (.inl rfl))
      (pss_one (ps_set (i := 3) sc_l_part.nd rfl (.inl rfl) (pe_op op_add_str (pv 3) (pe_ix ix_str (pv 1) (pe_bm PySem.F.plainAttrs_str PySem.F.slot_str_find PySem.F.type_str_find mt_find (pv 0) (pa_cons (pv 4) pa_nil)) (fun _ _ => rfl))))))
      (pss_one (ps_ret (pv 3))))), ?_⟩
    refine ⟨_, rfl, tx ss, rfl, for_it (walk_str (z := tx ss)) (fun i σ H' => ∃ x4 : Option V, σ = [some (.str (tx cs)), some (.str (wtx bs)), some (.str (tx ss)), some (.str (wtx ((ss.take i).map fun c => bs.getD (cs.idxOf c) false))), x4] ∧ H' = H) ⟨none, rfl, rfl⟩ (fun _ _ _ _ _ => trivial) ?_ ?_⟩
    · rintro i v σ H1 _ hi ⟨x4, rfl, rfl⟩ ⟨rfl, c, hc, rfl⟩
      have hi : i < ss.length := hi
      have hc : ss[i]? = some c := by
        have : (tx ss).cps.toList[i]? = some c := by rw [Array.getElem?_toList]; exact hc
        exact this
      obtain ⟨k, e1, e2, e3, _⟩ := letter_at (hm c (List.mem_of_getElem? hc))
      have hk := (List.getElem?_eq_some_iff.mp e2).1
      have gb : (bs.map bc)[k]? = some (bc (bs[k]'(by omega))) := by rw [List.getElem?_map, List.getElem?_eq_getElem (show k < bs.length by omega)]; rfl
      have eb : bs.getD (cs.idxOf c) false = bs[k]'(by omega) := by rw [e1, List.getD_eq_getElem?_getD, List.getElem?_eq_getElem (show k < bs.length by omega)]; rfl
      refine ⟨_, rfl, _, rfl, _, rfl, rfl, _, rfl, tx cs, sg c, rfl, rfl, wtx bs, (k : Int), bc (bs[k]'(by omega)), rfl, by rw [e3], Nat.le_trans (show (bs.map bc).length ≤ 26 by rw [List.length_map]; omega) (by decide), atI_nat gb, ?_⟩
      refine ⟨_, _, rfl, rfl, ?_, ?_⟩
      · show ((((ss.take i).map fun c => bs.getD (cs.idxOf c) false)).map bc).length + 1 ≤ sizeLine
        rw [List.length_map, List.length_map, List.length_take]
        exact Nat.le_trans (show min i ss.length + 1 ≤ 101 by omega) (by decide)
      · refine ⟨some (.str (sg c)), ?_, rfl⟩
        rw [show (⟨#[bc (bs[k]'(by omega))]⟩ : Str) = sg (bc (bs[k]'(by omega))) from rfl, wtx_snoc, take_one ss i c hc, List.map_append]
        show _ = [_, _, _, some (V.str (wtx (_ ++ [bs.getD (cs.idxOf c) false]))), _]
        rw [eb]
        rfl
    · rintro σ H1 ⟨x4, rfl, rfl⟩
      have el : ss.take (tx ss).cps.size = ss := List.take_of_length_le (Nat.le_refl _)
      rw [el]
      exact ⟨_, rfl, q⟩
end
end B

namespace B
open PySem PySem.Spec PyProof.Rows L2

def sp_l_saying (K : PySem.W.Frag) : Sp := fun vs H Q _ => ∃ (d : Dr) (b n : Nat) (cs : List Nat), vs = [.ref d.dr, .str (tx cs), .int n] ∧ 1 ≤ cs.length ∧ cs.length ≤ 100 ∧ 1 ≤ n ∧ n ≤ 20 ∧ Drw H d (b + 6 * n + 5) ∧ ∀ (H' : Hp) (p : Addr) (ws : List Wd), SqT K H' p (ws.map wv) → Sy cs ws → ws.length + 2 ≤ 4 * n → Drw H' d b → Kp d H H' → Q (.ref p) H'

section
variable {P : Program} {w : World} {K : PySem.W.Frag} {mg : Str → Option Value} {base : Heap}
theorem ok_l_saying (T : Tx K mg) (U : Unl P base) : FnOk P w K mg base CX0 36 T.l_saying.f T.l_saying.fd ["_law_drawn", "_law_letters_here", "_law_leaves"] (sp_l_saying K) := by
  refine T.l_saying.F.ok sc_l_saying (fun vs H Q E h => ?_) (fun cdv A outer s H vs Q E hr h => ?_)
  · obtain ⟨d, b, n, cs, rfl, hc1, hc2, hn1, hn2, hD, q⟩ := h
    rfl
  · obtain ⟨d, b, n, cs, rfl, hc1, hc2, hn1, hn2, hD, q⟩ := h
    refine ⟨_, (pss_cons (ps_set (i := 3) sc_l_saying.nd rfl (.inl rfl) (pe_lst pa_nil))
      (pss_cons (ps_for PassesOwn.never rfl (pi_range1 (by rfl) T.m_range (pa_cons (pe_op op_add pe_int (pe_call (ok_l_next T U) (hr.mono (by decide)) (by rfl) T.l_next.g T.l_next.F.kp T.l_next.b .nil pass0 (pa_cons (pv 0) (pa_cons (pv 2) pa_nil)))) pa_nil)) (pg_name (i := 4) sc_l_saying.nd rfl (.inl rfl))
      (pss_cons (ps_set (i := 5) sc_l_saying.nd rfl (.inl rfl) (pe_call (ok_l_next T U) (hr.mono (by decide)) (by rfl) T.l_next.g T.l_next.F.kp T.l_next.b .nil pass0 (pa_cons (pv 0) (pa_cons pe_int pa_nil))))
      (pss_cons (ps_set (i := 6) sc_l_saying.nd rfl (.inl rfl) (pe_ix ix_str (pv 1) (pe_call (ok_l_next T U) (hr.mono (by decide)) (by rfl) T.l_next.g T.l_next.F.kp T.l_next.b .nil pass0 (pa_cons (pv 0) (pa_cons (pe_callB call_len_str (by rfl) T.m_len (by decide +kernel) (pa_cons (pv 1) pa_nil)) pa_nil))) (fun _ _ => rfl)))
      (pss_cons (ps_expr (pe_bm PySem.F.plainAttrs_list PySem.F.slot_list_append PySem.F.type_list_append mt_append (pv 3) (pa_cons (pe_tup (pa_cons (pe_ix ix_list (pe_lst (pa_cons pe_str (pa_cons pe_str (pa_cons (pv 6) (pa_cons (pv 6) (pa_cons (pv 6) (pa_cons (pv 6) (pa_cons (pv 6) (pa_cons (pv 6) pa_nil))))))))) (pv 5) (fun _ _ => rfl)) pa_nil)) pa_nil)))
      (pss_one (ps_if (pt_cmpR op_gt (pv 5) pe_int (nomark _)) (pss_one (ps_asg (pe_op op_catS (pe_ix ix_list (pv 3) (pe_un un_neg pe_int) (fun _ _ => rfl)) (pe_tup (pa_cons pe_str pa_nil))) (pg_sub (pv 3) (pe_un un_neg pe_int) set_list))) pss_nil))))))
      (pss_cons (ps_for PassesOwn.never rfl (pi_range1 (by rfl) T.m_range (pa_cons (pe_op op_sub (pe_callB call_len_seq (by rfl) T.m_len (by decide +kernel) (pa_cons (pv 3) pa_nil)) pe_int) pa_nil)) (pg_name (i := 4) sc_l_saying.nd rfl (.inl rfl))
      (pss_cons (ps_set (i := 7) sc_l_saying.nd rfl (.inl rfl) (pe_call (ok_l_next T U) (hr.mono (by decide)) (by rfl) T.l_next.g T.l_next.F.kp T.l_next.b .nil pass0 (pa_cons (pv 0) (pa_cons (pe_op op_sub (pe_callB call_len_seq (by rfl) T.m_len (by decide +kernel) (pa_cons (pv 3) pa_nil)) pe_int) pa_nil))))
      (pss_cons (ps_set (i := 8) sc_l_saying.nd rfl (.inl rfl) (pe_ix ix_list (pe_lst (pa_cons pe_str (pa_cons pe_str (pa_cons pe_str (pa_cons pe_str pa_nil))))) (pe_call (ok_l_next T U) (hr.mono (by decide)) (by rfl) T.l_next.g T.l_next.F.kp T.l_next.b .nil pass0 (pa_cons (pv 0) (pa_cons pe_int pa_nil))) (fun _ _ => rfl)))
      (pss_cons (ps_set (i := 3) sc_l_saying.nd rfl (.inl rfl) (pe_op op_cat (pe_op op_cat (pe_slice sl_list (pv 3) po_none (po_some (pv 7))) (pe_lst (pa_cons (pe_op op_catS (pe_op op_catS (pe_ix ix_list (pv 3) (pv 7) (fun _ _ => rfl)) (pe_ix ix_list (pv 3) (pe_op op_add (pv 7) pe_int) (fun _ _ => rfl))) (pe_tup (pa_cons (pv 8) pa_nil))) pa_nil))) (pe_slice sl_list (pv 3) (po_some (pe_op op_add (pv 7) pe_int)) po_none)))
      (pss_one (ps_if (pt_cmpR op_eq (pe_call (ok_l_next T U) (hr.mono (by decide)) (by rfl) T.l_next.g T.l_next.F.kp T.l_next.b .nil pass0 (pa_cons (pv 0) (pa_cons pe_int pa_nil))) pe_int (nomark _)) (pss_one (ps_asg (pe_op op_catS (pe_ix ix_list (pv 3) (pv 7) (fun _ _ => rfl)) (pe_tup (pa_cons pe_str pa_nil))) (pg_sub (pv 3) (pv 7) set_list))) pss_nil))))))
      (pss_one (ps_ret (pe_ix ix_list (pv 3) pe_int (fun _ _ => rfl))))))), ?_⟩
    have csz : (tx cs).length ≤ sizeLine := Nat.le_trans hc2 (by decide)
    refine ⟨by decide, fun R nR => ?_⟩
    have nR1 := hD.no nR
    have nR2 := hD.nc nR
    refine ⟨_, rfl, _, rfl, d, b + 6 * n + 4, n, rfl, by omega, by omega, hD.upd nR, fun H1 r r0 r1 w1 k1 => ?_⟩
    refine ⟨_, _, rfl, rfl, 1 + r, rfl, by omega, by omega, for_range (lo := 0) (n := (1 + r).toNat) (fun i σ H' => ∃ (x4 x5 x6 : Option V) (vs : List V) (rs : List (List Wd)), σ = [some (.ref d.dr), some (.str (tx cs)), some (.int n), some (.ref R), x4, x5, x6, none, none] ∧ H' R = some (.lst vs) ∧ Rws K H' vs rs ∧ rs.length = i ∧ (∀ x ∈ rs, Sy cs x) ∧ tot rs ≤ 2 * i ∧ Drw H' d (b + 6 * n + 4 - 2 * i) ∧ Kp d H H') ⟨none, none, none, [], [], rfl, k1 _ _ upd_same nR1.1 nR1.2, trivial, rfl, (fun x hx => nomatch hx), Nat.le_refl _, w1, (Same.kp (same_upd nR)).trans k1⟩ ?_ ?_⟩
    · rintro i σ H2 hi ⟨x4, x5, x6, vs, rs, rfl, hR, hW, hlen, hS, ht, w2, k2⟩
      refine ⟨_, rfl, d, b + 6 * n + 4 - 2 * i - 1, 8, rfl, by decide, by decide, w2.less (by omega), fun H3 y y0 y1 w3 k3 => ?_⟩
      refine ⟨_, rfl, _, rfl, _, rfl, tx cs, rfl, csz, d, b + 6 * n + 4 - 2 * (i + 1), _, rfl, (by show (0 : Int) < (cs.length : Int); omega), (by show (cs.length : Int).natAbs < 2 ^ 70; omega), w3.less (by omega), fun H4 z z0 z1 w4 k4 => ?_⟩
      have z1 : z < (cs.length : Int) := z1
      obtain ⟨j, rfl⟩ : ∃ j : Nat, z = j := ⟨z.toNat, by omega⟩
      have hj : j < cs.length := by omega
      refine ⟨tx cs, (j : Int), cs[j], rfl, rfl, csz, atI_nat (List.getElem?_eq_getElem hj), ?_⟩
      have hcm : cs[j] ∈ cs := List.getElem_mem hj
      have hR4 := k4 _ _ (k3 _ _ hR nR1.1 nR1.2) nR1.1 nR1.2
      refine ⟨_, rfl, .inl ⟨rfl, _, .inl (.inl hR4)⟩, _, rfl, _, rfl, _, rfl, _, rfl, _, rfl, _, rfl, by show 8 ≤ sizeLine; decide, fun L nL => ?_⟩
      obtain ⟨w, hw, hf⟩ : ∃ w, atI [V.str "yes", V.str "no", V.str (sg cs[j]), V.str (sg cs[j]), V.str (sg cs[j]), V.str (sg cs[j]), V.str (sg cs[j]), V.str (sg cs[j])] y = some (wv w) ∧ Lf cs w := by
        have : y = 0 ∨ y = 1 ∨ y = 2 ∨ y = 3 ∨ y = 4 ∨ y = 5 ∨ y = 6 ∨ y = 7 := by omega
        rcases this with rfl | rfl | rfl | rfl | rfl | rfl | rfl | rfl
        · exact ⟨.yes, rfl, .yes⟩
        · exact ⟨.no, rfl, .no⟩
        · exact ⟨.lt cs[j], rfl, .lt hcm⟩
        · exact ⟨.lt cs[j], rfl, .lt hcm⟩
        · exact ⟨.lt cs[j], rfl, .lt hcm⟩
        · exact ⟨.lt cs[j], rfl, .lt hcm⟩
        · exact ⟨.lt cs[j], rfl, .lt hcm⟩
        · exact ⟨.lt cs[j], rfl, .lt hcm⟩
      refine ⟨_, rfl, L, _, y, wv w, rfl, rfl, .inl (.inl upd_same), hw, by show 1 ≤ sizeLine; decide, fun P nP => ?_⟩
      have sL := same_upd (o := .lst [V.str "yes", V.str "no", V.str ⟨#[cs[j]]⟩, V.str ⟨#[cs[j]]⟩, V.str ⟨#[cs[j]]⟩, V.str ⟨#[cs[j]]⟩, V.str ⟨#[cs[j]]⟩, V.str ⟨#[cs[j]]⟩]) nL
      have sP := same_upd (o := .tup [wv w]) nP
      have sLP := sL.trans sP
      have hR5 := sLP _ _ hR4
      have W5 := (((hW.kp w2 k3).kp w3 k4).same sLP)
      have w5 := w4.same sLP
      have K5 := ((k2.trans k3).trans k4).trans (Same.kp sLP)
      have hP : SqT K (upd (upd H4 L (.lst [V.str "yes", V.str "no", V.str ⟨#[cs[j]]⟩, V.str ⟨#[cs[j]]⟩, V.str ⟨#[cs[j]]⟩, V.str ⟨#[cs[j]]⟩, V.str ⟨#[cs[j]]⟩, V.str ⟨#[cs[j]]⟩])) P (.tup [wv w])) P ([w].map wv) := sqt_upd
      generalize upd (upd H4 L (.lst [V.str "yes", V.str "no", V.str ⟨#[cs[j]]⟩, V.str ⟨#[cs[j]]⟩, V.str ⟨#[cs[j]]⟩, V.str ⟨#[cs[j]]⟩, V.str ⟨#[cs[j]]⟩, V.str ⟨#[cs[j]]⟩])) P (.tup [wv w]) = H5 at hR5 W5 w5 K5 hP ⊢
      have vlen : vs.length = i := by rw [hW.len, hlen]
      have hSw : Sy cs [w] := by cases hf with
        | lt h => exact Sy.leaf h
        | yes => exact Sy.yes
        | no => exact Sy.no
      refine ⟨R, _, _, rfl, rfl, hR5, ?_, ?_⟩
      · exact Nat.lt_of_le_of_lt (show vs.length ≤ 100 by omega) (by decide)
      refine ⟨_, rfl, _, _, rfl, rfl, _, rfl, ite2 (fun e => ?_) (fun e => ?_)⟩
      · refine ⟨_, rfl, 1, rfl, R, _, -1, .ref P, rfl, rfl, .inl (.inl upd_same), atI_last _ _, by show 1 ≤ sizeLine; decide, fun P2 n2 => ?_⟩
        have s6 := same_upd (o := .tup [.str "not"]) n2
        refine ⟨P, P2, [wv w], [wv .nt], rfl, rfl, Same.tup s6 (tup_upd hR5 hP), sqt_upd, by show 2 ≤ 100000; decide, fun P3 H7 t7 s7 => ?_⟩
        have hR7 := s7 _ _ (s6 _ _ (upd_same (H := H5) (a := R) (o := .lst (vs ++ [.ref P]))))
        refine ⟨_, rfl, 1, rfl, R, _, -1, vs.length, rfl, rfl, hR7, last_ix, ?_⟩
        rw [last_set]
        have t7 : SqT K H7 P3 ([w, .nt].map wv) := t7
        refine ⟨_, _, _, vs ++ [.ref P3], rs ++ [[w, .nt]], rfl, upd_same, ?_, ?_, ?_, ?_, ?_, ?_⟩
        · refine Rws.mono (fun a xs h => tup_upd hR7 h) (Rws.app ?_ (Rws.one t7))
          exact Rws.mono (fun a xs h => Same.tup (s6.trans s7) (tup_upd hR5 h)) W5
        · rw [List.length_append, hlen]; rfl
        · intro x hx
          rcases List.mem_append.mp hx with h | h
          · exact hS x h
          · rw [List.mem_singleton] at h
            rw [h]
            exact hSw.not
        · rw [tot_app]
          show tot rs + 2 ≤ 2 * (i + 1)
          omega
        · exact (((w5.mut nR1.1 nR2 nR1.2).same (s6.trans s7)).mut nR1.1 nR2 nR1.2).less (by omega)
        · exact (Kp.upd ((Kp.upd K5 nR).trans (Same.kp (s6.trans s7))) nR)
      · refine ⟨_, _, _, vs ++ [.ref P], rs ++ [[w]], rfl, upd_same, ?_, ?_, ?_, ?_, ?_, ?_⟩
        · exact Rws.mono (fun a xs h => tup_upd hR5 h) (Rws.app W5 (Rws.one hP))
        · rw [List.length_append, hlen]; rfl
        · intro x hx
          rcases List.mem_append.mp hx with h | h
          · exact hS x h
          · rw [List.mem_singleton] at h
            rw [h]
            exact hSw
        · rw [tot_app]
          show tot rs + 1 ≤ 2 * (i + 1)
          omega
        · exact (w5.mut nR1.1 nR2 nR1.2).less (by omega)
        · exact Kp.upd K5 nR
    · rintro σ H2 ⟨x4, x5, x6, vs, rs, rfl, hR, hW, hlen, hS, ht, w2, k2⟩
      have hn : (1 + r).toNat ≤ n := by omega
      have hn0 : 1 ≤ (1 + r).toNat := by omega
      generalize (1 + r).toNat = m at hlen ht w2 hn hn0
      have vlen : vs.length = m := by rw [hW.len, hlen]
      refine ⟨_, rfl, R, _, rfl, .inl (.inl (.inl hR)), _, _, rfl, rfl, _, rfl, by omega, by omega, for_range (lo := 0) (n := ((vs.length : Int) - 1).toNat) (fun i σ H' => ∃ (R : Addr) (x4 x5 x6 x7 x8 : Option V) (vs : List V) (rs : List (List Wd)), σ = [some (.ref d.dr), some (.str (tx cs)), some (.int n), some (.ref R), x4, x5, x6, x7, x8] ∧ H' R = some (.lst vs) ∧ H R = none ∧ R ≠ d.dr ∧ R ≠ d.cl ∧ R ≠ d.rs ∧ Rws K H' vs rs ∧ rs.length + i = m ∧ (∀ x ∈ rs, Sy cs x) ∧ tot rs ≤ 2 * m + 2 * i ∧ Drw H' d (b + 4 * n - 3 * i) ∧ Kp d H H') ⟨R, x4, x5, x6, none, none, vs, rs, rfl, hR, nR, nR1.1, nR2, nR1.2, hW, hlen, hS, ht, w2.less (by omega), k2⟩ ?_ ?_⟩
      · clear hR hW hlen hS ht k2 w2 nR nR1 nR2
        rintro i σ H2 hi ⟨R, x4, x5, x6, x7, x8, vs, rs, rfl, hR, nR, nR1, nR2, nR3, hW, hlen, hS, ht, w2, k2⟩
        have vl2 : vs.length = rs.length := hW.len
        have hi' : i + 1 < m := by omega
        refine ⟨_, rfl, _, rfl, R, _, rfl, .inl (.inl (.inl hR)), _, _, rfl, rfl, d, b + 4 * n - 3 * i - 1, _, rfl, by omega, by omega, w2.less (by omega), fun H3 y y0 y1 w3 k3 => ?_⟩
        obtain ⟨j, rfl⟩ : ∃ j : Nat, y = j := ⟨y.toNat, by omega⟩
        have hR3 := k3 _ _ hR nR1 nR3
        refine ⟨by decide, fun L nL => ?_⟩
        refine ⟨_, rfl, d, b + 4 * n - 3 * i - 2, 4, rfl, by decide, by decide, (w3.less (by omega)).upd nL, fun H4 z z0 z1 w4 k4 => ?_⟩
        have hL4 := k4 _ _ (upd_same (H := H3) (a := L) (o := .lst [.str "and", .str "or", .str "same", .str "or"])) (w3.no nL).1 (w3.no nL).2
        have sL := same_upd (o := .lst [.str "and", .str "or", .str "same", .str "or"]) nL
        have hR4 := k4 _ _ (sL _ _ hR3) nR1 nR3
        have W4 := ((hW.kp w2 k3).same sL).kp (w3.same sL) k4
        have K4 := (k2.trans k3).trans ((Same.kp sL).trans k4)
        obtain ⟨w, hw, hjn⟩ : ∃ w, atI [V.str "and", V.str "or", V.str "same", V.str "or"] z = some (wv w) ∧ Jn w := by
          have : z = 0 ∨ z = 1 ∨ z = 2 ∨ z = 3 := by omega
          rcases this with rfl | rfl | rfl | rfl
          · exact ⟨.an, rfl, .an⟩
          · exact ⟨.orr, rfl, .orr⟩
          · exact ⟨.sm, rfl, .sm⟩
          · exact ⟨.orr, rfl, .orr⟩
        refine ⟨L, _, z, wv w, rfl, rfl, .inl (.inl hL4), hw, ?_⟩
        obtain ⟨r1, hr1⟩ : ∃ r, rs[j]? = some r := ⟨_, List.getElem?_eq_getElem (by omega)⟩
        obtain ⟨r2, hr2⟩ : ∃ r, rs[j + 1]? = some r := ⟨_, List.getElem?_eq_getElem (by omega)⟩
        obtain ⟨a1, ha1, ta1⟩ := W4.get hr1
        obtain ⟨a2, ha2, ta2⟩ := W4.get hr2
        have hS1 := hS r1 (List.mem_of_getElem? hr1)
        have hS2 := hS r2 (List.mem_of_getElem? hr2)
        have esp := split2 hr1 hr2
        have etot : tot rs = tot (rs.take j) + (r1.length + r2.length) + tot (rs.drop (j + 2)) := by
          conv => lhs; rw [esp]
          rw [tot_app, tot_app]
          show tot (rs.take j) + (r1.length + (r2.length + 0)) + tot (rs.drop (j + 2)) = _
          omega
        -- rows[:at]
        refine ⟨_, rfl, _, rfl, (j : Int), rfl, R, _, rfl, .inl (.inl hR4), fun p1 n1 => ?_⟩
        rw [cut_take]
        have s1 := same_upd (o := .lst (vs.take j)) n1
        have hR5 := s1 _ _ hR4
        refine ⟨_, rfl, _, rfl, R, _, (j : Int), .ref a1, rfl, rfl, .inl (.inl hR5), atI_nat ha1, _, rfl, _, rfl, _, _, rfl, rfl, R, _, ((j + 1 : Nat) : Int), .ref a2, rfl, rfl, .inl (.inl hR5), atI_nat ha2, a1, a2, _, _, rfl, rfl, Same.tup s1 ta1, Same.tup s1 ta2, ?_, fun p2 H6 t6 s6 => ?_⟩
        · rw [List.length_map, List.length_map]
          omega
        rw [← List.map_append] at t6
        refine ⟨_, rfl, by show 1 ≤ sizeLine; decide, fun p3 n3 => ?_⟩
        have s3 := same_upd (o := .tup [wv w]) n3
        refine ⟨p2, p3, _, [wv w], rfl, rfl, Same.tup s3 t6, sqt_upd, ?_, fun p4 H7 t7 s7 => ?_⟩
        · rw [List.length_map, List.length_append]
          show r1.length + r2.length + 1 ≤ 100000
          omega
        have t7 : SqT K H7 p4 ((r1 ++ r2 ++ [w]).map wv) := by
          rw [List.map_append]
          exact t7
        refine ⟨by show 1 ≤ sizeLine; decide, fun p5 n5 => ?_⟩
        have s5 := same_upd (o := .lst [.ref p4]) n5
        have S5 := ((s1.trans s6).trans s3).trans (s7.trans s5)
        have hp1 := (s6.trans s3).trans (s7.trans s5) _ _ (upd_same (H := H4) (a := p1) (o := .lst (vs.take j)))
        refine ⟨p1, p5, _, _, rfl, rfl, hp1, upd_same, ?_, fun p6 n6 => ?_⟩
        · refine Nat.le_trans (show (vs.take j).length + 1 ≤ 100 from ?_) (by decide)
          rw [List.length_take]
          omega
        have s6' := same_upd (o := .lst (vs.take j ++ [.ref p4])) n6
        have S6 := S5.trans s6'
        refine ⟨_, rfl, _, rfl, _, _, rfl, rfl, ((j + 2 : Nat) : Int), rfl, R, _, rfl, .inl (.inl (S6 _ _ hR4)), fun p7 n7 => ?_⟩
        rw [cut_drop]
        have s7' := same_upd (o := .lst (vs.drop (j + 2))) n7
        have S7 := S6.trans s7'
        refine ⟨p6, p7, _, _, rfl, rfl, s7' _ _ upd_same, upd_same, ?_, fun p8 n8 => ?_⟩
        · refine Nat.le_trans (show (vs.take j ++ [V.ref p4]).length + (vs.drop (j + 2)).length ≤ 100 from ?_) (by decide)
          rw [List.length_append, List.length_take, List.length_drop]
          show min j vs.length + 1 + (vs.length - (j + 2)) ≤ 100
          omega
        have s8 := same_upd (o := .lst (vs.take j ++ [.ref p4] ++ vs.drop (j + 2))) n8
        have S8 := S7.trans s8
        have W8 : Rws K _ (vs.take j ++ [.ref p4] ++ vs.drop (j + 2)) (rs.take j ++ [r1 ++ r2 ++ [w]] ++ rs.drop (j + 2)) := Rws.app (Rws.app ((W4.take j).same S8) (Rws.one (Same.tup (((s5.trans s6').trans s7').trans s8) t7))) ((W4.drop (j + 2)).same S8)
        have w7 := w4.same S7
        have w8 := w7.upd (o := .lst (vs.take j ++ [.ref p4] ++ vs.drop (j + 2))) n8
        have K7 := K4.trans (Same.kp S7)
        have K8 := K4.trans (Same.kp S8)
        have f8 := K7.free w7 n8
        have nn := w7.no n8
        have nc := w7.nc n8
        have hR8 := upd_same (H := (upd (upd (upd (upd H7 p5 (.lst [.ref p4])) p6 (.lst (vs.take j ++ [.ref p4]))) p7 (.lst (vs.drop (j + 2)))) p8 (.lst (vs.take j ++ [.ref p4] ++ vs.drop (j + 2))))) (a := p8) (o := .lst (vs.take j ++ [.ref p4] ++ vs.drop (j + 2)))
        have hR8 : (upd (upd (upd (upd H7 p5 (.lst [.ref p4])) p6 (.lst (vs.take j ++ [.ref p4]))) p7 (.lst (vs.drop (j + 2)))) p8 (.lst (vs.take j ++ [.ref p4] ++ vs.drop (j + 2)))) p8 = some (.lst (vs.take j ++ [.ref p4] ++ vs.drop (j + 2))) := upd_same
        generalize (upd (upd (upd (upd H7 p5 (.lst [.ref p4])) p6 (.lst (vs.take j ++ [.ref p4]))) p7 (.lst (vs.drop (j + 2)))) p8 (.lst (vs.take j ++ [.ref p4] ++ vs.drop (j + 2)))) = H8 at W8 w8 K8 hR8 ⊢
        have lj : (vs.take j).length = j := by rw [List.length_take]; omega
        have ljr : (rs.take j).length = j := by rw [List.length_take]; omega
        have len8 : (rs.take j ++ [r1 ++ r2 ++ [w]] ++ rs.drop (j + 2)).length + (i + 1) = m := by
          rw [List.length_append, List.length_append, ljr, List.length_drop]
          show j + 1 + (rs.length - (j + 2)) + (i + 1) = m
          omega
        have hSn : ∀ X, Sy cs X → ∀ x ∈ rs.take j ++ [X] ++ rs.drop (j + 2), Sy cs x := by
          intro X hX x hx
          rcases List.mem_append.mp hx with h | h
          · rcases List.mem_append.mp h with h | h
            · exact hS x (List.mem_of_mem_take h)
            · rw [List.mem_singleton] at h
              rw [h]
              exact hX
          · exact hS x (List.mem_of_mem_drop h)
        refine ⟨_, rfl, d, b + 4 * n - 3 * (i + 1), 6, rfl, by decide, by decide, w8.less (by omega), fun H9 u u0 u1 w9 k9 => ?_⟩
        have hR9 := k9 _ _ hR8 nn.1 nn.2
        have W9 := W8.kp w8 k9
        refine ⟨rfl, _, rfl, ite2 (fun e => ?_) (fun e => ?_)⟩
        · have hat : (vs.take j ++ [V.ref p4] ++ vs.drop (j + 2))[j]? = some (.ref p4) := by
            rw [List.append_assoc, List.getElem?_append_right (by omega), lj, Nat.sub_self]
            rfl
          have hrt : (rs.take j ++ [r1 ++ r2 ++ [w]] ++ rs.drop (j + 2))[j]? = some (r1 ++ r2 ++ [w]) := by
            rw [List.append_assoc, List.getElem?_append_right (by omega), ljr, Nat.sub_self]
            rfl
          obtain ⟨a4, ha4, ta4⟩ := W9.get hrt
          have ea : a4 = p4 := by
            rw [hat] at ha4
            exact (V.ref.inj (Option.some.inj ha4)).symm
          subst ea
          refine ⟨_, rfl, _, rfl, p8, _, (j : Int), .ref a4, rfl, rfl, .inl (.inl hR9), atI_nat hat, by show 1 ≤ sizeLine; decide, fun P2 n2 => ?_⟩
          have sa := same_upd (o := .tup [.str "not"]) n2
          refine ⟨a4, P2, _, [wv .nt], rfl, rfl, Same.tup sa ta4, sqt_upd, ?_, fun P3 Ha ta sb => ?_⟩
          · rw [List.length_map, List.length_append, List.length_append]
            show r1.length + r2.length + 1 + 1 ≤ 100000
            omega
          have ta : SqT K Ha P3 ((r1 ++ r2 ++ [w] ++ [Wd.nt]).map wv) := by
            rw [List.map_append]
            exact ta
          have hRa := sb _ _ (sa _ _ hR9)
          refine ⟨_, rfl, _, rfl, p8, _, (j : Int), j, rfl, rfl, hRa, ?_, ?_⟩
          · unfold ixN
            rw [if_pos (by omega), if_pos ?_]
            · rfl
            · rw [List.length_append, List.length_append, lj]
              show (j : Int) < ((j + 1 + (vs.drop (j + 2)).length : Nat) : Int)
              omega
          have eset : ∀ {α : Type} (A C : List α) (x y : α), A.length = j → (A ++ [x] ++ C).set j y = A ++ [y] ++ C := by
            intro α A C x y h
            rw [List.append_assoc, List.set_append_right _ _ (by omega), h, Nat.sub_self, List.append_assoc]
            rfl
          have Wb := (W9.same (sa.trans sb)).set ta j
          rw [eset _ _ _ _ lj, eset _ _ _ _ ljr] at Wb
          rw [eset _ _ _ _ lj]
          refine ⟨p8, _, _, _, _, _, _, _, rfl, upd_same, f8, nn.1, nc, nn.2, Rws.mono (fun a xs h => tup_upd hRa h) Wb, ?_, hSn _ (hS1.join hS2 hjn).not, ?_, ?_, ?_⟩
          · rw [List.length_append, List.length_append, ljr, List.length_drop]
            show j + 1 + (rs.length - (j + 2)) + (i + 1) = m
            omega
          · rw [tot_app, tot_app]
            have : tot [r1 ++ r2 ++ [w] ++ [Wd.nt]] = r1.length + r2.length + 2 := by
              show (r1 ++ r2 ++ [w] ++ [Wd.nt]).length + 0 = _
              rw [List.length_append, List.length_append, List.length_append]
              rfl
            rw [this]
            omega
          · exact ((w9.same (sa.trans sb)).mut nn.1 nc nn.2).less (by omega)
          · exact Kp.upd (((K8.trans k9)).trans (Same.kp (sa.trans sb))) f8
        · refine ⟨p8, _, _, _, _, _, _, _, rfl, hR9, f8, nn.1, nc, nn.2, W9, len8, hSn _ (hS1.join hS2 hjn), ?_, w9, K8.trans k9⟩
          rw [tot_app, tot_app]
          have : tot [r1 ++ r2 ++ [w]] = r1.length + r2.length + 1 := by
            show (r1 ++ r2 ++ [w]).length + 0 = _
            rw [List.length_append, List.length_append]
            rfl
          rw [this]
          omega
      · rintro σ H3 ⟨R, x4, x5, x6, x7, x8, vs', rs', rfl, hR, nR, nR1, nR2, nR3, hW, hlen', hS, ht, w3, k3⟩
        have e1 : ((vs.length : Int) - 1).toNat = m - 1 := by omega
        rw [e1] at hlen' ht w3
        obtain ⟨x, rfl⟩ : ∃ x, rs' = [x] := by
          match rs', hlen' with
          | [], h => simp at h; omega
          | [x], _ => exact ⟨x, rfl⟩
          | _ :: _ :: _, h => simp at h; omega
        obtain ⟨a, ha, ta⟩ := hW.get (j := 0) rfl
        refine ⟨_, rfl, R, _, 0, .ref a, rfl, rfl, .inl (.inl hR), atI_nat (j := 0) ha, q _ a x ta (hS x (by simp)) ?_ (w3.less (by omega)) k3⟩
        have : tot [x] = x.length := by
          show x.length + 0 = _
          omega
        rw [this] at ht
        omega
end
end B

namespace B
open PySem PySem.Spec PyProof.Rows L2

def sp_l_letters (_ : PySem.W.Frag) : Sp := fun vs H Q _ => ∃ (d : Dr) (n b : Nat), vs = [.ref d.dr, .int n] ∧ 1 ≤ n ∧ n ≤ 20 ∧ Drw H d (b + 30) ∧ ∀ (H' : Hp) (cs : List Nat), Ls n cs → Drw H' d b → Kp d H H' → Q (.str (tx cs)) H'

section
variable {P : Program} {w : World} {K : PySem.W.Frag} {mg : Str → Option Value} {base : Heap}
theorem ok_l_letters (T : Tx K mg) (U : Unl P base) : FnOk P w K mg base CX0 36 T.l_letters.f T.l_letters.fd ["_law_drawn", "_law_most"] (sp_l_letters K) := by
  refine T.l_letters.F.ok sc_l_letters (fun vs H Q E h => ?_) (fun cdv A outer s H vs Q E hr h => ?_)
  · obtain ⟨d, n, b, rfl, hn, hn2, hD, q⟩ := h
    rfl
  · obtain ⟨d, n, b, rfl, hn, hn2, hD, q⟩ := h
    refine ⟨_, (pss_cons (ps_set (i := 2) sc_l_letters.nd rfl (.inl rfl) (pe_callTy (cr_listS rfl) (by rfl) T.m_list (by decide +kernel) (pa_cons pe_str pa_nil)))
      (pss_cons (ps_set (i := 3) sc_l_letters.nd rfl (.inl rfl) (pe_lst pa_nil))
      (pss_cons (ps_for PassesOwn.never rfl (pi_range1 (by rfl) T.m_range (pa_cons (pe_op op_add pe_int (pe_call (ok_l_next T U) (hr.mono (by decide)) (by rfl) T.l_next.g T.l_next.F.kp T.l_next.b .nil pass0 (pa_cons (pv 0) (pa_cons (pv 1) pa_nil)))) pa_nil)) (pg_name (i := 4) sc_l_letters.nd rfl (.inl rfl))
      (pss_one (ps_expr (pe_bm PySem.F.plainAttrs_list PySem.F.slot_list_append PySem.F.type_list_append mt_append (pv 3) (pa_cons (pe_bm PySem.F.plainAttrs_list PySem.F.slot_list_pop PySem.F.type_list_pop mt_popAt (pv 2) (pa_cons (pe_call (ok_l_next T U) (hr.mono (by decide)) (by rfl) T.l_next.g T.l_next.F.kp T.l_next.b .nil pass0 (pa_cons (pv 0) (pa_cons (pe_callB call_len_seq (by rfl) T.m_len (by decide +kernel) (pa_cons (pv 2) pa_nil)) pa_nil))) pa_nil)) pa_nil)))))
      (pss_one (ps_ret (pe_join pe_str (pe_callB cr_sortedS (by rfl) T.m_sorted (by decide +kernel) (pa_cons (pv 3) pa_nil)))))))), ?_⟩
    have alp : (Str.ofString "abcdefghijklmnopqrstuvwxyz").cps.toList = List.range' 97 26 := by decide +kernel
    refine ⟨Str.ofString "abcdefghijklmnopqrstuvwxyz", rfl, by decide +kernel, fun l nl => ?_⟩
    rw [alp]
    have w1 := hD.upd (o := .lst ((List.range' 97 26).map fun c => V.str (sg c))) nl
    refine ⟨by decide, fun f nf => ?_⟩
    have w2 := w1.upd (o := .lst []) nf
    have S2 := (same_upd (o := .lst ((List.range' 97 26).map fun c => V.str (sg c))) nl).trans (same_upd (o := .lst []) nf)
    have nlf : l ≠ f := ne_of_none upd_same nf
    have nl1 := hD.no nl
    have nl2 := hD.nc nl
    have nf1 := w1.no nf
    have nf2 := w1.nc nf
    refine ⟨_, rfl, _, rfl, d, b + 29, n, rfl, by omega, by omega, w2, fun H3 r r0 r1 w3 k3 => ?_⟩
    refine ⟨_, _, rfl, rfl, 1 + r, rfl, by omega, by omega, for_range (lo := 0) (n := (1 + r).toNat) (fun i σ H' => ∃ (x4 : Option V) (lf fd : List Nat), σ = [some (.ref d.dr), some (.int n), some (.ref l), some (.ref f), x4] ∧ H' l = some (.lst (lf.map fun c => V.str (sg c))) ∧ H' f = some (.lst (fd.map fun c => V.str (sg c))) ∧ (fd ++ lf).Perm (List.range' 97 26) ∧ fd.length = i ∧ Drw H' d (b + 29 - i) ∧ Kp d H H') ⟨none, List.range' 97 26, [], rfl, k3 _ _ (by rw [upd_ne nlf]; exact upd_same) nl1.1 nl1.2, k3 _ _ upd_same nf1.1 nf1.2, List.Perm.refl _, rfl, w3, (Same.kp S2).trans k3⟩ ?_ ?_⟩
    · rintro i σ H4 hi ⟨x4, lf, fd, rfl, h1, h2, hp, hlen, w4, k4⟩
      have hll : fd.length + lf.length = 26 := by
        have := hp.length_eq
        rw [List.length_append] at this
        exact this
      have llen : (lf.map fun c => V.str (sg c)).length = lf.length := List.length_map ..
      refine ⟨_, rfl, .inl ⟨rfl, _, .inl (.inl h2)⟩, _, rfl, .inl ⟨rfl, _, .inl (.inl h1)⟩, _, rfl, _, rfl, l, _, rfl, .inl (.inl (.inl h1)), d, b + 29 - (i + 1), _, rfl, by rw [llen]; omega, by rw [llen]; omega, w4.less (by omega), fun H5 y y0 y1 w5 k5 => ?_⟩
      rw [llen] at y1
      have h1' := k5 _ _ h1 nl1.1 nl1.2
      have h2' := k5 _ _ h2 nf1.1 nf1.2
      have hy : y.toNat < lf.length := by omega
      refine ⟨l, _, y, y.toNat, V.str (sg lf[y.toNat]), rfl, rfl, h1', by omega, by omega, ?_, ?_, ?_⟩
      · rw [llen]
        exact PySem.seqIndex_of y0 y1
      · rw [List.getElem?_map, List.getElem?_eq_getElem hy]
        rfl
      have h2'' : (upd H5 l (.lst ((lf.map fun c => V.str (sg c)).eraseIdx y.toNat))) f = some (.lst (fd.map fun c => V.str (sg c))) := by
        rw [upd_ne nlf.symm]
        exact h2'
      refine ⟨f, _, _, rfl, rfl, h2'', ?_, ?_⟩
      · rw [List.length_map]
        exact Nat.lt_of_le_of_lt (show fd.length ≤ 26 by omega) (by decide)
      · refine ⟨_, lf.eraseIdx y.toNat, fd ++ [lf[y.toNat]], rfl, ?_, ?_, ?_, ?_, ?_, ?_⟩
        · rw [upd_ne nlf, upd_same, eraseIdx_map]
        · rw [upd_same, List.map_append]
          rfl
        · refine List.Perm.trans ?_ hp
          rw [List.append_assoc]
          exact List.Perm.append_left _ (perm_erase (List.getElem?_eq_getElem hy))
        · rw [List.length_append, hlen]
          rfl
        · exact ((w5.mut nl1.1 nl2 nl1.2).mut nf1.1 nf2 nf1.2).less (by omega)
        · intro c o e a1 a2
          rw [upd_ne (ne_of_none ((same_upd nl) _ _ e) nf), upd_ne (ne_of_none e nl)]
          exact k5 _ _ (k4 _ _ e a1 a2) a1 a2
    · rintro σ H4 ⟨x4, lf, fd, rfl, h1, h2, hp, hlen, w4, k4⟩
      have nd : (fd ++ lf).Nodup := hp.symm.nodup (by decide)
      have ndf : fd.Nodup := (List.nodup_append.mp nd).1
      have hr' : ∀ c ∈ fd, 97 ≤ c ∧ c < 123 := fun c hc => by
        have := hp.mem_iff.mp (List.mem_append_left lf hc)
        rw [List.mem_range'] at this
        obtain ⟨j, hj, rfl⟩ := this
        omega
      refine ⟨⟨_, rfl⟩, _, rfl, f, fd.map sg, rfl, .inl (.inl (by rw [h2, List.map_map]; rfl)), by rw [List.length_map]; omega, fun ys p hperm hsort np => ?_⟩
      obtain ⟨zs, rfl, hz⟩ := perm_sg hperm
      have lz : zs.length = fd.length := hz.length_eq
      refine ⟨_, p, zs.map sg, rfl, rfl, .inl (.inl (.inl upd_same)), ?_, ?_⟩
      · rw [List.map_map]
        have : (zs.map sg).length * Str.length "" = 0 := rfl
        rw [sum_one, List.length_map]
        show zs.length + zs.length * 0 ≤ 16777216
        omega
      · rw [join_sg]
        exact q _ zs ⟨by omega, by omega, rise_of (hz.symm.nodup ndf) hsort, fun c hc => hr' c (hz.mem_iff.mp hc)⟩ ((w4.less (by omega)).upd np) (k4.trans (Same.kp (same_upd np)))
end
end B

namespace B
open PySem PySem.Spec PyProof.Rows L2

def sp_l_worlds (K : PySem.W.Frag) : Sp := fun vs H Q _ => ∃ (a ra : Addr) (cs : List Nat) (rvs : List V) (rs : List (List Wd)), vs = [.ref a] ∧ SqT K H a [.str (tx cs), .ref ra] ∧ SqT K H ra rvs ∧ Rws K H rvs rs ∧ (∀ r ∈ rs, Sy cs r ∧ r.length ≤ 10000) ∧ rs.length ≤ 1000 ∧ cs.length ≤ 6 ∧ (∀ c ∈ cs, c < 123) ∧ ∀ (H' : Hp) (p : Addr), SqT K H' p (wvs (wor cs rs)) → Same H H' → Q (.ref p) H'

section
variable {P : Program} {w : World} {K : PySem.W.Frag} {mg : Str → Option Value} {base : Heap}
theorem ok_l_worlds (T : Tx K mg) (U : Unl P base) : FnOk P w K mg base CX0 36 T.l_worlds.f T.l_worlds.fd ["_law_house_here"] (sp_l_worlds K) := by
  refine T.l_worlds.F.ok sc_l_worlds (fun vs H Q E h => ?_) (fun cdv A outer s H vs Q E hr h => ?_)
  · obtain ⟨a, ra, cs, rvs, rs, rfl, hA, hRa, hW, hY, hrl, hc6, hsm, q⟩ := h
    rfl
  · obtain ⟨a, ra, cs, rvs, rs, rfl, hA, hRa, hW, hY, hrl, hc6, hsm, q⟩ := h
    refine ⟨_, (pss_cons (ps_asg (pv 0) (pg_tup rfl (pgs_cons (pg_name (i := 1) sc_l_worlds.nd rfl (.inr rfl)) (pgs_cons (pg_name (i := 2) sc_l_worlds.nd rfl (.inl rfl)) pgs_nil))))
      (pss_cons (ps_set (i := 3) sc_l_worlds.nd rfl (.inl rfl) (pe_lst pa_nil))
      (pss_cons (ps_for PassesOwn.never rfl (pi_range1 (by rfl) T.m_range (pa_cons (pe_ix ix_list (pe_lst (pa_cons pe_int (pa_cons pe_int (pa_cons pe_int (pa_cons pe_int (pa_cons pe_int (pa_cons pe_int (pa_cons pe_int pa_nil)))))))) (pe_callB call_len_str (by rfl) T.m_len (by decide +kernel) (pa_cons (pv 1) pa_nil)) (fun _ _ => rfl)) pa_nil)) (pg_name (i := 4) sc_l_worlds.nd rfl (.inl rfl))
      (pss_cons (ps_set (i := 5) sc_l_worlds.nd rfl (.inr rfl) pe_str)
      (pss_cons (ps_set (i := 6) sc_l_worlds.nd rfl (.inl rfl) (pv 4))
      (pss_cons (ps_for PassesOwn.never rfl (pi_range1 (by rfl) T.m_range (pa_cons (pe_callB call_len_str (by rfl) T.m_len (by decide +kernel) (pa_cons (pv 1) pa_nil)) pa_nil)) (pg_name (i := 7) sc_l_worlds.nd rfl (.inl rfl))
      (pss_cons (ps_set (i := 5) sc_l_worlds.nd rfl (.inr rfl) (pe_op op_add_str (pe_callTy call_str_int (by rfl) T.m_str (by decide +kernel) (pa_cons (pe_op op_mod (pv 6) pe_int) pa_nil)) (pv 5)))
      (pss_one (ps_set (i := 6) sc_l_worlds.nd rfl (.inl rfl) (pe_op (op_fdivW U (hr.mono (by decide)) rfl sc_l_worlds.gen sc_l_worlds.co rfl rfl) (pv 6) pe_int)))))
      (pss_one (ps_if (pt_cmpR (op_eqD hr.units) (pe_lc (own := [("_law_rule", 8)]) (g := gName 8) rfl sc_l_worlds.nd (pi_tup (pv 2)) (blkOk_by (own := [("_law_rule", 8)]) (N := N_l_worlds) (sc := defScope s_l_worlds) (by decide +kernel)) (fun _ _ _ _ _ => (pg_name (i := 8) sc_l_worlds.nd rfl (.inl rfl))) (fun _ _ _ _ _ => (pts_one (pt_not (pt_val (pe_call (ok_l_holds T U) (hr.mono (by decide)) (by rfl) T.l_holds.g T.l_holds.F.kp T.l_holds.b .nil pass0 (pa_cons (pv 1) (pa_cons (pv 8) (pa_cons (pv 5) pa_nil)))))))) (fun _ _ _ _ _ => (pv 8))) (pe_lst pa_nil) (nomark _)) (pss_one (ps_expr (pe_bm PySem.F.plainAttrs_list PySem.F.slot_list_append PySem.F.type_list_append mt_append (pv 3) (pa_cons (pv 5) pa_nil)))) pss_nil))))))
      (pss_one (ps_ret (pe_callTy call_tuple_of (by rfl) T.m_tuple (by decide +kernel) (pa_cons (pv 3) pa_nil))))))), ?_⟩
    have csz : (tx cs).length ≤ sizeLine := Nat.le_trans (show cs.length ≤ 6 from hc6) (by decide)
    have pz : 2 ^ cs.length ≤ 64 := Nat.le_trans (Nat.pow_le_pow_right (by decide) hc6) (by decide)
    have rlen : rvs.length = rs.length := hW.len
    refine ⟨_, rfl, a, _, rfl, hA, rfl, _, _, rfl, _, _, rfl, rfl, ?_⟩
    refine ⟨by decide, fun F nF => ?_⟩
    refine ⟨by decide, fun L nL => ?_⟩
    have S0 := (same_upd (o := .lst []) nF).trans (same_upd (o := .lst [V.int 1, V.int 2, V.int 4, V.int 8, V.int 16, V.int 32, V.int 64]) nL)
    have hF0 := same_upd (o := .lst [V.int 1, V.int 2, V.int 4, V.int 8, V.int 16, V.int 32, V.int 64]) nL _ _ (upd_same (H := H) (a := F) (o := .lst []))
    refine ⟨_, rfl, tx cs, rfl, csz, L, _, (cs.length : Int), .int ((2 ^ cs.length : Nat) : Int), rfl, rfl, .inl (.inl upd_same), pow_at hc6, ((2 ^ cs.length : Nat) : Int), rfl, Int.le_trans (by decide) (Int.natCast_nonneg _), Int.lt_of_le_of_lt (Int.ofNat_le.mpr pz) (by decide), for_range (lo := 0) (n := ((2 ^ cs.length : Nat) : Int).toNat) (fun i σ H' => ∃ (x4 x5 x6 x7 x8 : Option V), σ = [some (.ref a), some (.str (tx cs)), some (.ref ra), some (.ref F), x4, x5, x6, x7, x8] ∧ H' F = some (.lst (wvs (((allW cs.length).take i).filter fun bs => rs.all fun r => sval (vl cs bs) r))) ∧ Same H H') ⟨none, none, none, none, none, rfl, hF0, S0⟩ ?_ ?_⟩
    · rintro i σ H1 hi ⟨x4, x5, x6, x7, x8, rfl, hF, s1⟩
      rw [Int.toNat_natCast] at hi
      refine ⟨_, rfl, ?_⟩
      refine ⟨_, rfl, tx cs, rfl, csz, (cs.length : Int), rfl, by omega, by omega, for_range (lo := 0) (n := ((cs.length : Int)).toNat) (fun p σ H' => ∃ (x7 : Option V), σ = [some (.ref a), some (.str (tx cs)), some (.ref ra), some (.ref F), some (.int (0 + (i : Int))), some (.str (wtx (bitsN p i))), some (.int ((i / 2 ^ p : Nat) : Int)), x7, x8] ∧ H' = H1) ⟨x7, ?_, rfl⟩ ?_ ?_⟩
      · have e0 : (0 : Int) + (i : Int) = ((i / 2 ^ 0 : Nat) : Int) := by rw [Nat.pow_zero, Nat.div_one]; omega
        rw [← e0]
        rfl
      · rintro p σ H2 hp ⟨x7, rfl, rfl⟩
        rw [Int.toNat_natCast] at hp
        refine ⟨_, rfl, _, _, rfl, rfl, (by show (0 : Int) < 2; decide), _, rfl, ?_, _, rfl, _, _, rfl, rfl, ?_, ?_⟩
        · have : (((i / 2 ^ p : Nat) : Int) % 2).natAbs < 2 ^ 1 := by omega
          exact Nat.lt_of_lt_of_le (PySem.Flt.log2_lt_of (by decide) this) (by decide)
        · rw [digit_len]
          refine Nat.le_trans (show 1 + ((bitsN p i).map bc).length ≤ 100 from ?_) (by decide)
          rw [List.length_map, bitsN_len]
          omega
        refine ⟨_, rfl, _, _, rfl, rfl, wide_div (b := 2) (by decide) (by decide) (by decide) (by decide), some (.int (0 + (p : Int))), ?_, rfl⟩
        have e1 : (Str.ofString (toString (((i / 2 ^ p : Nat) : Int) % 2)) : Str) ++ wtx (bitsN p i) = wtx (bitsN (p + 1) i) := digit_cons (i / 2 ^ p) (bitsN p i)
        have e2 : ((i / 2 ^ p : Nat) : Int) / 2 = ((i / 2 ^ (p + 1) : Nat) : Int) := by
          rw [Nat.pow_succ, ← Nat.div_div_eq_div_mul]
          rfl
        show [some (V.ref a), some (V.str (tx cs)), some (V.ref ra), some (V.ref F), some (V.int (0 + (i : Int))), some (V.str ((Str.ofString (toString (((i / 2 ^ p : Nat) : Int) % 2)) : Str) ++ wtx (bitsN p i))), some (V.int (((i / 2 ^ p : Nat) : Int) / 2)), some (V.int (0 + (p : Int))), x8] = _
        rw [e1, e2]
      rintro σ H2 ⟨x7, rfl, rfl⟩
      rw [Int.toNat_natCast]
      have hbl : cs.length = (bitsN cs.length i).length := (bitsN_len _ _).symm
      have hb6 : (bitsN cs.length i).length ≤ 100 := by rw [bitsN_len]; omega
      refine ⟨_, rfl, ra, rfl, ⟨_, Same.tup s1 hRa⟩, fun D nD => ?_⟩
      have sD := same_upd (o := .lst []) nD
      refine lc_tup (K := K) (a := ra) (xs := rvs) (fun j H' => ∃ (acc : List V) (as : List (List Wd)), H' D = some (.lst acc) ∧ Rws K H' acc as ∧ acc.length ≤ j ∧ (∀ r ∈ as, r ∈ rs) ∧ (as.isEmpty = (rs.take j).all fun r => sval (vl cs (bitsN cs.length i)) r) ∧ Same H2 H') ⟨[], [], upd_same, trivial, Nat.le_refl _, (fun x hx => nomatch hx), rfl, sD⟩ (fun j H' _ ⟨_, _, _, _, _, _, _, e⟩ => Same.tup (s1.trans e) hRa) ?_ ?_
      · rintro j x H3 hx ⟨acc, as, h1, h2, h3, h4, h5, s3⟩
        obtain ⟨ax, r, rfl, hr, tr⟩ := (hW.same (s1.trans s3)).getV hx
        have hrm := List.mem_of_getElem? hr
        have hj : j < rs.length := (List.getElem?_eq_some_iff.mp hr).1
        refine ⟨rfl, _, rfl, _, rfl, _, rfl, cs, ax, r, bitsN cs.length i, rfl, tr, (hY r hrm).1, hbl, hb6, (hY r hrm).2, fun H4 s4 => ⟨_, rfl, ?_⟩⟩
        have h5' := all_take (fun r => sval (vl cs (bitsN cs.length i)) r) rs j r hr
        cases ev : sval (vl cs (bitsN cs.length i)) r with
        | true =>
          refine iteF ⟨acc, as, s4 _ _ h1, h2.same s4, by omega, h4, ?_, s3.trans s4⟩
          rw [h5', h5, ev, Bool.and_true]
        | false =>
          refine iteT ⟨_, rfl, acc, s4 _ _ h1, ?_, acc ++ [.ref ax], as ++ [r], upd_same, ?_, ?_, ?_, ?_, ?_⟩
          · exact Nat.lt_of_le_of_lt (show acc.length ≤ 1000 by omega) (by decide)
          · exact Rws.mono (fun _ _ h => tup_upd (s4 _ _ h1) h) (Rws.app (h2.same s4) (Rws.one (Same.tup s4 tr)))
          · rw [List.length_append]
            show acc.length + 1 ≤ j + 1
            omega
          · intro y hy
            rcases List.mem_append.mp hy with h | h
            · exact h4 y h
            · rw [List.mem_singleton] at h
              rw [h]
              exact hrm
          · rw [h5', ev, Bool.and_false]
            cases as <;> rfl
          · intro b o e
            rw [upd_ne (ne_of_none e nD)]
            exact s4 _ _ (s3 _ _ e)
      rintro H3 ⟨acc, as, h1, h2, h3, h4, h5, s3⟩
      rw [rlen, List.take_length] at h5
      refine ⟨by decide, fun E1 nE => ?_⟩
      have sE := same_upd (o := .lst []) nE
      have hsh : SeqAt.shaped (.list (as.map wdat)) = true := rows_shaped hsm fun r hr => (hY r (h4 r hr)).1.lt
      refine ⟨_, _, .lst (.inl (.inl (sE _ _ h1))) (h2.same sE).dp, .lst sql_upd .nil, hsh, rfl, _, rfl, ?_⟩
      have ek : PyData.eqv (.list (as.map wdat)) (.list []) = rs.all fun r => sval (vl cs (bitsN cs.length i)) r := by
        rw [eqv_nil, List.isEmpty_map, h5]
      have hF3 := sE _ _ (s3 _ _ hF)
      have S3 := (s1.trans s3).trans sE
      have tf := take_filter (fun bs => rs.all fun r => sval (vl cs bs) r) (allW cs.length) i _ (allW_get hi)
      have flen : (wvs (((allW cs.length).take i).filter fun bs => rs.all fun r => sval (vl cs bs) r)).length ≤ 64 := by
        unfold wvs
        rw [List.length_map]
        refine Nat.le_trans (List.length_filter_le _ _) ?_
        rw [List.length_take]
        omega
      refine ite2 (fun e => ?_) (fun e => ?_)
      · rw [ek] at e
        refine ⟨_, rfl, .inl ⟨rfl, _, .inl (.inl hF3)⟩, _, rfl, F, _, _, rfl, rfl, hF3, ?_, ?_⟩
        · exact Nat.lt_of_le_of_lt flen (by decide)
        · refine ⟨_, _, _, _, _, rfl, ?_, fun b o e => ?_⟩
          · rw [upd_same, tf, e]
            unfold wvs
            rw [List.map_append]
            rfl
          · rw [upd_ne (ne_of_none e nF)]
            exact S3 _ _ e
      · rw [ek] at e
        have e : (rs.all fun r => sval (vl cs (bitsN cs.length i)) r) = false := by simpa using e
        refine ⟨_, _, _, _, _, rfl, ?_, S3⟩
        rw [tf, e]
        simp only [Bool.false_eq_true, if_false, List.append_nil]
        exact hF3
    · rintro σ H1 ⟨x4, x5, x6, x7, x8, rfl, hF, s1⟩
      rw [Int.toNat_natCast, List.take_of_length_le (by rw [allW_length]; exact Nat.le_refl _)] at hF
      exact ⟨_, rfl, F, _, rfl, .inl ⟨.inl (.inl hF), fun p np => q _ p sqt_upd (s1.trans (same_upd np))⟩⟩
end
end B

namespace B
open PySem PySem.Spec PyProof.Rows L2

def sp_l_full (K : PySem.W.Frag) : Sp := fun vs H Q _ => ∃ (d : Dr) (b : Nat) (h : Addr) (cs : List Nat) (rs : List (List Wd)), vs = [.ref d.dr, .ref h] ∧ HsAt K H h cs rs ∧ HsOk cs rs ∧ wor cs rs ≠ [] ∧ rs.length ≤ 3 ∧ (∀ r ∈ rs, r.length ≤ 14) ∧ Drw H d (b + 2) ∧ ∀ (H' : Hp) (p : Addr) (rs' : List (List Wd)), HsAt K H' p cs rs' → HsOk cs rs' → wor cs rs' ≠ [] → rs'.length ≤ 8 → (∀ r ∈ rs', r.length ≤ 14) → Drw H' d b → Kp d H H' → Q (.ref p) H'

section
variable {P : Program} {w : World} {K : PySem.W.Frag} {mg : Str → Option Value} {base : Heap}
theorem ok_l_full (T : Tx K mg) (U : Unl P base) : FnOk P w K mg base CX0 36 T.l_full.f T.l_full.fd ["_law_drawn", "_law_house_here"] (sp_l_full K) := by
  refine T.l_full.F.ok sc_l_full (fun vs H Q E h => ?_) (fun cdv A outer s H vs Q E hr h => ?_)
  · obtain ⟨d, b, h, cs, rs, rfl, hH, hO, hne, h3, h14, hD, q⟩ := h
    rfl
  · obtain ⟨d, b, h, cs, rs, rfl, hH, hO, hne, h3, h14, hD, q⟩ := h
    refine ⟨_, (pss_cons (ps_if (pt_cmpR op_gt (pe_call (ok_l_next T U) (hr.mono (by decide)) (by rfl) T.l_next.g T.l_next.F.kp T.l_next.b .nil pass0 (pa_cons (pv 0) (pa_cons pe_int pa_nil))) pe_int (nomark _)) (pss_one (ps_ret (pv 1))) pss_nil)
      (pss_cons (ps_set (i := 2) sc_l_full.nd rfl (.inl rfl) (pe_ix ix_tup (pe_op op_catS (pe_tup (pa_cons (pe_tup (pa_cons pe_str pa_nil)) pa_nil)) (pe_ix ix_tup (pv 1) pe_int (fun _ _ => rfl))) (pe_un un_neg pe_int) (fun _ _ => rfl)))
      (pss_one (ps_ret (pe_tup (pa_cons (pe_ix ix_tup (pv 1) pe_int (fun _ _ => rfl)) (pa_cons (pe_op op_catS (pe_ix ix_tup (pv 1) pe_int (fun _ _ => rfl)) (pe_op op_repN (pe_tup (pa_cons (pv 2) pa_nil)) (pe_call (ok_l_next T U) (hr.mono (by decide)) (by rfl) T.l_next.g T.l_next.F.kp T.l_next.b .nil pass0 (pa_cons (pv 0) (pa_cons (pe_op op_sub pe_int (pe_callB call_len_seq (by rfl) T.m_len (by decide +kernel) (pa_cons (pe_ix ix_tup (pv 1) pe_int (fun _ _ => rfl)) pa_nil))) pa_nil))))) pa_nil))))))), ?_⟩
    obtain ⟨ra, rvs, tA, tR, fR⟩ := id hH
    have lr := fR.len
    refine ⟨_, rfl, d, b + 1, 3, rfl, by decide, by decide, hD, fun H1 r r0 r1 w1 k1 => ?_⟩
    have tA1 := Kp.tup k1 hD tA
    have tR1 := Kp.tup k1 hD tR
    refine ⟨_, _, rfl, rfl, _, rfl, ite2 (fun e => ?_) (fun e => ?_)⟩
    · exact ⟨_, rfl, q _ h rs (hH.mono fun _ _ t => Kp.tup k1 hD t) hO hne (by omega) h14 (w1.less (by omega)) k1⟩
    have okr : ∀ r ∈ [Wd.yes] :: rs, Sy cs r ∧ r.length ≤ 14 := fun r hr => by
      rcases List.mem_cons.mp hr with z | z
      · rw [z]; exact ⟨Sy.yes, by decide⟩
      · exact ⟨(hO.sy r z).1, h14 r z⟩
    refine ⟨by show 1 ≤ sizeLine; decide, fun a1 n1 => ?_⟩
    have s1 := same_upd (o := .tup [.str "yes"]) n1
    refine ⟨by show 1 ≤ sizeLine; decide, fun a2 n2 => ?_⟩
    have s2 := same_upd (o := .tup [.ref a1]) n2
    have S2 := s1.trans s2
    refine ⟨_, rfl, h, _, 1, .ref ra, rfl, rfl, Same.tup S2 tA1, rfl, a2, ra, [.ref a1], rvs, rfl, rfl, sqt_upd, Same.tup S2 tR1, by show 1 + rvs.length ≤ 100000; omega, fun p3 H3 t3 s3 => ?_⟩
    have t3 : SqT K H3 p3 (.ref a1 :: rvs) := t3
    have S3 := S2.trans s3
    have fR3 : Rws K H3 (.ref a1 :: rvs) ([Wd.yes] :: rs) := Rws.app (Rws.one (Same.tup (s2.trans s3) sqt_upd)) ((fR.kp hD k1).same S3)
    have gl := List.getElem?_eq_getElem (l := [Wd.yes] :: rs) (i := rs.length) (by show rs.length < rs.length + 1; omega)
    have ml := List.mem_of_getElem? gl
    generalize ([Wd.yes] :: rs)[rs.length]'(by show rs.length < rs.length + 1; omega) = r' at gl ml
    obtain ⟨x, hx, tx3⟩ := fR3.get gl
    refine ⟨1, rfl, p3, _, -1, .ref x, rfl, rfl, t3, last_get hx (by show rvs.length + 1 = rs.length + 1; omega), ?_⟩
    have tA3 := Same.tup S3 tA1
    have tR3 := Same.tup S3 tR1
    refine ⟨_, rfl, h, _, 0, .str (tx cs), rfl, rfl, tA3, rfl, _, rfl, h, _, 1, .ref ra, rfl, rfl, tA3, rfl, _, rfl, by show 1 ≤ sizeLine; decide, fun a5 n5 => ?_⟩
    have s5 := same_upd (o := .tup [.ref x]) n5
    have w5 := w1.same (S3.trans s5)
    refine ⟨_, rfl, _, rfl, h, _, 1, .ref ra, rfl, rfl, Same.tup s5 tA3, rfl, ra, rvs, rfl, .inr (Same.tup s5 tR3), _, _, rfl, rfl, d, b, 9 - (rvs.length : Int), rfl, by omega, by omega, w5, fun H6 z z0 z1 w6 k6 => ?_⟩
    obtain ⟨k, rfl⟩ := Int.eq_ofNat_of_zero_le z0
    have T6 : Tk K (tgt s5) H6 := fun _ _ t => Kp.tup k6 w5 t
    refine ⟨a5, (k : Int), [.ref x], rfl, rfl, T6 _ _ sqt_upd, by simp, by omega, by omega, by show 1 ≤ 1000; decide, fun a7 H7 t7 s7 => ?_⟩
    rw [Int.toNat_natCast, flat_rep] at t7
    refine ⟨ra, a7, rvs, _, rfl, rfl, Same.tup s7 (T6 _ _ (Same.tup s5 tR3)), t7, by rw [List.length_replicate]; omega, fun p8 H8 t8 s8 => ?_⟩
    refine ⟨by show 2 ≤ sizeLine; decide, fun p9 n9 => ?_⟩
    have s9 := same_upd (o := .tup [.str (tx cs), .ref p8]) n9
    have S9 := s7.trans (s8.trans s9)
    have T39 : Tk K H3 (tgt s9) := fun _ _ t => Same.tup S9 (T6 _ _ (Same.tup s5 t))
    have T19 : Tk K H1 (tgt s9) := fun _ _ t => T39 _ _ (Same.tup S3 t)
    have tx9 := T39 _ _ tx3
    have rep : ∀ n, Rws K (tgt s9) (List.replicate n (.ref x)) (List.replicate n r') := fun n => by
      induction n with
      | zero => exact trivial
      | succ n ih =>
        rw [List.replicate_succ, List.replicate_succ]
        exact Rws.app (Rws.one tx9) ih
    have fR9 : Rws K (tgt s9) rvs rs := fR.mono fun _ _ t => T19 _ _ (Kp.tup k1 hD t)
    have ok9 : ∀ y ∈ rs ++ List.replicate k r', Sy cs y ∧ y.length ≤ 14 := fun y hy => by
      rcases List.mem_append.mp hy with z | z
      · exact okr y (List.mem_cons_of_mem _ z)
      · rw [List.eq_of_mem_replicate z]
        exact okr r' ml
    have l9 : (rs ++ List.replicate k r').length ≤ 8 := by rw [List.length_append, List.length_replicate]; omega
    refine q _ p9 (rs ++ List.replicate k r') ⟨p8, _, sqt_upd, Same.tup s9 t8, Rws.app fR9 (rep k)⟩ ⟨hO.c6, hO.sm, fun y hy => ⟨(ok9 y hy).1, by have := (ok9 y hy).2; omega⟩, by omega⟩ ?_ l9 (fun y hy => (ok9 y hy).2) (w6.same S9) (k1.trans ((Same.kp (S3.trans s5)).trans (k6.trans (Same.kp S9))))
    obtain ⟨bs, hb⟩ := List.exists_mem_of_ne_nil _ hne
    have hb2 := List.mem_filter.mp hb
    refine List.ne_nil_of_mem (a := bs) (List.mem_filter.mpr ⟨hb2.1, List.all_eq_true.mpr fun y hy => ?_⟩)
    have each := List.all_eq_true.mp hb2.2
    rcases List.mem_append.mp hy with z | z
    · exact each y z
    · rw [List.eq_of_mem_replicate z]
      rcases List.mem_cons.mp ml with e2 | e2
      · rw [e2]; rfl
      · exact each r' e2
end
end B

namespace B
open PySem PySem.Spec PyProof.Rows L2

def sp_l_told (K : PySem.W.Frag) : Sp := fun vs H Q _ => ∃ (a c : Addr) (cs cs' : List Nat) (rs rs' : List (List Wd)), vs = [.ref a, .ref c] ∧ HsAt K H a cs rs ∧ HsAt K H c cs' rs' ∧ Ls 6 cs ∧ Ls 6 cs' ∧ rs.length ≤ 100 ∧ rs'.length ≤ 100 ∧
  (cs.any (fun x => cs'.contains x) = true → ∀ H', Same H H' → Q (.str "NotAlike") H') ∧
  (cs.any (fun x => cs'.contains x) = false → (6 < cs.length + cs'.length ∨ 8 < rs.length + rs'.length) → ∀ H', Same H H' → Q (.str "TooMany") H') ∧
  (cs.any (fun x => cs'.contains x) = false → cs.length + cs'.length ≤ 6 → rs.length + rs'.length ≤ 8 → ∀ (H' : Hp) (p : Addr) (zs : List Nat), zs.Perm (cs ++ cs') → zs.Pairwise (· < ·) → HsAt K H' p zs (rs ++ rs') → Same H H' → Q (.ref p) H')

section
variable {P : Program} {w : World} {K : PySem.W.Frag} {mg : Str → Option Value} {base : Heap}
theorem ok_l_told (T : Tx K mg) (U : Unl P base) : FnOk P w K mg base CX0 36 T.l_told.f T.l_told.fd ["_law_one", "_law_other_here"] (sp_l_told K) := by
  refine T.l_told.F.ok sc_l_told (fun vs H Q E h => ?_) (fun cdv A outer s H vs Q E hr h => ?_)
  · obtain ⟨a, c, cs, cs', rs, rs', rfl, hA, hB, lA, lB, rA, rB, k1, k2, k3⟩ := h
    rfl
  · obtain ⟨a, c, cs, cs', rs, rs', rfl, hA, hB, lA, lB, rA, rB, k1, k2, k3⟩ := h
    refine ⟨_, (pss_cons (ps_set (i := 2) sc_l_told.nd rfl (.inl rfl) (pe_lst pa_nil))
      (pss_cons (L2N.ps_try_as (i := 3) (Wout := fun _ _ _ _ => False) rfl rfl sc_l_told.nd rfl rfl ⟨rfl, by decide, Or.inl T.x_StallError.g⟩ takes0N (fun W pn xe tk _ => (pss_one (ps_ret (by exact (pe_callS (ok_beside T U) (hr.mono (by decide)) (by rfl) T.beside.g T.beside.F.kp T.beside.b (fun σ => L2N.passAt tk σ) (pa_cons (pv 0) (pa_cons (pv 1) pa_nil))))))) (fun a oe cls d pn hz hf => (pss_one (ps_set (i := 2) sc_l_told.nd rfl (.inl rfl) (by exact (pe_callX hz hf (ok_l_refusal T U) (L2H.roomH_of (hr.mono (by decide))) (by rfl) T.l_refusal.g T.l_refusal.F.kp T.l_refusal.b (pa_cons (pv 3) pa_nil)))))))
      (pss_one (ps_ret (pe_bm PySem.F.plainAttrs_str PySem.F.slot_str_join PySem.F.type_str_join mt_join pe_str (pa_cons (pv 2) pa_nil)))))), ?_⟩
    refine ⟨by show 0 ≤ sizeLine; decide, fun l0 n0 => ?_⟩
    have s0 := same_upd (o := .lst []) n0
    refine ⟨_, rfl, _, rfl, a, c, cs, cs', rs, rs', rfl, hA.same s0, hB.same s0, lA, lB, rA, rB, (fun e C hX d H1 dk s1 => ?_), (fun e e2 C hX d H1 dk s1 => ?_), fun e e2 e3 H1 p zs h1 h2 h3 s1 => k3 e e2 e3 H1 p zs h1 h2 h3 (s0.trans s1)⟩
    · obtain rfl := hX.eq T.x_NotAlike.ns
      refine ⟨true, exm_own T.x_StallError.sb T.x_StallError.ic T.x_StallError.ty T.i_NotAlike_StallError, fun _ x nx => ?_, fun z => nomatch z⟩
      refine ⟨_, rfl, T.x_NotAlike.C, "NotAlike", rfl, rfl, dk, .inr ⟨T.x_NotAlike.ns, rfl⟩, fun H2 p hp s2 => ?_⟩
      refine ⟨rfl, _, rfl, " ", p, ["NotAlike"], rfl, rfl, .inl (.inl (.inl hp)), by decide, ?_⟩
      rw [show Txt.join " " ["NotAlike"] = "NotAlike" by decide +kernel]
      exact k1 e _ ((s0.trans s1).trans s2)
    · obtain rfl := hX.eq T.x_TooMany.ns
      refine ⟨true, exm_own T.x_StallError.sb T.x_StallError.ic T.x_StallError.ty T.i_TooMany_StallError, fun _ x nx => ?_, fun z => nomatch z⟩
      refine ⟨_, rfl, T.x_TooMany.C, "TooMany", rfl, rfl, dk, .inl ⟨T.x_TooMany.ns, rfl⟩, fun H2 p hp s2 => ?_⟩
      refine ⟨rfl, _, rfl, " ", p, ["TooMany"], rfl, rfl, .inl (.inl (.inl hp)), by decide, ?_⟩
      rw [show Txt.join " " ["TooMany"] = "TooMany" by decide +kernel]
      exact k2 e e2 _ ((s0.trans s1).trans s2)
end
end B

namespace B
open PySem PySem.Spec PyProof.Rows L2

def sp_l_parts_right (K : PySem.W.Frag) : Sp := fun vs H Q _ => ∃ (d : Dr) (b : Nat) (W a c r1 r2 : Addr) (cs c1 c2 : List Nat) (wl : List (List Bool)), vs = [.ref d.dr, .str (tx cs), .ref W, .ref a, .ref c] ∧ SqT K H W (wvs wl) ∧ (∀ bs ∈ wl, bs.length = cs.length) ∧ wl.length ≤ 100 ∧ SqT K H a [.str (tx c1), .ref r1] ∧ SqT K H c [.str (tx c2), .ref r2] ∧ Ls 6 cs ∧ c1.Nodup ∧ c2.Nodup ∧ (∀ x ∈ c1, x ∈ cs) ∧ (∀ x ∈ c2, x ∈ cs) ∧ c1.length ≤ 6 ∧ c2.length ≤ 6 ∧ Drw H d (b + 6) ∧ ∀ H', Drw H' d b → Kp d H H' → Q (.bl true) H'

section
variable {P : Program} {w : World} {K : PySem.W.Frag} {mg : Str → Option Value} {base : Heap}
theorem ok_l_parts_right (T : Tx K mg) (U : Unl P base) : FnOk P w K mg base CX0 36 T.l_parts_right.f T.l_parts_right.fd ["_law_drawn", "_law_letters_here", "_law_worlds_here", "_law_one", "_law_other_here"] (sp_l_parts_right K) := by
  refine T.l_parts_right.F.ok sc_l_parts_right (fun vs H Q E h => ?_) (fun cdv A outer s H vs Q E hr h => ?_)
  · obtain ⟨d, b, W, a, c, r1, r2, cs, c1, c2, wl, rfl, tW, hw, l100, tA, tC, hL, nd1, nd2, m1, m2, l1, l2, hD, q⟩ := h
    rfl
  · obtain ⟨d, b, W, a, c, r1, r2, cs, c1, c2, wl, rfl, tW, hw, l100, tA, tC, hL, nd1, nd2, m1, m2, l1, l2, hD, q⟩ := h
    refine ⟨_, (pss_cons (ps_set (i := 6) sc_l_parts_right.nd rfl (.inl rfl) (pe_bm PySem.F.plainAttrs_str PySem.F.slot_str_join PySem.F.type_str_join mt_join pe_str (pa_cons (pe_lc (own := [("_law_letter", 5)]) (g := gName 5) rfl sc_l_parts_right.nd (pi_str (pv 1)) (blkOk_by (own := [("_law_letter", 5)]) (N := N_l_parts_right) (sc := defScope s_l_parts_right) (by decide +kernel)) (fun _ _ _ _ _ => (pg_name (i := 5) sc_l_parts_right.nd rfl (.inl rfl))) (fun _ _ _ _ _ => (pts_one (pt_cmpR op_eq (pe_call (ok_l_next T U) (hr.mono (by decide)) (by rfl) T.l_next.g T.l_next.F.kp T.l_next.b .nil pass0 (pa_cons (pv 0) (pa_cons pe_int pa_nil))) pe_int (nomark _)))) (fun _ _ _ _ _ => (pv 5))) pa_nil)))
      (pss_cons (ps_for PassesOwn.never rfl (pi_tup (pv 2)) (pg_name (i := 7) sc_l_parts_right.nd rfl (.inl rfl))
      (pss_one (ps_for PassesOwn.never rfl (pi_list (pe_lst (pa_cons (pe_ix ix_tup (pv 3) pe_int (fun _ _ => rfl)) (pa_cons (pe_ix ix_tup (pv 4) pe_int (fun _ _ => rfl)) (pa_cons (pv 1) (pa_cons (pe_slice sl_str (pe_op op_add_str (pv 6) (pv 1)) po_none (po_some (pe_callB (call_max2 rfl) (by rfl) T.m_max (by decide +kernel) (pa_cons pe_int (pa_cons (pe_callB call_len_str (by rfl) T.m_len (by decide +kernel) (pa_cons (pv 6) pa_nil)) pa_nil))))) pa_nil)))))) (pg_name (i := 8) sc_l_parts_right.nd rfl (.inl rfl))
      (pss_cons (ps_set (i := 8) sc_l_parts_right.nd rfl (.inl rfl) (pe_bm PySem.F.plainAttrs_str PySem.F.slot_str_join PySem.F.type_str_join mt_join pe_str (pa_cons (pe_callB (cr_sortedX rfl) (by rfl) T.m_sorted (by decide +kernel) (pa_cons (pv 8) pa_nil)) pa_nil)))
      (pss_one (ps_if (pt_cmpR op_ne (pe_call (ok_part_of T U) (hr.mono (by decide)) (by rfl) T.part_of.g T.part_of.F.kp T.part_of.b .nil pass0 (pa_cons (pv 1) (pa_cons (pv 7) (pa_cons (pv 8) pa_nil)))) (pe_call (ok_l_part T U) (hr.mono (by decide)) (by rfl) T.l_part.g T.l_part.F.kp T.l_part.b .nil pass0 (pa_cons (pv 1) (pa_cons (pv 7) (pa_cons (pv 8) pa_nil)))) (nomark _)) (pss_one (ps_ret pe_bl)) pss_nil))))))
      (pss_one (ps_ret pe_bl)))), ?_⟩
    have l6 := hL.most
    refine ⟨rfl, _, rfl, tx cs, rfl, fun D nD => ?_⟩
    have nD1 := hD.no nD
    have nD2 := hD.nc nD
    refine ⟨fun i m H' => ∃ zs : List Nat, m = cs.length - i ∧ i ≤ cs.length ∧ zs.Sublist (cs.take i) ∧ H' D = some (.lst (zs.map fun c => V.str (sg c))) ∧ Drw H' d (b + 6 - i) ∧ Kp d H H', ⟨_, [], rfl, Nat.zero_le _, List.nil_sublist _, upd_same, hD.upd nD, Same.kp (same_upd nD)⟩, fun i m H' hW => ?_⟩
    obtain ⟨zs, rfl, hi, hsub, h4, w4, k4⟩ := hW
    by_cases hic : i < cs.length
    · refine .inr ⟨hic, fun H' => ∃ zs : List Nat, zs.Sublist (cs.take (i + 1)) ∧ H' D = some (.lst (zs.map fun c => V.str (sg c))) ∧ Drw H' d (b + 6 - (i + 1)) ∧ Kp d H H', fun H'' ⟨zs', e1, e2, e3, e4⟩ => ⟨cs.length - (i + 1), by omega, zs', rfl, hic, e1, e2, e3, e4⟩, fun x H'' hy => ?_⟩
      obtain ⟨rfl, c', hc', rfl⟩ := hy
      have hc' : cs[i]? = some c' := by
        have : (tx cs).cps.toList[i]? = some c' := by rw [Array.getElem?_toList]; exact hc'
        exact this
      have lz := hsub.length_le
      rw [List.length_take] at lz
      refine ⟨rfl, _, rfl, d, b + 6 - (i + 1), 2, rfl, by decide, by decide, w4.less (by omega), fun H5 z z0 z1 w5 k5 => ⟨rfl, _, rfl, ite2 (fun e => ?_) (fun e => ?_)⟩⟩
      · refine ⟨_, rfl, _, k5 _ _ h4 nD1.1 nD1.2, ?_, zs ++ [c'], ?_, ?_, w5.mut nD1.1 nD2 nD1.2, Kp.upd (k4.trans k5) nD⟩
        · rw [List.length_map]
          exact Nat.lt_of_le_of_lt (show zs.length ≤ 6 by omega) (by decide)
        · rw [take_one cs i c' hc']
          exact hsub.append (List.Sublist.refl _)
        · rw [upd_same, List.map_append]
          rfl
      · exact ⟨zs, hsub.trans (by rw [take_one cs i c' hc']; exact List.sublist_append_left _ _), k5 _ _ h4 nD1.1 nD1.2, w5, k4.trans k5⟩
    have ei : i = cs.length := by omega
    subst ei
    rw [List.take_length] at hsub
    refine .inl ⟨Nat.le_refl _, ?_⟩
    have lz := hsub.length_le
    have eL : zs.map (fun c => V.str (sg c)) = (zs.map sg).map V.str := by
      rw [List.map_map]
      rfl
    rw [eL] at h4
    refine ⟨"", D, zs.map sg, rfl, rfl, .inl (.inl (.inl h4)), ?_, ?_⟩
    · rw [List.map_map]
      have : (zs.map sg).length * Str.length "" = 0 := rfl
      rw [sum_one, List.length_map]
      show zs.length + zs.length * 0 ≤ 16777216
      omega
    rw [join_sg]
    have hzc : ∀ x ∈ zs, x ∈ cs := fun x hx => hsub.subset hx
    have ndz : zs.Nodup := (nodup_of hL.rise).sublist hsub
    refine ⟨_, rfl, W, rfl, ⟨_, Kp.tup k4 hD tW⟩, for_it (walk_tup (K := K) (a := W) (xs := wvs wl)) (fun i σ H' => ∃ (x7 x8 : Option V), σ = [some (.ref d.dr), some (.str (tx cs)), some (.ref W), some (.ref a), some (.ref c), none, some (.str (tx zs)), x7, x8] ∧ Drw H' d b ∧ Kp d H H') ⟨none, none, rfl, w4.less (by omega), k4⟩ (fun i σ H' _ ⟨_, _, _, _, kk⟩ => Kp.tup kk hD tW) ?_ ?_⟩
    · rintro i v σ H2 _ hi ⟨x7, x8, rfl, w2, k2⟩ ⟨rfl, hx⟩
      obtain ⟨bs, hbs, rfl⟩ := wvs_get hx
      have lb := hw bs (List.mem_of_getElem? hbs)
      have tA2 := Kp.tup k2 hD tA
      have tC2 := Kp.tup k2 hD tC
      refine ⟨_, rfl, a, _, 0, .str (tx c1), rfl, rfl, tA2, rfl, _, rfl, c, _, 0, .str (tx c2), rfl, rfl, tC2, rfl, _, rfl, _, rfl, _, rfl, tx zs, tx cs, rfl, rfl, Nat.le_trans (show zs.length + cs.length ≤ 12 by omega) (by decide), ?_⟩
      rw [tx_app]
      obtain ⟨n, hn, en⟩ : ∃ n : Nat, (if (zs.length : Int) > 1 then (zs.length : Int) else 1) = n ∧ (zs ++ cs).take n = if zs = [] then cs.take 1 else zs := by
        cases hzs : zs with
        | nil => exact ⟨1, by rfl, by rw [if_pos rfl]; rfl⟩
        | cons x r =>
          refine ⟨(x :: r).length, ?_, ?_⟩
          · split
            · rfl
            · rename_i g
              have : ((x :: r).length : Int) = 1 := by have : (x :: r).length = r.length + 1 := rfl; omega
              exact this.symm
          · rw [if_neg (by simp), List.take_left']
            rfl
      have szc : (tx (zs ++ cs)).length ≤ sizeLine := by
        show (zs ++ cs).length ≤ sizeLine
        rw [List.length_append]
        exact Nat.le_trans (show zs.length + cs.length ≤ 12 by omega) (by decide)
      refine ⟨_, rfl, tx zs, rfl, Nat.le_trans (show zs.length ≤ 6 by omega) (by decide), 1, (zs.length : Int), rfl, (n : Int), congrArg V.int hn, tx (zs ++ cs), rfl, szc, ?_⟩
      rw [show cutS (tx (zs ++ cs)) none (some (n : Int)) = tx ((zs ++ cs).take n) from cutS_take _ _ (by rw [List.length_append]; have := hL.pos; split at hn <;> omega), en]
      refine ⟨by show 4 ≤ sizeLine; decide, fun R nR => ?_⟩
      have parts : ∀ (j : Nat) (v : V), [V.str (tx c1), .str (tx c2), .str (tx cs), .str (tx (if zs = [] then cs.take 1 else zs))][j]? = some v → ∃ us : List Nat, v = .str (tx us) ∧ us.Nodup ∧ (∀ x ∈ us, x ∈ cs) ∧ us.length ≤ 6 := fun j v hv => by
        match j, hv with
        | 0, hv => cases hv; exact ⟨c1, rfl, nd1, m1, l1⟩
        | 1, hv => cases hv; exact ⟨c2, rfl, nd2, m2, l2⟩
        | 2, hv => cases hv; exact ⟨cs, rfl, nodup_of hL.rise, fun x h => h, l6⟩
        | 3, hv =>
          cases hv
          refine ⟨_, rfl, ?_, ?_, ?_⟩
          · split
            · exact (nodup_of hL.rise).sublist (List.take_sublist _ _)
            · exact ndz
          · split
            · exact fun x hx => List.mem_of_mem_take hx
            · exact hzc
          · split
            · rw [List.length_take]; omega
            · omega
        | j + 4, hv => exact nomatch hv
      have sR := same_upd (o := .lst [.str (tx c1), .str (tx c2), .str (tx cs), .str (tx (if zs = [] then cs.take 1 else zs))]) nR
      have w3 := w2.same sR
      have nR1 := w2.no nR
      refine ⟨R, rfl, ⟨_, .inl (.inl upd_same)⟩, for_list (K := K) (a := R) (xs := [.str (tx c1), .str (tx c2), .str (tx cs), .str (tx (if zs = [] then cs.take 1 else zs))]) (fun j σ H' => ∃ (x8 : Option V), σ = [some (.ref d.dr), some (.str (tx cs)), some (.ref W), some (.ref a), some (.ref c), none, some (.str (tx zs)), some (.str (wtx bs)), x8] ∧ Same (tgt sR) H') ⟨_, rfl, Same.refl _⟩ (fun j σ H' _ ⟨_, _, kk⟩ => .inl (.inl (kk _ _ upd_same))) ?_ ?_⟩
      · rintro j v σ H4 hv ⟨x8', rfl, s4⟩
        obtain ⟨us, rfl, nu, mu, lu⟩ := parts j v hv
        refine ⟨rfl, _, rfl, tx us, rfl, Nat.le_trans (show us.length ≤ 6 by omega) (by decide), fun ys p hperm hsort np => ?_⟩
        obtain ⟨ps, rfl, hp⟩ := perm_sg hperm
        have lp : ps.length = us.length := hp.length_eq
        have s5 := same_upd (o := .lst ((ps.map sg).map V.str)) np
        refine ⟨"", p, ps.map sg, rfl, rfl, .inl (.inl (.inl upd_same)), ?_, ?_⟩
        · rw [List.map_map]
          have : (ps.map sg).length * Str.length "" = 0 := rfl
          rw [sum_one, List.length_map]
          show ps.length + ps.length * 0 ≤ 16777216
          omega
        rw [join_sg]
        have rp := rise_of2 (hp.symm.nodup nu) hsort
        have mp : ∀ x ∈ ps, x ∈ cs := fun x hx => mu x (hp.mem_iff.mp hx)
        refine ⟨_, rfl, _, rfl, _, rfl, cs, ps, bs, rfl, lb.symm, by omega, by omega, fun H6 s6 => ?_⟩
        refine ⟨_, rfl, _, rfl, _, rfl, cs, ps, bs, rfl, lb.symm, by omega, by omega, mp, ?_⟩
        rw [part_same hL.rise rp mp]
        refine ⟨rfl, _, rfl, iteE (by simp) ?_⟩
        exact ⟨some (.str (tx ps)), rfl, s4.trans (s5.trans s6)⟩
      · rintro σ H4 ⟨x8', rfl, s4⟩
        exact ⟨_, _, rfl, w3.same s4, k2.trans (Same.kp (sR.trans s4))⟩
    · rintro σ H2 ⟨x7, x8, rfl, w2, k2⟩
      exact q _ w2 k2
end
end B

namespace B
open PySem PySem.Spec PyProof.Rows L2

def sp_l_house (K : PySem.W.Frag) : Sp := fun vs H Q _ => ∃ (d : Dr) (n b : Nat), vs = [.ref d.dr, .int n] ∧ 1 ≤ n ∧ n ≤ 6 ∧ Drw H d (b + 130) ∧ ∀ (H' : Hp) (p : Addr) (cs : List Nat) (rs : List (List Wd)), HsAt K H' p cs rs → HsOk cs rs → Ls n cs → wor cs rs ≠ [] → rs.length ≤ 3 → (∀ r ∈ rs, r.length ≤ 14) → Drw H' d b → Kp d H H' → Q (.ref p) H'

section
variable {P : Program} {w : World} {K : PySem.W.Frag} {mg : Str → Option Value} {base : Heap}
theorem ok_l_house (T : Tx K mg) (U : Unl P base) : FnOk P w K mg base CX0 37 T.l_house.f T.l_house.fd ["_law_drawn", "_law_most"] (sp_l_house K) := by
  refine T.l_house.F.ok sc_l_house (fun vs H Q E h => ?_) (fun cdv A outer s H vs Q E hr h => ?_)
  · obtain ⟨d, n, b, rfl, hn1, hn2, hD, q⟩ := h
    rfl
  · obtain ⟨d, n, b, rfl, hn1, hn2, hD, q⟩ := h
    refine ⟨_, (pss_cons (ps_set (i := 2) sc_l_house.nd rfl (.inl rfl) (pe_call (ok_l_letters T U) (hr.mono (by decide)) (by rfl) T.l_letters.g T.l_letters.F.kp T.l_letters.b .nil pass0 (pa_cons (pv 0) (pa_cons (pv 1) pa_nil))))
      (pss_cons (ps_set (i := 3) sc_l_house.nd rfl (.inl rfl) (pe_tup pa_nil))
      (pss_cons (ps_for PassesOwn.never rfl (pi_range1 (by rfl) T.m_range (pa_cons (pe_call (ok_l_next T U) (hr.mono (by decide)) (by rfl) T.l_next.g T.l_next.F.kp T.l_next.b .nil pass0 (pa_cons (pv 0) (pa_cons pe_int pa_nil))) pa_nil)) (pg_name (i := 4) sc_l_house.nd rfl (.inl rfl))
      (pss_cons (ps_set (i := 5) sc_l_house.nd rfl (.inl rfl) (pe_call (ok_l_saying T U) (hr.mono (by decide)) (by rfl) T.l_saying.g T.l_saying.F.kp T.l_saying.b .nil pass0 (pa_cons (pv 0) (pa_cons (pv 2) (pa_cons pe_int pa_nil)))))
      (pss_one (ps_if (pt_cmpR (op_neD hr.units) (pe_call (ok_l_worlds T U) (hr.mono (by decide)) (by rfl) T.l_worlds.g T.l_worlds.F.kp T.l_worlds.b .nil pass0 (pa_cons (pe_tup (pa_cons (pv 2) (pa_cons (pe_op op_catS (pv 3) (pe_tup (pa_cons (pv 5) pa_nil))) pa_nil))) pa_nil)) (pe_tup pa_nil) (nomark _)) (pss_one (ps_set (i := 3) sc_l_house.nd rfl (.inl rfl) (pe_op op_catS (pv 3) (pe_tup (pa_cons (pv 5) pa_nil))))) pss_nil))))
      (pss_one (ps_ret (pe_tup (pa_cons (pv 2) (pa_cons (pv 3) pa_nil)))))))), ?_⟩
    refine ⟨_, rfl, _, rfl, d, n, b + 100, rfl, hn1, by omega, hD, fun H1 cs hL w1 k1 => ?_⟩
    have c6 : cs.length ≤ 6 := Nat.le_trans hL.most hn2
    have sm : ∀ c ∈ cs, c < 123 := fun c hc => (hL.small c hc).2
    refine ⟨by decide, fun R0 n0 => ?_⟩
    have s1 := same_upd (o := .tup []) n0
    refine ⟨_, rfl, d, b + 99, 4, rfl, by decide, by decide, w1.upd n0, fun H2 r r0 r1 w2 k2 => ?_⟩
    have tR0 := Kp.tup k2 (w1.upd n0) (sqt_upd (K := K) (H := H1) (p := R0) (xs := []))
    have ew0 : wor cs [] ≠ [] := by
      have e : wor cs [] = allW cs.length := List.filter_eq_self.mpr fun _ _ => rfl
      rw [e]
      intro z
      have := congrArg List.length z
      rw [allW_length] at this
      exact absurd this (Nat.ne_of_gt (Nat.pow_pos (by decide)))
    refine ⟨r, rfl, by omega, by omega, for_range (lo := 0) (n := r.toNat) (fun i σ H' => ∃ (x4 x5 : Option V) (ra : Addr) (rvs : List V) (rs : List (List Wd)), σ = [some (.ref d.dr), some (.int n), some (.str (tx cs)), some (.ref ra), x4, x5] ∧ SqT K H' ra rvs ∧ Rws K H' rvs rs ∧ (∀ x ∈ rs, Sy cs x ∧ x.length ≤ 14) ∧ rs.length ≤ i ∧ wor cs rs ≠ [] ∧ Drw H' d (b + 99 - 30 * i) ∧ Kp d H H') ⟨none, none, R0, [], [], rfl, tR0, trivial, (fun x hx => nomatch hx), Nat.le_refl _, ew0, w2, (k1.trans (Same.kp s1)).trans k2⟩ ?_ ?_⟩
    · rintro i σ H3 hi ⟨x4, x5, ra, rvs, rs, rfl, hRa, hW, hY, hl, hne, w3, k3⟩
      have hi3 : i < 3 := by omega
      refine ⟨_, rfl, _, rfl, d, b + 99 - 30 * (i + 1), 4, cs, rfl, hL.pos, by omega, by decide, by decide, w3.less (by omega), fun H4 p ws t4 hYw hz w4 k4 => ?_⟩
      have hRa4 := Kp.tup k4 w3 hRa
      have hW4 := hW.kp w3 k4
      have rl : rvs.length = rs.length := hW.len
      refine ⟨_, rfl, _, rfl, _, rfl, by show 1 ≤ sizeLine; decide, fun P nP => ?_⟩
      have sP := same_upd (o := .tup [.ref p]) nP
      refine ⟨ra, P, rvs, [V.ref p], rfl, rfl, Same.tup sP hRa4, sqt_upd, by show rvs.length + 1 ≤ 100000; omega, fun p2 H5 t5 s5 => ?_⟩
      refine ⟨by show 2 ≤ sizeLine; decide, fun hs nhs => ?_⟩
      have s6 := same_upd (o := .tup [.str (tx cs), .ref p2]) nhs
      have S6 := (sP.trans s5).trans s6
      have hY' : ∀ x ∈ rs ++ [ws], Sy cs x ∧ x.length ≤ 14 := by
        intro x hx
        rcases List.mem_append.mp hx with h | h
        · exact hY x h
        · rw [List.mem_singleton] at h
          rw [h]
          exact ⟨hYw, by omega⟩
      have W6 : Rws K _ (rvs ++ [V.ref p]) (rs ++ [ws]) := Rws.app (hW4.same S6) (Rws.one (Same.tup S6 t4))
      refine ⟨hs, p2, cs, rvs ++ [V.ref p], rs ++ [ws], rfl, sqt_upd, Same.tup s6 t5, W6, (fun x hx => ⟨(hY' x hx).1, Nat.le_trans (hY' x hx).2 (by decide)⟩), by rw [List.length_append]; show rs.length + 1 ≤ 1000; omega, c6, sm, fun H7 pw tw s7 => ?_⟩
      refine ⟨by decide, fun e ne => ?_⟩
      have s8 := same_upd (o := .tup []) ne
      refine ⟨_, _, wsdp (Same.tup s8 tw), .tup sqt_upd .nil, wsdat_shaped _, rfl, _, rfl, ?_⟩
      have S8 := (S6.trans s7).trans s8
      have K8 := (k3.trans k4).trans (Same.kp S8)
      refine ite2 (fun ec => ?_) (fun ec => ?_)
      · have hne2 : wor cs (rs ++ [ws]) ≠ [] := by
          intro z
          rw [ws_empty, z] at ec
          exact absurd ec (by decide)
        refine ⟨_, rfl, _, rfl, by show 1 ≤ sizeLine; decide, fun P2 nP2 => ?_⟩
        have s9 := same_upd (o := .tup [.ref p]) nP2
        refine ⟨ra, P2, rvs, [V.ref p], rfl, rfl, Same.tup (S8.trans s9) hRa4, sqt_upd, by show rvs.length + 1 ≤ 100000; omega, fun p3 H10 t10 s10 => ?_⟩
        have S10 := (S8.trans s9).trans s10
        exact ⟨_, _, p3, _, _, rfl, t10, Rws.app (hW4.same S10) (Rws.one (Same.tup S10 t4)), hY', by rw [List.length_append]; show rs.length + 1 ≤ i + 1; omega, hne2, w4.same S10, (k3.trans k4).trans (Same.kp S10)⟩
      · exact ⟨_, _, ra, rvs, rs, rfl, Same.tup S8 hRa4, hW4.same S8, hY, by omega, hne, w4.same S8, K8⟩
    · rintro σ H3 ⟨x4, x5, ra, rvs, rs, rfl, hRa, hW, hY, hl, hne, w3, k3⟩
      have hi3 : r.toNat ≤ 3 := by omega
      refine ⟨_, rfl, _, rfl, by show 2 ≤ sizeLine; decide, fun p np => ?_⟩
      have s4 := same_upd (o := .tup [.str (tx cs), .ref ra]) np
      exact q _ p cs rs ⟨ra, rvs, sqt_upd, Same.tup s4 hRa, hW.same s4⟩ ⟨c6, sm, fun x hx => ⟨(hY x hx).1, Nat.le_trans (hY x hx).2 (by decide)⟩, by omega⟩ hL hne (by omega) (fun x hx => (hY x hx).2) ((w3.less (by omega)).upd np) (k3.trans (Same.kp s4))
end
end B

namespace B
open PySem PySem.Spec PyProof.Rows L2

def sp_l_other (K : PySem.W.Frag) : Sp := fun vs H Q _ => ∃ (d : Dr) (b : Nat) (h : Addr) (cs : List Nat) (rs : List (List Wd)), vs = [.ref d.dr, .ref h] ∧ HsAt K H h cs rs ∧ Ls 6 cs ∧ Drw H d (b + 140) ∧ ∀ (H' : Hp) (p : Addr) (cs' : List Nat) (rs' : List (List Wd)), HsAt K H' p cs' rs' → HsOk cs' rs' → Ls 4 cs' → wor cs' rs' ≠ [] → rs'.length ≤ 3 → (∀ r ∈ rs', r.length ≤ 14) → Drw H' d b → Kp d H H' → Q (.ref p) H'

section
variable {P : Program} {w : World} {K : PySem.W.Frag} {mg : Str → Option Value} {base : Heap}
theorem ok_l_other (T : Tx K mg) (U : Unl P base) : FnOk P w K mg base CX0 38 T.l_other.f T.l_other.fd ["_law_drawn", "_law_house_here"] (sp_l_other K) := by
  refine T.l_other.F.ok sc_l_other (fun vs H Q E h => ?_) (fun cdv A outer s H vs Q E hr h => ?_)
  · obtain ⟨d, b, h, cs, rs, rfl, hH, hL, hD, q⟩ := h
    rfl
  · obtain ⟨d, b, h, cs, rs, rfl, hH, hL, hD, q⟩ := h
    refine ⟨_, (pss_cons (ps_if (pt_cmpR op_eq (pe_call (ok_l_next T U) (hr.mono (by decide)) (by rfl) T.l_next.g T.l_next.F.kp T.l_next.b .nil pass0 (pa_cons (pv 0) (pa_cons pe_int pa_nil))) pe_int (nomark _)) (pss_one (ps_ret (pe_call (ok_l_house T U) (hr.mono (by decide)) (by rfl) T.l_house.g T.l_house.F.kp T.l_house.b .nil pass0 (pa_cons (pv 0) (pa_cons pe_int pa_nil))))) pss_nil)
      (pss_cons (ps_setLc (i := 3) (own := [("_law_letter", 2)]) (g := gName 2) rfl sc_l_other.nd rfl rfl (sw_true rfl rfl rfl (by decide +kernel)) (pi_str pe_str) (blkOk_by (own := [("_law_letter", 2)]) (N := N_l_other) (sc := defScope s_l_other) (by decide +kernel)) (fun _ _ _ _ _ => (pg_name (i := 2) sc_l_other.nd rfl (.inl rfl))) (fun _ _ _ _ _ => (pts_one (pt_cmpR op_notIn_sign (pv 2) (pe_ix (r := rIxT K) ix_tup (pv 1) pe_int (fun _ _ => rfl)) (by rfl)))) (fun _ _ _ _ _ => (pv 2)))
      (pss_cons (ps_set (i := 4) sc_l_other.nd rfl (.inl rfl) pe_str)
      (pss_cons (ps_for PassesOwn.never rfl (pi_range1 (by rfl) T.m_range (pa_cons (pe_op op_add pe_int (pe_call (ok_l_next T U) (hr.mono (by decide)) (by rfl) T.l_next.g T.l_next.F.kp T.l_next.b .nil pass0 (pa_cons (pv 0) (pa_cons pe_int pa_nil)))) pa_nil)) (pg_name (i := 5) sc_l_other.nd rfl (.inl rfl))
      (pss_one (ps_set (i := 4) sc_l_other.nd rfl (.inl rfl) (pe_op op_add_str (pv 4) (pe_bm PySem.F.plainAttrs_list PySem.F.slot_list_pop PySem.F.type_list_pop mt_popAt (pv 3) (pa_cons (pe_call (ok_l_next T U) (hr.mono (by decide)) (by rfl) T.l_next.g T.l_next.F.kp T.l_next.b .nil pass0 (pa_cons (pv 0) (pa_cons (pe_callB call_len_seq (by rfl) T.m_len (by decide +kernel) (pa_cons (pv 3) pa_nil)) pa_nil))) pa_nil))))))
      (pss_cons (ps_set (i := 4) sc_l_other.nd rfl (.inl rfl) (pe_bm PySem.F.plainAttrs_str PySem.F.slot_str_join PySem.F.type_str_join mt_join pe_str (pa_cons (pe_callB (cr_sortedX rfl) (by rfl) T.m_sorted (by decide +kernel) (pa_cons (pv 4) pa_nil)) pa_nil)))
      (pss_cons (ps_set (i := 6) sc_l_other.nd rfl (.inl rfl) (pe_tup pa_nil))
      (pss_cons (ps_for PassesOwn.never rfl (pi_range1 (by rfl) T.m_range (pa_cons (pe_call (ok_l_next T U) (hr.mono (by decide)) (by rfl) T.l_next.g T.l_next.F.kp T.l_next.b .nil pass0 (pa_cons (pv 0) (pa_cons pe_int pa_nil))) pa_nil)) (pg_name (i := 5) sc_l_other.nd rfl (.inl rfl))
      (pss_cons (ps_set (i := 7) sc_l_other.nd rfl (.inl rfl) (pe_call (ok_l_saying T U) (hr.mono (by decide)) (by rfl) T.l_saying.g T.l_saying.F.kp T.l_saying.b .nil pass0 (pa_cons (pv 0) (pa_cons (pv 4) (pa_cons pe_int pa_nil)))))
      (pss_one (ps_if (pt_cmpR (op_neD hr.units) (pe_call (ok_l_worlds T U) (hr.mono (by decide)) (by rfl) T.l_worlds.g T.l_worlds.F.kp T.l_worlds.b .nil pass0 (pa_cons (pe_tup (pa_cons (pv 4) (pa_cons (pe_op op_catS (pv 6) (pe_tup (pa_cons (pv 7) pa_nil))) pa_nil))) pa_nil)) (pe_tup pa_nil) (nomark _)) (pss_one (ps_set (i := 6) sc_l_other.nd rfl (.inl rfl) (pe_op op_catS (pv 6) (pe_tup (pa_cons (pv 7) pa_nil))))) pss_nil))))
      (pss_one (ps_ret (pe_tup (pa_cons (pv 4) (pa_cons (pv 6) pa_nil)))))))))))), ?_⟩
    obtain ⟨ra, rvs, tA, tR, fR⟩ := id hH
    refine ⟨_, rfl, d, b + 139, 2, rfl, by decide, by decide, hD, fun H1 r r0 r1 w1 k1 => ⟨rfl, _, rfl, ?_⟩⟩
    have tA1 := Kp.tup k1 hD tA
    refine ite2 (fun e => ?_) (fun e => ?_)
    · exact ⟨_, rfl, d, 4, b + 9, rfl, by decide, by decide, w1, fun H2 p cs' rs' hH' hO' hL' hne h3 h14 w2 k2 => q _ p cs' rs' hH' hO' hL' hne h3 h14 (w2.less (by omega)) (k1.trans k2)⟩
    have alp : (Str.ofString "abcdefghijklmnopqrstuvwxyz").cps.toList = List.range' 97 26 := by decide +kernel
    have alz : (Str.ofString "abcdefghijklmnopqrstuvwxyz").cps.size = 26 := by decide +kernel
    have l6 := hL.most
    refine ⟨_, rfl, fun D nD => ?_⟩
    have nD1 := w1.no nD
    have nD2 := w1.nc nD
    refine lcp_it (K := K) (walk_str (z := Str.ofString "abcdefghijklmnopqrstuvwxyz")) (fun i => if 97 + i ∈ cs then none else some (97 + i)) (fun _ v (c : Nat) => v = .str (sg c)) (fun _ _ _ _ _ h => h) nD (by rw [alz]; decide) (fun _ _ => trivial) ?_ ?_
    · rintro i v H2 _ hi s2 ⟨rfl, x, hx, rfl⟩ Y N hY hN
      rw [alz] at hi
      have gc : (List.range' 97 26)[i]? = some x := by rw [← alp, Array.getElem?_toList]; exact hx
      rw [List.getElem?_range' hi] at gc
      have ex : 97 + i = x := by have := Option.some.inj gc; omega
      refine ⟨rfl, _, rfl, _, rfl, h, _, 0, .str (tx cs), rfl, rfl, Same.tup s2 tA1, rfl, x, tx cs, rfl, rfl, _, rfl, ?_⟩
      rw [tx_list]
      by_cases e : x ∈ cs
      · rw [decide_eq_true e]
        exact iteF (hN _ (Same.refl _) (by rw [ex]; exact if_pos e))
      · rw [decide_eq_false e]
        exact iteT ⟨_, rfl, hY _ _ x (Same.refl _) (by rw [ex]; exact if_neg e) rfl⟩
    intro H2 ys h2 f2 s2
    have e2 := f2_eq f2
    rw [alz, gone_fm] at e2
    rw [e2] at h2
    have w2 := w1.same s2
    have lg : 20 ≤ (gone cs).length ∧ (gone cs).length ≤ 26 := by
      have := gone_len (cs := cs) l6
      have z := List.length_filter_le (fun c => !decide (c ∈ cs)) (List.range' 97 26)
      rw [List.length_range'] at z
      exact ⟨this, z⟩
    refine ⟨_, rfl, d, b + 138, 4, rfl, by decide, by decide, w2.less (by omega), fun H3 y y0 y1 w3 k3 => ?_⟩
    have w0 := hD
    have K3 : Kp d H H3 := k1.trans ((Same.kp s2).trans k3)
    have h3 := k3 _ _ h2 nD1.1 nD1.2
    refine ⟨_, _, rfl, rfl, 1 + y, rfl, by omega, by omega, for_range (lo := 0) (n := (1 + y).toNat) (fun i σ H' => ∃ (x2 x5 : Option V) (lf fd : List Nat), σ = [some (.ref d.dr), some (.ref h), x2, some (.ref D), some (.str (tx fd)), x5, none, none] ∧ H' D = some (.lst (lf.map fun c => V.str (sg c))) ∧ (fd ++ lf).Perm (gone cs) ∧ fd.length = i ∧ Drw H' d (b + 138 - i) ∧ Kp d H1 H') ⟨none, none, gone cs, [], rfl, by rw [h3], List.Perm.refl _, rfl, w3, (Same.kp s2).trans k3⟩ ?_ ?_⟩
    · rintro i σ H4 hi ⟨x2, x5, lf, fd, rfl, h1, hp, hlen, w4, k4⟩
      have hll : fd.length + lf.length = (gone cs).length := by
        have := hp.length_eq
        rw [List.length_append] at this
        exact this
      have llen : (lf.map fun c => V.str (sg c)).length = lf.length := List.length_map ..
      refine ⟨_, rfl, _, rfl, .inl ⟨rfl, _, .inl (.inl h1)⟩, _, rfl, _, rfl, D, _, rfl, .inl (.inl (.inl h1)), d, b + 138 - (i + 1), _, rfl, by rw [llen]; omega, by rw [llen]; omega, w4.less (by omega), fun H5 z z0 z1 w5 k5 => ?_⟩
      rw [llen] at z1
      have h1' := k5 _ _ h1 nD1.1 nD1.2
      have hy : z.toNat < lf.length := by omega
      refine ⟨D, _, z, z.toNat, V.str (sg lf[z.toNat]), rfl, rfl, h1', by omega, by omega, ?_, ?_, ?_⟩
      · rw [llen]
        exact PySem.seqIndex_of z0 z1
      · rw [List.getElem?_map, List.getElem?_eq_getElem hy]
        rfl
      refine ⟨tx fd, sg lf[z.toNat], rfl, rfl, Nat.le_trans (show fd.length + 1 ≤ 27 by omega) (by decide), ?_⟩
      refine ⟨x2, some (.int (0 + (i : Int))), lf.eraseIdx z.toNat, fd ++ [lf[z.toNat]], ?_, ?_, ?_, ?_, ?_, ?_⟩
      · rw [show sg lf[z.toNat] = tx [lf[z.toNat]] from rfl, tx_app]
        rfl
      · rw [upd_same, eraseIdx_map]
      · refine List.Perm.trans ?_ hp
        rw [List.append_assoc]
        exact List.Perm.append_left _ (perm_erase (List.getElem?_eq_getElem hy))
      · rw [List.length_append, hlen]
        rfl
      · exact (w5.mut nD1.1 nD2 nD1.2).less (by omega)
      · intro c o e a1 a2
        rw [upd_ne (ne_of_none e nD)]
        exact k5 _ _ (k4 _ _ e a1 a2) a1 a2
    rintro σ H4 ⟨x2, x5, lf, fd, rfl, h4, hp, hlen, w4, k4⟩
    have ndg : (gone cs).Nodup := (by decide : (List.range' 97 26).Nodup).sublist List.filter_sublist
    have ndf : fd.Nodup := (List.nodup_append.mp (hp.symm.nodup ndg)).1
    have hr' : ∀ c ∈ fd, 97 ≤ c ∧ c < 123 := fun c hc => by
      have := List.mem_range'_1.mp (List.mem_filter.mp (hp.mem_iff.mp (List.mem_append_left lf hc))).1
      omega
    refine ⟨rfl, _, rfl, tx fd, rfl, Nat.le_trans (show fd.length ≤ 4 by omega) (by decide), fun ys p hperm hsort np => ?_⟩
    obtain ⟨zs, rfl, hz⟩ := perm_sg hperm
    have lz : zs.length = fd.length := hz.length_eq
    have s5 := same_upd (o := .lst ((zs.map sg).map V.str)) np
    refine ⟨"", p, zs.map sg, rfl, rfl, .inl (.inl (.inl upd_same)), ?_, ?_⟩
    · rw [List.map_map]
      have : (zs.map sg).length * Str.length "" = 0 := rfl
      rw [sum_one, List.length_map]
      show zs.length + zs.length * 0 ≤ 16777216
      omega
    rw [join_sg]
    have hLz : Ls 4 zs := ⟨by omega, by omega, rise_of2 (hz.symm.nodup ndf) hsort, fun c hc => hr' c (hz.mem_iff.mp hc)⟩
    have w5 := w4.same s5
    have K5 : Kp d H (tgt s5) := k1.trans (k4.trans (Same.kp s5))
    have c6 : zs.length ≤ 6 := by have := hLz.most; omega
    have sm : ∀ c ∈ zs, c < 123 := fun c hc => (hLz.small c hc).2
    refine ⟨by decide, fun R0 n0 => ?_⟩
    have s6 := same_upd (o := .tup []) n0
    refine ⟨_, rfl, d, b + 130, 4, rfl, by decide, by decide, (w5.upd n0).less (by omega), fun H7 r r0 r1 w7 k7 => ?_⟩
    have tR0 := Kp.tup k7 (w5.upd n0) (sqt_upd (K := K) (H := tgt s5) (p := R0) (xs := []))
    have ew0 : wor zs [] ≠ [] := by
      have e : wor zs [] = allW zs.length := List.filter_eq_self.mpr fun _ _ => rfl
      rw [e]
      intro z
      have := congrArg List.length z
      rw [allW_length] at this
      exact absurd this (Nat.ne_of_gt (Nat.pow_pos (by decide)))
    refine ⟨r, rfl, by omega, by omega, for_range (lo := 0) (n := r.toNat) (fun i σ H' => ∃ (x5 x7 : Option V) (ra : Addr) (rvs : List V) (rs : List (List Wd)), σ = [some (.ref d.dr), some (.ref h), x2, some (.ref D), some (.str (tx zs)), x5, some (.ref ra), x7] ∧ SqT K H' ra rvs ∧ Rws K H' rvs rs ∧ (∀ x ∈ rs, Sy zs x ∧ x.length ≤ 14) ∧ rs.length ≤ i ∧ wor zs rs ≠ [] ∧ Drw H' d (b + 130 - 30 * i) ∧ Kp d H H') ⟨_, none, R0, [], [], rfl, tR0, trivial, (fun x hx => nomatch hx), Nat.le_refl _, ew0, w7, (K5.trans (Same.kp s6)).trans k7⟩ ?_ ?_⟩
    · rintro i σ H3 hi ⟨x4, x5, ra, rvs, rs, rfl, hRa, hW, hY, hl, hne, w3, k3⟩
      have hi3 : i < 3 := by omega
      refine ⟨_, rfl, _, rfl, d, b + 130 - 30 * (i + 1), 4, zs, rfl, hLz.pos, by omega, by decide, by decide, w3.less (by omega), fun H4 p ws t4 hYw hz w4 k4 => ?_⟩
      have hRa4 := Kp.tup k4 w3 hRa
      have hW4 := hW.kp w3 k4
      have rl : rvs.length = rs.length := hW.len
      refine ⟨_, rfl, _, rfl, _, rfl, by show 1 ≤ sizeLine; decide, fun P nP => ?_⟩
      have sP := same_upd (o := .tup [.ref p]) nP
      refine ⟨ra, P, rvs, [V.ref p], rfl, rfl, Same.tup sP hRa4, sqt_upd, by show rvs.length + 1 ≤ 100000; omega, fun p2 H5 t5 s5 => ?_⟩
      refine ⟨by show 2 ≤ sizeLine; decide, fun hs nhs => ?_⟩
      have s6 := same_upd (o := .tup [.str (tx zs), .ref p2]) nhs
      have S6 := (sP.trans s5).trans s6
      have hY' : ∀ x ∈ rs ++ [ws], Sy zs x ∧ x.length ≤ 14 := by
        intro x hx
        rcases List.mem_append.mp hx with h | h
        · exact hY x h
        · rw [List.mem_singleton] at h
          rw [h]
          exact ⟨hYw, by omega⟩
      have W6 : Rws K _ (rvs ++ [V.ref p]) (rs ++ [ws]) := Rws.app (hW4.same S6) (Rws.one (Same.tup S6 t4))
      refine ⟨hs, p2, zs, rvs ++ [V.ref p], rs ++ [ws], rfl, sqt_upd, Same.tup s6 t5, W6, (fun x hx => ⟨(hY' x hx).1, Nat.le_trans (hY' x hx).2 (by decide)⟩), by rw [List.length_append]; show rs.length + 1 ≤ 1000; omega, c6, sm, fun H7 pw tw s7 => ?_⟩
      refine ⟨by decide, fun e ne => ?_⟩
      have s8 := same_upd (o := .tup []) ne
      refine ⟨_, _, wsdp (Same.tup s8 tw), .tup sqt_upd .nil, wsdat_shaped _, rfl, _, rfl, ?_⟩
      have S8 := (S6.trans s7).trans s8
      have K8 := (k3.trans k4).trans (Same.kp S8)
      refine ite2 (fun ec => ?_) (fun ec => ?_)
      · have hne2 : wor zs (rs ++ [ws]) ≠ [] := by
          intro z
          rw [ws_empty, z] at ec
          exact absurd ec (by decide)
        refine ⟨_, rfl, _, rfl, by show 1 ≤ sizeLine; decide, fun P2 nP2 => ?_⟩
        have s9 := same_upd (o := .tup [.ref p]) nP2
        refine ⟨ra, P2, rvs, [V.ref p], rfl, rfl, Same.tup (S8.trans s9) hRa4, sqt_upd, by show rvs.length + 1 ≤ 100000; omega, fun p3 H10 t10 s10 => ?_⟩
        have S10 := (S8.trans s9).trans s10
        exact ⟨_, _, p3, _, _, rfl, t10, Rws.app (hW4.same S10) (Rws.one (Same.tup S10 t4)), hY', by rw [List.length_append]; show rs.length + 1 ≤ i + 1; omega, hne2, w4.same S10, (k3.trans k4).trans (Same.kp S10)⟩
      · exact ⟨_, _, ra, rvs, rs, rfl, Same.tup S8 hRa4, hW4.same S8, hY, by omega, hne, w4.same S8, K8⟩
    · rintro σ H8 ⟨x4, x5, ra, rvs, rs, rfl, hRa, hW, hY, hl, hne, w8, k8⟩
      refine ⟨_, rfl, _, rfl, by show 2 ≤ sizeLine; decide, fun hh nh => ?_⟩
      have s9 := same_upd (o := .tup [.str (tx zs), .ref ra]) nh
      exact q _ hh zs rs ⟨ra, rvs, sqt_upd, Same.tup s9 hRa, hW.same s9⟩ ⟨c6, sm, fun r hr => ⟨(hY r hr).1, by have := (hY r hr).2; omega⟩, by omega⟩ hLz hne (by omega) (fun r hr => (hY r hr).2) ((w8.less (by omega)).same s9) (k8.trans (Same.kp s9))
end
end B

namespace B
open PySem PySem.Spec PyProof.Rows L2
theorem any_sym {cs cs' : List Nat} : cs.any (fun x => cs'.contains x) = cs'.any (fun x => cs.contains x) := by
  rw [Bool.eq_iff_iff, List.any_eq_true, List.any_eq_true]
  constructor <;> rintro ⟨x, h1, h2⟩ <;> exact ⟨x, List.contains_iff_mem.mp h2, List.contains_iff_mem.mpr h1⟩

def sp_law (K : PySem.W.Frag) : Sp := fun vs H Q _ => ∃ (a : Addr) (ns : List Int), vs = [.ref a] ∧ SqL K H a (ns.map V.int) ∧ ns.length ≤ 63 ∧ (∀ z ∈ ns, Builtin.Int.intBits z ≤ 1048576) ∧ ∀ H', Q (.bl true) H'

section
variable {P : Program} {w : World} {K : PySem.W.Frag} {mg : Str → Option Value} {base : Heap}
theorem ok_law (T : Tx K mg) (U : Unl P base) : FnOk P w K mg base CX0 39 T.law.f T.law.fd ["_law_script"] (sp_law K) := by
  refine T.law.F.ok sc_law (fun vs H Q E h => ?_) (fun cdv A outer s H vs Q E hr h => ?_)
  · obtain ⟨a, ns, rfl, hS, hlen, _, q⟩ := h
    rfl
  · obtain ⟨a, ns, rfl, hS, hlen, _, q⟩ := h
    refine ⟨_, (pss_cons (ps_set (i := 1) sc_law.nd rfl (.inl rfl) (pe_call (ok_l_draws T U) (hr.mono (by decide)) (by rfl) T.l_draws.g T.l_draws.F.kp T.l_draws.b .nil pass0 (pa_cons (pv 0) pa_nil)))
      (pss_cons (ps_for PassesOwn.never rfl (pi_range1 (by rfl) T.m_range (pa_cons pe_int pa_nil)) (pg_name (i := 2) sc_law.nd rfl (.inl rfl))
      (pss_cons (ps_set (i := 3) sc_law.nd rfl (.inl rfl) (pe_call (ok_l_full T U) (hr.mono (by decide)) (by rfl) T.l_full.g T.l_full.F.kp T.l_full.b .nil pass0 (pa_cons (pv 1) (pa_cons (pe_call (ok_l_house T U) (hr.mono (by decide)) (by rfl) T.l_house.g T.l_house.F.kp T.l_house.b .nil pass0 (pa_cons (pv 1) (pa_cons pe_int pa_nil))) pa_nil))))
      (pss_cons (ps_set (i := 4) sc_law.nd rfl (.inl rfl) (pe_call (ok_l_full T U) (hr.mono (by decide)) (by rfl) T.l_full.g T.l_full.F.kp T.l_full.b .nil pass0 (pa_cons (pv 1) (pa_cons (pe_call (ok_l_other T U) (hr.mono (by decide)) (by rfl) T.l_other.g T.l_other.F.kp T.l_other.b .nil pass0 (pa_cons (pv 1) (pa_cons (pv 3) pa_nil))) pa_nil))))
      (pss_cons (ps_set (i := 5) sc_law.nd rfl (.inl rfl) (pe_call (ok_l_due T U) (hr.mono (by decide)) (by rfl) T.l_due.g T.l_due.F.kp T.l_due.b .nil pass0 (pa_cons (pv 3) (pa_cons (pv 4) pa_nil))))
      (pss_cons (ps_set (i := 6) sc_law.nd rfl (.inl rfl) (pe_call (ok_l_told T U) (hr.mono (by decide)) (by rfl) T.l_told.g T.l_told.F.kp T.l_told.b .nil pass0 (pa_cons (pv 3) (pa_cons (pv 4) pa_nil))))
      (pss_cons (ps_if (PW.pt (pw_or (pt_cmpR (op_neD hr.units) (pv 6) (pv 5) (nomark _)) (pw_or (pt_cmpR (op_neD hr.units) (pe_call (ok_l_told T U) (hr.mono (by decide)) (by rfl) T.l_told.g T.l_told.F.kp T.l_told.b .nil pass0 (pa_cons (pv 4) (pa_cons (pv 3) pa_nil))) (pe_call (ok_l_due T U) (hr.mono (by decide)) (by rfl) T.l_due.g T.l_due.F.kp T.l_due.b .nil pass0 (pa_cons (pv 4) (pa_cons (pv 3) pa_nil))) (nomark _)) (pw_or1 (pt_cmpR (op_neD hr.units) (pe_call (ok_l_told T U) (hr.mono (by decide)) (by rfl) T.l_told.g T.l_told.F.kp T.l_told.b .nil pass0 (pa_cons (pv 3) (pa_cons (pv 4) pa_nil))) (pv 5) (nomark _)))))) (pss_one (ps_ret pe_bl)) pss_nil)
      (pss_one (ps_if (pt_not (pt_val (pe_callB call_isi (by rfl) T.m_isinstance (by decide +kernel) (pa_cons (pv 5) (pa_cons (pe_bltn (v := .ty "str") (u := .type "str") (by rfl) T.m_str (by decide +kernel) rfl) pa_nil))))) (pss_cons (ps_if (PW.pt (pw_or (pt_not (pt_val (pe_callB call_isi (by rfl) T.m_isinstance (by decide +kernel) (pa_cons (pv 6) (pa_cons (pe_bltn (v := .ty "tuple") (u := .type "tuple") (by rfl) T.m_tuple (by decide +kernel) rfl) pa_nil))))) (pw_or1 (pt_not (pt_val (pe_callB call_isi (by rfl) T.m_isinstance (by decide +kernel) (pa_cons (pe_ix ix_tup (pv 6) pe_int (fun _ _ => rfl)) (pa_cons (pe_bltn (v := .ty "tuple") (u := .type "tuple") (by rfl) T.m_tuple (by decide +kernel) rfl) pa_nil)))))))) (pss_one (ps_ret pe_bl)) pss_nil)
      (pss_one (ps_if (pt_not (pt_val (pe_call (ok_l_parts_right T U) (hr.mono (by decide)) (by rfl) T.l_parts_right.g T.l_parts_right.F.kp T.l_parts_right.b .nil pass0 (pa_cons (pv 1) (pa_cons (pe_ix ix_tup (pv 5) pe_int (fun _ _ => rfl)) (pa_cons (pe_call (ok_l_worlds T U) (hr.mono (by decide)) (by rfl) T.l_worlds.g T.l_worlds.F.kp T.l_worlds.b .nil pass0 (pa_cons (pv 5) pa_nil)) (pa_cons (pv 3) (pa_cons (pv 4) pa_nil)))))))) (pss_one (ps_ret pe_bl)) pss_nil))) pss_nil))))))))
      (pss_one (ps_ret pe_bl)))), ?_⟩
    refine ⟨_, rfl, a, ns, rfl, hS, hlen, fun H1 d w1 _ _ _ => ?_⟩
    refine ⟨2, rfl, by decide, by decide, for_range (lo := 0) (n := 2) (fun j σ H' => ∃ (z2 z3 z4 z5 z6 : Option V), σ = [some (.ref a), some (.ref d.dr), z2, z3, z4, z5, z6] ∧ Drw H' d (900000 - 9000 * j)) ⟨_, _, _, _, _, rfl, w1.less (by omega)⟩ ?_ (fun σ H' ⟨_, _, _, _, _, e, _⟩ => ?_)⟩
    · rintro j σ H2 hj ⟨z2, z3, z4, z5, z6, rfl, w2⟩
      obtain ⟨b, eb⟩ : ∃ b, 900000 - 9000 * (j + 1) = b := ⟨_, rfl⟩
      rw [eb]
      have w2 := w2.less (show b + 9000 ≤ 900000 - 9000 * j by omega)
      refine ⟨_, rfl, _, rfl, d, 4, b + 5000, rfl, by decide, by decide, w2.less (by omega), fun H3 h cs rs0 hH hO0 hLs hne0 r3 r14 w3 k3 => ?_⟩
      refine ⟨d, b + 4900, h, cs, rs0, rfl, hH, hO0, hne0, r3, r14, w3.less (by omega), fun H4 p1 rs hP1 hO hne r8 rl w4 k4 => ?_⟩
      have L1 : Ls 6 cs := ⟨hLs.pos, by have := hLs.most; omega, hLs.rise, hLs.small⟩
      refine ⟨_, rfl, _, rfl, _, rfl, d, b + 4000, p1, cs, rs, rfl, hP1, L1, w4.less (by omega), fun H5 h' cs' rs0' hH' hO0' hLs' hne0' r3' r14' w5 k5 => ?_⟩
      refine ⟨d, b + 3900, h', cs', rs0', rfl, hH', hO0', hne0', r3', r14', w5.less (by omega), fun H6 p2 rs' hP2 hO' hne' r8' rl' w6 k6 => ?_⟩
      have L2 : Ls 6 cs' := ⟨hLs'.pos, by have := hLs'.most; omega, hLs'.rise, hLs'.small⟩
      have P1 : HsAt K H6 p1 cs rs := (hP1.mono fun _ _ t => Kp.tup k5 w4 t).mono fun _ _ t => Kp.tup k6 w5 t
      have P2 := hP2
      have n1 : rs.length ≤ 100 := by omega
      have n2 : rs'.length ≤ 100 := by omega
      have isS : ∀ {H' : Hp} (x : Str), TyX K H' (.str x) (.type "str") := fun x => .base (.str x)
      have done : ∀ {H' : Hp}, Same H6 H' → Drw H' d b := fun s => (w6.same s).less (by omega)
      by_cases hA : cs.any (fun x => cs'.contains x) = true
      · have hA' : cs'.any (fun x => cs.contains x) = true := any_sym.symm.trans hA
        have no : cs.any (fun x => cs'.contains x) = false → False := fun e => by rw [hA] at e; cases e
        have no' : cs'.any (fun x => cs.contains x) = false → False := fun e => by rw [hA'] at e; cases e
        refine ⟨_, rfl, _, rfl, p1, p2, cs, cs', rs, rs', rfl, P1, P2, L1, L2, n1, n2, (fun _ H7 s7 => ?_), (fun e => (no e).elim), fun e => (no e).elim⟩
        refine ⟨_, rfl, _, rfl, p1, p2, cs, cs', rs, rs', rfl, P1.same s7, P2.same s7, L1, L2, n1, n2, (fun _ H8 s8 => ?_), (fun e => (no e).elim), fun e => (no e).elim⟩
        refine ⟨_, rfl, _, rfl, _, _, .str _, .str _, by decide +kernel, by decide +kernel, _, rfl, iteE (by decide +kernel) ?_⟩
        have S8 := s7.trans s8
        refine ⟨_, rfl, _, rfl, p2, p1, cs', cs, rs', rs, rfl, P2.same S8, P1.same S8, L2, L1, n2, n1, (fun _ H9 s9 => ?_), (fun e => (no' e).elim), fun e => (no' e).elim⟩
        have S9 := S8.trans s9
        refine ⟨_, rfl, _, rfl, p2, p1, cs', cs, rs', rs, rfl, P2.same S9, P1.same S9, L2, L1, n2, n1, (fun _ H10 s10 => ?_), (fun e => (no' e).elim), fun e => (no' e).elim⟩
        have S10 := S9.trans s10
        refine ⟨_, _, .str _, .str _, by decide +kernel, by decide +kernel, _, rfl, iteE (by decide +kernel) ?_⟩
        refine ⟨_, rfl, _, rfl, p1, p2, cs, cs', rs, rs', rfl, P1.same S10, P2.same S10, L1, L2, n1, n2, (fun _ H11 s11 => ?_), (fun e => (no e).elim), fun e => (no e).elim⟩
        refine ⟨_, rfl, _, _, .str _, .str _, by decide +kernel, by decide +kernel, _, rfl, iteE (by decide +kernel) ?_⟩
        refine ⟨_, rfl, _, .ty "str", .type "str", .type "str", true, rfl, .ty _, isS _, kit_ty (by decide +kernel), _, rfl, iteF ?_⟩
        exact ⟨_, _, _, _, _, rfl, done (S10.trans s11)⟩
      have fA : cs.any (fun x => cs'.contains x) = false := Bool.eq_false_iff.mpr hA
      have fA' : cs'.any (fun x => cs.contains x) = false := any_sym.symm.trans fA
      have ya : cs.any (fun x => cs'.contains x) = true → False := hA
      have ya' : cs'.any (fun x => cs.contains x) = true → False := fun e => by rw [fA'] at e; cases e
      by_cases hB : 6 < cs.length + cs'.length ∨ 8 < rs.length + rs'.length
      · have no : cs.length + cs'.length ≤ 6 → rs.length + rs'.length ≤ 8 → False := fun x y => by omega
        have no' : cs'.length + cs.length ≤ 6 → rs'.length + rs.length ≤ 8 → False := fun x y => by omega
        refine ⟨_, rfl, _, rfl, p1, p2, cs, cs', rs, rs', rfl, P1, P2, L1, L2, n1, n2, (fun e => (ya e).elim), (fun _ _ H7 s7 => ?_), fun _ e2 e3 => (no e2 e3).elim⟩
        refine ⟨_, rfl, _, rfl, p1, p2, cs, cs', rs, rs', rfl, P1.same s7, P2.same s7, L1, L2, n1, n2, (fun e => (ya e).elim), (fun _ _ H8 s8 => ?_), fun _ e2 e3 => (no e2 e3).elim⟩
        refine ⟨_, rfl, _, rfl, _, _, .str _, .str _, by decide +kernel, by decide +kernel, _, rfl, iteE (by decide +kernel) ?_⟩
        have S8 := s7.trans s8
        refine ⟨_, rfl, _, rfl, p2, p1, cs', cs, rs', rs, rfl, P2.same S8, P1.same S8, L2, L1, n2, n1, (fun e => (ya' e).elim), (fun _ _ H9 s9 => ?_), fun _ e2 e3 => (no' e2 e3).elim⟩
        have S9 := S8.trans s9
        refine ⟨_, rfl, _, rfl, p2, p1, cs', cs, rs', rs, rfl, P2.same S9, P1.same S9, L2, L1, n2, n1, (fun e => (ya' e).elim), (fun _ _ H10 s10 => ?_), fun _ e2 e3 => (no' e2 e3).elim⟩
        have S10 := S9.trans s10
        refine ⟨_, _, .str _, .str _, by decide +kernel, by decide +kernel, _, rfl, iteE (by decide +kernel) ?_⟩
        refine ⟨_, rfl, _, rfl, p1, p2, cs, cs', rs, rs', rfl, P1.same S10, P2.same S10, L1, L2, n1, n2, (fun e => (ya e).elim), (fun _ _ H11 s11 => ?_), fun _ e2 e3 => (no e2 e3).elim⟩
        refine ⟨_, rfl, _, _, .str _, .str _, by decide +kernel, by decide +kernel, _, rfl, iteE (by decide +kernel) ?_⟩
        refine ⟨_, rfl, _, .ty "str", .type "str", .type "str", true, rfl, .ty _, isS _, kit_ty (by decide +kernel), _, rfl, iteF ?_⟩
        exact ⟨_, _, _, _, _, rfl, done (S10.trans s11)⟩
      have c6 : cs.length + cs'.length ≤ 6 := by omega
      have c8 : rs.length + rs'.length ≤ 8 := by omega
      have d6 : cs'.length + cs.length ≤ 6 := by omega
      have d8 : rs'.length + rs.length ≤ 8 := by omega
      have nb : 6 < cs.length + cs'.length ∨ 8 < rs.length + rs'.length → False := hB
      have nb' : 6 < cs'.length + cs.length ∨ 8 < rs'.length + rs.length → False := fun z => by omega
      refine ⟨_, rfl, _, rfl, p1, p2, cs, cs', rs, rs', rfl, P1, P2, L1, L2, n1, n2, (fun e => (ya e).elim), (fun _ e => (nb e).elim), fun _ _ _ H7 pd zs hz hr hPd s7 => ?_⟩
      have mem : ∀ z, z ∈ zs ↔ z ∈ cs ∨ z ∈ cs' := fun z => by rw [hz.mem_iff, List.mem_append]
      have one : ∀ {ys : List Nat}, ys.Perm (cs ++ cs') ∨ ys.Perm (cs' ++ cs) → ys.Pairwise (· < ·) → ys = zs := fun {ys} hy hp => rise_same hp hr fun z => by
        rw [mem]
        rcases hy with hy | hy <;> rw [hy.mem_iff, List.mem_append]
        exact Or.comm
      have zl : zs.length = cs.length + cs'.length := by rw [hz.length_eq, List.length_append]
      have zsm : ∀ c ∈ zs, 97 ≤ c ∧ c < 123 := fun c hc => ((mem c).mp hc).elim (L1.small c) (L2.small c)
      have Lz : Ls 6 zs := ⟨by have := L1.pos; omega, by omega, hr, zsm⟩
      have sy1 : ∀ r ∈ rs, Sy zs r ∧ r.length ≤ 14 := fun r h => ⟨⟨(hO.sy r h).1.1, fun c hc => (mem c).mpr (.inl ((hO.sy r h).1.2 c hc))⟩, rl r h⟩
      have sy2 : ∀ r ∈ rs', Sy zs r ∧ r.length ≤ 14 := fun r h => ⟨⟨(hO'.sy r h).1.1, fun c hc => (mem c).mpr (.inr ((hO'.sy r h).1.2 c hc))⟩, rl' r h⟩
      have okZ : ∀ {l : List (List Wd)}, (∀ r ∈ l, r ∈ rs ∨ r ∈ rs') → l.length ≤ 8 → HsOk zs l := fun {l} hl h8 => ⟨by omega, fun c hc => (zsm c hc).2, fun r h => (hl r h).elim (fun m => ⟨(sy1 r m).1, by have := (sy1 r m).2; omega⟩) (fun m => ⟨(sy2 r m).1, by have := (sy2 r m).2; omega⟩), by omega⟩
      have Z1 : HsOk zs (rs ++ rs') := okZ (fun r h => List.mem_append.mp h) (by rw [List.length_append]; exact c8)
      have Z2 : HsOk zs (rs' ++ rs) := okZ (fun r h => (List.mem_append.mp h).symm) (by rw [List.length_append]; exact d8)
      refine ⟨_, rfl, _, rfl, p1, p2, cs, cs', rs, rs', rfl, P1.same s7, P2.same s7, L1, L2, n1, n2, (fun e => (ya e).elim), (fun _ e => (nb e).elim), fun _ _ _ H8 pf ys hy hq hPf s8 => ?_⟩
      obtain rfl := one (.inl hy) hq
      have S8 := s7.trans s8
      refine ⟨_, rfl, _, rfl, _, _, hdp hPf, hdp (hPd.same s8), hdat_shaped Z1, hdat_shaped Z1, _, rfl, iteE (by rw [hdat_eqv Z1]; rfl) ?_⟩
      refine ⟨_, rfl, _, rfl, p2, p1, cs', cs, rs', rs, rfl, P2.same S8, P1.same S8, L2, L1, n2, n1, (fun e => (ya' e).elim), (fun _ e => (nb' e).elim), fun _ _ _ H9 pt xs hx hxr hPt s9 => ?_⟩
      obtain rfl := one (.inr hx) hxr
      have S9 := S8.trans s9
      refine ⟨_, rfl, _, rfl, p2, p1, cs', cs, rs', rs, rfl, P2.same S9, P1.same S9, L2, L1, n2, n1, (fun e => (ya' e).elim), (fun _ e => (nb' e).elim), fun _ _ _ H10 pu us hu hur hPu s10 => ?_⟩
      obtain rfl := one (.inr hu) hur
      have S10 := S9.trans s10
      refine ⟨_, _, hdp (hPt.same s10), hdp hPu, hdat_shaped Z2, hdat_shaped Z2, _, rfl, iteE (by rw [hdat_eqv Z2]; rfl) ?_⟩
      refine ⟨_, rfl, _, rfl, p1, p2, cs, cs', rs, rs', rfl, P1.same S10, P2.same S10, L1, L2, n1, n2, (fun e => (ya e).elim), (fun _ e => (nb e).elim), fun _ _ _ H11 pv vs hv hvr hPv s11 => ?_⟩
      obtain rfl := one (.inl hv) hvr
      have S11 := S10.trans s11
      have hPd11 := hPd.same (s8.trans (s9.trans (s10.trans s11)))
      have hPf11 := hPf.same (s9.trans (s10.trans s11))
      refine ⟨_, rfl, _, _, hdp hPv, hdp hPd11, hdat_shaped Z1, hdat_shaped Z1, _, rfl, iteE (by rw [hdat_eqv Z1]; rfl) ?_⟩
      obtain ⟨rd, rdv, tD, tRd, fRd⟩ := id hPd11
      obtain ⟨rf, rfv, tF, tRf, fRf⟩ := id hPf11
      refine ⟨_, rfl, _, .ty "str", _, _, false, rfl, .ty _, ty_tup tD, kit_ty (by decide +kernel), _, rfl, iteT ?_⟩
      refine ⟨_, rfl, _, .ty "tuple", _, _, true, rfl, .ty _, ty_tup tF, kit_ty (by decide +kernel), _, rfl, iteF ?_⟩
      refine ⟨_, rfl, pf, _, 1, .ref rf, rfl, rfl, tF, rfl, _, .ty "tuple", _, _, true, rfl, .ty _, ty_tup tRf, kit_ty (by decide +kernel), _, rfl, iteF ?_⟩
      refine ⟨_, rfl, _, rfl, pd, _, 0, .str (tx _), rfl, rfl, tD, rfl, ?_⟩
      refine ⟨_, rfl, pd, rd, _, rdv, _, rfl, tD, tRd, fRd, (fun r hr => ⟨(Z1.sy r hr).1, by have := (Z1.sy r hr).2; omega⟩), by have := Z1.few; omega, Z1.c6, Z1.sm, fun H12 W tW s12 => ?_⟩
      have S12 := S11.trans s12
      obtain ⟨q1, q1v, t1, _, _⟩ := id (P1.same S12)
      obtain ⟨q2, q2v, t2, _, _⟩ := id (P2.same S12)
      refine ⟨_, rfl, _, rfl, d, b, W, p1, p2, q1, q2, _, cs, cs', wor _ (rs ++ rs'), rfl, tW, (fun bs h => wor_len h), Nat.le_trans (wor_le Z1.c6) (by decide), t1, t2, Lz, L1.rise.imp (fun h => Nat.ne_of_lt h), L2.rise.imp (fun h => Nat.ne_of_lt h), (fun x hx => (mem x).mpr (.inl hx)), (fun x hx => (mem x).mpr (.inr hx)), L1.most, L2.most, (w6.same S12).less (by omega), fun H13 w13 k13 => ?_⟩
      refine ⟨_, rfl, iteF ?_⟩
      exact ⟨_, _, _, _, _, rfl, w13⟩
    · subst e
      exact q _
end
end B
namespace B
open PySem PySem.Spec PyProof.Rows L2
theorem all_mk {l : PySem.W.OpenLaw} {w : World} {K : PySem.W.Frag} {h : Heap} {mg : Str → Option Value} {fa : Addr} (tree : l.prog.given.tree = none) (X : K.In h) (G : h.Ns mainGlobals mg) (hfa : mg "law" = some (.ref fa))
    {f0 : Addr} {od0 an0 : Option Addr} {sl0 : Array (Option Value)} {oc0 kV0 dc0 pm0 cd0 ct0 : Value} (a0 : PySem.W.nsIn K mainGlobals "beside" = some (some (.ref f0))) (l0 : K.lookup f0 = some ⟨oc0, od0, .func (PySem.W.fnOf "beside" "beside" (defArgs s_beside) (defBody s_beside) (defScope s_beside) .none kV0 dc0 pm0 an0 cd0 ct0), sl0⟩) (c0 : PySem.W.codeIn K cd0 "beside" = true) (k0 : PySem.W.keepIn K (.ref f0) = true)
    {f1 : Addr} {od1 an1 : Option Addr} {sl1 : Array (Option Value)} {oc1 kV1 dc1 pm1 cd1 ct1 : Value} (a1 : PySem.W.nsIn K mainGlobals "part_of" = some (some (.ref f1))) (l1 : K.lookup f1 = some ⟨oc1, od1, .func (PySem.W.fnOf "part_of" "part_of" (defArgs s_part_of) (defBody s_part_of) (defScope s_part_of) .none kV1 dc1 pm1 an1 cd1 ct1), sl1⟩) (c1 : PySem.W.codeIn K cd1 "part_of" = true) (k1 : PySem.W.keepIn K (.ref f1) = true)
    {f2 : Addr} {od2 an2 : Option Addr} {sl2 : Array (Option Value)} {oc2 kV2 dc2 pm2 cd2 ct2 : Value} (a2 : PySem.W.nsIn K mainGlobals "_law_draws" = some (some (.ref f2))) (l2 : K.lookup f2 = some ⟨oc2, od2, .func (PySem.W.fnOf "_law_draws" "_law_draws" (defArgs s_l_draws) (defBody s_l_draws) (defScope s_l_draws) .none kV2 dc2 pm2 an2 cd2 ct2), sl2⟩) (c2 : PySem.W.codeIn K cd2 "_law_draws" = true) (k2 : PySem.W.keepIn K (.ref f2) = true)
    {f3 : Addr} {od3 an3 : Option Addr} {sl3 : Array (Option Value)} {oc3 kV3 dc3 pm3 cd3 ct3 : Value} (a3 : PySem.W.nsIn K mainGlobals "_law_next" = some (some (.ref f3))) (l3 : K.lookup f3 = some ⟨oc3, od3, .func (PySem.W.fnOf "_law_next" "_law_next" (defArgs s_l_next) (defBody s_l_next) (defScope s_l_next) .none kV3 dc3 pm3 an3 cd3 ct3), sl3⟩) (c3 : PySem.W.codeIn K cd3 "_law_next" = true) (k3 : PySem.W.keepIn K (.ref f3) = true)
    {f4 : Addr} {od4 an4 : Option Addr} {sl4 : Array (Option Value)} {oc4 kV4 dc4 pm4 cd4 ct4 : Value} (a4 : PySem.W.nsIn K mainGlobals "_law_saying" = some (some (.ref f4))) (l4 : K.lookup f4 = some ⟨oc4, od4, .func (PySem.W.fnOf "_law_saying" "_law_saying" (defArgs s_l_saying) (defBody s_l_saying) (defScope s_l_saying) .none kV4 dc4 pm4 an4 cd4 ct4), sl4⟩) (c4 : PySem.W.codeIn K cd4 "_law_saying" = true) (k4 : PySem.W.keepIn K (.ref f4) = true)
    {f5 : Addr} {od5 an5 : Option Addr} {sl5 : Array (Option Value)} {oc5 kV5 dc5 pm5 cd5 ct5 : Value} (a5 : PySem.W.nsIn K mainGlobals "_law_letters" = some (some (.ref f5))) (l5 : K.lookup f5 = some ⟨oc5, od5, .func (PySem.W.fnOf "_law_letters" "_law_letters" (defArgs s_l_letters) (defBody s_l_letters) (defScope s_l_letters) .none kV5 dc5 pm5 an5 cd5 ct5), sl5⟩) (c5 : PySem.W.codeIn K cd5 "_law_letters" = true) (k5 : PySem.W.keepIn K (.ref f5) = true)
    {f6 : Addr} {od6 an6 : Option Addr} {sl6 : Array (Option Value)} {oc6 kV6 dc6 pm6 cd6 ct6 : Value} (a6 : PySem.W.nsIn K mainGlobals "_law_holds" = some (some (.ref f6))) (l6 : K.lookup f6 = some ⟨oc6, od6, .func (PySem.W.fnOf "_law_holds" "_law_holds" (defArgs s_l_holds) (defBody s_l_holds) (defScope s_l_holds) .none kV6 dc6 pm6 an6 cd6 ct6), sl6⟩) (c6 : PySem.W.codeIn K cd6 "_law_holds" = true) (k6 : PySem.W.keepIn K (.ref f6) = true)
    {f7 : Addr} {od7 an7 : Option Addr} {sl7 : Array (Option Value)} {oc7 kV7 dc7 pm7 cd7 ct7 : Value} (a7 : PySem.W.nsIn K mainGlobals "_law_worlds" = some (some (.ref f7))) (l7 : K.lookup f7 = some ⟨oc7, od7, .func (PySem.W.fnOf "_law_worlds" "_law_worlds" (defArgs s_l_worlds) (defBody s_l_worlds) (defScope s_l_worlds) .none kV7 dc7 pm7 an7 cd7 ct7), sl7⟩) (c7 : PySem.W.codeIn K cd7 "_law_worlds" = true) (k7 : PySem.W.keepIn K (.ref f7) = true)
    {f8 : Addr} {od8 an8 : Option Addr} {sl8 : Array (Option Value)} {oc8 kV8 dc8 pm8 cd8 ct8 : Value} (a8 : PySem.W.nsIn K mainGlobals "_law_house" = some (some (.ref f8))) (l8 : K.lookup f8 = some ⟨oc8, od8, .func (PySem.W.fnOf "_law_house" "_law_house" (defArgs s_l_house) (defBody s_l_house) (defScope s_l_house) .none kV8 dc8 pm8 an8 cd8 ct8), sl8⟩) (c8 : PySem.W.codeIn K cd8 "_law_house" = true) (k8 : PySem.W.keepIn K (.ref f8) = true)
    {f9 : Addr} {od9 an9 : Option Addr} {sl9 : Array (Option Value)} {oc9 kV9 dc9 pm9 cd9 ct9 : Value} (a9 : PySem.W.nsIn K mainGlobals "_law_refusal" = some (some (.ref f9))) (l9 : K.lookup f9 = some ⟨oc9, od9, .func (PySem.W.fnOf "_law_refusal" "_law_refusal" (defArgs s_l_refusal) (defBody s_l_refusal) (defScope s_l_refusal) .none kV9 dc9 pm9 an9 cd9 ct9), sl9⟩) (c9 : PySem.W.codeIn K cd9 "_law_refusal" = true) (k9 : PySem.W.keepIn K (.ref f9) = true)
    {f10 : Addr} {od10 an10 : Option Addr} {sl10 : Array (Option Value)} {oc10 kV10 dc10 pm10 cd10 ct10 : Value} (a10 : PySem.W.nsIn K mainGlobals "_law_full" = some (some (.ref f10))) (l10 : K.lookup f10 = some ⟨oc10, od10, .func (PySem.W.fnOf "_law_full" "_law_full" (defArgs s_l_full) (defBody s_l_full) (defScope s_l_full) .none kV10 dc10 pm10 an10 cd10 ct10), sl10⟩) (c10 : PySem.W.codeIn K cd10 "_law_full" = true) (k10 : PySem.W.keepIn K (.ref f10) = true)
    {f11 : Addr} {od11 an11 : Option Addr} {sl11 : Array (Option Value)} {oc11 kV11 dc11 pm11 cd11 ct11 : Value} (a11 : PySem.W.nsIn K mainGlobals "_law_other" = some (some (.ref f11))) (l11 : K.lookup f11 = some ⟨oc11, od11, .func (PySem.W.fnOf "_law_other" "_law_other" (defArgs s_l_other) (defBody s_l_other) (defScope s_l_other) .none kV11 dc11 pm11 an11 cd11 ct11), sl11⟩) (c11 : PySem.W.codeIn K cd11 "_law_other" = true) (k11 : PySem.W.keepIn K (.ref f11) = true)
    {f12 : Addr} {od12 an12 : Option Addr} {sl12 : Array (Option Value)} {oc12 kV12 dc12 pm12 cd12 ct12 : Value} (a12 : PySem.W.nsIn K mainGlobals "_law_due" = some (some (.ref f12))) (l12 : K.lookup f12 = some ⟨oc12, od12, .func (PySem.W.fnOf "_law_due" "_law_due" (defArgs s_l_due) (defBody s_l_due) (defScope s_l_due) .none kV12 dc12 pm12 an12 cd12 ct12), sl12⟩) (c12 : PySem.W.codeIn K cd12 "_law_due" = true) (k12 : PySem.W.keepIn K (.ref f12) = true)
    {f13 : Addr} {od13 an13 : Option Addr} {sl13 : Array (Option Value)} {oc13 kV13 dc13 pm13 cd13 ct13 : Value} (a13 : PySem.W.nsIn K mainGlobals "_law_told" = some (some (.ref f13))) (l13 : K.lookup f13 = some ⟨oc13, od13, .func (PySem.W.fnOf "_law_told" "_law_told" (defArgs s_l_told) (defBody s_l_told) (defScope s_l_told) .none kV13 dc13 pm13 an13 cd13 ct13), sl13⟩) (c13 : PySem.W.codeIn K cd13 "_law_told" = true) (k13 : PySem.W.keepIn K (.ref f13) = true)
    {f14 : Addr} {od14 an14 : Option Addr} {sl14 : Array (Option Value)} {oc14 kV14 dc14 pm14 cd14 ct14 : Value} (a14 : PySem.W.nsIn K mainGlobals "_law_part" = some (some (.ref f14))) (l14 : K.lookup f14 = some ⟨oc14, od14, .func (PySem.W.fnOf "_law_part" "_law_part" (defArgs s_l_part) (defBody s_l_part) (defScope s_l_part) .none kV14 dc14 pm14 an14 cd14 ct14), sl14⟩) (c14 : PySem.W.codeIn K cd14 "_law_part" = true) (k14 : PySem.W.keepIn K (.ref f14) = true)
    {f15 : Addr} {od15 an15 : Option Addr} {sl15 : Array (Option Value)} {oc15 kV15 dc15 pm15 cd15 ct15 : Value} (a15 : PySem.W.nsIn K mainGlobals "_law_parts_right" = some (some (.ref f15))) (l15 : K.lookup f15 = some ⟨oc15, od15, .func (PySem.W.fnOf "_law_parts_right" "_law_parts_right" (defArgs s_l_parts_right) (defBody s_l_parts_right) (defScope s_l_parts_right) .none kV15 dc15 pm15 an15 cd15 ct15), sl15⟩) (c15 : PySem.W.codeIn K cd15 "_law_parts_right" = true) (k15 : PySem.W.keepIn K (.ref f15) = true)
    {f16 : Addr} {od16 an16 : Option Addr} {sl16 : Array (Option Value)} {oc16 kV16 dc16 pm16 cd16 ct16 : Value} (a16 : PySem.W.nsIn K mainGlobals "law" = some (some (.ref f16))) (l16 : K.lookup f16 = some ⟨oc16, od16, .func (PySem.W.fnOf "law" "law" (defArgs s_law) (defBody s_law) (defScope s_law) .none kV16 dc16 pm16 an16 cd16 ct16), sl16⟩) (c16 : PySem.W.codeIn K cd16 "law" = true) (k16 : PySem.W.keepIn K (.ref f16) = true)
    (z_ValueError : PySem.W.nsIn K mainGlobals "ValueError" = some none)
    (z_any : PySem.W.nsIn K mainGlobals "any" = some none)
    (z_int : PySem.W.nsIn K mainGlobals "int" = some none)
    (z_isinstance : PySem.W.nsIn K mainGlobals "isinstance" = some none)
    (z_len : PySem.W.nsIn K mainGlobals "len" = some none)
    (z_list : PySem.W.nsIn K mainGlobals "list" = some none)
    (z_max : PySem.W.nsIn K mainGlobals "max" = some none)
    (z_range : PySem.W.nsIn K mainGlobals "range" = some none)
    (z_sorted : PySem.W.nsIn K mainGlobals "sorted" = some none)
    (z_str : PySem.W.nsIn K mainGlobals "str" = some none)
    (z_tuple : PySem.W.nsIn K mainGlobals "tuple" = some none)
    (z_zip : PySem.W.nsIn K mainGlobals "zip" = some none)
    {tc0 : Tok} (q0 : PySem.W.nsIn K mainGlobals "MOST_LETTERS" = some (some (.int 6 tc0)))
    {tc1 : Tok} (q1 : PySem.W.nsIn K mainGlobals "MOST_RULES" = some (some (.int 8 tc1)))
    {y0C y0I y0N : Addr} {y0nm y0q : Str} {y0bs : List Value} {y0sn : List Str} {y0sub : List Value} {y0ab : Bool} {y0col : Option Bool} {y0dd : Option Addr} {y0m0 y0m1 y0m2 y0m3 y0m5 : Option Value} {y0oc y0dc y0pm y0cd y0ct : Value} {y0od y0an : Option Addr} {y0sl : Array (Option Value)}
    (y0a : PySem.W.nsIn K mainGlobals "StallError" = some (some (.ref y0C))) (y0x : K.lookup y0C = some (excClassObj y0nm y0q y0C y0N y0bs [.type "ValueError", .type "Exception", .type "BaseException", .type "object"] true y0sn y0sub y0ab y0col y0dd y0m0 y0m1 y0m2 y0m3 y0m5 "ValueError.__new__")) (y0k : PySem.W.keepIn K (.ref y0C) = true) (y0b : PySem.W.subIn K (.ref y0C) (.type "BaseException") = some true) (y0t : PySem.W.typeIn K (.ref y0C) = some (.type "type")) (y0i : PySem.W.isClsIn K y0C = true) (y0m : PySem.W.subIn K (.ref y0C) (.ref y0C) = some true)
    (y01 : PySem.W.findIn K (.ref y0C) "__getattribute__" = some (some (.builtin "BaseException.__getattribute__"))) (y02 : PySem.W.findIn K (.ref y0C) "__getattr__" = some none) (y03 : PySem.W.hasDictIn K y0C = true) (y04 : PySem.W.findIn K (.ref y0C) "__class__" = some (some (.builtin "object.__class__"))) (y05 : PySem.W.mroIn K y0C (.type "object") = some true)
    (y0s : PySem.W.findIn K (.ref y0C) "__setattr__" = some (some (.builtin "object.__setattr__"))) (y0n : PySem.W.findIn K (.ref y0C) "named" = some none) (y0j : PySem.W.findIn K (.ref y0C) "__init__" = some (some (.ref y0I))) (y0y : PySem.W.typeIn K (.ref y0I) = some (.type "function")) (y0f : K.lookup y0I = some ⟨y0oc, y0od, .func (PySem.W.fnOf "__init__" "StallError.__init__" (eiA ⟨4, 17, 4, 21⟩) (eiB "StallError" ⟨5, 8, 5, 12⟩ ⟨5, 8, 5, 18⟩ ⟨5, 21, 5, 33⟩ ⟨5, 8, 5, 33⟩) eiS .none .none y0dc y0pm y0an y0cd y0ct), y0sl⟩) (y0g : PySem.W.codeIn K y0cd "StallError.__init__" = true)
    {y1w0 : Addr}
    {y1C y1I y1N : Addr} {y1nm y1q : Str} {y1bs : List Value} {y1sn : List Str} {y1sub : List Value} {y1ab : Bool} {y1col : Option Bool} {y1dd : Option Addr} {y1m0 y1m1 y1m2 y1m3 y1m5 : Option Value} {y1oc y1dc y1pm y1cd y1ct : Value} {y1od y1an : Option Addr} {y1sl : Array (Option Value)}
    (y1a : PySem.W.nsIn K mainGlobals "TooLong" = some (some (.ref y1C))) (y1x : K.lookup y1C = some (excClassObj y1nm y1q y1C y1N y1bs [.ref y1w0, .type "ValueError", .type "Exception", .type "BaseException", .type "object"] true y1sn y1sub y1ab y1col y1dd y1m0 y1m1 y1m2 y1m3 y1m5 "ValueError.__new__")) (y1k : PySem.W.keepIn K (.ref y1C) = true) (y1b : PySem.W.subIn K (.ref y1C) (.type "BaseException") = some true) (y1t : PySem.W.typeIn K (.ref y1C) = some (.type "type")) (y1i : PySem.W.isClsIn K y1C = true) (y1m : PySem.W.subIn K (.ref y1C) (.ref y1C) = some true)
    (y11 : PySem.W.findIn K (.ref y1C) "__getattribute__" = some (some (.builtin "BaseException.__getattribute__"))) (y12 : PySem.W.findIn K (.ref y1C) "__getattr__" = some none) (y13 : PySem.W.hasDictIn K y1C = true) (y14 : PySem.W.findIn K (.ref y1C) "__class__" = some (some (.builtin "object.__class__"))) (y15 : PySem.W.mroIn K y1C (.type "object") = some true)
    (y1s : PySem.W.findIn K (.ref y1C) "__setattr__" = some (some (.builtin "object.__setattr__"))) (y1n : PySem.W.findIn K (.ref y1C) "named" = some none) (y1j : PySem.W.findIn K (.ref y1C) "__init__" = some (some (.ref y1I))) (y1y : PySem.W.typeIn K (.ref y1I) = some (.type "function")) (y1f : K.lookup y1I = some ⟨y1oc, y1od, .func (PySem.W.fnOf "__init__" "TooLong.__init__" (eiA ⟨8, 17, 8, 21⟩) (eiB "TooLong" ⟨9, 8, 9, 12⟩ ⟨9, 8, 9, 18⟩ ⟨9, 21, 9, 30⟩ ⟨9, 8, 9, 30⟩) eiS .none .none y1dc y1pm y1an y1cd y1ct), y1sl⟩) (y1g : PySem.W.codeIn K y1cd "TooLong.__init__" = true)
    {y2w0 : Addr}
    {y2C y2I y2N : Addr} {y2nm y2q : Str} {y2bs : List Value} {y2sn : List Str} {y2sub : List Value} {y2ab : Bool} {y2col : Option Bool} {y2dd : Option Addr} {y2m0 y2m1 y2m2 y2m3 y2m5 : Option Value} {y2oc y2dc y2pm y2cd y2ct : Value} {y2od y2an : Option Addr} {y2sl : Array (Option Value)}
    (y2a : PySem.W.nsIn K mainGlobals "TooMany" = some (some (.ref y2C))) (y2x : K.lookup y2C = some (excClassObj y2nm y2q y2C y2N y2bs [.ref y2w0, .type "ValueError", .type "Exception", .type "BaseException", .type "object"] true y2sn y2sub y2ab y2col y2dd y2m0 y2m1 y2m2 y2m3 y2m5 "ValueError.__new__")) (y2k : PySem.W.keepIn K (.ref y2C) = true) (y2b : PySem.W.subIn K (.ref y2C) (.type "BaseException") = some true) (y2t : PySem.W.typeIn K (.ref y2C) = some (.type "type")) (y2i : PySem.W.isClsIn K y2C = true) (y2m : PySem.W.subIn K (.ref y2C) (.ref y2C) = some true)
    (y21 : PySem.W.findIn K (.ref y2C) "__getattribute__" = some (some (.builtin "BaseException.__getattribute__"))) (y22 : PySem.W.findIn K (.ref y2C) "__getattr__" = some none) (y23 : PySem.W.hasDictIn K y2C = true) (y24 : PySem.W.findIn K (.ref y2C) "__class__" = some (some (.builtin "object.__class__"))) (y25 : PySem.W.mroIn K y2C (.type "object") = some true)
    (y2s : PySem.W.findIn K (.ref y2C) "__setattr__" = some (some (.builtin "object.__setattr__"))) (y2n : PySem.W.findIn K (.ref y2C) "named" = some none) (y2j : PySem.W.findIn K (.ref y2C) "__init__" = some (some (.ref y2I))) (y2y : PySem.W.typeIn K (.ref y2I) = some (.type "function")) (y2f : K.lookup y2I = some ⟨y2oc, y2od, .func (PySem.W.fnOf "__init__" "TooMany.__init__" (eiA ⟨12, 17, 12, 21⟩) (eiB "TooMany" ⟨13, 8, 13, 12⟩ ⟨13, 8, 13, 18⟩ ⟨13, 21, 13, 30⟩ ⟨13, 8, 13, 30⟩) eiS .none .none y2dc y2pm y2an y2cd y2ct), y2sl⟩) (y2g : PySem.W.codeIn K y2cd "TooMany.__init__" = true)
    {y3w0 : Addr}
    {y3C y3I y3N : Addr} {y3nm y3q : Str} {y3bs : List Value} {y3sn : List Str} {y3sub : List Value} {y3ab : Bool} {y3col : Option Bool} {y3dd : Option Addr} {y3m0 y3m1 y3m2 y3m3 y3m5 : Option Value} {y3oc y3dc y3pm y3cd y3ct : Value} {y3od y3an : Option Addr} {y3sl : Array (Option Value)}
    (y3a : PySem.W.nsIn K mainGlobals "NoWorld" = some (some (.ref y3C))) (y3x : K.lookup y3C = some (excClassObj y3nm y3q y3C y3N y3bs [.ref y3w0, .type "ValueError", .type "Exception", .type "BaseException", .type "object"] true y3sn y3sub y3ab y3col y3dd y3m0 y3m1 y3m2 y3m3 y3m5 "ValueError.__new__")) (y3k : PySem.W.keepIn K (.ref y3C) = true) (y3b : PySem.W.subIn K (.ref y3C) (.type "BaseException") = some true) (y3t : PySem.W.typeIn K (.ref y3C) = some (.type "type")) (y3i : PySem.W.isClsIn K y3C = true) (y3m : PySem.W.subIn K (.ref y3C) (.ref y3C) = some true)
    (y31 : PySem.W.findIn K (.ref y3C) "__getattribute__" = some (some (.builtin "BaseException.__getattribute__"))) (y32 : PySem.W.findIn K (.ref y3C) "__getattr__" = some none) (y33 : PySem.W.hasDictIn K y3C = true) (y34 : PySem.W.findIn K (.ref y3C) "__class__" = some (some (.builtin "object.__class__"))) (y35 : PySem.W.mroIn K y3C (.type "object") = some true)
    (y3s : PySem.W.findIn K (.ref y3C) "__setattr__" = some (some (.builtin "object.__setattr__"))) (y3n : PySem.W.findIn K (.ref y3C) "named" = some none) (y3j : PySem.W.findIn K (.ref y3C) "__init__" = some (some (.ref y3I))) (y3y : PySem.W.typeIn K (.ref y3I) = some (.type "function")) (y3f : K.lookup y3I = some ⟨y3oc, y3od, .func (PySem.W.fnOf "__init__" "NoWorld.__init__" (eiA ⟨16, 17, 16, 21⟩) (eiB "NoWorld" ⟨17, 8, 17, 12⟩ ⟨17, 8, 17, 18⟩ ⟨17, 21, 17, 30⟩ ⟨17, 8, 17, 30⟩) eiS .none .none y3dc y3pm y3an y3cd y3ct), y3sl⟩) (y3g : PySem.W.codeIn K y3cd "NoWorld.__init__" = true)
    {y4w0 : Addr}
    {y4C y4I y4N : Addr} {y4nm y4q : Str} {y4bs : List Value} {y4sn : List Str} {y4sub : List Value} {y4ab : Bool} {y4col : Option Bool} {y4dd : Option Addr} {y4m0 y4m1 y4m2 y4m3 y4m5 : Option Value} {y4oc y4dc y4pm y4cd y4ct : Value} {y4od y4an : Option Addr} {y4sl : Array (Option Value)}
    (y4a : PySem.W.nsIn K mainGlobals "NotAlike" = some (some (.ref y4C))) (y4x : K.lookup y4C = some (excClassObj y4nm y4q y4C y4N y4bs [.ref y4w0, .type "ValueError", .type "Exception", .type "BaseException", .type "object"] true y4sn y4sub y4ab y4col y4dd y4m0 y4m1 y4m2 y4m3 y4m5 "ValueError.__new__")) (y4k : PySem.W.keepIn K (.ref y4C) = true) (y4b : PySem.W.subIn K (.ref y4C) (.type "BaseException") = some true) (y4t : PySem.W.typeIn K (.ref y4C) = some (.type "type")) (y4i : PySem.W.isClsIn K y4C = true) (y4m : PySem.W.subIn K (.ref y4C) (.ref y4C) = some true)
    (y41 : PySem.W.findIn K (.ref y4C) "__getattribute__" = some (some (.builtin "BaseException.__getattribute__"))) (y42 : PySem.W.findIn K (.ref y4C) "__getattr__" = some none) (y43 : PySem.W.hasDictIn K y4C = true) (y44 : PySem.W.findIn K (.ref y4C) "__class__" = some (some (.builtin "object.__class__"))) (y45 : PySem.W.mroIn K y4C (.type "object") = some true)
    (y4s : PySem.W.findIn K (.ref y4C) "__setattr__" = some (some (.builtin "object.__setattr__"))) (y4n : PySem.W.findIn K (.ref y4C) "named" = some none) (y4j : PySem.W.findIn K (.ref y4C) "__init__" = some (some (.ref y4I))) (y4y : PySem.W.typeIn K (.ref y4I) = some (.type "function")) (y4f : K.lookup y4I = some ⟨y4oc, y4od, .func (PySem.W.fnOf "__init__" "NotAlike.__init__" (eiA ⟨20, 17, 20, 21⟩) (eiB "NotAlike" ⟨21, 8, 21, 12⟩ ⟨21, 8, 21, 18⟩ ⟨21, 21, 21, 31⟩ ⟨21, 8, 21, 31⟩) eiS .none .none y4dc y4pm y4an y4cd y4ct), y4sl⟩) (y4g : PySem.W.codeIn K y4cd "NotAlike.__init__" = true)
    {y5w0 : Addr}
    {y5C y5I y5N : Addr} {y5nm y5q : Str} {y5bs : List Value} {y5sn : List Str} {y5sub : List Value} {y5ab : Bool} {y5col : Option Bool} {y5dd : Option Addr} {y5m0 y5m1 y5m2 y5m3 y5m5 : Option Value} {y5oc y5dc y5pm y5cd y5ct : Value} {y5od y5an : Option Addr} {y5sl : Array (Option Value)}
    (y5a : PySem.W.nsIn K mainGlobals "Unfair" = some (some (.ref y5C))) (y5x : K.lookup y5C = some (excClassObj y5nm y5q y5C y5N y5bs [.ref y5w0, .type "ValueError", .type "Exception", .type "BaseException", .type "object"] true y5sn y5sub y5ab y5col y5dd y5m0 y5m1 y5m2 y5m3 y5m5 "ValueError.__new__")) (y5k : PySem.W.keepIn K (.ref y5C) = true) (y5b : PySem.W.subIn K (.ref y5C) (.type "BaseException") = some true) (y5t : PySem.W.typeIn K (.ref y5C) = some (.type "type")) (y5i : PySem.W.isClsIn K y5C = true) (y5m : PySem.W.subIn K (.ref y5C) (.ref y5C) = some true)
    (y51 : PySem.W.findIn K (.ref y5C) "__getattribute__" = some (some (.builtin "BaseException.__getattribute__"))) (y52 : PySem.W.findIn K (.ref y5C) "__getattr__" = some none) (y53 : PySem.W.hasDictIn K y5C = true) (y54 : PySem.W.findIn K (.ref y5C) "__class__" = some (some (.builtin "object.__class__"))) (y55 : PySem.W.mroIn K y5C (.type "object") = some true)
    (y5s : PySem.W.findIn K (.ref y5C) "__setattr__" = some (some (.builtin "object.__setattr__"))) (y5n : PySem.W.findIn K (.ref y5C) "named" = some none) (y5j : PySem.W.findIn K (.ref y5C) "__init__" = some (some (.ref y5I))) (y5y : PySem.W.typeIn K (.ref y5I) = some (.type "function")) (y5f : K.lookup y5I = some ⟨y5oc, y5od, .func (PySem.W.fnOf "__init__" "Unfair.__init__" (eiA ⟨24, 17, 24, 21⟩) (eiB "Unfair" ⟨25, 8, 25, 12⟩ ⟨25, 8, 25, 18⟩ ⟨25, 21, 25, 29⟩ ⟨25, 8, 25, 29⟩) eiS .none .none y5dc y5pm y5an y5cd y5ct), y5sl⟩) (y5g : PySem.W.codeIn K y5cd "Unfair.__init__" = true)
    {y6w0 : Addr}
    {y6C y6I y6N : Addr} {y6nm y6q : Str} {y6bs : List Value} {y6sn : List Str} {y6sub : List Value} {y6ab : Bool} {y6col : Option Bool} {y6dd : Option Addr} {y6m0 y6m1 y6m2 y6m3 y6m5 : Option Value} {y6oc y6dc y6pm y6cd y6ct : Value} {y6od y6an : Option Addr} {y6sl : Array (Option Value)}
    (y6a : PySem.W.nsIn K mainGlobals "Fair" = some (some (.ref y6C))) (y6x : K.lookup y6C = some (excClassObj y6nm y6q y6C y6N y6bs [.ref y6w0, .type "ValueError", .type "Exception", .type "BaseException", .type "object"] true y6sn y6sub y6ab y6col y6dd y6m0 y6m1 y6m2 y6m3 y6m5 "ValueError.__new__")) (y6k : PySem.W.keepIn K (.ref y6C) = true) (y6b : PySem.W.subIn K (.ref y6C) (.type "BaseException") = some true) (y6t : PySem.W.typeIn K (.ref y6C) = some (.type "type")) (y6i : PySem.W.isClsIn K y6C = true) (y6m : PySem.W.subIn K (.ref y6C) (.ref y6C) = some true)
    (y61 : PySem.W.findIn K (.ref y6C) "__getattribute__" = some (some (.builtin "BaseException.__getattribute__"))) (y62 : PySem.W.findIn K (.ref y6C) "__getattr__" = some none) (y63 : PySem.W.hasDictIn K y6C = true) (y64 : PySem.W.findIn K (.ref y6C) "__class__" = some (some (.builtin "object.__class__"))) (y65 : PySem.W.mroIn K y6C (.type "object") = some true)
    (y6s : PySem.W.findIn K (.ref y6C) "__setattr__" = some (some (.builtin "object.__setattr__"))) (y6n : PySem.W.findIn K (.ref y6C) "named" = some none) (y6j : PySem.W.findIn K (.ref y6C) "__init__" = some (some (.ref y6I))) (y6y : PySem.W.typeIn K (.ref y6I) = some (.type "function")) (y6f : K.lookup y6I = some ⟨y6oc, y6od, .func (PySem.W.fnOf "__init__" "Fair.__init__" (eiA ⟨28, 17, 28, 21⟩) (eiB "Fair" ⟨29, 8, 29, 12⟩ ⟨29, 8, 29, 18⟩ ⟨29, 21, 29, 27⟩ ⟨29, 8, 29, 27⟩) eiS .none .none y6dc y6pm y6an y6cd y6ct), y6sl⟩) (y6g : PySem.W.codeIn K y6cd "Fair.__init__" = true)
    {y7w0 : Addr}
    {y7C y7I y7N : Addr} {y7nm y7q : Str} {y7bs : List Value} {y7sn : List Str} {y7sub : List Value} {y7ab : Bool} {y7col : Option Bool} {y7dd : Option Addr} {y7m0 y7m1 y7m2 y7m3 y7m5 : Option Value} {y7oc y7dc y7pm y7cd y7ct : Value} {y7od y7an : Option Addr} {y7sl : Array (Option Value)}
    (y7a : PySem.W.nsIn K mainGlobals "NoBet" = some (some (.ref y7C))) (y7x : K.lookup y7C = some (excClassObj y7nm y7q y7C y7N y7bs [.ref y7w0, .type "ValueError", .type "Exception", .type "BaseException", .type "object"] true y7sn y7sub y7ab y7col y7dd y7m0 y7m1 y7m2 y7m3 y7m5 "ValueError.__new__")) (y7k : PySem.W.keepIn K (.ref y7C) = true) (y7b : PySem.W.subIn K (.ref y7C) (.type "BaseException") = some true) (y7t : PySem.W.typeIn K (.ref y7C) = some (.type "type")) (y7i : PySem.W.isClsIn K y7C = true) (y7m : PySem.W.subIn K (.ref y7C) (.ref y7C) = some true)
    (y71 : PySem.W.findIn K (.ref y7C) "__getattribute__" = some (some (.builtin "BaseException.__getattribute__"))) (y72 : PySem.W.findIn K (.ref y7C) "__getattr__" = some none) (y73 : PySem.W.hasDictIn K y7C = true) (y74 : PySem.W.findIn K (.ref y7C) "__class__" = some (some (.builtin "object.__class__"))) (y75 : PySem.W.mroIn K y7C (.type "object") = some true)
    (y7s : PySem.W.findIn K (.ref y7C) "__setattr__" = some (some (.builtin "object.__setattr__"))) (y7n : PySem.W.findIn K (.ref y7C) "named" = some none) (y7j : PySem.W.findIn K (.ref y7C) "__init__" = some (some (.ref y7I))) (y7y : PySem.W.typeIn K (.ref y7I) = some (.type "function")) (y7f : K.lookup y7I = some ⟨y7oc, y7od, .func (PySem.W.fnOf "__init__" "NoBet.__init__" (eiA ⟨32, 17, 32, 21⟩) (eiB "NoBet" ⟨33, 8, 33, 12⟩ ⟨33, 8, 33, 18⟩ ⟨33, 21, 33, 28⟩ ⟨33, 8, 33, 28⟩) eiS .none .none y7dc y7pm y7an y7cd y7ct), y7sl⟩) (y7g : PySem.W.codeIn K y7cd "NoBet.__init__" = true)
    {y8w0 : Addr}
    {y8C y8I y8N : Addr} {y8nm y8q : Str} {y8bs : List Value} {y8sn : List Str} {y8sub : List Value} {y8ab : Bool} {y8col : Option Bool} {y8dd : Option Addr} {y8m0 y8m1 y8m2 y8m3 y8m5 : Option Value} {y8oc y8dc y8pm y8cd y8ct : Value} {y8od y8an : Option Addr} {y8sl : Array (Option Value)}
    (y8a : PySem.W.nsIn K mainGlobals "NoHolder" = some (some (.ref y8C))) (y8x : K.lookup y8C = some (excClassObj y8nm y8q y8C y8N y8bs [.ref y8w0, .type "ValueError", .type "Exception", .type "BaseException", .type "object"] true y8sn y8sub y8ab y8col y8dd y8m0 y8m1 y8m2 y8m3 y8m5 "ValueError.__new__")) (y8k : PySem.W.keepIn K (.ref y8C) = true) (y8b : PySem.W.subIn K (.ref y8C) (.type "BaseException") = some true) (y8t : PySem.W.typeIn K (.ref y8C) = some (.type "type")) (y8i : PySem.W.isClsIn K y8C = true) (y8m : PySem.W.subIn K (.ref y8C) (.ref y8C) = some true)
    (y81 : PySem.W.findIn K (.ref y8C) "__getattribute__" = some (some (.builtin "BaseException.__getattribute__"))) (y82 : PySem.W.findIn K (.ref y8C) "__getattr__" = some none) (y83 : PySem.W.hasDictIn K y8C = true) (y84 : PySem.W.findIn K (.ref y8C) "__class__" = some (some (.builtin "object.__class__"))) (y85 : PySem.W.mroIn K y8C (.type "object") = some true)
    (y8s : PySem.W.findIn K (.ref y8C) "__setattr__" = some (some (.builtin "object.__setattr__"))) (y8n : PySem.W.findIn K (.ref y8C) "named" = some none) (y8j : PySem.W.findIn K (.ref y8C) "__init__" = some (some (.ref y8I))) (y8y : PySem.W.typeIn K (.ref y8I) = some (.type "function")) (y8f : K.lookup y8I = some ⟨y8oc, y8od, .func (PySem.W.fnOf "__init__" "NoHolder.__init__" (eiA ⟨36, 17, 36, 21⟩) (eiB "NoHolder" ⟨37, 8, 37, 12⟩ ⟨37, 8, 37, 18⟩ ⟨37, 21, 37, 31⟩ ⟨37, 8, 37, 31⟩) eiS .none .none y8dc y8pm y8an y8cd y8ct), y8sl⟩) (y8g : PySem.W.codeIn K y8cd "NoHolder.__init__" = true)
    {y9w0 : Addr}
    {y9C y9I y9N : Addr} {y9nm y9q : Str} {y9bs : List Value} {y9sn : List Str} {y9sub : List Value} {y9ab : Bool} {y9col : Option Bool} {y9dd : Option Addr} {y9m0 y9m1 y9m2 y9m3 y9m5 : Option Value} {y9oc y9dc y9pm y9cd y9ct : Value} {y9od y9an : Option Addr} {y9sl : Array (Option Value)}
    (y9a : PySem.W.nsIn K mainGlobals "NoStake" = some (some (.ref y9C))) (y9x : K.lookup y9C = some (excClassObj y9nm y9q y9C y9N y9bs [.ref y9w0, .type "ValueError", .type "Exception", .type "BaseException", .type "object"] true y9sn y9sub y9ab y9col y9dd y9m0 y9m1 y9m2 y9m3 y9m5 "ValueError.__new__")) (y9k : PySem.W.keepIn K (.ref y9C) = true) (y9b : PySem.W.subIn K (.ref y9C) (.type "BaseException") = some true) (y9t : PySem.W.typeIn K (.ref y9C) = some (.type "type")) (y9i : PySem.W.isClsIn K y9C = true) (y9m : PySem.W.subIn K (.ref y9C) (.ref y9C) = some true)
    (y91 : PySem.W.findIn K (.ref y9C) "__getattribute__" = some (some (.builtin "BaseException.__getattribute__"))) (y92 : PySem.W.findIn K (.ref y9C) "__getattr__" = some none) (y93 : PySem.W.hasDictIn K y9C = true) (y94 : PySem.W.findIn K (.ref y9C) "__class__" = some (some (.builtin "object.__class__"))) (y95 : PySem.W.mroIn K y9C (.type "object") = some true)
    (y9s : PySem.W.findIn K (.ref y9C) "__setattr__" = some (some (.builtin "object.__setattr__"))) (y9n : PySem.W.findIn K (.ref y9C) "named" = some none) (y9j : PySem.W.findIn K (.ref y9C) "__init__" = some (some (.ref y9I))) (y9y : PySem.W.typeIn K (.ref y9I) = some (.type "function")) (y9f : K.lookup y9I = some ⟨y9oc, y9od, .func (PySem.W.fnOf "__init__" "NoStake.__init__" (eiA ⟨40, 17, 40, 21⟩) (eiB "NoStake" ⟨41, 8, 41, 12⟩ ⟨41, 8, 41, 18⟩ ⟨41, 21, 41, 30⟩ ⟨41, 8, 41, 30⟩) eiS .none .none y9dc y9pm y9an y9cd y9ct), y9sl⟩) (y9g : PySem.W.codeIn K y9cd "NoStake.__init__" = true)
    {y10w0 : Addr}
    {y10C y10I y10N : Addr} {y10nm y10q : Str} {y10bs : List Value} {y10sn : List Str} {y10sub : List Value} {y10ab : Bool} {y10col : Option Bool} {y10dd : Option Addr} {y10m0 y10m1 y10m2 y10m3 y10m5 : Option Value} {y10oc y10dc y10pm y10cd y10ct : Value} {y10od y10an : Option Addr} {y10sl : Array (Option Value)}
    (y10a : PySem.W.nsIn K mainGlobals "NoTicket" = some (some (.ref y10C))) (y10x : K.lookup y10C = some (excClassObj y10nm y10q y10C y10N y10bs [.ref y10w0, .type "ValueError", .type "Exception", .type "BaseException", .type "object"] true y10sn y10sub y10ab y10col y10dd y10m0 y10m1 y10m2 y10m3 y10m5 "ValueError.__new__")) (y10k : PySem.W.keepIn K (.ref y10C) = true) (y10b : PySem.W.subIn K (.ref y10C) (.type "BaseException") = some true) (y10t : PySem.W.typeIn K (.ref y10C) = some (.type "type")) (y10i : PySem.W.isClsIn K y10C = true) (y10m : PySem.W.subIn K (.ref y10C) (.ref y10C) = some true)
    (y101 : PySem.W.findIn K (.ref y10C) "__getattribute__" = some (some (.builtin "BaseException.__getattribute__"))) (y102 : PySem.W.findIn K (.ref y10C) "__getattr__" = some none) (y103 : PySem.W.hasDictIn K y10C = true) (y104 : PySem.W.findIn K (.ref y10C) "__class__" = some (some (.builtin "object.__class__"))) (y105 : PySem.W.mroIn K y10C (.type "object") = some true)
    (y10s : PySem.W.findIn K (.ref y10C) "__setattr__" = some (some (.builtin "object.__setattr__"))) (y10n : PySem.W.findIn K (.ref y10C) "named" = some none) (y10j : PySem.W.findIn K (.ref y10C) "__init__" = some (some (.ref y10I))) (y10y : PySem.W.typeIn K (.ref y10I) = some (.type "function")) (y10f : K.lookup y10I = some ⟨y10oc, y10od, .func (PySem.W.fnOf "__init__" "NoTicket.__init__" (eiA ⟨44, 17, 44, 21⟩) (eiB "NoTicket" ⟨45, 8, 45, 12⟩ ⟨45, 8, 45, 18⟩ ⟨45, 21, 45, 31⟩ ⟨45, 8, 45, 31⟩) eiS .none .none y10dc y10pm y10an y10cd y10ct), y10sl⟩) (y10g : PySem.W.codeIn K y10cd "NoTicket.__init__" = true)
    {y11w0 : Addr}
    {y11C y11I y11N : Addr} {y11nm y11q : Str} {y11bs : List Value} {y11sn : List Str} {y11sub : List Value} {y11ab : Bool} {y11col : Option Bool} {y11dd : Option Addr} {y11m0 y11m1 y11m2 y11m3 y11m5 : Option Value} {y11oc y11dc y11pm y11cd y11ct : Value} {y11od y11an : Option Addr} {y11sl : Array (Option Value)}
    (y11a : PySem.W.nsIn K mainGlobals "NoCover" = some (some (.ref y11C))) (y11x : K.lookup y11C = some (excClassObj y11nm y11q y11C y11N y11bs [.ref y11w0, .type "ValueError", .type "Exception", .type "BaseException", .type "object"] true y11sn y11sub y11ab y11col y11dd y11m0 y11m1 y11m2 y11m3 y11m5 "ValueError.__new__")) (y11k : PySem.W.keepIn K (.ref y11C) = true) (y11b : PySem.W.subIn K (.ref y11C) (.type "BaseException") = some true) (y11t : PySem.W.typeIn K (.ref y11C) = some (.type "type")) (y11i : PySem.W.isClsIn K y11C = true) (y11m : PySem.W.subIn K (.ref y11C) (.ref y11C) = some true)
    (y111 : PySem.W.findIn K (.ref y11C) "__getattribute__" = some (some (.builtin "BaseException.__getattribute__"))) (y112 : PySem.W.findIn K (.ref y11C) "__getattr__" = some none) (y113 : PySem.W.hasDictIn K y11C = true) (y114 : PySem.W.findIn K (.ref y11C) "__class__" = some (some (.builtin "object.__class__"))) (y115 : PySem.W.mroIn K y11C (.type "object") = some true)
    (y11s : PySem.W.findIn K (.ref y11C) "__setattr__" = some (some (.builtin "object.__setattr__"))) (y11n : PySem.W.findIn K (.ref y11C) "named" = some none) (y11j : PySem.W.findIn K (.ref y11C) "__init__" = some (some (.ref y11I))) (y11y : PySem.W.typeIn K (.ref y11I) = some (.type "function")) (y11f : K.lookup y11I = some ⟨y11oc, y11od, .func (PySem.W.fnOf "__init__" "NoCover.__init__" (eiA ⟨48, 17, 48, 21⟩) (eiB "NoCover" ⟨49, 8, 49, 12⟩ ⟨49, 8, 49, 18⟩ ⟨49, 21, 49, 30⟩ ⟨49, 8, 49, 30⟩) eiS .none .none y11dc y11pm y11an y11cd y11ct), y11sl⟩) (y11g : PySem.W.codeIn K y11cd "NoCover.__init__" = true)
    {y12w0 : Addr}
    {y12C y12I y12N : Addr} {y12nm y12q : Str} {y12bs : List Value} {y12sn : List Str} {y12sub : List Value} {y12ab : Bool} {y12col : Option Bool} {y12dd : Option Addr} {y12m0 y12m1 y12m2 y12m3 y12m5 : Option Value} {y12oc y12dc y12pm y12cd y12ct : Value} {y12od y12an : Option Addr} {y12sl : Array (Option Value)}
    (y12a : PySem.W.nsIn K mainGlobals "NoSaying" = some (some (.ref y12C))) (y12x : K.lookup y12C = some (excClassObj y12nm y12q y12C y12N y12bs [.ref y12w0, .type "ValueError", .type "Exception", .type "BaseException", .type "object"] true y12sn y12sub y12ab y12col y12dd y12m0 y12m1 y12m2 y12m3 y12m5 "ValueError.__new__")) (y12k : PySem.W.keepIn K (.ref y12C) = true) (y12b : PySem.W.subIn K (.ref y12C) (.type "BaseException") = some true) (y12t : PySem.W.typeIn K (.ref y12C) = some (.type "type")) (y12i : PySem.W.isClsIn K y12C = true) (y12m : PySem.W.subIn K (.ref y12C) (.ref y12C) = some true)
    (y121 : PySem.W.findIn K (.ref y12C) "__getattribute__" = some (some (.builtin "BaseException.__getattribute__"))) (y122 : PySem.W.findIn K (.ref y12C) "__getattr__" = some none) (y123 : PySem.W.hasDictIn K y12C = true) (y124 : PySem.W.findIn K (.ref y12C) "__class__" = some (some (.builtin "object.__class__"))) (y125 : PySem.W.mroIn K y12C (.type "object") = some true)
    (y12s : PySem.W.findIn K (.ref y12C) "__setattr__" = some (some (.builtin "object.__setattr__"))) (y12n : PySem.W.findIn K (.ref y12C) "named" = some none) (y12j : PySem.W.findIn K (.ref y12C) "__init__" = some (some (.ref y12I))) (y12y : PySem.W.typeIn K (.ref y12I) = some (.type "function")) (y12f : K.lookup y12I = some ⟨y12oc, y12od, .func (PySem.W.fnOf "__init__" "NoSaying.__init__" (eiA ⟨52, 17, 52, 21⟩) (eiB "NoSaying" ⟨53, 8, 53, 12⟩ ⟨53, 8, 53, 18⟩ ⟨53, 21, 53, 31⟩ ⟨53, 8, 53, 31⟩) eiS .none .none y12dc y12pm y12an y12cd y12ct), y12sl⟩) (y12g : PySem.W.codeIn K y12cd "NoSaying.__init__" = true)
    {y13w0 : Addr}
    {y13C y13I y13N : Addr} {y13nm y13q : Str} {y13bs : List Value} {y13sn : List Str} {y13sub : List Value} {y13ab : Bool} {y13col : Option Bool} {y13dd : Option Addr} {y13m0 y13m1 y13m2 y13m3 y13m5 : Option Value} {y13oc y13dc y13pm y13cd y13ct : Value} {y13od y13an : Option Addr} {y13sl : Array (Option Value)}
    (y13a : PySem.W.nsIn K mainGlobals "NoDeed" = some (some (.ref y13C))) (y13x : K.lookup y13C = some (excClassObj y13nm y13q y13C y13N y13bs [.ref y13w0, .type "ValueError", .type "Exception", .type "BaseException", .type "object"] true y13sn y13sub y13ab y13col y13dd y13m0 y13m1 y13m2 y13m3 y13m5 "ValueError.__new__")) (y13k : PySem.W.keepIn K (.ref y13C) = true) (y13b : PySem.W.subIn K (.ref y13C) (.type "BaseException") = some true) (y13t : PySem.W.typeIn K (.ref y13C) = some (.type "type")) (y13i : PySem.W.isClsIn K y13C = true) (y13m : PySem.W.subIn K (.ref y13C) (.ref y13C) = some true)
    (y131 : PySem.W.findIn K (.ref y13C) "__getattribute__" = some (some (.builtin "BaseException.__getattribute__"))) (y132 : PySem.W.findIn K (.ref y13C) "__getattr__" = some none) (y133 : PySem.W.hasDictIn K y13C = true) (y134 : PySem.W.findIn K (.ref y13C) "__class__" = some (some (.builtin "object.__class__"))) (y135 : PySem.W.mroIn K y13C (.type "object") = some true)
    (y13s : PySem.W.findIn K (.ref y13C) "__setattr__" = some (some (.builtin "object.__setattr__"))) (y13n : PySem.W.findIn K (.ref y13C) "named" = some none) (y13j : PySem.W.findIn K (.ref y13C) "__init__" = some (some (.ref y13I))) (y13y : PySem.W.typeIn K (.ref y13I) = some (.type "function")) (y13f : K.lookup y13I = some ⟨y13oc, y13od, .func (PySem.W.fnOf "__init__" "NoDeed.__init__" (eiA ⟨56, 17, 56, 21⟩) (eiB "NoDeed" ⟨57, 8, 57, 12⟩ ⟨57, 8, 57, 18⟩ ⟨57, 21, 57, 29⟩ ⟨57, 8, 57, 29⟩) eiS .none .none y13dc y13pm y13an y13cd y13ct), y13sl⟩) (y13g : PySem.W.codeIn K y13cd "NoDeed.__init__" = true)
    {y14w0 : Addr}
    {y14C y14I y14N : Addr} {y14nm y14q : Str} {y14bs : List Value} {y14sn : List Str} {y14sub : List Value} {y14ab : Bool} {y14col : Option Bool} {y14dd : Option Addr} {y14m0 y14m1 y14m2 y14m3 y14m5 : Option Value} {y14oc y14dc y14pm y14cd y14ct : Value} {y14od y14an : Option Addr} {y14sl : Array (Option Value)}
    (y14a : PySem.W.nsIn K mainGlobals "NoStep" = some (some (.ref y14C))) (y14x : K.lookup y14C = some (excClassObj y14nm y14q y14C y14N y14bs [.ref y14w0, .type "ValueError", .type "Exception", .type "BaseException", .type "object"] true y14sn y14sub y14ab y14col y14dd y14m0 y14m1 y14m2 y14m3 y14m5 "ValueError.__new__")) (y14k : PySem.W.keepIn K (.ref y14C) = true) (y14b : PySem.W.subIn K (.ref y14C) (.type "BaseException") = some true) (y14t : PySem.W.typeIn K (.ref y14C) = some (.type "type")) (y14i : PySem.W.isClsIn K y14C = true) (y14m : PySem.W.subIn K (.ref y14C) (.ref y14C) = some true)
    (y141 : PySem.W.findIn K (.ref y14C) "__getattribute__" = some (some (.builtin "BaseException.__getattribute__"))) (y142 : PySem.W.findIn K (.ref y14C) "__getattr__" = some none) (y143 : PySem.W.hasDictIn K y14C = true) (y144 : PySem.W.findIn K (.ref y14C) "__class__" = some (some (.builtin "object.__class__"))) (y145 : PySem.W.mroIn K y14C (.type "object") = some true)
    (y14s : PySem.W.findIn K (.ref y14C) "__setattr__" = some (some (.builtin "object.__setattr__"))) (y14n : PySem.W.findIn K (.ref y14C) "named" = some none) (y14j : PySem.W.findIn K (.ref y14C) "__init__" = some (some (.ref y14I))) (y14y : PySem.W.typeIn K (.ref y14I) = some (.type "function")) (y14f : K.lookup y14I = some ⟨y14oc, y14od, .func (PySem.W.fnOf "__init__" "NoStep.__init__" (eiA ⟨60, 17, 60, 21⟩) (eiB "NoStep" ⟨61, 8, 61, 12⟩ ⟨61, 8, 61, 18⟩ ⟨61, 21, 61, 29⟩ ⟨61, 8, 61, 29⟩) eiS .none .none y14dc y14pm y14an y14cd y14ct), y14sl⟩) (y14g : PySem.W.codeIn K y14cd "NoStep.__init__" = true)
    {y15w0 : Addr}
    {y15C y15I y15N : Addr} {y15nm y15q : Str} {y15bs : List Value} {y15sn : List Str} {y15sub : List Value} {y15ab : Bool} {y15col : Option Bool} {y15dd : Option Addr} {y15m0 y15m1 y15m2 y15m3 y15m5 : Option Value} {y15oc y15dc y15pm y15cd y15ct : Value} {y15od y15an : Option Addr} {y15sl : Array (Option Value)}
    (y15a : PySem.W.nsIn K mainGlobals "NoText" = some (some (.ref y15C))) (y15x : K.lookup y15C = some (excClassObj y15nm y15q y15C y15N y15bs [.ref y15w0, .type "ValueError", .type "Exception", .type "BaseException", .type "object"] true y15sn y15sub y15ab y15col y15dd y15m0 y15m1 y15m2 y15m3 y15m5 "ValueError.__new__")) (y15k : PySem.W.keepIn K (.ref y15C) = true) (y15b : PySem.W.subIn K (.ref y15C) (.type "BaseException") = some true) (y15t : PySem.W.typeIn K (.ref y15C) = some (.type "type")) (y15i : PySem.W.isClsIn K y15C = true) (y15m : PySem.W.subIn K (.ref y15C) (.ref y15C) = some true)
    (y151 : PySem.W.findIn K (.ref y15C) "__getattribute__" = some (some (.builtin "BaseException.__getattribute__"))) (y152 : PySem.W.findIn K (.ref y15C) "__getattr__" = some none) (y153 : PySem.W.hasDictIn K y15C = true) (y154 : PySem.W.findIn K (.ref y15C) "__class__" = some (some (.builtin "object.__class__"))) (y155 : PySem.W.mroIn K y15C (.type "object") = some true)
    (y15s : PySem.W.findIn K (.ref y15C) "__setattr__" = some (some (.builtin "object.__setattr__"))) (y15n : PySem.W.findIn K (.ref y15C) "named" = some none) (y15j : PySem.W.findIn K (.ref y15C) "__init__" = some (some (.ref y15I))) (y15y : PySem.W.typeIn K (.ref y15I) = some (.type "function")) (y15f : K.lookup y15I = some ⟨y15oc, y15od, .func (PySem.W.fnOf "__init__" "NoText.__init__" (eiA ⟨64, 17, 64, 21⟩) (eiB "NoText" ⟨65, 8, 65, 12⟩ ⟨65, 8, 65, 18⟩ ⟨65, 21, 65, 29⟩ ⟨65, 8, 65, 29⟩) eiS .none .none y15dc y15pm y15an y15cd y15ct), y15sl⟩) (y15g : PySem.W.codeIn K y15cd "NoText.__init__" = true)
    (yg : PySem.W.specialIn K (.builtin "object.__class__") "__get__" = some (some (.builtin "getset_descriptor.__get__"))) (yt : PySem.W.takesIn K (.builtin "object.__class__") = some true)
    (z0 : PySem.W.subIn K (.ref y4C) (.ref y0C) = some true)
    (z1 : PySem.W.subIn K (.ref y4C) (.ref y1C) = some false)
    (z2 : PySem.W.subIn K (.ref y4C) (.ref y2C) = some false)
    (z3 : PySem.W.subIn K (.ref y4C) (.ref y3C) = some false)
    (z4 : PySem.W.subIn K (.ref y4C) (.ref y4C) = some true)
    (z5 : PySem.W.subIn K (.ref y4C) (.ref y5C) = some false)
    (z6 : PySem.W.subIn K (.ref y4C) (.ref y6C) = some false)
    (z7 : PySem.W.subIn K (.ref y4C) (.ref y7C) = some false)
    (z8 : PySem.W.subIn K (.ref y4C) (.ref y8C) = some false)
    (z9 : PySem.W.subIn K (.ref y4C) (.ref y9C) = some false)
    (z10 : PySem.W.subIn K (.ref y4C) (.ref y10C) = some false)
    (z11 : PySem.W.subIn K (.ref y4C) (.ref y11C) = some false)
    (z12 : PySem.W.subIn K (.ref y4C) (.ref y12C) = some false)
    (z13 : PySem.W.subIn K (.ref y4C) (.ref y13C) = some false)
    (z14 : PySem.W.subIn K (.ref y4C) (.ref y14C) = some false)
    (z15 : PySem.W.subIn K (.ref y4C) (.ref y15C) = some false)
    (z16 : PySem.W.subIn K (.ref y4C) (.type "ValueError") = some true)
    (z17 : PySem.W.subIn K (.ref y2C) (.ref y0C) = some true)
    (z18 : PySem.W.subIn K (.ref y2C) (.ref y1C) = some false)
    (z19 : PySem.W.subIn K (.ref y2C) (.ref y2C) = some true)
    (z20 : PySem.W.subIn K (.ref y2C) (.ref y3C) = some false)
    (z21 : PySem.W.subIn K (.ref y2C) (.ref y4C) = some false)
    (z22 : PySem.W.subIn K (.ref y2C) (.ref y5C) = some false)
    (z23 : PySem.W.subIn K (.ref y2C) (.ref y6C) = some false)
    (z24 : PySem.W.subIn K (.ref y2C) (.ref y7C) = some false)
    (z25 : PySem.W.subIn K (.ref y2C) (.ref y8C) = some false)
    (z26 : PySem.W.subIn K (.ref y2C) (.ref y9C) = some false)
    (z27 : PySem.W.subIn K (.ref y2C) (.ref y10C) = some false)
    (z28 : PySem.W.subIn K (.ref y2C) (.ref y11C) = some false)
    (z29 : PySem.W.subIn K (.ref y2C) (.ref y12C) = some false)
    (z30 : PySem.W.subIn K (.ref y2C) (.ref y13C) = some false)
    (z31 : PySem.W.subIn K (.ref y2C) (.ref y14C) = some false)
    (z32 : PySem.W.subIn K (.ref y2C) (.ref y15C) = some false)
    (z33 : PySem.W.subIn K (.ref y2C) (.type "ValueError") = some true)
    : ∃ fd : FuncData, (∀ (s : Shared) (v : Value), BindsTo s fd ⟨[v], []⟩ [("_law_script", v)]) ∧ ∀ base : Heap, K.In base → base.Ns mainGlobals mg → base.NoSeer → FnG l.prog w K mg base 39 fa fd ["_law_script"] (sp_law K) := by
  have e := hfa.symm.trans (PySem.W.mg_of X G a16)
  cases e
  have F0 := fun_mk (st := s_beside) l0 c0 k0
  have b0 := F0.binds (ps := ["one", "other"]) fun _ _ _ _ _ _ us hl => match us, hl with | [_, _], _ => rfl
  have F1 := fun_mk (st := s_part_of) l1 c1 k1
  have b1 := F1.binds (ps := ["letters", "world", "some"]) fun _ _ _ _ _ _ us hl => match us, hl with | [_, _, _], _ => rfl
  have F2 := fun_mk (st := s_l_draws) l2 c2 k2
  have b2 := F2.binds (ps := ["_law_script"]) fun _ _ _ _ _ _ us hl => match us, hl with | [_], _ => rfl
  have F3 := fun_mk (st := s_l_next) l3 c3 k3
  have b3 := F3.binds (ps := ["_law_drawn", "_law_many"]) fun _ _ _ _ _ _ us hl => match us, hl with | [_, _], _ => rfl
  have F4 := fun_mk (st := s_l_saying) l4 c4 k4
  have b4 := F4.binds (ps := ["_law_drawn", "_law_letters_here", "_law_leaves"]) fun _ _ _ _ _ _ us hl => match us, hl with | [_, _, _], _ => rfl
  have F5 := fun_mk (st := s_l_letters) l5 c5 k5
  have b5 := F5.binds (ps := ["_law_drawn", "_law_most"]) fun _ _ _ _ _ _ us hl => match us, hl with | [_, _], _ => rfl
  have F6 := fun_mk (st := s_l_holds) l6 c6 k6
  have b6 := F6.binds (ps := ["_law_letters_here", "_law_saying_here", "_law_world"]) fun _ _ _ _ _ _ us hl => match us, hl with | [_, _, _], _ => rfl
  have F7 := fun_mk (st := s_l_worlds) l7 c7 k7
  have b7 := F7.binds (ps := ["_law_house_here"]) fun _ _ _ _ _ _ us hl => match us, hl with | [_], _ => rfl
  have F8 := fun_mk (st := s_l_house) l8 c8 k8
  have b8 := F8.binds (ps := ["_law_drawn", "_law_most"]) fun _ _ _ _ _ _ us hl => match us, hl with | [_, _], _ => rfl
  have F9 := fun_mk (st := s_l_refusal) l9 c9 k9
  have b9 := F9.binds (ps := ["_law_e"]) fun _ _ _ _ _ _ us hl => match us, hl with | [_], _ => rfl
  have F10 := fun_mk (st := s_l_full) l10 c10 k10
  have b10 := F10.binds (ps := ["_law_drawn", "_law_house_here"]) fun _ _ _ _ _ _ us hl => match us, hl with | [_, _], _ => rfl
  have F11 := fun_mk (st := s_l_other) l11 c11 k11
  have b11 := F11.binds (ps := ["_law_drawn", "_law_house_here"]) fun _ _ _ _ _ _ us hl => match us, hl with | [_, _], _ => rfl
  have F12 := fun_mk (st := s_l_due) l12 c12 k12
  have b12 := F12.binds (ps := ["_law_one", "_law_other_here"]) fun _ _ _ _ _ _ us hl => match us, hl with | [_, _], _ => rfl
  have F13 := fun_mk (st := s_l_told) l13 c13 k13
  have b13 := F13.binds (ps := ["_law_one", "_law_other_here"]) fun _ _ _ _ _ _ us hl => match us, hl with | [_, _], _ => rfl
  have F14 := fun_mk (st := s_l_part) l14 c14 k14
  have b14 := F14.binds (ps := ["_law_letters_here", "_law_world", "_law_some"]) fun _ _ _ _ _ _ us hl => match us, hl with | [_, _, _], _ => rfl
  have F15 := fun_mk (st := s_l_parts_right) l15 c15 k15
  have b15 := F15.binds (ps := ["_law_drawn", "_law_letters_here", "_law_worlds_here", "_law_one", "_law_other_here"]) fun _ _ _ _ _ _ us hl => match us, hl with | [_, _, _, _, _], _ => rfl
  have F16 := fun_mk (st := s_law) l16 c16 k16
  have b16 := F16.binds (ps := ["_law_script"]) fun _ _ _ _ _ _ us hl => match us, hl with | [_], _ => rfl
  exact ⟨_, fun s v => .of_eq rfl, fun base _ _ seen => (g_of (ok_law ⟨⟨_, _, F0, b0, PySem.W.mg_of X G a0⟩, ⟨_, _, F1, b1, PySem.W.mg_of X G a1⟩, ⟨_, _, F2, b2, PySem.W.mg_of X G a2⟩, ⟨_, _, F3, b3, PySem.W.mg_of X G a3⟩, ⟨_, _, F4, b4, PySem.W.mg_of X G a4⟩, ⟨_, _, F5, b5, PySem.W.mg_of X G a5⟩, ⟨_, _, F6, b6, PySem.W.mg_of X G a6⟩, ⟨_, _, F7, b7, PySem.W.mg_of X G a7⟩, ⟨_, _, F8, b8, PySem.W.mg_of X G a8⟩, ⟨_, _, F9, b9, PySem.W.mg_of X G a9⟩, ⟨_, _, F10, b10, PySem.W.mg_of X G a10⟩, ⟨_, _, F11, b11, PySem.W.mg_of X G a11⟩, ⟨_, _, F12, b12, PySem.W.mg_of X G a12⟩, ⟨_, _, F13, b13, PySem.W.mg_of X G a13⟩, ⟨_, _, F14, b14, PySem.W.mg_of X G a14⟩, ⟨_, _, F15, b15, PySem.W.mg_of X G a15⟩, ⟨_, _, F16, b16, PySem.W.mg_of X G a16⟩, PySem.W.mg_none_of X G z_ValueError, PySem.W.mg_none_of X G z_any, PySem.W.mg_none_of X G z_int, PySem.W.mg_none_of X G z_isinstance, PySem.W.mg_none_of X G z_len, PySem.W.mg_none_of X G z_list, PySem.W.mg_none_of X G z_max, PySem.W.mg_none_of X G z_range, PySem.W.mg_none_of X G z_sorted, PySem.W.mg_none_of X G z_str, PySem.W.mg_none_of X G z_tuple, PySem.W.mg_none_of X G z_zip, tc0, PySem.W.mg_of X G q0, tc1, PySem.W.mg_of X G q1, ⟨y0C, y0a, PySem.W.mg_of X G y0a, y0k, y0b, y0t, y0i, y0m, ⟨y01, y02, y0b, y03, y04, yg, yt, y05⟩, ⟨_, _, _, _, _, _, _, _, _, _, _, _, _, _, _, y0x, refs_base⟩, y0s, y0n, y0I, y0j, y0y, ⟨_, _, _, _, _, _, _, _, _, _, _, _, _, _, y0f, y0g⟩⟩, ⟨y1C, y1a, PySem.W.mg_of X G y1a, y1k, y1b, y1t, y1i, y1m, ⟨y11, y12, y1b, y13, y14, yg, yt, y15⟩, ⟨_, _, _, _, _, _, _, _, _, _, _, _, _, _, _, y1x, (refs_step refs_base)⟩, y1s, y1n, y1I, y1j, y1y, ⟨_, _, _, _, _, _, _, _, _, _, _, _, _, _, y1f, y1g⟩⟩, ⟨y2C, y2a, PySem.W.mg_of X G y2a, y2k, y2b, y2t, y2i, y2m, ⟨y21, y22, y2b, y23, y24, yg, yt, y25⟩, ⟨_, _, _, _, _, _, _, _, _, _, _, _, _, _, _, y2x, (refs_step refs_base)⟩, y2s, y2n, y2I, y2j, y2y, ⟨_, _, _, _, _, _, _, _, _, _, _, _, _, _, y2f, y2g⟩⟩, ⟨y3C, y3a, PySem.W.mg_of X G y3a, y3k, y3b, y3t, y3i, y3m, ⟨y31, y32, y3b, y33, y34, yg, yt, y35⟩, ⟨_, _, _, _, _, _, _, _, _, _, _, _, _, _, _, y3x, (refs_step refs_base)⟩, y3s, y3n, y3I, y3j, y3y, ⟨_, _, _, _, _, _, _, _, _, _, _, _, _, _, y3f, y3g⟩⟩, ⟨y4C, y4a, PySem.W.mg_of X G y4a, y4k, y4b, y4t, y4i, y4m, ⟨y41, y42, y4b, y43, y44, yg, yt, y45⟩, ⟨_, _, _, _, _, _, _, _, _, _, _, _, _, _, _, y4x, (refs_step refs_base)⟩, y4s, y4n, y4I, y4j, y4y, ⟨_, _, _, _, _, _, _, _, _, _, _, _, _, _, y4f, y4g⟩⟩, ⟨y5C, y5a, PySem.W.mg_of X G y5a, y5k, y5b, y5t, y5i, y5m, ⟨y51, y52, y5b, y53, y54, yg, yt, y55⟩, ⟨_, _, _, _, _, _, _, _, _, _, _, _, _, _, _, y5x, (refs_step refs_base)⟩, y5s, y5n, y5I, y5j, y5y, ⟨_, _, _, _, _, _, _, _, _, _, _, _, _, _, y5f, y5g⟩⟩, ⟨y6C, y6a, PySem.W.mg_of X G y6a, y6k, y6b, y6t, y6i, y6m, ⟨y61, y62, y6b, y63, y64, yg, yt, y65⟩, ⟨_, _, _, _, _, _, _, _, _, _, _, _, _, _, _, y6x, (refs_step refs_base)⟩, y6s, y6n, y6I, y6j, y6y, ⟨_, _, _, _, _, _, _, _, _, _, _, _, _, _, y6f, y6g⟩⟩, ⟨y7C, y7a, PySem.W.mg_of X G y7a, y7k, y7b, y7t, y7i, y7m, ⟨y71, y72, y7b, y73, y74, yg, yt, y75⟩, ⟨_, _, _, _, _, _, _, _, _, _, _, _, _, _, _, y7x, (refs_step refs_base)⟩, y7s, y7n, y7I, y7j, y7y, ⟨_, _, _, _, _, _, _, _, _, _, _, _, _, _, y7f, y7g⟩⟩, ⟨y8C, y8a, PySem.W.mg_of X G y8a, y8k, y8b, y8t, y8i, y8m, ⟨y81, y82, y8b, y83, y84, yg, yt, y85⟩, ⟨_, _, _, _, _, _, _, _, _, _, _, _, _, _, _, y8x, (refs_step refs_base)⟩, y8s, y8n, y8I, y8j, y8y, ⟨_, _, _, _, _, _, _, _, _, _, _, _, _, _, y8f, y8g⟩⟩, ⟨y9C, y9a, PySem.W.mg_of X G y9a, y9k, y9b, y9t, y9i, y9m, ⟨y91, y92, y9b, y93, y94, yg, yt, y95⟩, ⟨_, _, _, _, _, _, _, _, _, _, _, _, _, _, _, y9x, (refs_step refs_base)⟩, y9s, y9n, y9I, y9j, y9y, ⟨_, _, _, _, _, _, _, _, _, _, _, _, _, _, y9f, y9g⟩⟩, ⟨y10C, y10a, PySem.W.mg_of X G y10a, y10k, y10b, y10t, y10i, y10m, ⟨y101, y102, y10b, y103, y104, yg, yt, y105⟩, ⟨_, _, _, _, _, _, _, _, _, _, _, _, _, _, _, y10x, (refs_step refs_base)⟩, y10s, y10n, y10I, y10j, y10y, ⟨_, _, _, _, _, _, _, _, _, _, _, _, _, _, y10f, y10g⟩⟩, ⟨y11C, y11a, PySem.W.mg_of X G y11a, y11k, y11b, y11t, y11i, y11m, ⟨y111, y112, y11b, y113, y114, yg, yt, y115⟩, ⟨_, _, _, _, _, _, _, _, _, _, _, _, _, _, _, y11x, (refs_step refs_base)⟩, y11s, y11n, y11I, y11j, y11y, ⟨_, _, _, _, _, _, _, _, _, _, _, _, _, _, y11f, y11g⟩⟩, ⟨y12C, y12a, PySem.W.mg_of X G y12a, y12k, y12b, y12t, y12i, y12m, ⟨y121, y122, y12b, y123, y124, yg, yt, y125⟩, ⟨_, _, _, _, _, _, _, _, _, _, _, _, _, _, _, y12x, (refs_step refs_base)⟩, y12s, y12n, y12I, y12j, y12y, ⟨_, _, _, _, _, _, _, _, _, _, _, _, _, _, y12f, y12g⟩⟩, ⟨y13C, y13a, PySem.W.mg_of X G y13a, y13k, y13b, y13t, y13i, y13m, ⟨y131, y132, y13b, y133, y134, yg, yt, y135⟩, ⟨_, _, _, _, _, _, _, _, _, _, _, _, _, _, _, y13x, (refs_step refs_base)⟩, y13s, y13n, y13I, y13j, y13y, ⟨_, _, _, _, _, _, _, _, _, _, _, _, _, _, y13f, y13g⟩⟩, ⟨y14C, y14a, PySem.W.mg_of X G y14a, y14k, y14b, y14t, y14i, y14m, ⟨y141, y142, y14b, y143, y144, yg, yt, y145⟩, ⟨_, _, _, _, _, _, _, _, _, _, _, _, _, _, _, y14x, (refs_step refs_base)⟩, y14s, y14n, y14I, y14j, y14y, ⟨_, _, _, _, _, _, _, _, _, _, _, _, _, _, y14f, y14g⟩⟩, ⟨y15C, y15a, PySem.W.mg_of X G y15a, y15k, y15b, y15t, y15i, y15m, ⟨y151, y152, y15b, y153, y154, yg, yt, y155⟩, ⟨_, _, _, _, _, _, _, _, _, _, _, _, _, _, _, y15x, (refs_step refs_base)⟩, y15s, y15n, y15I, y15j, y15y, ⟨_, _, _, _, _, _, _, _, _, _, _, _, _, _, y15f, y15g⟩⟩, z0, z1, z2, z3, z4, z5, z6, z7, z8, z9, z10, z11, z12, z13, z14, z15, z16, z17, z18, z19, z20, z21, z22, z23, z24, z25, z26, z27, z28, z29, z30, z31, z32, z33⟩ ⟨tree, seen⟩))⟩
end B
open PySem PySem.W PyProof.Rows
set_option maxRecDepth 100000 in
set_option maxHeartbeats 0 in
theorem PySem.Challenge.cw_betstall_k65_beside_holds : PySem.Challenge.rw_betstall_k65_beside.Holds := by
  w_on; o_law; k_head; (case hw => w_witness2)
  k_fill
  refine B.walkG (l := PySem.Challenge.rw_betstall_k65_beside) (n := 63) (k := 39) (x := "_law_script") (sp := fun w => B.sp_law _) (by decide +kernel) rfl (by decide) rfl ⟨rfl, by decide, by decide⟩ (fun w h Y => PySem.W.kIn_of Y) ?F (fun _ _ a ns hl hb _ hS => ⟨a, ns, rfl, hS, hl, hb, fun _ => rfl⟩)
  case F =>
    intro w mg fa h KX G hmg
    refine' B.all_mk rfl KX G hmg ?a0 ?l0 ?c0 ?k0 ?a1 ?l1 ?c1 ?k1 ?a2 ?l2 ?c2 ?k2 ?a3 ?l3 ?c3 ?k3 ?a4 ?l4 ?c4 ?k4 ?a5 ?l5 ?c5 ?k5 ?a6 ?l6 ?c6 ?k6 ?a7 ?l7 ?c7 ?k7 ?a8 ?l8 ?c8 ?k8 ?a9 ?l9 ?c9 ?k9 ?a10 ?l10 ?c10 ?k10 ?a11 ?l11 ?c11 ?k11 ?a12 ?l12 ?c12 ?k12 ?a13 ?l13 ?c13 ?k13 ?a14 ?l14 ?c14 ?k14 ?a15 ?l15 ?c15 ?k15 ?a16 ?l16 ?c16 ?k16 ?z_ValueError ?z_any ?z_int ?z_isinstance ?z_len ?z_list ?z_max ?z_range ?z_sorted ?z_str ?z_tuple ?z_zip ?q0 ?q1 ?y0a ?y0x ?y0k ?y0b ?y0t ?y0i ?y0m ?y01 ?y02 ?y03 ?y04 ?y05 ?y0s ?y0n ?y0j ?y0y ?y0f ?y0g ?y1a ?y1x ?y1k ?y1b ?y1t ?y1i ?y1m ?y11 ?y12 ?y13 ?y14 ?y15 ?y1s ?y1n ?y1j ?y1y ?y1f ?y1g ?y2a ?y2x ?y2k ?y2b ?y2t ?y2i ?y2m ?y21 ?y22 ?y23 ?y24 ?y25 ?y2s ?y2n ?y2j ?y2y ?y2f ?y2g ?y3a ?y3x ?y3k ?y3b ?y3t ?y3i ?y3m ?y31 ?y32 ?y33 ?y34 ?y35 ?y3s ?y3n ?y3j ?y3y ?y3f ?y3g ?y4a ?y4x ?y4k ?y4b ?y4t ?y4i ?y4m ?y41 ?y42 ?y43 ?y44 ?y45 ?y4s ?y4n ?y4j ?y4y ?y4f ?y4g ?y5a ?y5x ?y5k ?y5b ?y5t ?y5i ?y5m ?y51 ?y52 ?y53 ?y54 ?y55 ?y5s ?y5n ?y5j ?y5y ?y5f ?y5g ?y6a ?y6x ?y6k ?y6b ?y6t ?y6i ?y6m ?y61 ?y62 ?y63 ?y64 ?y65 ?y6s ?y6n ?y6j ?y6y ?y6f ?y6g ?y7a ?y7x ?y7k ?y7b ?y7t ?y7i ?y7m ?y71 ?y72 ?y73 ?y74 ?y75 ?y7s ?y7n ?y7j ?y7y ?y7f ?y7g ?y8a ?y8x ?y8k ?y8b ?y8t ?y8i ?y8m ?y81 ?y82 ?y83 ?y84 ?y85 ?y8s ?y8n ?y8j ?y8y ?y8f ?y8g ?y9a ?y9x ?y9k ?y9b ?y9t ?y9i ?y9m ?y91 ?y92 ?y93 ?y94 ?y95 ?y9s ?y9n ?y9j ?y9y ?y9f ?y9g ?y10a ?y10x ?y10k ?y10b ?y10t ?y10i ?y10m ?y101 ?y102 ?y103 ?y104 ?y105 ?y10s ?y10n ?y10j ?y10y ?y10f ?y10g ?y11a ?y11x ?y11k ?y11b ?y11t ?y11i ?y11m ?y111 ?y112 ?y113 ?y114 ?y115 ?y11s ?y11n ?y11j ?y11y ?y11f ?y11g ?y12a ?y12x ?y12k ?y12b ?y12t ?y12i ?y12m ?y121 ?y122 ?y123 ?y124 ?y125 ?y12s ?y12n ?y12j ?y12y ?y12f ?y12g ?y13a ?y13x ?y13k ?y13b ?y13t ?y13i ?y13m ?y131 ?y132 ?y133 ?y134 ?y135 ?y13s ?y13n ?y13j ?y13y ?y13f ?y13g ?y14a ?y14x ?y14k ?y14b ?y14t ?y14i ?y14m ?y141 ?y142 ?y143 ?y144 ?y145 ?y14s ?y14n ?y14j ?y14y ?y14f ?y14g ?y15a ?y15x ?y15k ?y15b ?y15t ?y15i ?y15m ?y151 ?y152 ?y153 ?y154 ?y155 ?y15s ?y15n ?y15j ?y15y ?y15f ?y15g ?yg ?yt ?z0 ?z1 ?z2 ?z3 ?z4 ?z5 ?z6 ?z7 ?z8 ?z9 ?z10 ?z11 ?z12 ?z13 ?z14 ?z15 ?z16 ?z17 ?z18 ?z19 ?z20 ?z21 ?z22 ?z23 ?z24 ?z25 ?z26 ?z27 ?z28 ?z29 ?z30 ?z31 ?z32 ?z33
    (case a0 => k_is); (case l0 => k_is); (case c0 => k_is); (case k0 => k_is); (case a1 => k_is); (case l1 => k_is); (case c1 => k_is); (case k1 => k_is); (case a2 => k_is); (case l2 => k_is); (case c2 => k_is); (case k2 => k_is); (case a3 => k_is); (case l3 => k_is); (case c3 => k_is); (case k3 => k_is); (case a4 => k_is); (case l4 => k_is); (case c4 => k_is); (case k4 => k_is); (case a5 => k_is); (case l5 => k_is); (case c5 => k_is); (case k5 => k_is); (case a6 => k_is); (case l6 => k_is); (case c6 => k_is); (case k6 => k_is); (case a7 => k_is); (case l7 => k_is); (case c7 => k_is); (case k7 => k_is); (case a8 => k_is); (case l8 => k_is); (case c8 => k_is); (case k8 => k_is); (case a9 => k_is); (case l9 => k_is); (case c9 => k_is); (case k9 => k_is); (case a10 => k_is); (case l10 => k_is); (case c10 => k_is); (case k10 => k_is); (case a11 => k_is); (case l11 => k_is); (case c11 => k_is); (case k11 => k_is); (case a12 => k_is); (case l12 => k_is); (case c12 => k_is); (case k12 => k_is); (case a13 => k_is); (case l13 => k_is); (case c13 => k_is); (case k13 => k_is); (case a14 => k_is); (case l14 => k_is); (case c14 => k_is); (case k14 => k_is); (case a15 => k_is); (case l15 => k_is); (case c15 => k_is); (case k15 => k_is); (case a16 => k_is); (case l16 => k_is); (case c16 => k_is); (case k16 => k_is); (case z_ValueError => k_is); (case z_any => k_is); (case z_int => k_is); (case z_isinstance => k_is); (case z_len => k_is); (case z_list => k_is); (case z_max => k_is); (case z_range => k_is); (case z_sorted => k_is); (case z_str => k_is); (case z_tuple => k_is); (case z_zip => k_is); (case q0 => k_is); (case q1 => k_is); (case y0a => k_is); (case y0x => k_is); (case y0k => k_is); (case y0b => k_is); (case y0t => k_is); (case y0i => k_is); (case y0m => k_is); (case y01 => k_is); (case y02 => k_is); (case y03 => k_is); (case y04 => k_is); (case y05 => k_is); (case y0s => k_is); (case y0n => k_is); (case y0j => k_is); (case y0y => k_is); (case y0f => k_is); (case y0g => k_is); (case y1a => k_is); (case y1x => k_is); (case y1k => k_is); (case y1b => k_is); (case y1t => k_is); (case y1i => k_is); (case y1m => k_is); (case y11 => k_is); (case y12 => k_is); (case y13 => k_is); (case y14 => k_is); (case y15 => k_is); (case y1s => k_is); (case y1n => k_is); (case y1j => k_is); (case y1y => k_is); (case y1f => k_is); (case y1g => k_is); (case y2a => k_is); (case y2x => k_is); (case y2k => k_is); (case y2b => k_is); (case y2t => k_is); (case y2i => k_is); (case y2m => k_is); (case y21 => k_is); (case y22 => k_is); (case y23 => k_is); (case y24 => k_is); (case y25 => k_is); (case y2s => k_is); (case y2n => k_is); (case y2j => k_is); (case y2y => k_is); (case y2f => k_is); (case y2g => k_is); (case y3a => k_is); (case y3x => k_is); (case y3k => k_is); (case y3b => k_is); (case y3t => k_is); (case y3i => k_is); (case y3m => k_is); (case y31 => k_is); (case y32 => k_is); (case y33 => k_is); (case y34 => k_is); (case y35 => k_is); (case y3s => k_is); (case y3n => k_is); (case y3j => k_is); (case y3y => k_is); (case y3f => k_is); (case y3g => k_is); (case y4a => k_is); (case y4x => k_is); (case y4k => k_is); (case y4b => k_is); (case y4t => k_is); (case y4i => k_is); (case y4m => k_is); (case y41 => k_is); (case y42 => k_is); (case y43 => k_is); (case y44 => k_is); (case y45 => k_is); (case y4s => k_is); (case y4n => k_is); (case y4j => k_is); (case y4y => k_is); (case y4f => k_is); (case y4g => k_is); (case y5a => k_is); (case y5x => k_is); (case y5k => k_is); (case y5b => k_is); (case y5t => k_is); (case y5i => k_is); (case y5m => k_is); (case y51 => k_is); (case y52 => k_is); (case y53 => k_is); (case y54 => k_is); (case y55 => k_is); (case y5s => k_is); (case y5n => k_is); (case y5j => k_is); (case y5y => k_is); (case y5f => k_is); (case y5g => k_is); (case y6a => k_is); (case y6x => k_is); (case y6k => k_is); (case y6b => k_is); (case y6t => k_is); (case y6i => k_is); (case y6m => k_is); (case y61 => k_is); (case y62 => k_is); (case y63 => k_is); (case y64 => k_is); (case y65 => k_is); (case y6s => k_is); (case y6n => k_is); (case y6j => k_is); (case y6y => k_is); (case y6f => k_is); (case y6g => k_is); (case y7a => k_is); (case y7x => k_is); (case y7k => k_is); (case y7b => k_is); (case y7t => k_is); (case y7i => k_is); (case y7m => k_is); (case y71 => k_is); (case y72 => k_is); (case y73 => k_is); (case y74 => k_is); (case y75 => k_is); (case y7s => k_is); (case y7n => k_is); (case y7j => k_is); (case y7y => k_is); (case y7f => k_is); (case y7g => k_is); (case y8a => k_is); (case y8x => k_is); (case y8k => k_is); (case y8b => k_is); (case y8t => k_is); (case y8i => k_is); (case y8m => k_is); (case y81 => k_is); (case y82 => k_is); (case y83 => k_is); (case y84 => k_is); (case y85 => k_is); (case y8s => k_is); (case y8n => k_is); (case y8j => k_is); (case y8y => k_is); (case y8f => k_is); (case y8g => k_is); (case y9a => k_is); (case y9x => k_is); (case y9k => k_is); (case y9b => k_is); (case y9t => k_is); (case y9i => k_is); (case y9m => k_is); (case y91 => k_is); (case y92 => k_is); (case y93 => k_is); (case y94 => k_is); (case y95 => k_is); (case y9s => k_is); (case y9n => k_is); (case y9j => k_is); (case y9y => k_is); (case y9f => k_is); (case y9g => k_is); (case y10a => k_is); (case y10x => k_is); (case y10k => k_is); (case y10b => k_is); (case y10t => k_is); (case y10i => k_is); (case y10m => k_is); (case y101 => k_is); (case y102 => k_is); (case y103 => k_is); (case y104 => k_is); (case y105 => k_is); (case y10s => k_is); (case y10n => k_is); (case y10j => k_is); (case y10y => k_is); (case y10f => k_is); (case y10g => k_is); (case y11a => k_is); (case y11x => k_is); (case y11k => k_is); (case y11b => k_is); (case y11t => k_is); (case y11i => k_is); (case y11m => k_is); (case y111 => k_is); (case y112 => k_is); (case y113 => k_is); (case y114 => k_is); (case y115 => k_is); (case y11s => k_is); (case y11n => k_is); (case y11j => k_is); (case y11y => k_is); (case y11f => k_is); (case y11g => k_is); (case y12a => k_is); (case y12x => k_is); (case y12k => k_is); (case y12b => k_is); (case y12t => k_is); (case y12i => k_is); (case y12m => k_is); (case y121 => k_is); (case y122 => k_is); (case y123 => k_is); (case y124 => k_is); (case y125 => k_is); (case y12s => k_is); (case y12n => k_is); (case y12j => k_is); (case y12y => k_is); (case y12f => k_is); (case y12g => k_is); (case y13a => k_is); (case y13x => k_is); (case y13k => k_is); (case y13b => k_is); (case y13t => k_is); (case y13i => k_is); (case y13m => k_is); (case y131 => k_is); (case y132 => k_is); (case y133 => k_is); (case y134 => k_is); (case y135 => k_is); (case y13s => k_is); (case y13n => k_is); (case y13j => k_is); (case y13y => k_is); (case y13f => k_is); (case y13g => k_is); (case y14a => k_is); (case y14x => k_is); (case y14k => k_is); (case y14b => k_is); (case y14t => k_is); (case y14i => k_is); (case y14m => k_is); (case y141 => k_is); (case y142 => k_is); (case y143 => k_is); (case y144 => k_is); (case y145 => k_is); (case y14s => k_is); (case y14n => k_is); (case y14j => k_is); (case y14y => k_is); (case y14f => k_is); (case y14g => k_is); (case y15a => k_is); (case y15x => k_is); (case y15k => k_is); (case y15b => k_is); (case y15t => k_is); (case y15i => k_is); (case y15m => k_is); (case y151 => k_is); (case y152 => k_is); (case y153 => k_is); (case y154 => k_is); (case y155 => k_is); (case y15s => k_is); (case y15n => k_is); (case y15j => k_is); (case y15y => k_is); (case y15f => k_is); (case y15g => k_is); (case yg => k_is); (case yt => k_is); (case z0 => k_is); (case z1 => k_is); (case z2 => k_is); (case z3 => k_is); (case z4 => k_is); (case z5 => k_is); (case z6 => k_is); (case z7 => k_is); (case z8 => k_is); (case z9 => k_is); (case z10 => k_is); (case z11 => k_is); (case z12 => k_is); (case z13 => k_is); (case z14 => k_is); (case z15 => k_is); (case z16 => k_is); (case z17 => k_is); (case z18 => k_is); (case z19 => k_is); (case z20 => k_is); (case z21 => k_is); (case z22 => k_is); (case z23 => k_is); (case z24 => k_is); (case z25 => k_is); (case z26 => k_is); (case z27 => k_is); (case z28 => k_is); (case z29 => k_is); (case z30 => k_is); (case z31 => k_is); (case z32 => k_is); (case z33 => k_is)
