import PyProof.Rows.All
import Wide.All
import OpenK.AllK
import Wide.FinOn
import KE.KExcInit
import KE.KExcPX
import KE.KTryMore
import HandS.ForMost
import HandS.ForExc
import HandS.Defaults
import HandS.TryMany
import HandS.Head0
import HandS.Head1
import HandS.Head2
import HandS.HeadEnd
import HandS.HeadHook1
import HandS.HeadHook2
import HandS.More
import HandS.Small
import HandS.NoneIn
import HandS.IsInst
import HandS.SetFor
import HandS.TupSets
import HandS.Conv
import HandS.Zip
import HandS.DictComp
import HandS.Iter
import HandS.Comp
import HandS.Lambda
import HandS.Nested
import HandS.NestedK
import HandS.Codes
import KE.GoesMore
import HandS.Walk
import HandS.SortInts
import HandS.EndTab
import HandS.HeadHook4
import HandS.Dict
import HandS.CallLocal
import HandS.DeepEq
import HandS.Deep
import PyProof.Rows.RegFStrParts
import KE.DataEq
import HandS.RevRange
import HandS.RaiseMore
import KE.SortCalls
import KE.KMathGC
import KE.DataFind
import HandS.SetKeys
import KE.IntBitsLaws
import HandS.TupAny
import HandS.Head3
import PySem.Challenge.RW_slowshelves_k02_whole_layouts_numbered
set_option Elab.async false
set_option linter.all false
set_option maxRecDepth 100000
set_option maxHeartbeats 0

/-! Errors of the program: one own base class over Exception, classes right below it whose maker keeps one thing (or none). -/
namespace Shf
open PySem PySem.W PySem.Calls PyProof.Rows
abbrev exB : List Value := [.type "Exception", .type "BaseException", .type "object"]
/-- the order of the classes looked through, from C on -/
abbrev mroE (S C : Addr) : List Value := [.ref C, .ref S, .type "Exception", .type "BaseException", .type "object"]
structure ErrC (K : Frag) (S C : Addr) : Prop where
  ini : excInitIn K C exB "Exception.__new__" = true
  ovr : excOver K C exB = true
  mro : ∃ cd, clsIn K C = some cd ∧ cd.mro = mroE S C ∧ cd.hasDict = true
  typ : typeIn K (.ref C) = some (.type "type")
  kp : keepIn K (.ref C) = true
  sa : findIn K (.ref C) "__setattr__" = some (some (.builtin "object.__setattr__"))
  ga : findIn K (.ref C) "__getattribute__" = some (some (.builtin "BaseException.__getattribute__"))
  gg : findIn K (.ref C) "__getattr__" = some none
def mroB (K : Frag) (S C : Addr) : Bool := match clsIn K C with
  | some cd => decide (cd.mro = mroE S C) && cd.hasDict
  | none => false
def oo (a b : Option (Option Value)) : Bool := decide (a = b)
def errB (K : Frag) (S C : Addr) : Bool :=
  excInitIn K C exB "Exception.__new__" && (excOver K C exB && (mroB K S C && (decide (typeIn K (.ref C) = some (.type "type")) && (keepIn K (.ref C) &&
    (oo (findIn K (.ref C) "__setattr__") (some (some (.builtin "object.__setattr__"))) && (oo (findIn K (.ref C) "__getattribute__") (some (some (.builtin "BaseException.__getattribute__"))) && oo (findIn K (.ref C) "__getattr__") (some none)))))))
theorem band {a b : Bool} (h : (a && b) = true) : a = true ∧ b = true := Bool.and_eq_true_iff.mp h
theorem errB_ok {K : Frag} {S C : Addr} (h : errB K S C = true) : ErrC K S C := by
  obtain ⟨h1, h⟩ := band h
  obtain ⟨h2, h⟩ := band h
  obtain ⟨h3, h⟩ := band h
  obtain ⟨h4, h⟩ := band h
  obtain ⟨h5, h⟩ := band h
  obtain ⟨h6, h⟩ := band h
  obtain ⟨h7, h8⟩ := band h
  refine ⟨h1, h2, ?_, of_decide_eq_true h4, h5, of_decide_eq_true h6, of_decide_eq_true h7, of_decide_eq_true h8⟩
  unfold mroB at h3
  cases q : clsIn K C with
  | none => rw [q] at h3; cases h3
  | some cd =>
    rw [q] at h3
    obtain ⟨a, b⟩ := band h3
    exact ⟨cd, rfl, of_decide_eq_true a, b⟩
section
variable {K : Frag} {S C D : Addr}
theorem ErrC.sub (T : ErrC K S C) (b : Value) : subIn K (.ref C) b = some ((mroE S C).contains b) := by
  obtain ⟨cd, hc, hm, _⟩ := T.mro
  show mroIn K C b = _
  unfold mroIn
  rw [hc, Option.bind_some, hm]
  rfl
theorem ErrC.exc (T : ErrC K S C) : subIn K (.ref C) (.type "BaseException") = some true := by
  rw [T.sub]
  simp
theorem ErrC.isCls (T : ErrC K S C) : (clsIn K C).isSome = true := by
  obtain ⟨cd, hc, _⟩ := T.mro
  rw [hc]
  rfl
/-- which clause takes which error -/
theorem ErrC.takes (T : ErrC K S C) (U : ErrC K S D) (hS : D ≠ S) : exmOne K (.ref C) (.ref D) = some (decide (D = C)) := by
  unfold exmOne
  rw [U.exc, if_pos (by decide)]
  show (if ((clsIn K D).isSome && typeIn K (.ref D) == some (.type "type")) = true then subIn K (.ref C) (.ref D) else none) = _
  rw [U.isCls, U.typ]
  have e : (true && (some (Value.type "type") == some (Value.type "type"))) = true := by simp
  rw [if_pos e, T.sub]
  by_cases h : D = C
  · subst h
    simp
  · simp [h, hS]
theorem ErrC.takesBase (T : ErrC K S C) (h1 : subIn K (.ref S) (.type "BaseException") = some true) (h2 : (clsIn K S).isSome = true) (h3 : typeIn K (.ref S) = some (.type "type")) : exmOne K (.ref C) (.ref S) = some true := by
  unfold exmOne
  rw [h1, if_pos (by decide)]
  show (if ((clsIn K S).isSome && typeIn K (.ref S) == some (.type "type")) = true then subIn K (.ref C) (.ref S) else none) = _
  rw [h2, h3]
  have e : (true && (some (Value.type "type") == some (Value.type "type"))) = true := by simp
  rw [if_pos e, T.sub]
  simp
end
/-! ### a thing kept: self.f = v on a new error -/
section
variable {prog : Program} {w : World} {A : Around} {E : Value → Shared → Prop} {R : Result → Shared → Prop} {K : Frag} {S C : Addr} {name : Str} {v : Value}
/-- what the store leaves -/
structure Kept (h h' : Heap) (x C dx t0 : Addr) (name : Str) (v : Value) : Prop where
  keep : ∀ b o, b ≠ x → h.get? b = some o → h'.get? b = some o
  obj : h'.get? x = some { cls := .ref C, dict := some dx, data := .fields #[.ref t0, .none, .none, .none, .bool false, .none] }
  big : h.objs.size ≤ dx
  ne : dx ≠ x
  ns : h'.Ns1 dx (fun y => if y = name then some v else none)
theorem store_err {s : Shared} {x t0 : Addr} {Q : Unit → Shared → Prop} (T : ErrC K S C) (X : K.In s.heap) (ht : takerIn K C name = some none) (hx : s.heap.get? x = some (PX.excO C t0))
    (hq : ∀ h' tk dx, Kept s.heap h' x C dx t0 name v → Q () { s with heap := h', toks := tk }) : wpAny (model prog w) A (setAttr (.ref x) name v) Q E s := by
  obtain ⟨cd, hc, hm, hd⟩ := T.mro
  have I : InstAt s.heap x (PX.excO C t0) C none := ⟨hx, rfl, rfl, trivial⟩
  refine set_plain X I T.sa ?_
  obtain ⟨hp, g, d, t, os⟩ := s
  refine osa_openX (r := none) F.store_Exception X I T.ovr ht fun b => ?_
  have hcls : Looks (model prog w) hp (classData C) cd := looks_clsIn X hc
  have hxs : x ≠ hp.objs.size := Nat.ne_of_lt (Heap.lt_size hx)
  obtain ⟨nm, bs, mro, ns, qn, hd', sn, sb, ab, col, del⟩ := cd
  dsimp only at hd
  subst hd
  dsimp only
  unfold Builtin.ObjectAttr.storeInOwnDict Builtin.ObjectAttr.ownDictForStores
  repeat (first
    | with_reducible refine PX.store_in_new ?_ ?_
    | with_reducible refine wpAny_loadPart_at hx ?_
    | with_reducible refine hcls.at ?_
    | wp_step)
  · have e1 : (hp.push { cls := .type "dict", data := .dict #[] }).get? hp.objs.size = some { cls := .type "dict", data := .dict #[] } := Heap.get?_push_at rfl rfl
    exact ⟨_, #[], _, (Heap.get?_update_ne _ _ _ _ hxs.symm).trans e1, rfl, fun e he => absurd he (by simp), fun _ => rfl⟩
  · intro h' tk' hn' hs
    have old : ∀ b o, hp.get? b = some o → (hp.push { cls := .type "dict", data := .dict #[] }).get? b = some o := fun b o e => Heap.get?_push_of_some _ e
    refine hq h' tk' hp.objs.size ⟨fun b o hb ho => ?_, (hs.2 x hxs).trans (Heap.get?_update_self _ (old x _ hx) rfl), Nat.le_refl _, hxs.symm, hn'⟩
    exact (hs.2 b (Nat.ne_of_lt (Heap.lt_size ho))).trans ((Heap.get?_update_ne _ _ _ _ hb).trans (old b o ho))
end
/-! ### the maker, and a made error -/

section
variable {prog : Program} {w : World} {A : Around} {E : Value → Shared → Prop} {R : Result → Shared → Prop} {s : Shared} {K : Frag} {S C fI : Addr}
theorem ld_loc {M : Model} {name : Str} {scope : Scope} {L a : Addr} {cd : Value} {m : Str → Option Value} {x : Str} {pos : Pos} {v : Value} {Q : Value → Shared → Prop} (hn : s.heap.Ns L m) (hv : m x = some v) (h : Q v s)
    (hk : scope.kind = .function := by rfl) (hl : (envOfC name scope L a cd).kindOf x = some .local := by rfl) (hd : (x == ("__debug__" : Str)) = false := by decide) :
    wpAny M A (eval (.Name x pos) (envOfC name scope L a cd)) Q E s := wpAny_Name (wpAny_loadName_local hk hl hn hv h) hd
/-- a made error: its object at e, its own dict (if it keeps a thing) at d -/
structure MadeE (h h' : Heap) (e C : Addr) (od : Option Addr) : Prop where
  keep : ∀ b o, h.get? b = some o → h'.get? b = some o
  new : h.objs.size ≤ e
  obj : ∃ oe vs, h'.get? e = some oe ∧ oe.cls = .ref C ∧ oe.dict = od ∧ oe.data = .fields vs ∧ vs[1]? = some .none
/-- the class called: a new object, then the maker -/
theorem made_err {us : List Value} (T : ErrC K S C) (hi : findIn K (.ref C) "__init__" = some (some (.ref fI))) (tI : typeIn K (.ref fI) = some (.type "function")) (X : K.In s.heap) (hl : us.length ≤ sizeLine)
    (hq : ∀ h1, (∀ b o, s.heap.get? b = some o → h1.get? b = some o) → h1.get? (s.heap.objs.size + 1) = some (PX.excO C s.heap.objs.size) → h1.objs.size = s.heap.objs.size + 2 →
      codeAny (model prog w) (A.under (.builtin "type.__call__" ⟨.ref C :: us, []⟩)) (.call (.ref fI) ⟨.ref (s.heap.objs.size + 1) :: us, []⟩) (InitBack (s.heap.objs.size + 1) R) { s with heap := h1 }) :
    codeAny (model prog w) A (.call (.ref C) ⟨us, []⟩) R s := by
  obtain ⟨nm, N, qn, bs, bm, hd, sn, sb, ab, col, dd, k0, k1, k2, k3, k5, hC, hT⟩ := excInit_of X T.ini
  obtain ⟨hp, g, dr, tk, os⟩ := s
  refine PX.call_own F.excBase_Exception hT hC (looks_findIn X hi) (fun self => bind_fn X self tI) hl ?_
  refine hq _ (fun b o e => Heap.get?_push_of_some _ (Heap.get?_push_of_some _ e)) ?_ ?_
  · heap_get
  · rw [Heap.size_push, Heap.size_push]

/-! #### one thing kept in at -/
def args_at (p1 p2 : Pos) : Arguments := { posonlyargs := [], args := [{ arg := "self", annotation := none, pos := p1 }, { arg := "at", annotation := none, pos := p2 }], vararg := none, kwonlyargs := [], kw_defaults := [], kwarg := none, defaults := [] }
def body_at (q1 q2 q3 q4 : Pos) : List Stmt := [.Assign [.Attribute (.Name "self" q1) "at" q2] (.Name "at" q3) q4]
def scope_at : Scope := { kind := .function, names := [(PySem.Str.ofString "self", .local), (PySem.Str.ofString "at", .local)], isGenerator := false, isCoroutine := false, more := [] }
structure Mkr_at (K : Frag) (S C fI : Addr) : Prop where
  cls : ErrC K S C
  tk : takerIn K C "at" = some none
  no : findIn K (.ref C) "at" = some none
  ini : findIn K (.ref C) "__init__" = some (some (.ref fI))
  tI : typeIn K (.ref fI) = some (.type "function")
  fn : ∃ (q : Str) (oc : Value) (od : Option Addr) (kV doc pm : Value) (an : Option Addr) (cdv ct : Value) (osl : Array (Option Value)) (p1 p2 q1 q2 q3 q4 : Pos),
    K.lookup fI = some ⟨oc, od, .func (fnOf "__init__" q (args_at p1 p2) (body_at q1 q2 q3 q4) scope_at .none kV doc pm an cdv ct), osl⟩ ∧ codeIn K cdv q = true
theorem run_at (T : Mkr_at K S C fI) {x t0 : Addr} {v : Value} (X : K.In s.heap) (hlim : s.heap.NoLimit) (hx : s.heap.get? x = some (PX.excO C t0)) (hroom : A.depth < recursionLimit)
    (hq : ∀ h' tk dx, Kept s.heap h' x C dx t0 "at" v → R (.ok (.ret .none)) { s with heap := h', toks := tk }) :
    codeAny (model prog w) A (.call (.ref fI) ⟨[.ref x, v], []⟩) R s := by
  obtain ⟨q, oc, od, kV, doc, pm, an, cdv, ct, osl, p1, p2, q1, q2, q3, q4, ho, hcd⟩ := T.fn
  refine Att.call_fn (binds := [("self", .ref x), ("at", v)]) X hlim ho hcd hroom (BindsTo.of_eq (by first | rfl | with_unfolding_all rfl)) (by first | rfl | decide | with_unfolding_all rfl) (fun s₁ IC => ?_) rfl rfl rfl
  obtain ⟨h1, tk1, rfl⟩ := IC.toInCall.same
  have k : ∀ b o, s.heap.get? b = some o → h1.get? b = some o := IC.toInCall.keep
  have hn := IC.toInCall.ns
  have X1 : K.In h1 := X.keeps k
  have z : s.heap.objs.size < h1.objs.size := hn.lt
  show wpAny _ _ (execs _ _) _ _ _
  refine wpAny_execs_cons (plainObj_wpAny_Assign_Attribute ?_)
  refine ld_loc (v := v) hn (by first | rfl | with_unfolding_all rfl | kernel_rfl) (ld_loc (v := .ref x) hn (by first | rfl | with_unfolding_all rfl | kernel_rfl) ?_)
  refine store_err T.cls X1 T.tk (k _ _ hx) fun h3 tk3 dx m => ?_
  show wpAny _ _ (execs _ _) _ _ _
  exact wpAny_execs_nil (hq h3 tk3 dx ⟨fun b o hb e => m.keep b o hb (k b o e), m.obj, Nat.le_of_lt (Nat.lt_of_lt_of_le z m.big), m.ne, m.ns⟩)
theorem make_at (T : Mkr_at K S C fI) {v : Value} (X : K.In s.heap) (hlim : s.heap.NoLimit) (hroom : A.depth + 1 < recursionLimit)
    (hq : ∀ h' tk e d, MadeE s.heap h' e C (some d) → s.heap.objs.size ≤ d → d ≠ e → h'.Ns1 d (fun y => if y = "at" then some v else none) → R (.ok (.ret (.ref e))) { s with heap := h', toks := tk }) :
    codeAny (model prog w) A (.call (.ref C) ⟨[v], []⟩) R s := by
  refine made_err T.cls T.ini T.tI X (by rw [sizeLine_eq]; exact (by decide : 1 ≤ 16777216)) fun h1 k he hsz => ?_
  obtain ⟨hp, g, dr, tk, os⟩ := s
  refine run_at (s := ⟨h1, g, dr, tk, os⟩) T (X.keeps k) (hlim.keeps k) he (by show A.depth + 1 < recursionLimit; exact hroom) fun h' tk' dx m => ?_
  have hsz' : h1.objs.size = hp.objs.size + 2 := hsz
  have big : hp.objs.size ≤ dx := by
    have y : h1.objs.size ≤ dx := m.big
    omega
  refine ⟨rfl, hq h' tk' (hp.objs.size + 1) dx ⟨fun b o e => m.keep b o (Nat.ne_of_lt (Nat.lt_succ_of_lt (Heap.lt_size e))) (k b o e), Nat.le_succ _, ⟨_, _, m.obj, rfl, rfl, rfl, rfl⟩⟩ big m.ne m.ns⟩


/-! #### one thing kept in word -/
def args_word (p1 p2 : Pos) : Arguments := { posonlyargs := [], args := [{ arg := "self", annotation := none, pos := p1 }, { arg := "word", annotation := none, pos := p2 }], vararg := none, kwonlyargs := [], kw_defaults := [], kwarg := none, defaults := [] }
def body_word (q1 q2 q3 q4 : Pos) : List Stmt := [.Assign [.Attribute (.Name "self" q1) "word" q2] (.Name "word" q3) q4]
def scope_word : Scope := { kind := .function, names := [(PySem.Str.ofString "self", .local), (PySem.Str.ofString "word", .local)], isGenerator := false, isCoroutine := false, more := [] }
structure Mkr_word (K : Frag) (S C fI : Addr) : Prop where
  cls : ErrC K S C
  tk : takerIn K C "word" = some none
  no : findIn K (.ref C) "word" = some none
  ini : findIn K (.ref C) "__init__" = some (some (.ref fI))
  tI : typeIn K (.ref fI) = some (.type "function")
  fn : ∃ (q : Str) (oc : Value) (od : Option Addr) (kV doc pm : Value) (an : Option Addr) (cdv ct : Value) (osl : Array (Option Value)) (p1 p2 q1 q2 q3 q4 : Pos),
    K.lookup fI = some ⟨oc, od, .func (fnOf "__init__" q (args_word p1 p2) (body_word q1 q2 q3 q4) scope_word .none kV doc pm an cdv ct), osl⟩ ∧ codeIn K cdv q = true
theorem run_word (T : Mkr_word K S C fI) {x t0 : Addr} {v : Value} (X : K.In s.heap) (hlim : s.heap.NoLimit) (hx : s.heap.get? x = some (PX.excO C t0)) (hroom : A.depth < recursionLimit)
    (hq : ∀ h' tk dx, Kept s.heap h' x C dx t0 "word" v → R (.ok (.ret .none)) { s with heap := h', toks := tk }) :
    codeAny (model prog w) A (.call (.ref fI) ⟨[.ref x, v], []⟩) R s := by
  obtain ⟨q, oc, od, kV, doc, pm, an, cdv, ct, osl, p1, p2, q1, q2, q3, q4, ho, hcd⟩ := T.fn
  refine Att.call_fn (binds := [("self", .ref x), ("word", v)]) X hlim ho hcd hroom (BindsTo.of_eq (by first | rfl | with_unfolding_all rfl)) (by first | rfl | decide | with_unfolding_all rfl) (fun s₁ IC => ?_) rfl rfl rfl
  obtain ⟨h1, tk1, rfl⟩ := IC.toInCall.same
  have k : ∀ b o, s.heap.get? b = some o → h1.get? b = some o := IC.toInCall.keep
  have hn := IC.toInCall.ns
  have X1 : K.In h1 := X.keeps k
  have z : s.heap.objs.size < h1.objs.size := hn.lt
  show wpAny _ _ (execs _ _) _ _ _
  refine wpAny_execs_cons (plainObj_wpAny_Assign_Attribute ?_)
  refine ld_loc (v := v) hn (by first | rfl | with_unfolding_all rfl | kernel_rfl) (ld_loc (v := .ref x) hn (by first | rfl | with_unfolding_all rfl | kernel_rfl) ?_)
  refine store_err T.cls X1 T.tk (k _ _ hx) fun h3 tk3 dx m => ?_
  show wpAny _ _ (execs _ _) _ _ _
  exact wpAny_execs_nil (hq h3 tk3 dx ⟨fun b o hb e => m.keep b o hb (k b o e), m.obj, Nat.le_of_lt (Nat.lt_of_lt_of_le z m.big), m.ne, m.ns⟩)
theorem make_word (T : Mkr_word K S C fI) {v : Value} (X : K.In s.heap) (hlim : s.heap.NoLimit) (hroom : A.depth + 1 < recursionLimit)
    (hq : ∀ h' tk e d, MadeE s.heap h' e C (some d) → s.heap.objs.size ≤ d → d ≠ e → h'.Ns1 d (fun y => if y = "word" then some v else none) → R (.ok (.ret (.ref e))) { s with heap := h', toks := tk }) :
    codeAny (model prog w) A (.call (.ref C) ⟨[v], []⟩) R s := by
  refine made_err T.cls T.ini T.tI X (by rw [sizeLine_eq]; exact (by decide : 1 ≤ 16777216)) fun h1 k he hsz => ?_
  obtain ⟨hp, g, dr, tk, os⟩ := s
  refine run_word (s := ⟨h1, g, dr, tk, os⟩) T (X.keeps k) (hlim.keeps k) he (by show A.depth + 1 < recursionLimit; exact hroom) fun h' tk' dx m => ?_
  have hsz' : h1.objs.size = hp.objs.size + 2 := hsz
  have big : hp.objs.size ≤ dx := by
    have y : h1.objs.size ≤ dx := m.big
    omega
  refine ⟨rfl, hq h' tk' (hp.objs.size + 1) dx ⟨fun b o e => m.keep b o (Nat.ne_of_lt (Nat.lt_succ_of_lt (Heap.lt_size e))) (k b o e), Nat.le_succ _, ⟨_, _, m.obj, rfl, rfl, rfl, rfl⟩⟩ big m.ne m.ns⟩

end

end Shf


namespace Shf
open PySem PySem.W PySem.Calls PyProof.Rows
section
variable {prog : Program} {w : World} {A : Around} {E : Value → Shared → Prop} {R : Result → Shared → Prop} {s : Shared} {K : Frag} {S C fI : Addr}
/-! #### nothing kept -/
def args_0 (p1 : Pos) : Arguments := { posonlyargs := [], args := [{ arg := "self", annotation := none, pos := p1 }], vararg := none, kwonlyargs := [], kw_defaults := [], kwarg := none, defaults := [] }
def scope_0 : Scope := { kind := .function, names := [(PySem.Str.ofString "self", .local)], isGenerator := false, isCoroutine := false, more := [] }
structure Mkr_0 (K : Frag) (S C fI : Addr) : Prop where
  cls : ErrC K S C
  ini : findIn K (.ref C) "__init__" = some (some (.ref fI))
  tI : typeIn K (.ref fI) = some (.type "function")
  fn : ∃ (q : Str) (oc : Value) (od : Option Addr) (kV doc pm : Value) (an : Option Addr) (cdv ct : Value) (osl : Array (Option Value)) (p1 q1 : Pos),
    K.lookup fI = some ⟨oc, od, .func (fnOf "__init__" q (args_0 p1) [.Pass q1] scope_0 .none kV doc pm an cdv ct), osl⟩ ∧ codeIn K cdv q = true
theorem make_0 (T : Mkr_0 K S C fI) (X : K.In s.heap) (hlim : s.heap.NoLimit) (hroom : A.depth + 1 < recursionLimit)
    (hq : ∀ h' tk e, MadeE s.heap h' e C none → R (.ok (.ret (.ref e))) { s with heap := h', toks := tk }) :
    codeAny (model prog w) A (.call (.ref C) ⟨[], []⟩) R s := by
  refine made_err T.cls T.ini T.tI X (Nat.zero_le _) fun h1 k he hsz => ?_
  obtain ⟨q, oc, od, kV, doc, pm, an, cdv, ct, osl, p1, q1, ho, hcd⟩ := T.fn
  obtain ⟨hp, g, dr, tk, os⟩ := s
  refine Att.call_fn (s := ⟨h1, g, dr, tk, os⟩) (binds := [("self", .ref (hp.objs.size + 1))]) (X.keeps k) (hlim.keeps k) ho hcd (by show A.depth + 1 < recursionLimit; exact hroom) (BindsTo.of_eq (by first | rfl | with_unfolding_all rfl)) (by first | rfl | decide | with_unfolding_all rfl) (fun s₁ IC => ?_) rfl rfl rfl
  obtain ⟨h2, tk2, rfl⟩ := IC.toInCall.same
  have k2 : ∀ b o, h1.get? b = some o → h2.get? b = some o := IC.toInCall.keep
  show wpAny _ _ (execs _ _) _ _ _
  refine wpAny_execs_cons (wpAny_Pass ?_)
  show wpAny _ _ (execs _ _) _ _ _
  refine wpAny_execs_nil ?_
  exact ⟨rfl, hq h2 tk2 (hp.objs.size + 1) ⟨fun b o e => k2 b o (k b o e), Nat.le_succ _, ⟨_, _, k2 _ _ he, rfl, rfl, rfl, rfl⟩⟩⟩
end
end Shf

namespace L2
open PySem PySem.Spec PyProof.Rows
section
variable {X : Cx} {S C fI : Addr}
/-- X(): an error that keeps nothing -/
theorem pmk_0 {x : Str} {p pos : Pos} {k : Nat} (T : Shf.Mkr_0 X.K S C fI) (gC : X.mg x = some (.ref C)) (hr : Room k X.A) (hg : Gl X x) (hdb : (x == ("__debug__" : Str)) = false := by decide) :
    PMk X (.Call (.Name x p) [] [] pos) (fun _ H Q => Q (.ref C) none H) := by
  intro pins s σ H Q I q1
  refine wpAny_Call_Name_kw (ld_glob I hg gC ?_ hdb)
  refine PySem.W.callWith_K0 I.kIn T.cls.kp ?_
  have hlim := I.nolimit
  obtain ⟨hp, g, dr, tk, os⟩ := s
  refine wpAny_call (Shf.make_0 T I.kIn hlim (by have := hr.dp; omega) fun h' tk' e M => ?_)
  obtain ⟨oe, fv, hoe, hc, hd, hdat, h1⟩ := M.obj
  refine ⟨e, oe, fv, ⟨hp, g, dr, tk, os⟩, H, .ref C, none, rfl, I, M.keep, ?_, hoe, ⟨hc, hd⟩, hdat, h1, I.hok.fresh M.new, rfl, I.bare, raises_own T.cls.exc T.cls.typ, q1⟩
  cases z : hp.get? e with
  | none => rfl
  | some o => exact absurd (Heap.lt_size z) (Nat.not_lt.mpr M.new)
end
end L2

namespace L2
open PySem PySem.Spec PyProof.Rows
theorem relO_at {v : V} {u : Value} (r : RelV v u) (f : Str) : RelO (List.lookup f [(("at" : Str), v)]) (if f = "at" then some u else none) := by
  by_cases hw : f = "at"
  · subst hw
    rw [if_pos rfl, show List.lookup ("at" : Str) [(("at" : Str), v)] = some v by simp [List.lookup]]
    exact r
  · rw [if_neg hw, show List.lookup f [(("at" : Str), v)] = none by simp [List.lookup, show (f == ("at" : Str)) = false by simpa using hw]]
    trivial
/-- X(e), which keeps e in at -/
def tMk_at (C : Addr) (ta : TA) : St → Hp → XK → Prop := fun σ H Q => ta σ H fun vs H1 => ∃ v, vs = [v] ∧ ∀ d, H1 d = none → Q (.ref C) (some d) (upd H1 d (.xd [(("at" : Str), v)]))
section
variable {X : Cx} {S C fI : Addr}
theorem pmk_at {a : Expr} {ta : TA} {x : Str} {p pos : Pos} {k : Nat} (T : Shf.Mkr_at X.K S C fI) (gC : X.mg x = some (.ref C)) (hr : Room k X.A) (ha : PA X [a] ta) (hg : Gl X x) (hdb : (x == ("__debug__" : Str)) = false := by decide)
    (he : starEach (a :: []) X.env = (false, eval a X.env) :: starEach [] X.env := by rfl) (hpl : (backTo pos (starEach [] X.env)).any (·.1) = false := by rfl) :
    PMk X (.Call (.Name x p) [a] [] pos) (tMk_at C ta) := by
  intro pins s σ H Q I h
  refine wpAny_Call_Name_kw (ld_glob I hg gC ?_ hdb)
  refine PySem.W.callWith_K (h₀ := X.base) I.ok.mod.kin T.cls.kp (thn (ha.run pos pins s σ H _ I h) fun us s1 hh => ?_) he hpl
  obtain ⟨vs, H1, I1, r1, v, ev, q1⟩ := hh
  subst ev
  refine ⟨I1.kIn, ?_⟩
  obtain ⟨u, rfl, rv⟩ : ∃ u, us = [u] ∧ RelV v u := by
    cases r1 with
    | cons rv rn =>
      cases rn
      exact ⟨_, rfl, rv⟩
  show wpAny _ _ (call (.ref C) [u]) _ _ _
  have hlim := I1.nolimit
  obtain ⟨hp, g, dr, tk, os⟩ := s1
  refine wpAny_call (Shf.make_at T I1.kIn hlim (by have := hr.dp; omega) fun h' tk' e d M dbig dne hns => ?_)
  obtain ⟨oe, fv, hoe, hc, hd, hdat, h1⟩ := M.obj
  obtain ⟨G, g1, g2⟩ := restrict h' fun b => decide (b ≠ e)
  have gk : ∀ b, b ≠ e → G.get? b = h'.get? b := fun b hb => g1 b (decide_eq_true hb)
  have ge : G.get? e = none := g2 e (by simp)
  have old : ∀ b o, hp.get? b = some o → G.get? b = some o := fun b o q => (gk b (Nat.ne_of_lt (Nat.lt_of_lt_of_le (Heap.lt_size q) M.new))).trans (M.keep b o q)
  have ob : ObjOk X.prog X.w (upd H1 d (.xd [(("at" : Str), v)])) G d (.xd [(("at" : Str), v)]) := ⟨_, hns.at (fun o q => (gk d dne).trans q), fun f => relO_at rv f⟩
  have J : Inv X pins σ (upd H1 d (.xd [(("at" : Str), v)])) ⟨G, g, dr, tk', os⟩ := I1.laid (t' := tk') old dbig ob
  refine ⟨e, oe, fv, ⟨G, g, dr, tk', os⟩, _, .ref C, some d, rfl, J, fun b o q => ?_, ge, hoe, ⟨hc, hd⟩, hdat, h1, ?_, rfl, I1.bare, raises_own T.cls.exc T.cls.typ, q1 d (I1.hok.fresh dbig)⟩
  · by_cases hb : b = e
    · have q' : G.get? b = some o := q
      rw [hb, ge] at q'
      cases q'
    · exact (gk b hb).symm.trans q
  · rw [upd_ne (Ne.symm dne)]
    exact I1.hok.fresh M.new
/-- e.at, e the error that the suite holds -/
def tBy_at (a C : Addr) (cls : Value) (d : Option Addr) (te : TE) : TE := fun σ H Q => te σ H fun x H1 => x = .ref a ∧ cls = .ref C ∧ ∃ (dd : Addr) (v : V), d = some dd ∧ H1 dd = some (.xd [(("at" : Str), v)]) ∧ Q v H1
theorem pe_by_at {a : Addr} {oe : Obj} {cls : Value} {d : Option Addr} {pn : List (Addr × Obj)} {e : Expr} {te : TE} {pos : Pos} (T : Shf.Mkr_at X.K S C fI) (hz : Zc cls d oe) (hf : ∃ vs, oe.data = .fields vs) (he : PE (X.suite a ((a, oe) :: pn)) e te)
    (hb : attributeBase e "at" X.env (eval e X.env) = eval e X.env := by rfl) :
    PE (X.suite a ((a, oe) :: pn)) (.Attribute e "at" pos) (tBy_at a C cls d te) := by
  refine ⟨fun pins s σ H Q I h => ?_⟩
  refine attr_of hb (thn (he.run pins s σ H _ I h) fun u s1 hh => ?_)
  obtain ⟨x, H1, I1, rx, ex, ec, dd, v, ed, ea, q⟩ := hh
  subst ex
  obtain rfl : u = Value.ref a := rx
  subst ec
  subst ed
  obtain ⟨ha, _⟩ := I1.pin (a, oe) (List.mem_append_left _ List.mem_cons_self)
  obtain ⟨vs, hd⟩ := hf
  have hx : ObjOk X.prog X.w H1 s1.heap dd (.xd [(("at" : Str), v)]) := I1.hok dd _ ea
  obtain ⟨mA, hns, hr⟩ := hx
  obtain ⟨od, ho, hl⟩ := lookIn_ns hns
  have l : List.lookup ("at" : Str) [(("at" : Str), v)] = some v := by simp [List.lookup]
  obtain ⟨u, hu, ru⟩ := RelO.some_of (v := v) (o := mA "at") (by rw [← l]; exact hr "at")
  have J : PySem.W.InstAt s1.heap a oe C (some od) := ⟨ha, hz.1, by unfold PySem.W.notCls; rw [hd] <;> rfl, by rw [hz.2]; exact ho⟩
  obtain ⟨cd, hcd, _, hdict⟩ := T.cls.mro
  have hD : PySem.W.hasDictIn X.K C = true := by
    show (PySem.W.clsIn X.K C).any (·.hasDict) = true
    rw [hcd]
    exact hdict
  exact PySem.PX.exc_get I1.kIn J T.cls.ga T.cls.gg T.cls.exc (PySem.W.findObj_own hD T.no rfl (by rw [hl, hu])) (handed_of ru) ⟨v, H1, I1.tok _, ru, q⟩
end
end L2

namespace L2
open PySem PySem.Spec PyProof.Rows
theorem relO_word {v : V} {u : Value} (r : RelV v u) (f : Str) : RelO (List.lookup f [(("word" : Str), v)]) (if f = "word" then some u else none) := by
  by_cases hw : f = "word"
  · subst hw
    rw [if_pos rfl, show List.lookup ("word" : Str) [(("word" : Str), v)] = some v by simp [List.lookup]]
    exact r
  · rw [if_neg hw, show List.lookup f [(("word" : Str), v)] = none by simp [List.lookup, show (f == ("word" : Str)) = false by simpa using hw]]
    trivial
/-- X(e), which keeps e in word -/
def tMk_word (C : Addr) (ta : TA) : St → Hp → XK → Prop := fun σ H Q => ta σ H fun vs H1 => ∃ v, vs = [v] ∧ ∀ d, H1 d = none → Q (.ref C) (some d) (upd H1 d (.xd [(("word" : Str), v)]))
section
variable {X : Cx} {S C fI : Addr}
theorem pmk_word {a : Expr} {ta : TA} {x : Str} {p pos : Pos} {k : Nat} (T : Shf.Mkr_word X.K S C fI) (gC : X.mg x = some (.ref C)) (hr : Room k X.A) (ha : PA X [a] ta) (hg : Gl X x) (hdb : (x == ("__debug__" : Str)) = false := by decide)
    (he : starEach (a :: []) X.env = (false, eval a X.env) :: starEach [] X.env := by rfl) (hpl : (backTo pos (starEach [] X.env)).any (·.1) = false := by rfl) :
    PMk X (.Call (.Name x p) [a] [] pos) (tMk_word C ta) := by
  intro pins s σ H Q I h
  refine wpAny_Call_Name_kw (ld_glob I hg gC ?_ hdb)
  refine PySem.W.callWith_K (h₀ := X.base) I.ok.mod.kin T.cls.kp (thn (ha.run pos pins s σ H _ I h) fun us s1 hh => ?_) he hpl
  obtain ⟨vs, H1, I1, r1, v, ev, q1⟩ := hh
  subst ev
  refine ⟨I1.kIn, ?_⟩
  obtain ⟨u, rfl, rv⟩ : ∃ u, us = [u] ∧ RelV v u := by
    cases r1 with
    | cons rv rn =>
      cases rn
      exact ⟨_, rfl, rv⟩
  show wpAny _ _ (call (.ref C) [u]) _ _ _
  have hlim := I1.nolimit
  obtain ⟨hp, g, dr, tk, os⟩ := s1
  refine wpAny_call (Shf.make_word T I1.kIn hlim (by have := hr.dp; omega) fun h' tk' e d M dbig dne hns => ?_)
  obtain ⟨oe, fv, hoe, hc, hd, hdat, h1⟩ := M.obj
  obtain ⟨G, g1, g2⟩ := restrict h' fun b => decide (b ≠ e)
  have gk : ∀ b, b ≠ e → G.get? b = h'.get? b := fun b hb => g1 b (decide_eq_true hb)
  have ge : G.get? e = none := g2 e (by simp)
  have old : ∀ b o, hp.get? b = some o → G.get? b = some o := fun b o q => (gk b (Nat.ne_of_lt (Nat.lt_of_lt_of_le (Heap.lt_size q) M.new))).trans (M.keep b o q)
  have ob : ObjOk X.prog X.w (upd H1 d (.xd [(("word" : Str), v)])) G d (.xd [(("word" : Str), v)]) := ⟨_, hns.at (fun o q => (gk d dne).trans q), fun f => relO_word rv f⟩
  have J : Inv X pins σ (upd H1 d (.xd [(("word" : Str), v)])) ⟨G, g, dr, tk', os⟩ := I1.laid (t' := tk') old dbig ob
  refine ⟨e, oe, fv, ⟨G, g, dr, tk', os⟩, _, .ref C, some d, rfl, J, fun b o q => ?_, ge, hoe, ⟨hc, hd⟩, hdat, h1, ?_, rfl, I1.bare, raises_own T.cls.exc T.cls.typ, q1 d (I1.hok.fresh dbig)⟩
  · by_cases hb : b = e
    · have q' : G.get? b = some o := q
      rw [hb, ge] at q'
      cases q'
    · exact (gk b hb).symm.trans q
  · rw [upd_ne (Ne.symm dne)]
    exact I1.hok.fresh M.new
/-- e.word, e the error that the suite holds -/
def tBy_word (a C : Addr) (cls : Value) (d : Option Addr) (te : TE) : TE := fun σ H Q => te σ H fun x H1 => x = .ref a ∧ cls = .ref C ∧ ∃ (dd : Addr) (v : V), d = some dd ∧ H1 dd = some (.xd [(("word" : Str), v)]) ∧ Q v H1
theorem pe_by_word {a : Addr} {oe : Obj} {cls : Value} {d : Option Addr} {pn : List (Addr × Obj)} {e : Expr} {te : TE} {pos : Pos} (T : Shf.Mkr_word X.K S C fI) (hz : Zc cls d oe) (hf : ∃ vs, oe.data = .fields vs) (he : PE (X.suite a ((a, oe) :: pn)) e te)
    (hb : attributeBase e "word" X.env (eval e X.env) = eval e X.env := by rfl) :
    PE (X.suite a ((a, oe) :: pn)) (.Attribute e "word" pos) (tBy_word a C cls d te) := by
  refine ⟨fun pins s σ H Q I h => ?_⟩
  refine attr_of hb (thn (he.run pins s σ H _ I h) fun u s1 hh => ?_)
  obtain ⟨x, H1, I1, rx, ex, ec, dd, v, ed, ea, q⟩ := hh
  subst ex
  obtain rfl : u = Value.ref a := rx
  subst ec
  subst ed
  obtain ⟨ha, _⟩ := I1.pin (a, oe) (List.mem_append_left _ List.mem_cons_self)
  obtain ⟨vs, hd⟩ := hf
  have hx : ObjOk X.prog X.w H1 s1.heap dd (.xd [(("word" : Str), v)]) := I1.hok dd _ ea
  obtain ⟨mA, hns, hr⟩ := hx
  obtain ⟨od, ho, hl⟩ := lookIn_ns hns
  have l : List.lookup ("word" : Str) [(("word" : Str), v)] = some v := by simp [List.lookup]
  obtain ⟨u, hu, ru⟩ := RelO.some_of (v := v) (o := mA "word") (by rw [← l]; exact hr "word")
  have J : PySem.W.InstAt s1.heap a oe C (some od) := ⟨ha, hz.1, by unfold PySem.W.notCls; rw [hd] <;> rfl, by rw [hz.2]; exact ho⟩
  obtain ⟨cd, hcd, _, hdict⟩ := T.cls.mro
  have hD : PySem.W.hasDictIn X.K C = true := by
    show (PySem.W.clsIn X.K C).any (·.hasDict) = true
    rw [hcd]
    exact hdict
  exact PySem.PX.exc_get I1.kIn J T.cls.ga T.cls.gg T.cls.exc (PySem.W.findObj_own hD T.no rfl (by rw [hl, hu])) (handed_of ru) ⟨v, H1, I1.tok _, ru, q⟩
end
end L2

namespace L2
open PySem PySem.Spec PyProof.Rows
/-- one except clause: the class that it names, the slot of its name (if it has one), what its suite does -/
structure Cl where
  c : Value
  i : Option Nat
  ts : Addr → Value → Option Addr → TS
/-- what the clauses wish of an error of the body -/
def wCls (K : PySem.W.Frag) (Wout : WX) (D : Ends) : List Cl → WX
  | [] => Wout
  | q :: r => fun cls d σ H => ∃ b, PySem.W.exmOne K cls q.c = some b ∧
      (b = true → ∀ a, H a = none → match q.i with
        | some i => q.ts a cls d { nx := fun σ' H' => D.nx (σ'.set i none) H', rt := D.rt, bk := fun σ' H' => D.bk (σ'.set i none) H', ct := fun σ' H' => D.ct (σ'.set i none) H' } (σ.set i (some (.ref a))) H
        | none => q.ts a cls d D σ H) ∧
      (b = false → wCls K Wout D r cls d σ H)
inductive ClsOk (X : Cx) : List ExceptHandler → List Cl → Prop
  | nil : ClsOk X [] []
  | as {x n : Str} {c : Value} {i : Nat} {ts : Addr → Value → Option Addr → TS} {b₀ : Stmt} {suite : List Stmt} {np pos' : Pos} {hds : List ExceptHandler} {l : List Cl} (hi : X.N[i]? = some n) (hln : X.env.kindOf n = some .local) (hc : Names X x c)
      (hsu : ∀ (a : Addr) (oe : Obj) (cls : Value) (d : Option Addr) (pn : List (Addr × Obj)), Zc cls d oe → (∃ vs, oe.data = .fields vs) → PSs (X.suite a ((a, oe) :: pn)) (b₀ :: suite) (ts a cls d)) (r : ClsOk X hds l) :
      ClsOk X (.ExceptHandler (some (.Name x np)) (some n) (b₀ :: suite) pos' :: hds) (⟨c, some i, ts⟩ :: l)
  | bare {x : Str} {c : Value} {ts : Addr → Value → Option Addr → TS} {b₀ : Stmt} {suite : List Stmt} {np pos' : Pos} {hds : List ExceptHandler} {l : List Cl} (hc : Names X x c)
      (hsu : ∀ (a : Addr) (oe : Obj) (cls : Value) (d : Option Addr) (pn : List (Addr × Obj)), Zc cls d oe → (∃ vs, oe.data = .fields vs) → PSs (X.suite a ((a, oe) :: pn)) (b₀ :: suite) (ts a cls d)) (r : ClsOk X hds l) :
      ClsOk X (.ExceptHandler (some (.Name x np)) none (b₀ :: suite) pos' :: hds) (⟨c, none, ts⟩ :: l)
section
variable {X : Cx} {body : List Stmt} {h₀ : ExceptHandler} {hds : List ExceptHandler} {l : List Cl} {pos : Pos} {tb : WX → TS} {Wout : WX}
/-- try: body, except .. as ..: .., except ..: .. -/
theorem ps_try_cls (hs : X.stack = X.env :: X.outer) (hf : X.env.frame = some X.env.locals) (hN : X.N.Nodup) (tk : Takes X Wout)
    (hb : ∀ (W : WX) (pn : List (Addr × Obj)) (xe : Value → Shared → Prop), Takes (X.tr pn xe) W → PassesOwn (model X.prog X.w) X.A X.env xe → PSs (X.tr pn xe) body (tb W))
    (hh : ClsOk X (h₀ :: hds) l) : PS X (.Try body (h₀ :: hds) [] [] pos) (fun D σ H => tb (wCls X.K Wout D l) D σ H) := by
  refine ⟨fun pins s σ H D I h => ?_⟩
  have ok := I.ok
  have hfr : X.A.frames = some (X.env :: X.outer) := by rw [ok.frames, hs]
  refine wpAny_Try_except (wpAny_mono ((hb (wCls X.K Wout D l) (X.pn ++ pins) (fun e s₁ => wpAny (model X.prog X.w) X.A (noteFrame e X.env) (fun _ s₂ => wpAny (model X.prog X.w) X.A (setFlight e none) (fun _ s₃ =>
    wpAny (model X.prog X.w) X.A (handleBy e X.env (h₀ :: hds)) (SP X pins D) X.xe s₃) X.xe s₂) X.xe s₁) (fun u s' xx => ?_) PassesOwn.looking).run [] s σ H D (I.toTry _) h) (fun f s1 hsp => ?_) (fun e s1 he => he))
  · obtain ⟨a, B, sI, pins', σ', H', cls, d, rfl, J', nb, up, sky, na, os, ag, w⟩ := xx
    have J : Inv X pins σ' H' sI := J'.ofTry ok
    have sky' : Sky B (X.env :: X.outer) a (Zc cls d) X.env.locals s'.heap := by rw [← hs]; exact sky
    show wpAny (model X.prog X.w) X.A (noteFrame (.ref a) X.env) _ _ _
    refine Sky.land Zc.steady hfr hf sky' fun h3 fl3 up3 => ?_
    have J3 : Inv X pins σ' H' { s' with heap := h3 } := J.landed nb fl3.1 (up.trans up3) os ag
    have nfr : a ∉ frs (X.env :: X.outer) := fun hm => by
      obtain ⟨oe, vs, he, _, hd⟩ := fl3.there
      obtain ⟨_, o', e', hnf⟩ := fl3.2.2.1.mem hm
      rw [he] at e'
      cases e'
      exact hnf _ hd
    have nL : a ≠ X.env.locals := fun z => nfr (List.mem_filterMap.mpr ⟨X.env, List.mem_cons_self, by rw [hf, z]⟩)
    have nF : a ∉ X.fs := fun hm => by
      obtain ⟨e, he, q⟩ := List.mem_filterMap.mp hm
      exact nfr (List.mem_filterMap.mpr ⟨e, List.mem_cons_of_mem _ he, q⟩)
    obtain ⟨oe3, vs3, he3, hz3, hd3⟩ := fl3.there
    have S3 := J3.suite he3 hd3 na nL nF
    have LT : PySem.W.Looks (model X.prog X.w) h3 (typeOf (.ref a)) cls := fun A Q E s k q => wpAny_typeOf_ref (k _ _ he3) (by rw [hz3.1]; exact q)
    have test : ∀ {x : Str} {np : Pos} {c : Value} {Q : Value → Shared → Prop} {E : Value → Shared → Prop}, Names X x c → Q c { s' with heap := h3 } →
        wpAny (model X.prog X.w) (X.A.mark (some (.ref a))) (eval (.Name x np) X.env) Q E { s' with heap := h3 } := fun {x np c Q E} hc q => by
      obtain ⟨hg, hdbg, hm | ⟨hm, hv, hnn⟩⟩ := hc
      · exact ld_glob (X := X.suite a ((a, oe3) :: (X.pn ++ pins))) S3 hg hm q hdbg
      · exact ld_blt (X := X.suite a ((a, oe3) :: (X.pn ++ pins))) S3 hg hm hv q hnn hdbg
    have go : ∀ {hds' : List ExceptHandler} {l' : List Cl}, ClsOk X hds' l' → wCls X.K Wout D l' cls d σ' H' →
        wpAny (model X.prog X.w) X.A (handleBy (.ref a) X.env hds') (SP X pins D) X.xe { s' with heap := h3 } := by
      intro hds' l' hk
      induction hk with
      | nil =>
        intro w
        refine PySem.PX.no_clauseZ (prog := X.prog) (w := X.w) hf fl3 fun h4 hh4 up4 => tk _ _ ?_
        exact ⟨a, B, sI, pins, σ', H', cls, d, rfl, J, nb, (up.trans up3).trans up4, .inr (.inr (by rw [hs]; exact hh4)), na, os, ag, w⟩
      | @as x n c i ts b₀ suite np pos' hds2 l2 hi hln hc hsu r ih =>
        intro w
        obtain ⟨b, hb1, hyes, hno⟩ := w
        have LM := PySem.W.exm_one (M := model X.prog X.w) J3.kIn LT hb1
        refine wpAny_handleBy_cons (codeAny_handlers_test (test hc (LM.here ?_))) (by intro q; cases q)
        cases b with
        | false => exact ih (hno rfl)
        | true =>
          refine codeAny_handlers_suite_as (HandSPX.lands_againZ fl3 fun h4 fl4 up4 => ?_)
          have J4 : Inv X pins σ' H' { s' with heap := h4 } := J.landed nb fl4.1 ((up.trans up3).trans up4) os ag
          obtain ⟨oe4, vs4, he4, hz4, hd4⟩ := fl4.there
          refine store_ok (X := X.suite a ((a, oe4) :: (X.pn ++ pins))) (v := .ref a) (J4.suite he4 hd4 na nL nF) hN hi (.inl hln) rfl (fun s5 S5 => ?_) (.inr hln)
          have wish := hyes rfl a na
          refine wpAny_mono ((hsu a oe4 cls d (X.pn ++ pins) hz4 ⟨_, hd4⟩).run [] s5 _ H' _ S5 wish) (fun f s6 hsp => ?_) (fun _ _ z => False.elim z)
          have out : ∀ {σ6 : St} {H6 : Hp} {Q : Shared → Prop}, Inv (X.suite a ((a, oe4) :: (X.pn ++ pins))) [] σ6 H6 s6 → (∀ s7, Inv X pins (σ6.set i none) H6 s7 → Q s7) →
              wpAny (model X.prog X.w) X.A (do bindName X.env n .none; unbindBehindTheSuite X.env n pos') (fun _ s7 => Q s7) X.xe s6 := fun {σ6 H6 Q} S6 hq => gone_ok (S6.unsuite ok) hN hi hln hq
          cases f with
          | next =>
            obtain ⟨σ6, H6, S6, q6⟩ := hsp
            exact out S6 fun s7 J7 => ⟨_, _, J7, q6⟩
          | brk =>
            obtain ⟨σ6, H6, S6, q6⟩ := hsp
            exact out S6 fun s7 J7 => ⟨_, _, J7, q6⟩
          | cont =>
            obtain ⟨σ6, H6, S6, q6⟩ := hsp
            exact out S6 fun s7 J7 => ⟨_, _, J7, q6⟩
          | ret u =>
            obtain ⟨v6, σ6, H6, S6, r6, q6⟩ := hsp
            exact out S6 fun s7 J7 => ⟨_, _, _, J7, r6, q6⟩
      | @bare x c ts b₀ suite np pos' hds2 l2 hc hsu r ih =>
        intro w
        obtain ⟨b, hb1, hyes, hno⟩ := w
        have LM := PySem.W.exm_one (M := model X.prog X.w) J3.kIn LT hb1
        refine wpAny_handleBy_cons (codeAny_handlers_test (test hc (LM.here ?_))) (by intro q; cases q)
        cases b with
        | false => exact ih (hno rfl)
        | true =>
          refine codeAny_handlers_suite (HandSPX.lands_againZ fl3 fun h4 fl4 up4 => ?_)
          have J4 : Inv X pins σ' H' { s' with heap := h4 } := J.landed nb fl4.1 ((up.trans up3).trans up4) os ag
          obtain ⟨oe4, vs4, he4, hz4, hd4⟩ := fl4.there
          have wish := hyes rfl a na
          refine wpAny_mono ((hsu a oe4 cls d (X.pn ++ pins) hz4 ⟨_, hd4⟩).run [] _ _ H' _ (J4.suite he4 hd4 na nL nF) wish) (fun f s6 hsp => ?_) (fun _ _ z => False.elim z)
          cases f with
          | next =>
            obtain ⟨σ6, H6, S6, q6⟩ := hsp
            exact ⟨_, _, S6.unsuite ok, q6⟩
          | brk =>
            obtain ⟨σ6, H6, S6, q6⟩ := hsp
            exact ⟨_, _, S6.unsuite ok, q6⟩
          | cont =>
            obtain ⟨σ6, H6, S6, q6⟩ := hsp
            exact ⟨_, _, S6.unsuite ok, q6⟩
          | ret u =>
            obtain ⟨v6, σ6, H6, S6, r6, q6⟩ := hsp
            exact ⟨_, _, _, S6.unsuite ok, r6, q6⟩
    exact go hh w
  · cases f with
    | next =>
      obtain ⟨σ', H', J', q⟩ := hsp
      exact wpAny_execs_nil ⟨σ', H', J'.ofTry ok, q⟩
    | brk =>
      obtain ⟨σ', H', J', q⟩ := hsp
      exact ⟨σ', H', J'.ofTry ok, q⟩
    | cont =>
      obtain ⟨σ', H', J', q⟩ := hsp
      exact ⟨σ', H', J'.ofTry ok, q⟩
    | ret u =>
      obtain ⟨v, σ', H', J', r, q⟩ := hsp
      exact ⟨v, σ', H', J'.ofTry ok, r, q⟩
end
end L2


namespace L2
open PySem PySem.Spec PyProof.Rows
/-! ### a def's promise where no repr is under way -/
structure FnG (P : Program) (w : World) (K : PySem.W.Frag) (mg : Str → Option Value) (base : Heap) (CX : CXT) (k : Nat) (f : Addr) (fd : FuncData) (ps : List Str) (sp : Sp) : Prop where
  len : ∀ vs H Q E, sp vs H Q E → vs.length = ps.length
  run : ∀ (A : Around) (outer : List Env) (s : Shared) (H : Hp) (args : Args) (us : List Value) (vs : List V) (Q : VK) (E : XK), Room k A → A.guards = some [] → Env0 P w K mg base A outer s H → BindsTo s fd args (ps.zip us) → Vals vs us →
    sp vs H Q E → codeAny (model P w) A (.call (.ref f) args) (CR CX outer P w H s Q E) s
section
variable {P : Program} {w : World} {K : PySem.W.Frag} {mg : Str → Option Value} {base : Heap} {CX : CXT} {k : Nat} {f : Addr} {fd : FuncData} {ps : List Str} {sp : Sp}
theorem FnOk.g (F : FnOk P w K mg base CX k f fd ps sp) : FnG P w K mg base CX k f fd ps sp := ⟨F.len, fun A outer s H args us vs Q E hr _ e0 hb r h => F.run A outer s H args us vs Q E hr e0 hb r h⟩
/-- cdv is the code object of the function at f -/
def AtCode (K : PySem.W.Frag) (f : Addr) (fd : FuncData) (cdv : Value) (qual : Str) : Prop := (∃ oc od osl, K.lookup f = some ⟨oc, od, .func fd, osl⟩) ∧ fd.code = cdv ∧ PySem.W.codeIn K cdv qual = true
theorem FunD.okGc {x qual : Str} {params : Arguments} {body : List Stmt} {scope : Scope} {dvs : List V} {kws : List (Str × V)} {N : List Str} (F : FunD K x qual params body scope dvs kws f fd) (Sc : FnScope N ps scope) (len : ∀ vs H Q E, sp vs H Q E → vs.length = ps.length)
    (hbody : ∀ (cdv : Value), AtCode K f fd cdv qual → ∀ (A : Around) (outer : List Env) (s : Shared) (H : Hp) (vs : List V) (Q : VK) (E : XK), Room k (A.deeper (envOfC qual scope s.heap.objs.size f cdv)) → A.guards = some [] → sp vs H Q E →
      ∃ t, PSs (cxOf CX P w K mg base N qual scope f cdv A outer s H E) body t ∧ t { nx := fun _ H' => Q .non H', rt := Q } (start N vs) H) : FnG P w K mg base CX (k + 1) f fd ps sp := by
  obtain ⟨oc, od, dV, kV, doc, pm, an, cdv, ct, osl, rfl, lk, hcd, _, _⟩ := F.ex
  refine ⟨len, fun A outer s H args us vs Q E hr hA e0 hb r hsp => ?_⟩
  have KX : K.In s.heap := e0.mod.kin.keeps fun b o e => (e0.bs b o e).1
  have lim : s.heap.NoLimit := e0.mod.nolimit.keeps fun b o e => (e0.bs b o e).1
  refine codeAny_call_function hr.depth (KX _ _ lk) rfl Sc.co Sc.gen rfl (PySem.W.codeRec_of KX hcd) (hb _ _ _ _ ?_)
  have hk : ∀ y ∈ ps.zip us, scope.names.lookup y.1 = some .local ∨ (scope.names.lookup y.1 = some .cell ∧ ((cellsFrom (s.heap.objs.size + 1) scope.names []).lookup y.1).isSome = true) := fun ⟨n, v⟩ hy =>
    (Sc.par n (List.of_mem_zip hy).1).imp id fun q => ⟨q, PySem.W.cellsFrom_some _ _ _ (.inl q)⟩
  refine wpAny_newFunctionEnv_cells Sc.kind hk fun env he s1 x => ?_
  subst he
  refine ⟨lim.keeps x.toInCall.keep, codeAny_func ?_⟩
  obtain ⟨t, ht, hq⟩ := hbody cdv ⟨⟨_, _, _, lk⟩, rfl, hcd⟩ A outer s H vs Q E (hr.deeper _) hA hsp
  have I := inv_start (CX := CX) (E := E) (qual := qual) (f := f) (cd := cdv) Sc hr.hd e0 (len _ _ _ _ hsp) r x
  refine wpAny_mono (ht.run [] s1 (start N vs) H _ I hq) (fun fl s' hs => ?_) fun e s' hs => hs
  cases fl with
  | ret u =>
    obtain ⟨v, σ', H', J, rv, q⟩ := hs
    exact ⟨v, H', J.os, J.bare, J.base, J.hok, rv, q⟩
  | next =>
    obtain ⟨σ', H', J, q⟩ := hs
    exact ⟨V.non, H', J.os, J.bare, J.base, J.hok, (rfl : RelV .non Value.none), q⟩
  | brk =>
    obtain ⟨_, _, _, q⟩ := hs
    exact q.elim
  | cont =>
    obtain ⟨_, _, _, q⟩ := hs
    exact q.elim
theorem FunD.okG {x qual : Str} {params : Arguments} {body : List Stmt} {scope : Scope} {dvs : List V} {kws : List (Str × V)} {N : List Str} (F : FunD K x qual params body scope dvs kws f fd) (Sc : FnScope N ps scope) (len : ∀ vs H Q E, sp vs H Q E → vs.length = ps.length)
    (hbody : ∀ (cdv : Value) (A : Around) (outer : List Env) (s : Shared) (H : Hp) (vs : List V) (Q : VK) (E : XK), Room k (A.deeper (envOfC qual scope s.heap.objs.size f cdv)) → A.guards = some [] → sp vs H Q E →
      ∃ t, PSs (cxOf CX P w K mg base N qual scope f cdv A outer s H E) body t ∧ t { nx := fun _ H' => Q .non H', rt := Q } (start N vs) H) : FnG P w K mg base CX (k + 1) f fd ps sp := by
  exact F.okGc Sc len fun cdv _ A outer s H vs Q E hr hA h => hbody cdv A outer s H vs Q E hr hA h
end
section
variable {X : Cx} {CX : CXT} {k : Nat} {f : Addr} {fd : FuncData} {ps : List Str} {sp : Sp} {dvs : List V} {ds : List Value} {E : XK} {x : Str} {p pos : Pos} {e : Expr} {es : List Expr} {t : TA}
theorem pe_callG (F : FnG X.prog X.w X.K X.mg X.base CX k f fd ps sp) (hA : X.A.guards = some []) (hr : Room k X.A) (hg : Gl X x) (hm : X.mg x = some (.ref f)) (hk : PySem.W.keepIn X.K (.ref f) = true) (hb : Binds X.K fd ps ds) (hd : Vals dvs ds) (hx : Passes CX X E)
    (ha : PA X (e :: es) t) (hdb : (x == ("__debug__" : Str)) = false := by decide) (he : starEach (e :: es) X.env = (false, eval e X.env) :: starEach es X.env := by rfl) (hpl : (backTo pos (starEach es X.env)).any (·.1) = false := by rfl) :
    PE X (.Call (.Name x p) (e :: es) [] pos) (tCall sp dvs E t) := by
  refine ⟨fun pins s σ H Q I h => wpAny_Call_Name_kw (ld_glob I hg hm (PySem.W.callWith_K (h₀ := X.base) I.ok.mod.kin hk (thn (ha.run pos pins s σ H _ I h) fun us s1 hh => ?_) he hpl) hdb)⟩
  obtain ⟨vs, H1, I1, r, q⟩ := hh
  have r2 : Vals (vs ++ dvs) (us ++ ds) := r.append hd
  have hl : (us ++ ds).length = ps.length := by rw [← r2.length]; exact F.len _ _ _ _ q
  refine ⟨I1.kIn, wpAny_call (codeAny_mono (F.run X.A X.stack s1 H1 ⟨us, []⟩ (us ++ ds) (vs ++ dvs) Q E hr hA I1.env0 (hb s1 us I1.kIn hl) r2 q) fun r s' hq => ?_)⟩
  cases r with
  | error e => exact hx pins σ H1 s1 e s' I1 hq
  | ok fl =>
    cases fl with
    | ret u => exact I1.after hq
    | next => exact hq.elim
    | brk => exact hq.elim
    | cont => exact hq.elim
/-- repr of data of any depth -/
def rRepr (K : PySem.W.Frag) : List V → Hp → VK → Prop := fun xs H Q => ∃ v d, xs = [v] ∧ Dp K H v d ∧ d.showable = true ∧ d.hasDict = false ∧ d.depth ≤ 60 ∧ d.shown.length ≤ sizeLine ∧ (∃ a, v = .ref a) ∧ Q (.str d.shown) H
theorem call_reprD (hA : X.A.guards = some []) (hu : X.A.units + 64 < cLine) : CallR X (.builtin "repr") (rRepr X.K) := by
  intro pins s σ H xs us Q I r h
  obtain ⟨v, d, rfl, hd, h1, h2, h3, h4, ⟨a, rfl⟩, q⟩ := h
  obtain rfl := Vals.ref1 r
  obtain ⟨as, rd⟩ := Dp.reads I d (.ref a) (.ref a) hd rfl
  exact repr_of_reads' rd h1 (fun z => by rw [h2] at z; cases z) hA (by omega) (fun _ _ e => e) (fun h' u tk hk => ⟨.str d.shown, H, I.kept hk, ⟨u, rfl⟩, q⟩) h4
end
/-! ### the law's own call -/
section
theorem ground_get {h : Heap} {H : Hp} {b : Addr} {o : Obj} (e : h.get? b = some o) (n : H b = none) : (hidT h H).get? b = some o := hidT_get e n
theorem law_callG {P : Program} {w : World} {K : PySem.W.Frag} {mg mb : Str → Option Value} {CX : CXT} {k : Nat} {fa a : Addr} {fd : FuncData} {x : Str} {sp : Sp} {s₁ : Shared} {vs : List Value} {ns : List Int}
    (KX : K.In s₁.heap) (hns : s₁.heap.Ns mainGlobals mg) (hb : s₁.heap.Ns builtinsNs mb) (hbb : ∀ x : Str, x ≠ "__name__" → mb x = bootBuiltins x) (hlim : s₁.heap.NoLimit) (hg : s₁.gens = #[])
    (ha : s₁.heap.get? a = some { cls := .type "list", data := .seq vs.toArray }) (hi : IntsAre vs ns) (hl : ns.length ≤ sizeLine) (hr : Room k callerA)
    (F : ∀ base : Heap, K.In base → base.Ns mainGlobals mg → FnG P w K mg base CX k fa fd [x] sp) (hbind : ∀ (s : Shared) (u : Value), BindsTo s fd ⟨[u], []⟩ [(x, u)])
    (hsp : ∀ H : Hp, Only H → SqL K H a (ns.map V.int) → sp [.ref a] H (fun v _ => v = .bl true) fun _ _ _ => False)
    (hCX : ∀ H e s', CX [] H s₁ (fun _ _ _ => False) e s' → False) :
    codeAny (model P w) callerA (.call (.ref fa) ⟨[.ref a], []⟩) (fun r s' => r = .ok (.ret (.bool true)) ∧ OldK s₁.heap s'.heap ∧ s'.os = s₁.os ∧ AllBare s'.gens) s₁ := by
  have rv := vals_ints hi
  have lenV := hi.length
  have core : ∀ H : Hp, Only H → SqL K H a (ns.map V.int) → HOk P w H s₁.heap → (∀ b, H b ≠ none → b = a) → (H a ≠ none → K.lookup a = none) →
      codeAny (model P w) callerA (.call (.ref fa) ⟨[.ref a], []⟩) (fun r s' => r = .ok (.ret (.bool true)) ∧ OldK s₁.heap s'.heap ∧ s'.os = s₁.os ∧ AllBare s'.gens) s₁ := by
    intro H hO hS hok hA hK
    have free : ∀ {b : Addr}, b ≠ a → H b = none := fun {b} hb => Classical.byContradiction fun z => hb (hA b z)
    have dictFree : ∀ {b : Addr} {o : Obj} {es : Array DictEntry} {ep : Nat}, s₁.heap.get? b = some o → o.data = .dict es ep → H b = none := fun {b o es ep} e d => free fun z => by
      subst z
      rw [ha] at e
      cases e
      cases (show Data.seq vs.toArray _ = Data.dict es ep from d)
    have nsK : ∀ {b : Addr} {m : Str → Option Value}, s₁.heap.Ns b m → (hidT s₁.heap H).Ns b m := fun {b m} hm => by
      obtain ⟨o, es, ep, e, d, r⟩ := hm
      exact ⟨o, es, ep, ground_get e (dictFree e d), d, r⟩
    have hKb : K.In (hidT s₁.heap H) := fun b o e => ground_get (KX b o e) (Classical.byContradiction fun z => by
      have z' := hA b z
      subst z'
      rw [hK z] at e
      cases e)
    have hM : Mod K mg (hidT s₁.heap H) := by
      obtain ⟨mc, h1, h2⟩ := hlim
      exact ⟨hKb, nsK hns, ⟨mb, nsK hb, hbb⟩, mc, nsK h1, h2⟩
    have e0 : Env0 P w K mg (hidT s₁.heap H) callerA [] s₁ H := ⟨rfl, hM, fun b o e => of_hidT e, Nat.le_of_eq (hidT_size _ _), trivial, (fun b hb => (List.not_mem_nil (show b ∈ ([] : List Addr) from hb)).elim), hok, .of_eq hg⟩
    refine codeAny_mono ((F _ hKb (nsK hns)).run callerA [] s₁ H ⟨[.ref a], []⟩ [.ref a] [.ref a] _ _ hr rfl e0 (hbind s₁ (.ref a)) (.cons rfl .nil) (hsp H hO hS)) fun r s' h => ?_
    match r, h with
    | .error e, h => exact (hCX H e s' h).elim
    | .ok (.ret u), h =>
      obtain ⟨v, H', os, bare, un, hok', r', q⟩ := h
      obtain rfl : v = .bl true := q
      obtain rfl : u = Value.bool true := r'
      refine ⟨rfl, OldK.of_keep fun b o e => ?_, os, bare⟩
      rcases hO b with q | ⟨ob, xs, q⟩
      · exact un.keep b o e q (fun z => (List.not_mem_nil (show b ∈ ([] : List Addr) from z)).elim) (fun z => (List.not_mem_nil z).elim)
      · obtain ⟨e1, _⟩ := hok b _ q
        obtain ⟨e2, _⟩ := hok' b _ (un.frzs b ob _ q)
        rw [e] at e1
        cases e1
        exact e2
    | .ok .next, h => exact False.elim h
    | .ok .brk, h => exact False.elim h
    | .ok .cont, h => exact False.elim h
  cases hk : K.lookup a with
  | some o =>
    have e := KX a o hk
    rw [ha] at e
    cases e
    exact core (fun _ => none) (fun _ => .inl rfl) (.inr ⟨_, vs.toArray, _, hk, rfl, rfl, rfl, by rw [List.size_toArray, lenV]; exact hl, by simpa using rv⟩) (fun b u z => by cases (show (none : Option HO) = some u from z)) (fun b z => absurd rfl z) fun z => absurd rfl z
  | none =>
    let o0 : Obj := { cls := .type "list", data := .seq vs.toArray }
    have at_a : ∀ {b : Addr} {u : HO}, (if b = a then some (HO.frz o0 (.lst (ns.map V.int))) else none) = some u → b = a ∧ u = .frz o0 (.lst (ns.map V.int)) := fun {b u} z => by
      by_cases hb : b = a
      · rw [if_pos hb] at z
        exact ⟨hb, (Option.some.inj z).symm⟩
      · rw [if_neg hb] at z
        cases z
    refine core (fun b => if b = a then some (.frz o0 (.lst (ns.map V.int))) else none) (fun b => ?_) (.inl (.inr ⟨o0, if_pos rfl⟩)) (fun b u z => ?_) (fun b z => ?_) fun _ => hk
    · by_cases hb : b = a
      · exact .inr ⟨_, _, if_pos hb⟩
      · exact .inl (if_neg hb)
    · obtain ⟨rfl, rfl⟩ := at_a z
      exact ⟨ha, by rw [List.length_map]; exact hl, vs, _, rv, ha⟩
    · exact Classical.byContradiction fun hb => z (if_neg hb)
theorem walk_ofG {l : PySem.W.OpenLaw} {n k : Nat} {q : Program} {loose : List Str} {XP : (Str → Option Value) → Heap → Prop} {YP : World → Heap → Prop} {d : DefRec} {CX : World → CXT} {x : Str}
    (hn : l.most = some n) (hn2 : n ≤ sizeLine) (hdf : d.params.defaults = []) (hr : Room k callerA)
    (F : ∀ (w : World) (mg : Str → Option Value) (fa : Addr) (h : Heap), YP w h → h.Ns mainGlobals mg → mg d.name = some (.ref fa) →
      ∃ (K : PySem.W.Frag) (fd : FuncData) (sp : Sp), K.In h ∧ (∀ (s : Shared) (u : Value), BindsTo s fd ⟨[u], []⟩ [(x, u)]) ∧
        (∀ (H : Hp) (a : Addr) (ns : List Int), ns.length ≤ n → Only H → SqL K H a (ns.map V.int) → sp [.ref a] H (fun v _ => v = .bl true) fun _ _ _ => False) ∧
        ∀ base : Heap, K.In base → base.Ns mainGlobals mg → FnG l.prog w K mg base (CX w) k fa fd [x] sp)
    (hCX : ∀ (w : World) (H : Hp) (s : Shared) (e : Value) (s' : Shared), CX w [] H s (fun _ _ _ => False) e s' → False) :
    PySem.W.WalkO q loose XP YP l.row.toRowW d [] (fun f vs => PySem.call f vs) := by
  refine Att.attach_call hn hdf fun w s₀ s₁ mg mb fa o pm cd doc a vs ns G Y ho hd hcd hmg hobj hints hlen hg => ?_
  obtain ⟨K, fd, sp, KX, hb, hsp, hF⟩ := F w mg fa _ Y G.T.g hmg
  exact law_callG KX G.T.g G.T.b G.T.builtins G.T.nolimit hg hobj hints (Nat.le_trans hlen hn2) hr hF hb (fun H hO hS => hsp H a ns hlen hO hS) fun H e s' => hCX w H s₁ e s'
end
end L2

/-! ### what the head leaves, looked at once: facts (a Bool of the written part) and defs -/
namespace Shf
open PySem PySem.Spec PyProof.Rows L2
def obsS (fa : PySem.W.Frag → Bool) (fn : List He.DefD) (K : PySem.W.Frag) : He.AlD := (fa K && fn.all fun d => d.ok K, fn.map fun d => He.fnW K d.at_)
def SaysS (fa : PySem.W.Frag → Bool) (fn : List He.DefD) (K : PySem.W.Frag) : Prop := obsS fa fn K = He.valD fn
def obsSG (n : Nat) (fa : PySem.W.Frag → Bool) (fn : List He.DefD) (g : Addr → Option Obj) : He.AlD := obsS fa fn (He.frG g (He.asD g n))
def hookS (n : Nat) (fa : PySem.W.Frag → Bool) (fn : List He.DefD) : PySem.W.Hook where
  α := He.AlD
  obs := fun s => obsSG n fa fn s.heap.get?
  val := fun _ => He.valD fn
  says := fun _ h => ∃ K : PySem.W.Frag, K.In h ∧ SaysS fa fn K
  of := fun _ _ e => ⟨_, He.frG_in, e⟩
  keeps := fun _ _ _ hh k => by
    obtain ⟨K, hK, c⟩ := hh
    exact ⟨K, PySem.W.Frag.In.keeps hK k, c⟩
theorem obsSG_eq {n : Nat} {fa : PySem.W.Frag → Bool} {fn : List He.DefD} {g : Addr → Option Obj} {s : Shared} (h : ∀ a, g a = s.heap.get? a) : obsSG n fa fn g = (hookS n fa fn).obs s := by
  rw [show g = s.heap.get? from funext h]
  rfl
section
variable {fa : PySem.W.Frag → Bool} {fn : List He.DefD} {K : PySem.W.Frag}
theorem SaysS.facts (c : SaysS fa fn K) : fa K = true := (He.ba (show (fa K && fn.all fun d => d.ok K) = true from congrArg (fun z : He.AlD => z.1) c)).1
theorem SaysS.def_ (c : SaysS fa fn K) (i : Nat) {d : He.DefD} (h : fn[i]? = some d := by rfl) : ∃ fd, FunD K d.name d.qual d.params d.body d.scope (d.dvs K) (d.kws K) (He.fAd K d.at_) fd := by
  have c2 := (He.ba (show (fa K && fn.all fun d => d.ok K) = true from congrArg (fun z : He.AlD => z.1) c)).2
  have e : (fn.map fun d => He.fnW K d.at_)[i]? = (fn.map He.DefD.val)[i]? := by rw [show fn.map (fun d => He.fnW K d.at_) = fn.map He.DefD.val from congrArg (fun z : He.AlD => z.2) c]
  rw [List.getElem?_map, List.getElem?_map, h] at e
  exact He.DefD.funD (Option.some.inj e) (List.all_eq_true.mp c2 d (List.mem_of_getElem? h))
end
end Shf


namespace Shf
open PySem PySem.W PySem.Calls PyProof.Rows
/-! ### an error made by keywords alone: C(f=v) -/
section
variable {prog : Program} {w : World} {A : Around} {E : Value → Shared → Prop} {R : Result → Shared → Prop} {h : Heap} {g : Array GenState} {d : Drawn} {t : Nat} {os : OsState}
variable {nm qn : Str} {C N : Addr} {bs bm bmB : List Value} {hd : Bool} {sn : List Str} {sb : List Value} {ab : Bool} {col : Option Bool} {dd : Option Addr} {k0 k1 k2 k3 k5 : Option Value} {B newId initId : String} {kw : List (Str × Value)}
theorem check_new_kw {M : Model} (F : ExcBaseFacts B newId initId bmB) (hT : ∀ X : String, bm.contains (.type X) = bmB.contains (.type X)) {Q : Unit → Shared → Prop}
    (hC : h.get? C = some (excClassObj nm qn C N bs bm hd sn sb ab col dd k0 k1 k2 k3 k5 newId)) (hsig : Bind.checkArgs newId ⟨.any, B, B, .cls, [⟨"args", .varPos, false⟩, ⟨"kwargs", .varKw, false⟩]⟩ ⟨[.ref C], kw⟩ = pure ()) (hq : Q () ⟨h, g, d, t, os⟩) :
    wpAny M A (checkBuiltinCall newId ⟨[.ref C], kw⟩) Q E ⟨h, g, d, t, os⟩ := by
  have hB : (Value.ref C :: bm).contains (.type B) = true := by rw [List.contains_cons, hT, F.hasB, Bool.or_true]
  have star := F.noStar
  simp only [checkBuiltinCall, F.newKind, F.newSplit, F.newRow]
  repeat (first
    | refine wpAny_loadPart_at hC ?_
    | (refine wpAny_isSubtype_exc hC ?_; rw [hB])
    | refine wpAny_staticBase_exc hC ?_
    | refine wpAny_madeBy_exc hC ?_
    | rw [hsig]
    | simp only [bne_self_eq_false, Bool.false_eq_true, if_false]
    | wp_step)
  exact hq
theorem new_kw (F : ExcBaseFacts B newId initId bmB) (hT : ∀ X : String, bm.contains (.type X) = bmB.contains (.type X))
    (hC : h.get? C = some (excClassObj nm qn C N bs bm hd sn sb ab col dd k0 k1 k2 k3 k5 newId))
    (hq : R (.ok (.ret (.ref (h.objs.size + 1)))) ⟨(h.push (W.kdv_tup [])).push (PX.excO C h.objs.size), g, d, t, os⟩) :
    codeAny (model prog w) A (.builtin newId ⟨[.ref C], kw⟩) R ⟨h, g, d, t, os⟩ := by
  have ends := F.ends
  have hB : (Value.ref C :: bm).contains (.type B) = true := by rw [List.contains_cons, hT, F.hasB, Bool.or_true]
  have hA : (Value.ref C :: bm).contains (.type "AttributeError") = false := by rw [List.contains_cons, hT, F.noAttr] <;> rfl
  have hN : (Value.ref C :: bm).contains (.type "NameError") = false := by rw [List.contains_cons, hT, F.noName] <;> rfl
  have z0 : ([] : List Value).length ≤ sizeLine := Nat.zero_le _
  refine codeAny_builtinAt F.entry ?_
  unfold Builtin.«BaseException.__new__»
  refine PySem.wpAt_bind ?_
  show PySem.wpAt _ _ _ (stack >>= _) _ _ _
  refine PySem.wpAt_bind (PySem.wpAt_stack fun p below => PySem.wpAt_of_wpAny ?_)
  wp_walk
  refine PySem.wpAt_of_wpAny ?_
  rw [F.owner]
  repeat (first
    | with_reducible refine wpAny_madeHere_exc F.canon hC ?_
    | with_reducible refine wpAny_loadPart_at hC ?_
    | (with_reducible refine wpAny_isSubtype_exc hC ?_; first | rw [hB] | rw [hA] | rw [hN])
    | wp_step)
  show R _ _
  rw [Heap.size_push]
  exact hq
theorem type_call_kw {fI : Addr} {Q : Fin → Shared → Prop} (F : ExcBaseFacts B newId initId bmB) (hT : ∀ X : String, bm.contains (.type X) = bmB.contains (.type X))
    (hC : h.get? C = some (excClassObj nm qn C N bs bm hd sn sb ab col dd k0 k1 k2 k3 k5 newId)) (hsig : Bind.checkArgs newId ⟨.any, B, B, .cls, [⟨"args", .varPos, false⟩, ⟨"kwargs", .varKw, false⟩]⟩ ⟨[.ref C], kw⟩ = pure ())
    (hi : Looks (model prog w) h (typeLookup (.ref C) "__init__") (some (.ref fI))) (hb : ∀ self, Looks (model prog w) h (bindSpecial (.ref fI) self) (.ref fI, [self]))
    (hq : codeAny (model prog w) A (.call (.ref fI) ⟨[.ref (h.objs.size + 1)], kw⟩)
      (fun r s' => match r with | .ok (.ret v) => v = .none ∧ Q (.done (.ret (.ref (h.objs.size + 1)))) s' | .ok _ => False | .error e => E e s')
      ⟨(h.push (W.kdv_tup [])).push (PX.excO C h.objs.size), g, d, t, os⟩) :
    wpAny (model prog w) A (Builtin.«type.__call__» ⟨[.ref C], kw⟩) Q E ⟨h, g, d, t, os⟩ := by
  repeat (first | with_reducible refine wpAny_loadPart_at hC ?_ | with_reducible refine wpAny_madeBy_exc hC ?_ | wp_step)
  refine codeAny_call_builtin_code (Code.quiet_builtin _ F.quiet) (check_new_kw F hT hC hsig ?_)
  refine new_kw F hT hC ?_
  show wpAny _ _ _ _ _ _
  have k : ∀ b o, h.get? b = some o → ((h.push (W.kdv_tup [])).push (PX.excO C h.objs.size)).get? b = some o := fun b o e => Heap.get?_push_of_some _ (Heap.get?_push_of_some _ e)
  have hC2 := k _ _ hC
  have he : ((h.push (W.kdv_tup [])).push (PX.excO C h.objs.size)).get? (h.objs.size + 1) = some (PX.excO C h.objs.size) := by heap_get
  have self : (Value.ref C :: bm).contains (.ref C) = true := by simp
  have i1 := hi.keeps k
  have b1 := (hb (.ref (h.objs.size + 1))).keeps k
  unfold isInstance
  repeat (first | with_reducible refine wpAny_loadPart_at he ?_ | (with_reducible refine wpAny_isSubtype_exc hC2 ?_; rw [self]) | wp_step)
  show wpAny _ _ (typeLookup (.ref C) _) _ _ _
  refine i1.at ?_
  refine wpAny_holding (wpAny_bind (b1.at ?_))
  refine wpAny_bind (wpAny_call (codeAny_mono hq fun r s' z => ?_))
  match r, z with
  | .error e, z => exact z
  | .ok (.ret v), z =>
    obtain ⟨rfl, z⟩ := z
    first
      | exact wpAny_pure (wpAny_pure z)
      | (wp_walk; exact z)
  | .ok .next, z => exact z.elim
  | .ok .brk, z => exact z.elim
  | .ok .cont, z => exact z.elim
theorem check_call_kw {M : Model} {Q : Unit → Shared → Prop} (hC : h.get? C = some (excClassObj nm qn C N bs bm hd sn sb ab col dd k0 k1 k2 k3 k5 newId)) (hs : argsOk "type.__call__" ⟨[.ref C], kw⟩)
    (hq : Q () ⟨h, g, d, t, os⟩) : wpAny M A (checkBuiltinCall "type.__call__" ⟨[.ref C], kw⟩) Q E ⟨h, g, d, t, os⟩ :=
  check_slot tc_kind tc_split (.andThen (fun A Q E s k q => wpAny_typeOf_ref (k _ _ hC) q) (.of_pure tc_sub)) hs hq
theorem call_kw {fI : Addr} (F : ExcBaseFacts B newId initId bmB) (hT : ∀ X : String, bm.contains (.type X) = bmB.contains (.type X))
    (hC : h.get? C = some (excClassObj nm qn C N bs bm hd sn sb ab col dd k0 k1 k2 k3 k5 newId)) (hsig : Bind.checkArgs newId ⟨.any, B, B, .cls, [⟨"args", .varPos, false⟩, ⟨"kwargs", .varKw, false⟩]⟩ ⟨[.ref C], kw⟩ = pure ())
    (hi : Looks (model prog w) h (typeLookup (.ref C) "__init__") (some (.ref fI))) (hb : ∀ self, Looks (model prog w) h (bindSpecial (.ref fI) self) (.ref fI, [self]))
    (hq : codeAny (model prog w) (A.under (.builtin "type.__call__" ⟨[.ref C], kw⟩)) (.call (.ref fI) ⟨[.ref (h.objs.size + 1)], kw⟩) (InitBack (h.objs.size + 1) R)
      ⟨(h.push (W.kdv_tup [])).push (PX.excO C h.objs.size), g, d, t, os⟩) :
    codeAny (model prog w) A (.call (.ref C) ⟨[], kw⟩) R ⟨h, g, d, t, os⟩ := by
  have f1 := tc_lookup
  have f2 := tc_bind (.ref C)
  have ty : (⟨h, g, d, t, os⟩ : Shared).TypeIs (.ref C) "type" := ⟨_, hC, rfl⟩
  refine codeAny_of_tree ?_
  show wpAny _ _ (callAny (.ref C) _) _ _ _
  repeat (any_goals (first | assumption | with_reducible refine wpAny_loadPart_at hC ?_ | wp_step))
  refine ⟨rfl, ?_⟩
  refine codeAny_call_builtin_at (Code.quiet_builtin _ (by decide +kernel)) entry_typeCall (check_call_kw hC (tc_args _ _ _) (type_call_kw F hT hC hsig hi hb (codeAny_mono hq fun r s' z => ?_)))
  match r, z with
  | .error e, z => exact z
  | .ok (.ret v), z => exact z
  | .ok .next, z => exact z.elim
  | .ok .brk, z => exact z.elim
  | .ok .cont, z => exact z.elim

theorem sig_at {v : Value} : Bind.checkArgs "Exception.__new__" ⟨.any, "Exception", "Exception", .cls, [⟨"args", .varPos, false⟩, ⟨"kwargs", .varKw, false⟩]⟩ ⟨[.ref C], [(("at" : Str), v)]⟩ = pure () := by first | rfl | kernel_rfl
theorem runK_at {K : Frag} {S fI : Addr} {s : Shared} (T : Mkr_at K S C fI) {x t0 : Addr} {v : Value} (X : K.In s.heap) (hlim : s.heap.NoLimit) (hx : s.heap.get? x = some (PX.excO C t0)) (hroom : A.depth < recursionLimit)
    (hq : ∀ h' tk dx, Kept s.heap h' x C dx t0 "at" v → R (.ok (.ret .none)) { s with heap := h', toks := tk }) :
    codeAny (model prog w) A (.call (.ref fI) ⟨[.ref x], [(("at" : Str), v)]⟩) R s := by
  obtain ⟨q, oc, od, kV, doc, pm, an, cdv, ct, osl, p1, p2, q1, q2, q3, q4, ho, hcd⟩ := T.fn
  refine Att.call_fn (binds := [("self", .ref x), ("at", v)]) X hlim ho hcd hroom (BindsTo.of_eq (by first | rfl | with_unfolding_all rfl | kernel_rfl)) (by first | rfl | decide | with_unfolding_all rfl) (fun s₁ IC => ?_) rfl rfl rfl
  obtain ⟨h1, tk1, rfl⟩ := IC.toInCall.same
  have k : ∀ b o, s.heap.get? b = some o → h1.get? b = some o := IC.toInCall.keep
  have hn := IC.toInCall.ns
  have z : s.heap.objs.size < h1.objs.size := hn.lt
  show wpAny _ _ (execs _ _) _ _ _
  refine wpAny_execs_cons (plainObj_wpAny_Assign_Attribute ?_)
  refine ld_loc (v := v) hn (by first | rfl | with_unfolding_all rfl | kernel_rfl) (ld_loc (v := .ref x) hn (by first | rfl | with_unfolding_all rfl | kernel_rfl) ?_)
  refine store_err T.cls (X.keeps k) T.tk (k _ _ hx) fun h3 tk3 dx m => ?_
  show wpAny _ _ (execs _ _) _ _ _
  exact wpAny_execs_nil (hq h3 tk3 dx ⟨fun b o hb e => m.keep b o hb (k b o e), m.obj, Nat.le_of_lt (Nat.lt_of_lt_of_le z m.big), m.ne, m.ns⟩)
theorem makeK_at {K : Frag} {S fI : Addr} {s : Shared} (T : Mkr_at K S C fI) {v : Value} (X : K.In s.heap) (hlim : s.heap.NoLimit) (hroom : A.depth + 1 < recursionLimit)
    (hq : ∀ h' tk e d, MadeE s.heap h' e C (some d) → s.heap.objs.size ≤ d → d ≠ e → h'.Ns1 d (fun y => if y = "at" then some v else none) → R (.ok (.ret (.ref e))) { s with heap := h', toks := tk }) :
    codeAny (model prog w) A (.call (.ref C) ⟨[], [(("at" : Str), v)]⟩) R s := by
  obtain ⟨nm, N, qn, bs, bm, hd, sn, sb, ab, col, dd, k0, k1, k2, k3, k5, hC, hT⟩ := excInit_of X T.cls.ini
  obtain ⟨hp, g, dr, tk, os⟩ := s
  have k : ∀ b o, hp.get? b = some o → ((hp.push (W.kdv_tup [])).push (PX.excO C hp.objs.size)).get? b = some o := fun b o e => Heap.get?_push_of_some _ (Heap.get?_push_of_some _ e)
  have he : ((hp.push (W.kdv_tup [])).push (PX.excO C hp.objs.size)).get? (hp.objs.size + 1) = some (PX.excO C hp.objs.size) := by heap_get
  have hsz : ((hp.push (W.kdv_tup [])).push (PX.excO C hp.objs.size)).objs.size = hp.objs.size + 2 := by rw [Heap.size_push, Heap.size_push]
  refine call_kw F.excBase_Exception hT hC sig_at (looks_findIn X T.ini) (fun self => bind_fn X self T.tI) ?_
  refine runK_at (s := ⟨_, g, dr, tk, os⟩) T (X.keeps k) (hlim.keeps k) he ?_ fun h' tk' dx m => ?_
  · have e : (A.under (.builtin "type.__call__" ⟨[.ref C], [(("at" : Str), v)]⟩)).depth = A.depth + 1 := L2.make_depth (us := [])
    rw [e]
    exact hroom
  · have big : hp.objs.size ≤ dx := by
      have y := m.big
      dsimp only at y
      rw [hsz] at y
      omega
    exact ⟨rfl, hq h' tk' (hp.objs.size + 1) dx ⟨fun b o e => m.keep b o (Nat.ne_of_lt (Nat.lt_succ_of_lt (Heap.lt_size e))) (k b o e), Nat.le_succ _, ⟨_, _, m.obj, rfl, rfl, rfl, rfl⟩⟩ big m.ne m.ns⟩


theorem sig_word {v : Value} : Bind.checkArgs "Exception.__new__" ⟨.any, "Exception", "Exception", .cls, [⟨"args", .varPos, false⟩, ⟨"kwargs", .varKw, false⟩]⟩ ⟨[.ref C], [(("word" : Str), v)]⟩ = pure () := by first | rfl | kernel_rfl
theorem runK_word {K : Frag} {S fI : Addr} {s : Shared} (T : Mkr_word K S C fI) {x t0 : Addr} {v : Value} (X : K.In s.heap) (hlim : s.heap.NoLimit) (hx : s.heap.get? x = some (PX.excO C t0)) (hroom : A.depth < recursionLimit)
    (hq : ∀ h' tk dx, Kept s.heap h' x C dx t0 "word" v → R (.ok (.ret .none)) { s with heap := h', toks := tk }) :
    codeAny (model prog w) A (.call (.ref fI) ⟨[.ref x], [(("word" : Str), v)]⟩) R s := by
  obtain ⟨q, oc, od, kV, doc, pm, an, cdv, ct, osl, p1, p2, q1, q2, q3, q4, ho, hcd⟩ := T.fn
  refine Att.call_fn (binds := [("self", .ref x), ("word", v)]) X hlim ho hcd hroom (BindsTo.of_eq (by first | rfl | with_unfolding_all rfl | kernel_rfl)) (by first | rfl | decide | with_unfolding_all rfl) (fun s₁ IC => ?_) rfl rfl rfl
  obtain ⟨h1, tk1, rfl⟩ := IC.toInCall.same
  have k : ∀ b o, s.heap.get? b = some o → h1.get? b = some o := IC.toInCall.keep
  have hn := IC.toInCall.ns
  have z : s.heap.objs.size < h1.objs.size := hn.lt
  show wpAny _ _ (execs _ _) _ _ _
  refine wpAny_execs_cons (plainObj_wpAny_Assign_Attribute ?_)
  refine ld_loc (v := v) hn (by first | rfl | with_unfolding_all rfl | kernel_rfl) (ld_loc (v := .ref x) hn (by first | rfl | with_unfolding_all rfl | kernel_rfl) ?_)
  refine store_err T.cls (X.keeps k) T.tk (k _ _ hx) fun h3 tk3 dx m => ?_
  show wpAny _ _ (execs _ _) _ _ _
  exact wpAny_execs_nil (hq h3 tk3 dx ⟨fun b o hb e => m.keep b o hb (k b o e), m.obj, Nat.le_of_lt (Nat.lt_of_lt_of_le z m.big), m.ne, m.ns⟩)
theorem makeK_word {K : Frag} {S fI : Addr} {s : Shared} (T : Mkr_word K S C fI) {v : Value} (X : K.In s.heap) (hlim : s.heap.NoLimit) (hroom : A.depth + 1 < recursionLimit)
    (hq : ∀ h' tk e d, MadeE s.heap h' e C (some d) → s.heap.objs.size ≤ d → d ≠ e → h'.Ns1 d (fun y => if y = "word" then some v else none) → R (.ok (.ret (.ref e))) { s with heap := h', toks := tk }) :
    codeAny (model prog w) A (.call (.ref C) ⟨[], [(("word" : Str), v)]⟩) R s := by
  obtain ⟨nm, N, qn, bs, bm, hd, sn, sb, ab, col, dd, k0, k1, k2, k3, k5, hC, hT⟩ := excInit_of X T.cls.ini
  obtain ⟨hp, g, dr, tk, os⟩ := s
  have k : ∀ b o, hp.get? b = some o → ((hp.push (W.kdv_tup [])).push (PX.excO C hp.objs.size)).get? b = some o := fun b o e => Heap.get?_push_of_some _ (Heap.get?_push_of_some _ e)
  have he : ((hp.push (W.kdv_tup [])).push (PX.excO C hp.objs.size)).get? (hp.objs.size + 1) = some (PX.excO C hp.objs.size) := by heap_get
  have hsz : ((hp.push (W.kdv_tup [])).push (PX.excO C hp.objs.size)).objs.size = hp.objs.size + 2 := by rw [Heap.size_push, Heap.size_push]
  refine call_kw F.excBase_Exception hT hC sig_word (looks_findIn X T.ini) (fun self => bind_fn X self T.tI) ?_
  refine runK_word (s := ⟨_, g, dr, tk, os⟩) T (X.keeps k) (hlim.keeps k) he ?_ fun h' tk' dx m => ?_
  · have e : (A.under (.builtin "type.__call__" ⟨[.ref C], [(("word" : Str), v)]⟩)).depth = A.depth + 1 := L2.make_depth (us := [])
    rw [e]
    exact hroom
  · have big : hp.objs.size ≤ dx := by
      have y := m.big
      dsimp only at y
      rw [hsz] at y
      omega
    exact ⟨rfl, hq h' tk' (hp.objs.size + 1) dx ⟨fun b o e => m.keep b o (Nat.ne_of_lt (Nat.lt_succ_of_lt (Heap.lt_size e))) (k b o e), Nat.le_succ _, ⟨_, _, m.obj, rfl, rfl, rfl, rfl⟩⟩ big m.ne m.ns⟩

end
end Shf


namespace L2
open PySem PySem.Spec PyProof.Rows
section
variable {X : Cx} {S C fI : Addr}

theorem pe_made_at {x : Str} {e : Expr} {te : TE} {p pos apos kp : Pos} {k : Nat} (T : Shf.Mkr_at X.K S C fI) (gC : X.mg x = some (.ref C)) (hr : Room k X.A) (hg : Gl X x) (he : PE X e te) (hdb : (x == ("__debug__" : Str)) = false := by decide)
    (hb : attributeBase (.Call (.Name x p) [] [⟨some "at", e, kp⟩] pos) "at" X.env (eval (.Call (.Name x p) [] [⟨some "at", e, kp⟩] pos) X.env) = eval (.Call (.Name x p) [] [⟨some "at", e, kp⟩] pos) X.env := by rfl)
    (hall : (backToKw pos (keywordEach [⟨some "at", e, kp⟩] X.env)).all (·.1.isSome) = true := by rfl) (hks : (backToKw pos (keywordEach [⟨some "at", e, kp⟩] X.env)).filterMap (·.1) = [("at" : Str)] := by rfl)
    (hpl : ((backTo pos (starEach [] X.env)).any (·.1) || (backToKw pos (keywordEach [⟨some "at", e, kp⟩] X.env)).any (·.1.isNone)) = false := by rfl) :
    PE X (.Attribute (.Call (.Name x p) [] [⟨some "at", e, kp⟩] pos) "at" apos) (fun σ H Q => te σ H fun y H1 => ∃ v, [y] = [v] ∧ Q v H1) := by
  refine ⟨fun pins s σ H Q I h => attr_of hb ?_⟩
  refine wpAny_Call_Name_kw (ld_glob I hg gC ?_ hdb)
  refine PySem.W.callWith_KW0 (h₀ := X.base) I.ok.mod.kin T.cls.kp hall ?_ hpl
  refine thn ((pk_cons (nm := "at") (kpos := kp) he pk_nil).run pos pins s σ H (fun zs H1 => ∃ v, zs = [v] ∧ Q v H1) I h) fun ws s1 hh => ?_
  obtain ⟨zs, H1, I1, rz, v, rfl, q⟩ := hh
  obtain ⟨u, rfl, rv⟩ : ∃ u, ws = [u] ∧ RelV v u := by
    cases rz with
    | cons rv rn =>
      cases rn
      exact ⟨_, rfl, rv⟩
  refine ⟨I1.kIn, ?_⟩
  rw [hks]
  have lim := I1.nolimit
  obtain ⟨hp, g, dr, tk, os⟩ := s1
  refine wpAny_call (Shf.makeK_at (s := ⟨hp, g, dr, tk, os⟩) T I1.kIn lim (by have := hr.dp; omega) fun h' tk' a d M dbig dne hns => ?_)
  obtain ⟨oe, fv, hoe, hc, hd, hdat, h1⟩ := M.obj
  obtain ⟨od, ho, hl⟩ := lookIn_ns hns
  have J : PySem.W.InstAt h' a oe C (some od) := ⟨hoe, hc, by unfold PySem.W.notCls; rw [hdat] <;> rfl, by rw [hd]; exact ho⟩
  obtain ⟨cd, hcd, _, hdict⟩ := T.cls.mro
  have hD : PySem.W.hasDictIn X.K C = true := by
    show (PySem.W.clsIn X.K C).any (·.hasDict) = true
    rw [hcd]
    exact hdict
  have hl2 : PySem.W.lookIn "at" od = some (some u) := by
    rw [hl]
    exact congrArg some (if_pos rfl)
  exact PySem.PX.exc_get (s := ⟨h', g, dr, tk', os⟩) (I1.kIn.keeps M.keep) J T.cls.ga T.cls.gg T.cls.exc (PySem.W.findObj_own hD T.no rfl hl2) (handed_of rv) ⟨v, H1, (I1.kept (t' := tk') M.keep).tok _, rv, q⟩

theorem pe_made_word {x : Str} {e : Expr} {te : TE} {p pos apos kp : Pos} {k : Nat} (T : Shf.Mkr_word X.K S C fI) (gC : X.mg x = some (.ref C)) (hr : Room k X.A) (hg : Gl X x) (he : PE X e te) (hdb : (x == ("__debug__" : Str)) = false := by decide)
    (hb : attributeBase (.Call (.Name x p) [] [⟨some "word", e, kp⟩] pos) "word" X.env (eval (.Call (.Name x p) [] [⟨some "word", e, kp⟩] pos) X.env) = eval (.Call (.Name x p) [] [⟨some "word", e, kp⟩] pos) X.env := by rfl)
    (hall : (backToKw pos (keywordEach [⟨some "word", e, kp⟩] X.env)).all (·.1.isSome) = true := by rfl) (hks : (backToKw pos (keywordEach [⟨some "word", e, kp⟩] X.env)).filterMap (·.1) = [("word" : Str)] := by rfl)
    (hpl : ((backTo pos (starEach [] X.env)).any (·.1) || (backToKw pos (keywordEach [⟨some "word", e, kp⟩] X.env)).any (·.1.isNone)) = false := by rfl) :
    PE X (.Attribute (.Call (.Name x p) [] [⟨some "word", e, kp⟩] pos) "word" apos) (fun σ H Q => te σ H fun y H1 => ∃ v, [y] = [v] ∧ Q v H1) := by
  refine ⟨fun pins s σ H Q I h => attr_of hb ?_⟩
  refine wpAny_Call_Name_kw (ld_glob I hg gC ?_ hdb)
  refine PySem.W.callWith_KW0 (h₀ := X.base) I.ok.mod.kin T.cls.kp hall ?_ hpl
  refine thn ((pk_cons (nm := "word") (kpos := kp) he pk_nil).run pos pins s σ H (fun zs H1 => ∃ v, zs = [v] ∧ Q v H1) I h) fun ws s1 hh => ?_
  obtain ⟨zs, H1, I1, rz, v, rfl, q⟩ := hh
  obtain ⟨u, rfl, rv⟩ : ∃ u, ws = [u] ∧ RelV v u := by
    cases rz with
    | cons rv rn =>
      cases rn
      exact ⟨_, rfl, rv⟩
  refine ⟨I1.kIn, ?_⟩
  rw [hks]
  have lim := I1.nolimit
  obtain ⟨hp, g, dr, tk, os⟩ := s1
  refine wpAny_call (Shf.makeK_word (s := ⟨hp, g, dr, tk, os⟩) T I1.kIn lim (by have := hr.dp; omega) fun h' tk' a d M dbig dne hns => ?_)
  obtain ⟨oe, fv, hoe, hc, hd, hdat, h1⟩ := M.obj
  obtain ⟨od, ho, hl⟩ := lookIn_ns hns
  have J : PySem.W.InstAt h' a oe C (some od) := ⟨hoe, hc, by unfold PySem.W.notCls; rw [hdat] <;> rfl, by rw [hd]; exact ho⟩
  obtain ⟨cd, hcd, _, hdict⟩ := T.cls.mro
  have hD : PySem.W.hasDictIn X.K C = true := by
    show (PySem.W.clsIn X.K C).any (·.hasDict) = true
    rw [hcd]
    exact hdict
  have hl2 : PySem.W.lookIn "word" od = some (some u) := by
    rw [hl]
    exact congrArg some (if_pos rfl)
  exact PySem.PX.exc_get (s := ⟨h', g, dr, tk', os⟩) (I1.kIn.keeps M.keep) J T.cls.ga T.cls.gg T.cls.exc (PySem.W.findObj_own hD T.no rfl hl2) (handed_of rv) ⟨v, H1, (I1.kept (t' := tk') M.keep).tok _, rv, q⟩
end
end L2


/-! ### what the head says of a program: its errors, its defs, its free names, its numbers -/
namespace Shf
open PySem PySem.Spec PyProof.Rows L2
def mkAt (q : PySem.Str × Nat) : He.DefD := ⟨(q.1, some "__init__"), "__init__", q.1 ++ ".__init__", args_at ⟨q.2, 17, q.2, 21⟩ ⟨q.2, 23, q.2, 25⟩, body_at ⟨q.2 + 1, 8, q.2 + 1, 12⟩ ⟨q.2 + 1, 8, q.2 + 1, 15⟩ ⟨q.2 + 1, 18, q.2 + 1, 20⟩ ⟨q.2 + 1, 8, q.2 + 1, 20⟩, scope_at, [], []⟩
def mkWord (q : PySem.Str × Nat) : He.DefD := ⟨(q.1, some "__init__"), "__init__", q.1 ++ ".__init__", args_word ⟨q.2, 17, q.2, 21⟩ ⟨q.2, 23, q.2, 27⟩, body_word ⟨q.2 + 1, 8, q.2 + 1, 12⟩ ⟨q.2 + 1, 8, q.2 + 1, 17⟩ ⟨q.2 + 1, 20, q.2 + 1, 24⟩ ⟨q.2 + 1, 8, q.2 + 1, 24⟩, scope_word, [], []⟩
def mk0 (q : PySem.Str × Nat) : He.DefD := ⟨(q.1, some "__init__"), "__init__", q.1 ++ ".__init__", args_0 ⟨q.2, 17, q.2, 21⟩, [.Pass ⟨q.2 + 1, 8, q.2 + 1, 12⟩], scope_0, [], []⟩
structure Cfg where
  eAt : List (PySem.Str × Nat)
  eWord : List (PySem.Str × Nat)
  e0 : List (PySem.Str × Nat)
  own : List He.DefD
  free : List PySem.Str
  nums : List (PySem.Str × Int)
def Cfg.fn (c : Cfg) : List He.DefD := c.own ++ (c.eAt.map mkAt ++ (c.eWord.map mkWord ++ c.e0.map mk0))
def Cfg.errs (c : Cfg) : List PySem.Str := c.eAt.map (·.1) ++ (c.eWord.map (·.1) ++ c.e0.map (·.1))
def bs (K : PySem.W.Frag) : Addr := He.ga K "ShelfError"
def ea (K : PySem.W.Frag) (x : PySem.Str) : Addr := He.ga K x
def ia (K : PySem.W.Frag) (x : PySem.Str) : Addr := He.ma K (He.ga K x) "__init__"
def fErr (K : PySem.W.Frag) (x : PySem.Str) : Bool := oo (PySem.W.nsIn K mainGlobals x) (some (some (.ref (ea K x)))) && (errB K (bs K) (ea K x) && (oo (PySem.W.findIn K (.ref (ea K x)) "__init__") (some (some (.ref (ia K x)))) && decide (PySem.W.typeIn K (.ref (ia K x)) = some (.type "function"))))
def fFld (K : PySem.W.Frag) (f x : PySem.Str) : Bool := decide (PySem.W.takerIn K (ea K x) f = some none) && oo (PySem.W.findIn K (.ref (ea K x)) f) (some none)
def fBase (K : PySem.W.Frag) : Bool := oo (PySem.W.nsIn K mainGlobals "ShelfError") (some (some (.ref (bs K)))) && (decide (PySem.W.subIn K (.ref (bs K)) (.type "BaseException") = some true) && ((PySem.W.clsIn K (bs K)).isSome && decide (PySem.W.typeIn K (.ref (bs K)) = some (.type "type"))))
def fFree (K : PySem.W.Frag) (x : PySem.Str) : Bool := oo (PySem.W.nsIn K mainGlobals x) (some none)
def fGlo (K : PySem.W.Frag) (x : PySem.Str) : Bool := oo (PySem.W.nsIn K mainGlobals x) (some (some (.ref (ea K x))))
def noTwo : List Addr → Bool
  | [] => true
  | a :: r => !r.contains a && noTwo r
theorem noTwo_ok : ∀ {l : List Addr}, noTwo l = true → l.Nodup
  | [], _ => List.nodup_nil
  | a :: r, h => by
    obtain ⟨h1, h2⟩ := band (show (!r.contains a && noTwo r) = true from h)
    refine List.nodup_cons.mpr ⟨fun hm => ?_, noTwo_ok h2⟩
    rw [List.contains_iff_mem.mpr hm] at h1
    cases h1
def Cfg.facts (c : Cfg) (K : PySem.W.Frag) : Bool := (c.errs.all fun x => fErr K x) && ((c.eAt.all fun q => fFld K "at" q.1) && ((c.eWord.all fun q => fFld K "word" q.1) && (fBase K && (noTwo (bs K :: c.errs.map (ea K)) && ((c.free.all fun x => fFree K x) && ((c.own.all fun d => fGlo K d.at_.1) && (c.nums.all fun q => (He.Fa.int q.1 q.2).ok K)))))))
abbrev Own (K : PySem.W.Frag) (x : PySem.Str) (st : Stmt) (f : Addr) (fd : FuncData) : Prop := FunD K x x (defArgs st) (defBody st) (defScope st) [] [] f fd
/-- a plain def of the text, where its name says -/
structure Has (K : PySem.W.Frag) (mg : PySem.Str → Option Value) (x : PySem.Str) (st : Stmt) (fd : FuncData) : Prop where
  F : Own K x st (ea K x) fd
  g : mg x = some (.ref (ea K x))
structure EnvOk (c : Cfg) (K : PySem.W.Frag) (mg : PySem.Str → Option Value) : Prop where
  at_ : ∀ x ∈ c.eAt.map (·.1), Mkr_at K (bs K) (ea K x) (ia K x)
  word : ∀ x ∈ c.eWord.map (·.1), Mkr_word K (bs K) (ea K x) (ia K x)
  non : ∀ x ∈ c.e0.map (·.1), Mkr_0 K (bs K) (ea K x) (ia K x)
  cls : ∀ x ∈ c.errs, ErrC K (bs K) (ea K x)
  g : ∀ x ∈ c.errs, mg x = some (.ref (ea K x))
  nb : ∀ x ∈ c.errs, ea K x ≠ bs K
  inj : ∀ x ∈ c.errs, ∀ y ∈ c.errs, ea K x = ea K y → x = y
  own : ∀ d ∈ c.own, mg d.at_.1 = some (.ref (ea K d.at_.1))
  free : ∀ x ∈ c.free, mg x = none
  int : ∀ q ∈ c.nums, ∃ t, mg q.1 = some (.int q.2 t)
theorem dfl0 {K : PySem.W.Frag} {dV : Value} (h : DflV K dV []) : dV = .none := by
  rcases h with h | h
  · exact h.2
  · exact absurd rfl h.1
theorem def_mem {fa : PySem.W.Frag → Bool} {fn : List He.DefD} {K : PySem.W.Frag} (c : SaysS fa fn K) {d : He.DefD} (h : d ∈ fn) : ∃ fd, FunD K d.name d.qual d.params d.body d.scope (d.dvs K) (d.kws K) (He.fAd K d.at_) fd := by
  obtain ⟨i, hi⟩ := List.getElem?_of_mem h
  exact c.def_ i hi
theorem map_inj {α β : Type} {f : α → β} : ∀ {l : List α}, (l.map f).Nodup → ∀ x ∈ l, ∀ y ∈ l, f x = f y → x = y
  | [], _, x, hx, _, _, _ => nomatch hx
  | a :: r, h, x, hx, y, hy, e => by
    obtain ⟨h1, h2⟩ := List.nodup_cons.mp (show (f a :: r.map f).Nodup from h)
    rcases List.mem_cons.mp hx with hx | hx
    · rcases List.mem_cons.mp hy with hy | hy
      · rw [hx, hy]
      · exact absurd (by rw [← hx, e]; exact List.mem_map_of_mem hy) h1
    · rcases List.mem_cons.mp hy with hy | hy
      · exact absurd (by rw [← hy, ← e]; exact List.mem_map_of_mem hx) h1
      · exact map_inj h2 x hx y hy e
theorem top_of {c : Cfg} {K : PySem.W.Frag} {mg : PySem.Str → Option Value} {h : Heap} (X : K.In h) (G : h.Ns mainGlobals mg) (s : SaysS c.facts c.fn K) : EnvOk c K mg := by
  obtain ⟨fE, hf⟩ := band s.facts
  obtain ⟨fA, hf⟩ := band hf
  obtain ⟨fW, hf⟩ := band hf
  obtain ⟨fB, hf⟩ := band hf
  obtain ⟨fN, hf⟩ := band hf
  obtain ⟨fF, hf⟩ := band hf
  obtain ⟨fG, fI⟩ := band hf
  have err : ∀ x ∈ c.errs, mg x = some (.ref (ea K x)) ∧ ErrC K (bs K) (ea K x) ∧ PySem.W.findIn K (.ref (ea K x)) "__init__" = some (some (.ref (ia K x))) ∧ PySem.W.typeIn K (.ref (ia K x)) = some (.type "function") := fun x hx => by
    obtain ⟨h1, h2⟩ := band (List.all_eq_true.mp fE x hx)
    obtain ⟨h2, h3⟩ := band h2
    obtain ⟨h3, h4⟩ := band h3
    exact ⟨PySem.W.mg_of X G (of_decide_eq_true h1), errB_ok h2, of_decide_eq_true h3, of_decide_eq_true h4⟩
  obtain ⟨nb, nd⟩ := List.nodup_cons.mp (noTwo_ok fN)
  refine ⟨fun x hx => ?_, fun x hx => ?_, fun x hx => ?_, fun x hx => (err x hx).2.1, fun x hx => (err x hx).1, fun x hx e => nb (by rw [← e]; exact List.mem_map_of_mem hx), fun x hx y hy e => map_inj nd x hx y hy e,
    fun d hd => PySem.W.mg_of X G (of_decide_eq_true (List.all_eq_true.mp fG d hd)), fun x hx => PySem.W.mg_none_of X G (of_decide_eq_true (List.all_eq_true.mp fF x hx)), fun q hq => He.int_ok X G (List.all_eq_true.mp fI q hq)⟩
  · obtain ⟨_, h2, h3, h4⟩ := err x (List.mem_append_left _ hx)
    obtain ⟨q, hq, rfl⟩ := List.mem_map.mp hx
    obtain ⟨h5, h6⟩ := band (List.all_eq_true.mp fA q hq)
    obtain ⟨fd, Fd⟩ := def_mem s (d := mkAt q) (List.mem_append_right _ (List.mem_append_left _ (List.mem_map_of_mem hq)))
    obtain ⟨oc, od, dV, kV, doc, pm, an, cdv, ct, osl, rfl, lk, hcd, hd, _⟩ := Fd.ex
    have e0 : dV = .none := dfl0 hd
    subst e0
    exact ⟨h2, of_decide_eq_true h5, of_decide_eq_true h6, h3, h4, _, oc, od, kV, doc, pm, an, cdv, ct, osl, _, _, _, _, _, _, lk, hcd⟩
  · obtain ⟨_, h2, h3, h4⟩ := err x (List.mem_append_right _ (List.mem_append_left _ hx))
    obtain ⟨q, hq, rfl⟩ := List.mem_map.mp hx
    obtain ⟨h5, h6⟩ := band (List.all_eq_true.mp fW q hq)
    obtain ⟨fd, Fd⟩ := def_mem s (d := mkWord q) (List.mem_append_right _ (List.mem_append_right _ (List.mem_append_left _ (List.mem_map_of_mem hq))))
    obtain ⟨oc, od, dV, kV, doc, pm, an, cdv, ct, osl, rfl, lk, hcd, hd, _⟩ := Fd.ex
    have e0 : dV = .none := dfl0 hd
    subst e0
    exact ⟨h2, of_decide_eq_true h5, of_decide_eq_true h6, h3, h4, _, oc, od, kV, doc, pm, an, cdv, ct, osl, _, _, _, _, _, _, lk, hcd⟩
  · obtain ⟨_, h2, h3, h4⟩ := err x (List.mem_append_right _ (List.mem_append_right _ hx))
    obtain ⟨q, hq, rfl⟩ := List.mem_map.mp hx
    obtain ⟨fd, Fd⟩ := def_mem s (d := mk0 q) (List.mem_append_right _ (List.mem_append_right _ (List.mem_append_right _ (List.mem_map_of_mem hq))))
    obtain ⟨oc, od, dV, kV, doc, pm, an, cdv, ct, osl, rfl, lk, hcd, hd, _⟩ := Fd.ex
    have e0 : dV = .none := dfl0 hd
    subst e0
    exact ⟨h2, h3, h4, _, oc, od, kV, doc, pm, an, cdv, ct, osl, _, _, lk, hcd⟩
theorem has_of {c : Cfg} {K : PySem.W.Frag} {mg : PySem.Str → Option Value} (s : SaysS c.facts c.fn K) (T : EnvOk c K mg) (i : Nat) (x : PySem.Str) (st : Stmt) (h : c.own[i]? = some ⟨(x, none), x, x, defArgs st, defBody st, defScope st, [], []⟩) : ∃ fd, Has K mg x st fd := by
  have hm := List.mem_of_getElem? h
  obtain ⟨fd, Fd⟩ := def_mem s (List.mem_append_left _ hm)
  exact ⟨fd, Fd, T.own _ hm⟩
/-! ### which clause takes which error -/
section
variable {c : Cfg} {K : PySem.W.Frag} {mg : PySem.Str → Option Value} {D : Ends} {Wout : WX} {ts : Addr → Value → Option Addr → TS} {r : List Cl} {d : Option Addr} {σ : L2.St} {H : Hp}
theorem no_clause (T : EnvOk c K mg) {i : Option Nat} (x y : PySem.Str) (hy : y ∈ c.errs) (hx : x ∈ c.errs) (hne : x ≠ y) (h : wCls K Wout D r (.ref (ea K x)) d σ H) : wCls K Wout D (⟨.ref (ea K y), i, ts⟩ :: r) (.ref (ea K x)) d σ H := by
  refine ⟨false, ?_, fun q => Bool.noConfusion q, fun _ => h⟩
  rw [(T.cls x hx).takes (T.cls y hy) (T.nb y hy), decide_eq_false (fun e => hne (T.inj y hy x hx e).symm)]
theorem yes_clause (T : EnvOk c K mg) {i : Nat} (x : PySem.Str) (hx : x ∈ c.errs)
    (h : ∀ a, H a = none → ts a (.ref (ea K x)) d { nx := fun σ' H' => D.nx (σ'.set i none) H', rt := D.rt, bk := fun σ' H' => D.bk (σ'.set i none) H', ct := fun σ' H' => D.ct (σ'.set i none) H' } (σ.set i (some (.ref a))) H) :
    wCls K Wout D (⟨.ref (ea K x), some i, ts⟩ :: r) (.ref (ea K x)) d σ H := by
  refine ⟨true, ?_, fun _ => h, fun q => Bool.noConfusion q⟩
  rw [(T.cls x hx).takes (T.cls x hx) (T.nb x hx), decide_eq_true rfl]
theorem yes_bare (T : EnvOk c K mg) (x : PySem.Str) (hx : x ∈ c.errs) (h : ∀ a, H a = none → ts a (.ref (ea K x)) d D σ H) : wCls K Wout D (⟨.ref (ea K x), none, ts⟩ :: r) (.ref (ea K x)) d σ H := by
  refine ⟨true, ?_, fun _ => h, fun q => Bool.noConfusion q⟩
  rw [(T.cls x hx).takes (T.cls x hx) (T.nb x hx), decide_eq_true rfl]
end
end Shf


/-! ### sequences: lists or tuples -/
namespace L2
open PySem PySem.Spec PyProof.Rows
def Sq (K : PySem.W.Frag) (H : Hp) (a : Addr) (xs : List V) : Prop := SqL K H a xs ∨ SqT K H a xs
theorem sqt_same {K : PySem.W.Frag} {H H' : Hp} {a : Addr} {xs : List V} (e : Same H H') (h : SqT K H a xs) : SqT K H' a xs := by
  rcases h with (h | ⟨o, h⟩) | h
  · exact .inl (.inl (e _ _ h))
  · exact .inl (.inr ⟨o, e _ _ h⟩)
  · exact .inr h
theorem Sq.same {K : PySem.W.Frag} {H H' : Hp} {a : Addr} {xs : List V} (e : Same H H') (h : Sq K H a xs) : Sq K H' a xs := h.imp e.seq (sqt_same e)
theorem same_new {H : Hp} {p : Addr} {o : HO} (h : H p = none) : Same H (upd H p o) := fun b x e => by
  rw [upd_ne (ne_of_none e h)]
  exact e
/-- what a list or a tuple yields, one after the other -/
def Its2 (K : PySem.W.Frag) (a : Addr) (xs : List V) : It := ⟨fun i H => Sq K H a xs ∧ i < xs.length, fun i H x H' => H' = H ∧ xs[i]? = some x, fun i H => Sq K H a xs ∧ xs.length ≤ i⟩
section
variable {X : Cx} {tg l : Expr} {tl : TE}
def iSq (K : PySem.W.Frag) (tl : TE) : TI := fun σ H R => tl σ H fun x H1 => ∃ a xs, x = .ref a ∧ Sq K H1 a xs ∧ R (Its2 K a xs) H1
theorem turn_sqL {P : Program} {w : World} {K : PySem.W.Frag} (a it : Addr) (xs : List V) : Turn P w K tg ⟨fun i H => SqL K H a xs ∧ i < xs.length, fun i H x H' => H' = H ∧ xs[i]? = some x, fun i H => SqL K H a xs ∧ xs.length ≤ i⟩ [it] it (fun i h => h.IsListIter it a i) := by
  have t := turn_list (P := P) (w := w) (K := K) (tg := tg) a it
  refine ⟨t.mem, t.obj, t.keep, fun X hP hw hK hc i pins s σ H E I hf st hg => ?_, fun X hP hw hK hc i pins s σ H E I hf st hg => ?_, t.self⟩
  · have q := t.item X hP hw hK hc i pins s σ H E I hf st ⟨xs, xs[i]'hg.2, hg.1, by simp [hg.2]⟩
    refine wpAny_mono q (fun r s1 h1 => ?_) fun _ _ z => z
    obtain ⟨u, e, h1⟩ := h1
    refine ⟨u, e, wpAny_mono h1 (fun _ s2 h2 => ?_) fun _ _ z => z⟩
    obtain ⟨x, H', J, rx, ⟨e1, e2⟩, st2, hn⟩ := h2
    exact ⟨x, H', J, rx, ⟨e1, e2 xs hg.1⟩, st2, hn⟩
  · exact t.done X hP hw hK hc i pins s σ H E I hf st ⟨xs, hg.1, hg.2⟩
theorem turn_sqT {P : Program} {w : World} {K : PySem.W.Frag} (a it : Addr) (xs : List V) : Turn P w K tg ⟨fun i H => SqT K H a xs ∧ i < xs.length, fun i H x H' => H' = H ∧ xs[i]? = some x, fun i H => SqT K H a xs ∧ xs.length ≤ i⟩ [it] it (fun i h => h.IsTupleIter it a i) := by
  have t := turn_tuple (P := P) (w := w) (K := K) (tg := tg) a it
  refine ⟨t.mem, t.obj, t.keep, fun X hP hw hK hc i pins s σ H E I hf st hg => ?_, fun X hP hw hK hc i pins s σ H E I hf st hg => ?_, t.self⟩
  · have q := t.item X hP hw hK hc i pins s σ H E I hf st ⟨xs, xs[i]'hg.2, hg.1, by simp [hg.2]⟩
    refine wpAny_mono q (fun r s1 h1 => ?_) fun _ _ z => z
    obtain ⟨u, e, h1⟩ := h1
    refine ⟨u, e, wpAny_mono h1 (fun _ s2 h2 => ?_) fun _ _ z => z⟩
    obtain ⟨x, H', J, rx, ⟨e1, e2⟩, st2, hn⟩ := h2
    exact ⟨x, H', J, rx, ⟨e1, e2 xs hg.1⟩, st2, hn⟩
  · exact t.done X hP hw hK hc i pins s σ H E I hf st ⟨xs, hg.1, hg.2⟩
/-- for x in a list or a tuple; the two ways may stand as they will -/
def iSqW (K : PySem.W.Frag) (tl : TE) : TI := fun σ H R => tl σ H fun x H1 => ∃ a xs, x = .ref a ∧
  ((SqL K H1 a xs ∧ R ⟨fun i H => SqL K H a xs ∧ i < xs.length, fun i H x H' => H' = H ∧ xs[i]? = some x, fun i H => SqL K H a xs ∧ xs.length ≤ i⟩ H1) ∨
    (SqT K H1 a xs ∧ R ⟨fun i H => SqT K H a xs ∧ i < xs.length, fun i H x H' => H' = H ∧ xs[i]? = some x, fun i H => SqT K H a xs ∧ xs.length ≤ i⟩ H1))
theorem pi_sq (hl : PE X l tl) : PI X tg l (iSqW X.K tl) := by
  refine ⟨fun pins s σ H R I h => thn (hl.run pins s σ H _ I h) fun v s1 hh => ?_⟩
  obtain ⟨x, H1, I1, r1, a, xs, rfl, q⟩ := hh
  obtain rfl : v = Value.ref a := r1
  rcases q with ⟨hq, q⟩ | ⟨hq, q⟩
  · obtain ⟨its, rv, p, hz⟩ := I1.list hq
    refine wpAny_pyIter_list p.isList ⟨s1.heap.objs.size, [s1.heap.objs.size], _, _, H1, rfl, I1.kept (t' := s1.toks) fun b o e => Heap.get?_push_of_some _ e, turn_sqL a _ xs, ⟨_, Heap.get?_push_size _ rfl, rfl, rfl⟩, fun b hb => ?_, q⟩
    obtain rfl : b = s1.heap.objs.size := by simpa using hb
    exact I1.fpOk (Nat.le_refl _) (I1.hok.fresh (Nat.le_refl _))
  · obtain ⟨its, rv, p, hz⟩ := I1.tuple hq
    refine wpAny_pyIter_tuple (show s1.heap.IsTuple a its.toArray from p) ⟨s1.heap.objs.size, [s1.heap.objs.size], _, _, H1, rfl, I1.kept (t' := s1.toks) fun b o e => Heap.get?_push_of_some _ e, turn_sqT a _ xs, ⟨_, Heap.get?_push_size _ rfl, rfl, rfl⟩, fun b hb => ?_, q⟩
    obtain rfl : b = s1.heap.objs.size := by simpa using hb
    exact I1.fpOk (Nat.le_refl _) (I1.hok.fresh (Nat.le_refl _))
/-- a, b = a list or a tuple of two -/
def gSq (K : PySem.W.Frag) (n : Nat) (t : TGs) : TG := fun v σ H Q => ∃ a xs, v = .ref a ∧ Sq K H a xs ∧ xs.length = n ∧ t xs σ H Q
theorem pg_sq {es : List Expr} {k : Nat} {t : TGs} {n : Nat} {pos : Pos} (hc : X.calm = true) (h : PGs X es t)
    (hn : (assignEach es X.env).length = n := by rfl) (hst : (assignEach es X.env).findIdx? (·.1) = none := by rfl) : PG X (.Tuple es k pos) (gSq X.K n t) := by
  refine ⟨fun pins s σ H v u Q I r hw => ?_⟩
  obtain ⟨a, xs, e, hq | hq, hl, hw⟩ := hw
  · exact (pg_unl (k := k) (pos := pos) hc h hn hst).run pins s σ H v u Q I r ⟨a, xs, e, hq, hl, hw⟩
  · exact (pg_tup (k := k) (pos := pos) hc h hn hst).run pins s σ H v u Q I r ⟨a, xs, e, hq, hl, hw⟩
end
/-- a for over either -/
theorem for_sq {K : PySem.W.Frag} {a : Addr} {xs : List V} {g : TG} {tb : TS} {D : Ends} {σ : L2.St} {H : Hp} (hS : Sq K H a xs) (Pv : Nat → L2.St → Hp → Prop) (h0 : Pv 0 σ H) (hk : ∀ i σ' H', Pv i σ' H' → Same H H')
    (hs : ∀ i x σ H, xs[i]? = some x → Pv i σ H → g x σ H fun σ2 H2 => tb { D with nx := Pv (i + 1), ct := Pv (i + 1), bk := D.nx } σ2 H2) (hd : ∀ σ H, Pv xs.length σ H → D.nx σ H) (tl : TE)
    (ht : ∀ R : V → Hp → Prop, R (.ref a) H → tl σ H R) : tFor (iSqW K tl) g tb D σ H := by
  have core : ∀ (G : Hp → Prop), G H → (∀ H', Same H H' → G H → G H') → ∃ W : Nat → Nat → L2.St → Hp → Prop, (∃ m, W 0 m σ H) ∧ ∀ i m σ H, W i m σ H →
      ((G H ∧ xs.length ≤ i) ∧ D.nx σ H) ∨ ((G H ∧ i < xs.length) ∧ ∃ N : L2.St → Hp → Prop, (∀ σ' H', N σ' H' → ∃ m', m' < m ∧ W (i + 1) m' σ' H') ∧ ∀ x H', (H' = H ∧ xs[i]? = some x) → g x σ H' fun σ2 H2 => tb { D with nx := N, ct := N, bk := D.nx } σ2 H2) := by
    intro G hG hkeep
    refine ⟨fun i m σ H => m = xs.length - i ∧ i ≤ xs.length ∧ Pv i σ H, ⟨xs.length, rfl, Nat.zero_le _, h0⟩, ?_⟩
    rintro i m σ' H' ⟨rfl, hi, p⟩
    have gg := hkeep H' (hk i σ' H' p) hG
    by_cases hlt : i < xs.length
    · refine .inr ⟨⟨gg, hlt⟩, Pv (i + 1), fun σ2 H2 p2 => ⟨xs.length - (i + 1), by omega, rfl, hlt, p2⟩, fun x H2 y => ?_⟩
      obtain ⟨rfl, hx⟩ := y
      exact hs i x σ' H2 hx p
    · have e : i = xs.length := by omega
      subst e
      exact .inl ⟨⟨gg, Nat.le_refl _⟩, hd σ' H' p⟩
  refine ht _ ⟨a, xs, rfl, ?_⟩
  rcases hS with hS | hS
  · exact .inl ⟨hS, core (fun H' => SqL K H' a xs) hS fun H' e h => e.seq h⟩
  · exact .inr ⟨hS, core (fun H' => SqT K H' a xs) hS fun H' e h => sqt_same e h⟩
end L2

namespace Shf
open PySem PySem.W PySem.Calls PyProof.Rows
/-! ### enumerate of a tuple, at the library's level -/
open PySem.AutoSeq1 (wpAny_loadPart')
theorem enum_new_tup (l : Addr) (items : Array Value) (n : Nat) (dct : Option Addr) (sl : Array (Option Value)) :
    Meets (Builtin.«enumerate.__new__» ⟨[.type "enumerate", .ref l], []⟩) (fun _ R s => s.heap.get? l = some { cls := .type "tuple", dict := dct, data := .seq items n, slots := sl } ∧
      R (.ok (.ret (.ref (s.heap.push { cls := .type "tuple_iterator", data := .fields #[.ref l, .int 0 0] }).objs.size)))
        { s with heap := (s.heap.push { cls := .type "tuple_iterator", data := .fields #[.ref l, .int 0 0] }).push { cls := .type "enumerate", data := .fields #[.none, .bool false, .ref s.heap.objs.size, rawInt 0, .none, .none] } }) :=
  .of_wp fun prog w A R s h => by
    obtain ⟨hp, g, d, tk, os⟩ := s
    obtain ⟨hl, h⟩ := h
    have sub := sub_enumerate
    have T : Heap.IsTuple (Shared.heap ⟨hp, g, d, tk, os⟩) l items := ⟨_, hl, rfl, n, rfl⟩
    wp_walk using wpAny_loadPart' hl
    refine wpAny_stack_any fun st => wpAny_pure ?_
    split
    · rename_i c _ _ _ _ _
      cases (c == Value.type "enumerate")
      · wp_walk using wpAny_loadPart' hl, wpAny_pyIter_tuple T
        exact ⟨_, rfl, h⟩
      · wp_walk using wpAny_loadPart' hl, wpAny_pyIter_tuple T
        exact ⟨_, rfl, h⟩
    · wp_walk using wpAny_loadPart' hl, wpAny_pyIter_tuple T
      exact ⟨_, rfl, h⟩
theorem call_enum_tup {prog : Program} {w : World} {A : Around} {E : Value → Shared → Prop} {s : Shared} {l : Addr} {items : Array Value} {Q : Value → Shared → Prop} (hT : s.heap.IsTuple l items)
    (h : ∀ h', IsEnum h' (s.heap.objs.size + 1) s.heap.objs.size 0 .none → h'.IsTupleIter s.heap.objs.size l 0 → h'.objs.size = s.heap.objs.size + 2 →
      (∀ b o, s.heap.get? b = some o → h'.get? b = some o) → Q (.ref (s.heap.objs.size + 1)) { s with heap := h' }) :
    wpAny (model prog w) A (call (.type "enumerate") [.ref l]) Q E s := by
  obtain ⟨⟨c, dct, dt, sl⟩, hl, hc, n, hd⟩ := hT
  obtain rfl : c = .type "tuple" := hc
  obtain rfl : dt = .seq items n := hd
  refine callType_new F.called_enumerate (by decide) (F.typeCall_enumerate_1 _) (F.newCall_enumerate_1 _) (fun obj => F.args_object_init_2 obj _) F.entry_enumerate_new (enum_new_tup l items n dct sl) ⟨hl, ?_⟩
  have z : (s.heap.push { cls := .type "tuple_iterator", data := .fields #[.ref l, .int 0 0] }).objs.size = s.heap.objs.size + 1 := Heap.size_push ..
  show _ ∧ _
  rw [z]
  have he : IsEnum ((s.heap.push { cls := .type "tuple_iterator", data := .fields #[.ref l, .int 0 0] }).push { cls := .type "enumerate", data := .fields #[.none, .bool false, .ref s.heap.objs.size, rawInt 0, .none, .none] }) (s.heap.objs.size + 1) s.heap.objs.size 0 .none := by
    have y := Heap.get?_push_size (s.heap.push { cls := .type "tuple_iterator", data := .fields #[.ref l, .int 0 0] }) (o := { cls := .type "enumerate", data := .fields #[.none, .bool false, .ref s.heap.objs.size, rawInt 0, .none, .none] }) rfl
    rw [z] at y
    exact y
  exact ⟨⟨_, he, rfl⟩, h _ he ⟨_, Heap.get?_push_of_some _ (Heap.get?_push_size _ rfl), rfl, rfl⟩ (by rw [Heap.size_push, z]) fun b o x => Heap.get?_push_of_some _ (Heap.get?_push_of_some _ x)⟩
end Shf
namespace L2
open PySem PySem.Spec PyProof.Rows
/-- enumerate of a tuple: new pairs -/
def IteT (K : PySem.W.Frag) (a : Addr) (xs : List V) : It :=
  ⟨fun i H => SqT K H a xs ∧ i < xs.length, fun i H v H' => ∃ T x, v = .ref T ∧ H T = none ∧ H' = upd H T (.tup [.int (i : Nat), x]) ∧ xs[i]? = some x, fun i H => SqT K H a xs ∧ i = xs.length⟩
def IteL (K : PySem.W.Frag) (a : Addr) (xs : List V) : It :=
  ⟨fun i H => SqL K H a xs ∧ i < xs.length, fun i H v H' => ∃ T x, v = .ref T ∧ H T = none ∧ H' = upd H T (.tup [.int (i : Nat), x]) ∧ xs[i]? = some x, fun i H => SqL K H a xs ∧ i = xs.length⟩
theorem turn_enumL {P : Program} {w : World} {K : PySem.W.Frag} {elts : List Expr} {kk : Nat} {tpos : Pos} (a e it : Addr) (xs : List V) :
    Turn P w K (.Tuple elts kk tpos) (IteL K a xs) [e, it] e (fun i h => (∃ old, IsEnum h e it ((i : Nat) : Int) old) ∧ h.IsListIter it a i ∧ e ≠ it) := by
  have t := turn_enum (P := P) (w := w) (K := K) (elts := elts) (kk := kk) (tpos := tpos) a e it
  refine ⟨t.mem, t.obj, t.keep, fun X hP hw hK hc i pins s σ H E I hf st hg => ?_, fun X hP hw hK hc i pins s σ H E I hf st hg => ?_, t.self⟩
  · refine wpAny_mono (t.item X hP hw hK hc i pins s σ H E I hf st ⟨xs, xs[i]'hg.2, hg.1, by simp [hg.2]⟩) (fun r s1 h1 => ?_) fun _ _ z => z
    obtain ⟨u, e1, h1⟩ := h1
    refine ⟨u, e1, wpAny_mono h1 (fun _ s2 h2 => ?_) fun _ _ z => z⟩
    obtain ⟨x, H', J, rx, ⟨T, y, e2, e3, e4, e5⟩, st2, hn⟩ := h2
    exact ⟨x, H', J, rx, ⟨T, y, e2, e3, e4, e5 xs hg.1⟩, st2, hn⟩
  · exact t.done X hP hw hK hc i pins s σ H E I hf st ⟨xs, hg.1, by rw [hg.2]; exact Nat.le_refl _⟩
theorem turn_enumT {P : Program} {w : World} {K : PySem.W.Frag} {elts : List Expr} {kk : Nat} {tpos : Pos} (a e it : Addr) (xs : List V) (hat : a ≠ it) (hae : a ≠ e) :
    Turn P w K (.Tuple elts kk tpos) (IteT K a xs) [e, it] e (fun i h => (∃ old, IsEnum h e it ((i : Nat) : Int) old) ∧ h.IsTupleIter it a i ∧ e ≠ it) where
  mem := by simp
  obj := fun i h st b hb => by
    obtain ⟨⟨old, he⟩, ⟨o, ho, hc, hd⟩, _⟩ := st
    rcases (show b = e ∨ b = it by simpa using hb) with z | z
    · rw [z]
      exact ⟨_, he, fun v q => nomatch q⟩
    · rw [z]
      exact ⟨o, ho, fun v q => by rw [hd] at q; cases q⟩
  keep := fun i h h' st k => by
    obtain ⟨⟨old, he⟩, hi, hne⟩ := st
    exact ⟨⟨old, k e (by simp) _ he⟩, hi.at fun o q => k it (by simp) o q, hne⟩
  item := by
    intro X hP hw hK hc i pins s σ H E I hf st hg
    subst hP hw hK
    obtain ⟨⟨old, he⟩, hit, hne⟩ := st
    obtain ⟨hq, hi⟩ := hg
    obtain ⟨its, rv, p, hz⟩ := I.tuple hq
    have hx : xs[i]? = some xs[i] := by simp [hi]
    obtain ⟨u, hu, ru⟩ := rv.get hx
    have hel : e < s.heap.objs.size := Heap.lt_size he
    have hil : it < s.heap.objs.size := by
      obtain ⟨_, q, _⟩ := hit
      exact Heap.lt_size q
    have hT : s.heap.IsTuple a its.toArray := p
    have hn : i < its.toArray.size := by
      have z := rv.length
      simp
      omega
    refine wpAny_pyNext_enum_itemD (PySem.Draws.tuple (prog := X.prog) (w := X.w) (A := X.A.in1) (show X.A.in1.handled = none from I.ok.hd hc) it a hat its.toArray) he ⟨hit, hT⟩ hn hne (by simp [hne, hae.symm]) fun x h' tk hxi ho hst' hT' hsz hk => ?_
    obtain ⟨hit', _⟩ := hst'
    have ex : x = u := by
      have y : its.toArray[i]? = some x := hxi
      rw [show its.toArray[i]? = some u by simpa using hu] at y
      exact (Option.some.inj y).symm
    subst ex
    refine ⟨_, rfl, wpAny_letOwnedTupleGo_enum (s := { s with heap := h', toks := tk + 1 }) ho fun h'' he' sb => ?_⟩
    have hT2 : h''.get? s.heap.objs.size = some { cls := .type "tuple", data := .seq #[.int i tk, x] } := (sb.2 _ (Nat.ne_of_gt hel)).trans hT'
    have new : ObjOk X.prog X.w (upd H s.heap.objs.size (.tup [.int (i : Nat), xs[i]])) h'' s.heap.objs.size (.tup [.int (i : Nat), xs[i]]) :=
      ⟨by show 2 ≤ sizeLine; decide, [.int i tk, x], .cons ⟨_, rfl⟩ (.cons ru .nil), ⟨_, hT2, rfl, _, rfl⟩⟩
    have I1 : Inv X pins σ (upd H s.heap.objs.size (.tup [.int (i : Nat), xs[i]])) { s with heap := h'', toks := tk + 1 } :=
      I.turnedNew (ch := [e, it]) (fun b ob hb q => (sb.2 b (fun z => hb (by simp [z]))).trans (hk b ob (fun z => hb (by simp [z])) (fun z => hb (by simp [z])) q)) hf (Nat.le_refl _) new
    refine ⟨.ref s.heap.objs.size, _, I1, rfl, ⟨_, xs[i], rfl, I.hok.fresh (Nat.le_refl _), rfl, hx⟩, ⟨⟨x, ?_⟩, hit'.at fun o q => (sb.2 it (Ne.symm hne)).trans q, hne⟩, fun b hb => ?_⟩
    · rw [show ((i + 1 : Nat) : Int) = (i : Int) + 1 by omega]
      exact he'
    · have hb' : b < s.heap.objs.size := by
        rcases (show b = e ∨ b = it by simpa using hb) with z | z
        · rw [z]; exact hel
        · rw [z]; exact hil
      rw [upd_ne (Nat.ne_of_lt hb')]
      exact (hf b hb).1
  done := by
    intro X hP hw hK hc i pins s σ H E I hf st hg
    subst hP hw hK
    obtain ⟨⟨old, he⟩, hit, hne⟩ := st
    obtain ⟨hq, hi⟩ := hg
    obtain ⟨its, rv, p, hz⟩ := I.tuple hq
    have hT : s.heap.IsTuple a its.toArray := p
    obtain ⟨f0, f1, f2, f3, f4, f5⟩ := hf it (by simp)
    have hn : i = its.toArray.size := by
      have z := rv.length
      simp
      omega
    rw [hn] at hit
    refine wpAny_pyNext_enum_endD (PySem.Draws.tuple (prog := X.prog) (w := X.w) (A := X.A.in1) (show X.A.in1.handled = none from I.ok.hd hc) it a hat its.toArray) he ⟨hit, hT⟩ fun h' eb => ⟨rfl, I.turned (t' := s.toks) (fun b o hb q => eb b o hb q) f0 f1 f3 f4 f5⟩
  self := fun A i s Q E st h => by
    obtain ⟨⟨_, he⟩, _⟩ := st
    exact wpAny_pyIter_enum he h
end L2


namespace L2
open PySem PySem.Spec PyProof.Rows
section
variable {X : Cx} {e : Expr} {te : TE} {p pos tpos : Pos} {elts : List Expr} {kk : Nat}
/-- for i, x in enumerate(a list or a tuple) -/
def iEnumSq (K : PySem.W.Frag) (ta : TA) : TI := fun σ H R => ta σ H fun vs H1 => ∃ a xs, vs = [.ref a] ∧ ((SqL K H1 a xs ∧ R (IteL K a xs) H1) ∨ (SqT K H1 a xs ∧ R (IteT K a xs) H1))
theorem pi_enumSq {ta : TA} (hg : Gl X "enumerate") (hm : X.mg "enumerate" = none) (ha : PA X [e] ta) (hs : starEach [e] X.env = [(false, eval e X.env)] := by rfl) :
    PI X (.Tuple elts kk tpos) (.Call (.Name "enumerate" p) [e] [] pos) (iEnumSq X.K ta) := by
  refine ⟨fun pins s σ H R I h => Call_ (ld_blt I hg hm boot_enumerate (PyProof.Rows.callWith_type1 (thn (ha.run pos pins s σ H _ I h) fun us s1 hh => ?_) hs rfl))⟩
  obtain ⟨vs, H1, I1, r1, a, xs, rfl, q⟩ := hh
  obtain rfl := Vals.ref1 r1
  have fresh : ∀ {h' : Heap}, (∀ b o, s1.heap.get? b = some o → h'.get? b = some o) → ∀ b ∈ [s1.heap.objs.size + 1, s1.heap.objs.size], s1.heap.objs.size ≤ b := fun {h'} _ b hb => by
    rcases (show b = s1.heap.objs.size + 1 ∨ b = s1.heap.objs.size by simpa using hb) with z | z
    · rw [z]; exact Nat.le_succ _
    · rw [z]; exact Nat.le_refl _
  rcases q with ⟨hq, q⟩ | ⟨hq, q⟩
  · obtain ⟨its, rv, pl, hz⟩ := I1.list hq
    refine call_enumerate_list pl.isList fun h' he hit hsz hk => wpAny_pyIter_enum he ?_
    have I2 : Inv X pins σ H1 { s1 with heap := h' } := I1.kept (t' := s1.toks) hk
    exact ⟨s1.heap.objs.size + 1, [s1.heap.objs.size + 1, s1.heap.objs.size], _, _, H1, rfl, I2, turn_enumL a (s1.heap.objs.size + 1) s1.heap.objs.size xs, ⟨⟨.none, he⟩, hit, Nat.succ_ne_self _⟩, fun b hb => I1.fpOk (fresh hk b hb) (I1.hok.fresh (fresh hk b hb)), q⟩
  · obtain ⟨its, rv, pl, hz⟩ := I1.tuple hq
    have hT : s1.heap.IsTuple a its.toArray := pl
    have lt : a < s1.heap.objs.size := by
      obtain ⟨o, ho, _⟩ := hT
      exact Heap.lt_size ho
    refine Shf.call_enum_tup hT fun h' he hit hsz hk => wpAny_pyIter_enum he ?_
    have I2 : Inv X pins σ H1 { s1 with heap := h' } := I1.kept (t' := s1.toks) hk
    exact ⟨s1.heap.objs.size + 1, [s1.heap.objs.size + 1, s1.heap.objs.size], _, _, H1, rfl, I2, turn_enumT a (s1.heap.objs.size + 1) s1.heap.objs.size xs (Nat.ne_of_lt lt) (Nat.ne_of_lt (Nat.lt_succ_of_lt lt)), ⟨⟨.none, he⟩, hit, Nat.succ_ne_self _⟩, fun b hb => I1.fpOk (fresh hk b hb) (I1.hok.fresh (fresh hk b hb)), q⟩
end
/-- .. in a for -/
theorem for_enumSq {K : PySem.W.Frag} {a : Addr} {xs : List V} {g : TG} {tb : TS} {D : Ends} {σ : L2.St} {H : Hp} (hS : Sq K H a xs) (Pv : Nat → L2.St → Hp → Prop) (h0 : Pv 0 σ H) (hk : ∀ i σ' H', Pv i σ' H' → Same H H')
    (hs : ∀ i x σ H T, xs[i]? = some x → Pv i σ H → H T = none → g (.ref T) σ (upd H T (.tup [.int (i : Nat), x])) fun σ2 H2 => tb { D with nx := Pv (i + 1), ct := Pv (i + 1), bk := D.nx } σ2 H2) (hd : ∀ σ H, Pv xs.length σ H → D.nx σ H) (ta : TA)
    (ht : ∀ R : List V → Hp → Prop, R [.ref a] H → ta σ H R) : tFor (iEnumSq K ta) g tb D σ H := by
  have core : ∀ (G : Hp → Prop), G H → (∀ H', Same H H' → G H → G H') → ∃ W : Nat → Nat → L2.St → Hp → Prop, (∃ m, W 0 m σ H) ∧ ∀ i m σ H, W i m σ H →
      ((G H ∧ i = xs.length) ∧ D.nx σ H) ∨ ((G H ∧ i < xs.length) ∧ ∃ N : L2.St → Hp → Prop, (∀ σ' H', N σ' H' → ∃ m', m' < m ∧ W (i + 1) m' σ' H') ∧
        ∀ v H', (∃ T x, v = .ref T ∧ H T = none ∧ H' = upd H T (.tup [.int (i : Nat), x]) ∧ xs[i]? = some x) → g v σ H' fun σ2 H2 => tb { D with nx := N, ct := N, bk := D.nx } σ2 H2) := by
    intro G hG hkeep
    refine ⟨fun i m σ H => m = xs.length - i ∧ i ≤ xs.length ∧ Pv i σ H, ⟨xs.length, rfl, Nat.zero_le _, h0⟩, ?_⟩
    rintro i m σ' H' ⟨rfl, hi, p⟩
    have gg := hkeep H' (hk i σ' H' p) hG
    by_cases hlt : i < xs.length
    · refine .inr ⟨⟨gg, hlt⟩, Pv (i + 1), fun σ2 H2 p2 => ⟨xs.length - (i + 1), by omega, rfl, hlt, p2⟩, fun v H2 y => ?_⟩
      obtain ⟨T, x, rfl, hT, rfl, hx⟩ := y
      exact hs i x σ' H' T hx p hT
    · have e : i = xs.length := by omega
      subst e
      exact .inl ⟨⟨gg, rfl⟩, hd σ' H' p⟩
  refine ht _ ⟨a, xs, rfl, ?_⟩
  rcases hS with hS | hS
  · exact .inl ⟨hS, core (fun H' => SqL K H' a xs) hS fun H' e h => e.seq h⟩
  · exact .inr ⟨hS, core (fun H' => SqT K H' a xs) hS fun H' e h => sqt_same e h⟩
/-! ### len(set(a list or a tuple of ints)) -/
theorem same_count : ∀ {ns l : List Int}, l.Nodup → (∀ k, k ∈ l ↔ k ∈ ns) → l.length ≤ ns.length ∧ (l.length = ns.length ↔ ns.Nodup)
  | [], l, _, hm => by
    have e : l = [] := List.eq_nil_iff_forall_not_mem.mpr fun k hk => nomatch (hm k).mp hk
    subst e
    exact ⟨Nat.le_refl _, ⟨fun _ => List.nodup_nil, fun _ => rfl⟩⟩
  | x :: r, l, hn, hm => by
    by_cases hx : x ∈ r
    · have hm2 : ∀ k, k ∈ l ↔ k ∈ r := fun k => (hm k).trans ⟨fun h => by
        rcases List.mem_cons.mp h with e | h
        · rw [e]; exact hx
        · exact h, fun h => List.mem_cons_of_mem _ h⟩
      obtain ⟨h1, _⟩ := same_count hn hm2
      refine ⟨Nat.le_succ_of_le h1, ⟨fun e => ?_, fun h => absurd hx (List.nodup_cons.mp h).1⟩⟩
      rw [List.length_cons] at e
      omega
    · have hxl : x ∈ l := (hm x).mpr List.mem_cons_self
      have hm2 : ∀ k, k ∈ l.erase x ↔ k ∈ r := fun k => by
        rw [hn.mem_erase_iff]
        constructor
        · rintro ⟨h1, h2⟩
          rcases List.mem_cons.mp ((hm k).mp h2) with e | h
          · exact absurd e h1
          · exact h
        · intro h
          exact ⟨fun e => hx (by rw [← e]; exact h), (hm k).mpr (List.mem_cons_of_mem _ h)⟩
      obtain ⟨h1, h2⟩ := same_count (hn.erase x) hm2
      have hl := List.length_erase_of_mem hxl
      have hp : 0 < l.length := List.length_pos_of_mem hxl
      rw [hl] at h1 h2
      rw [List.length_cons, List.nodup_cons]
      refine ⟨by omega, ⟨fun e => ⟨hx, h2.mp (by omega)⟩, fun h => ?_⟩⟩
      have z := h2.mpr h.2
      omega
theorem dedup_step (l : List Int) (x : Int) (hn : l.Nodup) : (PyProof.Rows.step_dedup l x).Nodup ∧ ∀ k, k ∈ PyProof.Rows.step_dedup l x ↔ k ∈ l ∨ k = x := by
  unfold PyProof.Rows.step_dedup
  split
  · rename_i h
    have hx : x ∈ l := by simpa using h
    exact ⟨hn, fun k => ⟨.inl, fun h => h.elim id fun e => by rw [e]; exact hx⟩⟩
  · rename_i h
    have hx : x ∉ l := by simpa using h
    refine ⟨?_, fun k => by simp⟩
    rw [List.nodup_append]
    exact ⟨hn, by simp, fun a ha b hb e => hx (by rw [List.mem_singleton] at hb; rw [← hb, ← e]; exact ha)⟩
theorem dedup_fold : ∀ (ns l : List Int), l.Nodup → (ns.foldl PyProof.Rows.step_dedup l).Nodup ∧ ∀ k, k ∈ ns.foldl PyProof.Rows.step_dedup l ↔ k ∈ l ∨ k ∈ ns
  | [], l, hn => ⟨hn, fun k => by simp⟩
  | x :: r, l, hn => by
    obtain ⟨h1, h2⟩ := dedup_step l x hn
    obtain ⟨h3, h4⟩ := dedup_fold r _ h1
    refine ⟨h3, fun k => (h4 k).trans ?_⟩
    rw [h2, List.mem_cons]
    exact or_assoc
/-- the unlike ones of a row, as first met -/
def unlikeInts (ns : List Int) : List Int := ns.foldl PyProof.Rows.step_dedup []
theorem unlike_ok (ns : List Int) : (unlikeInts ns).Nodup ∧ ∀ k, k ∈ unlikeInts ns ↔ k ∈ ns := by
  obtain ⟨h1, h2⟩ := dedup_fold ns [] List.nodup_nil
  exact ⟨h1, fun k => (h2 k).trans (by simp)⟩
theorem firstMet_all (ns : List Int) : PyProof.Rows.firstMet (fun i => ns.getD i 0) ns.length = unlikeInts ns := by
  unfold PyProof.Rows.firstMet unlikeInts
  congr 1
  refine List.ext_getElem (by simp) fun i h1 h2 => ?_
  simp [List.getD_eq_getElem?_getD, List.getElem?_eq_getElem h2]
def tLenSetSq (K : PySem.W.Frag) (ta : TE) : TE := fun σ H Q => ta σ H fun x H1 => ∃ (l : Addr) (ns : List Int), x = .ref l ∧ Sq K H1 l (ns.map V.int) ∧ ns.length ≤ 3000 ∧ ∀ m : Nat, (m = ns.length ↔ ns.Nodup) → Q (.int m) H1
theorem pe_lenSetSq {X : Cx} {a : Expr} {ta : TE} {p p2 q pos : Pos} (hg : Gl X "len") (hm : X.mg "len" = none) (hg2 : Gl X "set") (hm2 : X.mg "set" = none) (ha : PE X a ta) (hc : X.calm = true := by rfl)
    (na : starEach [a] X.env = (false, eval a X.env) :: starEach [] X.env := by rfl) : PE X (.Call (.Name "len" p) [.Call (.Name "set" p2) [a] [] q] [] pos) (tLenSetSq X.K ta) := by
  refine ⟨fun pins s σ H Q I h => Call_ (ld_blt I hg hm PySem.boot_len ?_)⟩
  refine PyProof.Rows.callWith_builtin1 (PyProof.Rows.args_cons ?_ rfl) rfl rfl
  refine Call_ (ld_blt I hg2 hm2 PyProof.Rows.boot_set ?_)
  refine PyProof.Rows.callWith_type1 (PyProof.Rows.args_cons (thn (ha.run pins s σ H _ I h) fun v s1 hh => PyProof.Rows.args_nil ?_) na) na rfl
  obtain ⟨x, H1, I1, r1, l, ns, rfl, hq, hl, q1⟩ := hh
  obtain rfl : v = Value.ref l := r1
  rcases hq with hq | hq
  · obtain ⟨ul, cnt⟩ := same_count (unlike_ok ns).1 (unlike_ok ns).2
    obtain ⟨its, r, pl, hz⟩ := I1.list hq
    have hlen : its.toArray.size = ns.length := by rw [List.size_toArray, ← r.length, List.length_map]
    refine call_set_list (I1.ok.hd hc) pl.isList (ns := ns) (by simpa using r.ints) (by rw [hlen]; unfold scanBound; omega) fun h' tk hS hk => ?_
    rw [hlen, firstMet_all] at hS
    refine PyProof.Rows.args_nil ?_
    obtain ⟨o, es, ep, t, ho, hex, hd, _, _, _, hf, hn⟩ := hS
    have I2 : Inv X pins σ H1 { s1 with heap := h', toks := tk } := I1.kept fun b o e => hk b o (Heap.lt_size e) e
    exact call_len_set ho hex hd hf (by rw [hn]; omega) ⟨.int (unlikeInts ns).length, H1, I2.tok _, ⟨_, by rw [hn]⟩, q1 _ cnt⟩
  · obtain ⟨its, r, pl, hz⟩ := I1.tuple hq
    refine call_set_tupI ns (I1.ok.hd hc) (show s1.heap.IsTuple l its.toArray from pl) (by simpa using r.ints) (by unfold scanBound; omega) fun h' tk c hS hcl hk => ?_
    refine PyProof.Rows.args_nil ?_
    obtain ⟨o, es, ep, t, ho, hex, hd, _, hnd, hmem, _, hf, hn, _⟩ := hS
    have I2 : Inv X pins σ H1 { s1 with heap := h', toks := tk } := I1.kept hk
    obtain ⟨ul, cnt⟩ := same_count (ns := ns) hnd fun k => (hmem k).symm.trans (by simp)
    have hsz : (es.toList.map keyOf).length = es.size := by simp
    rw [hsz] at cnt
    exact call_len_set ho hex hd hf (by omega) ⟨.int es.size, H1, I2.tok _, ⟨_, rfl⟩, q1 _ cnt⟩
/-! ### what a value is, by its data -/
def tyN : PyData → String
  | .none => "NoneType"
  | .bool _ => "bool"
  | .int _ => "int"
  | .str _ => "str"
  | .list _ => "list"
  | .tuple _ => "tuple"
  | .dict _ => "dict"
def dInt : PyData → Bool
  | .int _ => true
  | _ => false
def dBool : PyData → Bool
  | .bool _ => true
  | _ => false
def dSeq : PyData → Bool
  | .list _ => true
  | .tuple _ => true
  | _ => false
def dItems : PyData → List PyData
  | .list xs => xs
  | .tuple xs => xs
  | _ => []
section
variable {K : PySem.W.Frag} {H : Hp} {v : V} {d : PyData}
theorem dp_ty (h : Dp K H v d) : TyX K H v (.type (tyN d)) := by
  cases h with
  | non => exact .base .non
  | bl b => exact .base (.bl b)
  | int i => exact .base (.int i)
  | str x => exact .base (.str x)
  | lst h1 h2 =>
    rcases h1 with (h1 | ⟨o, h1⟩) | ⟨o, its, n, h1, h3, _⟩
    · exact .base (.lst h1)
    · exact .base (.frz h1)
    · exact .kList h1 h3
  | tup h1 h2 =>
    rcases h1 with (h1 | ⟨o, h1⟩) | ⟨o, its, n, h1, h3, _⟩
    · exact .base (.tup h1)
    · exact .fTuple h1
    · exact .kTuple h1 h3
def kitSq (n : String) : Option Bool := match kitB n "list" with
  | some true => some true
  | some false => (match kitB n "tuple" with
    | some true => some true
    | some false => some false
    | none => none)
  | none => none
theorem kitseq {K : PySem.W.Frag} {n : String} {v : Bool} (h : kitSq n = some v) : W.kitAny K (.type n) [.type "list", .type "tuple"] = some v := h
theorem kitseq_NoneType {K : PySem.W.Frag} : W.kitAny K (.type "NoneType") [.type "list", .type "tuple"] = some false := kitseq (by decide +kernel)
theorem kitseq_bool {K : PySem.W.Frag} : W.kitAny K (.type "bool") [.type "list", .type "tuple"] = some false := kitseq (by decide +kernel)
theorem kitseq_int {K : PySem.W.Frag} : W.kitAny K (.type "int") [.type "list", .type "tuple"] = some false := kitseq (by decide +kernel)
theorem kitseq_str {K : PySem.W.Frag} : W.kitAny K (.type "str") [.type "list", .type "tuple"] = some false := kitseq (by decide +kernel)
theorem kitseq_list {K : PySem.W.Frag} : W.kitAny K (.type "list") [.type "list", .type "tuple"] = some true := kitseq (by decide +kernel)
theorem kitseq_tuple {K : PySem.W.Frag} : W.kitAny K (.type "tuple") [.type "list", .type "tuple"] = some true := kitseq (by decide +kernel)
theorem kitseq_dict {K : PySem.W.Frag} : W.kitAny K (.type "dict") [.type "list", .type "tuple"] = some false := kitseq (by decide +kernel)
theorem isi_int {Q : VK} (h : Dp K H v d) (q : Q (.bl (dInt d || dBool d)) H) : rIsi K [v, .ty "int"] H Q := by
  refine ⟨v, .ty "int", _, _, _, rfl, .ty _, dp_ty h, kit_ty (r := dInt d || dBool d) ?_, q⟩
  cases d <;> first
    | exact (by decide +kernel : kitB "NoneType" "int" = some false)
    | exact (by decide +kernel : kitB "bool" "int" = some true)
    | exact (by decide +kernel : kitB "int" "int" = some true)
    | exact (by decide +kernel : kitB "str" "int" = some false)
    | exact (by decide +kernel : kitB "list" "int" = some false)
    | exact (by decide +kernel : kitB "tuple" "int" = some false)
    | exact (by decide +kernel : kitB "dict" "int" = some false)
theorem isi_bool {Q : VK} (h : Dp K H v d) (q : Q (.bl (dBool d)) H) : rIsi K [v, .ty "bool"] H Q := by
  refine ⟨v, .ty "bool", _, _, _, rfl, .ty _, dp_ty h, kit_ty (r := dBool d) ?_, q⟩
  cases d <;> first
    | exact (by decide +kernel : kitB "NoneType" "bool" = some false)
    | exact (by decide +kernel : kitB "bool" "bool" = some true)
    | exact (by decide +kernel : kitB "int" "bool" = some false)
    | exact (by decide +kernel : kitB "str" "bool" = some false)
    | exact (by decide +kernel : kitB "list" "bool" = some false)
    | exact (by decide +kernel : kitB "tuple" "bool" = some false)
    | exact (by decide +kernel : kitB "dict" "bool" = some false)
theorem isi_seq {Q : VK} {tp : Addr} (h : Dp K H v d) (ht : H tp = some (.tup [.ty "list", .ty "tuple"])) (q : Q (.bl (dSeq d)) H) : rIsiT K [v, .ref tp] H Q := by
  refine ⟨v, tp, _, _, _, dSeq d, rfl, ht, .cons (.ty _) (.cons (.ty _) .nil), dp_ty h, ?_, q⟩
  cases d <;> first
    | exact kitseq_NoneType
    | exact kitseq_bool
    | exact kitseq_int
    | exact kitseq_str
    | exact kitseq_list
    | exact kitseq_tuple
    | exact kitseq_dict
theorem dp_seq (h : Dp K H v d) (hs : dSeq d = true) : ∃ a xs, v = .ref a ∧ Sq K H a xs ∧ DpAll K H xs (dItems d) := by
  cases h with
  | lst h1 h2 => exact ⟨_, _, rfl, .inl h1, h2⟩
  | tup h1 h2 => exact ⟨_, _, rfl, .inr h1, h2⟩
  | _ => cases hs
theorem DpAll.len : ∀ {vs : List V} {ds : List PyData}, DpAll K H vs ds → vs.length = ds.length
  | _, _, .nil => rfl
  | _, _, .cons _ t => by rw [List.length_cons, List.length_cons, DpAll.len t]
theorem DpAll.at : ∀ {vs : List V} {ds : List PyData} {i : Nat} {v : V}, DpAll K H vs ds → vs[i]? = some v → ∃ d, ds[i]? = some d ∧ Dp K H v d
  | _, _, 0, _, .cons h _, e => by
    cases e
    exact ⟨_, rfl, h⟩
  | _, _, i + 1, _, .cons _ t, e => DpAll.at (i := i) t e
  | _, _, _, _, .nil, e => by simp at e
end
mutual
theorem dp_same {K : PySem.W.Frag} {H H' : Hp} (e : Same H H') : ∀ (d : PyData) (v : V), Dp K H v d → Dp K H' v d
  | .none, _, h => by cases h; exact .non
  | .bool b, _, h => by cases h; exact .bl b
  | .int i, _, h => by cases h; exact .int i
  | .str x, _, h => by cases h; exact .str x
  | .list ds, _, h => by
    cases h with
    | lst h1 h2 => exact .lst (e.seq h1) (dpAll_same e ds _ h2)
  | .tuple ds, _, h => by
    cases h with
    | tup h1 h2 => exact .tup (sqt_same e h1) (dpAll_same e ds _ h2)
  | .dict _, _, h => by cases h
theorem dpAll_same {K : PySem.W.Frag} {H H' : Hp} (e : Same H H') : ∀ (ds : List PyData) (vs : List V), DpAll K H vs ds → DpAll K H' vs ds
  | [], _, h => by cases h; exact .nil
  | d :: ds, _, h => by
    cases h with
    | cons h1 h2 => exact .cons (dp_same e d _ h1) (dpAll_same e ds _ h2)
end
end L2


namespace L2
open PySem PySem.Spec PyProof.Rows
/-! ### comprehensions: the new list apart from all else -/
/-- the heap is a core with the new list at D -/
def LcN (R : Nat → List V → Hp → Prop) (D : Addr) (i : Nat) : Hp → Prop := fun H => ∃ acc G, G D = none ∧ R i acc G ∧ H = upd G D (.lst acc)
theorem lc_put {R : Nat → List V → Hp → Prop} {D : Addr} {i : Nat} {acc : List V} {G : Hp} {y : V} (hG : G D = none) (hl : acc.length < sizeLine) (h : R i (acc ++ [y]) G) :
    ∃ acc', (upd G D (.lst acc)) D = some (.lst acc') ∧ acc'.length < sizeLine ∧ LcN R D i (upd (upd G D (.lst acc)) D (.lst (acc' ++ [y]))) :=
  ⟨acc, upd_same, hl, acc ++ [y], G, hG, h, upd_upd⟩
theorem core_of {G H4 : Hp} {D : Addr} {o : HO} (h : Same (upd G D o) H4) (hG : G D = none) : ∃ G2, G2 D = none ∧ Same G G2 ∧ H4 = upd G2 D o := by
  refine ⟨fun b => if b = D then none else H4 b, if_pos rfl, fun b x e => ?_, ?_⟩
  · have n : b ≠ D := fun z => by rw [z, hG] at e; cases e
    show (if b = D then none else H4 b) = some x
    rw [if_neg n]
    exact h b x (by rw [upd_ne n]; exact e)
  · funext b
    by_cases z : b = D
    · subst z
      rw [upd_same]
      exact h b o upd_same
    · rw [upd_ne z]
      exact (if_neg z).symm
theorem core_at {G G2 : Hp} {D q : Addr} {o o1 o2 : HO} (hG : G D = none) (hq : (upd G D o) q = none) (e : upd (upd G D o) q o1 = upd G2 D o2) : G2 q = some o1 := by
  have n : q ≠ D := fun z => by rw [z, upd_same] at hq; cases hq
  have z := congrFun e q
  rw [upd_same, upd_ne n] at z
  exact z.symm
theorem sqt_core {K : PySem.W.Frag} {G : Hp} {D p : Addr} {acc xs : List V} (h : SqT K (upd G D (.lst acc)) p xs) : SqT K G p xs := by
  by_cases e : p = D
  · subst e
    rcases h with (h | ⟨o, h⟩) | h
    · rw [upd_same] at h
      cases h
    · rw [upd_same] at h
      cases h
    · exact .inr h
  · rcases h with (h | ⟨o, h⟩) | h
    · rw [upd_ne e] at h
      exact .inl (.inl h)
    · rw [upd_ne e] at h
      exact .inl (.inr ⟨o, h⟩)
    · exact .inr h
theorem same_upd {G : Hp} {D : Addr} {o : HO} (hG : G D = none) : Same G (upd G D o) := same_new hG
theorem Same.rfl' {H : Hp} : Same H H := fun _ _ e => e
theorem Same.tr {H H1 H2 : Hp} (a : Same H H1) (b : Same H1 H2) : Same H H2 := fun c o e => b c o (a c o e)
theorem lc_w {J : It} {n : Nat} {Gd : Hp → Prop} {Y : Nat → Hp → V → Hp → Prop} (w : Walk J n Gd Y) {g : TG} {tt : TT} {te : TE} {vs : List Nat} {σ : L2.St} {H : Hp} {D : Addr} {Qd : Hp → Prop} (R : Nat → List V → Hp → Prop)
    (hD : H D = none) (h0 : R 0 [] H) (hG : ∀ i acc G, i ≤ n → G D = none → R i acc G → Gd (upd G D (.lst acc)))
    (hs : ∀ i x acc G H', i < n → G D = none → R i acc G → Y i (upd G D (.lst acc)) x H' → g x (wipe σ vs) H' fun σ2 H2 => wipe σ2 vs = wipe σ vs ∧ tt σ2 H2 fun b H3 =>
      if b = true then te σ2 H3 fun y H4 => ∃ acc, H4 D = some (.lst acc) ∧ acc.length < sizeLine ∧ LcN R D (i + 1) (upd H4 D (.lst (acc ++ [y]))) else LcN R D (i + 1) H3)
    (hd : ∀ acc G, G D = none → R n acc G → Qd (upd G D (.lst acc))) :
    ∃ W : Nat → Nat → Hp → Prop, (∃ m, W 0 m (upd H D (.lst []))) ∧ ∀ i m H, W i m H →
      (J.stop i H ∧ Qd H) ∨ (J.go i H ∧ ∃ Nx : Hp → Prop, (∀ H', Nx H' → ∃ m', m' < m ∧ W (i + 1) m' H') ∧ ∀ x H', J.yld i H x H' → g x (wipe σ vs) H' fun σ2 H2 => wipe σ2 vs = wipe σ vs ∧ tt σ2 H2 fun b H3 =>
        if b = true then te σ2 H3 fun y H4 => ∃ acc, H4 D = some (.lst acc) ∧ acc.length < sizeLine ∧ Nx (upd H4 D (.lst (acc ++ [y]))) else Nx H3) := by
  refine lc_it w (Pv := LcN R D) ⟨[], H, hD, h0, rfl⟩ (fun i H1 hi h => ?_) (fun i x H1 H' hi h y => ?_) (fun H1 h => ?_)
  · obtain ⟨acc, G, hG1, r, rfl⟩ := h
    exact hG i acc G hi hG1 r
  · obtain ⟨acc, G, hG1, r, rfl⟩ := h
    exact hs i x acc G H' hi hG1 r y
  · obtain ⟨acc, G, hG1, r, rfl⟩ := h
    exact hd acc G hG1 r
theorem walk_sqL {K : PySem.W.Frag} {a : Addr} {xs : List V} : Walk ⟨fun i H => SqL K H a xs ∧ i < xs.length, fun i H x H' => H' = H ∧ xs[i]? = some x, fun i H => SqL K H a xs ∧ xs.length ≤ i⟩ xs.length (fun H => SqL K H a xs) (YAt xs) :=
  ⟨fun _ _ hi q => ⟨q, hi⟩, fun _ q => ⟨q, Nat.le_refl _⟩, fun _ _ _ _ _ _ y => y⟩
theorem walk_sqT {K : PySem.W.Frag} {a : Addr} {xs : List V} : Walk ⟨fun i H => SqT K H a xs ∧ i < xs.length, fun i H x H' => H' = H ∧ xs[i]? = some x, fun i H => SqT K H a xs ∧ xs.length ≤ i⟩ xs.length (fun H => SqT K H a xs) (YAt xs) :=
  ⟨fun _ _ hi q => ⟨q, hi⟩, fun _ q => ⟨q, Nat.le_refl _⟩, fun _ _ _ _ _ _ y => y⟩
/-! ### readings opened one step -/
section
variable {K : PySem.W.Frag} {σ : L2.St} {H : Hp} {Q : VK} {D : Ends} {te ta tb tc : TE} {r : List V → Hp → VK → Prop} {sp : Sp} {E : XK} {op : R2} {g : TG} {tt : TT}
theorem t_ret (h : te σ H D.rt) : tRet te D σ H := h
theorem t_next {nx : L2.St → Hp → Prop} {rt : VK} {bk ct : L2.St → Hp → Prop} (h : nx σ H) : tNext ⟨nx, rt, bk, ct⟩ σ H := h
theorem t_seq {A B : TS} (h : A { D with nx := B D } σ H) : tSeq A B D σ H := h
theorem t_yes {Q : Bool → Hp → Prop} (h : Q true H) : tYes σ H Q := h
theorem t_drop (h : te σ H fun _ H1 => D.nx σ H1) : tDrop te D σ H := h
theorem t_and (h : ta σ H fun x H1 => ∃ c, x = .bl c ∧ if c = true then tb σ H1 Q else Q (.bl false) H1) : tAndV ta tb σ H Q := h
theorem t_or (h : ta σ H fun x H1 => ∃ c, x = .bl c ∧ if c = true then Q (.bl true) H1 else tb σ H1 Q) : tOrV ta tb σ H Q := h
theorem t_cb1 (h : te σ H fun x H1 => r [x] H1 Q) : tCB r (tCons te tNil) σ H Q := h
theorem t_cb2 (h : ta σ H fun x H1 => tb σ H1 fun y H2 => r [x, y] H2 Q) : tCB r (tCons ta (tCons tb tNil)) σ H Q := h
theorem t_call1 (h : te σ H fun x H1 => sp [x] H1 Q E) : tCall sp [] E (tCons te tNil) σ H Q := h
theorem t_call2 (h : ta σ H fun x H1 => tb σ H1 fun y H2 => sp [x, y] H2 Q E) : tCall sp [] E (tCons ta (tCons tb tNil)) σ H Q := h
theorem t_tup2 (h : ta σ H fun x H1 => tb σ H1 fun y H2 => 2 ≤ sizeLine ∧ ∀ p, H2 p = none → Q (.ref p) (upd H2 p (.tup [x, y]))) : tTup (tCons ta (tCons tb tNil)) σ H Q := h
theorem t_var {i : Nat} {v : V} (hv : σ[i]? = some (some v)) (h : Q v H) : tVar i σ H Q := ⟨v, hv, h⟩
theorem t_op (h : ta σ H fun x H1 => tb σ H1 fun y H2 => op x y H2 Q) : tOp op ta tb σ H Q := h
theorem t_asg (h : te σ H fun v H1 => g v σ H1 fun σ2 H2 => D.nx σ2 H2) : tAsg te g D σ H := h
theorem t_thn {k : V → Hp → VK → Prop} (h : te σ H fun x H1 => k x H1 Q) : tThen te k σ H Q := h
theorem t_isi {c : V} {i : Nat} {v : V} (hv : σ[i]? = some (some v)) (h : rIsi K [v, c] H Q) : tCB (rIsi K) (tCons (tVar i) (tCons (tC c) tNil)) σ H Q := ⟨v, hv, h⟩
end
/-- [.. for x in a list or a tuple] -/
theorem lc_sq {K : PySem.W.Frag} {a : Addr} {xs : List V} {g : TG} {tt : TT} {te : TE} {vs : List Nat} {σ : L2.St} {H : Hp} {Q : VK} (hS : Sq K H a xs) (R : Nat → List V → Hp → Prop) (h0 : R 0 [] H) (hR : ∀ i acc G, R i acc G → Same H G)
    (hs : ∀ i x acc G D, xs[i]? = some x → G D = none → R i acc G → g x (wipe σ vs) (upd G D (.lst acc)) fun σ2 H2 => wipe σ2 vs = wipe σ vs ∧ tt σ2 H2 fun b H3 =>
      if b = true then te σ2 H3 fun y H4 => ∃ acc, H4 D = some (.lst acc) ∧ acc.length < sizeLine ∧ LcN R D (i + 1) (upd H4 D (.lst (acc ++ [y]))) else LcN R D (i + 1) H3)
    (hd : ∀ D acc G, G D = none → R xs.length acc G → Q (.ref D) (upd G D (.lst acc))) (tl : TE) (ht : ∀ R' : V → Hp → Prop, R' (.ref a) H → tl σ H R') : tLc (iSqW K tl) g tt te vs σ H Q := by
  refine ht _ ⟨a, xs, rfl, ?_⟩
  rcases hS with hS | hS
  · refine .inl ⟨hS, fun D hD => lc_w walk_sqL R hD h0 (fun i acc G _ hG r => (same_upd hG).seq ((hR i acc G r).seq hS)) (fun i x acc G H' hi hG r y => ?_) (fun acc G hG r => hd D acc G hG r)⟩
    obtain ⟨rfl, hx⟩ := y
    exact hs i x acc G D hx hG r
  · refine .inr ⟨hS, fun D hD => lc_w walk_sqT R hD h0 (fun i acc G _ hG r => sqt_same (same_upd hG) (sqt_same (hR i acc G r) hS)) (fun i x acc G H' hi hG r y => ?_) (fun acc G hG r => hd D acc G hG r)⟩
    obtain ⟨rfl, hx⟩ := y
    exact hs i x acc G D hx hG r
/-- [.. for x in range(n)] -/
theorem lc_rg {lo : Int} {n : Nat} {g : TG} {tt : TT} {te : TE} {vs : List Nat} {σ : L2.St} {H : Hp} {D : Addr} {Qd : Hp → Prop} (R : Nat → List V → Hp → Prop) (hD : H D = none) (h0 : R 0 [] H)
    (hs : ∀ i acc G, i < n → G D = none → R i acc G → g (.int (lo + i)) (wipe σ vs) (upd G D (.lst acc)) fun σ2 H2 => wipe σ2 vs = wipe σ vs ∧ tt σ2 H2 fun b H3 =>
      if b = true then te σ2 H3 fun y H4 => ∃ acc, H4 D = some (.lst acc) ∧ acc.length < sizeLine ∧ LcN R D (i + 1) (upd H4 D (.lst (acc ++ [y]))) else LcN R D (i + 1) H3)
    (hd : ∀ acc G, G D = none → R n acc G → Qd (upd G D (.lst acc))) :
    ∃ W : Nat → Nat → Hp → Prop, (∃ m, W 0 m (upd H D (.lst []))) ∧ ∀ i m H, W i m H →
      ((Itr lo n).stop i H ∧ Qd H) ∨ ((Itr lo n).go i H ∧ ∃ Nx : Hp → Prop, (∀ H', Nx H' → ∃ m', m' < m ∧ W (i + 1) m' H') ∧ ∀ x H', (Itr lo n).yld i H x H' → g x (wipe σ vs) H' fun σ2 H2 => wipe σ2 vs = wipe σ vs ∧ tt σ2 H2 fun b H3 =>
        if b = true then te σ2 H3 fun y H4 => ∃ acc, H4 D = some (.lst acc) ∧ acc.length < sizeLine ∧ Nx (upd H4 D (.lst (acc ++ [y]))) else Nx H3) := by
  refine lc_w walk_range R hD h0 (fun _ _ _ _ _ _ => trivial) (fun i x acc G H' hi hG r y => ?_) hd
  obtain ⟨rfl, rfl⟩ := y
  exact hs i acc G hi hG r
end L2
namespace Shf
open PySem PySem.Spec PyProof.Rows L2
/-! ### a def of the text with its promise -/
structure Fk (P : Program) (w : World) (K : PySem.W.Frag) (mg : PySem.Str → Option Value) (base : Heap) (k : Nat) (x : PySem.Str) (ps : List PySem.Str) (sp : Sp) : Prop where
  ex : ∃ fd, FnOk P w K mg base (L2.CX P w) k (ea K x) fd ps sp ∧ Binds K fd ps [] ∧ ∃ oc od osl, K.lookup (ea K x) = some ⟨oc, od, .func fd, osl⟩
  g : mg x = some (.ref (ea K x))
  kp : PySem.W.keepIn K (.ref (ea K x)) = true
section
variable {P : Program} {w : World} {K : PySem.W.Frag} {mg : PySem.Str → Option Value} {base : Heap} {k j : Nat} {x : PySem.Str} {ps : List PySem.Str} {sp sp' : Sp}
theorem Fk.mono (c : Fk P w K mg base k x ps sp) (h : k ≤ j) : Fk P w K mg base j x ps sp := by
  obtain ⟨fd, F, b, lk⟩ := c.ex
  exact ⟨⟨fd, F.mono h, b, lk⟩, c.g, c.kp⟩
theorem Fk.imp (c : Fk P w K mg base k x ps sp) (h : ∀ vs H Q E, sp' vs H Q E → sp vs H Q E) : Fk P w K mg base k x ps sp' := by
  obtain ⟨fd, F, b, lk⟩ := c.ex
  exact ⟨⟨fd, ⟨fun vs H Q E z => F.len vs H Q E (h _ _ _ _ z), fun A outer s H args us vs Q E hr e0 hb r z => F.run A outer s H args us vs Q E hr e0 hb r (h _ _ _ _ z)⟩, b, lk⟩, c.g, c.kp⟩
theorem Fk.of {st : Stmt} {fd : FuncData} (h : Has K mg x st fd) (F : FnOk P w K mg base (L2.CX P w) k (ea K x) fd ps sp) (b : Binds K fd ps []) : Fk P w K mg base k x ps sp := by
  refine ⟨⟨fd, F, b, ?_⟩, h.g, h.F.kp⟩
  obtain ⟨oc, od, dV, kV, doc, pm, an, cdv, ct, osl, rfl, lk, hcd, _, _⟩ := h.F.ex
  exact ⟨_, _, _, lk⟩
end
section
variable {X : Cx} {k j : Nat} {x : PySem.Str} {ps : List PySem.Str} {sp : Sp} {e : Expr} {es : List Expr} {t : TA} {p pos : Pos} {E : XK}
theorem pe_f (c : Fk X.prog X.w X.K X.mg X.base k x ps sp) (hr : Room j X.A) (hk : k ≤ j) (hg : Gl X x) (hx : Passes (L2.CX X.prog X.w) X E) (ha : PA X (e :: es) t)
    (hdb : (x == ("__debug__" : PySem.Str)) = false := by decide) (he : starEach (e :: es) X.env = (false, eval e X.env) :: starEach es X.env := by rfl) (hpl : (backTo pos (starEach es X.env)).any (·.1) = false := by rfl) :
    PE X (.Call (.Name x p) (e :: es) [] pos) (tCall sp [] E t) := by
  obtain ⟨fd, F, b, lk⟩ := c.ex
  exact pe_call F (hr.mono hk) hg c.g c.kp b .nil hx ha hdb he hpl
theorem pe_fS {E : L2.St → XK} (c : Fk X.prog X.w X.K X.mg X.base k x ps sp) (hr : Room j X.A) (hk : k ≤ j) (hg : Gl X x) (hx : ∀ σ, PassesAt (L2.CX X.prog X.w) X σ (E σ)) (ha : PA X (e :: es) t)
    (hdb : (x == ("__debug__" : PySem.Str)) = false := by decide) (he : starEach (e :: es) X.env = (false, eval e X.env) :: starEach es X.env := by rfl) (hpl : (backTo pos (starEach es X.env)).any (·.1) = false := by rfl) :
    PE X (.Call (.Name x p) (e :: es) [] pos) (tCallS sp E t) := by
  obtain ⟨fd, F, b, lk⟩ := c.ex
  exact pe_callS F (hr.mono hk) hg c.g c.kp b hx ha hdb he hpl
end
theorem two_le : 2 ≤ sizeLine := by rw [sizeLine_eq]; decide
/-! ### what is wished for when an error is raised -/
/-- C(v) with .at -/
def wAt (K : PySem.W.Frag) (x : PySem.Str) (v : V) (H : Hp) (E : XK) : Prop := ∀ H' d, Same H H' → H' d = some (.xd [(("at" : PySem.Str), v)]) → E (.ref (ea K x)) (some d) H'
def wWord (K : PySem.W.Frag) (x : PySem.Str) (v : V) (H : Hp) (E : XK) : Prop := ∀ H' d, Same H H' → H' d = some (.xd [(("word" : PySem.Str), v)]) → E (.ref (ea K x)) (some d) H'
/-! ### looks at data -/
def dIn (lo hi : Int) : PyData → Bool
  | .int i => decide (lo ≤ i) && decide (i ≤ hi)
  | _ => false
def dInt1 : PyData → Bool
  | .int _ => true
  | _ => false
def spB (K : PySem.W.Frag) (f : PyData → Bool) : Sp := fun vs H Q _ => ∃ v d, vs = [v] ∧ Dp K H v d ∧ Q (.bl (f d)) H
def spBS (K : PySem.W.Frag) (f : PyData → Bool) : Sp := fun vs H Q _ => ∃ v d, vs = [v] ∧ Dp K H v d ∧ ∀ H', Same H H' → Q (.bl (f d)) H'
def spWithin (K : PySem.W.Frag) : Sp := fun vs H Q _ => ∃ v d lo hi, vs = [v, .int lo, .int hi] ∧ Dp K H v d ∧ Q (.bl (dIn lo hi d)) H
def spBelow (K : PySem.W.Frag) : Sp := fun vs H Q _ => ∃ v d hi, vs = [v, .int hi] ∧ Dp K H v d ∧ Q (.bl (dIn 0 (hi - 1) d)) H
def dPair (d : PyData) : Bool := dSeq d && decide ((dItems d).length = 2)
def dInts : List PyData → List Int
  | [] => []
  | .int i :: r => i :: dInts r
  | _ :: r => 0 :: dInts r
/-- unlike numbers below m -/
def dRow (m : Int) (d : PyData) : Bool := dSeq d && ((dItems d).all (dIn 0 (m - 1)) && decide ((dInts (dItems d)).Nodup))
def spRow (K : PySem.W.Frag) : Sp := fun vs H Q _ => ∃ v d m, vs = [v, .int m] ∧ Dp K H v d ∧ (dItems d).length ≤ 3000 ∧ ∀ H', Same H H' → Q (.bl (dRow m d)) H'
theorem ints_of {K : PySem.W.Frag} {H : Hp} {lo hi : Int} : ∀ {ds : List PyData} {vs : List V}, DpAll K H vs ds → ds.all (dIn lo hi) = true → vs = (dInts ds).map V.int ∧ (∀ i ∈ dInts ds, lo ≤ i ∧ i ≤ hi) ∧ ds = (dInts ds).map PyData.int
  | [], _, .nil, _ => ⟨rfl, fun _ h => (by cases h), rfl⟩
  | d :: ds, _, .cons h t, e => by
    rw [List.all_cons, Bool.and_eq_true] at e
    obtain ⟨e1, e2⟩ := e
    obtain ⟨r1, r2, r3⟩ := ints_of t e2
    cases h with
    | int i =>
      have z : (decide (lo ≤ i) && decide (i ≤ hi)) = true := e1
      rw [Bool.and_eq_true, decide_eq_true_eq, decide_eq_true_eq] at z
      refine ⟨?_, fun k hk => ?_, ?_⟩
      · show _ = V.int i :: (dInts ds).map V.int
        rw [r1]
      · rcases List.mem_cons.mp (show k ∈ i :: dInts ds from hk) with rfl | hk
        · exact z
        · exact r2 k hk
      · show PyData.int i :: ds = PyData.int i :: (dInts ds).map PyData.int
        rw [← r3]
    | _ => cases e1
theorem dInts_len : ∀ ds : List PyData, (dInts ds).length = ds.length
  | [] => rfl
  | .int _ :: r => congrArg (· + 1) (dInts_len r)
  | .none :: r => congrArg (· + 1) (dInts_len r)
  | .bool _ :: r => congrArg (· + 1) (dInts_len r)
  | .str _ :: r => congrArg (· + 1) (dInts_len r)
  | .list _ :: r => congrArg (· + 1) (dInts_len r)
  | .tuple _ :: r => congrArg (· + 1) (dInts_len r)
  | .dict _ :: r => congrArg (· + 1) (dInts_len r)
end Shf


namespace Shf
open PySem PySem.Spec PyProof.Rows L2
/-! ### data of small lists, laid as it is -/
mutual
def dLens : PyData → Bool
  | .list xs => decide (xs.length ≤ 3000) && dLensAll xs
  | .tuple xs => decide (xs.length ≤ 3000) && dLensAll xs
  | _ => true
def dLensAll : List PyData → Bool
  | [] => true
  | x :: r => dLens x && dLensAll r
end
def dOk (d : PyData) : Prop := SeqAt.shaped d = true ∧ dLens d = true
theorem dLensAll_mem : ∀ {ds : List PyData}, dLensAll ds = true → ∀ d ∈ ds, dLens d = true
  | x :: r, h, d, hd => by
    have z := h
    rw [dLensAll, Bool.and_eq_true] at z
    rcases List.mem_cons.mp hd with rfl | hd
    · exact z.1
    · exact dLensAll_mem z.2 d hd
theorem canLayAll_mem : ∀ {ds : List PyData}, PyData.canLayAll0 ds = true → ∀ d ∈ ds, PyData.canLay0 d = true
  | x :: r, h, d, hd => by
    rw [PyData.canLayAll0, Bool.and_eq_true] at h
    rcases List.mem_cons.mp hd with rfl | hd
    · exact h.1
    · exact canLayAll_mem h.2 d hd
theorem depthAll_mem : ∀ {ds : List PyData}, ∀ d ∈ ds, PyData.depth d ≤ PyData.depthAll ds
  | x :: r, d, hd => by
    rw [PyData.depthAll]
    rcases List.mem_cons.mp hd with rfl | hd
    · exact Nat.le_max_left _ _
    · exact Nat.le_trans (depthAll_mem d hd) (Nat.le_max_right _ _)
theorem dOk.item {d z : PyData} (h : dOk d) (hz : z ∈ dItems d) : dOk z := by
  obtain ⟨h1, h2⟩ := h
  unfold SeqAt.shaped at h1
  rw [Bool.and_eq_true, decide_eq_true_eq] at h1
  cases d with
  | list xs =>
    rw [PyData.canLay0, PyData.depth] at h1
    obtain ⟨a1, a2⟩ := h1
    rw [dLens, Bool.and_eq_true] at h2
    have a3 := h2
    have a4 := depthAll_mem z (show z ∈ xs from hz)
    refine ⟨?_, dLensAll_mem a3.2 z hz⟩
    unfold SeqAt.shaped
    rw [canLayAll_mem a1 z hz, Bool.true_and, decide_eq_true_eq]
    omega
  | tuple xs =>
    rw [PyData.canLay0, PyData.depth] at h1
    obtain ⟨a1, a2⟩ := h1
    rw [dLens, Bool.and_eq_true] at h2
    have a3 := h2
    have a4 := depthAll_mem z (show z ∈ xs from hz)
    refine ⟨?_, dLensAll_mem a3.2 z hz⟩
    unfold SeqAt.shaped
    rw [canLayAll_mem a1 z hz, Bool.true_and, decide_eq_true_eq]
    omega
  | _ => cases hz
theorem dOk.len {d : PyData} (h : dOk d) : (dItems d).length ≤ 3000 := by
  obtain ⟨_, h2⟩ := h
  cases d with
  | list xs =>
    rw [dLens, Bool.and_eq_true, decide_eq_true_eq] at h2
    exact h2.1
  | tuple xs =>
    rw [dLens, Bool.and_eq_true, decide_eq_true_eq] at h2
    exact h2.1
  | _ => exact Nat.zero_le _
def dStr (x : PySem.Str) : PyData → Bool
  | .str y => y == x
  | _ => false
theorem eqv_str (d : PyData) (x : PySem.Str) : PyData.eqv d (.str x) = dStr x d := by
  cases d <;> simp [PyData.eqv, dStr]
theorem pair_of {K : PySem.W.Frag} {H : Hp} {v : V} {d : PyData} (hd : Dp K H v d) (hp : dPair d = true) :
    ∃ a x y dx dy, v = .ref a ∧ Sq K H a [x, y] ∧ dItems d = [dx, dy] ∧ Dp K H x dx ∧ Dp K H y dy := by
  unfold dPair at hp
  rw [Bool.and_eq_true, decide_eq_true_eq] at hp
  obtain ⟨a, xs, rfl, hS, hA⟩ := dp_seq hd hp.1
  have hl := hp.2
  generalize dItems d = ds at hl hA
  cases hA with
  | nil => exact absurd hl (by decide)
  | cons h1 t =>
    cases t with
    | nil => exact absurd hl (show ¬ (1 : Nat) = 2 by decide)
    | cons h2 t2 =>
      cases t2 with
      | nil => exact ⟨a, _, _, _, _, rfl, hS, rfl, h1, h2⟩
      | cons h3 t3 =>
        rw [List.length_cons, List.length_cons, List.length_cons] at hl
        omega
theorem ix_sq {K : PySem.W.Frag} {H : Hp} {a : Addr} {xs : List V} {j : Nat} {v : V} {Q : VK} (hS : Sq K H a xs) (hj : xs[j]? = some v) (q : Q v H) : rIx K (.ref a) (.int (j : Nat)) H Q := by
  rcases hS with hS | hS
  · exact .inl ⟨a, xs, j, v, rfl, rfl, hS, atI_nat hj, q⟩
  · exact .inr (.inl ⟨a, xs, j, v, rfl, rfl, hS, atI_nat hj, q⟩)
/-! ### shelves -/
/-- a chain of m cells -/
def dChain (m : Int) (d : PyData) : Bool := dPair d && (dRow m ((dItems d).getD 1 .none) && ((dStr "list" ((dItems d).getD 0 .none) && decide (1 ≤ (dItems ((dItems d).getD 1 .none)).length)) || (dStr "ring" ((dItems d).getD 0 .none) && decide (3 ≤ (dItems ((dItems d).getD 1 .none)).length))))
def spChain (K : PySem.W.Frag) : Sp := fun vs H Q _ => ∃ v d m, vs = [.int m, v] ∧ Dp K H v d ∧ dOk d ∧ ∀ H', Same H H' → Q (.bl (dChain m d)) H'
def spNeedSize (K : PySem.W.Frag) : Sp := fun vs H Q E => ∃ v d lo hi wd, vs = [v, .int lo, .int hi, wd] ∧ Dp K H v d ∧ (dIn lo hi d = true → Q v H) ∧ (dIn lo hi d = false → wWord K "InvalidSize" wd H E)
theorem dAll_snoc {K : PySem.W.Frag} {H : Hp} {y : V} {d : PyData} (hy : Dp K H y d) : ∀ {xs : List V} {ds : List PyData}, DpAll K H xs ds → DpAll K H (xs ++ [y]) (ds ++ [d])
  | _, _, .nil => .cons hy .nil
  | _, _, .cons h t => .cons h (dAll_snoc hy t)
theorem dAll_ints {K : PySem.W.Frag} {H : Hp} : ∀ ns : List Int, DpAll K H (ns.map V.int) (ns.map PyData.int)
  | [] => .nil
  | i :: r => .cons (.int i) (dAll_ints r)
theorem kTup_sq {K : PySem.W.Frag} {H : Hp} {a : Addr} {xs : List V} {Q : VK} (hS : Sq K H a xs) (h : ∀ p H', Same H H' → SqT K H' p xs → Q (.ref p) H') : kTup K (.ref a) H Q := by
  rcases hS with hS | hS
  · exact .inl ⟨a, xs, rfl, hS, fun q hq => h q _ (same_new hq) (.inl (.inl upd_same))⟩
  · exact .inr ⟨a, xs, rfl, hS, h a H Same.rfl' hS⟩
def dNum : PyData → Int
  | .int i => i
  | _ => 0
abbrev d0 (d : PyData) : PyData := (dItems d).getD 0 .none
abbrev d1 (d : PyData) : PyData := (dItems d).getD 1 .none
abbrev Chain := Bool × List Int
def chOf (d : PyData) : Chain := (dStr "ring" (d0 d), dInts (dItems (d1 d)))
def chD (c : Chain) : PyData := .tuple [.str (if c.1 = true then "ring" else "list"), .tuple (c.2.map PyData.int)]
def shD (n : Int) (cs : List Chain) : PyData := .tuple [.int n, .tuple (cs.map chD)]
/-- cells and some chains, however they are -/
def shHead (d : PyData) : Bool := dPair d && (dIn 1 200 (d0 d) && dSeq (d1 d))
/-- the first place, from the i-th on, of a chain that is none -/
def badFrom (m : Int) (i : Nat) : List PyData → Option Nat
  | [] => none
  | c :: r => if (decide (i = 200) || !dChain m c) = true then some i else badFrom m (i + 1) r
theorem bad_none {m : Int} : ∀ {cs : List PyData} {i : Nat}, badFrom m i cs = none → ∀ c ∈ cs, dChain m c = true
  | c :: r, i, h, z, hz => by
    unfold badFrom at h
    by_cases e : (decide (i = 200) || !dChain m c) = true
    · rw [if_pos e] at h
      cases h
    · rw [if_neg e] at h
      rcases List.mem_cons.mp hz with rfl | hz
      · cases q : dChain m z with
        | true => rfl
        | false =>
          rw [q] at e
          exact absurd (by simp) e
      · exact bad_none h z hz
/-- going on: the first i are chains -/
theorem bad_step {m : Int} {cs : List PyData} {c : PyData} : ∀ {i j : Nat}, cs[i]? = some c → (∀ k, k < i → ∀ z, cs[k]? = some z → (decide (j + k = 200) || !dChain m z) = false) →
    (decide (j + i = 200) || !dChain m c) = true → badFrom m j cs = some (j + i) := by
  induction cs with
  | nil =>
    intro i j h
    simp at h
  | cons d r ih =>
    intro i j h hk hb
    unfold badFrom
    cases i with
    | zero =>
      simp at h
      subst h
      rw [Nat.add_zero] at hb
      rw [if_pos hb]
      rfl
    | succ i =>
      have e := hk 0 (Nat.succ_pos _) d rfl
      rw [if_neg (by rw [Nat.add_zero] at e; rw [e]; exact Bool.false_ne_true)]
      have q := ih (i := i) (j := j + 1) h (fun k hk2 z hz => by
        have y := hk (k + 1) (by omega) z hz
        rw [show j + 1 + k = j + (k + 1) by omega]
        exact y) (by rw [show j + 1 + i = j + (i + 1) by omega]; exact hb)
      rw [q]
      congr 1
      omega
theorem bad_done {m : Int} {cs : List PyData} : ∀ {j : Nat}, (∀ k, k < cs.length → ∀ z, cs[k]? = some z → (decide (j + k = 200) || !dChain m z) = false) → badFrom m j cs = none := by
  induction cs with
  | nil =>
    intro j _
    rfl
  | cons d r ih =>
    intro j hk
    unfold badFrom
    have e := hk 0 (Nat.succ_pos _) d rfl
    rw [if_neg (by rw [Nat.add_zero] at e; rw [e]; exact Bool.false_ne_true)]
    refine ih fun k hk2 z hz => ?_
    have y := hk (k + 1) (by simpa using hk2) z hz
    rw [show j + 1 + k = j + (k + 1) by omega]
    exact y
def spNeedShelf (K : PySem.W.Frag) : Sp := fun vs H Q E => ∃ v d, vs = [v] ∧ Dp K H v d ∧ dOk d ∧ (shHead d = false → wAt K "InvalidShelf" (.int (-1)) H E) ∧
  (shHead d = true → (∀ i : Nat, badFrom (dNum (d0 d)) 0 (dItems (d1 d)) = some i → wAt K "InvalidShelf" (.int i) H E) ∧
    (badFrom (dNum (d0 d)) 0 (dItems (d1 d)) = none → ∀ r H', Same H H' → Dp K H' r (shD (dNum (d0 d)) ((dItems (d1 d)).map chOf)) → Q r H'))
theorem wAt_same {K : PySem.W.Frag} {x : PySem.Str} {v : V} {H H1 : Hp} {E : XK} (s : Same H H1) (h : wAt K x v H E) : wAt K x v H1 E := fun H' d s' e => h H' d (s.tr s') e
theorem wWord_same {K : PySem.W.Frag} {x : PySem.Str} {v : V} {H H1 : Hp} {E : XK} (s : Same H H1) (h : wWord K x v H E) : wWord K x v H1 E := fun H' d s' e => h H' d (s.tr s') e
theorem wAt_new {K : PySem.W.Frag} {x : PySem.Str} {v : V} {H : Hp} {E : XK} {D : Addr} (hD : H D = none) (h : wAt K x v H E) : E (.ref (ea K x)) (some D) (upd H D (.xd [(("at" : PySem.Str), v)])) := h _ D (same_new hD) upd_same
theorem dRow_seq {m : Int} {d : PyData} (h : dRow m d = true) : dSeq d = true := by
  unfold dRow at h
  rw [Bool.and_eq_true] at h
  exact h.1
theorem dRow_all {m : Int} {d : PyData} (h : dRow m d = true) : (dItems d).all (dIn 0 (m - 1)) = true := by
  unfold dRow at h
  rw [Bool.and_eq_true, Bool.and_eq_true] at h
  exact h.2.1
theorem dRow_nd {m : Int} {d : PyData} (h : dRow m d = true) : (dInts (dItems d)).Nodup := by
  unfold dRow at h
  rw [Bool.and_eq_true, Bool.and_eq_true, decide_eq_true_eq] at h
  exact h.2.2
theorem dStr_eq {x : PySem.Str} {d : PyData} (h : dStr x d = true) : d = .str x := by
  cases d with
  | str y =>
    have e : (y == x) = true := h
    rw [beq_iff_eq] at e
    rw [e]
  | _ => cases h
/-- a chain, made a tuple -/
theorem chain_kind {m : Int} {d : PyData} (h : dChain m d = true) : dPair d = true ∧ dRow m (d1 d) = true ∧ d0 d = .str (if (chOf d).1 = true then "ring" else "list") ∧ 1 ≤ (chOf d).2.length ∧ ((chOf d).1 = true → 3 ≤ (chOf d).2.length) := by
  unfold dChain at h
  rw [Bool.and_eq_true, Bool.and_eq_true, Bool.or_eq_true, Bool.and_eq_true, Bool.and_eq_true, decide_eq_true_eq, decide_eq_true_eq] at h
  obtain ⟨h1, h2, h3⟩ := h
  have e : (chOf d).2.length = (dItems (d1 d)).length := dInts_len _
  refine ⟨h1, h2, ?_, ?_, ?_⟩
  · show d0 d = .str (if dStr "ring" (d0 d) = true then "ring" else "list")
    rcases h3 with ⟨h3, _⟩ | ⟨h3, _⟩
    · have z := dStr_eq h3
      rw [show (dItems d).getD 0 .none = d0 d from rfl] at z
      rw [z]
      rw [if_neg (by decide)]
    · have z := dStr_eq h3
      rw [show (dItems d).getD 0 .none = d0 d from rfl] at z
      rw [z]
      rw [if_pos (by decide)]
  · rw [e]
    rcases h3 with ⟨_, h3⟩ | ⟨_, h3⟩
    · exact h3
    · exact Nat.le_trans (by decide) h3
  · intro q
    rw [e]
    rcases h3 with ⟨h4, h3⟩ | ⟨_, h3⟩
    · have z := dStr_eq h4
      rw [show (dItems d).getD 0 .none = d0 d from rfl] at z
      have q2 : dStr "ring" (d0 d) = true := q
      rw [z] at q2
      exact absurd q2 (by decide)
    · exact h3
end Shf


namespace L2
open PySem PySem.Spec PyProof.Rows LamX
/-! ### the law's own call, with tables of code objects, the guards kept -/
section
/-- what may be tracked at first: the script as it stands, and empty tables -/
structure Begun (h : Heap) (cs : List (Addr × Addr)) (H : Hp) : Prop where
  tabs : ∀ p ∈ cs, H p.2 = some (.tbl #[])
  only : ∀ b o, H b = some o → (∃ p ∈ cs, p.2 = b) ∨ ∃ ob xs, o = .frz ob (.lst xs)
theorem law_callTG {P : Program} {w : World} {K : PySem.W.Frag} {mg mb : Str → Option Value} {CX : CXT} {k : Nat} {fa a : Addr} {cs : List (Addr × Addr)} {fd : FuncData} {x : Str} {sp : Sp} {s₁ : Shared} {vs : List Value} {ns : List Int}
    (KX : K.In s₁.heap) (hns : s₁.heap.Ns mainGlobals mg) (hb : s₁.heap.Ns builtinsNs mb) (hbb : ∀ x : Str, x ≠ "__name__" → mb x = bootBuiltins x) (hlim : s₁.heap.NoLimit) (hg : s₁.gens = #[])
    (hT : ∀ p ∈ cs, s₁.heap.get? p.2 = some { cls := .none, data := .fields #[] }) (nT : ∀ p ∈ cs, K.lookup p.2 = none) (C : ∀ p ∈ cs, PySem.W.CodeHd s₁.heap p.1 p.2)
    (hbm : ∃ (bm : Addr) (ob : Obj), mg "__builtins__" = some (.ref bm) ∧ bm ≠ builtinsNs ∧ s₁.heap.get? bm = some ob ∧ ob.cls = .type "module" ∧ ob.dict = some builtinsNs ∧ ob.data = .plain)
    (ha : s₁.heap.get? a = some { cls := .type "list", data := .seq vs.toArray }) (hi : IntsAre vs ns) (hl : ns.length ≤ sizeLine) (hr : Room k callerA)
    (F : ∀ base : Heap, K.In base → base.Ns mainGlobals mg → (∀ p ∈ cs, TabB base mg p.1 p.2) → FnG P w K mg base CX k fa fd [x] sp) (hbind : ∀ (s : Shared) (u : Value), BindsTo s fd ⟨[u], []⟩ [(x, u)])
    (hsp : ∀ H : Hp, Begun s₁.heap cs H → SqL K H a (ns.map V.int) → sp [.ref a] H (fun v _ => v = .bl true) fun _ _ _ => False)
    (hCX : ∀ H e s', CX [] H s₁ (fun _ _ _ => False) e s' → False) :
    codeAny (model P w) callerA (.call (.ref fa) ⟨[.ref a], []⟩) (fun r s' => r = .ok (.ret (.bool true)) ∧ OldK s₁.heap s'.heap ∧ s'.os = s₁.os ∧ AllBare s'.gens) s₁ := by
  have rv := vals_ints hi
  have lenV := hi.length
  let isT : Addr → Prop := fun b => ∃ p ∈ cs, p.2 = b
  have atT : ∀ {b : Addr}, isT b → s₁.heap.get? b = some { cls := .none, data := .fields #[] } := fun {b} hb => by
    obtain ⟨p, hp, rfl⟩ := hb
    exact hT p hp
  have aT : ¬ isT a := fun z => by
    have q := atT z
    rw [ha] at q
    cases q
  have core : ∀ H : Hp, Begun s₁.heap cs H → SqL K H a (ns.map V.int) → HOk P w H s₁.heap → (∀ b, H b ≠ none → b = a ∨ isT b) → (H a ≠ none → K.lookup a = none) →
      codeAny (model P w) callerA (.call (.ref fa) ⟨[.ref a], []⟩) (fun r s' => r = .ok (.ret (.bool true)) ∧ OldK s₁.heap s'.heap ∧ s'.os = s₁.os ∧ AllBare s'.gens) s₁ := by
    intro H hO hS hok hA hK
    -- an object of the ground that is neither the script nor a table is not tracked
    have free : ∀ {b : Addr} {o : Obj}, s₁.heap.get? b = some o → o ≠ { cls := .type "list", data := .seq vs.toArray } → o ≠ { cls := .none, data := .fields #[] } → (hidT s₁.heap H).get? b = some o := fun {b o} e n1 n2 => by
      refine hidT_get e (Classical.byContradiction fun z => ?_)
      rcases hA b z with rfl | q
      · rw [ha] at e
        exact n1 (Option.some.inj e).symm
      · rw [atT q] at e
        exact n2 (Option.some.inj e).symm
    have nsK : ∀ {b : Addr} {m : Str → Option Value}, s₁.heap.Ns b m → (hidT s₁.heap H).Ns b m := fun {b m} hm => by
      obtain ⟨o, es, ep, e, d, r⟩ := hm
      refine ⟨o, es, ep, free e (fun z => ?_) (fun z => ?_), d, r⟩
      · rw [z] at d
        cases d
      · rw [z] at d
        cases d
    have hKb : K.In (hidT s₁.heap H) := fun b o e => by
      refine hidT_get (KX b o e) (Classical.byContradiction fun z => ?_)
      rcases hA b z with rfl | ⟨p, hp, rfl⟩
      · rw [hK z] at e
        cases e
      · rw [nT p hp] at e
        cases e
    have hM : Mod K mg (hidT s₁.heap H) := by
      obtain ⟨mc, h1, h2⟩ := hlim
      exact ⟨hKb, nsK hns, ⟨mb, nsK hb, hbb⟩, mc, nsK h1, h2⟩
    have gNs : ∀ {b : Addr} {o : Obj}, s₁.heap.get? b = some o → o.data = .plain → b ≠ mainGlobals := fun {b o} e d z => by
      obtain ⟨o2, es, ep, e2, d2, _⟩ := hns
      rw [z, e2] at e
      cases e
      rw [d2] at d
      cases d
    have TB : ∀ p ∈ cs, TabB (hidT s₁.heap H) mg p.1 p.2 := fun p hp => by
      refine ⟨?_, ?_, fun z => ?_⟩
      · obtain ⟨o, us, file, tf, flags, tg, inF, text, tt, e1, r1, r2, rest⟩ := C p hp
        refine ⟨o, us, file, tf, flags, tg, inF, text, tt, free e1 (fun z => ?_) (fun z => ?_), r1, r2, rest⟩
        · rw [z] at r2
          cases r2
        · rw [z] at r2
          cases r2
          have q := rest.1
          simp at q
      · obtain ⟨bm, ob, b1, b2, b3, b4, b5, b6⟩ := hbm
        refine ⟨bm, ob, b1, b2, gNs b3 b6, fun q => ?_, free b3 (fun z => ?_) (fun z => ?_), b4, b5, b6⟩
        · rw [q, hT p hp] at b3
          cases b3
          cases b6
        · rw [z] at b6
          cases b6
        · rw [z] at b6
          cases b6
      · obtain ⟨o2, es, ep, e2, d2, _⟩ := hns
        rw [z, hT p hp] at e2
        cases e2
        cases d2
    have e0 : Env0 P w K mg (hidT s₁.heap H) callerA [] s₁ H := ⟨rfl, hM, fun b o e => of_hidT e, Nat.le_of_eq (hidT_size _ _), trivial, (fun b hb => (List.not_mem_nil (show b ∈ ([] : List Addr) from hb)).elim), hok, .of_eq hg⟩
    refine codeAny_mono ((F _ hKb (nsK hns) TB).run callerA [] s₁ H ⟨[.ref a], []⟩ [.ref a] [.ref a] _ _ hr rfl e0 (hbind s₁ (.ref a)) (.cons rfl .nil) (hsp H hO hS)) fun r s' h => ?_
    match r, h with
    | .error e, h => exact (hCX H e s' h).elim
    | .ok .next, h => exact False.elim h
    | .ok .brk, h => exact False.elim h
    | .ok .cont, h => exact False.elim h
    | .ok (.ret u), h =>
      obtain ⟨v, H', os, bare, un, hok', r', q⟩ := h
      obtain rfl : v = .bl true := q
      obtain rfl : u = Value.bool true := r'
      have stay : ∀ b o, ¬ isT b → s₁.heap.get? b = some o → s'.heap.get? b = some o := fun b o nb e => by
        cases z : H b with
        | none => exact un.keep b o e z (fun z => (List.not_mem_nil (show b ∈ ([] : List Addr) from z)).elim) (fun z => (List.not_mem_nil z).elim)
        | some u =>
          rcases hO.only b u z with q | ⟨ob, xs, rfl⟩
          · exact absurd q nb
          · obtain ⟨e1, _⟩ := hok b _ z
            obtain ⟨e2, _⟩ := hok' b _ (un.frzs b ob _ z)
            rw [e] at e1
            cases e1
            exact e2
      have grown : ∀ p ∈ cs, ∃ more : Array Value, s'.heap.get? p.2 = some { cls := .none, data := .fields more } := fun p hp => by
        obtain ⟨more, z⟩ := un.tbls p.2 #[] (hO.tabs p hp)
        exact ⟨_, hok' p.2 _ z⟩
      refine ⟨rfl, ⟨fun b o e => ?_, fun b o e => ?_⟩, os, bare⟩
      · by_cases nb : isT b
        · obtain ⟨p, hp, rfl⟩ := nb
          obtain ⟨more, hm⟩ := grown p hp
          rw [hT p hp] at e
          cases e
          exact .inr (.inl ⟨((C p hp).tab (hT p hp)).isCodeTable, rfl, #[], more, rfl, by rw [Array.empty_append]; exact hm⟩)
        · exact .inl (stay b o nb e)
      · by_cases nb : isT b
        · obtain ⟨p, hp, rfl⟩ := nb
          obtain ⟨more, hm⟩ := grown p hp
          exact ⟨_, hm⟩
        · exact ⟨o, stay b o nb e⟩
  -- the heaps to begin with
  have mk : ∀ A : Option HO, (∀ o, A = some o → o = .frz { cls := .type "list", data := .seq vs.toArray } (.lst (ns.map V.int))) → ∃ H : Hp, H a = A ∧ (∀ p ∈ cs, H p.2 = some (.tbl #[])) ∧ (∀ b, b ≠ a → ¬ isT b → H b = none) ∧ ∀ b, isT b → H b = some (.tbl #[]) := fun A _ => by
    have dec : ∀ b, Decidable (isT b) := fun b => Classical.propDecidable _
    refine ⟨fun b => if b = a then A else (@ite _ (isT b) (dec b) (some (.tbl #[])) none), if_pos rfl, fun p hp => ?_, fun b h1 h2 => (if_neg h1).trans (@if_neg _ (dec b) h2 _ _ _), fun b h => ?_⟩
    · have n : p.2 ≠ a := fun z => aT ⟨p, hp, z⟩
      exact (if_neg n).trans (@if_pos _ (dec _) ⟨p, hp, rfl⟩ _ _ _)
    · have n : b ≠ a := fun z => aT (z ▸ h)
      exact (if_neg n).trans (@if_pos _ (dec _) h _ _ _)
  cases hk : K.lookup a with
  | some o =>
    have e := KX a o hk
    rw [ha] at e
    cases e
    obtain ⟨H, h1, h2, h3, h4⟩ := mk none (fun o z => by cases z)
    have cl : ∀ b o, H b = some o → isT b := fun b o z => Classical.byContradiction fun n => by
      by_cases e : b = a
      · rw [e, h1] at z
        cases z
      · rw [h3 b e n] at z
        cases z
    refine core H ⟨h2, fun b o z => .inl (cl b o z)⟩ (.inr ⟨_, vs.toArray, _, hk, rfl, rfl, rfl, by rw [List.size_toArray, lenV]; exact hl, by simpa using rv⟩) (fun b u z => ?_) (fun b z => ?_) (fun z => absurd h1 z)
    · have q := cl b u z
      rw [h4 b q] at z
      cases z
      exact atT q
    · cases y : H b with
      | none => exact absurd y z
      | some o => exact .inr (cl b o y)
  | none =>
    obtain ⟨H, h1, h2, h3, h4⟩ := mk (some (.frz { cls := .type "list", data := .seq vs.toArray } (.lst (ns.map V.int)))) (fun o z => (Option.some.inj z).symm)
    have cl : ∀ b o, H b = some o → isT b ∨ (b = a ∧ o = .frz { cls := .type "list", data := .seq vs.toArray } (.lst (ns.map V.int))) := fun b o z => by
      by_cases e : b = a
      · rw [e, h1] at z
        exact .inr ⟨e, (Option.some.inj z).symm⟩
      · by_cases n : isT b
        · exact .inl n
        · rw [h3 b e n] at z
          cases z
    refine core H ⟨h2, fun b o z => ?_⟩ (.inl (.inr ⟨_, h1⟩)) (fun b u z => ?_) (fun b z => ?_) (fun _ => hk)
    · rcases cl b o z with q | ⟨_, q⟩
      · exact .inl q
      · exact .inr ⟨_, _, q⟩
    · rcases cl b u z with q | ⟨rfl, rfl⟩
      · rw [h4 b q] at z
        cases z
        exact atT q
      · exact ⟨ha, by rw [List.length_map]; exact hl, vs, _, rv, ha⟩
    · cases y : H b with
      | none => exact absurd y z
      | some o =>
        rcases cl b o y with q | ⟨q, _⟩
        · exact .inr q
        · exact .inl q
theorem walk_ofTG {l : PySem.W.OpenLaw} {n k : Nat} {q : Program} {loose : List Str} {XP : (Str → Option Value) → Heap → Prop} {YP : World → Heap → Prop} {d : DefRec} {CX : World → CXT} {x : Str}
    (hn : l.most = some n) (hn2 : n ≤ sizeLine) (hdf : d.params.defaults = []) (hr : Room k callerA)
    (F : ∀ (w : World) (mg : Str → Option Value) (fa : Addr) (h : Heap), YP w h → h.Ns mainGlobals mg → mg d.name = some (.ref fa) →
      ∃ (K : PySem.W.Frag) (fd : FuncData) (cs : List (Addr × Addr)) (sp : Sp), K.In h ∧ (∀ p ∈ cs, h.get? p.2 = some { cls := .none, data := .fields #[] }) ∧ (∀ p ∈ cs, K.lookup p.2 = none) ∧ (∀ p ∈ cs, PySem.W.CodeHd h p.1 p.2) ∧
        (∀ (s : Shared) (u : Value), BindsTo s fd ⟨[u], []⟩ [(x, u)]) ∧
        (∀ (H : Hp) (a : Addr) (ns : List Int), ns.length ≤ n → Begun h cs H → SqL K H a (ns.map V.int) → sp [.ref a] H (fun v _ => v = .bl true) fun _ _ _ => False) ∧
        ∀ base : Heap, K.In base → base.Ns mainGlobals mg → (∀ p ∈ cs, TabB base mg p.1 p.2) → FnG l.prog w K mg base (CX w) k fa fd [x] sp)
    (hCX : ∀ (w : World) (H : Hp) (s : Shared) (e : Value) (s' : Shared), CX w [] H s (fun _ _ _ => False) e s' → False) :
    PySem.W.WalkO q loose XP YP l.row.toRowW d [] (fun f vs => PySem.call f vs) := by
  refine Att.attach_call hn hdf fun w s₀ s₁ mg mb fa o pm cd doc a vs ns G Y ho hd hcd hmg hobj hints hlen hg => ?_
  obtain ⟨K, fd, cs, sp, KX, hT, nT, C, hb, hsp, hF⟩ := F w mg fa _ Y G.T.g hmg
  exact law_callTG KX G.T.g G.T.b G.T.builtins G.T.nolimit hg hT nT C G.T.bmain hobj hints (Nat.le_trans hlen hn2) hr hF hb (fun H hO hS => hsp H a ns hlen hO hS) fun H e s' => hCX w H s₁ e s'
end
end L2
/-! ### what the head leaves: facts, defs, and defs whose tables of code objects are empty -/
namespace Shf
open PySem PySem.Spec PyProof.Rows L2
abbrev AlY : Type := He.AlD × Bool
def obsY (n : Nat) (fa : PySem.W.Frag → Bool) (fn : List He.DefD) (tf : List He.Defn) (g : Addr → Option Obj) : AlY := (obsS fa fn (He.frT g (He.asD g n)), He.tabsB g tf (He.frT g (He.asD g n)) && noTwo (tf.map fun p => (He.cT (He.frT g (He.asD g n)) p).2))
structure SaysY (fa : PySem.W.Frag → Bool) (fn : List He.DefD) (tf : List He.Defn) (h : Heap) (K : PySem.W.Frag) : Prop where
  s : SaysS fa fn K
  hd : ∀ p ∈ tf, PySem.W.codeHdIn K (He.cT K p).1 (He.cT K p).2 = true
  out : ∀ p ∈ tf, K.lookup (He.cT K p).2 = none
  empty : ∀ p ∈ tf, h.get? (He.cT K p).2 = some { cls := .none, data := .fields #[] }
  two : (tf.map fun p => (He.cT K p).2).Nodup
theorem saysY_of {n : Nat} {fa : PySem.W.Frag → Bool} {fn : List He.DefD} {tf : List He.Defn} {h : Heap} (e : obsY n fa fn tf h.get? = (He.valD fn, true)) : SaysY fa fn tf h (He.frT h.get? (He.asD h.get? n)) := by
  have e1 : obsS fa fn (He.frT h.get? (He.asD h.get? n)) = He.valD fn := congrArg (fun z : AlY => z.1) e
  obtain ⟨e2, e3⟩ := band (show (He.tabsB h.get? tf (He.frT h.get? (He.asD h.get? n)) && noTwo (tf.map fun p => (He.cT (He.frT h.get? (He.asD h.get? n)) p).2)) = true from congrArg (fun z : AlY => z.2) e)
  generalize hK : He.frT h.get? (He.asD h.get? n) = K at e1 e2 e3 ⊢
  have look : ∀ p ∈ tf, PySem.W.codeHdIn K (He.cT K p).1 (He.cT K p).2 = true ∧ ∃ o, h.get? (He.cT K p).2 = some o ∧ He.emptyTab o = true := fun p hp => by
    obtain ⟨h3, h4⟩ := band (List.all_eq_true.mp e2 p hp)
    refine ⟨h3, ?_⟩
    cases z : h.get? (He.cT K p).2 with
    | none =>
      rw [z] at h4
      cases h4
    | some o =>
      rw [z] at h4
      exact ⟨o, rfl, h4⟩
  refine ⟨e1, fun p hp => (look p hp).1, fun p hp => ?_, fun p hp => ?_, noTwo_ok e3⟩
  · obtain ⟨_, o, z, y⟩ := look p hp
    rw [← hK] at z ⊢
    exact He.frT_none z y
  · obtain ⟨_, o, z, y⟩ := look p hp
    rw [z, He.emptyTab_eq y]
def hookY (n : Nat) (fa : PySem.W.Frag → Bool) (fn : List He.DefD) (tf : List He.Defn) : PySem.W.Hook where
  α := AlY
  obs := fun s => obsY n fa fn tf s.heap.get?
  val := fun _ => (He.valD fn, true)
  says := fun _ h => ∃ K : PySem.W.Frag, K.In h ∧ SaysY fa fn tf h K
  of := fun _ _ e => ⟨_, He.frT_in, saysY_of e⟩
  keeps := fun _ _ _ hh k => by
    obtain ⟨K, hK, c⟩ := hh
    exact ⟨K, PySem.W.Frag.In.keeps hK k, c.s, c.hd, c.out, fun p hp => k _ _ (c.empty p hp), c.two⟩
theorem obsY_eq {n : Nat} {fa : PySem.W.Frag → Bool} {fn : List He.DefD} {tf : List He.Defn} {g : Addr → Option Obj} {s : Shared} (h : ∀ a, g a = s.heap.get? a) : obsY n fa fn tf g = (hookY n fa fn tf).obs s := by
  rw [show g = s.heap.get? from funext h]
  rfl
end Shf


namespace Shf
open PySem PySem.Spec PyProof.Rows L2 LamX
/-! ### a work handed to a def that tells its error -/
/-- an error told: its class, what is told ahead of its field, and whether the field is at -/
structure EC where
  x : PySem.Str
  lab : PySem.Str
  at_ : Bool
def EC.f (q : EC) : PySem.Str := if q.at_ = true then "at" else "word"
/-- what is wished for when the work lets an error out -/
def ErrIn (K : PySem.W.Frag) (cl : List EC) (cls : Value) (d : Option Addr) (H : Hp) (Q : VK) : Prop :=
  ∃ q ∈ cl, cls = .ref (ea K q.x) ∧ ∃ a v, d = some a ∧ H a = some (.xd [(q.f, v)]) ∧ ∀ p H2, Same H H2 → H2 p = some (.tup [.str q.lab, v]) → Q (.ref p) H2
/-- the def's reading: the work's, its errors told, else None -/
def TErr (K : PySem.W.Frag) (cl : List EC) : (XK → Hp → VK → Prop) → Hp → VK → Prop := fun tl H Q => tl (fun cls d H' => ErrIn K cl cls d H' Q) H fun _ H' => Q .non H'
def sAtL (K : PySem.W.Frag) (x lab : PySem.Str) : Addr → Value → Option Addr → TS := fun a cls d => tRet (tTup (tCons (tC (.str lab)) (tCons (tBy_at a (ea K x) cls d (tVar 1)) tNil)))
def sWordL (K : PySem.W.Frag) (x lab : PySem.Str) : Addr → Value → Option Addr → TS := fun a cls d => tRet (tTup (tCons (tC (.str lab)) (tCons (tBy_word a (ea K x) cls d (tVar 1)) tNil)))
theorem slot1 {σ : L2.St} {v : V} (h : σ.length = 2) : (σ.set 1 (some v))[1]? = some (some v) := by
  match σ, h with
  | [a, b], _ => rfl
theorem sAtL_run {K : PySem.W.Frag} {x lab : PySem.Str} {H : Hp} {D : Ends} {σ : L2.St} {a d : Addr} {v : V} (hl : σ.length = 2) (hd : H d = some (.xd [(("at" : PySem.Str), v)])) (hq : ∀ p H2, Same H H2 → H2 p = some (.tup [.str lab, v]) → D.rt (.ref p) H2) :
    sAtL K x lab a (.ref (ea K x)) (some d) D (σ.set 1 (some (.ref a))) H := by
  refine ⟨_, slot1 hl, rfl, rfl, d, v, rfl, hd, two_le, fun p hp => hq p _ (same_new hp) upd_same⟩
theorem sWordL_run {K : PySem.W.Frag} {x lab : PySem.Str} {H : Hp} {D : Ends} {σ : L2.St} {a d : Addr} {v : V} (hl : σ.length = 2) (hd : H d = some (.xd [(("word" : PySem.Str), v)])) (hq : ∀ p H2, Same H H2 → H2 p = some (.tup [.str lab, v]) → D.rt (.ref p) H2) :
    sWordL K x lab a (.ref (ea K x)) (some d) D (σ.set 1 (some (.ref a))) H := by
  refine ⟨_, slot1 hl, rfl, rfl, d, v, rfl, hd, two_le, fun p hp => hq p _ (same_new hp) upd_same⟩
theorem takes_len {X : Cx} {W : WX} (t : Takes X W) : Takes X (fun c d σ H => σ.length = X.N.length → W c d σ H) := fun u s' x => by
  obtain ⟨a, B, sI, pins, σ, H, cls, d, e, I, nb, up, sky, na, os, ag, w⟩ := x
  exact t u s' ⟨a, B, sI, pins, σ, H, cls, d, e, I, nb, up, sky, na, os, ag, w I.len⟩
/-! ### laws' tables -/
/-- a def's code object, its table, the tables that are told -/
structure TabOk (X : Cx) (Ts : List (Addr × PySem.Str)) (c P : Addr) : Prop where
  b : TabB X.base X.mg c P
  code : X.env.code = .ref c
  mem : (P, X.env.qual ++ "<lambda>") ∈ Ts
  one : ∀ p ∈ Ts, p.1 = P → p.2 = X.env.qual ++ "<lambda>"
/-- heaps alike but for the tables -/
theorem extN_seq {K : PySem.W.Frag} {H H' : Hp} {a : Addr} {xs : List V} (e : ExtN H H') (h : SqL K H a xs) : SqL K H' a xs := by
  rcases h with (h | ⟨o, h⟩) | h
  · exact .inl (.inl (e _ _ h (fun ps z => by cases z)))
  · exact .inl (.inr ⟨o, e _ _ h (fun ps z => by cases z)⟩)
  · exact .inr h
theorem extN_sqt {K : PySem.W.Frag} {H H' : Hp} {a : Addr} {xs : List V} (e : ExtN H H') (h : SqT K H a xs) : SqT K H' a xs := by
  rcases h with (h | ⟨o, h⟩) | h
  · exact .inl (.inl (e _ _ h (fun ps z => by cases z)))
  · exact .inl (.inr ⟨o, e _ _ h (fun ps z => by cases z)⟩)
  · exact .inr h
mutual
theorem dp_ext {K : PySem.W.Frag} {H H' : Hp} (e : ExtN H H') : ∀ (d : PyData) (v : V), Dp K H v d → Dp K H' v d
  | .none, _, h => by cases h; exact .non
  | .bool b, _, h => by cases h; exact .bl b
  | .int i, _, h => by cases h; exact .int i
  | .str x, _, h => by cases h; exact .str x
  | .list ds, _, h => by
    cases h with
    | lst h1 h2 => exact .lst (extN_seq e h1) (dpAll_ext e ds _ h2)
  | .tuple ds, _, h => by
    cases h with
    | tup h1 h2 => exact .tup (extN_sqt e h1) (dpAll_ext e ds _ h2)
  | .dict _, _, h => by cases h
theorem dpAll_ext {K : PySem.W.Frag} {H H' : Hp} (e : ExtN H H') : ∀ (ds : List PyData) (vs : List V), DpAll K H vs ds → DpAll K H' vs ds
  | [], _, h => by cases h; exact .nil
  | d :: ds, _, h => by
    cases h with
    | cons h1 h2 => exact .cons (dp_ext e d _ h1) (dpAll_ext e ds _ h2)
end
theorem same_ext {H H' : Hp} (s : Same H H') : ExtN H H' := .of s
end Shf


namespace Shf
open PySem PySem.Spec PyProof.Rows L2
/-! ### what a law draws: a box holds three numbers -/
def Box (H : Hp) (a : Addr) (c d e : Int) : Prop := H a = some (.lst [.int c, .int d, .int e]) ∧ 0 ≤ c ∧ 1 ≤ d ∧ d ≤ 2147483629 ∧ 0 ≤ e ∧ e ≤ 1000000000000
/-- the box a with at most n turns behind it -/
def BoxN (H : Hp) (a : Addr) (n : Int) : Prop := ∃ c d e, Box H a c d e ∧ e ≤ n
/-- all but the thing at a stays -/
def But (a : Addr) (H H' : Hp) : Prop := ∀ b o, b ≠ a → H b = some o → H' b = some o
theorem But.rfl' {a : Addr} {H : Hp} : But a H H := fun _ _ _ e => e
theorem But.tr {a : Addr} {H H1 H2 : Hp} (x : But a H H1) (y : But a H1 H2) : But a H H2 := fun b o n e => y b o n (x b o n e)
theorem But.of {a : Addr} {H H' : Hp} (s : Same H H') : But a H H' := fun b o _ e => s b o e
theorem but_upd {a : Addr} {H : Hp} {o : HO} : But a H (upd H a o) := fun b x n e => by
  rw [upd_ne n]
  exact e
theorem But.seq {K : PySem.W.Frag} {a b : Addr} {H H' : Hp} {xs : List V} (x : But a H H') (n : b ≠ a) (h : SqL K H b xs) : SqL K H' b xs := by
  rcases h with (h | ⟨o, h⟩) | h
  · exact .inl (.inl (x _ _ n h))
  · exact .inl (.inr ⟨o, x _ _ n h⟩)
  · exact .inr h
theorem But.sqt {K : PySem.W.Frag} {a b : Addr} {H H' : Hp} {xs : List V} (x : But a H H') (n : b ≠ a) (h : SqT K H b xs) : SqT K H' b xs := by
  rcases h with (h | ⟨o, h⟩) | h
  · exact .inl (.inl (x _ _ n h))
  · exact .inl (.inr ⟨o, x _ _ n h⟩)
  · exact .inr h
/-- data that does not lie at a (a holds a box: a list of three numbers; the data is none of these lists) -/
inductive Off (a : Addr) : V → Prop
  | non : Off a .non
  | bl (b : Bool) : Off a (.bl b)
  | int (i : Int) : Off a (.int i)
  | str (x : PySem.Str) : Off a (.str x)
def spBox (K : PySem.W.Frag) : Sp := fun vs H Q _ => ∃ (a : Addr) (ns : List Int) (k : Nat), vs = [.ref a, .int k] ∧ SqL K H a (ns.map V.int) ∧ ns.length ≤ 63 ∧ k ≤ 100 ∧
  ∀ p H', Same H H' → H p = none → BoxN H' p 0 → Q (.ref p) H'
def spTake : Sp := fun vs H Q _ => ∃ (a : Addr) (m n : Int), vs = [.ref a, .int m] ∧ BoxN H a n ∧ n < 1000000000000 ∧ 0 < m ∧ m ≤ 1000000 ∧
  ∀ (r : Nat) H', (r : Int) < m → But a H H' → BoxN H' a (n + 1) → Q (.int r) H'
def spPick (K : PySem.W.Frag) : Sp := fun vs H Q _ => ∃ (a b : Addr) (n : Int) (xs : List V), vs = [.ref a, .ref b] ∧ BoxN H a n ∧ n < 1000000000000 ∧ SqL K H b xs ∧ a ≠ b ∧ 0 < xs.length ∧ xs.length ≤ 1000000 ∧
  ∀ (r : Nat) x H', xs[r]? = some x → But a H H' → BoxN H' a (n + 1) → Q x H'
def spMixed (K : PySem.W.Frag) : Sp := fun vs H Q _ => ∃ (a b : Addr) (n : Int) (xs : List V), vs = [.ref a, .ref b] ∧ BoxN H a n ∧ Sq K H b xs ∧ a ≠ b ∧ xs.length ≤ 1000000 ∧ n + xs.length < 1000000000000 ∧
  ∀ p (ys : List V) H', ys.Perm xs → H p = none → p ≠ a → H' p = some (.lst ys) → But a H H' → BoxN H' a (n + xs.length) → Q (.ref p) H'
theorem pick_perm' {α : Type} : ∀ (l : List α) (i : Nat) (h : i < l.length), (l[i] :: l.eraseIdx i).Perm l
  | x :: r, 0, _ => List.Perm.refl _
  | x :: r, i + 1, h => ((List.Perm.swap x (r[i]'(Nat.lt_of_succ_lt_succ h)) (r.eraseIdx i)).trans ((pick_perm' r i (Nat.lt_of_succ_lt_succ h)).cons x))
theorem atI_nat' {xs : List V} {j : Nat} {v : V} (h : xs[j]? = some v) : atI xs (j : Nat) = some v := atI_nat h
end Shf

namespace Shf
/-! ### lists that stand in order -/
theorem asc_ext {α : Type} {lt : α → α → Prop} (as : ∀ a b, lt a b → ¬ lt b a) : ∀ {l1 l2 : List α}, l1.Pairwise lt → l2.Pairwise lt → (∀ x, x ∈ l1 ↔ x ∈ l2) → l1 = l2
  | [], [], _, _, _ => rfl
  | [], b :: r, _, _, h => absurd ((h b).mpr (List.mem_cons_self ..)) (by simp)
  | a :: r, [], _, _, h => absurd ((h a).mp (List.mem_cons_self ..)) (by simp)
  | a :: r, b :: q, h1, h2, h => by
    have ir : ∀ x, ¬ lt x x := fun x y => as x x y y
    obtain ⟨p1, p2⟩ := List.pairwise_cons.mp h1
    obtain ⟨q1, q2⟩ := List.pairwise_cons.mp h2
    have e : a = b := by
      rcases List.mem_cons.mp ((h a).mp (List.mem_cons_self ..)) with e | e
      · exact e
      · rcases List.mem_cons.mp ((h b).mpr (List.mem_cons_self ..)) with e' | e'
        · exact e'.symm
        · exact absurd (q1 a e) (as _ _ (p1 b e'))
    subst e
    refine congrArg (a :: ·) (asc_ext as p2 q2 fun x => ⟨fun hx => ?_, fun hx => ?_⟩)
    · rcases List.mem_cons.mp ((h x).mp (List.mem_cons_of_mem _ hx)) with e | e
      · subst e
        exact absurd (p1 x hx) (ir x)
      · exact e
    · rcases List.mem_cons.mp ((h x).mpr (List.mem_cons_of_mem _ hx)) with e | e
      · subst e
        exact absurd (q1 x hx) (ir x)
      · exact e
def srt (l : List Nat) : List Nat := l.mergeSort fun a b => decide (a ≤ b)
theorem srt_perm (l : List Nat) : (srt l).Perm l := List.mergeSort_perm ..
theorem srt_le (l : List Nat) : (srt l).Pairwise (· ≤ ·) := by
  have h := List.pairwise_mergeSort (le := fun a b : Nat => decide (a ≤ b)) (fun a b c => by simp; omega) (fun a b => by simp; omega) l
  exact h.imp fun h => by simpa using h
theorem srt_uni {l l' : List Nat} (p : l'.Perm l) (h : l'.Pairwise (· ≤ ·)) : l' = srt l := List.Perm.eq_of_pairwise (le := (· ≤ ·)) (fun a b _ _ h1 h2 => Nat.le_antisymm h1 h2) h (srt_le l) (p.trans (srt_perm l).symm)
theorem lt_of_le_nd {l : List Nat} (h : l.Pairwise (· ≤ ·)) (n : l.Nodup) : l.Pairwise (· < ·) := by
  refine (List.Pairwise.and h n).imp fun ⟨h1, h2⟩ => ?_
  exact Nat.lt_of_le_of_ne h1 h2
theorem srt_nd {l : List Nat} (n : l.Nodup) : (srt l).Pairwise (· < ·) := lt_of_le_nd (srt_le l) ((srt_perm l).nodup_iff.mpr n)
theorem srt_mem {l : List Nat} {x : Nat} : x ∈ srt l ↔ x ∈ l := (srt_perm l).mem_iff
theorem asc_nat {l1 l2 : List Nat} (h1 : l1.Pairwise (· < ·)) (h2 : l2.Pairwise (· < ·)) (h : ∀ x, x ∈ l1 ↔ x ∈ l2) : l1 = l2 := asc_ext (fun a b h => by omega) h1 h2 h
/-- sorted, of numbers as ints -/
theorem sorted_nat {l : List Nat} {ns : List Int} (p : ns.Perm (l.map fun x : Nat => (x : Int))) (h : ns.Pairwise (· ≤ ·)) : ns = (srt l).map fun x : Nat => (x : Int) := by
  refine List.Perm.eq_of_pairwise (le := (· ≤ ·)) (fun a b _ _ h1 h2 => Int.le_antisymm h1 h2) h ?_ (p.trans ((srt_perm l).symm.map _))
  rw [List.pairwise_map]
  exact (srt_le l).imp fun h => by omega
/-! ### what hangs together -/
inductive Rch (E : Nat → Nat → Prop) (a : Nat) : Nat → Prop
  | refl : Rch E a a
  | step {b c : Nat} : Rch E a b → E b c → Rch E a c
theorem Rch.trans {E : Nat → Nat → Prop} {a b c : Nat} (h : Rch E a b) (g : Rch E b c) : Rch E a c := by
  induction g with
  | refl => exact h
  | step _ e ih => exact .step ih e
theorem Rch.one {E : Nat → Nat → Prop} {a b : Nat} (e : E a b) : Rch E a b := .step .refl e
theorem Rch.symm {E : Nat → Nat → Prop} (s : ∀ a b, E a b → E b a) {a b : Nat} (h : Rch E a b) : Rch E b a := by
  induction h with
  | refl => exact .refl
  | step _ e ih => exact (Rch.one (s _ _ e)).trans ih
theorem Rch.mono {E F : Nat → Nat → Prop} (s : ∀ a b, E a b → F a b) {a b : Nat} (h : Rch E a b) : Rch F a b := by
  induction h with
  | refl => exact .refl
  | step _ e ih => exact .step ih (s _ _ e)
theorem Rch.lt {E : Nat → Nat → Prop} {n a b : Nat} (s : ∀ a b, E a b → b < n) (ha : a < n) (h : Rch E a b) : b < n := by
  induction h with
  | refl => exact ha
  | step _ e _ => exact s _ _ e
/-- whoever is closed holds all that hangs on one of it -/
theorem Rch.closed {E : Nat → Nat → Prop} {S : Nat → Prop} {a b : Nat} (hc : ∀ x y, S x → E x y → S y) (ha : S a) (h : Rch E a b) : S b := by
  induction h with
  | refl => exact ha
  | step _ e ih => exact hc _ _ ih e
open Classical in
noncomputable def fstOf (n : Nat) (E : Nat → Nat → Prop) : List Nat := (List.range n).filter fun f => decide (∀ g, g < f → ¬ Rch E g f)
open Classical in
noncomputable def hangOf (n : Nat) (E : Nat → Nat → Prop) (f : Nat) : List Nat := (List.range n).filter fun c => decide (Rch E f c)
noncomputable def partsOf (n : Nat) (E : Nat → Nat → Prop) : List (List Nat) := (fstOf n E).map (hangOf n E)
theorem hang_mem {n : Nat} {E : Nat → Nat → Prop} {f c : Nat} : c ∈ hangOf n E f ↔ c < n ∧ Rch E f c := by
  unfold hangOf
  rw [List.mem_filter, List.mem_range, @decide_eq_true_eq _ (_)]
theorem hang_asc (n : Nat) (E : Nat → Nat → Prop) (f : Nat) : (hangOf n E f).Pairwise (· < ·) := List.Pairwise.filter _ List.pairwise_lt_range
theorem hang_srt {n : Nat} {E : Nat → Nat → Prop} {f : Nat} {l : List Nat} (nd : l.Nodup) (hm : ∀ c, c ∈ l ↔ c < n ∧ Rch E f c) : srt l = hangOf n E f :=
  asc_nat (srt_nd nd) (hang_asc n E f) fun x => by rw [srt_mem, hm, hang_mem]
theorem parts_congr {n : Nat} {E F : Nat → Nat → Prop} (h : ∀ a b, E a b ↔ F a b) : partsOf n E = partsOf n F := by
  have e : E = F := by
    funext a b
    exact propext (h a b)
  rw [e]
/-! #### names that fall -/
def nstep (nm : List Nat) (p : Nat × Nat) : List Nat := (nm.set p.1 (min (nm.getD p.1 0) (nm.getD p.2 0))).set p.2 (min (nm.getD p.1 0) (nm.getD p.2 0))
def nround (L : List (Nat × Nat)) (nm : List Nat) : List Nat := L.foldl nstep nm
def nrounds (L : List (Nat × Nat)) (n : Nat) : Nat → List Nat
  | 0 => List.range n
  | r + 1 => nround L (nrounds L n r)
def Lk (L : List (Nat × Nat)) (a b : Nat) : Prop := (a, b) ∈ L ∨ (b, a) ∈ L
theorem Lk.symm {L : List (Nat × Nat)} : ∀ a b, Lk L a b → Lk L b a := fun _ _ h => Or.symm h
/-- names: each at most the cell, and hanging on it -/
structure NOk (n : Nat) (E : Nat → Nat → Prop) (nm : List Nat) : Prop where
  len : nm.length = n
  le : ∀ c, c < n → nm.getD c 0 ≤ c
  on : ∀ c, c < n → Rch E (nm.getD c 0) c
theorem getD_set {l : List Nat} {i j v : Nat} (hi : i < l.length) : (l.set i v).getD j 0 = if i = j then v else l.getD j 0 := by
  rw [List.getD_eq_getElem?_getD, List.getElem?_set]
  by_cases e : i = j
  · rw [if_pos e, if_pos e, if_pos hi]
    rfl
  · rw [if_neg e, if_neg e, List.getD_eq_getElem?_getD]
theorem nstep_at {nm : List Nat} {p : Nat × Nat} (h1 : p.1 < nm.length) (h2 : p.2 < nm.length) (c : Nat) :
    (nstep nm p).getD c 0 = if p.1 = c ∨ p.2 = c then min (nm.getD p.1 0) (nm.getD p.2 0) else nm.getD c 0 := by
  unfold nstep
  rw [getD_set (by rw [List.length_set]; exact h2), getD_set h1]
  by_cases e : p.2 = c
  · rw [if_pos e, if_pos (.inr e)]
  · rw [if_neg e]
    by_cases e2 : p.1 = c
    · rw [if_pos e2, if_pos (.inl e2)]
    · rw [if_neg e2, if_neg (by rintro (z | z) <;> contradiction)]
theorem nstep_len (nm : List Nat) (p : Nat × Nat) : (nstep nm p).length = nm.length := by
  unfold nstep
  rw [List.length_set, List.length_set]
/-- a name that is the least that hangs on it -/
def Least (E : Nat → Nat → Prop) (m : Nat) : Prop := ∀ g, g < m → ¬ Rch E g m
theorem nstep_ok {n : Nat} {E : Nat → Nat → Prop} {nm : List Nat} {p : Nat × Nat} (s : ∀ a b, E a b → E b a) (h1 : p.1 < n) (h2 : p.2 < n) (e : E p.1 p.2) (h : NOk n E nm) : NOk n E (nstep nm p) := by
  have l1 : p.1 < nm.length := by rw [h.len]; exact h1
  have l2 : p.2 < nm.length := by rw [h.len]; exact h2
  have le1 := h.le _ h1
  have le2 := h.le _ h2
  have r12 : Rch E (min (nm.getD p.1 0) (nm.getD p.2 0)) p.1 ∧ Rch E (min (nm.getD p.1 0) (nm.getD p.2 0)) p.2 := by
    by_cases z : nm.getD p.1 0 ≤ nm.getD p.2 0
    · rw [Nat.min_eq_left z]
      exact ⟨h.on _ h1, .step (h.on _ h1) e⟩
    · rw [Nat.min_eq_right (by omega)]
      exact ⟨.step (h.on _ h2) (s _ _ e), h.on _ h2⟩
  refine ⟨by rw [nstep_len, h.len], fun c hc => ?_, fun c hc => ?_⟩
  · rw [nstep_at l1 l2]
    by_cases z : p.1 = c ∨ p.2 = c
    · rw [if_pos z]
      rcases z with rfl | rfl
      · exact Nat.le_trans (Nat.min_le_left ..) le1
      · exact Nat.le_trans (Nat.min_le_right ..) le2
    · rw [if_neg z]
      exact h.le c hc
  · rw [nstep_at l1 l2]
    by_cases z : p.1 = c ∨ p.2 = c
    · rw [if_pos z]
      rcases z with rfl | rfl
      · exact r12.1
      · exact r12.2
    · rw [if_neg z]
      exact h.on c hc
theorem nstep_stay {n : Nat} {E : Nat → Nat → Prop} {nm : List Nat} {p : Nat × Nat} {m c : Nat} (s : ∀ a b, E a b → E b a) (h1 : p.1 < n) (h2 : p.2 < n) (e : E p.1 p.2) (h : NOk n E nm) (hm : Least E m) (hc : c < n) (hn : nm.getD c 0 = m) :
    (nstep nm p).getD c 0 = m := by
  have l1 : p.1 < nm.length := by rw [h.len]; exact h1
  have l2 : p.2 < nm.length := by rw [h.len]; exact h2
  have ok := nstep_ok s h1 h2 e h
  have r := ok.on c hc
  have rm : Rch E m c := hn ▸ h.on c hc
  have ge : m ≤ (nstep nm p).getD c 0 := by
    refine Nat.le_of_not_lt fun z => hm _ z (r.trans (rm.symm s))
  have le : (nstep nm p).getD c 0 ≤ m := by
    rw [nstep_at l1 l2]
    by_cases z : p.1 = c ∨ p.2 = c
    · rw [if_pos z]
      rcases z with rfl | rfl
      · rw [hn]; exact Nat.min_le_left ..
      · rw [hn]; exact Nat.min_le_right ..
    · rw [if_neg z]
      exact Nat.le_of_eq hn
  exact Nat.le_antisymm le ge
theorem nround_ok {n : Nat} {E : Nat → Nat → Prop} (s : ∀ a b, E a b → E b a) : ∀ {L : List (Nat × Nat)} {nm : List Nat}, (∀ p ∈ L, p.1 < n ∧ p.2 < n ∧ E p.1 p.2) → NOk n E nm →
    NOk n E (nround L nm) ∧ ∀ m c, Least E m → c < n → nm.getD c 0 = m → (nround L nm).getD c 0 = m
  | [], nm, _, h => ⟨h, fun _ _ _ _ e => e⟩
  | p :: L, nm, hL, h => by
    obtain ⟨a1, a2, a3⟩ := hL p (List.mem_cons_self ..)
    obtain ⟨b1, b2⟩ := nround_ok s (L := L) (fun q hq => hL q (List.mem_cons_of_mem _ hq)) (nstep_ok s a1 a2 a3 h)
    exact ⟨b1, fun m c hm hc e => b2 m c hm hc (nstep_stay s a1 a2 a3 h hm hc e)⟩
theorem nround_hit {n : Nat} {E : Nat → Nat → Prop} (s : ∀ a b, E a b → E b a) {L : List (Nat × Nat)} {nm : List Nat} (hL : ∀ p ∈ L, p.1 < n ∧ p.2 < n ∧ E p.1 p.2) (h : NOk n E nm) {m a b : Nat} (hm : Least E m) (ha : a < n) (hb : b < n)
    (e : nm.getD a 0 = m) (hl : (a, b) ∈ L ∨ (b, a) ∈ L) : (nround L nm).getD b 0 = m := by
  have go : ∀ p : Nat × Nat, p ∈ L → (p = (a, b) ∨ p = (b, a)) → (nround L nm).getD b 0 = m := fun p hp hpe => by
    obtain ⟨L1, L2, rfl⟩ := List.append_of_mem hp
    have h1 := nround_ok s (L := L1) (fun q hq => hL q (List.mem_append_left _ hq)) h
    obtain ⟨a1, a2, a3⟩ := hL p (List.mem_append_right _ (List.mem_cons_self ..))
    have e1 := h1.2 m a hm ha e
    have ok2 := nstep_ok s a1 a2 a3 h1.1
    have e2 := nstep_stay s a1 a2 a3 h1.1 hm ha e1
    have e3 : (nstep (nround L1 nm) p).getD b 0 = m := by
      have l1 : p.1 < (nround L1 nm).length := by rw [h1.1.len]; exact a1
      have l2 : p.2 < (nround L1 nm).length := by rw [h1.1.len]; exact a2
      rw [nstep_at l1 l2] at e2 ⊢
      rcases hpe with rfl | rfl
      · rw [if_pos (.inl rfl)] at e2
        rw [if_pos (.inr rfl)]
        exact e2
      · rw [if_pos (.inr rfl)] at e2
        rw [if_pos (.inl rfl)]
        exact e2
    have h3 := nround_ok s (L := L2) (fun q hq => hL q (List.mem_append_right _ (List.mem_cons_of_mem _ hq))) ok2
    have z := h3.2 m b hm hb e3
    have q : nround (L1 ++ p :: L2) nm = nround L2 (nstep (nround L1 nm) p) := by
      unfold nround
      rw [List.foldl_append, List.foldl_cons]
    rw [q]
    exact z
  rcases hl with hl | hl
  · exact go _ hl (.inl rfl)
  · exact go _ hl (.inr rfl)
theorem edge_out {E : Nat → Nat → Prop} {S : Nat → Prop} {m c : Nat} (h : Rch E m c) (hm : S m) (hc : ¬ S c) : ∃ a b, Rch E m a ∧ S a ∧ ¬ S b ∧ E a b := by
  refine Classical.byContradiction fun z => ?_
  have cl : ∀ x, Rch E m x → S x := fun x hx => by
    induction hx with
    | refl => exact hm
    | @step b c hb e ih => exact Classical.byContradiction fun q => z ⟨b, c, hb, ih, q, e⟩
  exact hc (cl c h)
theorem nrounds_ok {n : Nat} {L : List (Nat × Nat)} (hL : ∀ p ∈ L, p.1 < n ∧ p.2 < n) : ∀ r, NOk n (Lk L) (nrounds L n r) ∧ ∀ m, m < n → Least (Lk L) m →
    (∀ c, c < n → Rch (Lk L) m c → (nrounds L n r).getD c 0 = m) ∨ r + 1 ≤ ((List.range n).filter fun c => decide ((nrounds L n r).getD c 0 = m)).length
  | 0 => by
    have g : ∀ c, c < n → (List.range n).getD c 0 = c := fun c hc => by
      rw [List.getD_eq_getElem?_getD, List.getElem?_range hc]
      rfl
    refine ⟨⟨List.length_range, fun c hc => Nat.le_of_eq (g c hc), fun c hc => ?_⟩, fun m hm _ => .inr ?_⟩
    · show Rch _ ((List.range n).getD c 0) c
      rw [g c hc]
      exact .refl
    · have : m ∈ (List.range n).filter fun c => decide ((nrounds L n 0).getD c 0 = m) := by
        rw [List.mem_filter, List.mem_range, decide_eq_true_eq]
        exact ⟨hm, g m hm⟩
      exact List.length_pos_of_mem this
  | r + 1 => by
    obtain ⟨ok, h⟩ := nrounds_ok hL r
    have hL2 : ∀ p ∈ L, p.1 < n ∧ p.2 < n ∧ Lk L p.1 p.2 := fun p hp => ⟨(hL p hp).1, (hL p hp).2, .inl hp⟩
    obtain ⟨ok2, st⟩ := nround_ok Lk.symm hL2 ok
    refine ⟨ok2, fun m hm lm => ?_⟩
    have own : (nrounds L n r).getD m 0 = m := by
      have y := ok.le m hm
      have o := ok.on m hm
      refine Nat.le_antisymm y (Nat.le_of_not_lt fun z => lm _ z o)
    rcases h m hm lm with h | h
    · exact .inl fun c hc hr => st m c lm hc (h c hc hr)
    · by_cases all : ∀ c, c < n → Rch (Lk L) m c → (nrounds L n r).getD c 0 = m
      · exact .inl fun c hc hr => st m c lm hc (all c hc hr)
      · refine .inr ?_
        have ex : ∃ c, c < n ∧ Rch (Lk L) m c ∧ (nrounds L n r).getD c 0 ≠ m := Classical.byContradiction fun z => all fun c hc hr => Classical.byContradiction fun q => z ⟨c, hc, hr, q⟩
        obtain ⟨c, hc, hr, hne⟩ := ex
        have inR : ∀ x, Rch (Lk L) m x → x < n := fun x hx => Rch.lt (fun a b e => by rcases e with e | e; exact (hL _ e).2; exact (hL _ e).1) hm hx
        obtain ⟨a, b, ra, sa, nb, e⟩ := edge_out (S := fun x => (nrounds L n r).getD x 0 = m) hr own hne
        have ha := inR a ra
        have hb := inR b (.step ra e)
        have hit := nround_hit Lk.symm hL2 ok lm ha hb sa e
        have sub : ((List.range n).filter fun c => decide ((nrounds L n r).getD c 0 = m)) ++ [b] ⊆ (List.range n).filter fun c => decide ((nrounds L n (r + 1)).getD c 0 = m) := by
          intro x hx
          rcases List.mem_append.mp hx with hx | hx
          · rw [List.mem_filter, List.mem_range, decide_eq_true_eq] at hx ⊢
            exact ⟨hx.1, st m x lm hx.1 hx.2⟩
          · rw [List.mem_singleton] at hx
            subst hx
            rw [List.mem_filter, List.mem_range, decide_eq_true_eq]
            exact ⟨hb, hit⟩
        have nd : (((List.range n).filter fun c => decide ((nrounds L n r).getD c 0 = m)) ++ [b]).Nodup := by
          rw [List.nodup_append]
          refine ⟨List.Pairwise.filter _ List.nodup_range, by simp, fun x hx y hy => ?_⟩
          rw [List.mem_singleton] at hy
          subst hy
          rw [List.mem_filter, decide_eq_true_eq] at hx
          rintro rfl
          exact nb hx.2
        have z := List.Nodup.length_le_of_subset nd sub
        rw [List.length_append] at z
        have : [b].length = 1 := rfl
        omega
theorem names_least {n : Nat} {L : List (Nat × Nat)} (hL : ∀ p ∈ L, p.1 < n ∧ p.2 < n) {m c : Nat} (hm : m < n) (lm : Least (Lk L) m) (hc : c < n) (hr : Rch (Lk L) m c) : (nrounds L n n).getD c 0 = m := by
  obtain ⟨_, h⟩ := nrounds_ok hL n
  rcases h m hm lm with h | h
  · exact h c hc hr
  · have z := List.length_filter_le (fun c => decide ((nrounds L n n).getD c 0 = m)) (List.range n)
    rw [List.length_range] at z
    omega
theorem least_ex {E : Nat → Nat → Prop} (s : ∀ a b, E a b → E b a) : ∀ c, ∃ m, m ≤ c ∧ Least E m ∧ Rch E m c := by
  intro c
  induction c using Nat.strongRecOn with
  | ind c ih =>
    by_cases h : Least E c
    · exact ⟨c, Nat.le_refl _, h, .refl⟩
    · have : ∃ g, g < c ∧ Rch E g c := Classical.byContradiction fun z => h fun g hg hr => z ⟨g, hg, hr⟩
      obtain ⟨g, hg, hr⟩ := this
      obtain ⟨m, h1, h2, h3⟩ := ih g hg
      exact ⟨m, by omega, h2, h3.trans hr⟩
theorem names_iff {n : Nat} {L : List (Nat × Nat)} (hL : ∀ p ∈ L, p.1 < n ∧ p.2 < n) {f c : Nat} (hf : f < n) (lf : Least (Lk L) f) (hc : c < n) : (nrounds L n n).getD c 0 = f ↔ Rch (Lk L) f c := by
  refine ⟨fun e => ?_, fun h => names_least hL hf lf hc h⟩
  have o := (nrounds_ok hL n).1.on c hc
  rw [e] at o
  exact o
theorem names_own {n : Nat} {L : List (Nat × Nat)} (hL : ∀ p ∈ L, p.1 < n ∧ p.2 < n) {f : Nat} (hf : f < n) : (nrounds L n n).getD f 0 = f ↔ Least (Lk L) f := by
  refine ⟨fun e => ?_, fun h => names_least hL hf h hf .refl⟩
  obtain ⟨m, h1, h2, h3⟩ := least_ex Lk.symm (E := Lk L) f
  have z := names_least hL (by omega) h2 hf h3
  rw [z] at e
  subst e
  exact h2
/-- the law's parts -/
def lawParts (n : Nat) (nm : List Nat) : List (List Nat) := ((List.range n).filter fun f => decide (nm.getD f 0 = f)).map fun f => (List.range n).filter fun c => decide (nm.getD c 0 = f)
theorem lawParts_eq {n : Nat} {L : List (Nat × Nat)} (hL : ∀ p ∈ L, p.1 < n ∧ p.2 < n) : lawParts n (nrounds L n n) = partsOf n (Lk L) := by
  unfold lawParts partsOf
  have e1 : ((List.range n).filter fun f => decide ((nrounds L n n).getD f 0 = f)) = fstOf n (Lk L) := by
    unfold fstOf
    refine List.filter_congr fun f hf => ?_
    rw [List.mem_range] at hf
    have z := names_own hL hf
    exact decide_eq_decide.mpr z
  rw [e1]
  refine List.map_congr_left fun f hf => ?_
  unfold fstOf at hf
  rw [List.mem_filter, List.mem_range, @decide_eq_true_eq _ (_)] at hf
  unfold hangOf
  refine List.filter_congr fun c hc => ?_
  rw [List.mem_range] at hc
  exact decide_eq_decide.mpr (names_iff hL hf.1 hf.2 hc)
/-! #### neighbours -/
def nbL (L : List (Nat × Nat)) (i : Nat) : List Nat := L.flatMap fun p => (if p.1 = i then [p.2] else []) ++ (if p.2 = i then [p.1] else [])
def rowsOf (n : Nat) (L : List (Nat × Nat)) : List (List Nat) := (List.range n).map fun i => srt (nbL L i)
theorem nb_mem {L : List (Nat × Nat)} {i c : Nat} : c ∈ nbL L i ↔ Lk L i c := by
  unfold nbL Lk
  rw [List.mem_flatMap]
  constructor
  · rintro ⟨p, hp, h⟩
    rcases List.mem_append.mp h with h | h
    · by_cases e : p.1 = i
      · rw [if_pos e, List.mem_singleton] at h
        subst h e
        exact .inl hp
      · rw [if_neg e] at h
        simp at h
    · by_cases e : p.2 = i
      · rw [if_pos e, List.mem_singleton] at h
        subst h e
        exact .inr hp
      · rw [if_neg e] at h
        simp at h
  · rintro (h | h)
    · exact ⟨_, h, List.mem_append_left _ (by rw [if_pos rfl]; exact List.mem_singleton.mpr rfl)⟩
    · exact ⟨_, h, List.mem_append_right _ (by rw [if_pos rfl]; exact List.mem_singleton.mpr rfl)⟩
theorem rowsOf_len (n : Nat) (L : List (Nat × Nat)) : (rowsOf n L).length = n := by
  unfold rowsOf
  rw [List.length_map, List.length_range]
theorem rowsOf_at {n i : Nat} {L : List (Nat × Nat)} (h : i < n) : (rowsOf n L)[i]? = some (srt (nbL L i)) := by
  unfold rowsOf
  rw [List.getElem?_map, List.getElem?_range h]
  rfl
/-- from a row to the next -/
def Rw (rs : List (List Nat)) (a b : Nat) : Prop := b ∈ rs.getD a []
theorem rowsOf_rw {n : Nat} {L : List (Nat × Nat)} (hL : ∀ p ∈ L, p.1 < n ∧ p.2 < n) (a b : Nat) : Rw (rowsOf n L) a b ↔ Lk L a b := by
  unfold Rw
  by_cases h : a < n
  · rw [List.getD_eq_getElem?_getD, rowsOf_at h]
    show b ∈ srt (nbL L a) ↔ _
    rw [srt_mem, nb_mem]
  · rw [List.getD_eq_getElem?_getD, List.getElem?_eq_none (by rw [rowsOf_len]; omega)]
    constructor
    · intro z
      simp at z
    · rintro (z | z)
      · exact absurd (hL _ z).1 h
      · exact absurd (hL _ z).2 h
end Shf

namespace L2
open PySem PySem.Spec PyProof.Rows
/-! ### d.update(e): dicts of ints or texts -/
def rUpdK : V → List V → Hp → VK → Prop := fun x vs H Q => ∃ (a b : Addr) (kvs more : List (Key × V)), x = .ref a ∧ vs = [.ref b] ∧ a ≠ b ∧ H a = some (.dK kvs) ∧ H b = some (.dK more) ∧ kvs.length + more.length ≤ sizeLine ∧ Q .non (upd H a (.dK (mergeK kvs more)))
theorem mt_updateK {X : Cx} : MtR X "dict.update" rUpdK := by
  intro pins s σ H x vs v us Q I rx rv h
  obtain ⟨a, b, kvs, more, rfl, rfl, nab, ea, eb, hz, q⟩ := h
  obtain rfl : v = Value.ref a := rx
  obtain ⟨u, rfl, ru⟩ := rv.one
  obtain rfl : u = Value.ref b := ru
  obtain ⟨z1, hd1, vs1, rel1, dd1⟩ := dk_of I.hok ea
  obtain ⟨z2, hd2, vs2, rel2, dd2⟩ := dk_of I.hok eb
  refine call_meetsIn PySem.F.slot_dict_update dd1.typeIs PySem.F.entry_dict_update (PySem.F.args_dict_update_2 _ _) (meets_dict_update (mixKind X.prog X.w) a b nab hd2)
    ⟨vs1, vs2, dd1, dd2, (by rw [← rel1.length, ← rel2.length]; exact hz), fun h' dd' _ hs => ?_⟩
  have he : ∃ q, h'.get? a = some q := let ⟨q, _, _, hq, _⟩ := dd'; ⟨q, hq⟩
  have hl : (mergeK kvs more).length ≤ sizeLine := Nat.le_trans (length_mergeK more kvs) hz
  exact ⟨.non, _, d_write (t' := s.toks) I (by rw [ea]; exact True.intro) hs he (dk_new hl hd1 (KV.merge rel2 rel1) dd'), rfl, q⟩
/-! ### {k: v for ..}: the new dict apart from all else -/
def DcN (R : Nat → List (Key × V) → Hp → Prop) (D : Addr) (i : Nat) : Hp → Prop := fun H => ∃ kvs G, G D = none ∧ R i kvs G ∧ H = upd G D (.dK kvs)
theorem dc_put {R : Nat → List (Key × V) → Hp → Prop} {D : Addr} {i : Nat} {kvs : List (Key × V)} {G : Hp} {k : Key} {z : V} (hG : G D = none) (hl : kvs.length < sizeLine) (h : R i (putK kvs k z) G) :
    ∃ kvs' k', kV k = kV k' ∧ (upd G D (.dK kvs)) D = some (.dK kvs') ∧ kvs'.length < sizeLine ∧ DcN R D i (upd (upd G D (.dK kvs)) D (.dK (putK kvs' k' z))) :=
  ⟨kvs, k, rfl, upd_same, hl, _, G, hG, h, upd_upd⟩
theorem dc_w {J : It} {n : Nat} {Gd : Hp → Prop} {Y : Nat → Hp → V → Hp → Prop} (w : Walk J n Gd Y) {g : TG} {tt : TT} {tk tv : TE} {vs : List Nat} {σ : L2.St} {H : Hp} {D : Addr} {Qd : Hp → Prop} (R : Nat → List (Key × V) → Hp → Prop)
    (hD : H D = none) (h0 : R 0 [] H) (hG : ∀ i kvs G, i ≤ n → G D = none → R i kvs G → Gd (upd G D (.dK kvs)))
    (hs : ∀ i x kvs G H', i < n → G D = none → R i kvs G → Y i (upd G D (.dK kvs)) x H' → g x (wipe σ vs) H' fun σ2 H2 => wipe σ2 vs = wipe σ vs ∧ tt σ2 H2 fun b H3 =>
      if b = true then tk σ2 H3 fun y H4 => tv σ2 H4 fun z H5 => ∃ kvs k, y = kV k ∧ H5 D = some (.dK kvs) ∧ kvs.length < sizeLine ∧ DcN R D (i + 1) (upd H5 D (.dK (putK kvs k z))) else DcN R D (i + 1) H3)
    (hd : ∀ kvs G, G D = none → R n kvs G → Qd (upd G D (.dK kvs))) :
    ∃ W : Nat → Nat → Hp → Prop, (∃ m, W 0 m (upd H D (.dK []))) ∧ ∀ i m H, W i m H →
      (J.stop i H ∧ Qd H) ∨ (J.go i H ∧ ∃ Nx : Hp → Prop, (∀ H', Nx H' → ∃ m', m' < m ∧ W (i + 1) m' H') ∧ ∀ x H', J.yld i H x H' → g x (wipe σ vs) H' fun σ2 H2 => wipe σ2 vs = wipe σ vs ∧ tt σ2 H2 fun b H3 =>
        if b = true then tk σ2 H3 fun y H4 => tv σ2 H4 fun z H5 => ∃ kvs k, y = kV k ∧ H5 D = some (.dK kvs) ∧ kvs.length < sizeLine ∧ Nx (upd H5 D (.dK (putK kvs k z))) else Nx H3) := by
  refine ⟨fun i m H => m = n - i ∧ i ≤ n ∧ DcN R D i H, ⟨n, by simp, Nat.zero_le _, [], H, hD, h0, rfl⟩, ?_⟩
  rintro i m H1 ⟨rfl, hi, p⟩
  obtain ⟨kvs, G, hGD, r, rfl⟩ := p
  have q := hG i kvs G hi hGD r
  by_cases hlt : i < n
  · exact .inr ⟨w.goes i _ hlt q, DcN R D (i + 1), fun H' p' => ⟨n - (i + 1), by omega, rfl, hlt, p'⟩, fun x H' y => hs i x kvs G H' hlt hGD r (w.yields i _ x H' hlt q y)⟩
  · have e : i = n := by omega
    subst e
    exact .inl ⟨w.stops _ q, hd kvs G hGD r⟩
theorem same_updD {G : Hp} {D : Addr} {o : HO} (hG : G D = none) : Same G (upd G D o) := same_new hG
/-- {.. for x in a list or a tuple} -/
theorem dc_sq {K : PySem.W.Frag} {a : Addr} {xs : List V} {g : TG} {tt : TT} {tk tv : TE} {vs : List Nat} {σ : L2.St} {H : Hp} {Q : VK} (hS : Sq K H a xs) (R : Nat → List (Key × V) → Hp → Prop) (h0 : R 0 [] H) (hR : ∀ i kvs G, R i kvs G → Same H G)
    (hs : ∀ i x kvs G D, xs[i]? = some x → G D = none → R i kvs G → g x (wipe σ vs) (upd G D (.dK kvs)) fun σ2 H2 => wipe σ2 vs = wipe σ vs ∧ tt σ2 H2 fun b H3 =>
      if b = true then tk σ2 H3 fun y H4 => tv σ2 H4 fun z H5 => ∃ kvs k, y = kV k ∧ H5 D = some (.dK kvs) ∧ kvs.length < sizeLine ∧ DcN R D (i + 1) (upd H5 D (.dK (putK kvs k z))) else DcN R D (i + 1) H3)
    (hd : ∀ D kvs G, G D = none → R xs.length kvs G → Q (.ref D) (upd G D (.dK kvs))) (tl : TE) (ht : ∀ R' : V → Hp → Prop, R' (.ref a) H → tl σ H R') : tDc (iSqW K tl) g tt tk tv vs σ H Q := by
  refine ht _ ⟨a, xs, rfl, ?_⟩
  rcases hS with hS | hS
  · refine .inl ⟨hS, fun D hD => dc_w walk_sqL R hD h0 (fun i kvs G _ hG r => (same_updD hG).seq ((hR i kvs G r).seq hS)) (fun i x kvs G H' hi hG r y => ?_) (fun kvs G hG r => hd D kvs G hG r)⟩
    obtain ⟨rfl, hx⟩ := y
    exact hs i x kvs G D hx hG r
  · refine .inr ⟨hS, fun D hD => dc_w walk_sqT R hD h0 (fun i kvs G _ hG r => sqt_same (same_updD hG) (sqt_same (hR i kvs G r) hS)) (fun i x kvs G H' hi hG r y => ?_) (fun kvs G hG r => hd D kvs G hG r)⟩
    obtain ⟨rfl, hx⟩ := y
    exact hs i x kvs G D hx hG r
/-- loops whose list or tuple stays, whatever else changes -/
theorem for_sqT {K : PySem.W.Frag} {a : Addr} {xs : List V} {g : TG} {tb : TS} {D : Ends} {σ : L2.St} {H : Hp} (Pv : Nat → L2.St → Hp → Prop) (h0 : Pv 0 σ H) (hk : ∀ i σ' H', Pv i σ' H' → SqT K H' a xs)
    (hs : ∀ i x σ H, xs[i]? = some x → Pv i σ H → g x σ H fun σ2 H2 => tb { D with nx := Pv (i + 1), ct := Pv (i + 1), bk := D.nx } σ2 H2) (hd : ∀ σ H, Pv xs.length σ H → D.nx σ H) (tl : TE)
    (ht : ∀ R : V → Hp → Prop, R (.ref a) H → tl σ H R) : tFor (iSqW K tl) g tb D σ H := by
  refine ht _ ⟨a, xs, rfl, .inr ⟨hk 0 σ H h0, fun i m σ H => m = xs.length - i ∧ i ≤ xs.length ∧ Pv i σ H, ⟨xs.length, rfl, Nat.zero_le _, h0⟩, ?_⟩⟩
  rintro i m σ' H' ⟨rfl, hi, p⟩
  have gg := hk i σ' H' p
  by_cases hlt : i < xs.length
  · refine .inr ⟨⟨gg, hlt⟩, Pv (i + 1), fun σ2 H2 p2 => ⟨xs.length - (i + 1), by omega, rfl, hlt, p2⟩, fun x H2 y => ?_⟩
    obtain ⟨rfl, hx⟩ := y
    exact hs i x σ' H2 hx p
  · have e : i = xs.length := by omega
    subst e
    exact .inl ⟨⟨gg, Nat.le_refl _⟩, hd σ' H' p⟩
theorem for_sqL {K : PySem.W.Frag} {a : Addr} {xs : List V} {g : TG} {tb : TS} {D : Ends} {σ : L2.St} {H : Hp} (Pv : Nat → L2.St → Hp → Prop) (h0 : Pv 0 σ H) (hk : ∀ i σ' H', Pv i σ' H' → SqL K H' a xs)
    (hs : ∀ i x σ H, xs[i]? = some x → Pv i σ H → g x σ H fun σ2 H2 => tb { D with nx := Pv (i + 1), ct := Pv (i + 1), bk := D.nx } σ2 H2) (hd : ∀ σ H, Pv xs.length σ H → D.nx σ H) (tl : TE)
    (ht : ∀ R : V → Hp → Prop, R (.ref a) H → tl σ H R) : tFor (iSqW K tl) g tb D σ H := by
  refine ht _ ⟨a, xs, rfl, .inl ⟨hk 0 σ H h0, fun i m σ H => m = xs.length - i ∧ i ≤ xs.length ∧ Pv i σ H, ⟨xs.length, rfl, Nat.zero_le _, h0⟩, ?_⟩⟩
  rintro i m σ' H' ⟨rfl, hi, p⟩
  have gg := hk i σ' H' p
  by_cases hlt : i < xs.length
  · refine .inr ⟨⟨gg, hlt⟩, Pv (i + 1), fun σ2 H2 p2 => ⟨xs.length - (i + 1), by omega, rfl, hlt, p2⟩, fun x H2 y => ?_⟩
    obtain ⟨rfl, hx⟩ := y
    exact hs i x σ' H2 hx p
  · have e : i = xs.length := by omega
    subst e
    exact .inl ⟨⟨gg, Nat.le_refl _⟩, hd σ' H' p⟩
/-- keys alone count -/
theorem valV_isSome {kvs : List (Key × V)} {k : Key} : (valV kvs k).isSome = true ↔ k ∈ kvs.map (·.1) := by
  rw [← valV_any, List.any_eq_true]
  constructor
  · rintro ⟨p, hp, e⟩
    rw [decide_eq_true_eq] at e
    exact List.mem_map.mpr ⟨p, hp, e⟩
  · intro h
    obtain ⟨p, hp, e⟩ := List.mem_map.mp h
    exact ⟨p, hp, by rw [decide_eq_true_eq]; exact e⟩
theorem putK_keys {kvs : List (Key × V)} {k j : Key} {z : V} : j ∈ (putK kvs k z).map (·.1) ↔ j ∈ kvs.map (·.1) ∨ j = k := by
  rw [← valV_isSome, ← valV_isSome, valV_put]
  by_cases e : j = k
  · rw [if_pos e]
    simp [e]
  · rw [if_neg e]
    simp [e]
theorem merge_keys {j : Key} : ∀ {more kvs : List (Key × V)}, j ∈ (mergeK kvs more).map (·.1) ↔ j ∈ kvs.map (·.1) ∨ j ∈ more.map (·.1)
  | [], kvs => by show j ∈ kvs.map (·.1) ↔ _; simp
  | p :: r, kvs => by
    show j ∈ (mergeK (putK kvs p.1 p.2) r).map (·.1) ↔ _
    rw [merge_keys, putK_keys, List.map_cons, List.mem_cons]
    constructor
    · rintro ((h | h) | h)
      · exact .inl h
      · exact .inr (.inl h)
      · exact .inr (.inr h)
    · rintro (h | h | h)
      · exact .inl (.inl h)
      · exact .inl (.inr h)
      · exact .inr h
/-- a def that a slot holds, one of several, called; it may raise -/
def tCallAX (i : Nat) (S : Addr → Option Sp) (E : XK) (t : TA) : TE := fun σ H Q => ∃ f sp, σ[i]? = some (some (.ref f)) ∧ S f = some sp ∧ t σ H fun vs H1 => sp vs H1 Q E
theorem pe_callAX {X : Cx} {CX : CXT} {k i : Nat} {S : Addr → Option Sp} {E : XK} {x : PySem.Str} {p pos : Pos} {e : Expr} {es : List Expr} {t : TA}
    (A : ∀ f sp, S f = some sp → ∃ (fd : FuncData) (ps : List PySem.Str), FnOk X.prog X.w X.K X.mg X.base CX k f fd ps sp ∧ PySem.W.keepIn X.K (.ref f) = true ∧ Binds X.K fd ps [])
    (hr : Room k X.A) (hN : X.N[i]? = some x) (hv : Vis X.env.scope x) (hx : Passes CX X E) (ha : PA X (e :: es) t)
    (hdb : (x == ("__debug__" : PySem.Str)) = false := by decide) (hcd : (x == ("__classdict__" : PySem.Str)) = false := by decide)
    (he : starEach (e :: es) X.env = (false, eval e X.env) :: starEach es X.env := by rfl) (hpl : (backTo pos (starEach es X.env)).any (·.1) = false := by rfl) : PE X (.Call (.Name x p) (e :: es) [] pos) (tCallAX i S E t) := by
  refine ⟨fun pins s σ H Q I h => ?_⟩
  obtain ⟨f, sp, hs, hS, ht⟩ := h
  obtain ⟨fd, ps, F, hk, hb⟩ := A f sp hS
  refine (pe_callL (i := i) (f := f) (sp := sp) (dvs := []) (E := E) F hr hN hv hk hb .nil hx ha hdb hcd he hpl).run pins s σ H Q I ⟨hs, ?_⟩
  have e0 : (fun (vs : List V) (H1 : Hp) => sp (vs ++ []) H1 Q E) = fun vs H1 => sp vs H1 Q E := by
    funext vs H1
    rw [List.append_nil]
  show t σ H (fun vs H1 => sp (vs ++ []) H1 Q E)
  rw [e0]
  exact ht
end L2
namespace Shf
open PySem PySem.Spec PyProof.Rows L2
/-! ### links and rows as data -/
abbrev nI (l : List Nat) : List PyData := l.map fun x : Nat => .int (x : Int)
abbrev nV (l : List Nat) : List V := l.map fun x : Nat => .int (x : Int)
def lkD (L : List (Nat × Nat)) : PyData := .tuple (L.map fun p => .tuple [.int (p.1 : Int), .int (p.2 : Int)])
def rwD (rs : List (List Nat)) : PyData := .tuple (rs.map fun r => .tuple (nI r))
theorem dAll_nat {K : PySem.W.Frag} {H : Hp} : ∀ l : List Nat, DpAll K H (nV l) (nI l)
  | [] => .nil
  | i :: r => .cons (.int i) (dAll_nat r)
theorem dAll_nat_vs {K : PySem.W.Frag} {H : Hp} : ∀ {l : List Nat} {vs : List V}, DpAll K H vs (nI l) → vs = nV l
  | [], _, .nil => rfl
  | i :: r, _, .cons h t => by
    cases h
    exact congrArg (V.int (i : Int) :: ·) (dAll_nat_vs t)
theorem nI_inj : ∀ {l m : List Nat}, nI l = nI m → l = m
  | [], [], _ => rfl
  | [], _ :: _, h => by cases h
  | _ :: _, [], h => by cases h
  | a :: r, b :: q, h => by
    have h1 := List.cons.inj h
    have h2 : (a : Int) = b := PyData.int.inj h1.1
    rw [show a = b by omega, nI_inj h1.2]
theorem nV_eq (l : List Nat) : nV l = (l.map fun x : Nat => (x : Int)).map V.int := by
  rw [List.map_map]
  rfl
theorem upd_swap {H : Hp} {a b : Addr} {o u : HO} (h : a ≠ b) : upd (upd H a o) b u = upd (upd H b u) a o := by
  funext c
  by_cases e1 : c = b
  · subst e1
    rw [upd_same, upd_ne (Ne.symm h), upd_same]
  · rw [upd_ne e1]
    by_cases e2 : c = a
    · subst e2
      rw [upd_same, upd_same]
    · rw [upd_ne e2, upd_ne e2, upd_ne e1]
theorem core2 {G H4 : Hp} {a b : Addr} {x y : HO} (h : Same (upd (upd G a x) b y) H4) (n : a ≠ b) (ha : G a = none) (hb : G b = none) : ∃ G2, G2 a = none ∧ G2 b = none ∧ Same G G2 ∧ H4 = upd (upd G2 a x) b y := by
  have hb' : (upd G a x) b = none := (upd_ne (Ne.symm n)).trans hb
  obtain ⟨G1, g1, s1, rfl⟩ := core_of h hb'
  obtain ⟨G2, g2, s2, rfl⟩ := core_of s1 ha
  refine ⟨G2, g2, ?_, s2, rfl⟩
  rw [upd_ne (Ne.symm n)] at g1
  exact g1
theorem dp_core2 {K : PySem.W.Frag} {G : Hp} {a b q : Addr} {x y : HO} {xs : List V} (h : SqT K (upd (upd G a x) b y) q xs) (nx : ∀ z, x ≠ .tup z) (ny : ∀ z, y ≠ .tup z) (nx' : ∀ o z, x ≠ .frz o z) (ny' : ∀ o z, y ≠ .frz o z) : SqT K G q xs := by
  have look : ∀ u, (upd (upd G a x) b y) q = some u → u = x ∨ u = y ∨ G q = some u := fun u e => by
    by_cases e1 : q = b
    · subst e1
      rw [upd_same] at e
      exact .inr (.inl (Option.some.inj e).symm)
    · rw [upd_ne e1] at e
      by_cases e2 : q = a
      · subst e2
        rw [upd_same] at e
        exact .inl (Option.some.inj e).symm
      · rw [upd_ne e2] at e
        exact .inr (.inr e)
  rcases h with (h | ⟨o, h⟩) | h
  · rcases look _ h with e | e | e
    · exact absurd e.symm (nx _)
    · exact absurd e.symm (ny _)
    · exact .inl (.inl e)
  · rcases look _ h with e | e | e
    · exact absurd e.symm (nx' _ _)
    · exact absurd e.symm (ny' _ _)
    · exact .inl (.inr ⟨o, e⟩)
  · exact .inr h
theorem link_of {K : PySem.W.Frag} {H : Hp} {v : V} {a b : Int} (h : Dp K H v (.tuple [.int a, .int b])) : ∃ t, v = .ref t ∧ SqT K H t [.int a, .int b] := by
  cases h with
  | tup h1 h2 =>
    cases h2 with
    | cons x1 x2 =>
      cases x2 with
      | cons y1 y2 =>
        cases x1
        cases y1
        cases y2
        exact ⟨_, rfl, h1⟩
theorem tup_of {K : PySem.W.Frag} {H : Hp} {v : V} {ds : List PyData} (h : Dp K H v (.tuple ds)) : ∃ a vs, v = .ref a ∧ SqT K H a vs ∧ DpAll K H vs ds := by
  cases h with
  | tup h1 h2 => exact ⟨_, _, rfl, h1, h2⟩
/-- fresh lists that hold numbers -/
def RowsH (H : Hp) (ps : List Addr) (f : Nat → List Nat) : Prop := ∀ j p, ps[j]? = some p → H p = some (.lst (nV (f j)))
theorem getElem?_inj {ps : List Addr} (nd : ps.Nodup) {i j : Nat} {p : Addr} (h1 : ps[i]? = some p) (h2 : ps[j]? = some p) : i = j := by
  have l1 := (List.getElem?_eq_some_iff.mp h1).1
  have l2 := (List.getElem?_eq_some_iff.mp h2).1
  exact (List.getElem?_inj (i := i) (j := j) l1 nd).mp (h1.trans h2.symm)
theorem RowsH.put {H : Hp} {ps : List Addr} {f : Nat → List Nat} {j x : Nat} {p : Addr} (h : RowsH H ps f) (nd : ps.Nodup) (hp : ps[j]? = some p) : RowsH (upd H p (.lst (nV (f j) ++ [.int (x : Int)]))) ps (fun k => if k = j then f k ++ [x] else f k) := by
  intro k q hq
  show _ = some (HO.lst (nV (if k = j then f k ++ [x] else f k)))
  by_cases e : k = j
  · subst e
    rw [hp] at hq
    cases hq
    rw [if_pos rfl, upd_same, show nV (f k ++ [x]) = nV (f k) ++ [V.int (x : Int)] from List.map_append]
  · rw [if_neg e, upd_ne]
    · exact h k q hq
    · rintro rfl
      exact e (getElem?_inj nd hq hp)
theorem nb_snoc (L : List (Nat × Nat)) (p : Nat × Nat) (k : Nat) : nbL (L ++ [p]) k = nbL L k ++ ((if p.1 = k then [p.2] else []) ++ (if p.2 = k then [p.1] else [])) := by
  unfold nbL
  rw [List.flatMap_append, List.flatMap_cons, List.flatMap_nil, List.append_nil]
theorem nb_two {L : List (Nat × Nat)} {p : Nat × Nat} {k : Nat} : (if k = p.2 then (if k = p.1 then nbL L k ++ [p.2] else nbL L k) ++ [p.1] else (if k = p.1 then nbL L k ++ [p.2] else nbL L k)) = nbL (L ++ [p]) k := by
  rw [nb_snoc]
  by_cases e1 : p.1 = k
  · rw [if_pos e1]
    by_cases e2 : p.2 = k
    · rw [if_pos e2.symm, if_pos e1.symm, if_pos e2, List.append_assoc]
    · rw [if_neg (fun z => e2 z.symm), if_pos e1.symm, if_neg e2, List.append_nil]
  · rw [if_neg e1]
    by_cases e2 : p.2 = k
    · rw [if_pos e2.symm, if_neg (fun z => e1 z.symm), if_pos e2, List.nil_append]
    · rw [if_neg (fun z => e2 z.symm), if_neg (fun z => e1 z.symm), if_neg e2, List.append_nil, List.append_nil]
theorem nb_len (L : List (Nat × Nat)) (k : Nat) : (nbL L k).length ≤ 2 * L.length := by
  induction L with
  | nil => exact Nat.zero_le _
  | cons p r ih =>
    have e : nbL (p :: r) k = ((if p.1 = k then [p.2] else []) ++ (if p.2 = k then [p.1] else [])) ++ nbL r k := rfl
    rw [e, List.length_append, List.length_append, List.length_cons]
    have h1 : (if p.1 = k then [p.2] else []).length ≤ 1 := by split <;> simp
    have h2 : (if p.2 = k then [p.1] else []).length ≤ 1 := by split <;> simp
    omega
theorem row_at {K : PySem.W.Frag} {H : Hp} {rs : List (List Nat)} {xs : List V} {j : Nat} {r : List Nat} (h : DpAll K H xs (rs.map fun r => PyData.tuple (nI r))) (hj : rs[j]? = some r) : ∃ t, xs[j]? = some (.ref t) ∧ SqT K H t (nV r) := by
  have hl := h.len
  rw [List.length_map] at hl
  have lt := (List.getElem?_eq_some_iff.mp hj).1
  have e : xs[j]? = some (xs[j]'(by omega)) := List.getElem?_eq_getElem _
  obtain ⟨d, hd, hp⟩ := h.at e
  rw [List.getElem?_map, hj] at hd
  cases hd
  obtain ⟨t, vs, e2, hT, hA⟩ := tup_of hp
  rw [e, e2]
  rw [dAll_nat_vs hA] at hT
  exact ⟨t, rfl, hT⟩
abbrev keysN (o : List Nat) : List Key := o.map fun x : Nat => Sum.inl (x : Int)
theorem keysN_mem {o : List Nat} {x : Nat} : (Sum.inl (x : Int) : Key) ∈ keysN o ↔ x ∈ o := by
  rw [List.mem_map]
  constructor
  · rintro ⟨y, hy, e⟩
    have e2 : (y : Int) = x := Sum.inl.inj e
    rw [show x = y by omega]
    exact hy
  · intro h
    exact ⟨x, h, rfl⟩
/-- what is met from f -/
def Met (rs : List (List Nat)) (f : Nat) (o : List Nat) : Prop := o.Nodup ∧ ∀ x, x ∈ o ↔ Rch (Rw rs) f x
/-- going on from f: all of o hang on f, and what is linked to its first i stands in it -/
structure Bfs (rs : List (List Nat)) (f : Nat) (o : List Nat) (i : Nat) : Prop where
  nd : o.Nodup
  fst : f ∈ o
  on : ∀ x ∈ o, Rch (Rw rs) f x
  le : i ≤ o.length
  done : ∀ j x, j < i → o[j]? = some x → ∀ c, Rw rs x c → c ∈ o
theorem Bfs.met {rs : List (List Nat)} {f : Nat} {o : List Nat} {i : Nat} (b : Bfs rs f o i) (h : ¬ i < o.length) : Met rs f o := by
  refine ⟨b.nd, fun x => ⟨b.on x, fun r => ?_⟩⟩
  refine Rch.closed (S := fun x => x ∈ o) (fun y z hy e => ?_) b.fst r
  obtain ⟨j, hj, rfl⟩ := List.mem_iff_getElem.mp hy
  exact b.done j _ (by omega) (List.getElem?_eq_getElem hj) z e
open Classical in
/-- the parts whose least is below i -/
noncomputable def fstTo (i : Nat) (E : Nat → Nat → Prop) : List Nat := (List.range i).filter fun f => decide (∀ g, g < f → ¬ Rch E g f)
theorem fstTo_yes {i : Nat} {E : Nat → Nat → Prop} (h : ∀ g, g < i → ¬ Rch E g i) : fstTo (i + 1) E = fstTo i E ++ [i] := by
  unfold fstTo
  rw [List.range_succ, List.filter_append, List.filter_cons, if_pos (by rw [@decide_eq_true_eq _ (_)]; exact h), List.filter_nil]
theorem fstTo_no {i : Nat} {E : Nat → Nat → Prop} (h : ¬ ∀ g, g < i → ¬ Rch E g i) : fstTo (i + 1) E = fstTo i E := by
  unfold fstTo
  rw [List.range_succ, List.filter_append, List.filter_cons, if_neg (by rw [@decide_eq_true_eq _ (_)]; exact h), List.filter_nil, List.append_nil]
theorem fstTo_len (i : Nat) (E : Nat → Nat → Prop) : (fstTo i E).length ≤ i := by
  unfold fstTo
  exact Nat.le_trans (List.length_filter_le _ _) (by rw [List.length_range]; exact Nat.le_refl _)
/-- what was met by the parts whose least is below i -/
def metTo (i : Nat) (E : Nat → Nat → Prop) (ks : List Key) : Prop := ∀ c : Nat, (Sum.inl (c : Int) : Key) ∈ ks ↔ ∃ g, g < i ∧ Rch E g c
def spLinkedRows (K : PySem.W.Frag) : Sp := fun vs H Q _ => ∃ (m : Nat) (v : V) (L : List (Nat × Nat)), vs = [.int m, v] ∧ Dp K H v (lkD L) ∧ (∀ p ∈ L, p.1 < m ∧ p.2 < m) ∧ m ≤ 3000 ∧ L.length ≤ 3000 ∧ ∀ r H', Same H H' → Dp K H' r (rwD (rowsOf m L)) → Q r H'
def spMet (K : PySem.W.Frag) : Sp := fun vs H Q _ => ∃ (v : V) (f : Nat) (rs : List (List Nat)), vs = [v, .int f] ∧ Dp K H v (rwD rs) ∧ f < rs.length ∧ (∀ r ∈ rs, ∀ x ∈ r, x < rs.length) ∧ rs.length ≤ 3000 ∧
  ∀ p H' kvs o, Same H H' → H p = none → H' p = some (.dK kvs) → kvs.map (·.1) = o.map (fun x : Nat => Sum.inl (x : Int)) → Met rs f o → Q (.ref p) H'
def spReached (K : PySem.W.Frag) : Sp := fun vs H Q _ => ∃ (v : V) (f : Nat) (rs : List (List Nat)), vs = [v, .int f] ∧ Dp K H v (rwD rs) ∧ f < rs.length ∧ (∀ r ∈ rs, ∀ x ∈ r, x < rs.length) ∧ rs.length ≤ 3000 ∧
  ∀ p H' o, Same H H' → H p = none → H' p = some (.lst (nV o)) → Met rs f o → Q (.ref p) H'
def spHanging (K : PySem.W.Frag) : Sp := fun vs H Q _ => ∃ v rs, vs = [v] ∧ Dp K H v (rwD rs) ∧ (∀ r ∈ rs, ∀ x ∈ r, x < rs.length) ∧ (∀ a b, Rw rs a b → Rw rs b a) ∧ rs.length ≤ 3000 ∧
  ∀ r H', Same H H' → Dp K H' r (rwD (partsOf rs.length (Rw rs))) → Q r H'
theorem met_len {rs : List (List Nat)} {f : Nat} {o : List Nat} {n : Nat} (hf : f < n) (hb : ∀ a b, Rw rs a b → b < n) (nd : o.Nodup) (hm : ∀ x ∈ o, Rch (Rw rs) f x) : o.length ≤ n := by
  have z := List.Nodup.length_le_of_subset nd (l₂ := List.range n) fun x hx => List.mem_range.mpr (Rch.lt hb hf (hm x hx))
  rw [List.length_range] at z
  exact z
theorem rw_lt {rs : List (List Nat)} (h : ∀ r ∈ rs, ∀ x ∈ r, x < rs.length) : ∀ a b, Rw rs a b → b < rs.length := fun a b e => by
  unfold Rw at e
  rw [List.getD_eq_getElem?_getD] at e
  cases z : rs[a]? with
  | none => rw [z] at e; simp at e
  | some r =>
    rw [z] at e
    exact h r (List.mem_of_getElem? z) b e
end Shf

namespace Shf
/-! ### chains and their links -/
abbrev NCh := Bool × List Nat
def ord2 (p : Nat × Nat) : Nat × Nat := (min p.1 p.2, max p.1 p.2)
def side (l : List Nat) : List (Nat × Nat) := l.zip l.tail
def clk (c : NCh) : List (Nat × Nat) := (side c.2).map ord2 ++ if c.1 = true then [ord2 (c.2.headD 0, c.2.getLastD 0)] else []
def lks (cs : List NCh) : List (Nat × Nat) := cs.flatMap clk
def lt2 (p q : Nat × Nat) : Prop := p.1 < q.1 ∨ (p.1 = q.1 ∧ p.2 < q.2)
def grid : List (Nat × Nat) := (List.range 64).flatMap fun x => (List.range 64).map fun y => (x, y)
/-- each once, ascending (numbers below 64) -/
def sdL (l : List (Nat × Nat)) : List (Nat × Nat) := grid.filter fun p => decide (p ∈ l)
theorem grid_asc : grid.Pairwise lt2 := by
  unfold grid
  rw [List.pairwise_flatMap]
  constructor
  · intro x _
    rw [List.pairwise_map]
    exact List.pairwise_lt_range.imp fun h => .inr ⟨rfl, h⟩
  · refine List.pairwise_lt_range.imp fun h p hp q hq => ?_
    obtain ⟨y, _, rfl⟩ := List.mem_map.mp hp
    obtain ⟨z, _, rfl⟩ := List.mem_map.mp hq
    exact .inl h
theorem sd_asc (l : List (Nat × Nat)) : (sdL l).Pairwise lt2 := List.Pairwise.filter _ grid_asc
theorem sd_mem {l : List (Nat × Nat)} (hb : ∀ p ∈ l, p.1 < 64 ∧ p.2 < 64) {p : Nat × Nat} : p ∈ sdL l ↔ p ∈ l := by
  unfold sdL
  rw [List.mem_filter, decide_eq_true_eq]
  refine ⟨fun h => h.2, fun h => ⟨?_, h⟩⟩
  obtain ⟨h1, h2⟩ := hb p h
  unfold grid
  rw [List.mem_flatMap]
  exact ⟨p.1, List.mem_range.mpr h1, List.mem_map.mpr ⟨p.2, List.mem_range.mpr h2, rfl⟩⟩
theorem lt2_as : ∀ a b, lt2 a b → ¬ lt2 b a := by
  intro a b h g
  unfold lt2 at h g
  omega
theorem sd_uni {l m : List (Nat × Nat)} (hb : ∀ p ∈ l, p.1 < 64 ∧ p.2 < 64) (ha : m.Pairwise lt2) (hm : ∀ p, p ∈ m ↔ p ∈ l) : m = sdL l :=
  asc_ext lt2_as ha (sd_asc l) fun p => by rw [hm, sd_mem hb]
theorem sd_congr {l m : List (Nat × Nat)} (h : ∀ p, p ∈ l ↔ p ∈ m) : sdL l = sdL m := by
  unfold sdL
  refine List.filter_congr fun p _ => ?_
  exact decide_eq_decide.mpr (h p)
theorem side_mem {l : List Nat} {a b : Nat} : (a, b) ∈ side l ↔ ∃ i, l[i]? = some a ∧ l[i + 1]? = some b := by
  unfold side
  rw [List.mem_iff_getElem?]
  constructor
  · rintro ⟨i, h⟩
    rw [List.getElem?_zip_eq_some] at h
    refine ⟨i, h.1, ?_⟩
    have y := h.2
    rw [List.getElem?_tail] at y
    exact y
  · rintro ⟨i, h1, h2⟩
    refine ⟨i, ?_⟩
    rw [List.getElem?_zip_eq_some]
    refine ⟨h1, ?_⟩
    rw [List.getElem?_tail]
    exact h2
theorem ord2_lt {a b : Nat} (h : a < b) : ord2 (a, b) = (a, b) ∧ ord2 (b, a) = (a, b) := by
  unfold ord2
  simp only [Prod.mk.injEq]
  omega
/-- a chain as it may be: cells unlike, below m; a ring has three -/
structure ChOk (m : Nat) (c : NCh) : Prop where
  nd : c.2.Nodup
  lt : ∀ x ∈ c.2, x < m
  ne : 1 ≤ c.2.length
  ring : c.1 = true → 3 ≤ c.2.length
/-! #### the law's own links -/
def llk1 (c : NCh) (i : Nat) : List (Nat × Nat) := if i + 1 < c.2.length ∨ c.1 = true then [(c.2.getD i 0, c.2.getD ((i + 1) % c.2.length) 0), (c.2.getD ((i + 1) % c.2.length) 0, c.2.getD i 0)] else []
def llkTo (c : NCh) (k : Nat) : List (Nat × Nat) := (List.range k).flatMap (llk1 c)
def llk (c : NCh) : List (Nat × Nat) := llkTo c c.2.length
def llks (cs : List NCh) : List (Nat × Nat) := cs.flatMap llk
theorem llkTo_succ (c : NCh) (k : Nat) : llkTo c (k + 1) = llkTo c k ++ llk1 c k := by
  unfold llkTo
  rw [List.range_succ, List.flatMap_append, List.flatMap_cons, List.flatMap_nil, List.append_nil]
theorem getD_of {l : List Nat} {i a : Nat} (h : l[i]? = some a) : l.getD i 0 = a := by
  rw [List.getD_eq_getElem?_getD, h]
  rfl
/-- side by side: a and b stand at neighbouring places, or at the last and the first of a ring -/
def Adj (c : NCh) (a b : Nat) : Prop := (∃ i, c.2[i]? = some a ∧ c.2[i + 1]? = some b) ∨ (c.1 = true ∧ c.2[c.2.length - 1]? = some a ∧ c.2[0]? = some b)
theorem llk_mem {c : NCh} {m : Nat} (ok : ChOk m c) {a b : Nat} : (a, b) ∈ llk c ↔ Adj c a b ∨ Adj c b a := by
  have one : ∀ i, i < c.2.length → ((a, b) ∈ llk1 c i ↔ (i + 1 < c.2.length ∨ c.1 = true) ∧ ((c.2[i]? = some a ∧ c.2[(i + 1) % c.2.length]? = some b) ∨ (c.2[i]? = some b ∧ c.2[(i + 1) % c.2.length]? = some a))) := by
    intro i hi
    unfold llk1
    have m2 : (i + 1) % c.2.length < c.2.length := Nat.mod_lt _ (by omega)
    have g1 : c.2[i]? = some (c.2.getD i 0) := by rw [List.getD_eq_getElem?_getD, List.getElem?_eq_getElem hi]; rfl
    have g2 : c.2[(i + 1) % c.2.length]? = some (c.2.getD ((i + 1) % c.2.length) 0) := by rw [List.getD_eq_getElem?_getD, List.getElem?_eq_getElem m2]; rfl
    rw [g1, g2]
    by_cases h : i + 1 < c.2.length ∨ c.1 = true
    · rw [if_pos h]
      simp only [List.mem_cons, Prod.mk.injEq, List.not_mem_nil, or_false, Option.some.injEq, h, true_and]
      constructor
      · rintro (⟨rfl, rfl⟩ | ⟨rfl, rfl⟩)
        · exact .inl ⟨rfl, rfl⟩
        · exact .inr ⟨rfl, rfl⟩
      · rintro (⟨rfl, rfl⟩ | ⟨rfl, rfl⟩)
        · exact .inl ⟨rfl, rfl⟩
        · exact .inr ⟨rfl, rfl⟩
    · rw [if_neg h]
      simp [h]
  have mid : ∀ i x y, i < c.2.length → (i + 1 < c.2.length ∨ c.1 = true) → c.2[i]? = some x → c.2[(i + 1) % c.2.length]? = some y → Adj c x y := by
    intro i x y hi h h1 h2
    by_cases e : i + 1 < c.2.length
    · rw [Nat.mod_eq_of_lt e] at h2
      exact .inl ⟨i, h1, h2⟩
    · have e2 : i + 1 = c.2.length := by omega
      rw [e2, Nat.mod_self] at h2
      rcases h with h | h
      · exact absurd h e
      · refine .inr ⟨h, ?_, h2⟩
        rw [show c.2.length - 1 = i by omega]
        exact h1
  unfold llk llkTo
  rw [List.mem_flatMap]
  constructor
  · rintro ⟨i, hi, h⟩
    rw [List.mem_range] at hi
    rw [one i hi] at h
    obtain ⟨h0, h | h⟩ := h
    · exact .inl (mid i a b hi h0 h.1 h.2)
    · exact .inr (mid i b a hi h0 h.1 h.2)
  · have back : ∀ x y, Adj c x y → ∃ i, i < c.2.length ∧ (i + 1 < c.2.length ∨ c.1 = true) ∧ c.2[i]? = some x ∧ c.2[(i + 1) % c.2.length]? = some y := by
      rintro x y (⟨i, h1, h2⟩ | ⟨h0, h1, h2⟩)
      · have l2 := (List.getElem?_eq_some_iff.mp h2).1
        exact ⟨i, by omega, .inl l2, h1, by rw [Nat.mod_eq_of_lt l2]; exact h2⟩
      · have := ok.ne
        exact ⟨c.2.length - 1, by omega, .inr h0, h1, by rw [show c.2.length - 1 + 1 = c.2.length by omega, Nat.mod_self]; exact h2⟩
    rintro (h | h)
    · obtain ⟨i, hi, h0, h1, h2⟩ := back a b h
      exact ⟨i, List.mem_range.mpr hi, (one i hi).mpr ⟨h0, .inl ⟨h1, h2⟩⟩⟩
    · obtain ⟨i, hi, h0, h1, h2⟩ := back b a h
      exact ⟨i, List.mem_range.mpr hi, (one i hi).mpr ⟨h0, .inr ⟨h1, h2⟩⟩⟩
theorem head_at {l : List Nat} (h : 1 ≤ l.length) : l[0]? = some (l.headD 0) := by
  cases l with
  | nil => simp at h
  | cons a r => rfl
theorem last_at {l : List Nat} (h : 1 ≤ l.length) : l[l.length - 1]? = some (l.getLastD 0) := by
  rw [← List.getLast?_eq_getElem?]
  cases l with
  | nil => simp at h
  | cons a r => rw [List.getLastD_cons, List.getLast?_cons, List.getLastD_eq_getLast?]
theorem adj_ne {c : NCh} {m : Nat} (ok : ChOk m c) {a b : Nat} (h : Adj c a b) : a ≠ b := by
  rintro rfl
  rcases h with ⟨i, h1, h2⟩ | ⟨h0, h1, h2⟩
  · have l1 := (List.getElem?_eq_some_iff.mp h1).1
    have z := (List.getElem?_inj l1 ok.nd).mp (h1.trans h2.symm)
    omega
  · have l1 := (List.getElem?_eq_some_iff.mp h1).1
    have z := (List.getElem?_inj l1 ok.nd).mp (h1.trans h2.symm)
    have := ok.ring h0
    omega
theorem adj_lt {c : NCh} {m : Nat} (ok : ChOk m c) {a b : Nat} (h : Adj c a b) : a < m ∧ b < m := by
  rcases h with ⟨i, h1, h2⟩ | ⟨h0, h1, h2⟩
  · exact ⟨ok.lt _ (List.mem_of_getElem? h1), ok.lt _ (List.mem_of_getElem? h2)⟩
  · exact ⟨ok.lt _ (List.mem_of_getElem? h1), ok.lt _ (List.mem_of_getElem? h2)⟩
theorem clk_mem {c : NCh} {m : Nat} (ok : ChOk m c) {a b : Nat} : (a, b) ∈ clk c ↔ a < b ∧ (Adj c a b ∨ Adj c b a) := by
  have pick : ∀ x y : Nat, x ≠ y → ((a, b) = ord2 (x, y) ↔ a < b ∧ ((a = x ∧ b = y) ∨ (b = x ∧ a = y))) := by
    intro x y ne
    unfold ord2
    simp only [Prod.mk.injEq]
    omega
  unfold clk
  rw [List.mem_append, List.mem_map]
  constructor
  · rintro (⟨⟨x, y⟩, hp, e⟩ | h)
    · rw [side_mem] at hp
      have ad : Adj c x y := .inl hp
      obtain ⟨h1, ⟨rfl, rfl⟩ | ⟨rfl, rfl⟩⟩ := (pick x y (adj_ne ok ad)).mp e.symm
      · exact ⟨h1, .inl ad⟩
      · exact ⟨h1, .inr ad⟩
    · by_cases r : c.1 = true
      · rw [if_pos r, List.mem_singleton] at h
        have ad : Adj c (c.2.getLastD 0) (c.2.headD 0) := .inr ⟨r, last_at ok.ne, head_at ok.ne⟩
        obtain ⟨h1, ⟨e1, e2⟩ | ⟨e1, e2⟩⟩ := (pick _ _ (adj_ne ok ad).symm).mp h
        · rw [e1, e2]
          rw [e1, e2] at h1
          exact ⟨h1, .inr ad⟩
        · rw [e1, e2]
          rw [e1, e2] at h1
          exact ⟨h1, .inl ad⟩
      · rw [if_neg r] at h
        cases h
  · rintro ⟨h1, h⟩
    have go : ∀ x y, Adj c x y → (a, b) = ord2 (x, y) → (∃ p, p ∈ side c.2 ∧ ord2 p = (a, b)) ∨ (a, b) ∈ if c.1 = true then [ord2 (c.2.headD 0, c.2.getLastD 0)] else [] := by
      intro x y ad e
      rcases ad with ad | ⟨r, l1, l2⟩
      · exact .inl ⟨(x, y), side_mem.mpr ad, e.symm⟩
      · refine .inr ?_
        rw [if_pos r, List.mem_singleton]
        rw [last_at ok.ne] at l1
        rw [head_at ok.ne] at l2
        rw [Option.some.inj l1, Option.some.inj l2, e]
        unfold ord2
        simp only [Prod.mk.injEq]
        omega
    rcases h with h | h
    · exact go a b h (ord2_lt h1).1.symm
    · exact go b a h (ord2_lt h1).2.symm
theorem due_mem {m : Nat} {cs : List NCh} (ok : ∀ c ∈ cs, ChOk m c) (p : Nat × Nat) : p ∈ lks cs ↔ p ∈ (llks cs).filter fun q => decide (q.1 < q.2) := by
  obtain ⟨a, b⟩ := p
  unfold lks llks
  rw [List.mem_filter, List.mem_flatMap, List.mem_flatMap, decide_eq_true_eq]
  constructor
  · rintro ⟨c, hc, h⟩
    have y := (clk_mem (ok c hc)).mp h
    exact ⟨⟨c, hc, (llk_mem (ok c hc)).mpr y.2⟩, y.1⟩
  · rintro ⟨⟨c, hc, h⟩, h1⟩
    exact ⟨c, hc, (clk_mem (ok c hc)).mpr ⟨h1, (llk_mem (ok c hc)).mp h⟩⟩
theorem llks_lk {m : Nat} {cs : List NCh} (ok : ∀ c ∈ cs, ChOk m c) (a b : Nat) : (a, b) ∈ llks cs ↔ Lk (lks cs) a b := by
  unfold Lk llks lks
  rw [List.mem_flatMap, List.mem_flatMap, List.mem_flatMap]
  constructor
  · rintro ⟨c, hc, h⟩
    have y := (llk_mem (ok c hc)).mp h
    have ne : a ≠ b := by
      rcases y with y | y
      · exact adj_ne (ok c hc) y
      · exact (adj_ne (ok c hc) y).symm
    rcases Nat.lt_or_gt_of_ne ne with l | l
    · exact .inl ⟨c, hc, (clk_mem (ok c hc)).mpr ⟨l, y⟩⟩
    · exact .inr ⟨c, hc, (clk_mem (ok c hc)).mpr ⟨l, Or.symm y⟩⟩
  · rintro (⟨c, hc, h⟩ | ⟨c, hc, h⟩)
    · exact ⟨c, hc, (llk_mem (ok c hc)).mpr ((clk_mem (ok c hc)).mp h).2⟩
    · exact ⟨c, hc, (llk_mem (ok c hc)).mpr (Or.symm ((clk_mem (ok c hc)).mp h).2)⟩
theorem lks_lt {m : Nat} {cs : List NCh} (ok : ∀ c ∈ cs, ChOk m c) : ∀ p ∈ lks cs, p.1 < m ∧ p.2 < m ∧ p.1 < p.2 := by
  rintro ⟨a, b⟩ h
  unfold lks at h
  rw [List.mem_flatMap] at h
  obtain ⟨c, hc, h⟩ := h
  obtain ⟨h1, h | h⟩ := (clk_mem (ok c hc)).mp h
  · exact ⟨(adj_lt (ok c hc) h).1, (adj_lt (ok c hc) h).2, h1⟩
  · exact ⟨(adj_lt (ok c hc) h).2, (adj_lt (ok c hc) h).1, h1⟩
theorem clk_len {c : NCh} (h : 1 ≤ c.2.length) : (clk c).length ≤ c.2.length := by
  unfold clk side
  rw [List.length_append, List.length_map, List.length_zip, List.length_tail]
  by_cases r : c.1 = true
  · rw [if_pos r]
    show min _ _ + 1 ≤ _
    omega
  · rw [if_neg r, List.length_nil]
    omega
theorem lks_len {m : Nat} {cs : List NCh} (ok : ∀ c ∈ cs, ChOk m c) : (lks cs).length ≤ cs.length * m := by
  induction cs with
  | nil => exact Nat.zero_le _
  | cons c r ih =>
    have e : lks (c :: r) = clk c ++ lks r := rfl
    have o := ok c (List.mem_cons_self ..)
    have h1 := clk_len o.ne
    have h2 := List.Nodup.length_le_of_subset o.nd (l₂ := List.range m) fun x hx => List.mem_range.mpr (o.lt x hx)
    rw [List.length_range] at h2
    have h3 := ih fun c hc => ok c (List.mem_cons_of_mem _ hc)
    rw [e, List.length_append, List.length_cons, Nat.add_mul, Nat.one_mul]
    omega
end Shf

namespace L2
open PySem PySem.Spec PyProof.Rows
theorem walk_zipT {K : PySem.W.Frag} {a b : Addr} {xs ys : List V} {n : Nat} (hn : n = min xs.length ys.length) : Walk (RZ.ItzT K a b) n (fun H => SqT K H a xs ∧ SqT K H b ys) (YPair (fun i => xs[i]?) (fun i => ys[i]?)) := by
  subst hn
  refine ⟨fun i _ hi q => ?_, fun _ q => ⟨xs, ys, q.1, q.2, by omega⟩, fun i H v H' _ q y => ?_⟩
  · have h1 : i < xs.length := by omega
    have h2 : i < ys.length := by omega
    exact ⟨xs, ys, xs[i], ys[i], q.1, q.2, by simp [h1], by simp [h2]⟩
  · obtain ⟨T, x, z, h1, h2, h3, h4, h5⟩ := y
    exact ⟨T, x, z, h1, h2, h3, h4 xs q.1, h5 ys q.2⟩
end L2
namespace Shf
open PySem PySem.Spec PyProof.Rows L2
/-! ### pairs of numbers as data -/
abbrev prD (p : Nat × Nat) : PyData := .tuple [.int (p.1 : Int), .int (p.2 : Int)]
abbrev prI (p : Nat × Nat) : List Int := [(p.1 : Int), (p.2 : Int)]
theorem prI_inj {p q : Nat × Nat} (h : prI p = prI q) : p = q := by
  have h1 := List.cons.inj h
  have h2 := (List.cons.inj h1.2).1
  obtain ⟨a, b⟩ := p
  obtain ⟨c, d⟩ := q
  have e1 : a = c := Int.ofNat.inj h1.1
  have e2 : b = d := Int.ofNat.inj h2
  rw [e1, e2]
/-- addresses of pairs -/
theorem keys_of {K : PySem.W.Frag} {H : Hp} : ∀ {ps : List (Nat × Nat)} {vs : List V}, DpAll K H vs (ps.map prD) → ∃ ks : List (Addr × List Int), vs = (ks.map fun p => V.ref p.1) ∧ ks.map (·.2) = ps.map prI ∧ ∀ p ∈ ks, SqT K H p.1 (p.2.map V.int)
  | [], _, .nil => ⟨[], rfl, rfl, fun _ h => (by cases h)⟩
  | p :: ps, _, .cons h t => by
    obtain ⟨ks, rfl, h2, h3⟩ := keys_of t
    obtain ⟨a, rfl, hT⟩ := link_of h
    refine ⟨(a, prI p) :: ks, rfl, ?_, fun q hq => ?_⟩
    · show prI p :: ks.map (·.2) = prI p :: ps.map prI
      rw [h2]
    · rcases List.mem_cons.mp hq with rfl | hq
      · exact hT
      · exact h3 q hq
theorem dAll_keys {K : PySem.W.Frag} {H : Hp} : ∀ {ps : List (Nat × Nat)} {ks : List (Addr × List Int)}, ks.map (·.2) = ps.map prI → (∀ p ∈ ks, SqT K H p.1 (p.2.map V.int)) → DpAll K H (ks.map fun p => V.ref p.1) (ps.map prD)
  | [], [], _, _ => .nil
  | [], _ :: _, h, _ => by cases h
  | _ :: _, [], h, _ => by cases h
  | p :: ps, k :: ks, h, g => by
    have h1 := List.cons.inj h
    have t := dAll_keys h1.2 fun q hq => g q (List.mem_cons_of_mem _ hq)
    have g0 := g k (List.mem_cons_self ..)
    have h0 : k.2 = prI p := h1.1
    rw [h0] at g0
    exact .cons (.tup (xs := [.int (p.1 : Int), .int (p.2 : Int)]) g0 (.cons (.int _) (.cons (.int _) .nil))) t
def decP (l : List Int) : Nat × Nat := ((l.getD 0 0).toNat, (l.getD 1 0).toNat)
theorem dec_prI (p : Nat × Nat) : decP (prI p) = p := by
  obtain ⟨a, b⟩ := p
  rfl
theorem lt2_of {p q : Nat × Nat} (hp : p.1 < 64 ∧ p.2 < 64) (hq : q.1 < 64 ∧ q.2 < 64) (h : TS.code 64 (prI p) ≤ TS.code 64 (prI q)) (ne : p ≠ q) : lt2 p q := by
  have z := pair_lt (x := p.1) (y := p.2) (x' := q.1) (y' := q.2) h (fun e => ne (prI_inj e)) ⟨by omega, by omega⟩ ⟨by omega, by omega⟩ ⟨by omega, by omega⟩ ⟨by omega, by omega⟩
  unfold lt2
  omega
/-- sorted(set(pairs)) by values: a new list of the same, each once, ascending -/
theorem sorted_set {K : PySem.W.Frag} {P : Program} {w : World} {H : Hp} {Q : VK} {l : Addr} {vs : List V} {ps : List (Nat × Nat)} (hL : SqL K H l vs) (hA : DpAll K H vs (ps.map prD)) (hb : ∀ p ∈ ps, p.1 < 64 ∧ p.2 < 64) (hl : ps.length < 64)
    (q : ∀ p vs' H', Same H H' → H p = none → H' p = some (.lst vs') → DpAll K H' vs' ((sdL ps).map prD) → Q (.ref p) H') : rSetOfT K P w [.ref l] H fun x H1 => rSortedT K P w [x] H1 Q := by
  obtain ⟨ks, rfl, e2, hk⟩ := keys_of hA
  have kl : ks.length = ps.length := by
    have y := congrArg List.length e2
    rw [List.length_map, List.length_map] at y
    exact y
  have kp : ∀ k ∈ ks, ∃ p ∈ ps, k.2 = prI p := fun k hk' => by
    have y : k.2 ∈ ps.map prI := by rw [← e2]; exact List.mem_map_of_mem hk'
    obtain ⟨p, hp, e⟩ := List.mem_map.mp y
    exact ⟨p, hp, e.symm⟩
  refine ⟨l, ks, rfl, hL, hk, by omega, fun a L ha hsub hall => ⟨a, L, 2, 64, rfl, upd_same, fun p hp => sqt_same (same_new ha) (hk p (hsub p hp)), by decide, fun p hp => ?_, fun L' r pm nd hlt pw hr => ?_⟩⟩
  · obtain ⟨x, hx, e⟩ := kp p (hsub p hp)
    rw [e]
    refine ⟨rfl, fun m hm => ?_⟩
    have b := hb x hx
    rcases List.mem_cons.mp hm with rfl | hm
    · omega
    · rw [List.mem_singleton] at hm
      subst hm
      omega
  · have sA : Same H (upd (upd H a (SetTO P w a L)) r (.lst (L'.map fun q => V.ref q.1))) := (same_new ha).tr (same_new hr)
    have hr0 : H r = none := by
      cases z : H r with
      | none => rfl
      | some u =>
        have y := same_new (o := SetTO P w a L) ha r u z
        rw [hr] at y
        cases y
    have l'k : ∀ k ∈ L', k ∈ ks := fun k hk' => hsub k (pm.mem_iff.mp hk')
    have em : L'.map (·.2) = (L'.map fun k => decP k.2).map prI := by
      rw [List.map_map]
      refine List.map_congr_left fun k hk' => ?_
      obtain ⟨p, _, e⟩ := kp k (l'k k hk')
      show k.2 = prI (decP k.2)
      rw [e, dec_prI]
    have emem : ∀ p, p ∈ (L'.map fun k => decP k.2) ↔ p ∈ ps := fun p => by
      rw [List.mem_map]
      constructor
      · rintro ⟨k, hk', rfl⟩
        obtain ⟨p, hp, e⟩ := kp k (l'k k hk')
        rw [e, dec_prI]
        exact hp
      · intro hp
        have y : prI p ∈ ks.map (·.2) := by rw [e2]; exact List.mem_map_of_mem hp
        obtain ⟨k, hk', e⟩ := List.mem_map.mp y
        have z := hall k hk'
        obtain ⟨k2, hk2, e3⟩ := List.mem_map.mp z
        refine ⟨k2, pm.mem_iff.mpr hk2, ?_⟩
        rw [e3, e, dec_prI]
    have easc : (L'.map fun k => decP k.2).Pairwise lt2 := by
      rw [List.pairwise_map]
      have nd' : L'.Pairwise fun x y => x.2 ≠ y.2 := List.pairwise_map.mp nd
      refine (List.Pairwise.and_mem.mp (List.Pairwise.and pw nd')).imp ?_
      rintro x y ⟨hx, hy, h1, h2⟩
      obtain ⟨p, hp, e⟩ := kp x (l'k x hx)
      obtain ⟨p', hp', e'⟩ := kp y (l'k y hy)
      rw [e, e', dec_prI, dec_prI]
      rw [e, e'] at h1 h2
      exact lt2_of (hb p hp) (hb p' hp') h1 fun z => h2 (by rw [z])
    have eu := sd_uni hb easc emem
    refine q r _ _ sA hr0 upd_same ?_
    rw [← eu]
    exact dAll_keys em fun k hk' => sqt_same sA (hk k (l'k k hk'))
/-- a chain as data -/
def chN (c : NCh) : PyData := .tuple [.str (if c.1 = true then "ring" else "list"), .tuple (nI c.2)]
def chsD (cs : List NCh) : PyData := .tuple (cs.map chN)
def spCLinks (K : PySem.W.Frag) : Sp := fun vs H Q _ => ∃ (v : V) (cs : List NCh) (m : Nat), vs = [v] ∧ Dp K H v (chsD cs) ∧ (∀ c ∈ cs, ChOk m c) ∧ m ≤ 64 ∧ (lks cs).length < 64 ∧ cs.length ≤ 200 ∧ ∀ r H', Same H H' → Dp K H' r (lkD (sdL (lks cs))) → Q r H'
theorem chain_of {K : PySem.W.Frag} {H : Hp} {v : V} {c : NCh} (h : Dp K H v (chN c)) : ∃ t r, v = .ref t ∧ SqT K H t [.str (if c.1 = true then "ring" else "list"), .ref r] ∧ SqT K H r (nV c.2) := by
  cases h with
  | tup h1 h2 =>
    cases h2 with
    | cons x1 x2 =>
      cases x2 with
      | cons y1 y2 =>
        cases x1
        cases y2
        obtain ⟨r, vs, rfl, hT, hA⟩ := tup_of y1
        rw [dAll_nat_vs hA] at hT
        exact ⟨_, r, rfl, h1, hT⟩
theorem dAll_core {K : PySem.W.Frag} {G : Hp} {D : Addr} {acc : List V} : ∀ {ps : List (Nat × Nat)} {vs : List V}, DpAll K (upd G D (.lst acc)) vs (ps.map prD) → DpAll K G vs (ps.map prD)
  | [], _, .nil => .nil
  | p :: ps, _, .cons h t => by
    obtain ⟨a, rfl, hT⟩ := link_of h
    exact .cons (.tup (xs := [.int (p.1 : Int), .int (p.2 : Int)]) (sqt_core hT) (.cons (.int _) (.cons (.int _) .nil))) (dAll_core t)
theorem dAll_app {K : PySem.W.Frag} {H : Hp} : ∀ {xs ys : List V} {ds es : List PyData}, DpAll K H xs ds → DpAll K H ys es → DpAll K H (xs ++ ys) (ds ++ es)
  | _, _, _, _, .nil, h => h
  | _, _, _, _, .cons h t, g => .cons h (dAll_app t g)
theorem min_nat (a b : Nat) : (if (b : Int) < (a : Int) then (b : Int) else (a : Int)) = ((min a b : Nat) : Int) := by
  split <;> omega
theorem max_nat (a b : Nat) : (if (b : Int) > (a : Int) then (b : Int) else (a : Int)) = ((max a b : Nat) : Int) := by
  split <;> omega
theorem cut_tail (xs : List V) : cutV xs (some 1) none = xs.tail := by
  unfold cutV
  rw [show HT.sIx xs.length 0 (some 1) = min 1 xs.length from HT.sIx_nat xs.length 0 1, HT.sIx_none]
  cases xs with
  | nil => rfl
  | cons a r =>
    rw [show min 1 (a :: r).length = 1 by rw [List.length_cons]; omega]
    rw [List.drop_one, List.tail_cons, List.length_cons, Nat.add_sub_cancel, List.take_length]
theorem not_whole {xs : List V} (h : 1 ≤ xs.length) : ¬ (HT.sIx xs.length 0 (some 1) = 0 ∧ HT.sIx xs.length xs.length none = xs.length) := by
  rw [show HT.sIx xs.length 0 (some 1) = min 1 xs.length from HT.sIx_nat xs.length 0 1]
  omega
theorem at_last {l : List Nat} (h : 1 ≤ l.length) : atI (nV l) (-1) = some (.int ((l.getLastD 0 : Nat) : Int)) := by
  have e : nV l = nV l.dropLast ++ [V.int ((l.getLastD 0 : Nat) : Int)] := by
    cases l with
    | nil => simp at h
    | cons a r =>
      have y := List.dropLast_concat_getLast (l := a :: r) (by simp)
      rw [List.getLastD_eq_getLast?, List.getLast?_eq_some_getLast (by simp)]
      show nV (a :: r) = nV (a :: r).dropLast ++ nV [(a :: r).getLast _]
      rw [← List.map_append, y]
  rw [e]
  exact atI_last _ _
theorem at_head {l : List Nat} (h : 1 ≤ l.length) : (nV l)[0]? = some (.int ((l.headD 0 : Nat) : Int)) := by
  rw [List.getElem?_map, head_at h]
  rfl
theorem ix_last {K : PySem.W.Frag} {H : Hp} {r : Addr} {l : List Nat} {Q : VK} (hS : SqT K H r (nV l)) (h : 1 ≤ l.length) (q : Q (.int ((l.getLastD 0 : Nat) : Int)) H) : rIx K (.ref r) (.int (-1)) H Q :=
  .inr (.inl ⟨r, nV l, -1, _, rfl, rfl, hS, at_last h, q⟩)
theorem side_len (l : List Nat) : (side l).length = min l.length l.tail.length := by
  unfold side
  rw [List.length_zip]
theorem side_at {l : List Nat} {i a b : Nat} (h1 : l[i]? = some a) (h2 : l[i + 1]? = some b) : (side l)[i]? = some (a, b) := by
  unfold side
  rw [List.getElem?_zip_eq_some, List.getElem?_tail]
  exact ⟨h1, h2⟩
/-! ### shelves, good and bad -/
def shN (n : Nat) (cs : List NCh) : PyData := .tuple [.int (n : Int), chsD cs]
def chI (c : NCh) : Chain := (c.1, c.2.map fun x : Nat => (x : Int))
theorem chD_chI (c : NCh) : chD (chI c) = chN c := by
  show PyData.tuple [.str _, .tuple ((c.2.map fun x : Nat => (x : Int)).map PyData.int)] = _
  rw [List.map_map]
  rfl
theorem shD_N (n : Nat) (cs : List NCh) : shD (n : Int) (cs.map chI) = shN n cs := by
  show PyData.tuple [.int (n : Int), .tuple ((cs.map chI).map chD)] = _
  rw [List.map_map, show cs.map (chD ∘ chI) = cs.map chN from List.map_congr_left fun c _ => chD_chI c]
  rfl
structure ShOk (d : PyData) (n : Nat) (cs : List NCh) : Prop where
  hd : shHead d = true
  ok : badFrom (dNum (d0 d)) 0 (dItems (d1 d)) = none
  n : dNum (d0 d) = n
  cs : (dItems (d1 d)).map chOf = cs.map chI
inductive ShBad (d : PyData) : Int → Prop
  | head : shHead d = false → ShBad d (-1)
  | chain (i : Nat) : shHead d = true → badFrom (dNum (d0 d)) 0 (dItems (d1 d)) = some i → ShBad d i
/-- a def of a shelf: its error for bad ones, what it tells of good ones -/
def spShR (K : PySem.W.Frag) (lim : Nat → List NCh → Prop) (res : Nat → List NCh → PyData) : Sp := fun vs H Q E => ∃ (v : V) (d : PyData), vs = [v] ∧ Dp K H v d ∧ dOk d ∧
  ((∃ x : Int, ShBad d x ∧ wAt K "InvalidShelf" (.int x) H E) ∨ ∃ (n : Nat) (cs : List NCh), ShOk d n cs ∧ lim n cs ∧ ∀ r H', Same H H' → Dp K H' r (res n cs) → Q r H')
theorem need_shelf_R {K : PySem.W.Frag} : ∀ vs H Q E, spShR K (fun _ _ => True) shN vs H Q E → spNeedShelf K vs H Q E := by
  rintro vs H Q E ⟨v, d, rfl, hd, hk, h⟩
  refine ⟨v, d, rfl, hd, hk, ?_⟩
  rcases h with ⟨x, hb, he⟩ | ⟨n, cs, ho, _, hq⟩
  · cases hb with
    | head h => exact ⟨fun _ => he, fun q => by rw [h] at q; cases q⟩
    | chain i h1 h2 =>
      refine ⟨fun q => (by rw [h1] at q; cases q), fun _ => ⟨fun j hj => ?_, fun q => (by rw [h2] at q; cases q)⟩⟩
      rw [h2] at hj
      cases hj
      exact he
  · refine ⟨fun q => (by rw [ho.hd] at q; cases q), fun _ => ⟨fun j hj => (by rw [ho.ok] at hj; cases hj), fun _ r H' s hr => hq r H' s ?_⟩⟩
    rw [ho.n, ho.cs, shD_N] at hr
    exact hr
theorem bad_len {m : Int} : ∀ {cs : List PyData} {i : Nat}, badFrom m i cs = none → i ≤ 200 → i + cs.length ≤ 200
  | [], i, _, h => h
  | c :: r, i, h, hi => by
    unfold badFrom at h
    by_cases e : (decide (i = 200) || !dChain m c) = true
    · rw [if_pos e] at h
      cases h
    · rw [if_neg e] at h
      have ne : i ≠ 200 := by
        rintro rfl
        exact e rfl
      have z := bad_len h (by omega)
      rw [List.length_cons]
      omega
theorem ints_cast {l : List Nat} {lo hi : Int} (h : ∀ i ∈ l.map (fun x : Nat => (x : Int)), lo ≤ i ∧ i ≤ hi) : ∀ x ∈ l, (x : Int) ≤ hi := fun x hx => (h x (List.mem_map_of_mem hx)).2
theorem ShOk.facts {d : PyData} {n : Nat} {cs : List NCh} (h : ShOk d n cs) : 1 ≤ n ∧ n ≤ 200 ∧ cs.length ≤ 200 ∧ ∀ c ∈ cs, ChOk n c := by
  have hh := h.hd
  unfold shHead at hh
  rw [Bool.and_eq_true, Bool.and_eq_true] at hh
  have hn : 1 ≤ n ∧ n ≤ 200 := by
    have z := hh.2.1
    have e := h.n
    cases y : d0 d with
    | int i =>
      rw [y] at z e
      have z2 : (decide ((1 : Int) ≤ i) && decide (i ≤ 200)) = true := z
      rw [Bool.and_eq_true, decide_eq_true_eq, decide_eq_true_eq] at z2
      have e2 : i = n := e
      omega
    | _ =>
      rw [y] at z
      cases z
  have lc := bad_len h.ok (Nat.zero_le _)
  have le : (dItems (d1 d)).length = cs.length := by
    have y := congrArg List.length h.cs
    rw [List.length_map, List.length_map] at y
    exact y
  refine ⟨hn.1, hn.2, by omega, fun c hc => ?_⟩
  have hcI : chI c ∈ (dItems (d1 d)).map chOf := by rw [h.cs]; exact List.mem_map_of_mem hc
  obtain ⟨z, hz, e⟩ := List.mem_map.mp hcI
  have k := bad_none h.ok z hz
  obtain ⟨q1, q2, q3, q4, q5⟩ := chain_kind k
  rw [e] at q4 q5
  have e2 : dInts (dItems (d1 z)) = c.2.map fun x : Nat => (x : Int) := congrArg Prod.snd e
  have nd := dRow_nd q2
  have al := dRow_all q2
  rw [e2] at nd
  have len4 : (chI c).2.length = c.2.length := List.length_map _
  refine ⟨?_, fun x hx => ?_, by rw [← len4]; exact q4, fun r => by rw [← len4]; exact q5 r⟩
  · exact (List.pairwise_map.mp nd).imp fun h e => h (by rw [e])
  · have y : (x : Int) ∈ dInts (dItems (d1 z)) := by rw [e2]; exact List.mem_map_of_mem hx
    have b : ∀ ds : List PyData, ds.all (dIn 0 (dNum (d0 d) - 1)) = true → ∀ i ∈ dInts ds, i ≤ dNum (d0 d) - 1 := by
      intro ds
      induction ds with
      | nil => intro _ i hi; cases hi
      | cons a r ih =>
        intro hA i hi
        rw [List.all_cons, Bool.and_eq_true] at hA
        cases a with
        | int j =>
          have z2 : (decide ((0 : Int) ≤ j) && decide (j ≤ dNum (d0 d) - 1)) = true := hA.1
          rw [Bool.and_eq_true, decide_eq_true_eq, decide_eq_true_eq] at z2
          rcases List.mem_cons.mp (show i ∈ j :: dInts r from hi) with rfl | hi
          · exact z2.2
          · exact ih hA.2 i hi
        | _ => cases hA.1
    have y2 := b _ al x y
    rw [h.n] at y2
    omega
theorem pair2_of {K : PySem.W.Frag} {H : Hp} {v : V} {d e : PyData} (h : Dp K H v (.tuple [d, e])) : ∃ a x y, v = .ref a ∧ SqT K H a [x, y] ∧ Dp K H x d ∧ Dp K H y e := by
  cases h with
  | tup h1 h2 =>
    cases h2 with
    | cons x1 x2 =>
      cases x2 with
      | cons y1 y2 =>
        cases y2
        exact ⟨_, _, _, rfl, h1, x1, y1⟩
theorem sd_len (l : List (Nat × Nat)) : (sdL l).length ≤ l.length := by
  have nd : (sdL l).Nodup := (sd_asc l).imp fun h e => by
    subst e
    exact lt2_as _ _ h h
  refine List.Nodup.length_le_of_subset nd fun p hp => ?_
  unfold sdL at hp
  rw [List.mem_filter, decide_eq_true_eq] at hp
  exact hp.2
def limS (n : Nat) (cs : List NCh) : Prop := n ≤ 64 ∧ (lks cs).length < 64
theorem rgV_nat (n : Nat) : rgV 0 (n : Int) = nV (List.range n) := by
  unfold rgV
  rw [show ((n : Int) - 0).toNat = n by omega]
  refine List.map_congr_left fun i _ => ?_
  rw [Int.zero_add]
def spWhole (K : PySem.W.Frag) (lo : Nat) (ring : Bool) : Sp := fun vs H Q E => ∃ (v : V) (d : PyData), vs = [v] ∧ Dp K H v d ∧ (dIn lo 200 d = false → wWord K "InvalidSize" (.str "cells") H E) ∧
  (∀ n : Nat, d = .int (n : Int) → dIn lo 200 d = true → ∀ r H', Same H H' → Dp K H' r (shN n [(ring, List.range n)]) → Q r H')
theorem in_nat {lo hi : Nat} {d : PyData} (h : dIn lo hi d = true) : ∃ n : Nat, d = .int (n : Int) ∧ lo ≤ n ∧ n ≤ hi := by
  cases d with
  | int i =>
    have z : (decide ((lo : Int) ≤ i) && decide (i ≤ (hi : Int))) = true := h
    rw [Bool.and_eq_true, decide_eq_true_eq, decide_eq_true_eq] at z
    exact ⟨i.toNat, by rw [Int.toNat_of_nonneg (by omega)], by omega, by omega⟩
  | _ => cases h
end Shf


namespace L2
open PySem PySem.Spec PyProof.Rows
def rListOf (K : PySem.W.Frag) : List V → Hp → VK → Prop := fun xs H Q => ∃ p ys, xs = [.ref p] ∧ (SqL K H p ys ∨ SqT K H p ys) ∧ ∀ l, H l = none → Q (.ref l) (upd H l (.lst ys))
theorem cr_listOf {X : Cx} (hc : X.calm = true := by rfl) : CallR X (.type "list") (rListOf X.K) := call_list_of
end L2
namespace Shf
open PySem PySem.Spec PyProof.Rows L2 LamX
/-! ### data of tuples alone: it stays while tuples stay -/
def KeepT (H H' : Hp) : Prop := ∀ b xs, (H b = some (.tup xs) → H' b = some (.tup xs)) ∧ ∀ o, H b = some (.frz o (.tup xs)) → H' b = some (.frz o (.tup xs))
theorem KeepT.rfl' {H : Hp} : KeepT H H := fun _ _ => ⟨fun h => h, fun _ h => h⟩
theorem KeepT.tr {H H1 H2 : Hp} (x : KeepT H H1) (y : KeepT H1 H2) : KeepT H H2 := fun b xs => ⟨fun h => (y b xs).1 ((x b xs).1 h), fun o h => (y b xs).2 o ((x b xs).2 o h)⟩
theorem KeepT.of {H H' : Hp} (s : Same H H') : KeepT H H' := fun b xs => ⟨fun h => s b _ h, fun o h => s b _ h⟩
theorem KeepT.ext {H H' : Hp} (s : ExtN H H') : KeepT H H' := fun b xs => ⟨fun h => s b _ h (fun _ z => by cases z), fun o h => s b _ h (fun _ z => by cases z)⟩
theorem KeepT.but {a : Addr} {H H' : Hp} {xs : List V} (s : But a H H') (ha : H a = some (.lst xs)) : KeepT H H' := fun b ys => ⟨fun h => s b _ (fun z => by rw [z, ha] at h; cases h) h, fun o h => s b _ (fun z => by rw [z, ha] at h; cases h) h⟩
theorem KeepT.put {H : Hp} {p : Addr} {xs : List V} {o : HO} (hp : H p = some (.lst xs)) : KeepT H (upd H p o) := KeepT.but but_upd hp
theorem KeepT.sqt {K : PySem.W.Frag} {H H' : Hp} {b : Addr} {xs : List V} (s : KeepT H H') (h : SqT K H b xs) : SqT K H' b xs := by
  rcases h with (h | ⟨o, h⟩) | h
  · exact .inl (.inl ((s b xs).1 h))
  · exact .inl (.inr ⟨o, (s b xs).2 o h⟩)
  · exact .inr h
mutual
def noL : PyData → Bool
  | .list _ => false
  | .tuple ds => noLs ds
  | .dict _ => false
  | _ => true
def noLs : List PyData → Bool
  | [] => true
  | d :: r => noL d && noLs r
end
mutual
theorem dp_keep {K : PySem.W.Frag} {H H' : Hp} (e : KeepT H H') : ∀ (d : PyData) (v : V), noL d = true → Dp K H v d → Dp K H' v d
  | .none, _, _, h => by cases h; exact .non
  | .bool b, _, _, h => by cases h; exact .bl b
  | .int i, _, _, h => by cases h; exact .int i
  | .str x, _, _, h => by cases h; exact .str x
  | .list ds, _, n, h => by cases n
  | .tuple ds, _, n, h => by
    cases h with
    | tup h1 h2 => exact .tup (e.sqt h1) (dpAll_keep e ds _ n h2)
  | .dict _, _, n, h => by cases n
theorem dpAll_keep {K : PySem.W.Frag} {H H' : Hp} (e : KeepT H H') : ∀ (ds : List PyData) (vs : List V), noLs ds = true → DpAll K H vs ds → DpAll K H' vs ds
  | [], _, _, h => by cases h; exact .nil
  | d :: ds, _, n, h => by
    rw [noLs, Bool.and_eq_true] at n
    cases h with
    | cons h1 h2 => exact .cons (dp_keep e d _ n.1 h1) (dpAll_keep e ds _ n.2 h2)
end
theorem noLs_map {α : Type} {f : α → PyData} (h : ∀ x, noL (f x) = true) : ∀ l : List α, noLs (l.map f) = true
  | [] => rfl
  | x :: r => by
    rw [List.map_cons, noLs, h x, noLs_map h r]
    rfl
theorem noL_nI (l : List Nat) : noL (.tuple (nI l)) = true := noLs_map (fun _ => rfl) l
theorem noL_ch (c : NCh) : noL (chN c) = true := by
  show noLs [_, .tuple (nI c.2)] = true
  rw [noLs, noLs, noL_nI]
  rfl
theorem noL_sh (n : Nat) (cs : List NCh) : noL (shN n cs) = true := by
  show noLs [_, .tuple (cs.map chN)] = true
  rw [noLs, noLs, show noL (.tuple (cs.map chN)) = noLs (cs.map chN) from rfl, noLs_map noL_ch]
  rfl
theorem noL_rw (rs : List (List Nat)) : noL (rwD rs) = true := noLs_map (fun r => noL_nI r) rs
theorem noL_lk (L : List (Nat × Nat)) : noL (lkD L) = true := noLs_map (fun _ => rfl) L
/-! ### data apart from a (a list that changes) -/
def off (a : Addr) (H : Hp) : Hp := fun b => if b = a then none else H b
theorem off_same {a : Addr} {H : Hp} : Same (off a H) H := fun b o h => by
  unfold off at h
  by_cases e : b = a
  · rw [if_pos e] at h
    cases h
  · rw [if_neg e] at h
    exact h
theorem off_but {a : Addr} {H H' : Hp} (s : But a H H') : Same (off a H) (off a H') := fun b o h => by
  unfold off at h ⊢
  by_cases e : b = a
  · rw [if_pos e] at h
    cases h
  · rw [if_neg e] at h ⊢
    exact s b o e h
theorem off_of {a : Addr} {H H' : Hp} (s : Same H H') : Same (off a H) (off a H') := off_but (But.of s)
theorem off_ext {a : Addr} {H H' : Hp} (s : ExtN H H') : ExtN (off a H) (off a H') := fun b o h n => by
  unfold off at h ⊢
  by_cases e : b = a
  · rw [if_pos e] at h
    cases h
  · rw [if_neg e] at h ⊢
    exact s b o h n
theorem off_at {a b : Addr} {H : Hp} (n : b ≠ a) : off a H b = H b := if_neg n
/-- tuples' data stands apart from a list -/
theorem off_keep {a : Addr} {H : Hp} {xs : List V} (ha : H a = some (.lst xs)) : KeepT H (off a H) := fun b ys => by
  have n : b ≠ a → off a H b = H b := fun n => off_at n
  refine ⟨fun h => ?_, fun o h => ?_⟩
  · rw [n (fun z => by rw [z, ha] at h; cases h)]
    exact h
  · rw [n (fun z => by rw [z, ha] at h; cases h)]
    exact h
theorem BoxN.at {H : Hp} {a : Addr} {n : Int} (h : BoxN H a n) : ∃ xs, H a = some (.lst xs) := by
  obtain ⟨c, d, e, ⟨h1, _⟩, _⟩ := h
  exact ⟨_, h1⟩
theorem BoxN.keep {H H' : Hp} {a : Addr} {n : Int} (h : BoxN H a n) (s : H' a = H a) : BoxN H' a n := by
  obtain ⟨c, d, e, ⟨h1, h2⟩, h3⟩ := h
  exact ⟨c, d, e, ⟨s.trans h1, h2⟩, h3⟩
theorem BoxN.same {H H' : Hp} {a : Addr} {n : Int} (h : BoxN H a n) (s : Same H H') : BoxN H' a n := by
  obtain ⟨c, d, e, ⟨h1, h2⟩, h3⟩ := h
  exact ⟨c, d, e, ⟨s _ _ h1, h2⟩, h3⟩
theorem BoxN.ext {H H' : Hp} {a : Addr} {n : Int} (h : BoxN H a n) (s : ExtN H H') : BoxN H' a n := by
  obtain ⟨c, d, e, ⟨h1, h2⟩, h3⟩ := h
  exact ⟨c, d, e, ⟨s _ _ h1 (fun _ z => by cases z), h2⟩, h3⟩
theorem BoxN.le {H : Hp} {a : Addr} {n m : Int} (h : BoxN H a n) (l : n ≤ m) : BoxN H a m := by
  obtain ⟨c, d, e, h1, h3⟩ := h
  exact ⟨c, d, e, h1, Int.le_trans h3 l⟩
theorem BoxN.ne {H : Hp} {a p : Addr} {n : Int} (h : BoxN H a n) (hp : H p = none) : a ≠ p := by
  obtain ⟨xs, ha⟩ := h.at
  rintro rfl
  rw [ha] at hp
  cases hp
/-! ### rows drawn -/
theorem perm_nV {l : List Nat} {ys : List V} (h : ys.Perm (nV l)) : ∃ m : List Nat, m.Perm l ∧ ys = nV m := by
  let dec : V → Nat := fun v => match v with
    | .int i => i.toNat
    | _ => 0
  have e1 : (nV l).map dec = l := by
    show (l.map fun x : Nat => V.int (x : Int)).map dec = l
    rw [List.map_map]
    have : (dec ∘ fun x : Nat => V.int (x : Int)) = id := by
      funext x
      show ((x : Int)).toNat = x
      omega
    rw [this, List.map_id]
  refine ⟨ys.map dec, ?_, ?_⟩
  · have y := h.map dec
    rw [e1] at y
    exact y
  · show ys = (ys.map dec).map fun x : Nat => V.int (x : Int)
    rw [List.map_map]
    have : ys.map id = ys.map ((fun x : Nat => V.int (x : Int)) ∘ dec) := by
      refine List.map_congr_left fun y hy => ?_
      have y2 := h.mem_iff.mp hy
      obtain ⟨x, _, rfl⟩ := List.mem_map.mp y2
      show V.int (x : Int) = V.int (((x : Int).toNat : Nat) : Int)
      rw [Int.toNat_natCast]
    rw [List.map_id] at this
    exact this
theorem cut_take (xs : List V) (k : Nat) : cutV xs none (some (k : Int)) = xs.take k := by
  unfold cutV
  rw [HT.sIx_none, HT.sIx_nat, List.drop_zero, Nat.sub_zero]
  by_cases h : k ≤ xs.length
  · rw [Nat.min_eq_left h]
  · rw [Nat.min_eq_right (by omega), List.take_of_length_le (Nat.le_refl _), List.take_of_length_le (by omega)]
theorem cut_drop (xs : List V) (k : Nat) : cutV xs (some (k : Int)) none = xs.drop k := by
  unfold cutV
  rw [HT.sIx_none, HT.sIx_nat]
  by_cases h : k ≤ xs.length
  · rw [Nat.min_eq_left h]
    exact List.take_of_length_le (by rw [List.length_drop]; exact Nat.le_refl _)
  · rw [Nat.min_eq_right (by omega), Nat.sub_self, List.take_zero, List.drop_eq_nil_of_le (by omega)]
theorem none_back {a p : Addr} {H H1 : Hp} {n : Int} (h : BoxN H1 a n) (b : But a H H1) (hp : H1 p = none) : H p = none := by
  cases z : H p with
  | none => rfl
  | some o =>
    have y := b p o (Ne.symm (h.ne hp)) z
    rw [hp] at y
    cases y
theorem But.upd {a p : Addr} {H H1 : Hp} {o : HO} (b : But a H H1) (hp : H p = none) : But a H (upd H1 p o) := fun c x n e => by
  rw [upd_ne (ne_of_none e hp)]
  exact b c x n e
theorem But.same {a : Addr} {H H1 H2 : Hp} (b : But a H H1) (s : Same H1 H2) : But a H H2 := fun c x n e => s c x (b c x n e)
theorem take_ok {n k : Nat} {l : List Nat} (p : l.Perm (List.range n)) (r : Bool) (h1 : 1 ≤ k) (hk : k ≤ n) (h3 : r = true → 3 ≤ k) : ChOk n (r, l.take k) := by
  have ll : l.length = n := by rw [p.length_eq, List.length_range]
  have nd : l.Nodup := p.nodup_iff.mpr List.nodup_range
  have e : (l.take k).length = k := by rw [List.length_take]; omega
  refine ⟨List.Pairwise.sublist (List.take_sublist k l) nd, fun x hx => ?_, by show 1 ≤ (l.take k).length; omega, fun r' => by show 3 ≤ (l.take k).length; rw [e]; exact h3 r'⟩
  have y := p.mem_iff.mp (List.mem_of_mem_take hx)
  exact List.mem_range.mp y
def spLawShelf (K : PySem.W.Frag) : Sp := fun vs H Q _ => ∃ (a : Addr) (most : Nat) (N : Int), vs = [.ref a, .int (most : Int)] ∧ BoxN H a N ∧ N < 1000000 ∧ 1 ≤ most ∧ most ≤ 16 ∧
  ∀ r H' (n : Nat) (cs : List NCh), But a H H' → BoxN H' a (N + 100) → 1 ≤ n → n ≤ most → cs.length ≤ 4 → (∀ c ∈ cs, ChOk n c) → Dp K H' r (shN n cs) → Q r H'
def spLawLinks (K : PySem.W.Frag) : Sp := fun vs H Q _ => ∃ (v : V) (n : Nat) (cs : List NCh), vs = [v] ∧ Dp K H v (shN n cs) ∧ (∀ c ∈ cs, ChOk n c) ∧ n ≤ 64 ∧ cs.length ≤ 16 ∧
  ∀ p vs' H', Same H H' → H p = none → H' p = some (.lst vs') → DpAll K H' vs' ((llks cs).map prD) → Q (.ref p) H'
theorem nat_at {l : List Nat} {j : Nat} (h : j < l.length) : (nV l)[j]? = some (.int ((l.getD j 0 : Nat) : Int)) := by
  rw [List.getElem?_map, List.getD_eq_getElem?_getD, List.getElem?_eq_getElem h]
  rfl
theorem llkTo_len (c : NCh) : ∀ k, (llkTo c k).length ≤ 2 * k
  | 0 => Nat.zero_le _
  | k + 1 => by
    rw [llkTo_succ, List.length_append]
    have y := llkTo_len c k
    have z : (llk1 c k).length ≤ 2 := by
      unfold llk1
      split <;> simp
    omega
theorem llks_len {n : Nat} : ∀ {cs : List NCh}, (∀ c ∈ cs, ChOk n c) → (llks cs).length ≤ cs.length * (2 * n)
  | [], _ => Nat.zero_le _
  | c :: r, ok => by
    have e : llks (c :: r) = llk c ++ llks r := rfl
    have o := ok c (List.mem_cons_self ..)
    have h2 := List.Nodup.length_le_of_subset o.nd (l₂ := List.range n) fun x hx => List.mem_range.mpr (o.lt x hx)
    rw [List.length_range] at h2
    have h1 : (llk c).length ≤ 2 * c.2.length := llkTo_len c _
    have h3 := llks_len fun c hc => ok c (List.mem_cons_of_mem _ hc)
    rw [e, List.length_append, List.length_cons, Nat.add_mul, Nat.one_mul]
    omega
theorem llks_take {cs : List NCh} {i : Nat} {c : NCh} (h : cs[i]? = some c) : llks (cs.take (i + 1)) = llks (cs.take i) ++ llk c := by
  unfold llks
  rw [List.take_add_one, h, List.flatMap_append]
  show _ ++ (llk c ++ []) = _
  rw [List.append_nil]
theorem dec_nat (a b : Nat) : decide (V.int (a : Int) = V.int (b : Int)) = decide (a = b) := by
  rw [Bool.eq_iff_iff, decide_eq_true_eq, decide_eq_true_eq]
  constructor
  · intro h
    have y : (a : Int) = b := V.int.inj h
    omega
  · rintro rfl
    rfl
def spLawParts (K : PySem.W.Frag) : Sp := fun vs H Q _ => ∃ (n : Nat) (v : V) (L : List (Nat × Nat)), vs = [.int (n : Int), v] ∧ Dp K H v (lkD L) ∧ (∀ p ∈ L, p.1 < n ∧ p.2 < n) ∧ n ≤ 64 ∧
  ∀ r H', Same H H' → Dp K H' r (rwD (lawParts n (nrounds L n n))) → Q r H'
theorem ixN_nat {n k : Nat} (h : k < n) : ixN n (k : Int) = some k := by
  unfold ixN
  rw [if_pos (by omega), if_pos (by omega), Int.toNat_natCast]
theorem nV_set (l : List Nat) (k x : Nat) : (nV l).set k (.int (x : Int)) = nV (l.set k x) := (List.map_set ..).symm
theorem foldl_take_succ {L : List (Nat × Nat)} {j : Nat} {p : Nat × Nat} {nm : List Nat} (h : L[j]? = some p) : (L.take (j + 1)).foldl nstep nm = nstep ((L.take j).foldl nstep nm) p := by
  rw [List.take_add_one, h, List.foldl_append]
  rfl
theorem foldl_len : ∀ {L : List (Nat × Nat)} {nm : List Nat}, (L.foldl nstep nm).length = nm.length
  | [], _ => rfl
  | p :: r, nm => by
    rw [List.foldl_cons, foldl_len, nstep_len]
theorem nrounds_len (L : List (Nat × Nat)) (n : Nat) : ∀ r, (nrounds L n r).length = n
  | 0 => List.length_range
  | r + 1 => by
    show (nround L (nrounds L n r)).length = n
    unfold nround
    rw [foldl_len, nrounds_len L n r]
theorem filter_range_succ (n : Nat) (f : Nat → Bool) : (List.range (n + 1)).filter f = (List.range n).filter f ++ if f n = true then [n] else [] := by
  rw [List.range_succ, List.filter_append, List.filter_cons, List.filter_nil]
/-! ### lists made anew -/
def newer (H H' : Hp) : Hp := fun b => if H b = none then H' b else none
theorem newer_at {H H' : Hp} {b : Addr} (h : H b = none) : newer H H' b = H' b := if_pos h
theorem newer_same {H H1 H2 : Hp} (s : Same H1 H2) : Same (newer H H1) (newer H H2) := fun b o e => by
  unfold newer at e ⊢
  by_cases h : H b = none
  · rw [if_pos h] at e ⊢
    exact s b o e
  · rw [if_neg h] at e
    cases e
theorem newer_off {H H' : Hp} {a : Addr} {o : HO} (h : H a = some o) : Same (newer H H') (off a H') := fun b u e => by
  unfold newer at e
  unfold off
  by_cases hb : H b = none
  · rw [if_pos hb] at e
    rw [if_neg (by rintro rfl; rw [h] at hb; cases hb)]
    exact e
  · rw [if_neg hb] at e
    cases e
theorem newer_all {H H' : Hp} : Same (newer H H') H' := fun b u e => by
  unfold newer at e
  by_cases hb : H b = none
  · rw [if_pos hb] at e
    exact e
  · rw [if_neg hb] at e
    cases e
theorem none_of {H H' : Hp} {b : Addr} (s : Same H H') (h : H' b = none) : H b = none := by
  cases z : H b with
  | none => rfl
  | some o =>
    rw [s b o z] at h
    cases h
def chL (c : NCh) : PyData := .list [.str (if c.1 = true then "ring" else "list"), .list (nI c.2)]
def shL (n : Nat) (cs : List NCh) : PyData := .list [.int (n : Int), .list (cs.map chL)]
def spLawLists (K : PySem.W.Frag) : Sp := fun vs H Q _ => ∃ (v : V) (n : Nat) (cs : List NCh), vs = [v] ∧ Dp K H v (shN n cs) ∧ cs.length ≤ 3000 ∧
  ∀ r H', Same H H' → Dp K (newer H H') r (shL n cs) → Q r H'
end Shf


namespace Shf
open PySem PySem.Spec PyProof.Rows L2 LamX
/-! ### displays: what is made anew, as data -/
def Mk (K : PySem.W.Frag) (σ : L2.St) (t : TE) (d : PyData) : Prop := ∀ H Q, (∀ v H', Same H H' → Dp K (newer H H') v d → Q v H') → t σ H Q
def MkA (K : PySem.W.Frag) (σ : L2.St) (t : TA) (ds : List PyData) : Prop := ∀ H Q, (∀ vs H', Same H H' → DpAll K (newer H H') vs ds → Q vs H') → t σ H Q
def MkL (K : PySem.W.Frag) (σ : L2.St) (t : TE) (ds : List PyData) : Prop := ∀ H Q, (∀ p vs H', Same H H' → H p = none → H' p = some (.lst vs) → DpAll K (newer H H') vs ds → Q (.ref p) H') → t σ H Q
theorem newer_tr {H H1 H2 : Hp} (s : Same H H1) : Same (newer H1 H2) (newer H H2) := fun b o e => by
  unfold newer at e ⊢
  by_cases h1 : H1 b = none
  · rw [if_pos h1] at e
    rw [if_pos (none_of s h1)]
    exact e
  · rw [if_neg h1] at e
    cases e
section
variable {K : PySem.W.Frag} {σ : L2.St} {t ta tb : TE} {tr : TA} {d e : PyData} {ds es : List PyData}
theorem mk_non : Mk K σ (tC .non) .none := fun _ _ q => q _ _ Same.rfl' .non
theorem mk_bl {b : Bool} : Mk K σ (tC (.bl b)) (.bool b) := fun _ _ q => q _ _ Same.rfl' (.bl b)
theorem mk_int {i : Int} : Mk K σ (tC (.int i)) (.int i) := fun _ _ q => q _ _ Same.rfl' (.int i)
theorem mk_str {x : PySem.Str} : Mk K σ (tC (.str x)) (.str x) := fun _ _ q => q _ _ Same.rfl' (.str x)
theorem mk_neg {i : Int} : Mk K σ (tUn (rU fun i => .int (-i)) (tC (.int i))) (.int (-i)) := fun _ _ q => ⟨i, rfl, q _ _ Same.rfl' (.int (-i))⟩
theorem mk_varI {j : Nat} {i : Int} (h : σ[j]? = some (some (.int i))) : Mk K σ (tVar j) (.int i) := fun _ _ q => ⟨_, h, q _ _ Same.rfl' (.int i)⟩
theorem mka_nil : MkA K σ tNil [] := fun _ _ q => q _ _ Same.rfl' .nil
theorem mka_cons (h : Mk K σ t d) (g : MkA K σ tr ds) : MkA K σ (tCons t tr) (d :: ds) := fun H Q q =>
  h H _ fun v H1 s1 h1 => g H1 _ fun vs H2 s2 h2 => q _ _ (s1.tr s2) (.cons (dp_same (newer_same s2) _ _ h1) (dpAll_same (newer_tr s1) _ _ h2))
theorem mkl_lst (h : MkA K σ tr ds) (hl : ds.length ≤ 3000) : MkL K σ (tLst tr) ds := fun H Q q =>
  h H _ fun vs H1 s1 h1 => ⟨by rw [h1.len, sizeLine_eq]; omega, fun p hp => q p vs _ (s1.tr (same_new hp)) (none_of s1 hp) upd_same (dpAll_same (newer_same (same_new hp)) _ _ h1)⟩
theorem MkL.mk (h : MkL K σ t ds) : Mk K σ t (.list ds) := fun H Q q => h H Q fun p vs H1 s1 h0 hp h1 => q _ _ s1 (.lst (SqL.of ((newer_at h0).trans hp)) h1)
theorem mk_lst (h : MkA K σ tr ds) (hl : ds.length ≤ 3000 := by simp) : Mk K σ (tLst tr) (.list ds) := (mkl_lst h hl).mk
theorem mk_tup (h : MkA K σ tr ds) (hl : ds.length ≤ 3000 := by simp) : Mk K σ (tTup tr) (.tuple ds) := fun H Q q =>
  h H _ fun vs H1 s1 h1 => ⟨by rw [h1.len, sizeLine_eq]; omega, fun p hp => q _ _ (s1.tr (same_new hp)) (.tup (SqT.of ((newer_at (none_of s1 hp)).trans upd_same)) (dpAll_same (newer_same (same_new hp)) _ _ h1))⟩
theorem mkl_cat (h : MkL K σ ta ds) (g : MkL K σ tb es) (hl : ds.length + es.length ≤ 3000) : MkL K σ (tOp rCat ta tb) (ds ++ es) := fun H Q q =>
  h H _ fun p vs H1 s1 hp h1 d1 => g H1 _ fun p2 vs2 H2 s2 hp2 h2 d2 => ⟨p, p2, vs, vs2, rfl, rfl, s2 _ _ h1, h2, by rw [d1.len, d2.len, sizeLine_eq]; omega, fun p3 hp3 =>
    q p3 _ _ ((s1.tr s2).tr (same_new hp3)) (none_of (s1.tr s2) hp3) upd_same (dpAll_same (newer_same (same_new hp3)) _ _ (dAll_app (dpAll_same (newer_same s2) _ _ d1) (dpAll_same (newer_tr s1) _ _ d2)))⟩
/-- a name's list and a new one -/
theorem cat_var {j : Nat} {p : Addr} {vs : List V} {H : Hp} {Q : VK} (hσ : σ[j]? = some (some (.ref p))) (hp : H p = some (.lst vs)) (hv : vs.length ≤ 3000) (g : MkL K σ tb es) (hl : es.length ≤ 3000)
    (q : ∀ p3 vs2 H', Same H H' → H p3 = none → H' p3 = some (.lst (vs ++ vs2)) → DpAll K (newer H H') vs2 es → Q (.ref p3) H') : tOp rCat (tVar j) tb σ H Q :=
  ⟨_, hσ, g H _ fun p2 vs2 H2 s2 hp2 h2 d2 => ⟨p, p2, vs, vs2, rfl, rfl, s2 _ _ hp, h2, by rw [d2.len, sizeLine_eq]; omega, fun p3 hp3 =>
    q p3 vs2 _ (s2.tr (same_new hp3)) (none_of s2 hp3) upd_same (dpAll_same (newer_same (same_new hp3)) _ _ d2)⟩⟩
end
/-! ### chains that are none -/
def wrongA (n : Nat) : List PyData := [.none, .int 7, .str "list", .tuple [.str "list"], .tuple [.str "list", .tuple []], .tuple [.str "list", .list [.int (n : Int)]], .tuple [.str "list", .list [.int (-1)]], .tuple [.str "list", .list [.int 0, .int 0]], .tuple [.str "ring", .list [.int 0]]]
def wrongB : List PyData := [.tuple [.str "list", .list [.bool true]], .tuple [.str "row", .list [.int 0]], .tuple [.int 0, .list [.int 0]], .tuple [.str "list", .str "0"], .tuple [.str "list", .list [.int 0], .int 0], .tuple [.str "ring", .list [.int 0, .int 0, .int 0]]]
def wrongC (n : Nat) : List PyData := [.tuple [.str "ring", .list (nI (List.range (min n 2)))], .tuple [.list [], .list [.int 0]], .tuple [.str "list", .list [.none]], .tuple [.str "list", .list [.list [.int 0]]]]
theorem wrongA_bad {n : Nat} (hn : 1 ≤ n) : ∀ d ∈ wrongA n, dChain n d = false ∧ dOk d := by
  intro d hd
  unfold wrongA at hd
  simp only [List.mem_cons, List.not_mem_nil, or_false] at hd
  rcases hd with rfl | rfl | rfl | rfl | rfl | rfl | rfl | rfl | rfl
  · exact ⟨by kernel_rfl, by kernel_rfl, by kernel_rfl⟩
  · exact ⟨by kernel_rfl, by kernel_rfl, by kernel_rfl⟩
  · exact ⟨by kernel_rfl, by kernel_rfl, by kernel_rfl⟩
  · exact ⟨by kernel_rfl, by kernel_rfl, by kernel_rfl⟩
  · exact ⟨by kernel_rfl, by kernel_rfl, by kernel_rfl⟩
  · exact ⟨by simp [dChain, dPair, dRow, dSeq, dItems, dIn, dStr, dInts]; omega, by kernel_rfl, by kernel_rfl⟩
  · exact ⟨by simp [dChain, dPair, dRow, dSeq, dItems, dIn, dStr, dInts], by kernel_rfl, by kernel_rfl⟩
  · exact ⟨by simp [dChain, dPair, dRow, dSeq, dItems, dIn, dStr, dInts], by kernel_rfl, by kernel_rfl⟩
  · exact ⟨by simp [dChain, dPair, dRow, dSeq, dItems, dIn, dStr, dInts]; intro _; decide +kernel, by kernel_rfl, by kernel_rfl⟩
theorem wrongB_bad {n : Nat} (hn : 1 ≤ n) : ∀ d ∈ wrongB, dChain n d = false ∧ dOk d := by
  intro d hd
  unfold wrongB at hd
  simp only [List.mem_cons, List.not_mem_nil, or_false] at hd
  rcases hd with rfl | rfl | rfl | rfl | rfl | rfl
  · exact ⟨by simp [dChain, dPair, dRow, dSeq, dItems, dIn, dStr, dInts], by kernel_rfl, by kernel_rfl⟩
  · exact ⟨by simp [dChain, dPair, dRow, dSeq, dItems, dIn, dStr, dInts]; intro _; decide +kernel, by kernel_rfl, by kernel_rfl⟩
  · exact ⟨by simp [dChain, dPair, dRow, dSeq, dItems, dIn, dStr, dInts], by kernel_rfl, by kernel_rfl⟩
  · exact ⟨by simp [dChain, dPair, dRow, dSeq, dItems, dIn, dStr, dInts], by kernel_rfl, by kernel_rfl⟩
  · exact ⟨by kernel_rfl, by kernel_rfl, by kernel_rfl⟩
  · exact ⟨by simp [dChain, dPair, dRow, dSeq, dItems, dIn, dStr, dInts], by kernel_rfl, by kernel_rfl⟩
theorem min_two (n : Nat) (hn : 1 ≤ n) : min n 2 = 1 ∨ min n 2 = 2 := by omega
theorem wrongC_bad {n : Nat} (hn : 1 ≤ n) : ∀ d ∈ wrongC n, dChain n d = false ∧ dOk d := by
  intro d hd
  unfold wrongC at hd
  simp only [List.mem_cons, List.not_mem_nil, or_false] at hd
  rcases hd with rfl | rfl | rfl | rfl
  · rcases min_two n hn with e | e
    · rw [e]
      exact ⟨by simp [dChain, dPair, dRow, dSeq, dItems, dIn, dStr, dInts, List.range_succ]; intro _; decide +kernel, by kernel_rfl, by kernel_rfl⟩
    · rw [e]
      exact ⟨by simp [dChain, dPair, dRow, dSeq, dItems, dIn, dStr, dInts, List.range_succ]; intro _ _; decide +kernel, by kernel_rfl, by kernel_rfl⟩
  · exact ⟨by simp [dChain, dPair, dRow, dSeq, dItems, dIn, dStr, dInts], by kernel_rfl, by kernel_rfl⟩
  · exact ⟨by simp [dChain, dPair, dRow, dSeq, dItems, dIn, dStr, dInts], by kernel_rfl, by kernel_rfl⟩
  · exact ⟨by simp [dChain, dPair, dRow, dSeq, dItems, dIn, dStr, dInts], by kernel_rfl, by kernel_rfl⟩
def wrongs (n : Nat) : List PyData := wrongA n ++ wrongB ++ wrongC n
theorem wrongs_bad {n : Nat} (hn : 1 ≤ n) : ∀ d ∈ wrongs n, dChain n d = false ∧ dOk d := by
  intro d hd
  unfold wrongs at hd
  rcases List.mem_append.mp hd with hd | hd
  · rcases List.mem_append.mp hd with hd | hd
    · exact wrongA_bad hn d hd
    · exact wrongB_bad hn d hd
  · exact wrongC_bad hn d hd
theorem depAll_two {d e : PyData} {m : Nat} (h1 : PyData.depth d ≤ m) (h2 : PyData.depth e ≤ m) : PyData.depth (.tuple [d, e]) ≤ m + 1 := by
  rw [PyData.depth, PyData.depthAll, PyData.depthAll, PyData.depthAll]
  omega
theorem depAll_nI : ∀ l : List Nat, PyData.depthAll (nI l) = 0
  | [] => rfl
  | x :: r => by
    show PyData.depthAll (.int (x : Int) :: nI r) = 0
    rw [PyData.depthAll, depAll_nI r]
    rfl
theorem wrongs_dep {n : Nat} : ∀ d ∈ wrongs n, PyData.depth d ≤ 38 := by
  intro d hd
  unfold wrongs at hd
  rcases List.mem_append.mp hd with hd | hd
  · rcases List.mem_append.mp hd with hd | hd
    · unfold wrongA at hd
      simp only [List.mem_cons, List.not_mem_nil, or_false] at hd
      rcases hd with rfl | rfl | rfl | rfl | rfl | rfl | rfl | rfl | rfl <;> simp [PyData.depth, PyData.depthAll]
    · unfold wrongB at hd
      simp only [List.mem_cons, List.not_mem_nil, or_false] at hd
      rcases hd with rfl | rfl | rfl | rfl | rfl | rfl <;> simp [PyData.depth, PyData.depthAll]
  · unfold wrongC at hd
    simp only [List.mem_cons, List.not_mem_nil, or_false] at hd
    rcases hd with rfl | rfl | rfl | rfl
    · refine Nat.le_trans (depAll_two (m := 1) (Nat.zero_le _) ?_) (by decide)
      rw [PyData.depth, depAll_nI]
      exact Nat.le_refl _
    all_goals simp [PyData.depth, PyData.depthAll]
def spWrongChain (K : PySem.W.Frag) : Sp := fun vs H Q _ => ∃ (a : Addr) (n : Nat) (N : Int), vs = [.ref a, .int (n : Int)] ∧ BoxN H a N ∧ N < 1000000 ∧ 1 ≤ n ∧ n ≤ 3000 ∧
  ∀ r H' d, But a H H' → BoxN H' a (N + 1) → dChain n d = false → (dOk d ∧ PyData.depth d ≤ 38) → Dp K (off a H') r d → Q r H'
end Shf


namespace L2
open PySem PySem.Spec PyProof.Rows
section
variable {P : Program} {w : World} {K : PySem.W.Frag} {mg : PySem.Str → Option Value} {base : Heap} {CX : CXT} {k : Nat} {f : Addr} {fd : FuncData} {ps : List PySem.Str} {sp : Sp}
/-- a def's promise, its code object told -/
theorem FunD.okc {x qual : PySem.Str} {params : Arguments} {body : List Stmt} {scope : Scope} {dvs : List V} {kws : List (PySem.Str × V)} {N : List PySem.Str} (F : FunD K x qual params body scope dvs kws f fd) (Sc : FnScope N ps scope) (len : ∀ vs H Q E, sp vs H Q E → vs.length = ps.length)
    (hbody : ∀ (cdv : Value), AtCode K f fd cdv qual → ∀ (A : Around) (outer : List Env) (s : Shared) (H : Hp) (vs : List V) (Q : VK) (E : XK), Room k (A.deeper (envOfC qual scope s.heap.objs.size f cdv)) → sp vs H Q E →
      ∃ t, PSs (cxOf CX P w K mg base N qual scope f cdv A outer s H E) body t ∧ t { nx := fun _ H' => Q .non H', rt := Q } (start N vs) H) : FnOk P w K mg base CX (k + 1) f fd ps sp := by
  obtain ⟨oc, od, dV, kV, doc, pm, an, cdv, ct, osl, rfl, lk, hcd, _, _⟩ := F.ex
  exact fn_of lk hcd Sc len fun A outer s H vs Q E hr hsp => hbody cdv ⟨⟨_, _, _, lk⟩, rfl, hcd⟩ A outer s H vs Q E hr hsp
end
/-! f(k = e) -/
section
variable {X : Cx} {CX : CXT} {k : Nat} {f : Addr} {fd : FuncData} {sp : Sp} {E : XK} {x nm : PySem.Str} {p pos kp : Pos} {e : Expr} {te : TE}
def KB1 (K : PySem.W.Frag) (fd : FuncData) (nm : PySem.Str) : Prop := ∀ (s : Shared) (u : Value), K.In s.heap → BindsTo s fd ⟨[], [(nm, u)]⟩ [(nm, u)]
theorem pe_callK1 (F : FnOk X.prog X.w X.K X.mg X.base CX k f fd [nm] sp) (hr : Room k X.A) (hg : Gl X x) (hm : X.mg x = some (.ref f)) (hk : PySem.W.keepIn X.K (.ref f) = true) (hb : KB1 X.K fd nm) (hx : Passes CX X E) (he : PE X e te)
    (hall : (backToKw pos (keywordEach [⟨some nm, e, kp⟩] X.env)).all (·.1.isSome) = true := by rfl) (hks : (backToKw pos (keywordEach [⟨some nm, e, kp⟩] X.env)).filterMap (·.1) = [nm] := by rfl) (hdb : (x == ("__debug__" : PySem.Str)) = false := by decide)
    (hpl : ((backTo pos (starEach [] X.env)).any (·.1) || (backToKw pos (keywordEach [⟨some nm, e, kp⟩] X.env)).any (·.1.isNone)) = false := by rfl) :
    PE X (.Call (.Name x p) [] [⟨some nm, e, kp⟩] pos) (tCall sp [] E (tCons te tNil)) := by
  refine ⟨fun pins s σ H Q I h => ?_⟩
  refine wpAny_Call_Name_kw (ld_glob I hg hm ?_ hdb)
  refine PySem.W.callWith_KW0 (h₀ := X.base) I.ok.mod.kin hk hall ?_ hpl
  refine thn ((pk_cons (nm := nm) (kpos := kp) he pk_nil).run pos pins s σ H (fun zs H1 => sp zs H1 Q E) I (show te σ H (fun x H1 => sp [x] H1 Q E) from by
    have e0 : (fun (vs : List V) (H1 : Hp) => sp (vs ++ []) H1 Q E) = fun vs H1 => sp vs H1 Q E := by
      funext vs H1
      rw [List.append_nil]
    exact h)) fun ws s1 hh => ?_
  obtain ⟨zs, H1, I1, rz, q⟩ := hh
  refine ⟨I1.kIn, ?_⟩
  rw [hks]
  have hl : zs.length = 1 := F.len _ _ _ _ q
  obtain ⟨z, u, rfl, rfl, rzu⟩ : ∃ z u, zs = [z] ∧ ws = [u] ∧ RelV z u := by
    match zs, ws, hl, rz with
    | [z], [u], _, .cons r .nil => exact ⟨z, u, rfl, rfl, r⟩
  refine wpAny_call (codeAny_mono (F.run X.A X.stack s1 H1 ⟨[], [(nm, u)]⟩ [u] [z] Q E hr I1.env0 (hb s1 u I1.kIn) (.cons rzu .nil) q) fun r s' hq => ?_)
  cases r with
  | error e => exact hx pins σ H1 s1 e s' I1 hq
  | ok fl =>
    cases fl with
    | ret u => exact I1.after hq
    | next => exact False.elim hq
    | brk => exact False.elim hq
    | cont => exact False.elim hq
end
end L2
namespace Shf
open PySem PySem.Spec PyProof.Rows L2 LamX
theorem Fk.kw {P : Program} {w : World} {K : PySem.W.Frag} {mg : PySem.Str → Option Value} {base : Heap} {k : Nat} {x nm : PySem.Str} {sp : Sp} {st : Stmt} {fd : FuncData} (c : Fk P w K mg base k x [nm] sp) (h : Has K mg x st fd)
    (hb : ∀ (kV doc pm : Value) (an : Option Addr) (cdv ct : Value) (u : Value), bindArgs (PySem.W.fnOf x x (defArgs st) (defBody st) (defScope st) .none kV doc pm an cdv ct) ⟨[], [(nm, u)]⟩ = pure [(nm, u)]) :
    ∃ fd, FnOk P w K mg base (L2.CX P w) k (ea K x) fd [nm] sp ∧ KB1 K fd nm := by
  obtain ⟨fd1, F, _, oc1, od1, osl1, lk1⟩ := c.ex
  obtain ⟨oc, od, dV, kV, doc, pm, an, cdv, ct, osl, rfl, lk, hcd, hD, hK⟩ := h.F.ex
  have e : fd1 = PySem.W.fnOf x x (defArgs st) (defBody st) (defScope st) dV kV doc pm an cdv ct := by
    rw [lk] at lk1
    have y := congrArg Obj.data (Option.some.inj lk1)
    exact (Data.func.inj y).symm
  rcases hD with ⟨_, rfl⟩ | ⟨e2, _⟩
  · refine ⟨fd1, F, fun s u _ => ?_⟩
    rw [e]
    exact BindsTo.of_eq (hb kV doc pm an cdv ct u)
  · exact absurd rfl e2
/-! ### data that can be shown and compared -/
structure Nice (d : PyData) (dp wt : Nat) : Prop where
  lay : PyData.canLay0 d = true
  dep : PyData.depth d ≤ dp
  wt : PyData.weight d ≤ wt
  sh : PyData.intsShort 13 d = true
  sw : PyData.showable d = true
theorem Nice.le {d : PyData} {a b a' b' : Nat} (h : Nice d a b) (h1 : a ≤ a') (h2 : b ≤ b') : Nice d a' b' := ⟨h.lay, Nat.le_trans h.dep h1, Nat.le_trans h.wt h2, h.sh, h.sw⟩
theorem nice_nat {n : Nat} (h : n < 1000000) : Nice (.int (n : Int)) 0 20 := by
  have l : (n : Int).natAbs.log2 < 20 := by
    rw [Int.natAbs_natCast]
    by_cases e : n = 0
    · subst e
      decide
    · exact (Nat.log2_lt e).mpr (by omega)
  refine ⟨rfl, Nat.le_refl _, ?_, ?_, ?_⟩
  · rw [PyData.weight]
    split <;> omega
  · rw [PyData.intsShort, decide_eq_true_eq]
    exact PyData.shown_int_le2 (by omega) (by omega)
  · rw [PyData.showable, decide_eq_true_eq]
    omega
mutual
def niceB (dp : Nat) (wt : Nat) : PyData → Bool := fun d => PyData.canLay0 d && decide (PyData.depth d ≤ dp) && decide (PyData.weight d ≤ wt) && PyData.intsShort 13 d && PyData.showable d
end
theorem nice_of {d : PyData} {dp wt : Nat} (h : niceB dp wt d = true) : Nice d dp wt := by
  unfold niceB at h
  rw [Bool.and_eq_true, Bool.and_eq_true, Bool.and_eq_true, Bool.and_eq_true, decide_eq_true_eq, decide_eq_true_eq] at h
  obtain ⟨⟨⟨⟨h1, h2⟩, h3⟩, h4⟩, h5⟩ := h
  exact ⟨h1, h2, h3, h4, h5⟩
/-- of all of a list -/
structure NiceA (ds : List PyData) (dp wt : Nat) : Prop where
  lay : PyData.canLayAll0 ds = true
  dep : PyData.depthAll ds ≤ dp
  wt : PyData.weightAll ds ≤ wt
  sh : PyData.intsShortAll 13 ds = true
  sw : PyData.showableAll ds = true
theorem niceA_nil {dp : Nat} : NiceA [] dp 0 := ⟨rfl, Nat.zero_le _, Nat.le_refl _, rfl, rfl⟩
theorem niceA_cons {d : PyData} {ds : List PyData} {dp a b : Nat} (h : Nice d dp a) (g : NiceA ds dp b) : NiceA (d :: ds) dp (a + 1 + b) := by
  refine ⟨?_, ?_, ?_, ?_, ?_⟩
  · rw [PyData.canLayAll0, h.lay, g.lay]
    rfl
  · rw [PyData.depthAll]
    exact Nat.max_le.mpr ⟨h.dep, g.dep⟩
  · rw [PyData.weightAll]
    have := h.wt
    have := g.wt
    omega
  · rw [PyData.intsShortAll, h.sh, g.sh]
    rfl
  · rw [PyData.showableAll, h.sw, g.sw]
    rfl
theorem niceA_map {α : Type} {f : α → PyData} {dp a : Nat} : ∀ {l : List α}, (∀ x ∈ l, Nice (f x) dp a) → NiceA (l.map f) dp (l.length * (a + 1))
  | [], _ => by
    rw [List.length_nil, Nat.zero_mul]
    exact niceA_nil
  | x :: r, h => by
    have z := niceA_cons (h x (List.mem_cons_self ..)) (niceA_map (l := r) fun y hy => h y (List.mem_cons_of_mem _ hy))
    rw [List.length_cons, Nat.add_mul, Nat.one_mul, Nat.add_comm]
    exact z
theorem nice_tup {ds : List PyData} {dp wt : Nat} (g : NiceA ds dp wt) : Nice (.tuple ds) (dp + 1) wt := by
  refine ⟨?_, ?_, ?_, ?_, ?_⟩
  · rw [PyData.canLay0]; exact g.lay
  · rw [PyData.depth]; exact Nat.succ_le_succ g.dep
  · rw [PyData.weight]; exact g.wt
  · rw [PyData.intsShort]; exact g.sh
  · rw [PyData.showable]; exact g.sw
theorem nice_lst {ds : List PyData} {dp wt : Nat} (g : NiceA ds dp wt) : Nice (.list ds) (dp + 1) wt := by
  refine ⟨?_, ?_, ?_, ?_, ?_⟩
  · rw [PyData.canLay0]; exact g.lay
  · rw [PyData.depth]; exact Nat.succ_le_succ g.dep
  · rw [PyData.weight]; exact g.wt
  · rw [PyData.intsShort]; exact g.sh
  · rw [PyData.showable]; exact g.sw
theorem niceA_le {ds : List PyData} {a b a' b' : Nat} (h : NiceA ds a b) (h1 : a ≤ a') (h2 : b ≤ b') : NiceA ds a' b' := ⟨h.lay, Nat.le_trans h.dep h1, Nat.le_trans h.wt h2, h.sh, h.sw⟩
theorem Nice.shaped {d : PyData} {dp wt : Nat} (h : Nice d dp wt) (h1 : dp ≤ 60) : SeqAt.shaped d = true := by
  unfold SeqAt.shaped
  rw [h.lay, Bool.true_and, decide_eq_true_eq]
  have := h.dep
  omega
theorem Nice.refl {d : PyData} {dp wt : Nat} (h : Nice d dp wt) : PyData.eqv d d = true := SeqAt.eqv_refl_plain d (PyData.plain_of_canLay0 d h.lay)
/-- repr's question -/
theorem Nice.repr {K : PySem.W.Frag} {H : Hp} {a : Addr} {d : PyData} {dp wt : Nat} {Q : VK} (h : Nice d dp wt) (h1 : dp ≤ 60) (h2 : wt ≤ 1000000) (hd : Dp K H (.ref a) d) (q : Q (.str d.shown) H) : rRepr K [.ref a] H Q := by
  refine ⟨.ref a, d, rfl, hd, h.sw, PyData.hasDict_of_canLay d h.lay, Nat.le_trans h.dep h1, ?_, ⟨a, rfl⟩, q⟩
  have z := shown_le13 (d := d) (by
    unfold PyData.layable0
    rw [h.lay, Bool.true_and, Bool.and_eq_true, decide_eq_true_eq, decide_eq_true_eq]
    have := h.dep
    have := h.wt
    exact ⟨by omega, by omega⟩) h.sh
  rw [sizeLine_eq]
  omega
theorem nice_kind (r : Bool) : Nice (.str (if r = true then "ring" else "list")) 0 8 := by
  cases r
  · exact nice_of (by decide +kernel)
  · exact nice_of (by decide +kernel)
theorem nice_nI {l : List Nat} (h : ∀ x ∈ l, x < 1000000) : NiceA (nI l) 0 (l.length * 21) := niceA_map fun x hx => nice_nat (h x hx)
theorem nice_chN {n : Nat} {c : NCh} (o : ChOk n c) (hn : n ≤ 200) : Nice (chN c) 2 (8 + 1 + (200 * 21 + 1 + 0)) := by
  have h2 := List.Nodup.length_le_of_subset o.nd (l₂ := List.range n) fun x hx => List.mem_range.mpr (o.lt x hx)
  rw [List.length_range] at h2
  exact nice_tup (niceA_cons ((nice_kind c.1).le (by omega) (by omega)) (niceA_cons ((nice_tup (nice_nI fun x hx => by have := o.lt x hx; omega)).le (Nat.le_refl _) (Nat.mul_le_mul_right 21 (by omega))) niceA_nil))
theorem nice_shN {n : Nat} {cs : List NCh} (o : ∀ c ∈ cs, ChOk n c) (hn : n ≤ 200) (hc : cs.length ≤ 200) : Nice (shN n cs) 4 1000000 := by
  have y := niceA_map (f := chN) fun c hc => nice_chN (o c hc) hn
  have z := nice_tup (niceA_cons ((nice_nat (n := n) (by omega)).le (Nat.zero_le 3) (Nat.le_refl _)) (niceA_cons (nice_tup y) niceA_nil))
  refine z.le (Nat.le_refl _) ?_
  have e : cs.length * (8 + 1 + (200 * 21 + 1 + 0) + 1) ≤ 200 * 4211 := Nat.mul_le_mul hc (by decide)
  omega
theorem nice_chL {n : Nat} {c : NCh} (o : ChOk n c) (hn : n ≤ 200) : Nice (chL c) 2 (8 + 1 + (200 * 21 + 1 + 0)) := by
  have h2 := List.Nodup.length_le_of_subset o.nd (l₂ := List.range n) fun x hx => List.mem_range.mpr (o.lt x hx)
  rw [List.length_range] at h2
  exact nice_lst (niceA_cons ((nice_kind c.1).le (by omega) (by omega)) (niceA_cons ((nice_lst (nice_nI fun x hx => by have := o.lt x hx; omega)).le (Nat.le_refl _) (Nat.mul_le_mul_right 21 (by omega))) niceA_nil))
theorem nice_shL {n : Nat} {cs : List NCh} (o : ∀ c ∈ cs, ChOk n c) (hn : n ≤ 200) (hc : cs.length ≤ 200) : Nice (shL n cs) 4 1000000 := by
  have y := niceA_map (f := chL) fun c hc => nice_chL (o c hc) hn
  have z := nice_lst (niceA_cons ((nice_nat (n := n) (by omega)).le (Nat.zero_le 3) (Nat.le_refl _)) (niceA_cons (nice_lst y) niceA_nil))
  refine z.le (Nat.le_refl _) ?_
  have e : cs.length * (8 + 1 + (200 * 21 + 1 + 0) + 1) ≤ 200 * 4211 := Nat.mul_le_mul hc (by decide)
  omega
theorem nice_lkD {L : List (Nat × Nat)} (h : ∀ p ∈ L, p.1 < 64 ∧ p.2 < 64) (hl : L.length ≤ 3000) : Nice (lkD L) 2 1000000 := by
  have y := niceA_map (f := fun p : Nat × Nat => PyData.tuple [.int (p.1 : Int), .int (p.2 : Int)]) (l := L) (dp := 1) (a := 20 + 1 + (20 + 1 + 0)) fun p hp => nice_tup (niceA_cons (nice_nat (by have := h p hp; omega)) (niceA_cons (nice_nat (by have := h p hp; omega)) niceA_nil))
  refine (nice_tup y).le (Nat.le_refl _) ?_
  omega
theorem nice_rwD {rs : List (List Nat)} {m : Nat} (h : ∀ r ∈ rs, r.length ≤ m ∧ ∀ x ∈ r, x < 1000000) (hl : rs.length ≤ 200) (hm : m ≤ 200) : Nice (rwD rs) 2 1000000 := by
  have y := niceA_map (f := fun r : List Nat => PyData.tuple (nI r)) (l := rs) (dp := 1) (a := m * 21) fun r hr => (nice_tup (nice_nI (h r hr).2)).le (Nat.le_refl _) (Nat.mul_le_mul_right 21 (h r hr).1)
  refine (nice_tup y).le (Nat.le_refl _) ?_
  have e : rs.length * (m * 21 + 1) ≤ 200 * 4201 := Nat.mul_le_mul hl (by omega)
  omega
/-! ### a step of the law: all stays but the box and the tables -/
def Stp (a : Addr) (H H' : Hp) : Prop := ∀ b o, b ≠ a → H b = some o → (∀ ps, o ≠ .tbl ps) → H' b = some o
theorem Stp.rfl' {a : Addr} {H : Hp} : Stp a H H := fun _ _ _ e _ => e
theorem Stp.tr {a : Addr} {H H1 H2 : Hp} (x : Stp a H H1) (y : Stp a H1 H2) : Stp a H H2 := fun b o n e t => y b o n (x b o n e t) t
theorem Stp.of {a : Addr} {H H' : Hp} (s : Same H H') : Stp a H H' := fun b o _ e _ => s b o e
theorem Stp.ext {a : Addr} {H H' : Hp} (s : ExtN H H') : Stp a H H' := fun b o _ e t => s b o e t
theorem Stp.but {a : Addr} {H H' : Hp} (s : But a H H') : Stp a H H' := fun b o n e _ => s b o n e
theorem Stp.off {a : Addr} {H H' : Hp} (s : Stp a H H') : ExtN (off a H) (off a H') := fun b o e t => by
  unfold Shf.off at e ⊢
  by_cases h : b = a
  · rw [if_pos h] at e
    cases e
  · rw [if_neg h] at e ⊢
    exact s b o h e t
theorem Stp.keep {a : Addr} {H H' : Hp} {xs : List V} (s : Stp a H H') (ha : H a = some (.lst xs)) : KeepT H H' := fun b ys =>
  ⟨fun h => s b _ (fun z => by rw [z, ha] at h; cases h) h (fun _ z => by cases z), fun o h => s b _ (fun z => by rw [z, ha] at h; cases h) h (fun _ z => by cases z)⟩
theorem tabs_but {T : List (Addr × PySem.Str)} {a : Addr} {H H' : Hp} {xs : List V} (t : Tabs T H) (s : But a H H') (ha : H a = some (.lst xs)) : Tabs T H' := fun p hp => by
  obtain ⟨ps, h1, h2, h3⟩ := t p hp
  refine ⟨ps, s _ _ (fun z => by rw [z, ha] at h1; cases h1) h1, h2, fun pos cv hc => ?_⟩
  obtain ⟨c, rfl, hcc⟩ := h3 pos cv hc
  exact ⟨c, rfl, s _ _ (fun z => by rw [z, ha] at hcc; cases hcc) hcc⟩
theorem tabs_same {T : List (Addr × PySem.Str)} {H H' : Hp} (t : Tabs T H) (s : Same H H') : Tabs T H' := t.ext s
/-- a def's own table of lambdas -/
def tbN (K : PySem.W.Frag) (x : PySem.Str) : Addr × PySem.Str := ((He.cT K (x, none)).2, (x ++ ".<locals>.") ++ "<lambda>")
def tbs (K : PySem.W.Frag) (xs : List PySem.Str) : List (Addr × PySem.Str) := xs.map (tbN K)
theorem tabOk_of {X : Cx} {x : PySem.Str} {xs : List PySem.Str} {fd : FuncData} {cdv : Value} (h : AtCode X.K (ea X.K x) fd cdv x) (hx : x ∈ xs) (two : ((xs.map fun y => (He.cT X.K (y, none)).2)).Nodup)
    (tb : ∀ y ∈ xs, TabB X.base X.mg (He.cT X.K (y, none)).1 (He.cT X.K (y, none)).2) (hq : X.env.qual = x ++ ".<locals>.") (hc : X.env.code = cdv) : TabOk X (tbs X.K xs) (He.cT X.K (x, none)).1 (He.cT X.K (x, none)).2 := by
  obtain ⟨⟨oc, od, osl, lk⟩, e1, e2⟩ := h
  obtain ⟨cc, rfl⟩ := He.codeIn_ref e2
  have e3 : (He.cT X.K (x, none)).1 = cc := He.codeOf_eq (p := (x, none)) lk e1
  refine ⟨tb x hx, by rw [hc, e3], ?_, fun p hp e => ?_⟩
  · rw [hq]
    exact List.mem_map_of_mem hx
  · obtain ⟨y, hy, rfl⟩ := List.mem_map.mp hp
    have ey : y = x := map_inj two y hy x hx e
    rw [ey, hq]
    rfl
def spWholeLists (K : PySem.W.Frag) (Ts : List (Addr × PySem.Str)) : Sp := fun vs H Q _ => ∃ (a : Addr) (N : Int), vs = [.ref a] ∧ BoxN H a N ∧ N < 1000000 ∧ Tabs Ts H ∧
  ∀ H', Stp a H H' → BoxN H' a (N + 10) → Tabs Ts H' → Q (.bl true) H'
theorem mk_rg {K : PySem.W.Frag} {σ : L2.St} {j n : Nat} (h : σ[j]? = some (some (.int (n : Int)))) (hn : n ≤ 200) : Mk K σ (tTupRg (tRg1 (tVar j))) (.tuple (nI (List.range n))) := fun H Q q =>
  ⟨_, h, n, rfl, RgOk.of_le (by omega) (by omega) (by omega) (by omega), fun p hp => q _ _ (same_new hp) (.tup (SqT.of ((newer_at hp).trans upd_same)) (by rw [rgV_nat]; exact dAll_nat _))⟩
theorem mk_whole {K : PySem.W.Frag} {σ : L2.St} {j n : Nat} (r : Bool) (h : σ[j]? = some (some (.int (n : Int)))) (hn : n ≤ 200) :
    Mk K σ (tTup (tCons (tVar j) (tCons (tTup (tCons (tTup (tCons (tC (.str (if r = true then "ring" else "list"))) (tCons (tTupRg (tRg1 (tVar j))) tNil))) tNil)) tNil))) (shN n [(r, List.range n)]) :=
  mk_tup (mka_cons (mk_varI h) (mka_cons (mk_tup (mka_cons (mk_tup (mka_cons mk_str (mka_cons (mk_rg h hn) mka_nil))) mka_nil)) mka_nil))
theorem ne_same {K : PySem.W.Frag} {H : Hp} {x y : V} {d : PyData} {dp wt : Nat} {Q : VK} (hx : Dp K H x d) (hy : Dp K H y d) (h : Nice d dp wt) (h1 : dp ≤ 60) (q : Q (.bl false) H) : rNeD K x y H Q :=
  ⟨d, d, hx, hy, h.shaped h1, h.shaped h1, by rw [h.refl]; exact q⟩
theorem eq_same {K : PySem.W.Frag} {H : Hp} {x y : V} {d : PyData} {dp wt : Nat} {Q : VK} (hx : Dp K H x d) (hy : Dp K H y d) (h : Nice d dp wt) (h1 : dp ≤ 60) (q : Q (.bl true) H) : rEqD K x y H Q :=
  ⟨d, d, hx, hy, h.shaped h1, h.shaped h1, by rw [h.refl]; exact q⟩
theorem ok_whole {n : Nat} {r : Bool} (h1 : 1 ≤ n) (h3 : r = true → 3 ≤ n) : ∀ c ∈ [((r, List.range n) : NCh)], ChOk n c := by
  intro c hc
  rw [List.mem_singleton] at hc
  subst hc
  exact ⟨List.nodup_range, fun x hx => List.mem_range.mp hx, by show 1 ≤ (List.range n).length; rw [List.length_range]; exact h1, fun z => by show 3 ≤ (List.range n).length; rw [List.length_range]; exact h3 z⟩
theorem dIn_nat {lo n : Nat} : dIn lo 200 (.int (n : Int)) = (decide (lo ≤ n) && decide (n ≤ 200)) := by
  show (decide ((lo : Int) ≤ n) && decide ((n : Int) ≤ 200)) = _
  rw [Bool.eq_iff_iff]
  simp only [Bool.and_eq_true, decide_eq_true_eq]
  omega
def szD : PyData := .tuple [.str "size", .str "cells"]
theorem nice_sz : Nice szD 1 100 := nice_of (by decide +kernel)
def atD (x : Int) : PyData := .tuple [.str "shelf", .int x]
def sizesBad : List PyData := [.int 0, .int (-1), .int 201, .none, .bool true, .str "3", .list [.int 3]]
theorem sizes_bad : ∀ d ∈ sizesBad, dIn 1 200 d = false ∧ dIn 3 200 d = false := by
  intro d hd
  unfold sizesBad at hd
  simp only [List.mem_cons, List.not_mem_nil, or_false] at hd
  rcases hd with rfl | rfl | rfl | rfl | rfl | rfl | rfl <;> exact ⟨rfl, rfl⟩
end Shf


namespace Shf
open PySem PySem.Spec PyProof.Rows L2 LamX
/-! ### shelves told -/
theorem dInts_nI : ∀ l : List Nat, dInts (nI l) = l.map fun x : Nat => (x : Int)
  | [] => rfl
  | x :: r => by
    show (x : Int) :: dInts (nI r) = (x : Int) :: r.map fun x : Nat => (x : Int)
    rw [dInts_nI r]
theorem dRow_nI {m : Nat} {d : PyData} {l : List Nat} (hs : dSeq d = true) (hi : dItems d = nI l) (lt : ∀ x ∈ l, x < m) (nd : l.Nodup) : dRow m d = true := by
  unfold dRow
  rw [hs, hi, Bool.true_and, Bool.and_eq_true, decide_eq_true_eq, dInts_nI]
  refine ⟨?_, ?_⟩
  · rw [List.all_eq_true]
    intro z hz
    obtain ⟨x, hx, rfl⟩ := List.mem_map.mp hz
    have y := lt x hx
    show (decide ((0 : Int) ≤ (x : Int)) && decide ((x : Int) ≤ (m : Int) - 1)) = true
    rw [Bool.and_eq_true, decide_eq_true_eq, decide_eq_true_eq]
    omega
  · rw [List.Nodup, List.pairwise_map]
    exact nd.imp fun h e => h (by omega)
theorem dStr_self (x : PySem.Str) : dStr x (.str x) = true := by
  show (x == x) = true
  rw [beq_self_eq_true]
theorem ring_list : dStr "ring" (.str "list") = false := by decide +kernel
theorem list_ring : dStr "list" (.str "ring") = false := by decide +kernel
theorem dChain_of {m : Nat} {c : NCh} {d e : PyData} (ok : ChOk m c) (hs : dSeq d = true) (hi : dItems d = [.str (if c.1 = true then "ring" else "list"), e]) (es : dSeq e = true) (ei : dItems e = nI c.2) : dChain m d = true ∧ chOf d = chI c := by
  have h1 : (dItems d).getD 1 .none = e := by rw [hi]; rfl
  have h0 : (dItems d).getD 0 .none = .str (if c.1 = true then "ring" else "list") := by rw [hi]; rfl
  have len : (dItems e).length = c.2.length := by rw [ei, List.length_map]
  refine ⟨?_, ?_⟩
  · unfold dChain
    rw [h1, h0, len, dRow_nI es ei ok.lt ok.nd, Bool.true_and]
    have hp : dPair d = true := by
      unfold dPair
      rw [hs, hi]
      rfl
    rw [hp, Bool.true_and]
    by_cases r : c.1 = true
    · rw [if_pos r, list_ring, dStr_self, Bool.false_and, Bool.false_or, Bool.true_and, decide_eq_true_eq]
      exact ok.ring r
    · rw [if_neg r, dStr_self, Bool.true_and, decide_eq_true ok.ne, Bool.true_or]
  · show (dStr "ring" ((dItems d).getD 0 .none), dInts (dItems ((dItems d).getD 1 .none))) = _
    rw [h1, h0, ei, dInts_nI]
    obtain ⟨b, l⟩ := c
    cases b
    · show (dStr "ring" (.str "list"), _) = _
      rw [ring_list]
      rfl
    · show (dStr "ring" (.str "ring"), _) = _
      rw [dStr_self]
      rfl
theorem dChain_N {m : Nat} {c : NCh} (ok : ChOk m c) : dChain m (chN c) = true ∧ chOf (chN c) = chI c := dChain_of ok rfl rfl rfl rfl
theorem dChain_L {m : Nat} {c : NCh} (ok : ChOk m c) : dChain m (chL c) = true ∧ chOf (chL c) = chI c := dChain_of ok rfl rfl rfl rfl
theorem bad_nil {m : Int} {zs : List PyData} (h : ∀ z ∈ zs, dChain m z = true) (hl : zs.length ≤ 200) : badFrom m 0 zs = none := by
  refine bad_done fun k hk z hz => ?_
  rw [h z (List.mem_of_getElem? hz), decide_eq_false (by omega)]
  rfl
theorem shOk_of {n : Nat} {cs : List NCh} {d e : PyData} {f : NCh → PyData} (h1 : 1 ≤ n) (h2 : n ≤ 200) (hl : cs.length ≤ 200) (hs : dSeq d = true) (hi : dItems d = [.int (n : Int), e]) (es : dSeq e = true) (ei : dItems e = cs.map f)
    (hf : ∀ c ∈ cs, dChain n (f c) = true ∧ chOf (f c) = chI c) : ShOk d n cs := by
  have g1 : d1 d = e := by show (dItems d).getD 1 .none = e; rw [hi]; rfl
  have g0 : d0 d = .int (n : Int) := by show (dItems d).getD 0 .none = _; rw [hi]; rfl
  have hp : dPair d = true := by
    unfold dPair
    rw [hs, hi]
    rfl
  refine ⟨?_, ?_, ?_, ?_⟩
  · unfold shHead
    rw [hp, g0, g1, es, Bool.true_and, Bool.and_true]
    show (decide ((1 : Int) ≤ (n : Int)) && decide ((n : Int) ≤ 200)) = true
    rw [Bool.and_eq_true, decide_eq_true_eq, decide_eq_true_eq]
    omega
  · rw [g0, g1, ei]
    refine bad_nil (fun z hz => ?_) (by rw [List.length_map]; exact hl)
    obtain ⟨c, hc, rfl⟩ := List.mem_map.mp hz
    exact (hf c hc).1
  · rw [g0]
    rfl
  · rw [g1, ei, List.map_map]
    exact List.map_congr_left fun c hc => (hf c hc).2
theorem shOk_N {n : Nat} {cs : List NCh} (h1 : 1 ≤ n) (h2 : n ≤ 200) (hl : cs.length ≤ 200) (ok : ∀ c ∈ cs, ChOk n c) : ShOk (shN n cs) n cs := shOk_of h1 h2 hl rfl rfl rfl rfl fun c hc => dChain_N (ok c hc)
theorem shOk_L {n : Nat} {cs : List NCh} (h1 : 1 ≤ n) (h2 : n ≤ 200) (hl : cs.length ≤ 200) (ok : ∀ c ∈ cs, ChOk n c) : ShOk (shL n cs) n cs := shOk_of h1 h2 hl rfl rfl rfl rfl fun c hc => dChain_L (ok c hc)
/-! #### lengths -/
theorem dLens_all {ds : List PyData} (h : ∀ z ∈ ds, dLens z = true) : dLensAll ds = true := by
  induction ds with
  | nil => rfl
  | cons d r ih =>
    rw [dLensAll, h d (List.mem_cons_self ..), ih fun z hz => h z (List.mem_cons_of_mem _ hz)]
    rfl
theorem dLens_nI (l : List Nat) : dLensAll (nI l) = true := dLens_all fun z hz => by
  obtain ⟨x, _, rfl⟩ := List.mem_map.mp hz
  rfl
theorem dLens_tup {ds : List PyData} (hl : ds.length ≤ 3000) (h : dLensAll ds = true) : dLens (.tuple ds) = true := by
  rw [dLens, h, decide_eq_true hl]
  rfl
theorem dLens_lst {ds : List PyData} (hl : ds.length ≤ 3000) (h : dLensAll ds = true) : dLens (.list ds) = true := by
  rw [dLens, h, decide_eq_true hl]
  rfl
theorem ch_len {n : Nat} {c : NCh} (o : ChOk n c) : c.2.length ≤ n := by
  have h2 := List.Nodup.length_le_of_subset o.nd (l₂ := List.range n) fun x hx => List.mem_range.mpr (o.lt x hx)
  rw [List.length_range] at h2
  exact h2
theorem dLens_two {d e : PyData} (h1 : dLens d = true) (h2 : dLens e = true) : dLensAll [d, e] = true := dLens_all fun z hz => by
  rcases List.mem_cons.mp hz with rfl | hz
  · exact h1
  · rw [List.mem_singleton] at hz
    subst hz
    exact h2
theorem dLens_chN {n : Nat} {c : NCh} (o : ChOk n c) (hn : n ≤ 200) : dLens (chN c) = true := dLens_tup (show (2 : Nat) ≤ 3000 by decide) (dLens_two rfl (dLens_tup (by rw [List.length_map]; have := ch_len o; omega) (dLens_nI _)))
theorem dLens_chL {n : Nat} {c : NCh} (o : ChOk n c) (hn : n ≤ 200) : dLens (chL c) = true := dLens_lst (show (2 : Nat) ≤ 3000 by decide) (dLens_two rfl (dLens_lst (by rw [List.length_map]; have := ch_len o; omega) (dLens_nI _)))
theorem dOk_N {n : Nat} {cs : List NCh} (o : ∀ c ∈ cs, ChOk n c) (hn : n ≤ 200) (hc : cs.length ≤ 200) : dOk (shN n cs) := ⟨(nice_shN o hn hc).shaped (by decide), dLens_tup (show (2 : Nat) ≤ 3000 by decide) (dLens_two rfl (dLens_tup (by rw [List.length_map]; omega) (dLens_all fun z hz => by
  obtain ⟨c, hc', rfl⟩ := List.mem_map.mp hz
  exact dLens_chN (o c hc') hn)))⟩
theorem dOk_L {n : Nat} {cs : List NCh} (o : ∀ c ∈ cs, ChOk n c) (hn : n ≤ 200) (hc : cs.length ≤ 200) : dOk (shL n cs) := ⟨(nice_shL o hn hc).shaped (by decide), dLens_lst (show (2 : Nat) ≤ 3000 by decide) (dLens_two rfl (dLens_lst (by rw [List.length_map]; omega) (dLens_all fun z hz => by
  obtain ⟨c, hc', rfl⟩ := List.mem_map.mp hz
  exact dLens_chL (o c hc') hn)))⟩
/-! #### a shelf with a wrong chain at a place -/
def wrD (n : Nat) (zs : List PyData) (at_ : Nat) (w : PyData) : PyData := .tuple [.int (n : Int), .list (zs.take at_ ++ [w] ++ zs.drop at_ ++ [.none])]
theorem wr_bad {n : Nat} {zs : List PyData} {i : Nat} {w : PyData} (h1 : 1 ≤ n) (h2 : n ≤ 200) (hz : ∀ z ∈ zs, dChain n z = true) (hi : i ≤ zs.length) (hl : zs.length ≤ 100) (hw : dChain n w = false) : ShBad (wrD n zs i w) (i : Int) := by
  refine .chain i ?_ ?_
  · show (dPair _ && (dIn 1 200 (.int (n : Int)) && true)) = true
    rw [Bool.and_true]
    show (true && dIn 1 200 (.int (n : Int))) = true
    rw [Bool.true_and]
    show (decide ((1 : Int) ≤ (n : Int)) && decide ((n : Int) ≤ 200)) = true
    rw [Bool.and_eq_true, decide_eq_true_eq, decide_eq_true_eq]
    omega
  · show badFrom (n : Int) 0 (zs.take i ++ [w] ++ zs.drop i ++ [.none]) = some i
    have lt : (zs.take i).length = i := by rw [List.length_take]; omega
    have at_i : (zs.take i ++ [w] ++ zs.drop i ++ [.none])[i]? = some w := by
      rw [List.append_assoc, List.append_assoc, List.getElem?_append_right (by omega), lt, Nat.sub_self]
      rfl
    have q := bad_step (m := (n : Int)) (j := 0) at_i (fun k hk z hz' => ?_) (by rw [hw]; simp)
    · rw [Nat.zero_add] at q
      exact q
    · rw [List.append_assoc, List.append_assoc, List.getElem?_append_left (by omega), List.getElem?_take, if_pos hk] at hz'
      rw [hz z (List.mem_of_getElem? hz'), decide_eq_false (by omega)]
      rfl
theorem canAll_app : ∀ {xs ys : List PyData}, PyData.canLayAll0 (xs ++ ys) = (PyData.canLayAll0 xs && PyData.canLayAll0 ys)
  | [], ys => by show _ = (true && _); rw [Bool.true_and]; rfl
  | x :: xs, ys => by
    rw [List.cons_append, PyData.canLayAll0, canAll_app, PyData.canLayAll0, Bool.and_assoc]
theorem canAll_of {xs : List PyData} (h : ∀ z ∈ xs, PyData.canLay0 z = true) : PyData.canLayAll0 xs = true := by
  induction xs with
  | nil => rfl
  | cons d r ih =>
    rw [PyData.canLayAll0, h d (List.mem_cons_self ..), ih fun z hz => h z (List.mem_cons_of_mem _ hz)]
    rfl
theorem depthAll_le {xs : List PyData} {m : Nat} (h : ∀ z ∈ xs, PyData.depth z ≤ m) : PyData.depthAll xs ≤ m := by
  induction xs with
  | nil => exact Nat.zero_le _
  | cons d r ih =>
    rw [PyData.depthAll]
    exact Nat.max_le.mpr ⟨h d (List.mem_cons_self ..), ih fun z hz => h z (List.mem_cons_of_mem _ hz)⟩
/-- shallow and short -/
def dSm (d : PyData) : Prop := PyData.canLay0 d = true ∧ PyData.depth d ≤ 40 ∧ dLens d = true
theorem dSm_lst {ds : List PyData} (hl : ds.length ≤ 3000) (h : ∀ z ∈ ds, PyData.canLay0 z = true ∧ PyData.depth z ≤ 39 ∧ dLens z = true) : dSm (.list ds) := by
  refine ⟨?_, ?_, dLens_lst hl (dLens_all fun z hz => (h z hz).2.2)⟩
  · rw [PyData.canLay0]
    exact canAll_of fun z hz => (h z hz).1
  · rw [PyData.depth]
    exact Nat.succ_le_succ (depthAll_le fun z hz => (h z hz).2.1)
theorem dOk_pair {n : Int} {e : PyData} (h : dSm e) : dOk (.tuple [.int n, e]) := by
  obtain ⟨h1, h2, h3⟩ := h
  refine ⟨?_, dLens_tup (show (2 : Nat) ≤ 3000 by decide) (dLens_two rfl h3)⟩
  unfold SeqAt.shaped
  rw [Bool.and_eq_true, decide_eq_true_eq, PyData.canLay0, PyData.depth]
  refine ⟨canAll_of fun z hz => ?_, ?_⟩
  · rcases List.mem_cons.mp hz with rfl | hz
    · rfl
    · rw [List.mem_singleton] at hz
      subst hz
      exact h1
  · have y : PyData.depthAll [.int n, e] ≤ 40 := depthAll_le fun z hz => by
      rcases List.mem_cons.mp hz with rfl | hz
      · exact Nat.zero_le _
      · rw [List.mem_singleton] at hz
        subst hz
        exact h2
    omega
theorem dOk_small {d : PyData} (h : dOk d) (h2 : PyData.depth d ≤ 38) : PyData.canLay0 d = true ∧ PyData.depth d ≤ 39 ∧ dLens d = true := by
  obtain ⟨h1, h3⟩ := h
  unfold SeqAt.shaped at h1
  rw [Bool.and_eq_true] at h1
  exact ⟨h1.1, by omega, h3⟩
theorem wr_ok {n : Nat} {cs : List NCh} {i : Nat} {w : PyData} (ok : ∀ c ∈ cs, ChOk n c) (hn : n ≤ 200) (hc : cs.length ≤ 4) (hw : dOk w ∧ PyData.depth w ≤ 38) : dOk (wrD n (cs.map chN) i w) := by
  refine dOk_pair (dSm_lst ?_ fun z hz => ?_)
  · rw [List.length_append, List.length_append, List.length_append, List.length_take, List.length_drop, List.length_map, List.length_singleton, List.length_singleton]
    omega
  · have one : ∀ z ∈ cs.map chN, PyData.canLay0 z = true ∧ PyData.depth z ≤ 39 ∧ dLens z = true := fun z hz => by
      obtain ⟨c, hc', rfl⟩ := List.mem_map.mp hz
      have y := nice_chN (ok c hc') hn
      exact ⟨y.lay, Nat.le_trans y.dep (by decide), dLens_chN (ok c hc') hn⟩
    rcases List.mem_append.mp hz with hz | hz
    · rcases List.mem_append.mp hz with hz | hz
      · rcases List.mem_append.mp hz with hz | hz
        · exact one z (List.mem_of_mem_take hz)
        · rw [List.mem_singleton] at hz
          subst hz
          exact dOk_small hw.1 hw.2
      · exact one z (List.mem_of_mem_drop hz)
    · rw [List.mem_singleton] at hz
      subst hz
      exact ⟨rfl, Nat.zero_le _, rfl⟩
def grD (k : Nat) : PyData := .tuple [.int 1, .list (List.replicate k (.tuple [.str "list", .list [.int 0]]))]
theorem gr_ch : dChain 1 (.tuple [.str "list", .list [.int 0]]) = true := by decide +kernel
theorem gr_ok {k : Nat} (hk : k ≤ 3000) : dOk (grD k) := dOk_pair (dSm_lst (by rw [List.length_replicate]; exact hk) fun z hz => by
  obtain ⟨_, rfl⟩ := List.mem_replicate.mp hz
  exact ⟨by decide +kernel, by decide +kernel, by decide +kernel⟩)
theorem gr_head (k : Nat) : shHead (grD k) = true := rfl
theorem gr_none {k : Nat} (hk : k ≤ 200) : badFrom (dNum (d0 (grD k))) 0 (dItems (d1 (grD k))) = none := by
  show badFrom 1 0 (List.replicate k _) = none
  refine bad_nil (fun z hz => ?_) (by rw [List.length_replicate]; exact hk)
  obtain ⟨_, rfl⟩ := List.mem_replicate.mp hz
  exact gr_ch
theorem gr_some {k : Nat} (hk : 200 < k) : badFrom (dNum (d0 (grD k))) 0 (dItems (d1 (grD k))) = some 200 := by
  show badFrom 1 0 (List.replicate k (.tuple [.str "list", .list [.int 0]])) = some 200
  have q := bad_step (m := 1) (cs := List.replicate k (.tuple [.str "list", .list [.int 0]])) (i := 200) (j := 0) (List.getElem?_replicate_of_lt hk) (fun j hj z hz => ?_) (by rfl)
  · exact q
  · have y := List.mem_of_getElem? hz
    obtain ⟨_, rfl⟩ := List.mem_replicate.mp y
    rw [gr_ch, decide_eq_false (by omega)]
    rfl
def nonesBad : List PyData := [.none, .int 3, .tuple [.int 3], .tuple [.int 0, .tuple []], .tuple [.int 201, .tuple []], .tuple [.bool true, .tuple []], .tuple [.int 3, .none], .tuple [.int 3, .str "list"], .tuple [.int 3, .tuple [], .tuple []], .tuple [.str "3", .tuple []]]
theorem nones_bad : ∀ d ∈ nonesBad, shHead d = false ∧ dOk d := by
  intro d hd
  unfold nonesBad at hd
  simp only [List.mem_cons, List.not_mem_nil, or_false] at hd
  rcases hd with rfl | rfl | rfl | rfl | rfl | rfl | rfl | rfl | rfl | rfl <;> exact ⟨by decide +kernel, by decide +kernel, by decide +kernel⟩
/-! #### the law's links, looked at -/
theorem filter_len (c : NCh) : ∀ k, ((llkTo c k).filter fun q => decide (q.1 < q.2)).length ≤ k
  | 0 => Nat.zero_le _
  | k + 1 => by
    rw [llkTo_succ, List.filter_append, List.length_append]
    have y := filter_len c k
    have z : ((llk1 c k).filter fun q => decide (q.1 < q.2)).length ≤ 1 := by
      unfold llk1
      split
      · simp only [List.filter_cons, List.filter_nil]
        split <;> split <;> simp_all <;> omega
      · simp
    omega
theorem filter_all {n : Nat} : ∀ {cs : List NCh}, (∀ c ∈ cs, ChOk n c) → ((llks cs).filter fun q => decide (q.1 < q.2)).length ≤ cs.length * n
  | [], _ => Nat.zero_le _
  | c :: r, ok => by
    have e : llks (c :: r) = llk c ++ llks r := rfl
    have o := ok c (List.mem_cons_self ..)
    have h1 := filter_len c c.2.length
    have h2 := ch_len o
    have h3 := filter_all fun c hc => ok c (List.mem_cons_of_mem _ hc)
    rw [e, List.filter_append, List.length_append, List.length_cons, Nat.add_mul, Nat.one_mul]
    have h4 : ((llk c).filter fun q => decide (q.1 < q.2)).length ≤ c.2.length := h1
    omega
theorem any_pr {ps : List (Nat × Nat)} {a b : Nat} : ((ps.map prD).any fun z => PyData.eqv z (.tuple [.int (a : Int), .int (b : Int)])) = decide ((a, b) ∈ ps) := by
  rw [Bool.eq_iff_iff, List.any_eq_true, decide_eq_true_eq]
  constructor
  · rintro ⟨z, hz, e⟩
    obtain ⟨p, hp, rfl⟩ := List.mem_map.mp hz
    have e1 : p = (a, b) := by
      obtain ⟨x, y⟩ := p
      simp [PyData.eqv, PyData.eqvAll] at e
      rw [Prod.mk.injEq]
      omega
    rw [← e1]
    exact hp
  · intro h
    exact ⟨prD (a, b), List.mem_map_of_mem h, by simp [PyData.eqv, PyData.eqvAll]⟩
theorem llks_lt {n : Nat} {cs : List NCh} (ok : ∀ c ∈ cs, ChOk n c) : ∀ p ∈ llks cs, p.1 < n ∧ p.2 < n := by
  rintro ⟨a, b⟩ h
  rcases (llks_lk ok a b).mp h with h | h
  · have y := lks_lt ok _ h
    exact ⟨y.1, y.2.1⟩
  · have y := lks_lt ok _ h
    exact ⟨y.2.1, y.1⟩
theorem nb_nd : ∀ {L : List (Nat × Nat)} {i : Nat}, L.Nodup → (∀ p ∈ L, p.1 < p.2) → (nbL L i).Nodup
  | [], _, _, _ => List.nodup_nil
  | p :: r, i, nd, lt => by
    obtain ⟨h1, h2⟩ := List.nodup_cons.mp nd
    have ih := nb_nd (i := i) h2 fun q hq => lt q (List.mem_cons_of_mem _ hq)
    have e : nbL (p :: r) i = ((if p.1 = i then [p.2] else []) ++ (if p.2 = i then [p.1] else [])) ++ nbL r i := rfl
    have lp := lt p (List.mem_cons_self ..)
    have no : ∀ x, Lk (p :: r) i x → (p = (i, x) ∨ p = (x, i)) → x ∉ nbL r i := fun x _ hp hx => by
      rcases nb_mem.mp hx with hx | hx
      · have y := lt _ (List.mem_cons_of_mem _ hx)
        rcases hp with rfl | rfl
        · exact h1 hx
        · have z : x < i := lp
          have z2 : i < x := y
          omega
      · have y := lt _ (List.mem_cons_of_mem _ hx)
        rcases hp with rfl | rfl
        · have z : i < x := lp
          have z2 : x < i := y
          omega
        · exact h1 hx
    rw [e]
    by_cases a : p.1 = i
    · have b : ¬ p.2 = i := by omega
      rw [if_pos a, if_neg b, List.append_nil]
      refine List.nodup_cons.mpr ⟨no p.2 (.inl ?_) (.inl ?_), ih⟩
      · rw [← a]
        exact List.mem_cons_self ..
      · rw [← a]
    · rw [if_neg a, List.nil_append]
      by_cases b : p.2 = i
      · rw [if_pos b]
        refine List.nodup_cons.mpr ⟨no p.1 (.inr ?_) (.inr ?_), ih⟩
        · rw [← b]
          exact List.mem_cons_self ..
        · rw [← b]
      · rw [if_neg b, List.nil_append]
        exact ih
theorem rows_eq {n : Nat} {cs : List NCh} (ok : ∀ c ∈ cs, ChOk n c) (hn : n ≤ 64) : ((List.range n).map fun one => (List.range n).filter fun two => decide ((one, two) ∈ llks cs)) = rowsOf n (sdL (lks cs)) := by
  have b64 : ∀ p ∈ lks cs, p.1 < 64 ∧ p.2 < 64 := fun p hp => by
    have y := lks_lt ok p hp
    omega
  unfold rowsOf
  refine List.map_congr_left fun i hi => ?_
  have nd : (sdL (lks cs)).Nodup := (sd_asc _).imp fun h e => by
    subst e
    exact lt2_as _ _ h h
  refine asc_nat (List.Pairwise.filter _ List.pairwise_lt_range) (srt_nd (nb_nd nd fun p hp => (lks_lt ok p ((sd_mem b64).mp hp)).2.2)) fun x => ?_
  rw [List.mem_filter, List.mem_range, decide_eq_true_eq, srt_mem, nb_mem]
  have e : Lk (sdL (lks cs)) i x ↔ (i, x) ∈ llks cs := by
    rw [llks_lk ok]
    unfold Lk
    rw [sd_mem b64, sd_mem b64]
  rw [e]
  exact ⟨fun h => h.2, fun h => ⟨(llks_lt ok _ h).2, h⟩⟩
theorem nice_rows {n : Nat} {cs : List NCh} (ok : ∀ c ∈ cs, ChOk n c) (hn : n ≤ 64) : Nice (rwD (rowsOf n (sdL (lks cs)))) 2 1000000 := by
  rw [← rows_eq ok hn]
  refine nice_rwD (m := n) (fun r hr => ?_) (by rw [List.length_map, List.length_range]; omega) (by omega)
  obtain ⟨i, _, rfl⟩ := List.mem_map.mp hr
  refine ⟨Nat.le_trans (List.length_filter_le _ _) (by rw [List.length_range]; exact Nat.le_refl _), fun x hx => ?_⟩
  have y := List.mem_range.mp (List.mem_filter.mp hx).1
  omega
theorem nice_parts {n : Nat} {E : Nat → Nat → Prop} (hn : n ≤ 64) : Nice (rwD (partsOf n E)) 2 1000000 := by
  refine nice_rwD (m := n) (fun r hr => ?_) ?_ (by omega)
  · obtain ⟨i, _, rfl⟩ := List.mem_map.mp hr
    unfold hangOf
    refine ⟨Nat.le_trans (List.length_filter_le _ _) (by rw [List.length_range]; exact Nat.le_refl _), fun x hx => ?_⟩
    have y := List.mem_range.mp (List.mem_filter.mp hx).1
    omega
  · unfold partsOf fstOf
    rw [List.length_map]
    exact Nat.le_trans (List.length_filter_le _ _) (by rw [List.length_range]; omega)
theorem law_parts {n : Nat} {cs : List NCh} (ok : ∀ c ∈ cs, ChOk n c) (hn : n ≤ 64) : lawParts n (nrounds (sdL (lks cs)) n n) = partsOf n (Lk (lks cs)) := by
  have b64 : ∀ p ∈ lks cs, p.1 < 64 ∧ p.2 < 64 := fun p hp => by
    have y := lks_lt ok p hp
    omega
  rw [lawParts_eq fun p hp => ?_]
  · refine parts_congr fun a b => ?_
    unfold Lk
    rw [sd_mem b64, sd_mem b64]
  · have y := lks_lt ok p ((sd_mem b64).mp hp)
    exact ⟨y.1, y.2.1⟩
theorem nice_at {k : Nat} (h : k < 1000000) : Nice (atD (k : Int)) 1 100 := (nice_tup (niceA_cons (nice_of (d := .str "shelf") (dp := 0) (wt := 20) (by decide +kernel)) (niceA_cons (nice_nat h) niceA_nil))).le (Nat.le_refl _) (by decide)
theorem ext_step {H H1 H2 H' : Hp} {a : Addr} (e : ExtN H H1) (s : Same H1 H2) (n : H1 a = none) (st : Stp a H2 H') : ExtN H H' := fun b o h t =>
  st b o (fun z => by have y := e b o h t; rw [z, n] at y; cases y) (s b o (e b o h t)) t
theorem ne_str (x : PySem.Str) : (!decide (V.str x = V.str x)) = false := by simp
theorem dAll_take {K : PySem.W.Frag} {H : Hp} : ∀ {xs : List V} {ds : List PyData} (k : Nat), DpAll K H xs ds → DpAll K H (xs.take k) (ds.take k)
  | _, _, 0, _ => by rw [List.take_zero, List.take_zero]; exact .nil
  | _, _, k + 1, .nil => .nil
  | _, _, k + 1, .cons h t => .cons h (dAll_take k t)
theorem dAll_drop {K : PySem.W.Frag} {H : Hp} : ∀ {xs : List V} {ds : List PyData} (k : Nat), DpAll K H xs ds → DpAll K H (xs.drop k) (ds.drop k)
  | _, _, 0, h => h
  | _, _, k + 1, .nil => .nil
  | _, _, k + 1, .cons h t => dAll_drop k t
theorem dAll_rep {K : PySem.W.Frag} {H : Hp} {v : V} {d : PyData} (h : Dp K H v d) : ∀ k, DpAll K H (List.replicate k v) (List.replicate k d)
  | 0 => .nil
  | k + 1 => .cons h (dAll_rep h k)
theorem flat_rep {v : V} : ∀ k, (List.replicate k [v]).flatten = List.replicate k v
  | 0 => rfl
  | k + 1 => by
    rw [List.replicate_succ, List.flatten_cons, flat_rep k]
    rfl
theorem mkl_rep {K : PySem.W.Frag} {σ : L2.St} {ta : TE} {d : PyData} {j k : Nat} (h : MkL K σ ta [d]) (hσ : σ[j]? = some (some (.int (k : Int)))) (hk : k ≤ 3000) : MkL K σ (tOp rRep ta (tVar j)) (List.replicate k d) := fun H Q q =>
  h H _ fun p vs H1 s1 hp h1 d1 => by
    obtain ⟨v0, rfl⟩ : ∃ v0, vs = [v0] := by
      have y : vs.length = 1 := d1.len
      match vs, y with
      | [v0], _ => exact ⟨v0, rfl⟩
    refine ⟨_, hσ, p, (k : Int), [v0], rfl, rfl, h1, by omega, by omega, by rw [Int.toNat_natCast, sizeLine_eq]; show 1 * k ≤ _; omega, fun r hr => ?_⟩
    rw [Int.toNat_natCast, flat_rep]
    refine q r _ _ (s1.tr (same_new hr)) (none_of s1 hr) upd_same ?_
    cases d1 with
    | cons h _ => exact dAll_rep (dp_same (newer_same (same_new hr)) _ _ h) k
/-- a loop over a tuple made for it -/
theorem for_new {K : PySem.W.Frag} {xs : List V} {g : TG} {tb : TS} {D : Ends} {σ : L2.St} {H : Hp} (Pv : Addr → Nat → L2.St → Hp → Prop) (h0 : ∀ p, H p = none → Pv p 0 σ (upd H p (.tup xs))) (hk : ∀ p i σ' H', Pv p i σ' H' → SqT K H' p xs)
    (hs : ∀ p i x σ H, xs[i]? = some x → Pv p i σ H → g x σ H fun σ2 H2 => tb { D with nx := Pv p (i + 1), ct := Pv p (i + 1), bk := D.nx } σ2 H2) (hd : ∀ p σ H, Pv p xs.length σ H → D.nx σ H) (tl : TE)
    (ht : ∀ R : V → Hp → Prop, (∀ p, H p = none → R (.ref p) (upd H p (.tup xs))) → tl σ H R) : tFor (iSqW K tl) g tb D σ H := by
  refine ht _ fun p hp => ⟨p, xs, rfl, .inr ⟨hk p 0 σ _ (h0 p hp), fun i m σ H => m = xs.length - i ∧ i ≤ xs.length ∧ Pv p i σ H, ⟨xs.length, rfl, Nat.zero_le _, h0 p hp⟩, ?_⟩⟩
  rintro i m σ' H' ⟨rfl, hi, q⟩
  have gg := hk p i σ' H' q
  by_cases hlt : i < xs.length
  · refine .inr ⟨⟨gg, hlt⟩, Pv p (i + 1), fun σ2 H2 p2 => ⟨xs.length - (i + 1), by omega, rfl, hlt, p2⟩, fun x H2 y => ?_⟩
    obtain ⟨rfl, hx⟩ := y
    exact hs p i x σ' H2 hx q
  · have e : i = xs.length := by omega
    subst e
    exact .inl ⟨⟨gg, Nat.le_refl _⟩, hd p σ' H' q⟩
section
variable {K : PySem.W.Frag} {σ : L2.St} {H : Hp} {te ta tb : TE} {D : Ends}
theorem t_ifs {c : TT} {t u : TS} (h : c σ H fun b H1 => if b = true then t D σ H1 else u D σ H1) : tIfS c t u D σ H := h
theorem t_tst {Q : Bool → Hp → Prop} (h : te σ H fun x H1 => ∃ k, x = .bl k ∧ Q k H1) : tTest te σ H Q := h
theorem t_orT {c1 c2 : TT} {Q : Bool → Hp → Prop} (h : c1 σ H fun c H1 => if c = true then Q true H1 else c2 σ H1 Q) : tOr c1 c2 σ H Q := h
end
end Shf


namespace Shf
open PySem PySem.Spec PyProof.Rows L2 LamX
/-! ### webs -/
def dLink (m : Int) (d : PyData) : Bool := dPair d && (dIn 0 (m - 1) (d0 d) && (dIn 0 (m - 1) (d1 d) && !decide (V.int (dNum (d0 d)) = V.int (dNum (d1 d)))))
def spLink (K : PySem.W.Frag) : Sp := fun vs H Q _ => ∃ (v : V) (d : PyData) (m : Int), vs = [.int m, v] ∧ Dp K H v d ∧ ∀ H', Same H H' → Q (.bl (dLink m d)) H'
def lkOf (z : PyData) : Nat × Nat := ((dNum (d0 z)).toNat, (dNum (d1 z)).toNat)
/-- the first place, from i on, of a link that is none -/
def badLk (m : Int) (i : Nat) : List PyData → Option Nat
  | [] => none
  | c :: r => if (!dLink m c) = true then some i else badLk m (i + 1) r
theorem badLk_none {m : Int} : ∀ {cs : List PyData} {i : Nat}, badLk m i cs = none → ∀ c ∈ cs, dLink m c = true
  | c :: r, i, h, z, hz => by
    unfold badLk at h
    by_cases e : (!dLink m c) = true
    · rw [if_pos e] at h
      cases h
    · rw [if_neg e] at h
      rcases List.mem_cons.mp hz with rfl | hz
      · cases q : dLink m z with
        | true => rfl
        | false => rw [q] at e; exact absurd rfl e
      · exact badLk_none h z hz
theorem badLk_step {m : Int} {cs : List PyData} {c : PyData} : ∀ {i j : Nat}, cs[i]? = some c → (∀ k, k < i → ∀ z, cs[k]? = some z → dLink m z = true) → dLink m c = false → badLk m j cs = some (j + i) := by
  induction cs with
  | nil =>
    intro i j h
    simp at h
  | cons d r ih =>
    intro i j h hk hb
    unfold badLk
    cases i with
    | zero =>
      simp at h
      subst h
      rw [hb]
      rfl
    | succ i =>
      rw [hk 0 (Nat.succ_pos _) d rfl, if_neg (by decide)]
      have q := ih (i := i) (j := j + 1) h (fun k hk2 z hz => hk (k + 1) (by omega) z hz) hb
      rw [q]
      congr 1
      omega
theorem badLk_done {m : Int} {cs : List PyData} (h : ∀ c ∈ cs, dLink m c = true) : ∀ i, badLk m i cs = none := by
  induction cs with
  | nil => intro i; rfl
  | cons d r ih =>
    intro i
    unfold badLk
    rw [h d (List.mem_cons_self ..), if_neg (by decide)]
    exact ih (fun c hc => h c (List.mem_cons_of_mem _ hc)) (i + 1)
def wbHead (d : PyData) : Bool := dPair d && (dIn 1 40 (d0 d) && dSeq (d1 d))
structure WbOk (d : PyData) (n : Nat) (L : List (Nat × Nat)) : Prop where
  hd : wbHead d = true
  ok : badLk (dNum (d0 d)) 0 (dItems (d1 d)) = none
  n : dNum (d0 d) = n
  ls : (dItems (d1 d)).map lkOf = L
inductive WbBad (d : PyData) : Int → Prop
  | head : wbHead d = false → WbBad d (-1)
  | link (i : Nat) : wbHead d = true → badLk (dNum (d0 d)) 0 (dItems (d1 d)) = some i → WbBad d i
def wbN (n : Nat) (L : List (Nat × Nat)) : PyData := .tuple [.int (n : Int), lkD L]
def spWbR (K : PySem.W.Frag) (res : Nat → List (Nat × Nat) → PyData) : Sp := fun vs H Q E => ∃ (v : V) (d : PyData), vs = [v] ∧ Dp K H v d ∧ dOk d ∧
  ((∃ x : Int, WbBad d x ∧ wAt K "InvalidWeb" (.int x) H E) ∨ ∃ (n : Nat) (L : List (Nat × Nat)), WbOk d n L ∧ L.length < 64 ∧ ∀ r H', Same H H' → Dp K H' r (res n (sdL (L.map ord2))) → Q r H')
def spAscLinks (K : PySem.W.Frag) : Sp := fun vs H Q _ => ∃ (v : V) (d : PyData) (L : List (Nat × Nat)) (m : Nat), vs = [v] ∧ Dp K H v d ∧ dSeq d = true ∧ (dItems d).map lkOf = L ∧ (∀ z ∈ dItems d, dLink m z = true) ∧ m ≤ 64 ∧ L.length < 64 ∧
  ∀ r H', Same H H' → Dp K H' r (lkD (sdL (L.map ord2))) → Q r H'
/-- a link, opened -/
theorem link_parts {m : Int} {z : PyData} (h : dLink m z = true) : dPair z = true ∧ dItems z = [.int ((lkOf z).1 : Int), .int ((lkOf z).2 : Int)] ∧ ((lkOf z).1 : Int) < m ∧ ((lkOf z).2 : Int) < m ∧ (lkOf z).1 ≠ (lkOf z).2 := by
  unfold dLink at h
  rw [Bool.and_eq_true, Bool.and_eq_true, Bool.and_eq_true] at h
  obtain ⟨h1, h2, h3, h4⟩ := h
  have hp := h1
  unfold dPair at hp
  rw [Bool.and_eq_true, decide_eq_true_eq] at hp
  have two : ∃ x y, dItems z = [x, y] := by
    match dItems z, hp.2 with
    | [x, y], _ => exact ⟨x, y, rfl⟩
  obtain ⟨x, y, e⟩ := two
  have e0 : d0 z = x := by show (dItems z).getD 0 .none = x; rw [e]; rfl
  have e1 : d1 z = y := by show (dItems z).getD 1 .none = y; rw [e]; rfl
  rw [e0] at h2
  rw [e1] at h3
  rw [e0, e1] at h4
  cases x with
  | int a =>
    cases y with
    | int b =>
      have h2' : (decide ((0 : Int) ≤ a) && decide (a ≤ m - 1)) = true := h2
      have h3' : (decide ((0 : Int) ≤ b) && decide (b ≤ m - 1)) = true := h3
      rw [Bool.and_eq_true, decide_eq_true_eq, decide_eq_true_eq] at h2' h3'
      have ea : ((lkOf z).1 : Int) = a := by
        show (((dNum (d0 z)).toNat : Nat) : Int) = a
        rw [e0]
        show ((a.toNat : Nat) : Int) = a
        omega
      have eb : ((lkOf z).2 : Int) = b := by
        show (((dNum (d1 z)).toNat : Nat) : Int) = b
        rw [e1]
        show ((b.toNat : Nat) : Int) = b
        omega
      refine ⟨h1, by rw [ea, eb, e], by omega, by omega, fun q => ?_⟩
      have q2 : a = b := by omega
      have h4' : (!decide (V.int a = V.int b)) = true := h4
      rw [q2] at h4'
      simp at h4'
    | _ => cases h3
  | _ => cases h2
theorem WbOk.facts {d : PyData} {n : Nat} {L : List (Nat × Nat)} (h : WbOk d n L) : 1 ≤ n ∧ n ≤ 40 ∧ (∀ z ∈ dItems (d1 d), dLink n z = true) ∧ ∀ p ∈ L, p.1 < n ∧ p.2 < n ∧ p.1 ≠ p.2 := by
  have hh := h.hd
  unfold wbHead at hh
  rw [Bool.and_eq_true, Bool.and_eq_true] at hh
  have e := h.n
  have hn : 1 ≤ n ∧ n ≤ 40 := by
    have z := hh.2.1
    cases y : d0 d with
    | int i =>
      rw [y] at z e
      have z2 : (decide ((1 : Int) ≤ i) && decide (i ≤ 40)) = true := z
      rw [Bool.and_eq_true, decide_eq_true_eq, decide_eq_true_eq] at z2
      have e2 : i = n := e
      omega
    | _ =>
      rw [y] at z
      cases z
  have al : ∀ z ∈ dItems (d1 d), dLink n z = true := fun z hz => by
    have y := badLk_none h.ok z hz
    rw [e] at y
    exact y
  refine ⟨hn.1, hn.2, al, fun p hp => ?_⟩
  rw [← h.ls] at hp
  obtain ⟨z, hz, rfl⟩ := List.mem_map.mp hp
  obtain ⟨_, _, h1, h2, h3⟩ := link_parts (al z hz)
  exact ⟨by omega, by omega, h3⟩
theorem ord2_bd {L : List (Nat × Nat)} {m : Nat} (h : ∀ p ∈ L, p.1 < m ∧ p.2 < m) : ∀ p ∈ L.map ord2, p.1 < m ∧ p.2 < m := fun p hp => by
  obtain ⟨q, hq, rfl⟩ := List.mem_map.mp hp
  have y := h q hq
  unfold ord2
  constructor <;> simp only <;> omega
end Shf


namespace Shf
open PySem PySem.Spec PyProof.Rows L2 LamX
/-! ### walks -/
def dRowOf (m : Nat) (d : PyData) : Bool := dSeq d && (decide (1 ≤ (dItems d).length) && decide ((dItems d).length ≤ m))
def spRowOf (K : PySem.W.Frag) : Sp := fun vs H Q _ => ∃ (v : V) (d : PyData) (m : Nat), vs = [v, .int (m : Int)] ∧ Dp K H v d ∧ ∀ H', Same H H' → Q (.bl (dRowOf m d)) H'
/-- item i goes on: a block of the web, linked to the one ahead -/
def okAt (rs : List (List Nat)) (ds : List PyData) (i : Nat) : Bool := match ds[i]? with
  | none => true
  | some c => dIn 0 ((rs.length : Int) - 1) c && (decide (i = 0) || decide ((dNum c).toNat ∈ rs.getD (dNum (ds.getD (i - 1) .none)).toNat []))
def OffAt (rs : List (List Nat)) (ds : List PyData) (i : Nat) : Prop := i < ds.length ∧ okAt rs ds i = false ∧ ∀ k, k < i → okAt rs ds k = true
def AllOk (rs : List (List Nat)) (ds : List PyData) : Prop := ∀ k, k < ds.length → okAt rs ds k = true
def spOff (K : PySem.W.Frag) : Sp := fun vs H Q _ => ∃ (v u : V) (rs : List (List Nat)) (d : PyData), vs = [v, u] ∧ Dp K H v (rwD rs) ∧ Dp K H u d ∧ dSeq d = true ∧
  ∀ H', Same H H' → ((∀ i, OffAt rs (dItems d) i → Q (.int (i : Int)) H') ∧ (AllOk rs (dItems d) → Q .non H'))
inductive WkBad (n : Nat) (L : List (Nat × Nat)) (d : PyData) : Int → Prop
  | head : dRowOf 400 d = false → WkBad n L d (-1)
  | off (i : Nat) : dRowOf 400 d = true → OffAt (rowsOf n (sdL (L.map ord2))) (dItems d) i → WkBad n L d i
structure WkOk (n : Nat) (L : List (Nat × Nat)) (d : PyData) : Prop where
  row : dRowOf 400 d = true
  ok : AllOk (rowsOf n (sdL (L.map ord2))) (dItems d)
def spNWalk (K : PySem.W.Frag) : Sp := fun vs H Q E => ∃ (v u : V) (d e : PyData), vs = [v, u] ∧ Dp K H v d ∧ dOk d ∧ Dp K H u e ∧
  ((∃ x : Int, WbBad d x ∧ wAt K "InvalidWeb" (.int x) H E) ∨ ∃ (n : Nat) (L : List (Nat × Nat)), WbOk d n L ∧ L.length < 64 ∧
    ((∃ x : Int, WkBad n L e x ∧ wAt K "InvalidWalk" (.int x) H E) ∨ (WkOk n L e ∧ ∀ r H', Same H H' → Dp K H' r (.tuple (dItems e)) → Q r H')))
theorem flat_nV (l : List Nat) : (nV l).all flatV = true := by
  rw [List.all_eq_true]
  intro x hx
  obtain ⟨n, _, rfl⟩ := List.mem_map.mp hx
  rfl
theorem inV_nat {c : Nat} : ∀ {l : List Nat}, inV (V.int (c : Int)) (nV l) = decide (c ∈ l)
  | [] => rfl
  | y :: r => by
    have ih := inV_nat (c := c) (l := r)
    rw [Bool.eq_iff_iff, decide_eq_true_eq] at ih ⊢
    unfold inV at ih ⊢
    rw [show nV (y :: r) = V.int (y : Int) :: nV r from rfl, List.any_cons, Bool.or_eq_true, ih, List.mem_cons]
    refine or_congr ?_ Iff.rfl
    rw [show eqV (V.int (y : Int)) (V.int (c : Int)) = ((y : Int) == (c : Int)) from rfl, beq_iff_eq]
    omega
theorem dIn_int {K : PySem.W.Frag} {H : Hp} {w : V} {e : PyData} {n : Nat} (hw : Dp K H w e) (he : dIn 0 ((n : Int) - 1) e = true) : ∃ q : Nat, e = .int (q : Int) ∧ w = .int (q : Int) ∧ q < n := by
  cases hw with
  | int i =>
    have z2 : (decide ((0 : Int) ≤ i) && decide (i ≤ (n : Int) - 1)) = true := he
    rw [Bool.and_eq_true, decide_eq_true_eq, decide_eq_true_eq] at z2
    have e : ((i.toNat : Nat) : Int) = i := by omega
    exact ⟨i.toNat, by rw [e], by rw [e], by omega⟩
  | _ => cases he
/-! how many walks begin at each block, by how many touches more they have -/
def cntW (rs : List (List Nat)) : Nat → List Nat
  | 0 => List.replicate rs.length 1
  | k + 1 => rs.map fun row => (row.map fun o => (cntW rs k).getD o 0).sum
def cntD (rs : List (List Nat)) (t : Nat) : List PyData := (List.range t).map fun k => PyData.list (nI (cntW rs k))
def spCnt (K : PySem.W.Frag) : Sp := fun vs H Q _ => ∃ (v : V) (rs : List (List Nat)) (t : Nat), vs = [v, .int (t : Int)] ∧ Dp K H v (rwD rs) ∧ (∀ r ∈ rs, ∀ x ∈ r, x < rs.length) ∧ (∀ r ∈ rs, r.length ≤ 128) ∧ rs.length ≤ 64 ∧ 1 ≤ t ∧ t ≤ 400 ∧
  ∀ r H', Same H H' → Dp K H' r (.list (cntD rs t)) → Q r H'
theorem sum_nat : ∀ l : List Nat, (l.map fun x : Nat => (x : Int)).sum = ((l.sum : Nat) : Int)
  | [] => rfl
  | x :: r => by
    rw [List.map_cons, List.sum_cons, List.sum_cons, sum_nat r]
    omega
theorem cntW_len (rs : List (List Nat)) : ∀ k, (cntW rs k).length = rs.length
  | 0 => List.length_replicate
  | k + 1 => List.length_map ..
theorem one_le : 1 ≤ sizeLine := by rw [sizeLine_eq]; decide
theorem dAll_unsnoc {K : PySem.W.Frag} {H : Hp} {d : PyData} : ∀ {ds : List PyData} {vs : List V}, DpAll K H vs (ds ++ [d]) → ∃ ws v, vs = ws ++ [v] ∧ DpAll K H ws ds ∧ Dp K H v d
  | [], _, .cons h .nil => ⟨[], _, rfl, .nil, h⟩
  | _ :: _, _, .cons h t => by
    obtain ⟨ws, v, rfl, h1, h2⟩ := dAll_unsnoc t
    exact ⟨_ :: ws, v, rfl, .cons h h1, h2⟩
theorem cntD_succ (rs : List (List Nat)) (k : Nat) : cntD rs (k + 1) = cntD rs k ++ [.list (nI (cntW rs k))] := by
  unfold cntD
  rw [List.range_succ, List.map_append]
  rfl
theorem ix_lastL {K : PySem.W.Frag} {H : Hp} {a : Addr} {ws : List V} {v : V} {Q : VK} (hS : SqL K H a (ws ++ [v])) (q : Q v H) : rIx K (.ref a) (.int (-1)) H Q :=
  .inl ⟨a, _, -1, v, rfl, rfl, hS, atI_last _ _, q⟩
theorem cnt_get {rs : List (List Nat)} {k o : Nat} (h : o < rs.length) : (nV (cntW rs k))[o]? = some (V.int (((cntW rs k).getD o 0 : Nat) : Int)) := by
  rw [List.getElem?_map, List.getD_eq_getElem?_getD, List.getElem?_eq_getElem (by rw [cntW_len]; exact h)]
  rfl
theorem nbL_len (i : Nat) : ∀ L : List (Nat × Nat), (nbL L i).length ≤ 2 * L.length
  | [] => Nat.zero_le _
  | p :: r => by
    have ih := nbL_len i r
    unfold nbL at ih ⊢
    rw [List.flatMap_cons, List.length_append, List.length_append, List.length_cons]
    by_cases h1 : p.1 = i <;> by_cases h2 : p.2 = i <;> simp only [h1, h2, if_true, if_false, List.length_cons, List.length_nil] <;> omega
def webR (n : Nat) (L : List (Nat × Nat)) : List (List Nat) := rowsOf n (sdL (L.map ord2))
theorem webR_ok {d : PyData} {n : Nat} {L : List (Nat × Nat)} (h : WbOk d n L) (hl : L.length < 64) : 1 ≤ n ∧ n ≤ 40 ∧ (webR n L).length = n ∧ (∀ r ∈ webR n L, ∀ x ∈ r, x < (webR n L).length) ∧ (∀ r ∈ webR n L, r.length ≤ 128) := by
  obtain ⟨f1, f2, _, f4⟩ := h.facts
  have bn : ∀ p ∈ L.map ord2, p.1 < n ∧ p.2 < n := ord2_bd fun p hp => ⟨(f4 p hp).1, (f4 p hp).2.1⟩
  have e : (webR n L).length = n := rowsOf_len _ _
  have ls := sd_len (L.map ord2)
  rw [List.length_map] at ls
  refine ⟨f1, f2, e, fun r hr x hx => ?_, fun r hr => ?_⟩
  · unfold webR rowsOf at hr
    obtain ⟨i, hi, rfl⟩ := List.mem_map.mp hr
    rw [srt_mem, nb_mem] at hx
    rw [e]
    have sd : ∀ p ∈ sdL (L.map ord2), p.1 < n ∧ p.2 < n := fun p hp => bn p ((sd_mem fun p hp => by have y := bn p hp; omega).mp hp)
    rcases hx with hx | hx
    · exact (sd _ hx).2
    · exact (sd _ hx).1
  · unfold webR rowsOf at hr
    obtain ⟨i, hi, rfl⟩ := List.mem_map.mp hr
    rw [(srt_perm _).length_eq]
    have y := nbL_len i (sdL (L.map ord2))
    omega
def spWCount (K : PySem.W.Frag) : Sp := fun vs H Q E => ∃ (v u : V) (d e : PyData), vs = [v, u] ∧ Dp K H v d ∧ dOk d ∧ Dp K H u e ∧
  ((∃ x : Int, WbBad d x ∧ wAt K "InvalidWeb" (.int x) H E) ∨ ∃ (n : Nat) (L : List (Nat × Nat)), WbOk d n L ∧ L.length < 64 ∧
    ((dIn 1 400 e = false ∧ wWord K "InvalidSize" (.str "touches") H E) ∨ ∃ t : Nat, e = .int (t : Int) ∧ 1 ≤ t ∧ t ≤ 400 ∧ ∀ H', Same H H' → Q (.int (((cntW (webR n L) (t - 1)).sum : Nat) : Int)) H'))
/-- the blocks that can be touched behind a walk -/
def behW (rs : List (List Nat)) (w : List Nat) : List Nat := if w = [] then List.range rs.length else rs.getD (w.getLastD 0) []
def spBehind (K : PySem.W.Frag) : Sp := fun vs H Q _ => ∃ (v : V) (b : Addr) (rs : List (List Nat)) (w : List Nat), vs = [v, .ref b] ∧ Dp K H v (rwD rs) ∧ Sq K H b (nV w) ∧ (∀ x ∈ w, x < rs.length) ∧ rs.length ≤ 64 ∧ ∀ q H', Same H H' → SqT K H' q (nV (behW rs w)) → Q (.ref q) H'
end Shf


namespace Shf
open PySem PySem.Spec PyProof.Rows L2 LamX
/-! ### walks by their numbers -/
def cAt (c : List Nat) (b : Nat) : Nat := c.getD b 0
/-- the block at which a number falls, and what is left of it -/
def stepW (c : List Nat) : List Nat → Nat → Nat × Nat
  | [], m => (0, m)
  | b :: r, m => if cAt c b ≤ m then stepW c r (m - cAt c b) else (b, m)
def nthW (rs : List (List Nat)) : Nat → List Nat → Nat → List Nat
  | 0, w, _ => w
  | k + 1, w, m => nthW rs k (w ++ [(stepW (cntW rs k) (behW rs w) m).1]) (stepW (cntW rs k) (behW rs w) m).2
def sumW (c bs : List Nat) : Nat := (bs.map (cAt c)).sum
theorem sumW_cons (c : List Nat) (b : Nat) (bs : List Nat) : sumW c (b :: bs) = cAt c b + sumW c bs := by
  unfold sumW
  rw [List.map_cons, List.sum_cons]
theorem cAt_succ {rs : List (List Nat)} {k b : Nat} (h : b < rs.length) : cAt (cntW rs (k + 1)) b = sumW (cntW rs k) (rs.getD b []) := by
  unfold cAt sumW
  rw [List.getD_eq_getElem?_getD, List.getD_eq_getElem?_getD]
  show ((rs.map fun row => (row.map fun o => (cntW rs k).getD o 0).sum)[b]?).getD 0 = _
  rw [List.getElem?_map, List.getElem?_eq_getElem h]
  rfl
theorem behW_snoc (rs : List (List Nat)) (w : List Nat) (b : Nat) : behW rs (w ++ [b]) = rs.getD b [] := by
  unfold behW
  rw [if_neg (by simp), List.getLastD_eq_getLast?, List.getLast?_append, List.getLast?_singleton]
  rfl
theorem sum_getD : ∀ c : List Nat, sumW c (List.range c.length) = c.sum
  | c => by
    unfold sumW cAt
    congr 1
    refine List.ext_getElem? fun i => ?_
    rw [List.getElem?_map]
    by_cases h : i < c.length
    · rw [List.getElem?_range h, List.getElem?_eq_getElem h, Option.map_some, List.getD_eq_getElem?_getD, List.getElem?_eq_getElem h, Option.getD_some]
    · have e1 : (List.range c.length)[i]? = none := List.getElem?_eq_none (by rw [List.length_range]; omega)
      have e2 : c[i]? = none := List.getElem?_eq_none (by omega)
      rw [e1, e2]
      rfl
theorem behW_lt {rs : List (List Nat)} (h : ∀ r ∈ rs, ∀ x ∈ r, x < rs.length) {w : List Nat} : ∀ x ∈ behW rs w, x < rs.length := fun x hx => by
  unfold behW at hx
  by_cases hw : w = []
  · rw [if_pos hw] at hx
    exact List.mem_range.mp hx
  · rw [if_neg hw, List.getD_eq_getElem?_getD] at hx
    by_cases hl : w.getLastD 0 < rs.length
    · rw [List.getElem?_eq_getElem hl, Option.getD_some] at hx
      exact h _ (List.getElem_mem hl) x hx
    · rw [List.getElem?_eq_none (by omega)] at hx
      cases hx
theorem behW_len {rs : List (List Nat)} (h : ∀ r ∈ rs, r.length ≤ 128) (hn : rs.length ≤ 64) (w : List Nat) : (behW rs w).length ≤ 128 := by
  unfold behW
  by_cases hw : w = []
  · rw [if_pos hw, List.length_range]
    omega
  · rw [if_neg hw, List.getD_eq_getElem?_getD]
    by_cases hl : w.getLastD 0 < rs.length
    · rw [List.getElem?_eq_getElem hl, Option.getD_some]
      exact h _ (List.getElem_mem hl)
    · rw [List.getElem?_eq_none (by omega)]
      exact Nat.zero_le _
def spNth (K : PySem.W.Frag) : Sp := fun vs H Q E => ∃ (v u nm : V) (d e f : PyData), vs = [v, u, nm] ∧ Dp K H v d ∧ dOk d ∧ Dp K H u e ∧ Dp K H nm f ∧
  ((∃ x : Int, WbBad d x ∧ wAt K "InvalidWeb" (.int x) H E) ∨ ∃ (n : Nat) (L : List (Nat × Nat)), WbOk d n L ∧ L.length < 64 ∧
    ((dIn 1 400 e = false ∧ wWord K "InvalidSize" (.str "touches") H E) ∨ ∃ t : Nat, e = .int (t : Int) ∧ 1 ≤ t ∧ t ≤ 400 ∧
      ((dIn 0 (((cntW (webR n L) (t - 1)).sum : Nat) - 1) f = false ∧ wAt K "InvalidIndex" (.int (-1)) H E) ∨ ∃ m : Nat, f = .int (m : Int) ∧ m < (cntW (webR n L) (t - 1)).sum ∧
        ∀ r H', Same H H' → Dp K H' r (.tuple (nI (nthW (webR n L) t [] m))) → Q r H')))
theorem rIx_mono {K : PySem.W.Frag} {x y : V} {H : Hp} {Q Q' : VK} (hQ : ∀ v H, Q v H → Q' v H) (h : rIx K x y H Q) : rIx K x y H Q' := by
  rcases h with ⟨p, xs, i, v, e1, e2, e3, e4, q⟩ | ⟨p, xs, i, v, e1, e2, e3, e4, q⟩ | ⟨z, i, c, e1, e2, e3, e4, q⟩
  · exact .inl ⟨p, xs, i, v, e1, e2, e3, e4, hQ _ _ q⟩
  · exact .inr (.inl ⟨p, xs, i, v, e1, e2, e3, e4, hQ _ _ q⟩)
  · exact .inr (.inr ⟨z, i, c, e1, e2, e3, e4, hQ _ _ q⟩)
theorem dAll_get {K : PySem.W.Frag} {H : Hp} {d : PyData} : ∀ {vs : List V} {ds : List PyData} {j : Nat}, DpAll K H vs ds → ds[j]? = some d → ∃ v, vs[j]? = some v ∧ Dp K H v d
  | _, _, 0, .cons h _, e => by
    cases e
    exact ⟨_, rfl, h⟩
  | _, _, j + 1, .cons _ t, e => dAll_get (j := j) t e
  | _, _, 0, .nil, e => by cases e
  | _, _, _ + 1, .nil, e => by cases e
theorem cnt_row {K : PySem.W.Frag} {H : Hp} {vs : List V} {rs : List (List Nat)} {t j : Nat} (h : DpAll K H vs (cntD rs t)) (hj : j < t) : ∃ b, vs[j]? = some (.ref b) ∧ SqL K H b (nV (cntW rs j)) := by
  obtain ⟨v, e1, e2⟩ := dAll_get (j := j) (d := .list (nI (cntW rs j))) h (by
    unfold cntD
    rw [List.getElem?_map, List.getElem?_range hj]
    rfl)
  cases e2 with
  | lst g1 g2 =>
    have y := dAll_nat_vs g2
    subst y
    exact ⟨_, e1, g1⟩
theorem drop_at {bs : List Nat} {a : Nat} (h : a < bs.length) : bs.drop a = bs[a] :: bs.drop (a + 1) := List.drop_eq_getElem_cons h
theorem stepW_ge {c bs : List Nat} {a m : Nat} (h : a < bs.length) (hm : cAt c bs[a] ≤ m) : stepW c (bs.drop a) m = stepW c (bs.drop (a + 1)) (m - cAt c bs[a]) := by
  rw [drop_at h]
  exact if_pos hm
theorem stepW_lt {c bs : List Nat} {a m : Nat} (h : a < bs.length) (hm : ¬ cAt c bs[a] ≤ m) : stepW c (bs.drop a) m = (bs[a], m) := by
  rw [drop_at h]
  exact if_neg hm
theorem sumW_drop {c bs : List Nat} {a : Nat} (h : a < bs.length) : sumW c (bs.drop a) = cAt c bs[a] + sumW c (bs.drop (a + 1)) := by
  rw [drop_at h, sumW_cons]
theorem sumW_lt {c bs : List Nat} {a m : Nat} (h : m < sumW c (bs.drop a)) : a < bs.length := by
  by_cases h2 : a < bs.length
  · exact h2
  · rw [List.drop_of_length_le (by omega)] at h
    exact absurd h (Nat.not_lt_zero _)
def termW (rs : List (List Nat)) (w : List Nat) (i : Nat) : Nat := sumW (cntW rs (w.length - 1 - i)) ((behW rs (w.take i)).filter fun o => decide (o < w.getD i 0))
def numW (rs : List (List Nat)) (w : List Nat) : Nat := ((List.range w.length).map (termW rs w)).sum
def spNum (K : PySem.W.Frag) : Sp := fun vs H Q E => ∃ (v u : V) (d e : PyData), vs = [v, u] ∧ Dp K H v d ∧ dOk d ∧ Dp K H u e ∧
  ((∃ x : Int, WbBad d x ∧ wAt K "InvalidWeb" (.int x) H E) ∨ ∃ (n : Nat) (L : List (Nat × Nat)), WbOk d n L ∧ L.length < 64 ∧
    ((∃ x : Int, WkBad n L e x ∧ wAt K "InvalidWalk" (.int x) H E) ∨ (WkOk n L e ∧ ∀ w H', dItems e = nI w → Same H H' → Q (.int ((numW (webR n L) w : Nat) : Int)) H')))
theorem dIn_natW {z : PyData} {n : Nat} (he : dIn 0 ((n : Int) - 1) z = true) : ∃ q : Nat, z = .int (q : Int) ∧ q < n := by
  cases z with
  | int i =>
    have z2 : (decide ((0 : Int) ≤ i) && decide (i ≤ (n : Int) - 1)) = true := he
    rw [Bool.and_eq_true, decide_eq_true_eq, decide_eq_true_eq] at z2
    exact ⟨i.toNat, by rw [show ((i.toNat : Nat) : Int) = i by omega], by omega⟩
  | _ => cases he
theorem nats_of {n : Nat} : ∀ {ds : List PyData}, (∀ z ∈ ds, ∃ q : Nat, z = .int (q : Int) ∧ q < n) → ∃ w : List Nat, ds = nI w ∧ ∀ x ∈ w, x < n
  | [], _ => ⟨[], rfl, fun x hx => by cases hx⟩
  | c :: r, h => by
    obtain ⟨q, rfl, hq⟩ := h c (List.mem_cons_self ..)
    obtain ⟨w, rfl, hw⟩ := nats_of fun z hz => h z (List.mem_cons_of_mem _ hz)
    refine ⟨q :: w, rfl, fun x hx => ?_⟩
    rcases List.mem_cons.mp hx with rfl | hx
    · exact hq
    · exact hw x hx
theorem wk_nats {rs : List (List Nat)} {ds : List PyData} (h : AllOk rs ds) : ∃ w : List Nat, ds = nI w ∧ ∀ x ∈ w, x < rs.length := nats_of fun z hz => by
  obtain ⟨k, hk, rfl⟩ := List.mem_iff_getElem.mp hz
  have y := h k hk
  unfold okAt at y
  rw [List.getElem?_eq_getElem hk] at y
  exact dIn_natW (Bool.and_eq_true _ _ ▸ y).1
theorem WkOk.nats {n : Nat} {L : List (Nat × Nat)} {e : PyData} (h : WkOk n L e) : ∃ w : List Nat, dItems e = nI w ∧ (∀ x ∈ w, x < n) ∧ 1 ≤ w.length ∧ w.length ≤ 400 := by
  obtain ⟨w, hw, hb⟩ := wk_nats h.ok
  rw [rowsOf_len] at hb
  have y := h.row
  unfold dRowOf at y
  rw [Bool.and_eq_true, Bool.and_eq_true, decide_eq_true_eq, decide_eq_true_eq, hw] at y
  have z : (nI w).length = w.length := List.length_map ..
  rw [z] at y
  exact ⟨w, hw, hb, y.2.1, y.2.2⟩
end Shf


namespace Shf
open PySem PySem.Spec PyProof.Rows L2 LamX
/-! ### what the law on walks reckons itself -/
section
variable {X : Cx}
/-- x in a tuple, items of any depth -/
def rInDT (K : PySem.W.Frag) : R2 := fun x y H Q => ∃ d ds, Dp K H x d ∧ Dp K H y (.tuple ds) ∧ SeqAt.shaped d = true ∧ SeqAt.shaped (.tuple ds) = true ∧ Q (.bl (ds.any fun z => PyData.eqv z d)) H
theorem op_inDT (hu : X.A.units + 65 < cLine) : OpR X (compareOp .In) (rInDT X.K) := by
  intro pins s σ H x y v u Q I rx ry h
  obtain ⟨d, ds, hd, he, sd, se, q⟩ := h
  obtain ⟨as, r1⟩ := Dp.reads I d x v hd rx
  obtain ⟨bs, r2⟩ := Dp.reads I (.tuple ds) y u he ry
  exact SeqAt.in_tuple_reads r2 r1 (SeqAt.canLay_of_shaped se) (SeqAt.canLay_of_shaped sd) (room_in_shaped sd hu) ⟨.bl _, H, I, rfl, q⟩
end
structure LwOk (n : Nat) (L : List (Nat × Nat)) : Prop where
  n1 : 1 ≤ n
  n6 : n ≤ 6
  lt : ∀ p ∈ L, p.1 < p.2 ∧ p.2 < n
  nd : L.Nodup
  len : L.length < 64
def besW (n : Nat) (L : List (Nat × Nat)) (b : Nat) : List Nat := (List.range n).filter fun o => decide ((b, o) ∈ L) || decide ((o, b) ∈ L)
theorem LwOk.ord {n : Nat} {L : List (Nat × Nat)} (h : LwOk n L) : L.map ord2 = L := by
  have y := List.map_congr_left (f := ord2) (g := id) (l := L) fun p hp => (ord2_lt (h.lt p hp).1).1
  rw [y, List.map_id]
theorem bes_eq {n : Nat} {L : List (Nat × Nat)} (h : LwOk n L) : webR n L = (List.range n).map (besW n L) := by
  have b64 : ∀ p ∈ L, p.1 < 64 ∧ p.2 < 64 := fun p hp => by
    have y := h.lt p hp
    have z := h.n6
    omega
  unfold webR rowsOf
  rw [h.ord]
  refine List.map_congr_left fun i hi => ?_
  have nd : (sdL L).Nodup := (sd_asc _).imp fun h e => by
    subst e
    exact lt2_as _ _ h h
  refine (asc_nat (List.Pairwise.filter _ List.pairwise_lt_range) (srt_nd (nb_nd nd fun p hp => (h.lt p ((sd_mem b64).mp hp)).1)) fun x => ?_).symm
  rw [List.mem_filter, List.mem_range, Bool.or_eq_true, decide_eq_true_eq, decide_eq_true_eq, srt_mem, nb_mem]
  unfold Lk
  rw [sd_mem b64, sd_mem b64]
  exact ⟨fun h => h.2, fun z => ⟨by
    rcases z with z | z
    · exact (h.lt _ z).2
    · have y := h.lt _ z
      simp only at y
      omega, z⟩⟩
def spLBeside (K : PySem.W.Frag) : Sp := fun vs H Q _ => ∃ (v : V) (n b : Nat) (L : List (Nat × Nat)), vs = [v, .int (b : Int)] ∧ Dp K H v (wbN n L) ∧ LwOk n L ∧
  ∀ p H', Same H H' → H p = none → H' p = some (.lst (nV (besW n L b))) → Q (.ref p) H'
theorem nV_snoc (l : List Nat) (k : Nat) : nV (l ++ [k]) = nV l ++ [V.int (k : Int)] := List.map_append
theorem none_same {H G : Hp} {p : Addr} (s : Same H G) (h : G p = none) : H p = none := by
  cases z : H p with
  | none => rfl
  | some o =>
    have y := s p o z
    rw [h] at y
    cases y
def spLCounts (K : PySem.W.Frag) : Sp := fun vs H Q _ => ∃ (v : V) (n t : Nat) (L : List (Nat × Nat)), vs = [v, .int (t : Int)] ∧ Dp K H v (wbN n L) ∧ LwOk n L ∧ 1 ≤ t ∧ t ≤ 400 ∧
  ∀ r H', Same H H' → Dp K (newer H H') r (.list (cntD (webR n L) t)) → Q r H'
theorem LwOk.rows {n : Nat} {L : List (Nat × Nat)} (h : LwOk n L) : (webR n L).length = n ∧ (∀ r ∈ webR n L, ∀ x ∈ r, x < (webR n L).length) ∧ (∀ r ∈ webR n L, r.length ≤ 6) := by
  have n6 := h.n6
  rw [bes_eq h, List.length_map, List.length_range]
  refine ⟨rfl, fun r hr x hx => ?_, fun r hr => ?_⟩
  · obtain ⟨i, _, rfl⟩ := List.mem_map.mp hr
    exact List.mem_range.mp (List.mem_filter.mp hx).1
  · obtain ⟨i, _, rfl⟩ := List.mem_map.mp hr
    have y := List.length_filter_le (fun o => decide ((i, o) ∈ L) || decide ((o, i) ∈ L)) (List.range n)
    rw [List.length_range] at y
    exact Nat.le_trans y n6
theorem rowL_at {K : PySem.W.Frag} {H : Hp} {rs : List (List Nat)} {xs : List V} {j : Nat} {r : List Nat} (h : DpAll K H xs (rs.map fun r => PyData.list (nI r))) (hj : rs[j]? = some r) : ∃ t, xs[j]? = some (.ref t) ∧ SqL K H t (nV r) := by
  obtain ⟨v, e1, e2⟩ := dAll_get (j := j) (d := .list (nI r)) h (by rw [List.getElem?_map, hj]; rfl)
  cases e2 with
  | lst g1 g2 =>
    have y := dAll_nat_vs g2
    subst y
    exact ⟨_, e1, g1⟩
def spLNumber (K : PySem.W.Frag) : Sp := fun vs H Q _ => ∃ (v u kv : V) (n T : Nat) (L : List (Nat × Nat)) (w : List Nat), vs = [v, u, kv] ∧ Dp K H v (wbN n L) ∧ LwOk n L ∧ Dp K H u (.list (cntD (webR n L) T)) ∧ Dp K H kv (.tuple (nI w)) ∧
  w.length ≤ T ∧ T ≤ 400 ∧ (∀ x ∈ w, x < n) ∧ ∀ H', Same H H' → Q (.int ((numW (webR n L) w : Nat) : Int)) H'
theorem behW_at {rs : List (List Nat)} {w : List Nat} {i b : Nat} (h : w[i]? = some b) : behW rs (w.take (i + 1)) = rs.getD b [] := by
  rw [List.take_add_one, h]
  exact behW_snoc rs _ b
def spLWeb (K : PySem.W.Frag) : Sp := fun vs H Q _ => ∃ (a : Addr) (most : Nat) (N : Int), vs = [.ref a, .int (most : Int)] ∧ BoxN H a N ∧ N < 1000000 ∧ 1 ≤ most ∧ most ≤ 6 ∧
  ∀ r H' n L, But a H H' → BoxN H' a (N + 40) → LwOk n L → n ≤ most → Dp K H' r (wbN n L) → Q r H'
theorem coreB {H2 : Hp} {D : Addr} {o : HO} (h : H2 D = some o) : ∃ G2, G2 D = none ∧ H2 = upd G2 D o ∧ ∀ b, b ≠ D → G2 b = H2 b := by
  refine ⟨fun b => if b = D then none else H2 b, if_pos rfl, ?_, fun b n => if_neg n⟩
  funext b
  by_cases e : b = D
  · rw [e, h, upd_same]
  · rw [upd_ne e]
    exact (if_neg e).symm
theorem KeepT.core {G : Hp} {D : Addr} {acc : List V} : KeepT (upd G D (.lst acc)) G := fun b xs => by
  by_cases e : b = D
  · subst e
    rw [upd_same]
    exact ⟨(fun h => by cases h), (fun o h => by cases h)⟩
  · rw [upd_ne e]
    exact ⟨fun h => h, fun _ h => h⟩
/-- each block can be touched behind those ahead of it -/
def WkV (rs : List (List Nat)) (w : List Nat) : Prop := ∀ i b, w[i]? = some b → b ∈ behW rs (w.take i)
def spLWalk (K : PySem.W.Frag) : Sp := fun vs H Q _ => ∃ (a : Addr) (v : V) (t n : Nat) (L : List (Nat × Nat)) (N : Int), vs = [.ref a, v, .int (t : Int)] ∧ BoxN H a N ∧ N < 1000000 ∧ Dp K H v (wbN n L) ∧ LwOk n L ∧ 1 ≤ t ∧ t ≤ 41 ∧
  ∀ r H' w, But a H H' → BoxN H' a (N + 50) → Dp K H' r (.tuple (nI w)) → WkV (webR n L) w → 1 ≤ w.length → w.length ≤ t → Q r H'
theorem wkv_one {rs : List (List Nat)} {b : Nat} (h : b < rs.length) : WkV rs [b] := fun i c e => by
  cases i with
  | zero =>
    cases e
    exact List.mem_range.mpr h
  | succ i => cases e
theorem wkv_snoc {rs : List (List Nat)} {w : List Nat} {b : Nat} (h : WkV rs w) (hb : b ∈ behW rs w) : WkV rs (w ++ [b]) := fun i c e => by
  by_cases hi : i < w.length
  · rw [List.getElem?_append_left hi] at e
    rw [List.take_append_of_le_length (by omega)]
    exact h i c e
  · by_cases h2 : i = w.length
    · subst h2
      rw [List.getElem?_concat_length] at e
      cases e
      rw [List.take_append_of_le_length (Nat.le_refl _), List.take_length]
      exact hb
    · rw [List.getElem?_eq_none (by rw [List.length_append, List.length_singleton]; omega)] at e
      cases e
theorem bes_last {n : Nat} {L : List (Nat × Nat)} (h : LwOk n L) {w : List Nat} {b : Nat} (hb : b < n) : behW (webR n L) (w ++ [b]) = besW n L b := by
  rw [behW_snoc, bes_eq h, List.getD_eq_getElem?_getD, List.getElem?_map, List.getElem?_range hb]
  rfl
theorem snoc_of {w : List Nat} (h : 1 ≤ w.length) : ∃ w1 b, w = w1 ++ [b] := by
  cases w with
  | nil => exact absurd h (by decide)
  | cons x r => exact ⟨(x :: r).dropLast, (x :: r).getLast (by simp), (List.dropLast_concat_getLast _).symm⟩
/-- all walks with so many touches more than one, ascending -/
def allW (rs : List (List Nat)) : Nat → List (List Nat)
  | 0 => (List.range rs.length).map fun b => [b]
  | k + 1 => (allW rs k).flatMap fun w => (behW rs w).map fun b => w ++ [b]
def tupN (w : List Nat) : PyData := .tuple (nI w)
theorem allW_len {rs : List (List Nat)} (hn : rs.length ≤ 6) (h5 : ∀ r ∈ rs, r.length ≤ 6) : ∀ k, (allW rs k).length ≤ 6 ^ (k + 1)
  | 0 => by
    show ((List.range rs.length).map fun b => [b]).length ≤ 6 ^ 1
    rw [List.length_map, List.length_range]
    omega
  | k + 1 => by
    have ih := allW_len hn h5 k
    show ((allW rs k).flatMap fun w => (behW rs w).map fun b => w ++ [b]).length ≤ 6 ^ (k + 1 + 1)
    have y : ∀ l : List (List Nat), (l.flatMap fun w => (behW rs w).map fun b => w ++ [b]).length ≤ l.length * 6 := fun l => by
      induction l with
      | nil => exact Nat.zero_le _
      | cons w r ih2 =>
        have z : (behW rs w).length ≤ 6 := by
          unfold behW
          by_cases hw : w = []
          · rw [if_pos hw, List.length_range]
            exact hn
          · rw [if_neg hw, List.getD_eq_getElem?_getD]
            by_cases hl : w.getLastD 0 < rs.length
            · rw [List.getElem?_eq_getElem hl, Option.getD_some]
              exact h5 _ (List.getElem_mem hl)
            · rw [List.getElem?_eq_none (by omega)]
              exact Nat.zero_le _
        rw [List.flatMap_cons, List.length_append, List.length_map, List.length_cons]
        omega
    have z := y (allW rs k)
    rw [Nat.pow_succ]
    omega
theorem allW_ok {rs : List (List Nat)} (h4 : ∀ r ∈ rs, ∀ x ∈ r, x < rs.length) : ∀ k, ∀ w ∈ allW rs k, w.length = k + 1 ∧ WkV rs w ∧ ∀ x ∈ w, x < rs.length
  | 0, w, h => by
    obtain ⟨b, hb, rfl⟩ := List.mem_map.mp h
    have y := List.mem_range.mp hb
    exact ⟨rfl, wkv_one y, fun x hx => by rw [List.mem_singleton] at hx; omega⟩
  | k + 1, w, h => by
    obtain ⟨w1, hw1, h⟩ := List.mem_flatMap.mp h
    obtain ⟨b, hb, rfl⟩ := List.mem_map.mp h
    obtain ⟨e1, e2, e3⟩ := allW_ok h4 k w1 hw1
    refine ⟨by rw [List.length_append, e1]; rfl, wkv_snoc e2 hb, fun x hx => ?_⟩
    rcases List.mem_append.mp hx with hx | hx
    · exact e3 x hx
    · rw [List.mem_singleton] at hx
      subst hx
      exact behW_lt h4 x hb
def spLAll (K : PySem.W.Frag) : Sp := fun vs H Q _ => ∃ (v : V) (n t : Nat) (L : List (Nat × Nat)), vs = [v, .int (t : Int)] ∧ Dp K H v (wbN n L) ∧ LwOk n L ∧ 1 ≤ t ∧ t ≤ 4 ∧
  ∀ D vs H', Same H H' → H D = none → H' D = some (.lst vs) → DpAll K H' vs ((allW (webR n L) (t - 1)).map tupN) → Q (.ref D) H'
theorem shaped_nat {a : Nat} : SeqAt.shaped (.int (a : Int)) = true := rfl
end Shf


namespace Shf
open PySem PySem.Spec PyProof.Rows L2 LamX
/-! ### walks by their numbers: there and back -/
theorem fm_one {α β : Type} (f : α → β) : ∀ l : List α, (l.flatMap fun b => [f b]) = l.map f
  | [] => rfl
  | b :: r => by
    rw [List.flatMap_cons, fm_one f r]
    rfl
def extW (rs : List (List Nat)) : Nat → List Nat → List (List Nat)
  | 0, w => [w]
  | k + 1, w => (behW rs w).flatMap fun b => extW rs k (w ++ [b])
theorem extW_end (rs : List (List Nat)) : ∀ (k : Nat) (w : List Nat), extW rs (k + 1) w = (extW rs k w).flatMap fun u => (behW rs u).map fun b => u ++ [b]
  | 0, w => by
    show (behW rs w).flatMap (fun b => [w ++ [b]]) = [w].flatMap _
    rw [List.flatMap_singleton, fm_one]
  | k + 1, w => by
    show (behW rs w).flatMap (fun b => extW rs (k + 1) (w ++ [b])) = ((behW rs w).flatMap fun b => extW rs k (w ++ [b])).flatMap _
    rw [List.flatMap_assoc]
    congr 1
    funext b
    exact extW_end rs k (w ++ [b])
theorem allW_ext (rs : List (List Nat)) : ∀ k, allW rs k = extW rs (k + 1) []
  | 0 => by
    show (List.range rs.length).map (fun b => [b]) = (behW rs []).flatMap fun b => [[] ++ [b]]
    show _ = (List.range rs.length).flatMap fun b => [[b]]
    rw [fm_one]
  | k + 1 => by
    rw [extW_end, ← allW_ext rs k]
    rfl
theorem extW_len {rs : List (List Nat)} (h4 : ∀ r ∈ rs, ∀ x ∈ r, x < rs.length) : ∀ (k : Nat) (w : List Nat), (extW rs (k + 1) w).length = sumW (cntW rs k) (behW rs w)
  | k, w => by
    have one : ∀ (k b : Nat) (w : List Nat), b < rs.length → (extW rs k (w ++ [b])).length = cAt (cntW rs k) b := by
      intro k
      induction k with
      | zero =>
        intro b w hb
        show 1 = (List.replicate rs.length 1).getD b 0
        rw [List.getD_eq_getElem?_getD, List.getElem?_replicate, if_pos hb]
        rfl
      | succ k ih =>
        intro b w hb
        rw [cAt_succ hb]
        show ((behW rs (w ++ [b])).flatMap fun c => extW rs k (w ++ [b] ++ [c])).length = _
        have bl := behW_lt h4 (w := w ++ [b])
        rw [behW_snoc] at bl ⊢
        generalize rs.getD b [] = bs at bl
        induction bs with
        | nil => rfl
        | cons c r ih2 =>
          rw [List.flatMap_cons, List.length_append, sumW_cons, ih c (w ++ [b]) (bl c (List.mem_cons_self ..)), ih2 fun x hx => bl x (List.mem_cons_of_mem _ hx)]
    show ((behW rs w).flatMap fun c => extW rs k (w ++ [c])).length = _
    have bl := behW_lt h4 (w := w)
    generalize behW rs w = bs at bl
    induction bs with
    | nil => rfl
    | cons c r ih2 =>
      rw [List.flatMap_cons, List.length_append, sumW_cons, one k c w (bl c (List.mem_cons_self ..)), ih2 fun x hx => bl x (List.mem_cons_of_mem _ hx)]
theorem step_at {α : Type} {c : List Nat} {f : Nat → List α} : ∀ {bs : List Nat} {m : Nat}, (∀ b ∈ bs, (f b).length = cAt c b) → m < sumW c bs →
    (stepW c bs m).1 ∈ bs ∧ (stepW c bs m).2 < cAt c (stepW c bs m).1 ∧ (bs.flatMap f)[m]? = (f (stepW c bs m).1)[(stepW c bs m).2]?
  | [], m, _, h => absurd h (Nat.not_lt_zero _)
  | b :: r, m, hf, h => by
    rw [sumW_cons] at h
    have hb := hf b (List.mem_cons_self ..)
    by_cases e : cAt c b ≤ m
    · have es : stepW c (b :: r) m = stepW c r (m - cAt c b) := if_pos e
      obtain ⟨h1, h2, h3⟩ := step_at (bs := r) (m := m - cAt c b) (fun x hx => hf x (List.mem_cons_of_mem _ hx)) (by omega)
      rw [es, List.flatMap_cons, List.getElem?_append_right (by omega), hb]
      exact ⟨List.mem_cons_of_mem _ h1, h2, h3⟩
    · have es : stepW c (b :: r) m = (b, m) := if_neg e
      rw [es, List.flatMap_cons, List.getElem?_append_left (by omega)]
      exact ⟨List.mem_cons_self .., (by show m < cAt c b; omega), rfl⟩
theorem cAt_zero {rs : List (List Nat)} {b : Nat} (h : b < rs.length) : cAt (cntW rs 0) b = 1 := by
  show (List.replicate rs.length 1).getD b 0 = 1
  rw [List.getD_eq_getElem?_getD, List.getElem?_replicate, if_pos h]
  rfl
theorem ext_nth {rs : List (List Nat)} (h4 : ∀ r ∈ rs, ∀ x ∈ r, x < rs.length) : ∀ (k : Nat) (w : List Nat) (m : Nat), m < (extW rs k w).length → (extW rs k w)[m]? = some (nthW rs k w m)
  | 0, w, m, h => by
    have e : m = 0 := by
      have y : m < 1 := h
      omega
    subst e
    rfl
  | k + 1, w, m, h => by
    have bl := behW_lt h4 (w := w)
    have hl : ∀ b ∈ behW rs w, (extW rs k (w ++ [b])).length = cAt (cntW rs k) b := fun b hb => by
      cases k with
      | zero => rw [cAt_zero (bl b hb)]; rfl
      | succ k => rw [extW_len h4, behW_snoc, ← cAt_succ (bl b hb)]
    rw [extW_len h4] at h
    obtain ⟨s1, s2, s3⟩ := step_at (f := fun b => extW rs k (w ++ [b])) hl h
    show ((behW rs w).flatMap fun b => extW rs k (w ++ [b]))[m]? = some (nthW rs k (w ++ [(stepW (cntW rs k) (behW rs w) m).1]) (stepW (cntW rs k) (behW rs w) m).2)
    rw [s3]
    exact ext_nth h4 k _ _ (by rw [hl _ s1]; exact s2)
/-- the m-th of all walks -/
theorem all_nth {rs : List (List Nat)} (h4 : ∀ r ∈ rs, ∀ x ∈ r, x < rs.length) {k m : Nat} (h : m < (allW rs k).length) : (allW rs k)[m]? = some (nthW rs (k + 1) [] m) := by
  rw [allW_ext] at h ⊢
  exact ext_nth h4 _ _ _ h
theorem all_count {rs : List (List Nat)} (h4 : ∀ r ∈ rs, ∀ x ∈ r, x < rs.length) (k : Nat) : (allW rs k).length = (cntW rs k).sum := by
  rw [allW_ext, extW_len h4]
  show sumW (cntW rs k) (List.range rs.length) = _
  rw [← cntW_len rs k, sum_getD]
/-- how many walks stand ahead, for what follows w -/
def numE (rs : List (List Nat)) : List Nat → List Nat → Nat
  | _, [] => 0
  | w, b :: u => sumW (cntW rs u.length) ((behW rs w).filter fun o => decide (o < b)) + numE rs (w ++ [b]) u
theorem numE_term (rs : List (List Nat)) : ∀ (u w : List Nat), ((List.range u.length).map fun i => termW rs (w ++ u) (w.length + i)).sum = numE rs w u
  | [], w => rfl
  | b :: u, w => by
    have ih := numE_term rs u (w ++ [b])
    rw [List.length_cons, List.range_succ_eq_map, List.map_cons, List.sum_cons, List.map_map]
    show _ = sumW (cntW rs u.length) ((behW rs w).filter fun o => decide (o < b)) + numE rs (w ++ [b]) u
    rw [← ih]
    congr 1
    · unfold termW
      rw [Nat.add_zero, List.take_append_of_le_length (Nat.le_refl _), List.take_length, List.length_append, List.length_cons, List.getD_eq_getElem?_getD, List.getElem?_append_right (Nat.le_refl _), Nat.sub_self]
      rw [show w.length + (u.length + 1) - 1 - w.length = u.length by omega]
      rfl
    · congr 1
      refine List.map_congr_left fun i _ => ?_
      show termW rs (w ++ b :: u) (w.length + (i + 1)) = termW rs (w ++ [b] ++ u) ((w ++ [b]).length + i)
      rw [List.append_assoc, List.length_append, List.length_singleton]
      show termW rs (w ++ b :: u) _ = termW rs (w ++ b :: u) _
      congr 1
      omega
theorem numW_E (rs : List (List Nat)) (w : List Nat) : numW rs w = numE rs [] w := by
  rw [← numE_term]
  unfold numW
  congr 1
  refine List.map_congr_left fun i _ => ?_
  show termW rs w i = termW rs w (([] : List Nat).length + i)
  rw [List.length_nil, Nat.zero_add]
theorem behW_asc {rs : List (List Nat)} (h : ∀ r ∈ rs, r.Pairwise (· < ·)) (w : List Nat) : (behW rs w).Pairwise (· < ·) := by
  unfold behW
  by_cases hw : w = []
  · rw [if_pos hw]
    exact List.pairwise_lt_range
  · rw [if_neg hw, List.getD_eq_getElem?_getD]
    by_cases hl : w.getLastD 0 < rs.length
    · rw [List.getElem?_eq_getElem hl, Option.getD_some]
      exact h _ (List.getElem_mem hl)
    · rw [List.getElem?_eq_none (by omega)]
      exact .nil
theorem filter_none {b : Nat} : ∀ {r : List Nat}, (∀ x ∈ r, b < x) → (r.filter fun o => decide (o < b)) = []
  | [], _ => rfl
  | c :: r, h => by
    have y := h c (List.mem_cons_self ..)
    rw [List.filter_cons, if_neg (by rw [decide_eq_true_eq]; omega)]
    exact filter_none fun x hx => h x (List.mem_cons_of_mem _ hx)
theorem step_num {c : List Nat} : ∀ {bs : List Nat} {m : Nat}, bs.Pairwise (· < ·) → m < sumW c bs → m = sumW c (bs.filter fun o => decide (o < (stepW c bs m).1)) + (stepW c bs m).2 ∧ (stepW c bs m).1 ∈ bs
  | [], m, _, h => absurd h (Nat.not_lt_zero _)
  | b :: r, m, hp, h => by
    rw [sumW_cons] at h
    obtain ⟨hb, hr⟩ := List.pairwise_cons.mp hp
    by_cases e : cAt c b ≤ m
    · have es : stepW c (b :: r) m = stepW c r (m - cAt c b) := if_pos e
      obtain ⟨h1, h2⟩ := step_num (c := c) (bs := r) (m := m - cAt c b) hr (by omega)
      rw [es, List.filter_cons, if_pos (by rw [decide_eq_true_eq]; exact hb _ h2), sumW_cons]
      exact ⟨by omega, List.mem_cons_of_mem _ h2⟩
    · have es : stepW c (b :: r) m = (b, m) := if_neg e
      rw [es]
      refine ⟨?_, List.mem_cons_self ..⟩
      show m = sumW c ((b :: r).filter fun o => decide (o < b)) + m
      rw [List.filter_cons, if_neg (by rw [decide_eq_true_eq]; omega), filter_none hb]
      show m = 0 + m
      omega
theorem step_back {c : List Nat} {b r : Nat} : ∀ {bs : List Nat}, bs.Pairwise (· < ·) → b ∈ bs → r < cAt c b → stepW c bs (sumW c (bs.filter fun o => decide (o < b)) + r) = (b, r) ∧ sumW c (bs.filter fun o => decide (o < b)) + r < sumW c bs
  | [], _, h, _ => by cases h
  | d :: t, hp, h, hr => by
    obtain ⟨hd, ht⟩ := List.pairwise_cons.mp hp
    rcases List.mem_cons.mp h with rfl | h
    · rw [List.filter_cons, if_neg (by rw [decide_eq_true_eq]; omega), filter_none hd, sumW_cons]
      show stepW c (b :: t) (0 + r) = (b, r) ∧ 0 + r < cAt c b + sumW c t
      rw [Nat.zero_add]
      exact ⟨if_neg (by omega), by omega⟩
    · obtain ⟨h1, h2⟩ := step_back (bs := t) ht h hr
      rw [List.filter_cons, if_pos (by rw [decide_eq_true_eq]; exact hd _ h), sumW_cons, sumW_cons]
      refine ⟨?_, by omega⟩
      rw [show stepW c (d :: t) (cAt c d + sumW c (t.filter fun o => decide (o < b)) + r) = stepW c t (cAt c d + sumW c (t.filter fun o => decide (o < b)) + r - cAt c d) from if_pos (by omega)]
      rw [show cAt c d + sumW c (t.filter fun o => decide (o < b)) + r - cAt c d = sumW c (t.filter fun o => decide (o < b)) + r by omega]
      exact h1
theorem ext_hl {rs : List (List Nat)} (h4 : ∀ r ∈ rs, ∀ x ∈ r, x < rs.length) (k : Nat) (w : List Nat) : ∀ b ∈ behW rs w, (extW rs k (w ++ [b])).length = cAt (cntW rs k) b := fun b hb => by
  have bl := behW_lt h4 (w := w)
  cases k with
  | zero => rw [cAt_zero (bl b hb)]; rfl
  | succ k => rw [extW_len h4, behW_snoc, ← cAt_succ (bl b hb)]
/-- the number of the walk of a number -/
theorem nth_num {rs : List (List Nat)} (h4 : ∀ r ∈ rs, ∀ x ∈ r, x < rs.length) (h5 : ∀ r ∈ rs, r.Pairwise (· < ·)) : ∀ (k : Nat) (w : List Nat) (m : Nat), m < (extW rs k w).length → ∃ u, nthW rs k w m = w ++ u ∧ u.length = k ∧ numE rs w u = m
  | 0, w, m, h => by
    have e : m = 0 := by
      have y : m < 1 := h
      omega
    subst e
    exact ⟨[], (List.append_nil _).symm, rfl, rfl⟩
  | k + 1, w, m, h => by
    rw [extW_len h4] at h
    obtain ⟨s1, s2, _⟩ := step_at (f := fun b => extW rs k (w ++ [b])) (ext_hl h4 k w) h
    obtain ⟨n1, _⟩ := step_num (behW_asc h5 w) h
    obtain ⟨u, e1, e2, e3⟩ := nth_num h4 h5 k (w ++ [(stepW (cntW rs k) (behW rs w) m).1]) (stepW (cntW rs k) (behW rs w) m).2 (by rw [ext_hl h4 k w _ s1]; exact s2)
    refine ⟨(stepW (cntW rs k) (behW rs w) m).1 :: u, ?_, by rw [List.length_cons, e2], ?_⟩
    · show nthW rs k (w ++ [(stepW (cntW rs k) (behW rs w) m).1]) (stepW (cntW rs k) (behW rs w) m).2 = _
      rw [e1, List.append_assoc]
      rfl
    · show sumW (cntW rs u.length) ((behW rs w).filter fun o => decide (o < (stepW (cntW rs k) (behW rs w) m).1)) + numE rs (w ++ [(stepW (cntW rs k) (behW rs w) m).1]) u = m
      rw [e3, e2]
      exact n1.symm
/-- the walk of the number of a walk -/
theorem num_nth {rs : List (List Nat)} (h4 : ∀ r ∈ rs, ∀ x ∈ r, x < rs.length) (h5 : ∀ r ∈ rs, r.Pairwise (· < ·)) : ∀ (u w : List Nat), (∀ i b, u[i]? = some b → b ∈ behW rs (w ++ u.take i)) → numE rs w u < (extW rs u.length w).length ∧ nthW rs u.length w (numE rs w u) = w ++ u
  | [], w, _ => ⟨Nat.zero_lt_one, (List.append_nil _).symm⟩
  | b :: u, w, h => by
    have hb : b ∈ behW rs w := by
      have y := h 0 b rfl
      rw [List.take_zero, List.append_nil] at y
      exact y
    obtain ⟨i1, i2⟩ := num_nth h4 h5 u (w ++ [b]) fun i c e => by
      have y := h (i + 1) c e
      rw [List.take_succ_cons] at y
      rw [List.append_assoc]
      exact y
    rw [ext_hl h4 _ w b hb] at i1
    obtain ⟨s1, s2⟩ := step_back (behW_asc h5 w) hb i1
    rw [List.length_cons, extW_len h4]
    refine ⟨s2, ?_⟩
    show nthW rs u.length (w ++ [(stepW (cntW rs u.length) (behW rs w) (numE rs w (b :: u))).1]) (stepW (cntW rs u.length) (behW rs w) (numE rs w (b :: u))).2 = _
    have s1' : stepW (cntW rs u.length) (behW rs w) (numE rs w (b :: u)) = (b, numE rs (w ++ [b]) u) := s1
    rw [s1']
    show nthW rs u.length (w ++ [b]) (numE rs (w ++ [b]) u) = _
    rw [i2, List.append_assoc]
    rfl
theorem walk_back {rs : List (List Nat)} (h4 : ∀ r ∈ rs, ∀ x ∈ r, x < rs.length) (h5 : ∀ r ∈ rs, r.Pairwise (· < ·)) {w : List Nat} (h : WkV rs w) (hl : 1 ≤ w.length) : numW rs w < (cntW rs (w.length - 1)).sum ∧ nthW rs w.length [] (numW rs w) = w := by
  obtain ⟨k, hk⟩ : ∃ k, w.length = k + 1 := ⟨w.length - 1, by omega⟩
  obtain ⟨e1, e2⟩ := num_nth h4 h5 w [] h
  rw [← numW_E] at e1 e2
  rw [hk, ← allW_ext, all_count h4] at e1
  rw [hk, Nat.add_sub_cancel]
  rw [hk] at e2
  exact ⟨e1, e2⟩
theorem all_back {rs : List (List Nat)} (h4 : ∀ r ∈ rs, ∀ x ∈ r, x < rs.length) (h5 : ∀ r ∈ rs, r.Pairwise (· < ·)) {k m : Nat} (h : m < (allW rs k).length) : numW rs (nthW rs (k + 1) [] m) = m := by
  rw [allW_ext] at h
  obtain ⟨u, e1, _, e3⟩ := nth_num h4 h5 _ _ _ h
  rw [e1, numW_E]
  exact e3
theorem LwOk.asc {n : Nat} {L : List (Nat × Nat)} (h : LwOk n L) : ∀ r ∈ webR n L, r.Pairwise (· < ·) := fun r hr => by
  rw [bes_eq h] at hr
  obtain ⟨i, _, rfl⟩ := List.mem_map.mp hr
  exact List.Pairwise.filter _ List.pairwise_lt_range
end Shf


namespace L2
open PySem PySem.Spec PyProof.Rows
section
variable {X : Cx} {CX : CXT} {k : Nat} {f : Addr} {fd : FuncData} {sp : Sp} {E : XK} {x : PySem.Str} {p pos : Pos}
def KB_ab (K : PySem.W.Frag) (fd : FuncData) (n0 n1 : PySem.Str) : Prop := ∀ (s : Shared) (u0 u1 : Value), K.In s.heap → BindsTo s fd ⟨[], [(n0, u0), (n1, u1)]⟩ [(n0, u0), (n1, u1)]
def sp_ab (sp : Sp) : Sp := fun vs H Q E => ∃ x0 x1, vs = [x0, x1] ∧ sp [x0, x1] H Q E
theorem pe_callK_ab {n0 n1 : PySem.Str} {e0 e1 : Expr} {kp0 kp1 : Pos} {t0 t1 : TE} (F : FnOk X.prog X.w X.K X.mg X.base CX k f fd [n0, n1] sp) (hr : Room k X.A) (hg : Gl X x) (hm : X.mg x = some (.ref f)) (hk : PySem.W.keepIn X.K (.ref f) = true) (hb : KB_ab X.K fd n0 n1) (hx : Passes CX X E) (h0 : PE X e0 t0) (h1 : PE X e1 t1)
    (hall : (backToKw pos (keywordEach [⟨some n0, e0, kp0⟩, ⟨some n1, e1, kp1⟩] X.env)).all (·.1.isSome) = true := by rfl) (hks : (backToKw pos (keywordEach [⟨some n0, e0, kp0⟩, ⟨some n1, e1, kp1⟩] X.env)).filterMap (·.1) = [n0, n1] := by rfl) (hdb : (x == ("__debug__" : PySem.Str)) = false := by decide)
    (hpl : ((backTo pos (starEach [] X.env)).any (·.1) || (backToKw pos (keywordEach [⟨some n0, e0, kp0⟩, ⟨some n1, e1, kp1⟩] X.env)).any (·.1.isNone)) = false := by rfl) :
    PE X (.Call (.Name x p) [] [⟨some n0, e0, kp0⟩, ⟨some n1, e1, kp1⟩] pos) (tCall (sp_ab sp) [] E (tCons t0 (tCons t1 tNil))) := by
  refine ⟨fun pins s σ H Q I h => ?_⟩
  refine wpAny_Call_Name_kw (ld_glob I hg hm ?_ hdb)
  refine PySem.W.callWith_KW0 (h₀ := X.base) I.ok.mod.kin hk hall ?_ hpl
  have e0 : (fun (vs : List V) (H1 : Hp) => sp_ab sp (vs ++ []) H1 Q E) = fun vs H1 => sp_ab sp vs H1 Q E := by
    funext vs H1
    rw [List.append_nil]
  refine thn ((pk_cons (nm := n0) (kpos := kp0) h0 (pk_cons (nm := n1) (kpos := kp1) h1 pk_nil)).run pos pins s σ H (fun zs H1 => sp_ab sp zs H1 Q E) I (by rw [← e0]; exact h)) fun ws s1 hh => ?_
  obtain ⟨zs, H1, I1, rz, x0, x1, rfl, q⟩ := hh
  refine ⟨I1.kIn, ?_⟩
  rw [hks]
  obtain ⟨u0, u1, rfl, r0, r1⟩ : ∃ u0 u1, ws = [u0, u1] ∧ RelV x0 u0 ∧ RelV x1 u1 := by
    match ws, rz with
    | [u0, u1], .cons r0 (.cons r1 .nil) => exact ⟨u0, u1, rfl, r0, r1⟩
  refine wpAny_call (codeAny_mono (F.run X.A X.stack s1 H1 ⟨[], [(n0, u0), (n1, u1)]⟩ [u0, u1] [x0, x1] Q E hr I1.env0 (hb s1 u0 u1 I1.kIn) (.cons r0 (.cons r1 .nil)) q) fun r s' hq => ?_)
  cases r with
  | error e => exact hx pins σ H1 s1 e s' I1 hq
  | ok fl =>
    cases fl with
    | ret u => exact I1.after hq
    | next => exact False.elim hq
    | brk => exact False.elim hq
    | cont => exact False.elim hq
def KB_ba (K : PySem.W.Frag) (fd : FuncData) (n0 n1 : PySem.Str) : Prop := ∀ (s : Shared) (u0 u1 : Value), K.In s.heap → BindsTo s fd ⟨[], [(n0, u0), (n1, u1)]⟩ [(n1, u1), (n0, u0)]
def sp_ba (sp : Sp) : Sp := fun vs H Q E => ∃ x0 x1, vs = [x0, x1] ∧ sp [x1, x0] H Q E
theorem pe_callK_ba {n0 n1 : PySem.Str} {e0 e1 : Expr} {kp0 kp1 : Pos} {t0 t1 : TE} (F : FnOk X.prog X.w X.K X.mg X.base CX k f fd [n1, n0] sp) (hr : Room k X.A) (hg : Gl X x) (hm : X.mg x = some (.ref f)) (hk : PySem.W.keepIn X.K (.ref f) = true) (hb : KB_ba X.K fd n0 n1) (hx : Passes CX X E) (h0 : PE X e0 t0) (h1 : PE X e1 t1)
    (hall : (backToKw pos (keywordEach [⟨some n0, e0, kp0⟩, ⟨some n1, e1, kp1⟩] X.env)).all (·.1.isSome) = true := by rfl) (hks : (backToKw pos (keywordEach [⟨some n0, e0, kp0⟩, ⟨some n1, e1, kp1⟩] X.env)).filterMap (·.1) = [n0, n1] := by rfl) (hdb : (x == ("__debug__" : PySem.Str)) = false := by decide)
    (hpl : ((backTo pos (starEach [] X.env)).any (·.1) || (backToKw pos (keywordEach [⟨some n0, e0, kp0⟩, ⟨some n1, e1, kp1⟩] X.env)).any (·.1.isNone)) = false := by rfl) :
    PE X (.Call (.Name x p) [] [⟨some n0, e0, kp0⟩, ⟨some n1, e1, kp1⟩] pos) (tCall (sp_ba sp) [] E (tCons t0 (tCons t1 tNil))) := by
  refine ⟨fun pins s σ H Q I h => ?_⟩
  refine wpAny_Call_Name_kw (ld_glob I hg hm ?_ hdb)
  refine PySem.W.callWith_KW0 (h₀ := X.base) I.ok.mod.kin hk hall ?_ hpl
  have e0 : (fun (vs : List V) (H1 : Hp) => sp_ba sp (vs ++ []) H1 Q E) = fun vs H1 => sp_ba sp vs H1 Q E := by
    funext vs H1
    rw [List.append_nil]
  refine thn ((pk_cons (nm := n0) (kpos := kp0) h0 (pk_cons (nm := n1) (kpos := kp1) h1 pk_nil)).run pos pins s σ H (fun zs H1 => sp_ba sp zs H1 Q E) I (by rw [← e0]; exact h)) fun ws s1 hh => ?_
  obtain ⟨zs, H1, I1, rz, x0, x1, rfl, q⟩ := hh
  refine ⟨I1.kIn, ?_⟩
  rw [hks]
  obtain ⟨u0, u1, rfl, r0, r1⟩ : ∃ u0 u1, ws = [u0, u1] ∧ RelV x0 u0 ∧ RelV x1 u1 := by
    match ws, rz with
    | [u0, u1], .cons r0 (.cons r1 .nil) => exact ⟨u0, u1, rfl, r0, r1⟩
  refine wpAny_call (codeAny_mono (F.run X.A X.stack s1 H1 ⟨[], [(n0, u0), (n1, u1)]⟩ [u1, u0] [x1, x0] Q E hr I1.env0 (hb s1 u0 u1 I1.kIn) (.cons r1 (.cons r0 .nil)) q) fun r s' hq => ?_)
  cases r with
  | error e => exact hx pins σ H1 s1 e s' I1 hq
  | ok fl =>
    cases fl with
    | ret u => exact I1.after hq
    | next => exact False.elim hq
    | brk => exact False.elim hq
    | cont => exact False.elim hq
def KB_cba (K : PySem.W.Frag) (fd : FuncData) (n0 n1 n2 : PySem.Str) : Prop := ∀ (s : Shared) (u0 u1 u2 : Value), K.In s.heap → BindsTo s fd ⟨[], [(n0, u0), (n1, u1), (n2, u2)]⟩ [(n2, u2), (n1, u1), (n0, u0)]
def sp_cba (sp : Sp) : Sp := fun vs H Q E => ∃ x0 x1 x2, vs = [x0, x1, x2] ∧ sp [x2, x1, x0] H Q E
theorem pe_callK_cba {n0 n1 n2 : PySem.Str} {e0 e1 e2 : Expr} {kp0 kp1 kp2 : Pos} {t0 t1 t2 : TE} (F : FnOk X.prog X.w X.K X.mg X.base CX k f fd [n2, n1, n0] sp) (hr : Room k X.A) (hg : Gl X x) (hm : X.mg x = some (.ref f)) (hk : PySem.W.keepIn X.K (.ref f) = true) (hb : KB_cba X.K fd n0 n1 n2) (hx : Passes CX X E) (h0 : PE X e0 t0) (h1 : PE X e1 t1) (h2 : PE X e2 t2)
    (hall : (backToKw pos (keywordEach [⟨some n0, e0, kp0⟩, ⟨some n1, e1, kp1⟩, ⟨some n2, e2, kp2⟩] X.env)).all (·.1.isSome) = true := by rfl) (hks : (backToKw pos (keywordEach [⟨some n0, e0, kp0⟩, ⟨some n1, e1, kp1⟩, ⟨some n2, e2, kp2⟩] X.env)).filterMap (·.1) = [n0, n1, n2] := by rfl) (hdb : (x == ("__debug__" : PySem.Str)) = false := by decide)
    (hpl : ((backTo pos (starEach [] X.env)).any (·.1) || (backToKw pos (keywordEach [⟨some n0, e0, kp0⟩, ⟨some n1, e1, kp1⟩, ⟨some n2, e2, kp2⟩] X.env)).any (·.1.isNone)) = false := by rfl) :
    PE X (.Call (.Name x p) [] [⟨some n0, e0, kp0⟩, ⟨some n1, e1, kp1⟩, ⟨some n2, e2, kp2⟩] pos) (tCall (sp_cba sp) [] E (tCons t0 (tCons t1 (tCons t2 tNil)))) := by
  refine ⟨fun pins s σ H Q I h => ?_⟩
  refine wpAny_Call_Name_kw (ld_glob I hg hm ?_ hdb)
  refine PySem.W.callWith_KW0 (h₀ := X.base) I.ok.mod.kin hk hall ?_ hpl
  have e0 : (fun (vs : List V) (H1 : Hp) => sp_cba sp (vs ++ []) H1 Q E) = fun vs H1 => sp_cba sp vs H1 Q E := by
    funext vs H1
    rw [List.append_nil]
  refine thn ((pk_cons (nm := n0) (kpos := kp0) h0 (pk_cons (nm := n1) (kpos := kp1) h1 (pk_cons (nm := n2) (kpos := kp2) h2 pk_nil))).run pos pins s σ H (fun zs H1 => sp_cba sp zs H1 Q E) I (by rw [← e0]; exact h)) fun ws s1 hh => ?_
  obtain ⟨zs, H1, I1, rz, x0, x1, x2, rfl, q⟩ := hh
  refine ⟨I1.kIn, ?_⟩
  rw [hks]
  obtain ⟨u0, u1, u2, rfl, r0, r1, r2⟩ : ∃ u0 u1 u2, ws = [u0, u1, u2] ∧ RelV x0 u0 ∧ RelV x1 u1 ∧ RelV x2 u2 := by
    match ws, rz with
    | [u0, u1, u2], .cons r0 (.cons r1 (.cons r2 .nil)) => exact ⟨u0, u1, u2, rfl, r0, r1, r2⟩
  refine wpAny_call (codeAny_mono (F.run X.A X.stack s1 H1 ⟨[], [(n0, u0), (n1, u1), (n2, u2)]⟩ [u2, u1, u0] [x2, x1, x0] Q E hr I1.env0 (hb s1 u0 u1 u2 I1.kIn) (.cons r2 (.cons r1 (.cons r0 .nil))) q) fun r s' hq => ?_)
  cases r with
  | error e => exact hx pins σ H1 s1 e s' I1 hq
  | ok fl =>
    cases fl with
    | ret u => exact I1.after hq
    | next => exact False.elim hq
    | brk => exact False.elim hq
    | cont => exact False.elim hq
end
end L2
namespace Shf
open PySem PySem.Spec PyProof.Rows L2 LamX
theorem Fk.kw_ab {P : Program} {w : World} {K : PySem.W.Frag} {mg : PySem.Str → Option Value} {base : Heap} {k : Nat} {x n0 n1 : PySem.Str} {sp : Sp} {st : Stmt} {fd : FuncData} (c : Fk P w K mg base k x [n0, n1] sp) (h : Has K mg x st fd)
    (hb : ∀ (kV doc pm : Value) (an : Option Addr) (cdv ct : Value) (u0 u1 : Value), bindArgs (PySem.W.fnOf x x (defArgs st) (defBody st) (defScope st) .none kV doc pm an cdv ct) ⟨[], [(n0, u0), (n1, u1)]⟩ = pure [(n0, u0), (n1, u1)]) :
    ∃ fd, FnOk P w K mg base (L2.CX P w) k (ea K x) fd [n0, n1] sp ∧ KB_ab K fd n0 n1 := by
  obtain ⟨fd1, F, _, oc1, od1, osl1, lk1⟩ := c.ex
  obtain ⟨oc, od, dV, kV, doc, pm, an, cdv, ct, osl, rfl, lk, hcd, hD, hK⟩ := h.F.ex
  have e : fd1 = PySem.W.fnOf x x (defArgs st) (defBody st) (defScope st) dV kV doc pm an cdv ct := by
    rw [lk] at lk1
    have y := congrArg Obj.data (Option.some.inj lk1)
    exact (Data.func.inj y).symm
  rcases hD with ⟨_, rfl⟩ | ⟨e2, _⟩
  · refine ⟨fd1, F, fun s u0 u1 _ => ?_⟩
    rw [e]
    exact BindsTo.of_eq (hb kV doc pm an cdv ct u0 u1)
  · exact absurd rfl e2
theorem Fk.kw_ba {P : Program} {w : World} {K : PySem.W.Frag} {mg : PySem.Str → Option Value} {base : Heap} {k : Nat} {x n0 n1 : PySem.Str} {sp : Sp} {st : Stmt} {fd : FuncData} (c : Fk P w K mg base k x [n1, n0] sp) (h : Has K mg x st fd)
    (hb : ∀ (kV doc pm : Value) (an : Option Addr) (cdv ct : Value) (u0 u1 : Value), bindArgs (PySem.W.fnOf x x (defArgs st) (defBody st) (defScope st) .none kV doc pm an cdv ct) ⟨[], [(n0, u0), (n1, u1)]⟩ = pure [(n1, u1), (n0, u0)]) :
    ∃ fd, FnOk P w K mg base (L2.CX P w) k (ea K x) fd [n1, n0] sp ∧ KB_ba K fd n0 n1 := by
  obtain ⟨fd1, F, _, oc1, od1, osl1, lk1⟩ := c.ex
  obtain ⟨oc, od, dV, kV, doc, pm, an, cdv, ct, osl, rfl, lk, hcd, hD, hK⟩ := h.F.ex
  have e : fd1 = PySem.W.fnOf x x (defArgs st) (defBody st) (defScope st) dV kV doc pm an cdv ct := by
    rw [lk] at lk1
    have y := congrArg Obj.data (Option.some.inj lk1)
    exact (Data.func.inj y).symm
  rcases hD with ⟨_, rfl⟩ | ⟨e2, _⟩
  · refine ⟨fd1, F, fun s u0 u1 _ => ?_⟩
    rw [e]
    exact BindsTo.of_eq (hb kV doc pm an cdv ct u0 u1)
  · exact absurd rfl e2
theorem Fk.kw_cba {P : Program} {w : World} {K : PySem.W.Frag} {mg : PySem.Str → Option Value} {base : Heap} {k : Nat} {x n0 n1 n2 : PySem.Str} {sp : Sp} {st : Stmt} {fd : FuncData} (c : Fk P w K mg base k x [n2, n1, n0] sp) (h : Has K mg x st fd)
    (hb : ∀ (kV doc pm : Value) (an : Option Addr) (cdv ct : Value) (u0 u1 u2 : Value), bindArgs (PySem.W.fnOf x x (defArgs st) (defBody st) (defScope st) .none kV doc pm an cdv ct) ⟨[], [(n0, u0), (n1, u1), (n2, u2)]⟩ = pure [(n2, u2), (n1, u1), (n0, u0)]) :
    ∃ fd, FnOk P w K mg base (L2.CX P w) k (ea K x) fd [n2, n1, n0] sp ∧ KB_cba K fd n0 n1 n2 := by
  obtain ⟨fd1, F, _, oc1, od1, osl1, lk1⟩ := c.ex
  obtain ⟨oc, od, dV, kV, doc, pm, an, cdv, ct, osl, rfl, lk, hcd, hD, hK⟩ := h.F.ex
  have e : fd1 = PySem.W.fnOf x x (defArgs st) (defBody st) (defScope st) dV kV doc pm an cdv ct := by
    rw [lk] at lk1
    have y := congrArg Obj.data (Option.some.inj lk1)
    exact (Data.func.inj y).symm
  rcases hD with ⟨_, rfl⟩ | ⟨e2, _⟩
  · refine ⟨fd1, F, fun s u0 u1 u2 _ => ?_⟩
    rw [e]
    exact BindsTo.of_eq (hb kV doc pm an cdv ct u0 u1 u2)
  · exact absurd rfl e2
end Shf


namespace Shf
open PySem PySem.Spec PyProof.Rows L2 LamX
/-! ### the law of numbered walks: bounds, refused values, a rest proved once -/
theorem tif_suff {c : TT} {t e : TE} {σ : L2.St} {H : Hp} {Q : VK} (P : V → Hp → Prop) (h : ∀ Q' : VK, (∀ v H', P v H' → Q' v H') → tIf c t e σ H Q') (hq : ∀ v H', P v H' → Q v H') : tIf c t e σ H Q := h Q hq
theorem te_suff {t : TE} {σ : L2.St} {H : Hp} {Q : VK} (P : V → Hp → Prop) (h : ∀ Q' : VK, (∀ v H', P v H' → Q' v H') → t σ H Q') (hq : ∀ v H', P v H' → Q v H') : t σ H Q := h Q hq
theorem tt_suff {c : TT} {σ : L2.St} {H : Hp} {Q : Bool → Hp → Prop} (P : Hp → Prop) (h : ∀ Q' : Bool → Hp → Prop, (∀ H', P H' → Q' false H') → c σ H Q') (hq : ∀ H', P H' → Q false H') : c σ H Q := h Q hq
theorem t_if {c : TT} {t e : TE} {σ : L2.St} {H : Hp} {Q : VK} (h : c σ H fun b H1 => if b = true then t σ H1 Q else e σ H1 Q) : tIf c t e σ H Q := h
theorem sum_leW : ∀ {l : List Nat} {m : Nat}, (∀ x ∈ l, x ≤ m) → l.sum ≤ l.length * m
  | [], _, _ => Nat.zero_le _
  | x :: r, m, h => by
    have ih := sum_leW (l := r) fun y hy => h y (List.mem_cons_of_mem _ hy)
    have hx := h x (List.mem_cons_self ..)
    rw [List.sum_cons, List.length_cons, Nat.add_mul, Nat.one_mul]
    omega
theorem cntW_le {rs : List (List Nat)} (h6 : ∀ r ∈ rs, r.length ≤ 6) : ∀ k, ∀ x ∈ cntW rs k, x ≤ 6 ^ k
  | 0, x, hx => by
    obtain rfl := List.eq_of_mem_replicate hx
    exact Nat.le_refl _
  | k + 1, x, hx => by
    obtain ⟨row, hr, rfl⟩ := List.mem_map.mp (show x ∈ rs.map (fun row => (row.map fun o => (cntW rs k).getD o 0).sum) from hx)
    have y := sum_leW (l := row.map fun o => (cntW rs k).getD o 0) (m := 6 ^ k) fun z hz => by
      obtain ⟨o, _, rfl⟩ := List.mem_map.mp hz
      rw [List.getD_eq_getElem?_getD]
      cases e : (cntW rs k)[o]? with
      | none => exact Nat.zero_le _
      | some q => exact cntW_le h6 k q (List.mem_of_getElem? e)
    rw [List.length_map] at y
    exact Nat.le_trans y (Nat.le_trans (Nat.mul_le_mul_right (6 ^ k) (h6 row hr)) (by rw [Nat.pow_succ, Nat.mul_comm]; exact Nat.le_refl _))
theorem cnt_sum {rs : List (List Nat)} (hn : rs.length ≤ 6) (h6 : ∀ r ∈ rs, r.length ≤ 6) (k : Nat) : (cntW rs k).sum ≤ 6 ^ (k + 1) := by
  have y := sum_leW (cntW_le h6 k)
  rw [cntW_len] at y
  exact Nat.le_trans y (Nat.le_trans (Nat.mul_le_mul_right _ hn) (by rw [Nat.pow_succ, Nat.mul_comm]; exact Nat.le_refl _))
theorem log_small {n : Nat} (h : n ≤ 6 ^ 41) : ((n : Nat) : Int).natAbs.log2 < 1920 := by
  show n.log2 < 1920
  by_cases z : n = 0
  · subst z
    decide
  · have y : n.log2 < 110 := (Nat.log2_lt z).mpr (Nat.lt_of_le_of_lt h (by decide))
    omega
theorem LwOk.cnt {n : Nat} {L : List (Nat × Nat)} (h : LwOk n L) {k : Nat} (hk : k ≤ 40) : (cntW (webR n L) k).sum ≤ 6 ^ 41 := by
  obtain ⟨e1, _, e3⟩ := h.rows
  exact Nat.le_trans (cnt_sum (by rw [e1]; exact h.n6) e3 k) (Nat.pow_le_pow_right (by decide) (by omega))
theorem nice_walk {w : List Nat} {m : Nat} (h : ∀ x ∈ w, x < m) (hm : m ≤ 6) (hl : w.length ≤ 400) : Nice (.tuple (nI w)) 1 1000000 := (nice_tup (nice_nI fun x hx => by
  have y := h x hx
  omega)).le (Nat.le_refl _) (by omega)
theorem nI_at {w : List Nat} {k b : Nat} (h : w[k]? = some b) (zs : List PyData) : (nI w ++ zs)[k]? = some (.int (b : Int)) := by
  have hk := (List.getElem?_eq_some_iff.mp h).1
  rw [List.getElem?_append_left (by rw [show (nI w).length = w.length from List.length_map ..]; exact hk)]
  show (w.map fun x : Nat => PyData.int (x : Int))[k]? = _
  rw [List.getElem?_map, h]
  rfl
theorem nI_getD {w : List Nat} {k b : Nat} (h : w[k]? = some b) (zs : List PyData) : (nI w ++ zs).getD k .none = .int (b : Int) := by
  rw [List.getD_eq_getElem?_getD, nI_at h zs]
  rfl
theorem okAt_walk {rs : List (List Nat)} (h4 : ∀ r ∈ rs, ∀ x ∈ r, x < rs.length) {w : List Nat} (h : WkV rs w) (zs : List PyData) (k : Nat) (hk : k < w.length) : okAt rs (nI w ++ zs) k = true := by
  obtain ⟨b, hb⟩ : ∃ b, w[k]? = some b := ⟨_, List.getElem?_eq_getElem hk⟩
  have hm := h k b hb
  have lb := behW_lt h4 _ hm
  unfold okAt
  rw [nI_at hb zs]
  show (dIn 0 ((rs.length : Int) - 1) (.int (b : Int)) && (decide (k = 0) || decide (((b : Nat) : Int).toNat ∈ rs.getD (dNum ((nI w ++ zs).getD (k - 1) .none)).toNat []))) = true
  rw [Bool.and_eq_true, Bool.or_eq_true, decide_eq_true_eq, decide_eq_true_eq]
  refine ⟨?_, ?_⟩
  · show (decide ((0 : Int) ≤ (b : Int)) && decide ((b : Int) ≤ (rs.length : Int) - 1)) = true
    rw [Bool.and_eq_true, decide_eq_true_eq, decide_eq_true_eq]
    omega
  · cases k with
    | zero => exact .inl rfl
    | succ j =>
      right
      obtain ⟨c, hc⟩ : ∃ c, w[j]? = some c := ⟨_, List.getElem?_eq_getElem (show j < w.length by omega)⟩
      rw [behW_at hc] at hm
      rw [Nat.add_sub_cancel, nI_getD hc zs]
      exact hm
theorem wk_ok {n : Nat} {L : List (Nat × Nat)} (h : LwOk n L) {w : List Nat} (hw : WkV (webR n L) w) (h1 : 1 ≤ w.length) (h2 : w.length ≤ 400) {e : PyData} (hs : dSeq e = true) (hi : dItems e = nI w) : WkOk n L e := by
  have el : (nI w).length = w.length := List.length_map ..
  refine ⟨?_, fun k hk => ?_⟩
  · unfold dRowOf
    rw [hs, hi, el, decide_eq_true h1, decide_eq_true h2]
    rfl
  · rw [hi] at hk ⊢
    have y := okAt_walk h.rows.2.1 hw [] k (by omega)
    rw [List.append_nil] at y
    exact y
theorem bes_irr {n : Nat} {L : List (Nat × Nat)} (h : LwOk n L) (b : Nat) : b ∉ (webR n L).getD b [] := fun z => by
  rw [bes_eq h, List.getD_eq_getElem?_getD] at z
  by_cases hb : b < n
  · rw [List.getElem?_map, List.getElem?_range hb] at z
    have y := (List.mem_filter.mp (show b ∈ besW n L b from z)).2
    rw [Bool.or_eq_true, decide_eq_true_eq] at y
    have q : (b, b) ∈ L := y.elim id id
    exact absurd (h.lt _ q).1 (Nat.lt_irrefl _)
  · rw [List.getElem?_eq_none (by rw [List.length_map, List.length_range]; omega)] at z
    cases z
theorem wk_bad {n : Nat} {L : List (Nat × Nat)} (h : LwOk n L) {w : List Nat} (hw : WkV (webR n L) w) (h1 : 1 ≤ w.length) (h2 : w.length ≤ 399) {z : PyData} (hz : dIn 0 ((n : Int) - 1) z = false ∨ ∃ b : Nat, w[w.length - 1]? = some b ∧ z = .int (b : Int)) : WkBad n L (.list (nI w ++ [z])) (w.length : Int) := by
  obtain ⟨e1, e2, _⟩ := h.rows
  have el : (nI w).length = w.length := List.length_map ..
  have et : (nI w ++ [z]).length = w.length + 1 := by rw [List.length_append, el]; rfl
  refine WkBad.off w.length ?_ ⟨?_, ?_, fun k hk => okAt_walk e2 hw [z] k hk⟩
  · unfold dRowOf
    show (true && (decide (1 ≤ (nI w ++ [z]).length) && decide ((nI w ++ [z]).length ≤ 400))) = true
    rw [et, decide_eq_true (show 1 ≤ w.length + 1 by omega), decide_eq_true (show w.length + 1 ≤ 400 by omega)]
    rfl
  · show w.length < (nI w ++ [z]).length
    omega
  · show okAt (webR n L) (nI w ++ [z]) w.length = false
    have ez : (nI w ++ [z])[w.length]? = some z := by
      rw [← el]
      exact List.getElem?_concat_length
    unfold okAt
    rw [ez]
    show (dIn 0 (((webR n L).length : Int) - 1) z && (decide (w.length = 0) || decide ((dNum z).toNat ∈ (webR n L).getD (dNum ((nI w ++ [z]).getD (w.length - 1) .none)).toNat []))) = false
    rw [e1]
    rcases hz with hz | ⟨b, hb, rfl⟩
    · rw [hz]
      rfl
    · rw [nI_getD hb, decide_eq_false (show ¬ w.length = 0 by omega)]
      show (_ && (false || decide (b ∈ (webR n L).getD b []))) = false
      rw [decide_eq_false (bes_irr h b), Bool.or_self, Bool.and_false]
theorem lk_pr (p : Nat × Nat) : lkOf (prD p) = p := rfl
theorem dLens_pr (p : Nat × Nat) : dLens (prD p) = true := dLens_tup (show (2 : Nat) ≤ 3000 by decide) (dLens_two rfl rfl)
theorem LwOk.wb {n : Nat} {L : List (Nat × Nat)} (h : LwOk n L) : WbOk (wbN n L) n L := by
  have n1 := h.n1
  have n6 := h.n6
  refine ⟨?_, badLk_done (fun c hc => ?_) 0, rfl, ?_⟩
  · show (true && ((decide ((1 : Int) ≤ (n : Int)) && decide ((n : Int) ≤ 40)) && true)) = true
    rw [decide_eq_true (show (1 : Int) ≤ (n : Int) by omega), decide_eq_true (show (n : Int) ≤ 40 by omega)]
    rfl
  · obtain ⟨p, hp, rfl⟩ := List.mem_map.mp (show c ∈ L.map prD from hc)
    have y := h.lt p hp
    show (true && ((decide ((0 : Int) ≤ (p.1 : Int)) && decide ((p.1 : Int) ≤ (n : Int) - 1)) && ((decide ((0 : Int) ≤ (p.2 : Int)) && decide ((p.2 : Int) ≤ (n : Int) - 1)) && !decide (V.int (p.1 : Int) = V.int (p.2 : Int))))) = true
    rw [decide_eq_true (show (0 : Int) ≤ (p.1 : Int) by omega), decide_eq_true (show (p.1 : Int) ≤ (n : Int) - 1 by omega), decide_eq_true (show (0 : Int) ≤ (p.2 : Int) by omega), decide_eq_true (show (p.2 : Int) ≤ (n : Int) - 1 by omega), dec_nat, decide_eq_false (show ¬ p.1 = p.2 by omega)]
    rfl
  · show (L.map prD).map lkOf = L
    rw [List.map_map]
    exact (List.map_congr_left fun p _ => lk_pr p).trans (List.map_id _)
theorem LwOk.dok {n : Nat} {L : List (Nat × Nat)} (h : LwOk n L) : dOk (wbN n L) := by
  have n6 := h.n6
  have hl := h.len
  refine ⟨((nice_tup (niceA_cons ((nice_nat (show n < 1000000 by omega)).le (Nat.zero_le 2) (Nat.le_refl _)) (niceA_cons (nice_lkD (L := L) (fun p hp => by
    have y := h.lt p hp
    omega) (by omega)) niceA_nil))).shaped (by decide)), dLens_tup (show (2 : Nat) ≤ 3000 by decide) (dLens_two rfl (dLens_tup (by rw [List.length_map]; omega) (dLens_all fun z hz => by
    obtain ⟨p, _, rfl⟩ := List.mem_map.mp hz
    exact dLens_pr p)))⟩
theorem all_wkv {rs : List (List Nat)} : ∀ (k : Nat), ∀ w ∈ allW rs k, WkV rs w ∧ w.length = k + 1
  | 0, w, hw => by
    obtain ⟨b, hb, rfl⟩ := List.mem_map.mp (show w ∈ (List.range rs.length).map (fun b => [b]) from hw)
    exact ⟨wkv_one (List.mem_range.mp hb), rfl⟩
  | k + 1, w, hw => by
    obtain ⟨u, hu, hx⟩ := List.mem_flatMap.mp (show w ∈ (allW rs k).flatMap (fun w => (behW rs w).map fun b => w ++ [b]) from hw)
    obtain ⟨b, hb, rfl⟩ := List.mem_map.mp hx
    obtain ⟨i1, i2⟩ := all_wkv k u hu
    exact ⟨wkv_snoc i1 hb, by rw [List.length_append, i2]; rfl⟩
theorem wkv_lt {rs : List (List Nat)} (h4 : ∀ r ∈ rs, ∀ x ∈ r, x < rs.length) {w : List Nat} (h : WkV rs w) : ∀ x ∈ w, x < rs.length := fun x hx => by
  obtain ⟨i, hi⟩ := List.mem_iff_getElem?.mp hx
  exact behW_lt h4 _ (h i x hi)
theorem cnt_at {K : PySem.W.Frag} {H : Hp} {v : V} {rs : List (List Nat)} {T k : Nat} (h : Dp K H v (.list (cntD rs T))) (hk : k < T) : ∃ (a c : Addr) (xs : List V), v = .ref a ∧ SqL K H a xs ∧ xs[k]? = some (.ref c) ∧ SqL K H c (((cntW rs k).map fun x : Nat => (x : Int)).map V.int) := by
  cases h with
  | lst hS hA =>
    have e : cntD rs T = ((List.range T).map (cntW rs)).map fun r => PyData.list (nI r) := by
      rw [List.map_map]
      rfl
    rw [e] at hA
    obtain ⟨c, hc, hs⟩ := rowL_at hA (j := k) (r := cntW rs k) (by rw [List.getElem?_map, List.getElem?_range hk]; rfl)
    refine ⟨_, c, _, rfl, hS, hc, ?_⟩
    rw [List.map_map]
    exact hs
def wb0 (n : Nat) : PyData := .tuple [.int (n : Int), .list [.int 0]]
theorem wb0_bad {n : Nat} (h1 : 1 ≤ n) (h2 : n ≤ 40) : WbBad (wb0 n) 0 := by
  refine WbBad.link 0 ?_ ?_
  · show (true && ((decide ((1 : Int) ≤ (n : Int)) && decide ((n : Int) ≤ 40)) && true)) = true
    rw [decide_eq_true (show (1 : Int) ≤ (n : Int) by omega), decide_eq_true (show (n : Int) ≤ 40 by omega)]
    rfl
  · exact badLk_step (i := 0) (j := 0) (c := .int 0) rfl (fun k hk => absurd hk (Nat.not_lt_zero k)) rfl
theorem wb0_ok {n : Nat} (h2 : n ≤ 40) : dOk (wb0 n) := ⟨(nice_tup (niceA_cons ((nice_nat (show n < 1000000 by omega)).le (Nat.zero_le 1) (Nat.le_refl _)) (niceA_cons (nice_of (d := .list [.int 0]) (dp := 1) (wt := 100) (by decide +kernel)) niceA_nil))).shaped (by decide), dLens_tup (show (2 : Nat) ≤ 3000 by decide) (dLens_two rfl (by decide +kernel))⟩
theorem dIn_out {c : Nat} {x : Int} (h : x < 0 ∨ (c : Int) ≤ x) : dIn 0 ((c : Int) - 1) (.int x) = false := by
  show (decide ((0 : Int) ≤ x) && decide (x ≤ (c : Int) - 1)) = false
  rw [Bool.and_eq_false_iff, decide_eq_false_iff_not, decide_eq_false_iff_not]
  omega
theorem nice_atE {s : PySem.Str} {x : Int} {a b : Nat} (h1 : Nice (.str s) 0 a) (h2 : Nice (.int x) 0 b) : Nice (.tuple [.str s, .int x]) 1 (a + 1 + (b + 1 + 0)) := nice_tup (niceA_cons h1 (niceA_cons h2 niceA_nil))
theorem t_andT {c1 c2 : TT} {σ : L2.St} {H : Hp} {Q : Bool → Hp → Prop} (h : c1 σ H fun c H1 => if c = true then c2 σ H1 Q else Q false H1) : tAnd c1 c2 σ H Q := h
theorem ne_val (x : V) : (!decide (x = x)) = false := by simp
theorem ix_lastT {K : PySem.W.Frag} {H : Hp} {a : Addr} {ws : List V} {v : V} {Q : VK} (hS : SqT K H a (ws ++ [v])) (q : Q v H) : rIx K (.ref a) (.int (-1)) H Q :=
  .inr (.inl ⟨a, _, -1, v, rfl, rfl, hS, atI_last _ _, q⟩)
theorem err_atX {K : PySem.W.Frag} {ecs : List EC} (cls lab : PySem.Str) (hm : ⟨cls, lab, true⟩ ∈ ecs) {H : Hp} {Q : VK} {x : Int} (h : ∀ p H2, Same H H2 → Dp K H2 (.ref p) (.tuple [.str lab, .int x]) → Q (.ref p) H2) : wAt K cls (.int x) H (fun cls d H' => ErrIn K ecs cls d H' Q) := fun H' d s e =>
  ⟨⟨cls, lab, true⟩, hm, rfl, d, _, rfl, e, fun p H2 s2 hp => h p H2 (s.tr s2) (.tup (SqT.of hp) (.cons (.str _) (.cons (.int _) .nil)))⟩
theorem err_wordX {K : PySem.W.Frag} {ecs : List EC} (cls lab x : PySem.Str) (hm : ⟨cls, lab, false⟩ ∈ ecs) {H : Hp} {Q : VK} (h : ∀ p H2, Same H H2 → Dp K H2 (.ref p) (.tuple [.str lab, .str x]) → Q (.ref p) H2) : wWord K cls (.str x) H (fun cls d H' => ErrIn K ecs cls d H' Q) := fun H' d s e =>
  ⟨⟨cls, lab, false⟩, hm, rfl, d, _, rfl, e, fun p H2 s2 hp => h p H2 (s.tr s2) (.tup (SqT.of hp) (.cons (.str _) (.cons (.str _) .nil)))⟩
theorem rows_shaped {n : Nat} {L : List (Nat × Nat)} (h : LwOk n L) {t : Nat} (ht : t ≤ 3) : SeqAt.shaped (.list ((allW (webR n L) t).map tupN)) = true := by
  obtain ⟨e1, e2, e3⟩ := h.rows
  have n6 := h.n6
  have y := niceA_map (f := tupN) (l := allW (webR n L) t) (dp := 1) (a := 85) fun w hw => by
    obtain ⟨l1, _, l3⟩ := allW_ok e2 t w hw
    refine (nice_tup (nice_nI fun x hx => ?_)).le (Nat.le_refl _) (by omega)
    have z := l3 x hx
    omega
  have z := Nat.le_trans (allW_len (by omega) e3 t) (Nat.pow_le_pow_right (by decide) (show t + 1 ≤ 4 by omega))
  exact (nice_lst y).shaped (by decide)
/-- a list is unlike none of its kind -/
theorem eqv_nil (xs : List PyData) : (!PyData.eqv (.list xs) (.list [])) = !xs.isEmpty := by
  cases xs with
  | nil => rfl
  | cons x r => rfl
end Shf


namespace Shf
open PySem PySem.Spec PyProof.Rows L2 LamX
/-! ### sorted of tuples, items of any depth -/
def rSortedDT (K : PySem.W.Frag) : List V → Hp → VK → Prop := fun vs H Q => ∃ (a : Addr) (xs : List V) (ds : List PyData), vs = [V.ref a] ∧ SqL K H a xs ∧ DpAll K H xs ds ∧ PySem.W.AllAlike ds ∧ (∀ d, d ∈ ds → ∃ x r, d = .tuple (x :: r)) ∧ (∀ d, d ∈ ds → d.depth ≤ 60) ∧
  ∀ (zs : List (V × PyData)) p, zs.Perm (xs.zip ds) → zs.Pairwise (fun a b => PySem.W.dataLt b.2 a.2 = false) → H p = none → Q (.ref p) (upd H p (.lst (zs.map Prod.fst)))
theorem each_of {X : Cx} {pins : List (Addr × Obj)} {s : Shared} {σ : L2.St} {H : Hp} (I : Inv X pins σ H s) : ∀ {xs : List V} {us : List Value} {ds : List PyData}, Vals xs us → DpAll X.K H xs ds → PySem.W.EachIs (fun (u : Value) (b : V × PyData) => RelV b.1 u ∧ ∃ as, Reads s.heap u b.2 as) us (xs.zip ds)
  | _, _, _, .nil, .nil => .nil
  | _, _, _, .cons r t, .cons h g => .cons ⟨r, Dp.reads I _ _ _ h r⟩ (each_of I t g)
theorem each_snd {h h' : Heap} (k : ∀ b o, h.get? b = some o → h'.get? b = some o) : ∀ {us : List Value} {xs : List V} {ds : List PyData}, xs.length = ds.length → PySem.W.EachIs (fun (u : Value) (b : V × PyData) => RelV b.1 u ∧ ∃ as, Reads h u b.2 as) us (xs.zip ds) → PySem.W.EachIs (fun (u : Value) (d : PyData) => ∃ as, Reads h' u d as) us ds
  | _, [], [], _, .nil => .nil
  | _, x :: xs, d :: ds, hl, .cons r t => .cons (by
      obtain ⟨_, as, r2⟩ := r
      exact ⟨as, Reads.keeps k r2⟩) (each_snd k (by rw [List.length_cons, List.length_cons] at hl; omega) t)
theorem each_vals {h : Heap} : ∀ {us : List Value} {bs : List (V × PyData)}, PySem.W.EachIs (fun (u : Value) (b : V × PyData) => RelV b.1 u ∧ ∃ as, Reads h u b.2 as) us bs → Vals (bs.map Prod.fst) us
  | _, _, .nil => .nil
  | _, _, .cons r t => .cons r.1 (each_vals t)
theorem DpAll.lenZ {K : PySem.W.Frag} {H : Hp} {xs : List V} {ds : List PyData} (h : DpAll K H xs ds) : xs.length = ds.length := h.len
theorem cr_sortedDT {X : Cx} (hu : X.A.units + 70 < cLine) : CallR X (.builtin "sorted") (rSortedDT X.K) := by
  intro pins s σ H vs us Q I r h
  obtain ⟨a, xs, ds, rfl, hs, hD, hal, htp, hdp, q⟩ := h
  obtain ⟨its, rv, hl, hz⟩ := I.list hs
  rw [Vals.ref1 r]
  have hlz : its.length ≤ sizeLine := by rw [← rv.length]; exact hz
  have each := each_of I rv hD
  have keep : ∀ b o, s.heap.get? b = some o → (PySem.W.sortingHeap (PySem.W.copyHeap s.heap its) (s.heap.objs.size + 1) its).get? b = some o := fun b o e => PySem.W.sorting_copy_old e
  have snd := each_snd keep hD.len each
  have S : PySem.W.SortsAt X.prog X.w X.A.in1.in1 { s with heap := PySem.W.sortingHeap (PySem.W.copyHeap s.heap its) (s.heap.objs.size + 1) its } (PySem.W.dataKind (PySem.W.sortingHeap (PySem.W.copyHeap s.heap its) (s.heap.objs.size + 1) its) ds) its :=
    PySem.W.SortsAt.data snd hal (.inl htp) fun d hd => by
      have y := hdp d hd
      show X.A.units + 1 + 1 + d.depth < cLine
      omega
  refine PySem.W.sorted_vals hl.isList S hlz ?_
  have keys : PySem.W.EachIs (fun (u : Value) (b : V × PyData) => (PySem.W.dataKind (PySem.W.sortingHeap (PySem.W.copyHeap s.heap its) (s.heap.objs.size + 1) its) ds).keyOf u = some (PySem.W.keyToks b.2)) its (xs.zip ds) := by
    refine PySem.W.EachIs.of_zip each.length fun p hp => ?_
    obtain ⟨_, as, r2⟩ := each.zip p hp
    refine PySem.W.dataKind_some hal ?_ (Reads.keeps keep r2)
    exact (List.of_mem_zip (List.of_mem_zip hp).2).2
  have out := PySem.W.sortVals_each (κ := PySem.W.dataKind (PySem.W.sortingHeap (PySem.W.copyHeap s.heap its) (s.heap.objs.size + 1) its) ds) (rev := false) (fun b : V × PyData => PySem.W.keyToks b.2) each keys
  have perm := List.mergeSort_perm (xs.zip ds) (PySem.W.sortLe (PySem.W.dataKind (PySem.W.sortingHeap (PySem.W.copyHeap s.heap its) (s.heap.objs.size + 1) its) ds).toKeyOrd false fun b : V × PyData => PySem.W.keyToks b.2)
  have pw := PySem.W.sort_pairwise (PySem.W.sortLe_total (PySem.W.dataKind (PySem.W.sortingHeap (PySem.W.copyHeap s.heap its) (s.heap.objs.size + 1) its) ds).toKeyOrd false fun b : V × PyData => PySem.W.keyToks b.2) (xs.zip ds)
  have pw2 := pw.imp (S := fun a b => PySem.W.dataLt b.2 a.2 = false) fun {x y} h => by
    have z : (!PySem.W.dataLt y.2 x.2) = true := h
    rw [Bool.not_eq_true'] at z
    exact z
  obtain ⟨e, he⟩ := sortedAll_at s.heap its (PySem.W.sortVals (PySem.W.dataKind (PySem.W.sortingHeap (PySem.W.copyHeap s.heap its) (s.heap.objs.size + 1) its) ds) false its its).toArray
  have hle := Nat.le_succ s.heap.objs.size
  refine ⟨.ref (s.heap.objs.size + 1), upd H (s.heap.objs.size + 1) (.lst (((xs.zip ds).mergeSort (PySem.W.sortLe (PySem.W.dataKind (PySem.W.sortingHeap (PySem.W.copyHeap s.heap its) (s.heap.objs.size + 1) its) ds).toKeyOrd false fun b : V × PyData => PySem.W.keyToks b.2)).map Prod.fst)), I.laid (t' := s.toks) (fun b o e => sortedAll_old e) hle ⟨?_, _, e, each_vals out, he⟩, rfl, q _ _ perm pw2 (I.hok.fresh hle)⟩
  rw [List.length_map, perm.length_eq, List.length_zip]
  exact Nat.le_trans (Nat.min_le_left _ _) hz
/-! ### a cost and a memory -/
abbrev CM := Nat × List Nat
def rD (p : CM) : PyData := .tuple [.int (p.1 : Int), .tuple (nI p.2)]
theorem alike_nI : ∀ {l m : List Nat}, l.length = m.length → PySem.W.alikeAll (nI l) (nI m) = true
  | [], [], _ => by
    show PySem.W.alikeAll [] [] = true
    rw [PySem.W.alikeAll]
  | x :: l, y :: m, h => by
    show PySem.W.alikeAll (.int (x : Int) :: nI l) (.int (y : Int) :: nI m) = true
    rw [PySem.W.alikeAll, alike_nI (by rw [List.length_cons, List.length_cons] at h; omega), PySem.W.alike]
    rfl
theorem alike_rD {p q : CM} (h : p.2.length = q.2.length) : PySem.W.alike (rD p) (rD q) = true := by
  show PySem.W.alike (.tuple [.int (p.1 : Int), .tuple (nI p.2)]) (.tuple [.int (q.1 : Int), .tuple (nI q.2)]) = true
  rw [PySem.W.alike, PySem.W.alikeAll, PySem.W.alike, PySem.W.alikeAll, PySem.W.alike, alike_nI h, PySem.W.alikeAll]
  rfl
theorem lt_cost {p q : CM} (h : p.2.length = q.2.length) (hl : PySem.W.dataLt (rD q) (rD p) = false) : p.1 ≤ q.1 := by
  by_cases e : q.1 = p.1
  · omega
  have al : PySem.W.alike (.int (q.1 : Int)) (.int (p.1 : Int)) = true := by rw [PySem.W.alike]
  have ev : PyData.eqv (.int (q.1 : Int)) (.int (p.1 : Int)) = false := by
    rw [PyData.eqv]
    simp only [beq_eq_false_iff_ne, ne_eq]
    omega
  have y : PySem.W.dataLt (rD q) (rD p) = PySem.W.dataLt (.int (q.1 : Int)) (.int (p.1 : Int)) := (PySem.W.dataLt_tuple _ _).trans (PySem.W.dataLt_all_no al ev)
  rw [y, PySem.W.dataLt_int, decide_eq_false_iff_not] at hl
  omega
end Shf


namespace Shf
open PySem PySem.Spec PyProof.Rows L2 LamX
/-! ### sorted of a tuple -/
section
open PySem.Calls PySem.W
variable {P : Program} {w : World} {A : Around} {E : Value → Shared → Prop} {s : Shared}
theorem collect_tup {l : Addr} {us : List Value} {R : List Value → Shared → Prop} (tl : s.heap.IsTuple l us.toArray) (hs : us.length ≤ sizeLine)
    (g : R us { s with heap := (s.heap.push (seqObj "list" #[] 0)).update s.heap.objs.size (Obj.mapSeq (· ++ us.toArray)) }) : wpAny (model P w) A (collect (.ref l)) R E s := by
  obtain ⟨ob, gb, cb, nb, db⟩ := id tl
  have gb' : (s.heap.push (seqObj "list" #[] 0)).get? l = some ob := by exact Heap.get?_push_of_some _ gb
  have tt : (Value.type "tuple" == Value.type "tuple") = true := by rfl
  unfold collect; refine wpAny_bind (wpAny_runValue (codeAny_builtin entry_proto_collect' ?_))
  show wpAny _ _ (do again (.builtin "list.__iadd__" ⟨[← newList [], .ref l], []⟩)) _ _ _
  refine wpAny_bind (wpAny_newList (wpAny_pure ⟨Code.quiet_builtin _ (by decide +kernel), codeAny_builtin (entry_list_iadd') ?_⟩))
  show wpAny _ _ (Builtin.List.listExtendWith (.ref _) (.ref l) (.ref _)) _ _ { s with heap := Heap.push s.heap (seqObj "list" #[] 0) }
  unfold Builtin.List.listExtendWith; refine wpAny_bind (wpAny_typeOf (T := "tuple") ⟨ob, gb', cb⟩ ?_)
  rw [if_pos (by rw [tt]; simp)]; refine wpAny_bind (listItems_at gb' db (wpAny_bind (listItems_at (xs := #[]) (n := 0) (Heap.get?_push_size _ rfl) rfl ?_)))
  rw [if_neg (by simp)]; refine wpAny_bind (listUpdate_at (xs := #[]) (n := 0) (Heap.get?_push_size _ rfl) rfl (wpAny_pure ?_) (Nat.zero_le _) (by show (#[] ++ us.toArray).size ≤ sizeLine + 1; simp only [Array.size_append, List.size_toArray, List.length_nil]; omega))
  show wpAny (model P w) A (do
      let ob ← load (s.heap.objs.size)
      match ob.data with
      | .seq zs _ => pure (zs.toList)
      | _ => (unsupported "internal:collect")) R E { s with heap := (s.heap.push (seqObj "list" #[] 0)).update s.heap.objs.size (Obj.mapSeq (· ++ us.toArray)) }
  refine wpAny_bind (wpAny_load (get?_update_seq (Heap.get?_push_size _ rfl) (fun zs => zs ++ us.toArray)) ?_)
  show wpAny _ _ (pure ((#[] : Array Value) ++ us.toArray).toList) R E _
  rw [show ((#[] : Array Value) ++ us.toArray).toList = us by simp]; exact wpAny_pure g
theorem sorted_tup_vals {κ : PyProof.Rows.KeyKind} {l : Addr} {us : List Value} {R : Value → Shared → Prop} (tl : s.heap.IsTuple l us.toArray) (hs : us.length ≤ sizeLine) (S : SortsAt P w A.in1.in1 { s with heap := sortingHeap (copyHeap s.heap us) (s.heap.objs.size + 1) us } κ us)
    (g : R (.ref (s.heap.objs.size + 1)) { s with heap := sortedAll s.heap us (sortVals κ false us us).toArray }) : wpAny (model P w) A (call (.builtin "sorted") [.ref l]) R E s := by
  have sz : ((s.heap.push (seqObj "list" #[] 0)).update s.heap.objs.size (Obj.mapSeq (· ++ us.toArray))).objs.size = s.heap.objs.size + 1 := (Heap.size_update _ _ _).trans (size_push' _ _)
  refine call_function_entry_kw kind_sorted plain_sorted entry_sorted (args_sorted1 (.ref l)) ?_
  unfold Builtin.«sorted»; refine wpAny_bind (m := checkCount "sorted" 1 1 _) (wpAny_pure (wpAny_bind (collect_tup tl hs (wpAny_bind (wpAny_newList ?_ hs)))))
  show wpAny _ _ _ _ _ { s with heap := copyHeap s.heap us }; rw [sz]
  refine wpAny_bind (wpAny_holding (wpAny_call_entry_kw slot_list_sort ⟨_, copyHeap_at s.heap us, rfl⟩ entry_list_sort ?bd (args_list_sort _)))
  case bd =>
    refine wpAny_mono (list_sort_vals (s := { s with heap := copyHeap s.heap us }) (P := fun f s' => f = .done (.ret .none) ∧ R (.ref (s.heap.objs.size + 1)) s') (copyHeap_at s.heap us) S hs ⟨rfl, g⟩) (fun f s' hf => ?_) fun _ _ e => e
    obtain ⟨rfl, q⟩ := hf; exact ⟨_, rfl, wpAny_pure ⟨_, rfl, q⟩⟩
end
def rSortedTN (K : PySem.W.Frag) : List V → Hp → VK → Prop := fun vs H Q => ∃ (a : Addr) (l : List Nat), vs = [V.ref a] ∧ SqT K H a (nV l) ∧ ∀ (l' : List Nat) p, l'.Perm l → l'.Pairwise (· ≤ ·) → H p = none → Q (.ref p) (upd H p (.lst (nV l')))
theorem each_nat {h : Heap} : ∀ {l : List Nat} {us : List Value}, Vals (nV l) us → PySem.W.EachIs (fun (u : Value) (n : Nat) => RelV (.int (n : Int)) u ∧ ∃ as, Reads h u (.int (n : Int)) as) us l
  | [], _, .nil => .nil
  | n :: l, _, .cons r t => .cons ⟨r, by
      obtain ⟨tk, rfl⟩ := r
      exact ⟨_, .int _ _⟩⟩ (each_nat t)
theorem each_natV {h : Heap} : ∀ {us : List Value} {l : List Nat}, PySem.W.EachIs (fun (u : Value) (n : Nat) => RelV (.int (n : Int)) u ∧ ∃ as, Reads h u (.int (n : Int)) as) us l → Vals (nV l) us
  | _, _, .nil => .nil
  | _, _, .cons r t => .cons r.1 (each_natV t)
theorem each_natD {h : Heap} : ∀ {us : List Value} {l : List Nat}, PySem.W.EachIs (fun (u : Value) (n : Nat) => RelV (.int (n : Int)) u ∧ ∃ as, Reads h u (.int (n : Int)) as) us l → PySem.W.EachIs (fun (u : Value) (d : PyData) => ∃ as, Reads h u d as) us (nI l)
  | _, _, .nil => .nil
  | _, _, .cons r t => .cons r.2 (each_natD t)
theorem cr_sortedTN {X : Cx} (hu : X.A.units + 70 < cLine) : CallR X (.builtin "sorted") (rSortedTN X.K) := by
  intro pins s σ H vs us Q I r h
  obtain ⟨a, l, rfl, hs, q⟩ := h
  obtain ⟨its, rv, hl, hz⟩ := I.tuple hs
  rw [Vals.ref1 r]
  have hlz : its.length ≤ sizeLine := by rw [← rv.length]; exact hz
  obtain ⟨h2, eh2⟩ : ∃ h2, h2 = PySem.W.sortingHeap (PySem.W.copyHeap s.heap its) (s.heap.objs.size + 1) its := ⟨_, rfl⟩
  have each2 : PySem.W.EachIs (fun (u : Value) (n : Nat) => RelV (.int (n : Int)) u ∧ ∃ as, Reads h2 u (.int (n : Int)) as) its l := each_nat rv
  have hal : PySem.W.AllAlike (nI l) := fun d hd d' hd' => by
    obtain ⟨x, _, rfl⟩ := List.mem_map.mp hd
    obtain ⟨y, _, rfl⟩ := List.mem_map.mp hd'
    rw [PySem.W.alike]
  have S : PySem.W.SortsAt X.prog X.w X.A.in1.in1 { s with heap := PySem.W.sortingHeap (PySem.W.copyHeap s.heap its) (s.heap.objs.size + 1) its } (PySem.W.dataKind h2 (nI l)) its := by
    subst eh2
    refine PySem.W.SortsAt.data (each_natD each2) hal (.inr fun d hd => ?_) fun d hd => ?_
    · obtain ⟨x, _, rfl⟩ := List.mem_map.mp hd
      exact ⟨(fun z => by cases z), (fun xs z => by cases z)⟩
    · obtain ⟨x, _, rfl⟩ := List.mem_map.mp hd
      show X.A.units + 1 + 1 + 0 < cLine
      omega
  refine sorted_tup_vals hl hlz S ?_
  have keys : PySem.W.EachIs (fun (u : Value) (n : Nat) => (PySem.W.dataKind h2 (nI l)).keyOf u = some (PySem.W.keyToks (.int (n : Int)))) its l := by
    refine PySem.W.EachIs.of_zip each2.length fun p hp => ?_
    obtain ⟨_, as, r2⟩ := each2.zip p hp
    exact PySem.W.dataKind_some hal (List.mem_map.mpr ⟨p.2, (List.of_mem_zip hp).2, rfl⟩) r2
  have out := PySem.W.sortVals_each (κ := PySem.W.dataKind h2 (nI l)) (rev := false) (fun n : Nat => PySem.W.keyToks (.int (n : Int))) each2 keys
  have perm := List.mergeSort_perm l (PySem.W.sortLe (PySem.W.dataKind h2 (nI l)).toKeyOrd false fun n : Nat => PySem.W.keyToks (.int (n : Int)))
  have pw := (PySem.W.sort_pairwise (PySem.W.sortLe_total (PySem.W.dataKind h2 (nI l)).toKeyOrd false fun n : Nat => PySem.W.keyToks (.int (n : Int))) l).imp (S := fun a b => a ≤ b) fun {x y} h => by
    have z : (!PySem.W.dataLt (.int (y : Int)) (.int (x : Int))) = true := h
    rw [PySem.W.dataLt_int, Bool.not_eq_true', decide_eq_false_iff_not] at z
    omega
  obtain ⟨e, he⟩ := sortedAll_at s.heap its (PySem.W.sortVals (PySem.W.dataKind h2 (nI l)) false its its).toArray
  have hle := Nat.le_succ s.heap.objs.size
  refine ⟨.ref (s.heap.objs.size + 1), upd H (s.heap.objs.size + 1) (.lst (nV (l.mergeSort (PySem.W.sortLe (PySem.W.dataKind h2 (nI l)).toKeyOrd false fun n : Nat => PySem.W.keyToks (.int (n : Int)))))), I.laid (t' := s.toks) (fun b o e => sortedAll_old e) hle ⟨?_, _, e, each_natV out, he⟩, rfl, q _ _ perm pw (I.hok.fresh hle)⟩
  have e1 : (nV l).length = l.length := List.length_map ..
  rw [show (nV (l.mergeSort (PySem.W.sortLe (PySem.W.dataKind h2 (nI l)).toKeyOrd false fun n : Nat => PySem.W.keyToks (.int (n : Int))))).length = _ from List.length_map .., perm.length_eq]
  omega
end Shf


namespace Shf
open PySem PySem.Spec PyProof.Rows L2 LamX
/-! ### loops whose row stays while lists beside it change -/
section
variable {K : PySem.W.Frag} {a : Addr} {xs : List V} {g : TG} {tb : TS} {D : Ends} {σ : L2.St} {H : Hp}
theorem for_read {tl : TE} (h : tl σ H fun x H1 => tFor (iSqW K (tC x)) g tb D σ H1) : tFor (iSqW K tl) g tb D σ H := h
theorem for_readE {ta : TA} (h : ta σ H fun vs H1 => tFor (iEnumSq K (fun _ H R => R vs H)) g tb D σ H1) : tFor (iEnumSq K ta) g tb D σ H := h
theorem for_keepL (Pv : Nat → L2.St → Hp → Prop) (h0 : Pv 0 σ H) (hk : ∀ i σ' H', Pv i σ' H' → SqL K H' a xs)
    (hs : ∀ i x σ H, xs[i]? = some x → Pv i σ H → g x σ H fun σ2 H2 => tb { D with nx := Pv (i + 1), ct := Pv (i + 1), bk := D.nx } σ2 H2) (hd : ∀ σ H, Pv xs.length σ H → D.nx σ H) : tFor (iSqW K (tC (.ref a))) g tb D σ H := by
  refine ⟨a, xs, rfl, .inl ⟨hk 0 σ H h0, fun i m σ H => m = xs.length - i ∧ i ≤ xs.length ∧ Pv i σ H, ⟨xs.length, rfl, Nat.zero_le _, h0⟩, ?_⟩⟩
  rintro i m σ' H' ⟨rfl, hi, q⟩
  have gg := hk i σ' H' q
  by_cases hlt : i < xs.length
  · refine .inr ⟨⟨gg, hlt⟩, Pv (i + 1), fun σ2 H2 p2 => ⟨xs.length - (i + 1), by omega, rfl, hlt, p2⟩, fun x H2 y => ?_⟩
    obtain ⟨rfl, hx⟩ := y
    exact hs i x σ' H2 hx q
  · have e : i = xs.length := by omega
    subst e
    exact .inl ⟨⟨gg, Nat.le_refl _⟩, hd σ' H' q⟩
theorem for_keepT (Pv : Nat → L2.St → Hp → Prop) (h0 : Pv 0 σ H) (hk : ∀ i σ' H', Pv i σ' H' → SqT K H' a xs)
    (hs : ∀ i x σ H, xs[i]? = some x → Pv i σ H → g x σ H fun σ2 H2 => tb { D with nx := Pv (i + 1), ct := Pv (i + 1), bk := D.nx } σ2 H2) (hd : ∀ σ H, Pv xs.length σ H → D.nx σ H) : tFor (iSqW K (tC (.ref a))) g tb D σ H := by
  refine ⟨a, xs, rfl, .inr ⟨hk 0 σ H h0, fun i m σ H => m = xs.length - i ∧ i ≤ xs.length ∧ Pv i σ H, ⟨xs.length, rfl, Nat.zero_le _, h0⟩, ?_⟩⟩
  rintro i m σ' H' ⟨rfl, hi, q⟩
  have gg := hk i σ' H' q
  by_cases hlt : i < xs.length
  · refine .inr ⟨⟨gg, hlt⟩, Pv (i + 1), fun σ2 H2 p2 => ⟨xs.length - (i + 1), by omega, rfl, hlt, p2⟩, fun x H2 y => ?_⟩
    obtain ⟨rfl, hx⟩ := y
    exact hs i x σ' H2 hx q
  · have e : i = xs.length := by omega
    subst e
    exact .inl ⟨⟨gg, Nat.le_refl _⟩, hd σ' H' q⟩
theorem for_enumT (Pv : Nat → L2.St → Hp → Prop) (h0 : Pv 0 σ H) (hk : ∀ i σ' H', Pv i σ' H' → SqT K H' a xs)
    (hs : ∀ i x σ H T, xs[i]? = some x → Pv i σ H → H T = none → g (.ref T) σ (upd H T (.tup [.int (i : Nat), x])) fun σ2 H2 => tb { D with nx := Pv (i + 1), ct := Pv (i + 1), bk := D.nx } σ2 H2) (hd : ∀ σ H, Pv xs.length σ H → D.nx σ H) : tFor (iEnumSq K (fun _ H R => R [.ref a] H)) g tb D σ H := by
  refine ⟨a, xs, rfl, .inr ⟨hk 0 σ H h0, fun i m σ H => m = xs.length - i ∧ i ≤ xs.length ∧ Pv i σ H, ⟨xs.length, rfl, Nat.zero_le _, h0⟩, ?_⟩⟩
  rintro i m σ' H' ⟨rfl, hi, p⟩
  have gg := hk i σ' H' p
  by_cases hlt : i < xs.length
  · refine .inr ⟨⟨gg, hlt⟩, Pv (i + 1), fun σ2 H2 p2 => ⟨xs.length - (i + 1), by omega, rfl, hlt, p2⟩, fun v H2 y => ?_⟩
    obtain ⟨T, x, rfl, hT, rfl, hx⟩ := y
    exact hs i x σ' H' T hx p hT
  · have e : i = xs.length := by omega
    subst e
    exact .inl ⟨⟨gg, rfl⟩, hd σ' H' p⟩
end
/-! ### rounds of two rooms -/
def lastIn (w : List Nat) (b : Nat) : Nat → Nat → Option Nat
  | 0, _ => none
  | k + 1, x => if b ≤ k ∧ w[k]? = some x then some k else lastIn w b k x
theorem last_some {w : List Nat} {b : Nat} : ∀ {k x m : Nat}, lastIn w b k x = some m → b ≤ m ∧ m < k ∧ w[m]? = some x ∧ ∀ j, m < j → j < k → w[j]? ≠ some x
  | 0, _, _, h => by cases h
  | k + 1, x, m, h => by
    unfold lastIn at h
    by_cases c : b ≤ k ∧ w[k]? = some x
    · rw [if_pos c] at h
      cases h
      exact ⟨c.1, Nat.lt_succ_self _, c.2, fun j h1 h2 => absurd h2 (by omega)⟩
    · rw [if_neg c] at h
      obtain ⟨h1, h2, h3, h4⟩ := last_some h
      refine ⟨h1, by omega, h3, fun j j1 j2 e => ?_⟩
      by_cases ej : j = k
      · subst ej
        exact c ⟨by omega, e⟩
      · exact h4 j j1 (by omega) e
theorem last_none {w : List Nat} {b : Nat} : ∀ {k x : Nat}, lastIn w b k x = none → ∀ j, b ≤ j → j < k → w[j]? ≠ some x
  | 0, _, _, _, _, h => absurd h (Nat.not_lt_zero _)
  | k + 1, x, h, j, h1, h2 => by
    unfold lastIn at h
    by_cases c : b ≤ k ∧ w[k]? = some x
    · rw [if_pos c] at h
      cases h
    · rw [if_neg c] at h
      intro e
      by_cases ej : j = k
      · subst ej
        exact c ⟨h1, e⟩
      · exact last_none h j h1 (by omega) e
theorem last_low {w : List Nat} {b : Nat} : ∀ {k x : Nat}, k ≤ b → lastIn w b k x = none
  | 0, _, _ => rfl
  | k + 1, x, h => by
    unfold lastIn
    rw [if_neg (by omega)]
    exact last_low (by omega)
abbrev RS := Nat × List (Nat × Nat)
def stepR (w : List Nat) (s : RS) (i : Nat) : RS := match lastIn w s.1 i (w.getD i 0) with
  | some m => (i - 1, s.2 ++ [(m, i)])
  | none => s
theorem stepR_some {w : List Nat} {s : RS} {i m : Nat} (e : lastIn w s.1 i (w.getD i 0) = some m) : stepR w s i = (i - 1, s.2 ++ [(m, i)]) := by
  unfold stepR
  rw [e]
theorem stepR_none {w : List Nat} {s : RS} {i : Nat} (e : lastIn w s.1 i (w.getD i 0) = none) : stepR w s i = s := by
  unfold stepR
  rw [e]
def rndS (w : List Nat) : Nat → RS
  | 0 => (0, [])
  | k + 1 => stepR w (rndS w k) k
def rnd (w : List Nat) : List (Nat × Nat) := (rndS w w.length).2
theorem rndS_succ (w : List Nat) (k : Nat) : rndS w (k + 1) = stepR w (rndS w k) k := rfl
theorem rnd_b (w : List Nat) : ∀ k, (rndS w k).1 = 0 ∨ (rndS w k).1 + 2 ≤ k
  | 0 => .inl rfl
  | k + 1 => by
    have ih := rnd_b w k
    rw [rndS_succ]
    cases e : lastIn w (rndS w k).1 k (w.getD k 0) with
    | none =>
      rw [stepR_none e]
      omega
    | some m =>
      rw [stepR_some e]
      have y := last_some e
      right
      show k - 1 + 2 ≤ k + 1
      omega
theorem rnd_ble (w : List Nat) (k : Nat) : (rndS w k).1 ≤ k := by
  have y := rnd_b w k
  omega
theorem getD_at {w : List Nat} {k : Nat} (h : k < w.length) : w[k]? = some (w.getD k 0) := by
  rw [List.getD_eq_getElem?_getD, List.getElem?_eq_getElem h]
  rfl
structure RInv (w : List Nat) (k : Nat) (s : RS) : Prop where
  len : s.2.length ≤ k
  ok : ∀ p ∈ s.2, p.1 < p.2 ∧ p.2 < k ∧ (∃ x, w[p.1]? = some x ∧ w[p.2]? = some x ∧ ∀ j, p.1 < j → j < p.2 → w[j]? ≠ some x)
  pw : s.2.Pairwise (fun p q => p.2 ≤ q.1 + 1)
  bd : ∀ p ∈ s.2, p.2 ≤ s.1 + 1
theorem rnd_inv (w : List Nat) : ∀ k, k ≤ w.length → RInv w k (rndS w k)
  | 0, _ => ⟨Nat.le_refl _, (fun p hp => by cases hp), List.Pairwise.nil, (fun p hp => by cases hp)⟩
  | k + 1, hk => by
    have ih := rnd_inv w k (by omega)
    rw [rndS_succ]
    cases e : lastIn w (rndS w k).1 k (w.getD k 0) with
    | none =>
      rw [stepR_none e]
      have l := ih.len
      exact ⟨by omega, (fun p hp => by
        obtain ⟨h1, h2, h3⟩ := ih.ok p hp
        exact ⟨h1, by omega, h3⟩), ih.pw, ih.bd⟩
    | some m =>
      rw [stepR_some e]
      obtain ⟨y1, y2, y3, y4⟩ := last_some e
      have l := ih.len
      refine ⟨?_, fun p hp => ?_, ?_, fun p hp => ?_⟩
      · show ((rndS w k).2 ++ [(m, k)]).length ≤ k + 1
        rw [List.length_append, List.length_singleton]
        omega
      · rcases List.mem_append.mp hp with hp | hp
        · obtain ⟨h1, h2, h3⟩ := ih.ok p hp
          exact ⟨h1, by omega, h3⟩
        · obtain rfl := List.mem_singleton.mp hp
          exact ⟨y2, Nat.lt_succ_self _, _, y3, getD_at (by omega), y4⟩
      · refine List.pairwise_append.mpr ⟨ih.pw, List.pairwise_singleton _ _, fun p hp q hq => ?_⟩
        obtain rfl := List.mem_singleton.mp hq
        have z := ih.bd p hp
        show p.2 ≤ m + 1
        omega
      · show p.2 ≤ k - 1 + 1
        rcases List.mem_append.mp hp with hp | hp
        · have z := ih.bd p hp
          omega
        · obtain rfl := List.mem_singleton.mp hp
          show k ≤ k - 1 + 1
          omega
/-- no moment lies within two -/
theorem one_over {ps : List (Nat × Nat)} (h : ps.Pairwise (fun p q => p.2 ≤ q.1 + 1)) (m : Nat) : (ps.filter fun p => decide (p.1 < m) && decide (m < p.2)).length ≤ 1 := by
  induction h with
  | nil => exact Nat.zero_le _
  | @cons p r hp t ih =>
    by_cases c : (decide (p.1 < m) && decide (m < p.2)) = true
    · rw [List.filter_cons, if_pos c]
      have z : (r.filter fun p => decide (p.1 < m) && decide (m < p.2)) = [] := by
        refine List.filter_eq_nil_iff.mpr fun q hq y => ?_
        rw [Bool.and_eq_true, decide_eq_true_eq, decide_eq_true_eq] at c y
        have z := hp q hq
        omega
      rw [z]
      exact Nat.le_refl _
    · rw [List.filter_cons, if_neg c]
      exact ih
/-! ### touches -/
def okT (ds : List PyData) (i : Nat) : Bool := match ds[i]? with
  | none => true
  | some c => dIn 0 39 c && (decide (i = 0) || !decide (V.int (dNum c) = V.int (dNum (ds.getD (i - 1) .none))))
def OffT (ds : List PyData) (i : Nat) : Prop := i < ds.length ∧ okT ds i = false ∧ ∀ k, k < i → okT ds k = true
def AllT (ds : List PyData) : Prop := ∀ k, k < ds.length → okT ds k = true
inductive TBad (d : PyData) : Int → Prop
  | head : dRowOf 400 d = false → TBad d (-1)
  | off (i : Nat) : dRowOf 400 d = true → OffT (dItems d) i → TBad d i
structure TOk (d : PyData) : Prop where
  row : dRowOf 400 d = true
  ok : AllT (dItems d)
def spTouch (K : PySem.W.Frag) : Sp := fun vs H Q E => ∃ (v : V) (d : PyData), vs = [v] ∧ Dp K H v d ∧
  ((∃ x : Int, TBad d x ∧ wAt K "InvalidWalk" (.int x) H E) ∨ (TOk d ∧ ∀ q ys H', Same H H' → SqT K H' q ys → DpAll K H' ys (dItems d) → Q (.ref q) H'))
def spRounds (K : PySem.W.Frag) : Sp := fun vs H Q E => ∃ (v : V) (d : PyData), vs = [v] ∧ Dp K H v d ∧
  ((∃ x : Int, TBad d x ∧ wAt K "InvalidWalk" (.int x) H E) ∨ (TOk d ∧ ∀ w r H', dItems d = nI w → Same H H' → Dp K H' r (lkD (rnd w)) → Q r H'))
theorem tk_nats {ds : List PyData} (h : AllT ds) : ∃ w : List Nat, ds = nI w ∧ ∀ x ∈ w, x < 40 := nats_of fun z hz => by
  obtain ⟨k, hk, rfl⟩ := List.mem_iff_getElem.mp hz
  have y := h k hk
  unfold okT at y
  rw [List.getElem?_eq_getElem hk] at y
  exact dIn_natW (n := 40) (Bool.and_eq_true _ _ ▸ y).1
theorem KeepT.putD {H : Hp} {p : Addr} {ks : List (Key × V)} {o : HO} (hp : H p = some (.dK ks)) : KeepT H (upd H p o) := fun b ys =>
  ⟨fun h => (upd_ne (fun z => by rw [z, hp] at h; cases h)).trans h, fun o2 h => (upd_ne (fun z => by rw [z, hp] at h; cases h)).trans h⟩
theorem Same.upd {H H1 : Hp} {p : Addr} {o : HO} (s : Same H H1) (hn : H p = none) : Same H (upd H1 p o) := fun b u e => (upd_ne (ne_of_none e hn)).trans (s b u e)
theorem nV_at {w : List Nat} {i m : Nat} (h : w[i]? = some m) : (nV w)[i]? = some (V.int (m : Int)) := by
  show (w.map fun x : Nat => V.int (x : Int))[i]? = _
  rw [List.getElem?_map, h]
  rfl
/-- what the dict of last touches holds -/
def DInv (ks : List (Key × V)) (w : List Nat) (b k : Nat) : Prop := ∀ x : Nat, valV ks (Sum.inl (x : Int) : Key) = (lastIn w b k x).map fun m => V.int (m : Int)
theorem key_nat (x y : Nat) : ((Sum.inl (x : Int) : Key) = Sum.inl (y : Int)) ↔ x = y := by
  rw [Sum.inl.injEq]
  omega
theorem dinv_put {ks : List (Key × V)} {w : List Nat} {b k x : Nat} (h : DInv ks w b k) (hb : b ≤ k) (hx : w[k]? = some x) : DInv (putK ks (Sum.inl (x : Int) : Key) (.int (k : Int))) w b (k + 1) := fun y => by
  rw [valV_put]
  unfold lastIn
  rw [hx]
  by_cases e : y = x
  · subst e
    rw [if_pos rfl, if_pos ⟨hb, rfl⟩]
    rfl
  · rw [if_neg (fun z => e ((key_nat y x).mp z)), if_neg (fun z => e (Option.some.inj z.2).symm)]
    exact h y
theorem dinv_one {w : List Nat} {k p : Nat} (h1 : 1 ≤ k) (hp : w[k - 1]? = some p) : DInv (mergeK [] [((Sum.inl (p : Int) : Key), V.int ((k : Int) - 1))]) w (k - 1) k := fun y => by
  show valV (putK [] (Sum.inl (p : Int) : Key) (V.int ((k : Int) - 1))) (Sum.inl (y : Int) : Key) = _
  rw [valV_put]
  obtain ⟨j, rfl⟩ : ∃ j, k = j + 1 := ⟨k - 1, by omega⟩
  rw [Nat.add_sub_cancel] at hp ⊢
  unfold lastIn
  rw [hp]
  by_cases e : y = p
  · subst e
    rw [if_pos rfl, if_pos ⟨Nat.le_refl _, rfl⟩, show (((j + 1 : Nat) : Int) - 1) = (j : Int) by omega]
    rfl
  · rw [if_neg (fun z => e ((key_nat y p).mp z)), if_neg (fun z => e (Option.some.inj z.2).symm), last_low (Nat.le_refl _)]
    rfl
end Shf


namespace Shf
open PySem PySem.Spec PyProof.Rows L2 LamX
/-! ### the least of all runs with two rooms -/
theorem perm_map {α β : Type} {f : α → β} {ys zs : List β} (h : ys.Perm zs) : ∀ l : List α, zs = l.map f → ∃ m : List α, m.Perm l ∧ ys = m.map f := by
  induction h with
  | nil =>
    intro l e
    cases l with
    | nil => exact ⟨[], .nil, rfl⟩
    | cons a r => cases e
  | cons x _ ih =>
    intro l e
    cases l with
    | nil => cases e
    | cons a r =>
      rw [List.map_cons, List.cons.injEq] at e
      obtain ⟨m, pm, em⟩ := ih r e.2
      exact ⟨a :: m, pm.cons a, by rw [List.map_cons, em, e.1]⟩
  | swap x y t =>
    intro l e
    match l, e with
    | a :: b :: r, e =>
      rw [List.map_cons, List.map_cons, List.cons.injEq, List.cons.injEq] at e
      exact ⟨b :: a :: r, .swap a b r, by rw [List.map_cons, List.map_cons, e.1, e.2.1, e.2.2]⟩
  | trans _ _ ih1 ih2 =>
    intro l e
    obtain ⟨m, pm, em⟩ := ih2 l e
    obtain ⟨m2, pm2, em2⟩ := ih1 m em
    exact ⟨m2, pm2.trans pm, em2⟩
theorem dAll_zip {K : PySem.W.Frag} {H : Hp} : ∀ {xs : List V} {ds : List PyData}, DpAll K H xs ds → ∀ p ∈ xs.zip ds, Dp K H p.1 p.2
  | _, _, .nil, p, hp => by cases hp
  | _, _, .cons h t, p, hp => by
    rw [List.zip_cons_cons] at hp
    rcases List.mem_cons.mp hp with rfl | hp
    · exact h
    · exact dAll_zip t p hp
theorem dAll_unzip {K : PySem.W.Frag} {H : Hp} : ∀ {zs : List (V × PyData)}, (∀ p ∈ zs, Dp K H p.1 p.2) → DpAll K H (zs.map Prod.fst) (zs.map Prod.snd)
  | [], _ => .nil
  | p :: r, h => .cons (h p (List.mem_cons_self ..)) (dAll_unzip fun q hq => h q (List.mem_cons_of_mem _ hq))
theorem zip_snd {K : PySem.W.Frag} {H : Hp} : ∀ {xs : List V} {ds : List PyData}, DpAll K H xs ds → (xs.zip ds).map Prod.snd = ds
  | _, _, .nil => rfl
  | _, _, .cons _ t => by rw [List.zip_cons_cons, List.map_cons, zip_snd t]
structure Chp (rl fl : List CM) : Prop where
  sub : ∀ p ∈ fl, p ∈ rl
  dom : ∀ p ∈ rl, ∃ q ∈ fl, q.2 = p.2 ∧ q.1 ≤ p.1
  hd : ∀ f r, fl = f :: r → ∀ p ∈ rl, f.1 ≤ p.1
  nd : (fl.map Prod.snd).Nodup
  len : fl.length ≤ rl.length
structure CI (pl fl : List CM) : Prop where
  sub : ∀ p ∈ fl, p ∈ pl
  dom : ∀ p ∈ pl, ∃ q ∈ fl, q.2 = p.2 ∧ q.1 ≤ p.1
  hd : fl.head? = pl.head?
  nd : (fl.map Prod.snd).Nodup
  len : fl.length ≤ pl.length
theorem ci_nil : CI [] [] := ⟨(fun p hp => by cases hp), (fun p hp => by cases hp), rfl, List.nodup_nil, Nat.le_refl _⟩
theorem ci_skip {pl fl : List CM} {p : CM} (h : CI pl fl) (hs : ∀ q ∈ pl, q.1 ≤ p.1) (hm : p.2 ∈ fl.map Prod.snd) : CI (pl ++ [p]) fl := by
  have l := h.len
  obtain ⟨q, hq, eq⟩ := List.mem_map.mp hm
  refine ⟨fun z hz => List.mem_append_left _ (h.sub z hz), fun z hz => ?_, ?_, h.nd, by rw [List.length_append]; omega⟩
  · rcases List.mem_append.mp hz with hz | hz
    · exact h.dom z hz
    · obtain rfl := List.mem_singleton.mp hz
      exact ⟨q, hq, eq, hs q (h.sub q hq)⟩
  · rw [h.hd]
    cases pl with
    | nil => exact absurd (h.sub q hq) (by simp)
    | cons a r => rfl
theorem ci_put {pl fl : List CM} {p : CM} (h : CI pl fl) (hm : ¬ p.2 ∈ fl.map Prod.snd) : CI (pl ++ [p]) (fl ++ [p]) := by
  have l := h.len
  refine ⟨fun z hz => ?_, fun z hz => ?_, ?_, ?_, by rw [List.length_append, List.length_append]; omega⟩
  · rcases List.mem_append.mp hz with hz | hz
    · exact List.mem_append_left _ (h.sub z hz)
    · exact List.mem_append_right _ hz
  · rcases List.mem_append.mp hz with hz | hz
    · obtain ⟨q, hq, e⟩ := h.dom z hz
      exact ⟨q, List.mem_append_left _ hq, e⟩
    · obtain rfl := List.mem_singleton.mp hz
      exact ⟨z, List.mem_append_right _ hz, rfl, Nat.le_refl _⟩
  · have hh := h.hd
    cases pl with
    | nil =>
      cases fl with
      | nil => rfl
      | cons a r => exact absurd (h.sub a (List.mem_cons_self ..)) (by simp)
    | cons b r =>
      cases fl with
      | nil => cases hh
      | cons a r2 => exact hh
  · rw [List.map_append, List.nodup_append]
    refine ⟨h.nd, by simp, fun x hx y hy => ?_⟩
    rw [List.map_cons, List.map_nil, List.mem_singleton] at hy
    subst hy
    intro e
    subst e
    exact hm hx
theorem ci_done {pl fl rl : List CM} (h : CI pl fl) (hp : pl.Perm rl) (hs : pl.Pairwise fun p q => p.1 ≤ q.1) : Chp rl fl := by
  refine ⟨fun p hz => hp.mem_iff.mp (h.sub p hz), fun p hz => h.dom p (hp.mem_iff.mpr hz), fun f r e p hz => ?_, h.nd, by rw [← hp.length_eq]; exact h.len⟩
  have hh := h.hd
  rw [e] at hh
  cases pl with
  | nil => cases hh
  | cons a l =>
    cases hh
    rcases List.mem_cons.mp (hp.mem_iff.mpr hz) with rfl | hm
    · exact Nat.le_refl _
    · exact (List.pairwise_cons.mp hs).1 p hm
theorem eqv_nI : ∀ l m : List Nat, PyData.eqvAll (nI l) (nI m) = decide (l = m)
  | [], [] => by
    show PyData.eqvAll [] [] = true
    rw [PyData.eqvAll]
  | [], y :: m => by
    show PyData.eqvAll [] (.int (y : Int) :: nI m) = _
    rw [PyData.eqvAll, decide_eq_false (by simp)]
  | x :: l, [] => by
    show PyData.eqvAll (.int (x : Int) :: nI l) [] = _
    rw [PyData.eqvAll, decide_eq_false (by simp)]
  | x :: l, y :: m => by
    show PyData.eqvAll (.int (x : Int) :: nI l) (.int (y : Int) :: nI m) = _
    rw [PyData.eqvAll, eqv_nI l m, PyData.eqv]
    by_cases e : x = y
    · subst e
      by_cases e2 : l = m
      · subst e2
        simp
      · rw [decide_eq_false e2, decide_eq_false (by simpa using e2), Bool.and_false]
    · rw [decide_eq_false (show ¬ (x :: l = y :: m) by simp [e])]
      have z : ((x : Int) == (y : Int)) = false := by
        simp only [beq_eq_false_iff_ne, ne_eq]
        omega
      rw [z, Bool.false_and]
theorem any_tup (fl : List CM) (m : List Nat) : ((fl.map fun q : CM => tupN q.2).any fun z => PyData.eqv z (tupN m)) = decide (m ∈ fl.map Prod.snd) := by
  induction fl with
  | nil => simp
  | cons q r ih =>
    rw [List.map_cons, List.any_cons, ih, List.map_cons]
    have e : PyData.eqv (tupN q.2) (tupN m) = decide (q.2 = m) := by
      show PyData.eqv (.tuple (nI q.2)) (.tuple (nI m)) = _
      rw [PyData.eqv, eqv_nI]
    rw [e, Bool.eq_iff_iff, Bool.or_eq_true, decide_eq_true_eq, decide_eq_true_eq, decide_eq_true_eq, List.mem_cons]
    exact or_congr ⟨Eq.symm, Eq.symm⟩ Iff.rfl
def spCheap (K : PySem.W.Frag) : Sp := fun vs H Q _ => ∃ (a : Addr) (xs : List V) (rl : List CM) (l : Nat), vs = [.ref a] ∧ SqL K H a xs ∧ DpAll K H xs (rl.map rD) ∧ (∀ p ∈ rl, p.2.length = l ∧ p.1 < 1000000 ∧ ∀ x ∈ p.2, x < 1000000) ∧ l ≤ 3 ∧ rl.length ≤ 200 ∧
  ∀ q ys fl H', Same H H' → H q = none → H' q = some (.lst ys) → DpAll K H' ys (fl.map rD) → Chp rl fl → Q (.ref q) H'
end Shf


namespace Shf
open PySem PySem.Spec PyProof.Rows L2 LamX
/-! ### how many layouts go on: binomial convolutions -/
def ch : Nat → Nat → Nat
  | _, 0 => 1
  | 0, _ + 1 => 0
  | n + 1, k + 1 => ch n k + ch n (k + 1)
theorem ch_zero (n : Nat) : ch n 0 = 1 := by
  cases n <;> rfl
theorem ch_above : ∀ {n k : Nat}, n < k → ch n k = 0
  | 0, k + 1, _ => rfl
  | n + 1, k + 1, h => by
    show ch n k + ch n (k + 1) = 0
    rw [ch_above (show n < k by omega), ch_above (show n < k + 1 by omega)]
/-- F 0 + .. + F (n - 1) -/
def sm : Nat → (Nat → Nat) → Nat
  | 0, _ => 0
  | n + 1, F => sm n F + F n
theorem sm_front (F : Nat → Nat) : ∀ n, sm (n + 1) F = F 0 + sm n (fun k => F (k + 1))
  | 0 => by
    show 0 + F 0 = F 0 + 0
    omega
  | n + 1 => by
    have ih := sm_front F n
    show sm (n + 1) F + F (n + 1) = F 0 + (sm n (fun k => F (k + 1)) + F (n + 1))
    omega
theorem sm_add (F G : Nat → Nat) : ∀ n, sm n (fun k => F k + G k) = sm n F + sm n G
  | 0 => rfl
  | n + 1 => by
    have ih := sm_add F G n
    show sm n (fun k => F k + G k) + (F n + G n) = (sm n F + F n) + (sm n G + G n)
    omega
theorem sm_congr {F G : Nat → Nat} : ∀ {n : Nat}, (∀ k, k < n → F k = G k) → sm n F = sm n G
  | 0, _ => rfl
  | n + 1, h => by
    show sm n F + F n = sm n G + G n
    rw [sm_congr fun k hk => h k (by omega), h n (by omega)]
theorem sm_list (F : Nat → Nat) : ∀ n, ((List.range n).map F).sum = sm n F
  | 0 => rfl
  | n + 1 => by
    rw [List.range_succ, List.map_append, List.sum_append, sm_list F n]
    show _ + (F n + 0) = sm n F + F n
    omega
def shf (f : Nat → Nat) : Nat → Nat := fun n => f (n + 1)
def cv : Nat → (Nat → Nat) → (Nat → Nat) → Nat
  | 0, f, g => f 0 * g 0
  | n + 1, f, g => cv n (shf f) g + cv n f (shf g)
theorem cv_succ (n : Nat) (f g : Nat → Nat) : cv (n + 1) f g = cv n (shf f) g + cv n f (shf g) := rfl
theorem cv_sum : ∀ (n : Nat) (f g : Nat → Nat), sm (n + 1) (fun k => ch n k * f k * g (n - k)) = cv n f g
  | 0, f, g => by
    show 0 + ch 0 0 * f 0 * g (0 - 0) = f 0 * g 0
    rw [show ch 0 0 = 1 from rfl, Nat.zero_add, Nat.one_mul]
  | n + 1, f, g => by
    rw [cv_succ, ← cv_sum n (shf f) g, ← cv_sum n f (shf g), sm_front]
    have e1 : sm (n + 1) (fun k => ch (n + 1) (k + 1) * f (k + 1) * g (n + 1 - (k + 1))) = sm (n + 1) (fun k => ch n k * shf f k * g (n - k)) + sm (n + 1) (fun k => ch n (k + 1) * f (k + 1) * g (n - k)) := by
      rw [← sm_add]
      refine sm_congr fun k hk => ?_
      show (ch n k + ch n (k + 1)) * f (k + 1) * g (n + 1 - (k + 1)) = ch n k * f (k + 1) * g (n - k) + ch n (k + 1) * f (k + 1) * g (n - k)
      rw [show n + 1 - (k + 1) = n - k by omega, Nat.add_mul, Nat.add_mul]
    rw [e1]
    have e2 : ch (n + 1) 0 * f 0 * g (n + 1 - 0) + sm (n + 1) (fun k => ch n (k + 1) * f (k + 1) * g (n - k)) = sm (n + 1) (fun k => ch n k * f k * shf g (n - k)) := by
      have y : sm (n + 1 + 1) (fun k => ch n k * f k * g (n + 1 - k)) = ch n 0 * f 0 * g (n + 1 - 0) + sm (n + 1) (fun k => ch n (k + 1) * f (k + 1) * g (n + 1 - (k + 1))) := sm_front (fun k => ch n k * f k * g (n + 1 - k)) (n + 1)
      have z : sm (n + 1 + 1) (fun k => ch n k * f k * g (n + 1 - k)) = sm (n + 1) (fun k => ch n k * f k * g (n + 1 - k)) + ch n (n + 1) * f (n + 1) * g (n + 1 - (n + 1)) := rfl
      rw [ch_above (Nat.lt_succ_self n), Nat.zero_mul, Nat.zero_mul, Nat.add_zero] at z
      have q : sm (n + 1) (fun k => ch n k * f k * g (n + 1 - k)) = sm (n + 1) (fun k => ch n k * f k * shf g (n - k)) := sm_congr fun k hk => by
        show ch n k * f k * g (n + 1 - k) = ch n k * f k * g (n - k + 1)
        rw [show n + 1 - k = n - k + 1 by omega]
      have r : sm (n + 1) (fun k => ch n (k + 1) * f (k + 1) * g (n + 1 - (k + 1))) = sm (n + 1) (fun k => ch n (k + 1) * f (k + 1) * g (n - k)) := sm_congr fun k hk => by
        rw [show n + 1 - (k + 1) = n - k by omega]
      rw [← q, ← z.trans (Nat.add_zero _), y, r, ch_zero, ch_zero]
    omega
theorem cv_addL : ∀ (n : Nat) (f f' g : Nat → Nat), cv n (fun k => f k + f' k) g = cv n f g + cv n f' g
  | 0, f, f', g => Nat.add_mul ..
  | n + 1, f, f', g => by
    have i1 := cv_addL n (shf f) (shf f') g
    have i2 := cv_addL n f f' (shf g)
    show cv n (fun k => shf f k + shf f' k) g + cv n (fun k => f k + f' k) (shf g) = (cv n (shf f) g + cv n f (shf g)) + (cv n (shf f') g + cv n f' (shf g))
    omega
theorem cv_comm : ∀ (n : Nat) (f g : Nat → Nat), cv n f g = cv n g f
  | 0, f, g => Nat.mul_comm ..
  | n + 1, f, g => by
    rw [cv_succ, cv_succ, cv_comm n (shf f) g, cv_comm n f (shf g), Nat.add_comm]
theorem cv_addR (n : Nat) (f g g' : Nat → Nat) : cv n f (fun k => g k + g' k) = cv n f g + cv n f g' := by
  rw [cv_comm, cv_addL, cv_comm n g, cv_comm n g']
theorem cv_assoc : ∀ (n : Nat) (f g h : Nat → Nat), cv n (fun k => cv k f g) h = cv n f (fun k => cv k g h)
  | 0, f, g, h => Nat.mul_assoc ..
  | n + 1, f, g, h => by
    show cv n (fun k => cv k (shf f) g + cv k f (shf g)) h + cv n (fun k => cv k f g) (shf h) = cv n (shf f) (fun k => cv k g h) + cv n f (fun k => cv k (shf g) h + cv k g (shf h))
    rw [cv_addL, cv_addR, cv_assoc n (shf f) g h, cv_assoc n f (shf g) h, cv_assoc n f g (shf h), Nat.add_assoc]
theorem cv_zeroL : ∀ (n : Nat) (g : Nat → Nat), cv n (fun _ => 0) g = 0
  | 0, g => Nat.zero_mul _
  | n + 1, g => by
    show cv n (fun _ => 0) g + cv n (fun _ => 0) (shf g) = 0
    rw [cv_zeroL n g, cv_zeroL n (shf g)]
def dl : Nat → Nat
  | 0 => 1
  | _ + 1 => 0
theorem cv_dl : ∀ (n : Nat) (g : Nat → Nat), cv n dl g = g n
  | 0, g => Nat.one_mul _
  | n + 1, g => by
    show cv n (fun _ => 0) g + cv n dl (shf g) = g (n + 1)
    rw [cv_zeroL, cv_dl n (shf g), Nat.zero_add]
    rfl
/-- room for m more in a block -/
def tm (m : Nat) : Nat → Nat := fun k => if k ≤ m then 1 else 0
theorem tm_succ (m : Nat) : shf (tm (m + 1)) = tm m := by
  funext k
  show (if k + 1 ≤ m + 1 then 1 else 0) = if k ≤ m then 1 else 0
  by_cases h : k ≤ m
  · rw [if_pos h, if_pos (by omega)]
  · rw [if_neg h, if_neg (by omega)]
theorem tm_zero : shf (tm 0) = fun _ => 0 := by
  funext k
  show (if k + 1 ≤ 0 then 1 else 0) = 0
  exact if_neg (by omega)
/-- how many layouts of so many cells -/
def lcL (r : Nat) : Nat → List Nat
  | 0 => [1]
  | n + 1 => lcL r n ++ [sm (n + 1) fun k => ch n k * tm (r - 1) k * (lcL r n).getD (n - k) 0]
def lc (r n : Nat) : Nat := (lcL r n).getD n 0
theorem lcL_len (r : Nat) : ∀ n, (lcL r n).length = n + 1
  | 0 => rfl
  | n + 1 => by
    show (lcL r n ++ [_]).length = n + 1 + 1
    rw [List.length_append, lcL_len r n]
    rfl
theorem lcL_at (r : Nat) : ∀ n k, k ≤ n → (lcL r n).getD k 0 = lc r k
  | 0, k, h => by
    have e : k = 0 := by omega
    subst e
    rfl
  | n + 1, k, h => by
    by_cases e : k = n + 1
    · subst e
      rfl
    · have ih := lcL_at r n k (by omega)
      show (lcL r n ++ [_]).getD k 0 = lc r k
      rw [← ih, List.getD_eq_getElem?_getD, List.getElem?_append_left (by rw [lcL_len]; omega), ← List.getD_eq_getElem?_getD]
theorem lc_zero (r : Nat) : lc r 0 = 1 := rfl
theorem lc_succ (r n : Nat) : lc r (n + 1) = cv n (tm (r - 1)) (lc r) := by
  have e : lc r (n + 1) = sm (n + 1) fun k => ch n k * tm (r - 1) k * (lcL r n).getD (n - k) 0 := by
    show (lcL r n ++ [_]).getD (n + 1) 0 = _
    rw [List.getD_eq_getElem?_getD, ← lcL_len r n, List.getElem?_concat_length]
    rfl
  rw [e, ← cv_sum]
  refine sm_congr fun k hk => ?_
  rw [lcL_at r n (n - k) (by omega)]
theorem lc_shf (r : Nat) : shf (lc r) = fun n => cv n (tm (r - 1)) (lc r) := by
  funext n
  exact lc_succ r n
/-- ways to fill blocks of these sizes further with n cells -/
def wy (r : Nat) : List Nat → Nat → Nat
  | [] => dl
  | x :: s => fun n => cv n (tm (r - x)) (wy r s)
/-- the sizes behind one more cell in the block b -/
def grow (s : List Nat) (b : Nat) : List Nat := if b < s.length then s.set b (s.getD b 0 + 1) else s ++ [1]
def go_on (r : Nat) (s : List Nat) (n : Nat) : Nat := cv n (wy r s) (lc r)
/-- for each block, an open one too, how many go on from a cell in it -/
def brc (r n : Nat) (s : List Nat) : List Nat := (List.range (s.length + 1)).map fun b => if s.getD b 0 = r then 0 else go_on r (grow s b) n
theorem wy_snoc (r : Nat) (y : Nat) : ∀ (s : List Nat) (n : Nat), wy r (s ++ [y]) n = cv n (tm (r - y)) (wy r s)
  | [], n => rfl
  | x :: s, n => by
    show cv n (tm (r - x)) (wy r (s ++ [y])) = cv n (tm (r - y)) (fun k => cv k (tm (r - x)) (wy r s))
    rw [show wy r (s ++ [y]) = fun k => cv k (tm (r - y)) (wy r s) from funext fun k => wy_snoc r y s k, ← cv_assoc, ← cv_assoc]
    congr 1
    funext k
    exact cv_comm ..
theorem wy_shf (r : Nat) : ∀ (s : List Nat), (∀ x ∈ s, x ≤ r) → ∀ n, shf (wy r s) n = sm s.length fun b => if s.getD b 0 = r then 0 else wy r (s.set b (s.getD b 0 + 1)) n
  | [], _, n => rfl
  | x :: s, h, n => by
    have ih := fun k => wy_shf r s (fun y hy => h y (List.mem_cons_of_mem _ hy)) k
    have hx := h x (List.mem_cons_self ..)
    show cv n (shf (tm (r - x))) (wy r s) + cv n (tm (r - x)) (shf (wy r s)) = sm (s.length + 1) _
    rw [sm_front]
    have e1 : cv n (shf (tm (r - x))) (wy r s) = if x = r then 0 else wy r ((x + 1) :: s) n := by
      by_cases c : x = r
      · subst c
        rw [Nat.sub_self, tm_zero, cv_zeroL, if_pos rfl]
      · rw [if_neg c, show r - x = (r - (x + 1)) + 1 by omega, tm_succ]
        rfl
    have e2 : cv n (tm (r - x)) (shf (wy r s)) = sm s.length fun b => if s.getD b 0 = r then 0 else wy r (x :: s.set b (s.getD b 0 + 1)) n := by
      rw [show shf (wy r s) = fun k => sm s.length fun b => if s.getD b 0 = r then 0 else wy r (s.set b (s.getD b 0 + 1)) k from funext ih]
      have gen : ∀ m, cv n (tm (r - x)) (fun k => sm m fun b => if s.getD b 0 = r then 0 else wy r (s.set b (s.getD b 0 + 1)) k) = sm m fun b => if s.getD b 0 = r then 0 else wy r (x :: s.set b (s.getD b 0 + 1)) n := fun m => by
        induction m with
        | zero =>
          rw [cv_comm]
          exact cv_zeroL ..
        | succ m im =>
          show cv n (tm (r - x)) (fun k => (sm m fun b => if s.getD b 0 = r then 0 else wy r (s.set b (s.getD b 0 + 1)) k) + (if s.getD m 0 = r then 0 else wy r (s.set m (s.getD m 0 + 1)) k)) = _ + _
          rw [cv_addR, im]
          congr 1
          show _ = if s.getD m 0 = r then 0 else wy r (x :: s.set m (s.getD m 0 + 1)) n
          by_cases c : s.getD m 0 = r
          · rw [if_pos c, cv_comm, show (fun k => if s.getD m 0 = r then 0 else wy r (s.set m (s.getD m 0 + 1)) k) = fun _ => 0 from funext fun k => if_pos c]
            exact cv_zeroL ..
          · rw [if_neg c, show (fun k => if s.getD m 0 = r then 0 else wy r (s.set m (s.getD m 0 + 1)) k) = wy r (s.set m (s.getD m 0 + 1)) from funext fun k => if_neg c]
            rfl
      exact gen _
    rw [e1, e2]
    rfl
/-- the counts of the blocks are the whole -/
theorem brc_sum {r : Nat} (hr : 1 ≤ r) {s : List Nat} (h : ∀ x ∈ s, x ≤ r) (n : Nat) : (brc r n s).sum = go_on r s (n + 1) := by
  unfold brc
  rw [sm_list]
  show sm s.length _ + _ = cv n (shf (wy r s)) (lc r) + cv n (wy r s) (shf (lc r))
  congr 1
  · rw [show shf (wy r s) = fun k => sm s.length fun b => if s.getD b 0 = r then 0 else wy r (s.set b (s.getD b 0 + 1)) k from funext (wy_shf r s h)]
    have gen : ∀ m, m ≤ s.length → (sm m fun b => if s.getD b 0 = r then 0 else go_on r (grow s b) n) = cv n (fun k => sm m fun b => if s.getD b 0 = r then 0 else wy r (s.set b (s.getD b 0 + 1)) k) (lc r) := fun m hm => by
      induction m with
      | zero => exact (cv_zeroL ..).symm
      | succ m im =>
        show (sm m _) + _ = cv n (fun k => (sm m fun b => if s.getD b 0 = r then 0 else wy r (s.set b (s.getD b 0 + 1)) k) + (if s.getD m 0 = r then 0 else wy r (s.set m (s.getD m 0 + 1)) k)) (lc r)
        rw [cv_addL, im (by omega)]
        congr 1
        show (if s.getD m 0 = r then 0 else go_on r (grow s m) n) = _
        by_cases c : s.getD m 0 = r
        · rw [if_pos c, show (fun k => if s.getD m 0 = r then 0 else wy r (s.set m (s.getD m 0 + 1)) k) = fun _ => 0 from funext fun k => if_pos c, cv_zeroL]
        · rw [if_neg c, show (fun k => if s.getD m 0 = r then 0 else wy r (s.set m (s.getD m 0 + 1)) k) = wy r (s.set m (s.getD m 0 + 1)) from funext fun k => if_neg c]
          unfold go_on grow
          rw [if_pos (by omega)]
    exact gen _ (Nat.le_refl _)
  · have e0 : s.getD s.length 0 = 0 := by
      rw [List.getD_eq_getElem?_getD, List.getElem?_eq_none (Nat.le_refl _)]
      rfl
    show (if s.getD s.length 0 = r then 0 else go_on r (grow s s.length) n) = _
    rw [e0, if_neg (by omega), lc_shf, ← cv_assoc]
    unfold go_on grow
    rw [if_neg (by omega)]
    congr 1
    funext k
    rw [wy_snoc, cv_comm]
theorem go_zero (r : Nat) (s : List Nat) : go_on r s 0 = 1 := by
  have y : ∀ s, wy r s 0 = 1 := fun s => by
    induction s with
    | nil => rfl
    | cons x s ih =>
      show tm (r - x) 0 * wy r s 0 = 1
      rw [ih]
      rfl
  show wy r s 0 * lc r 0 = 1
  rw [y, lc_zero]
theorem go_nil (r n : Nat) : go_on r [] n = lc r n := cv_dl ..
theorem comb_ch : ∀ a : Nat, a < 32 → ∀ b : Nat, b < 32 → PySem.W.mcComb (a : Int) (b : Int) = (ch a b : Nat) := by
  decide +kernel
end Shf


namespace Shf
open PySem PySem.Spec PyProof.Rows L2 LamX
/-! ### layouts by their numbers: there and back -/
def sz (w : List Nat) : List Nat := w.foldl grow []
theorem sz_snoc (w : List Nat) (b : Nat) : sz (w ++ [b]) = grow (sz w) b := by
  unfold sz
  rw [List.foldl_append]
  rfl
def bks (w : List Nat) : List Nat := List.range ((sz w).length + 1)
def full (r : Nat) (w : List Nat) (b : Nat) : Prop := (sz w).getD b 0 = r
instance (r : Nat) (w : List Nat) (b : Nat) : Decidable (full r w b) := inferInstanceAs (Decidable ((sz w).getD b 0 = r))
def exL (r : Nat) : Nat → List Nat → List (List Nat)
  | 0, w => [w]
  | k + 1, w => (bks w).flatMap fun b => if full r w b then [] else exL r k (w ++ [b])
def brL (r k : Nat) (w : List Nat) : List Nat := brc r k (sz w)
def nthL (r : Nat) : Nat → List Nat → Nat → List Nat
  | 0, w, _ => w
  | k + 1, w, m => nthL r k (w ++ [(stepW (brL r k w) (bks w) m).1]) (stepW (brL r k w) (bks w) m).2
def numL (r : Nat) : List Nat → List Nat → Nat
  | _, [] => 0
  | w, b :: u => sumW (brL r u.length w) ((bks w).filter fun o => decide (o < b)) + numL r (w ++ [b]) u
theorem grow_le {r : Nat} (hr : 1 ≤ r) {s : List Nat} (h : ∀ x ∈ s, x ≤ r) {b : Nat} (hb : ¬ s.getD b 0 = r) : ∀ x ∈ grow s b, x ≤ r := fun x hx => by
  unfold grow at hx
  by_cases c : b < s.length
  · rw [if_pos c] at hx
    rcases List.mem_or_eq_of_mem_set hx with hx | rfl
    · exact h x hx
    · have y : s.getD b 0 ∈ s := by
        rw [List.getD_eq_getElem?_getD, List.getElem?_eq_getElem c]
        exact List.getElem_mem c
      have z := h _ y
      omega
  · rw [if_neg c] at hx
    rcases List.mem_append.mp hx with hx | hx
    · exact h x hx
    · obtain rfl := List.mem_singleton.mp hx
      exact hr
abbrev Sok (r : Nat) (w : List Nat) : Prop := ∀ x ∈ sz w, x ≤ r
theorem sok_snoc {r : Nat} (hr : 1 ≤ r) {w : List Nat} (h : Sok r w) {b : Nat} (hb : ¬ full r w b) : Sok r (w ++ [b]) := by
  unfold Sok
  rw [sz_snoc]
  exact grow_le hr h hb
theorem brL_len (r k : Nat) (w : List Nat) : (brL r k w).length = (sz w).length + 1 := by
  unfold brL brc
  rw [List.length_map, List.length_range]
theorem brL_at {r k : Nat} {w : List Nat} {b : Nat} (hb : b ∈ bks w) : cAt (brL r k w) b = if full r w b then 0 else go_on r (sz (w ++ [b])) k := by
  have y := List.mem_range.mp hb
  unfold cAt brL brc
  rw [List.getD_eq_getElem?_getD, List.getElem?_map, List.getElem?_range y, sz_snoc]
  rfl
theorem ex_len {r : Nat} (hr : 1 ≤ r) : ∀ (k : Nat) (w : List Nat), Sok r w → (exL r k w).length = go_on r (sz w) k
  | 0, w, _ => (go_zero r (sz w)).symm
  | k + 1, w, h => by
    rw [← brc_sum hr h k]
    have e : ∀ bs : List Nat, (∀ b ∈ bs, b ∈ bks w) → (bs.flatMap fun b => if full r w b then [] else exL r k (w ++ [b])).length = sumW (brL r k w) bs := fun bs => by
      induction bs with
      | nil => exact fun _ => rfl
      | cons b t ih =>
        intro hb
        rw [List.flatMap_cons, List.length_append, sumW_cons, ih fun x hx => hb x (List.mem_cons_of_mem _ hx), brL_at (hb b (List.mem_cons_self ..))]
        congr 1
        by_cases c : full r w b
        · rw [if_pos c, if_pos c]
          rfl
        · rw [if_neg c, if_neg c, ex_len hr k _ (sok_snoc hr h c)]
    have y := e (bks w) fun _ h => h
    have z : sumW (brL r k w) (bks w) = (brL r k w).sum := by
      unfold bks
      rw [← brL_len r k w]
      exact sum_getD _
    rw [z] at y
    exact y
theorem ex_hl {r : Nat} (hr : 1 ≤ r) (k : Nat) {w : List Nat} (h : Sok r w) : ∀ b ∈ bks w, (if full r w b then [] else exL r k (w ++ [b])).length = cAt (brL r k w) b := fun b hb => by
  rw [brL_at hb]
  by_cases c : full r w b
  · rw [if_pos c, if_pos c]
    rfl
  · rw [if_neg c, if_neg c, ex_len hr k _ (sok_snoc hr h c)]
theorem ex_sum {r : Nat} (hr : 1 ≤ r) (k : Nat) {w : List Nat} (h : Sok r w) : (exL r (k + 1) w).length = sumW (brL r k w) (bks w) := by
  rw [ex_len hr _ _ h, ← brc_sum hr h k]
  unfold bks
  rw [← brL_len r k w, sum_getD]
  rfl
theorem open_of {r k : Nat} {w : List Nat} {b q : Nat} (hb : b ∈ bks w) (hq : q < cAt (brL r k w) b) : ¬ full r w b := fun c => by
  rw [brL_at hb, if_pos c] at hq
  exact Nat.not_lt_zero _ hq
theorem ex_nth {r : Nat} (hr : 1 ≤ r) : ∀ (k : Nat) (w : List Nat) (m : Nat), Sok r w → m < (exL r k w).length → (exL r k w)[m]? = some (nthL r k w m)
  | 0, w, m, _, h => by
    have e : m = 0 := by
      have y : m < 1 := h
      omega
    subst e
    rfl
  | k + 1, w, m, ho, h => by
    rw [ex_sum hr k ho] at h
    obtain ⟨s1, s2, s3⟩ := step_at (f := fun b => if full r w b then [] else exL r k (w ++ [b])) (ex_hl hr k ho) h
    have op := open_of s1 s2
    show ((bks w).flatMap fun b => if full r w b then [] else exL r k (w ++ [b]))[m]? = some (nthL r k (w ++ [(stepW (brL r k w) (bks w) m).1]) (stepW (brL r k w) (bks w) m).2)
    rw [s3, if_neg op]
    refine ex_nth hr k _ _ (sok_snoc hr ho op) ?_
    have y := ex_hl hr k ho _ s1
    rw [if_neg op] at y
    rw [y]
    exact s2
abbrev VL (r : Nat) (w u : List Nat) : Prop := ∀ i b, u[i]? = some b → b ∈ bks (w ++ u.take i) ∧ ¬ full r (w ++ u.take i) b
theorem bks_asc (w : List Nat) : (bks w).Pairwise (· < ·) := List.pairwise_lt_range
theorem nth_numL {r : Nat} (hr : 1 ≤ r) : ∀ (k : Nat) (w : List Nat) (m : Nat), Sok r w → m < (exL r k w).length → ∃ u, nthL r k w m = w ++ u ∧ u.length = k ∧ numL r w u = m ∧ VL r w u
  | 0, w, m, _, h => by
    have e : m = 0 := by
      have y : m < 1 := h
      omega
    subst e
    exact ⟨[], (List.append_nil _).symm, rfl, rfl, (fun i b e => by cases i <;> cases e)⟩
  | k + 1, w, m, ho, h => by
    rw [ex_sum hr k ho] at h
    obtain ⟨s1, s2, _⟩ := step_at (f := fun b => if full r w b then [] else exL r k (w ++ [b])) (ex_hl hr k ho) h
    obtain ⟨n1, _⟩ := step_num (bks_asc w) h
    have op := open_of s1 s2
    have y := ex_hl hr k ho _ s1
    rw [if_neg op] at y
    obtain ⟨u, e1, e2, e3, e4⟩ := nth_numL hr k (w ++ [(stepW (brL r k w) (bks w) m).1]) (stepW (brL r k w) (bks w) m).2 (sok_snoc hr ho op) (by rw [y]; exact s2)
    refine ⟨(stepW (brL r k w) (bks w) m).1 :: u, ?_, by rw [List.length_cons, e2], ?_, fun i b e => ?_⟩
    · show nthL r k (w ++ [(stepW (brL r k w) (bks w) m).1]) (stepW (brL r k w) (bks w) m).2 = _
      rw [e1, List.append_assoc]
      rfl
    · show sumW (brL r u.length w) ((bks w).filter fun o => decide (o < (stepW (brL r k w) (bks w) m).1)) + numL r (w ++ [(stepW (brL r k w) (bks w) m).1]) u = m
      rw [e3, e2]
      exact n1.symm
    · cases i with
      | zero =>
        cases e
        rw [List.take_zero, List.append_nil]
        exact ⟨s1, op⟩
      | succ i =>
        have z := e4 i b e
        rw [List.append_assoc] at z
        exact z
theorem num_nthL {r : Nat} (hr : 1 ≤ r) : ∀ (u w : List Nat), Sok r w → VL r w u → numL r w u < (exL r u.length w).length ∧ nthL r u.length w (numL r w u) = w ++ u
  | [], w, _, _ => ⟨Nat.zero_lt_one, (List.append_nil _).symm⟩
  | b :: u, w, ho, h => by
    obtain ⟨hb, op⟩ : b ∈ bks w ∧ ¬ full r w b := by
      have y := h 0 b rfl
      rw [List.take_zero, List.append_nil] at y
      exact y
    obtain ⟨i1, i2⟩ := num_nthL hr u (w ++ [b]) (sok_snoc hr ho op) fun i c e => by
      have y := h (i + 1) c e
      rw [List.take_succ_cons] at y
      rw [List.append_assoc]
      exact y
    have y := ex_hl hr u.length ho b hb
    rw [if_neg op] at y
    rw [y] at i1
    obtain ⟨s1, s2⟩ := step_back (bks_asc w) hb i1
    rw [List.length_cons, ex_sum hr _ ho]
    refine ⟨s2, ?_⟩
    show nthL r u.length (w ++ [(stepW (brL r u.length w) (bks w) (numL r w (b :: u))).1]) (stepW (brL r u.length w) (bks w) (numL r w (b :: u))).2 = _
    have s1' : stepW (brL r u.length w) (bks w) (numL r w (b :: u)) = (b, numL r (w ++ [b]) u) := s1
    rw [s1']
    show nthL r u.length (w ++ [b]) (numL r (w ++ [b]) u) = _
    rw [i2, List.append_assoc]
    rfl
def kids (r : Nat) (u : List Nat) : List Nat := (bks u).filter fun b => !decide (full r u b)
theorem ex_kids (r k : Nat) (w : List Nat) : exL r (k + 1) w = (kids r w).flatMap fun b => exL r k (w ++ [b]) := by
  show (bks w).flatMap _ = _
  unfold kids
  generalize bks w = bs
  induction bs with
  | nil => rfl
  | cons b t ih =>
    rw [List.flatMap_cons, List.filter_cons, ih]
    by_cases c : full r w b
    · rw [if_pos c, decide_eq_true c, if_neg (by decide)]
      rfl
    · rw [if_neg c, decide_eq_false c, if_pos (by decide), List.flatMap_cons]
theorem ex_end (r : Nat) : ∀ (k : Nat) (w : List Nat), exL r (k + 1) w = (exL r k w).flatMap fun u => (kids r u).map fun b => u ++ [b]
  | 0, w => by
    rw [ex_kids]
    show (kids r w).flatMap (fun b => [w ++ [b]]) = [w].flatMap _
    rw [List.flatMap_singleton, fm_one]
  | k + 1, w => by
    rw [ex_kids, ex_kids r k w, List.flatMap_assoc]
    congr 1
    funext b
    exact ex_end r k (w ++ [b])
end Shf


namespace Shf
open PySem PySem.Spec PyProof.Rows L2 LamX
/-! ### comb, count, how many unlike ones -/
section
variable {X : Cx} {e : Expr} {es : List Expr} {t : TA} {x : PySem.Str} {p pos : Pos} {id : String} {r : List V → Hp → VK → Prop}
theorem pe_callBG (hc : CallR X (.builtin id) r) (hg : Gl X x) (hm : X.mg x = some (.builtin id)) (ha : PA X (e :: es) t) (hdb : (x == ("__debug__" : PySem.Str)) = false := by decide)
    (he : starEach (e :: es) X.env = (false, eval e X.env) :: starEach es X.env := by rfl) (hpl : (backTo pos (starEach es X.env)).any (·.1) = false := by rfl) : PE X (.Call (.Name x p) (e :: es) [] pos) (tCB r t) :=
  ⟨fun pins s σ H Q I h => wpAny_Call_Name_kw (ld_glob I hg hm (PyProof.Rows.callWith_builtin1 (thn (ha.run pos pins s σ H _ I h) fun us s1 ⟨vs, H1, I1, r1, q1⟩ => hc pins s1 σ H1 vs us Q I1 r1 q1) he hpl) hdb)⟩
def rComb : List V → Hp → VK → Prop := fun vs H Q => ∃ a b : Nat, vs = [.int (a : Int), .int (b : Int)] ∧ a < 32 ∧ b < 32 ∧ Q (.int ((ch a b : Nat) : Int)) H
theorem cr_comb : CallR X (.builtin "math.comb") rComb := by
  intro pins s σ H vs us Q I r h
  obtain ⟨a, b, rfl, ha, hb, q⟩ := h
  obtain ⟨t, u, rfl⟩ := Vals.int2 r
  exact PySem.W.mc_comb_v (by omega) (by omega) (by omega) (.inl (by omega)) (comb_ch a ha b hb) ⟨.int _, H, I.tok _, ⟨_, rfl⟩, q⟩
theorem cnt_eqv (k : Nat) : ∀ l : List Nat, (nI l).countP (fun y => PyData.eqv y (.int (k : Int))) = l.count k
  | [] => rfl
  | x :: l => by
    show (PyData.int (x : Int) :: nI l).countP _ = _
    rw [List.countP_cons, cnt_eqv k l, List.count_cons]
    congr 1
    rw [PyData.eqv]
    by_cases e : x = k
    · subst e
      simp
    · have z : ((x : Int) == (k : Int)) = false := by
        simp only [beq_eq_false_iff_ne, ne_eq]
        omega
      have z2 : (x == k) = false := by
        simp only [beq_eq_false_iff_ne, ne_eq]
        exact e
      rw [z, z2]
theorem cnt_int (k : Nat) : ∀ l : List Nat, (l.map fun x : Nat => (x : Int)).count (k : Int) = l.count k
  | [] => rfl
  | x :: l => by
    rw [List.map_cons, List.count_cons, List.count_cons, cnt_int k l]
    congr 1
    by_cases e : x = k
    · subst e
      simp
    · have z : ((x : Int) == (k : Int)) = false := by
        simp only [beq_eq_false_iff_ne, ne_eq]
        omega
      have z2 : (x == k) = false := by
        simp only [beq_eq_false_iff_ne, ne_eq]
        exact e
      rw [z, z2]
theorem plain_nI : ∀ l : List Nat, PyData.plainAll (nI l) = true
  | [] => rfl
  | x :: l => by
    show PyData.plainAll (.int (x : Int) :: nI l) = true
    rw [PyData.plainAll, plain_nI l]
    rfl
theorem dep_nI (l : List Nat) : PyData.depthAll (nI l) = 0 := depAll_nI l
def rCntT (K : PySem.W.Frag) : V → List V → Hp → VK → Prop := fun x xs H Q => ∃ (p : Addr) (l : List Nat) (k : Nat), x = .ref p ∧ xs = [.int (k : Int)] ∧ SqT K H p (nV l) ∧ Q (.int ((l.count k : Nat) : Int)) H
theorem mt_tcount (hu : X.A.units + 65 < cLine) : MtR X "tuple.count" (rCntT X.K) := by
  intro pins s σ H x xs v us Q I rx rxs h
  obtain ⟨p, l, k, rfl, rfl, hs, q⟩ := h
  cases rx
  obtain ⟨u, rfl, ru⟩ := rxs.one
  obtain ⟨t, rfl⟩ := ru
  obtain ⟨its, rv, hl, hlen⟩ := I.tuple hs
  obtain ⟨as, ra⟩ := Dp.readsAll I (nI l) (nV l) its (dAll_nat l) rv
  have hd : X.A.units + 1 + min (PyData.depthAll (nI l)) (PyData.depth (.int (k : Int))) < cLine := by
    rw [dep_nI, Nat.zero_min]
    omega
  refine PySem.SeqAt.count_tuple_data (d := .int (k : Int)) (bs := []) hl (by simpa using ra) (.int _ _) (plain_nI l) rfl hd ?_
  rw [cnt_eqv]
  exact ⟨.int _, H, I.tok _, ⟨_, rfl⟩, q⟩
def tLenSetE (K : PySem.W.Frag) (ta : TE) : TE := fun σ H Q => ta σ H fun x H1 => ∃ (l : Addr) (ns : List Int), x = .ref l ∧ SqT K H1 l (ns.map V.int) ∧ ns.length ≤ 3000 ∧ ∀ m : List Int, m.Nodup → (∀ k, k ∈ m ↔ k ∈ ns) → Q (.int (m.length : Nat)) H1
theorem pe_lenSetE {X : Cx} {a : Expr} {ta : TE} {p p2 q pos : Pos} (hg : Gl X "len") (hm : X.mg "len" = none) (hg2 : Gl X "set") (hm2 : X.mg "set" = none) (ha : PE X a ta) (hc : X.calm = true := by rfl)
    (na : starEach [a] X.env = (false, eval a X.env) :: starEach [] X.env := by rfl) : PE X (.Call (.Name "len" p) [.Call (.Name "set" p2) [a] [] q] [] pos) (tLenSetE X.K ta) := by
  refine ⟨fun pins s σ H Q I h => Call_ (ld_blt I hg hm PySem.boot_len ?_)⟩
  refine PyProof.Rows.callWith_builtin1 (PyProof.Rows.args_cons ?_ rfl) rfl rfl
  refine Call_ (ld_blt I hg2 hm2 PyProof.Rows.boot_set ?_)
  refine PyProof.Rows.callWith_type1 (PyProof.Rows.args_cons (thn (ha.run pins s σ H _ I h) fun v s1 hh => PyProof.Rows.args_nil ?_) na) na rfl
  obtain ⟨x, H1, I1, r1, l, ns, rfl, hq, hl, q1⟩ := hh
  obtain rfl : v = Value.ref l := r1
  obtain ⟨its, r, pl, hz⟩ := I1.tuple hq
  refine call_set_tupI ns (I1.ok.hd hc) (show s1.heap.IsTuple l its.toArray from pl) (by simpa using r.ints) (by unfold scanBound; omega) fun h' tk c hS hcl hk => ?_
  refine PyProof.Rows.args_nil ?_
  obtain ⟨o, es, ep, t, ho, hex, hd, _, hnd, hmem, _, hf, hn, _⟩ := hS
  have I2 : Inv X pins σ H1 { s1 with heap := h', toks := tk } := I1.kept hk
  obtain ⟨ul, cnt⟩ := same_count (ns := ns) hnd fun k => (hmem k).symm.trans (by simp)
  have hsz : (es.toList.map keyOf).length = es.size := by simp
  have q2 := q1 _ hnd fun k => (hmem k).symm.trans (by simp)
  rw [hsz] at q2 cnt
  exact call_len_set ho hex hd hf (by omega) ⟨.int es.size, H1, I2.tok _, ⟨_, rfl⟩, q2⟩
def rLenK : List V → Hp → VK → Prop := fun xs H Q => ∃ (p : Addr) (kvs : List (Key × V)), xs = [.ref p] ∧ H p = some (.dK kvs) ∧ Q (.int ((kvs.length : Nat) : Int)) H
theorem call_len_dK {X : Cx} : CallR X (.builtin "len") rLenK := by
  intro pins s σ H xs us Q I r h
  obtain ⟨p, kvs, rfl, hp, q⟩ := h
  obtain ⟨u, rfl, rx⟩ := vals1 r
  obtain rfl : u = .ref p := rx
  obtain ⟨z, hd, ys, rel, dd2⟩ := dk_of I.hok hp
  have hl : kvs.length = ys.length := Paired.length rel
  refine call_len_dict hd dd2 (by rw [← hl]; rw [sizeLine_eq] at z; omega) ?_
  rw [← hl]
  exact ⟨.int ((kvs.length : Nat) : Int), H, I.tok _, ⟨_, rfl⟩, q⟩
end
end Shf


namespace Shf
open PySem PySem.Spec PyProof.Rows L2 LamX
section
variable {K : PySem.W.Frag} {a : Addr} {xs : List V} {g : TG} {tb : TS} {D : Ends} {σ : L2.St} {H H0 : Hp}
theorem for_old (hS : Sq K H0 a xs) (Pv : Nat → L2.St → Hp → Prop) (h0 : Pv 0 σ H) (hk : ∀ i σ' H', Pv i σ' H' → Same H0 H')
    (hs : ∀ i x σ H, xs[i]? = some x → Pv i σ H → g x σ H fun σ2 H2 => tb { D with nx := Pv (i + 1), ct := Pv (i + 1), bk := D.nx } σ2 H2) (hd : ∀ σ H, Pv xs.length σ H → D.nx σ H) : tFor (iSqW K (tC (.ref a))) g tb D σ H := by
  rcases hS with hS | hS
  · exact for_keepL Pv h0 (fun i σ' H' p => (hk i σ' H' p).seq hS) hs hd
  · exact for_keepT Pv h0 (fun i σ' H' p => sqt_same (hk i σ' H' p) hS) hs hd
theorem for_enumL (Pv : Nat → L2.St → Hp → Prop) (h0 : Pv 0 σ H) (hk : ∀ i σ' H', Pv i σ' H' → SqL K H' a xs)
    (hs : ∀ i x σ H T, xs[i]? = some x → Pv i σ H → H T = none → g (.ref T) σ (upd H T (.tup [.int (i : Nat), x])) fun σ2 H2 => tb { D with nx := Pv (i + 1), ct := Pv (i + 1), bk := D.nx } σ2 H2) (hd : ∀ σ H, Pv xs.length σ H → D.nx σ H) : tFor (iEnumSq K (fun _ H R => R [.ref a] H)) g tb D σ H := by
  refine ⟨a, xs, rfl, .inl ⟨hk 0 σ H h0, fun i m σ H => m = xs.length - i ∧ i ≤ xs.length ∧ Pv i σ H, ⟨xs.length, rfl, Nat.zero_le _, h0⟩, ?_⟩⟩
  rintro i m σ' H' ⟨rfl, hi, p⟩
  have gg := hk i σ' H' p
  by_cases hlt : i < xs.length
  · refine .inr ⟨⟨gg, hlt⟩, Pv (i + 1), fun σ2 H2 p2 => ⟨xs.length - (i + 1), by omega, rfl, hlt, p2⟩, fun v H2 y => ?_⟩
    obtain ⟨T, x, rfl, hT, rfl, hx⟩ := y
    exact hs i x σ' H' T hx p hT
  · have e : i = xs.length := by omega
    subst e
    exact .inl ⟨⟨gg, rfl⟩, hd σ' H' p⟩
theorem for_enumOld (hS : Sq K H0 a xs) (Pv : Nat → L2.St → Hp → Prop) (h0 : Pv 0 σ H) (hk : ∀ i σ' H', Pv i σ' H' → Same H0 H')
    (hs : ∀ i x σ H T, xs[i]? = some x → Pv i σ H → H T = none → g (.ref T) σ (upd H T (.tup [.int (i : Nat), x])) fun σ2 H2 => tb { D with nx := Pv (i + 1), ct := Pv (i + 1), bk := D.nx } σ2 H2) (hd : ∀ σ H, Pv xs.length σ H → D.nx σ H) : tFor (iEnumSq K (fun _ H R => R [.ref a] H)) g tb D σ H := by
  rcases hS with hS | hS
  · exact for_enumL Pv h0 (fun i σ' H' p => (hk i σ' H' p).seq hS) hs hd
  · exact for_enumT Pv h0 (fun i σ' H' p => sqt_same (hk i σ' H' p) hS) hs hd
end
theorem take_snoc {w : List Nat} {i b : Nat} (h : w[i]? = some b) : w.take (i + 1) = w.take i ++ [b] := by
  rw [List.take_add_one, h]
  rfl
theorem nV_of_at {w : List Nat} {i : Nat} {x : V} (h : (nV w)[i]? = some x) : ∃ b : Nat, x = .int (b : Int) ∧ w[i]? = some b := by
  have y : (w.map fun x : Nat => V.int (x : Int))[i]? = some x := h
  rw [List.getElem?_map] at y
  obtain ⟨b, hb, rfl⟩ := Option.map_eq_some_iff.mp y
  exact ⟨b, rfl, hb⟩
/-! ### blocks numbered as first come to -/
def dd : List Nat → List Nat → List Nat
  | acc, [] => acc
  | acc, x :: r => dd (if x ∈ acc then acc else acc ++ [x]) r
def ix : List Nat → Nat → Nat
  | [], _ => 0
  | y :: l, x => if y = x then 0 else ix l x + 1
def plainL (w : List Nat) : List Nat := w.map (ix (dd [] w))
theorem dd_snoc : ∀ (w acc : List Nat) (x : Nat), dd acc (w ++ [x]) = if x ∈ dd acc w then dd acc w else dd acc w ++ [x]
  | [], acc, x => rfl
  | y :: w, acc, x => dd_snoc w _ x
theorem dd_mem : ∀ (w acc : List Nat) (x : Nat), x ∈ dd acc w ↔ x ∈ acc ∨ x ∈ w
  | [], acc, x => by simp [dd]
  | y :: w, acc, x => by
    show x ∈ dd (if y ∈ acc then acc else acc ++ [y]) w ↔ _
    rw [dd_mem w, List.mem_cons]
    by_cases h : y ∈ acc
    · rw [if_pos h]
      constructor
      · rintro (h1 | h1)
        · exact .inl h1
        · exact .inr (.inr h1)
      · rintro (h1 | rfl | h1)
        · exact .inl h1
        · exact .inl h
        · exact .inr h1
    · rw [if_neg h, List.mem_append, List.mem_singleton]
      constructor
      · rintro ((h1 | h1) | h1)
        · exact .inl h1
        · exact .inr (.inl h1)
        · exact .inr (.inr h1)
      · rintro (h1 | h1 | h1)
        · exact .inl (.inl h1)
        · exact .inl (.inr h1)
        · exact .inr h1
theorem dd_nd : ∀ (w acc : List Nat), acc.Nodup → (dd acc w).Nodup
  | [], acc, h => h
  | y :: w, acc, h => by
    show (dd (if y ∈ acc then acc else acc ++ [y]) w).Nodup
    by_cases c : y ∈ acc
    · rw [if_pos c]
      exact dd_nd w _ h
    · rw [if_neg c]
      refine dd_nd w _ ?_
      rw [List.nodup_append]
      refine ⟨h, by simp, fun x hx z hz => ?_⟩
      rw [List.mem_singleton] at hz
      subst hz
      intro e
      subst e
      exact c hx
theorem dd_len (w acc : List Nat) : (dd acc w).length ≤ acc.length + w.length := by
  induction w generalizing acc with
  | nil => exact Nat.le_refl _
  | cons x r ih =>
    show (dd (if x ∈ acc then acc else acc ++ [x]) r).length ≤ _
    have y := ih (if x ∈ acc then acc else acc ++ [x])
    rw [List.length_cons]
    by_cases c : x ∈ acc
    · rw [if_pos c] at y ⊢
      omega
    · rw [if_neg c] at y ⊢
      rw [List.length_append, List.length_singleton] at y
      omega
theorem ix_snoc : ∀ (l : List Nat) (x y : Nat), y ∈ l → ix (l ++ [x]) y = ix l y
  | a :: l, x, y, h => by
    show (if a = y then 0 else ix (l ++ [x]) y + 1) = if a = y then 0 else ix l y + 1
    by_cases c : a = y
    · rw [if_pos c, if_pos c]
    · rw [if_neg c, if_neg c, ix_snoc l x y]
      rcases List.mem_cons.mp h with e | h
      · exact absurd e.symm c
      · exact h
theorem ix_new : ∀ (l : List Nat) (x : Nat), ¬ x ∈ l → ix (l ++ [x]) x = l.length
  | [], x, _ => if_pos rfl
  | a :: l, x, h => by
    show (if a = x then 0 else ix (l ++ [x]) x + 1) = l.length + 1
    have na : ¬ a = x := fun e => h (by
      rw [e]
      exact List.mem_cons_self ..)
    rw [if_neg na, ix_new l x (fun z => h (List.mem_cons_of_mem _ z))]
/-- what the dict of numbers holds -/
def NInv (ks : List (Key × V)) (acc : List Nat) : Prop := ks.length = acc.length ∧ ∀ x : Nat, valV ks (Sum.inl (x : Int) : Key) = if x ∈ acc then some (V.int (ix acc x : Int)) else none
theorem ninv_nil : NInv [] [] := ⟨rfl, fun x => rfl⟩
theorem ninv_put {ks : List (Key × V)} {acc : List Nat} {x : Nat} (h : NInv ks acc) (hx : ¬ x ∈ acc) : NInv (putK ks (Sum.inl (x : Int) : Key) (V.int (ks.length : Nat))) (acc ++ [x]) := by
  have hv := h.2 x
  rw [if_neg hx] at hv
  refine ⟨?_, fun y => ?_⟩
  · have e : putK ks (Sum.inl (x : Int) : Key) (V.int (ks.length : Nat)) = ks ++ [(Sum.inl (x : Int), V.int (ks.length : Nat))] := by
      unfold putK
      rw [valV_any, hv]
      rfl
    rw [e, List.length_append, List.length_append, h.1]
    rfl
  · rw [valV_put]
    by_cases e : y = x
    · subst e
      rw [if_pos rfl, if_pos (List.mem_append_right _ (List.mem_singleton.mpr rfl)), ix_new acc y hx, h.1]
    · rw [if_neg (fun z => e ((key_nat y x).mp z)), h.2 y]
      by_cases c : y ∈ acc
      · rw [if_pos c, if_pos (List.mem_append_left _ c), ix_snoc acc x y c]
      · rw [if_neg c, if_neg (fun z => by
          rcases List.mem_append.mp z with z | z
          · exact c z
          · exact e (List.mem_singleton.mp z))]
/-- what the dict of held cells holds -/
def HInv (ks : List (Key × V)) (w : List Nat) : Prop := ks.length ≤ w.length ∧ ∀ x : Nat, valV ks (Sum.inl (x : Int) : Key) = if x ∈ w then some (V.int ((w.count x : Nat) : Int)) else none
theorem hinv_put {ks : List (Key × V)} {w : List Nat} {x : Nat} (h : HInv ks w) : HInv (putK ks (Sum.inl (x : Int) : Key) (V.int ((w.count x + 1 : Nat) : Int))) (w ++ [x]) := by
  have lp := length_putK ks (Sum.inl (x : Int) : Key) (V.int ((w.count x + 1 : Nat) : Int))
  refine ⟨by rw [List.length_append, List.length_singleton]; have := h.1; omega, fun y => ?_⟩
  rw [valV_put]
  by_cases e : y = x
  · subst e
    rw [if_pos rfl, if_pos (List.mem_append_right _ (List.mem_singleton.mpr rfl)), List.count_append, List.count_singleton_self]
  · rw [if_neg (fun z => e ((key_nat y x).mp z)), h.2 y]
    have cy : (w ++ [x]).count y = w.count y := by
      rw [List.count_append, List.count_singleton, if_neg (by simpa using fun z => e z.symm)]
      rfl
    rw [cy]
    by_cases c : y ∈ w
    · rw [if_pos c, if_pos (List.mem_append_left _ c)]
    · rw [if_neg c, if_neg (fun z => by
        rcases List.mem_append.mp z with z | z
        · exact c z
        · exact e (List.mem_singleton.mp z))]
abbrev Held (r : Nat) (w : List Nat) : Prop := ∀ i x, w[i]? = some x → (w.take (i + 1)).count x ≤ r
inductive LOff (r : Nat) (d : PyData) : Int → Prop
  | off (w : List Nat) (z : PyData) (zs : List PyData) : dItems d = nI w ++ z :: zs → (∀ x ∈ w, x < 200) → Held r w → (dIn 0 199 z = false ∨ ∃ b : Nat, z = .int (b : Int) ∧ b < 200 ∧ r ≤ w.count b) → LOff r d (w.length : Int)
structure LOk (r : Nat) (d : PyData) (w : List Nat) : Prop where
  it : dItems d = nI w
  lt : ∀ x ∈ w, x < 200
  held : Held r w
def spNumbered (K : PySem.W.Frag) : Sp := fun vs H Q _ => ∃ (a : Addr) (w : List Nat), vs = [.ref a] ∧ Sq K H a (nV w) ∧ w.length ≤ 3000 ∧ ∀ r H', Same H H' → Dp K H' r (.tuple (nI (plainL w))) → Q r H'
def spRoomy (K : PySem.W.Frag) : Sp := fun vs H Q E => ∃ (v : V) (d : PyData) (r : Nat), vs = [v, .int (r : Int)] ∧ Dp K H v d ∧ dSeq d = true ∧ (dItems d).length ≤ 3000 ∧
  ((∃ x, LOff r d x ∧ wAt K "InvalidLayout" (.int x) H E) ∨ ∃ w, LOk r d w ∧ ∀ q H', Same H H' → Dp K H' q (.tuple (nI (plainL w))) → Q q H')
def spPlainL (K : PySem.W.Frag) : Sp := fun vs H Q E => ∃ (v : V) (d : PyData), vs = [v] ∧ Dp K H v d ∧ dRowOf 200 d = true ∧
  ((∃ x, LOff (dItems d).length d x ∧ wAt K "InvalidLayout" (.int x) H E) ∨ ∃ w, LOk (dItems d).length d w ∧ ∀ q H', Same H H' → Dp K H' q (.tuple (nI (plainL w))) → Q q H')
def spLayoutOf (K : PySem.W.Frag) : Sp := fun vs H Q E => ∃ (v : V) (d : PyData) (n r : Nat), vs = [.int (n : Int), .int (r : Int), v] ∧ Dp K H v d ∧ n ≤ 400 ∧
  (((dSeq d && decide ((dItems d).length = n)) = false ∧ wAt K "InvalidLayout" (.int (-1)) H E) ∨ ((dSeq d && decide ((dItems d).length = n)) = true ∧
    ((∃ x, LOff r d x ∧ wAt K "InvalidLayout" (.int x) H E) ∨ ∃ w, LOk r d w ∧ ∀ q H', Same H H' → Dp K H' q (.tuple (nI (plainL w))) → Q q H')))
def spNeedRoom (K : PySem.W.Frag) : Sp := fun vs H Q E => ∃ (v : V) (d : PyData), vs = [v] ∧ Dp K H v d ∧ (dIn 1 8 d = true → Q v H) ∧ (dIn 1 8 d = false → wAt K "InvalidRoom" (.int (-1)) H E)
end Shf


namespace Shf
open PySem PySem.Spec PyProof.Rows L2 LamX
/-! ### bounds: no product is too big -/
theorem ch_le : ∀ n k : Nat, ch n k ≤ 2 ^ n
  | 0, 0 => Nat.le_refl _
  | 0, k + 1 => Nat.zero_le _
  | n + 1, 0 => by
    rw [ch_zero]
    exact Nat.one_le_two_pow
  | n + 1, k + 1 => by
    have h1 := ch_le n k
    have h2 := ch_le n (k + 1)
    show ch n k + ch n (k + 1) ≤ _
    rw [Nat.pow_succ]
    omega
theorem cv_le : ∀ (n : Nat) (f g : Nat → Nat) (A B : Nat), (∀ k, k ≤ n → f k ≤ A) → (∀ k, k ≤ n → g k ≤ B) → cv n f g ≤ 2 ^ n * (A * B)
  | 0, f, g, A, B, hf, hg => by
    rw [Nat.pow_zero, Nat.one_mul]
    exact Nat.mul_le_mul (hf 0 (Nat.le_refl _)) (hg 0 (Nat.le_refl _))
  | n + 1, f, g, A, B, hf, hg => by
    have h1 := cv_le n (shf f) g A B (fun k hk => hf (k + 1) (by omega)) (fun k hk => hg k (by omega))
    have h2 := cv_le n f (shf g) A B (fun k hk => hf k (by omega)) (fun k hk => hg (k + 1) (by omega))
    rw [cv_succ, Nat.pow_succ, show 2 ^ n * 2 * (A * B) = 2 ^ n * (A * B) + 2 ^ n * (A * B) by rw [Nat.mul_comm (2 ^ n) 2, Nat.mul_assoc, Nat.two_mul]]
    exact Nat.add_le_add h1 h2
theorem tm_le (m k : Nat) : tm m k ≤ 1 := by
  unfold tm
  by_cases h : k ≤ m
  · rw [if_pos h]
    exact Nat.le_refl _
  · rw [if_neg h]
    exact Nat.zero_le _
theorem lc_le (r : Nat) : ∀ N n : Nat, n ≤ N → lc r n ≤ 2 ^ (n * N)
  | N, 0, _ => by
    rw [lc_zero]
    exact Nat.one_le_two_pow
  | 0, n + 1, h => absurd h (by omega)
  | N + 1, n + 1, h => by
    have y := cv_le n (tm (r - 1)) (lc r) 1 (2 ^ (n * N)) (fun k _ => tm_le _ k) fun k hk => Nat.le_trans (lc_le r N k (by omega)) (Nat.pow_le_pow_right (by decide) (Nat.mul_le_mul_right _ hk))
    rw [lc_succ]
    refine Nat.le_trans y ?_
    rw [Nat.one_mul, ← Nat.pow_add]
    refine Nat.pow_le_pow_right (by decide) ?_
    rw [Nat.add_mul, Nat.mul_add]
    omega
theorem wy_le (r : Nat) : ∀ (s : List Nat) (n : Nat), wy r s n ≤ 2 ^ (n * s.length)
  | [], 0 => Nat.le_refl _
  | [], n + 1 => Nat.zero_le _
  | x :: s, n => by
    have y := cv_le n (tm (r - x)) (wy r s) 1 (2 ^ (n * s.length)) (fun k _ => tm_le _ k) fun k hk => Nat.le_trans (wy_le r s k) (Nat.pow_le_pow_right (by decide) (Nat.mul_le_mul_right _ hk))
    refine Nat.le_trans y ?_
    rw [Nat.one_mul, ← Nat.pow_add, List.length_cons, Nat.mul_add]
    refine Nat.pow_le_pow_right (by decide) ?_
    omega
theorem mulG {a b m n : Nat} (ha : a ≤ 2 ^ m) (hb : b ≤ 2 ^ n) (h : m + n ≤ 1000000) : IntMulOk (a : Int) (b : Int) :=
  IntMulOk.of_le (m := m + 1) (n := n + 1) (intBits_le_iff.mpr (by
    rw [Int.natAbs_natCast, Nat.pow_succ]
    have := Nat.two_pow_pos m
    omega)) (intBits_le_iff.mpr (by
    rw [Int.natAbs_natCast, Nat.pow_succ]
    have := Nat.two_pow_pos n
    omega)) (by omega)
section
variable {X : Cx}
theorem op_mulG : OpR X (binaryOp .Mult) (rI IntMulOk fun i j => .int (i * j)) := opI fun _ _ _ _ _ _ _ hc q => mul_int q hc
end
theorem sm_cut {F : Nat → Nat} {m : Nat} : ∀ {n : Nat}, m ≤ n → (∀ k, m ≤ k → k < n → F k = 0) → sm n F = sm m F
  | 0, h, _ => by
    have e : m = 0 := by omega
    subst e
    rfl
  | n + 1, h, z => by
    by_cases e : m = n + 1
    · subst e
      rfl
    · show sm n F + F n = _
      rw [z n (by omega) (Nat.lt_succ_self n), sm_cut (n := n) (by omega) fun k h1 h2 => z k h1 (by omega)]
      rfl
theorem lc_sum (r n : Nat) (hr : 1 ≤ r) : ((List.range (min (n + 1) r)).map fun k => ch n k * lc r (n - k)).sum = lc r (n + 1) := by
  rw [sm_list, lc_succ, ← cv_sum, sm_cut (m := min (n + 1) r) (Nat.min_le_left ..) fun k h1 h2 => by
    unfold tm
    rw [if_neg (by omega), Nat.mul_zero, Nat.zero_mul]]
  refine sm_congr fun k hk => ?_
  unfold tm
  rw [if_pos (by omega), Nat.mul_one]
theorem cv_tm (n m : Nat) (g : Nat → Nat) : ((List.range (min m n + 1)).map fun k => ch n k * g (n - k)).sum = cv n (tm m) g := by
  rw [sm_list, ← cv_sum, sm_cut (m := min m n + 1) (n := n + 1) (by omega) fun k h1 h2 => by
    unfold tm
    rw [if_neg (by omega), Nat.mul_zero, Nat.zero_mul]]
  refine sm_congr fun k hk => ?_
  unfold tm
  rw [if_pos (by omega), Nat.mul_one]
theorem go_sum (r n : Nat) (s : List Nat) : ((List.range (n + 1)).map fun k => ch n k * wy r s k * lc r (n - k)).sum = go_on r s n := by
  rw [sm_list]
  exact cv_sum ..
theorem grow_cat {s : List Nat} {b : Nat} (h : b ≤ s.length) : s.take b ++ [s.getD b 0 + 1] ++ s.drop (b + 1) = grow s b := by
  unfold grow
  by_cases c : b < s.length
  · rw [if_pos c, List.set_eq_take_append_cons_drop, if_pos c, List.append_assoc]
    rfl
  · rw [if_neg c]
    obtain rfl : b = s.length := by omega
    rw [List.take_length, List.drop_eq_nil_of_le (by omega), List.append_nil, List.getD_eq_getElem?_getD, List.getElem?_eq_none (Nat.le_refl _)]
    rfl
theorem dl_list (r n : Nat) : [V.int 1] ++ (List.replicate n [V.int 0]).flatten = nV ((List.range (n + 1)).map (wy r [])) := by
  rw [List.range_succ_eq_map, List.map_cons, List.map_map]
  show V.int 1 :: _ = V.int 1 :: (List.map _ _)
  congr 1
  rw [List.flatten_replicate_singleton, List.map_map]
  refine (List.eq_replicate_iff.mpr ⟨by rw [List.length_map, List.length_range], fun b hb => ?_⟩).symm
  obtain ⟨x, _, rfl⟩ := List.mem_map.mp hb
  rfl
theorem rgM_at {f : Nat → Nat} {n k : Nat} (h : k < n) : (nV ((List.range n).map f))[k]? = some (V.int ((f k : Nat) : Int)) := nV_at (by
  rw [List.getElem?_map, List.getElem?_range h]
  rfl)
theorem rgM_len (f : Nat → Nat) (n : Nat) : (nV ((List.range n).map f)).length = n := by
  rw [show (nV ((List.range n).map f)).length = _ from List.length_map .., List.length_map, List.length_range]
theorem rgM_succ (f : Nat → Nat) (n : Nat) : nV ((List.range (n + 1)).map f) = nV ((List.range n).map f) ++ [V.int ((f n : Nat) : Int)] := by
  rw [List.range_succ, List.map_append, List.map_singleton, nV_snoc]
theorem wy_perm (r : Nat) {s t : List Nat} (p : s.Perm t) : wy r s = wy r t := by
  induction p with
  | nil => rfl
  | cons x _ ih =>
    funext n
    show cv n (tm (r - x)) (wy r _) = cv n (tm (r - x)) (wy r _)
    rw [ih]
  | swap x y l =>
    funext n
    show cv n (tm (r - y)) (fun k => cv k (tm (r - x)) (wy r l)) = cv n (tm (r - x)) (fun k => cv k (tm (r - y)) (wy r l))
    rw [← cv_assoc, ← cv_assoc]
    congr 1
    funext k
    exact cv_comm ..
  | trans _ _ h1 h2 => exact h1.trans h2
def brF (r n : Nat) (s : List Nat) (b : Nat) : Nat := if s.getD b 0 = r then 0 else go_on r (grow s b) n
theorem brc_eq (r n : Nat) (s : List Nat) : brc r n s = (List.range (s.length + 1)).map (brF r n s) := rfl
theorem set_mid {s : List Nat} {b : Nat} (h : b < s.length) (y : Nat) : (s.set b y).Perm (y :: (s.take b ++ s.drop (b + 1))) := by
  rw [List.set_eq_take_append_cons_drop, if_pos h]
  exact List.perm_middle
theorem self_mid {s : List Nat} {b : Nat} (h : b < s.length) : s.Perm (s.getD b 0 :: (s.take b ++ s.drop (b + 1))) := by
  have e : s.set b (s.getD b 0) = s := by
    rw [List.getD_eq_getElem?_getD, List.getElem?_eq_getElem h]
    exact List.set_getElem_self h
  have y := set_mid h (s.getD b 0)
  rw [e] at y
  exact y
theorem brF_eq {r n : Nat} {s : List Nat} (h : ∀ x ∈ s, 1 ≤ x) {b c : Nat} (hb : b ≤ s.length) (hc : c ≤ s.length) (e : s.getD b 0 = s.getD c 0) : brF r n s b = brF r n s c := by
  have out : s.getD s.length 0 = 0 := by
    rw [List.getD_eq_getElem?_getD, List.getElem?_eq_none (Nat.le_refl _)]
    rfl
  have pos : ∀ {b}, b < s.length → 1 ≤ s.getD b 0 := fun {b} hb => by
    rw [List.getD_eq_getElem?_getD, List.getElem?_eq_getElem hb]
    exact h _ (List.getElem_mem hb)
  by_cases b1 : b < s.length
  · have hp := pos b1
    by_cases c1 : c < s.length
    · unfold brF
      rw [e]
      by_cases f : s.getD c 0 = r
      · rw [if_pos f, if_pos f]
      · rw [if_neg f, if_neg f]
        unfold go_on grow
        rw [if_pos b1, if_pos c1, e]
        have q : (s.set b (s.getD c 0 + 1)).Perm (s.set c (s.getD c 0 + 1)) := by
          have y := (self_mid b1).symm.trans (self_mid c1)
          rw [e] at y
          exact (set_mid b1 _).trans ((y.cons_inv.cons _).trans (set_mid c1 _).symm)
        rw [wy_perm r q]
    · obtain rfl : c = s.length := by omega
      omega
  · obtain rfl : b = s.length := by omega
    by_cases c1 : c < s.length
    · have := pos c1
      omega
    · obtain rfl : c = s.length := by omega
      rfl
/-- what the dict of counts holds -/
structure BInv (r n : Nat) (s : List Nat) (ks : List (Key × V)) (i : Nat) : Prop where
  len : ks.length ≤ i + 1
  full : valV ks (Sum.inl (r : Int) : Key) = some (.int 0)
  old : ∀ b, b < i → valV ks (Sum.inl (s.getD b 0 : Int) : Key) = some (.int ((brF r n s b : Nat) : Int))
  new : ∀ x : Nat, x ≠ r → (∀ b, b < i → s.getD b 0 ≠ x) → valV ks (Sum.inl (x : Int) : Key) = none
theorem BInv.had {r n : Nat} {s : List Nat} {ks : List (Key × V)} {i : Nat} (v : BInv r n s ks i) (h : ∀ x ∈ s, 1 ≤ x) (hi : i ≤ s.length) (hv : valV ks (Sum.inl (s.getD i 0 : Int) : Key) ≠ none) : valV ks (Sum.inl (s.getD i 0 : Int) : Key) = some (.int ((brF r n s i : Nat) : Int)) := by
  by_cases e : s.getD i 0 = r
  · have y := v.full
    unfold brF
    rw [if_pos e, e]
    exact y
  · by_cases x : ∃ b, b < i ∧ s.getD b 0 = s.getD i 0
    · obtain ⟨b, hb, eb⟩ := x
      have y := v.old b hb
      rw [eb, brF_eq h (by omega) hi eb] at y
      exact y
    · exact absurd (v.new _ e fun b hb eb => x ⟨b, hb, eb⟩) hv
theorem BInv.keep {r n : Nat} {s : List Nat} {ks : List (Key × V)} {i : Nat} (v : BInv r n s ks i) (hv : valV ks (Sum.inl (s.getD i 0 : Int) : Key) = some (.int ((brF r n s i : Nat) : Int))) : BInv r n s ks (i + 1) where
  len := Nat.le_succ_of_le v.len
  full := v.full
  old b hb := by
    by_cases e : b = i
    · rw [e]
      exact hv
    · exact v.old b (by omega)
  new x hx hn := v.new x hx fun b hb => hn b (by omega)
theorem BInv.add {r n : Nat} {s : List Nat} {ks : List (Key × V)} {i : Nat} (v : BInv r n s ks i) (hv : valV ks (Sum.inl (s.getD i 0 : Int) : Key) = none) : s.getD i 0 ≠ r ∧ BInv r n s (putK ks (Sum.inl (s.getD i 0 : Int) : Key) (.int ((brF r n s i : Nat) : Int))) (i + 1) := by
  have nr : s.getD i 0 ≠ r := fun e => by
    have y := v.full
    rw [← e, hv] at y
    cases y
  refine ⟨nr, ?_, ?_, fun b hb => ?_, fun x hx hn => ?_⟩
  · have y := length_putK ks (Sum.inl (s.getD i 0 : Int) : Key) (.int ((brF r n s i : Nat) : Int))
    have := v.len
    omega
  · rw [valV_put, if_neg (fun z => nr ((key_nat _ _).mp z).symm)]
    exact v.full
  · rw [valV_put]
    by_cases e : b = i
    · rw [e, if_pos rfl]
    · rw [if_neg, v.old b (by omega)]
      intro z
      have z2 := (key_nat _ _).mp z
      have y := v.old b (by omega)
      rw [z2, hv] at y
      cases y
  · rw [valV_put, if_neg (fun z => hn i (Nat.lt_succ_self i) ((key_nat _ _).mp z).symm)]
    exact v.new x hx fun b hb => hn b (by omega)
theorem binv0 (r n : Nat) (s : List Nat) : BInv r n s [((Sum.inl (r : Int) : Key), V.int 0)] 0 := by
  have e : [((Sum.inl (r : Int) : Key), V.int 0)] = putK [] (Sum.inl (r : Int) : Key) (V.int 0) := rfl
  refine ⟨Nat.le_refl _, ?_, fun b hb => absurd hb (Nat.not_lt_zero b), fun x hx _ => ?_⟩
  · rw [e, valV_put, if_pos rfl]
  · rw [e, valV_put, if_neg (fun z => hx ((key_nat _ _).mp z))]
    rfl
/-! ### what the defs say -/
def spLCs (K : PySem.W.Frag) : Sp := fun vs H Q _ => ∃ n r : Nat, vs = [.int (n : Int), .int (r : Int)] ∧ n ≤ 30 ∧ 1 ≤ r ∧ r ≤ 200 ∧ ∀ q H', Same H H' → SqL K H' q (nV ((List.range (n + 1)).map (lc r))) → Q (.ref q) H'
def spLCount (K : PySem.W.Frag) : Sp := fun vs H Q E => ∃ (u v : V) (d e : PyData), vs = [u, v] ∧ Dp K H u d ∧ Dp K H v e ∧
  ((dIn 1 30 d = false ∧ wWord K "InvalidSize" (.str "cells") H E) ∨ (dIn 1 30 d = true ∧ dIn 1 8 e = false ∧ wAt K "InvalidRoom" (.int (-1)) H E) ∨
    ∃ n r : Nat, d = .int (n : Int) ∧ e = .int (r : Int) ∧ 1 ≤ n ∧ n ≤ 30 ∧ 1 ≤ r ∧ r ≤ 8 ∧ ∀ H', Same H H' → Q (.int ((lc r n : Nat) : Int)) H')
def spGrown (K : PySem.W.Frag) : Sp := fun vs H Q _ => ∃ (a : Addr) (s : List Nat) (b : Nat), vs = [.ref a, .int (b : Int)] ∧ SqL K H a (nV s) ∧ s.length ≤ 3000 ∧ b ≤ s.length ∧ ∀ q G, G q = none → Same H G → Q (.ref q) (upd G q (.lst (nV (grow s b))))
def spWays (K : PySem.W.Frag) : Sp := fun vs H Q _ => ∃ (a : Addr) (s : List Nat) (n r : Nat), vs = [.int (n : Int), .int (r : Int), .ref a] ∧ SqL K H a (nV s) ∧ n ≤ 30 ∧ s.length ≤ 31 ∧ (∀ x ∈ s, x ≤ r) ∧ 1 ≤ r ∧ r ≤ 200 ∧ ∀ H', Same H H' → Q (.int ((go_on r s n : Nat) : Int)) H'
def spBranch (K : PySem.W.Frag) : Sp := fun vs H Q _ => ∃ (a : Addr) (s : List Nat) (n r : Nat), vs = [.int (n : Int), .int (r : Int), .ref a] ∧ H a = some (.lst (nV s)) ∧ n ≤ 30 ∧ s.length ≤ 30 ∧ (∀ x ∈ s, x ≤ r) ∧ (∀ x ∈ s, 1 ≤ x) ∧ 1 ≤ r ∧ r ≤ 200 ∧ ∀ q H', Same H H' → SqL K H' q (nV (brc r n s)) → Q (.ref q) H'
end Shf


namespace Shf
open PySem PySem.Spec PyProof.Rows L2 LamX
theorem grow_pos {s : List Nat} (h : ∀ x ∈ s, 1 ≤ x) (b : Nat) : ∀ x ∈ grow s b, 1 ≤ x := fun x hx => by
  unfold grow at hx
  by_cases c : b < s.length
  · rw [if_pos c] at hx
    rcases List.mem_or_eq_of_mem_set hx with hx | rfl
    · exact h x hx
    · omega
  · rw [if_neg c] at hx
    rcases List.mem_append.mp hx with hx | hx
    · exact h x hx
    · obtain rfl := List.mem_singleton.mp hx
      omega
theorem grow_len (s : List Nat) (b : Nat) : (grow s b).length ≤ s.length + 1 := by
  unfold grow
  by_cases c : b < s.length
  · rw [if_pos c, List.length_set]
    omega
  · rw [if_neg c, List.length_append, List.length_singleton]
    omega
theorem brL_eq (r k : Nat) (w : List Nat) : brL r k w = brc r k (sz w) := rfl
theorem bks_at (w : List Nat) {a : Nat} (h : a < (bks w).length) : (bks w)[a] = a := List.getElem_range ..
theorem bks_len (w : List Nat) : (bks w).length = (sz w).length + 1 := List.length_range ..
theorem cAt_br {r k : Nat} {w : List Nat} {a : Nat} (h : a < (bks w).length) : (nV (brc r k (sz w)))[a]? = some (V.int ((cAt (brL r k w) a : Nat) : Int)) := by
  rw [bks_len] at h
  refine nV_at ?_
  unfold cAt brL
  rw [List.getD_eq_getElem?_getD, brc_eq, List.getElem?_map, List.getElem?_range h]
  rfl
theorem sumW_low (c : List Nat) (m b : Nat) (h : b ≤ m) (hm : m ≤ c.length) : sumW c ((List.range m).filter fun o => decide (o < b)) = (c.take b).sum := by
  have e : (List.range m).filter (fun o => decide (o < b)) = List.range b := by
    obtain ⟨d, rfl⟩ : ∃ d, m = b + d := ⟨m - b, by omega⟩
    rw [List.range_add, List.filter_append, List.filter_eq_self.mpr fun x hx => by
      rw [decide_eq_true_eq]
      exact List.mem_range.mp hx, List.filter_eq_nil_iff.mpr fun x hx => by
      obtain ⟨y, _, rfl⟩ := List.mem_map.mp hx
      rw [decide_eq_true_eq]
      omega, List.append_nil]
  rw [e]
  unfold sumW cAt
  congr 1
  refine List.ext_getElem? fun i => ?_
  rw [List.getElem?_map, List.getElem?_take]
  by_cases hi : i < b
  · rw [if_pos hi, List.getElem?_range hi]
    show some (c.getD i 0) = _
    rw [List.getD_eq_getElem?_getD, List.getElem?_eq_getElem (by omega)]
    rfl
  · rw [if_neg hi, List.getElem?_eq_none (by rw [List.length_range]; omega)]
    rfl
/-! ### layouts in their plain form -/
theorem snoc_rec {P : List Nat → Prop} (h0 : P []) (hs : ∀ w x, P w → P (w ++ [x])) (w : List Nat) : P w := by
  have y : ∀ l : List Nat, P l.reverse := fun l => by
    induction l with
    | nil => exact h0
    | cons x l ih =>
      rw [List.reverse_cons]
      exact hs _ _ ih
  have z := y w.reverse
  rw [List.reverse_reverse] at z
  exact z
theorem plain_snoc (w : List Nat) (x : Nat) : plainL (w ++ [x]) = plainL w ++ [ix (dd [] (w ++ [x])) x] := by
  unfold plainL
  rw [List.map_append, List.map_singleton]
  congr 1
  refine List.map_congr_left fun y hy => ?_
  rw [dd_snoc]
  by_cases c : x ∈ dd [] w
  · rw [if_pos c]
  · rw [if_neg c, ix_snoc _ _ _ ((dd_mem w [] y).mpr (.inr hy))]
theorem plain_len (w : List Nat) : (plainL w).length = w.length := List.length_map ..
theorem plain_take (w : List Nat) (i : Nat) (h : i ≤ w.length) : (plainL w).take i = plainL (w.take i) := by
  have gen : ∀ (u v : List Nat), (plainL (u ++ v)).take u.length = plainL u := fun u v => by
    refine snoc_rec (P := fun v => (plainL (u ++ v)).take u.length = plainL u) ?_ (fun v x ih => ?_) v
    · rw [List.append_nil, ← plain_len, List.take_length]
    · rw [← List.append_assoc, plain_snoc, List.take_append_of_le_length (by rw [plain_len, List.length_append]; omega), ih]
  have y := gen (w.take i) (w.drop i)
  rw [List.take_append_drop, List.length_take, Nat.min_eq_left h] at y
  exact y
theorem ix_lt : ∀ {l : List Nat} {x : Nat}, x ∈ l → ix l x < l.length
  | a :: l, x, h => by
    show (if a = x then 0 else ix l x + 1) < l.length + 1
    by_cases c : a = x
    · rw [if_pos c]
      omega
    · rw [if_neg c]
      have := ix_lt (l := l) (x := x) (by
        rcases List.mem_cons.mp h with e | h
        · exact absurd e.symm c
        · exact h)
      omega
theorem ix_get : ∀ {l : List Nat} {x : Nat}, x ∈ l → l[ix l x]? = some x
  | a :: l, x, h => by
    show (a :: l)[if a = x then 0 else ix l x + 1]? = some x
    by_cases c : a = x
    · rw [if_pos c, c]
      rfl
    · rw [if_neg c, List.getElem?_cons_succ]
      exact ix_get (by
        rcases List.mem_cons.mp h with e | h
        · exact absurd e.symm c
        · exact h)
theorem sz_plain (w : List Nat) : sz (plainL w) = (dd [] w).map fun x => w.count x := by
  refine snoc_rec (P := fun w => sz (plainL w) = (dd [] w).map fun x => w.count x) rfl (fun w x ih => ?_) w
  rw [plain_snoc, sz_snoc, ih, dd_snoc]
  have nd := dd_nd w [] .nil
  by_cases c : x ∈ dd [] w
  · rw [if_pos c]
    have hl := ix_lt c
    have hg := ix_get c
    unfold grow
    rw [if_pos (by rw [List.length_map]; exact hl), List.getD_eq_getElem?_getD, List.getElem?_map, hg]
    refine List.ext_getElem? fun j => ?_
    rw [List.getElem?_set, List.getElem?_map, List.length_map]
    by_cases e : ix (dd [] w) x = j
    · subst e
      rw [if_pos rfl, if_pos hl, List.getElem?_map, hg]
      show some (w.count x + 1) = some ((w ++ [x]).count x)
      rw [List.count_append, List.count_singleton_self]
    · rw [if_neg e, List.getElem?_map]
      cases hj : (dd [] w)[j]? with
      | none => rfl
      | some y =>
        have ne : y ≠ x := fun z => by
          subst z
          exact e ((List.getElem?_inj hl nd).mp (hg.trans hj.symm))
        show some (w.count y) = some ((w ++ [x]).count y)
        rw [List.count_append, List.count_singleton, if_neg (by simpa using fun z => ne z.symm)]
        rfl
  · rw [if_neg c]
    have out : ix (dd [] w ++ [x]) x = (dd [] w).length := ix_new _ _ c
    have nx : ¬ x ∈ w := fun z => c ((dd_mem w [] x).mpr (.inr z))
    unfold grow
    rw [out, if_neg (by rw [List.length_map]; omega), List.map_append, List.map_singleton, List.count_append, List.count_singleton_self, List.count_eq_zero_of_not_mem nx]
    congr 1
    refine List.map_congr_left fun y hy => ?_
    have ne : y ≠ x := fun z => c (z ▸ hy)
    rw [List.count_append, List.count_singleton, if_neg (by simpa using fun z => ne z.symm)]
    rfl
theorem plain_at {w : List Nat} {i x : Nat} (h : w[i]? = some x) : (plainL w)[i]? = some (ix (dd [] (w.take (i + 1))) x) := by
  have hi : i < w.length := (List.getElem?_eq_some_iff.mp h).1
  have y := plain_take w (i + 1) hi
  rw [take_snoc h, plain_snoc] at y
  have z : ((plainL w).take (i + 1))[i]? = (plainL w)[i]? := by
    rw [List.getElem?_take, if_pos (Nat.lt_succ_self i)]
  rw [← z, y, List.getElem?_append_right (by rw [plain_len, List.length_take]; omega), plain_len, List.length_take, Nat.min_eq_left (by omega), Nat.sub_self, take_snoc h]
  rfl
theorem held_VL {r : Nat} (hr : 1 ≤ r) {w : List Nat} (h : Held r w) : VL r [] (plainL w) := fun i b hb => by
  have hi : i < w.length := by
    have y := (List.getElem?_eq_some_iff.mp hb).1
    rwa [plain_len] at y
  obtain ⟨x, hx⟩ : ∃ x, w[i]? = some x := ⟨_, List.getElem?_eq_getElem hi⟩
  rw [plain_at hx] at hb
  cases hb
  have hh := h i x hx
  rw [List.nil_append, plain_take w i (Nat.le_of_lt hi)]
  rw [take_snoc hx, List.count_append, List.count_singleton_self] at hh
  rw [take_snoc hx, dd_snoc]
  unfold full bks
  rw [sz_plain, List.length_map]
  by_cases c : x ∈ dd [] (w.take i)
  · rw [if_pos c]
    have hl := ix_lt c
    refine ⟨List.mem_range.mpr (by omega), ?_⟩
    rw [List.getD_eq_getElem?_getD, List.getElem?_map, ix_get c]
    show ¬ (w.take i).count x = r
    omega
  · rw [if_neg c, ix_new _ _ c]
    refine ⟨List.mem_range.mpr (by omega), ?_⟩
    rw [List.getD_eq_getElem?_getD, List.getElem?_eq_none (by rw [List.length_map]; omega)]
    show ¬ 0 = r
    omega
theorem sz_pos (w : List Nat) : ∀ x ∈ sz w, 1 ≤ x := by
  refine snoc_rec (P := fun w => ∀ x ∈ sz w, 1 ≤ x) (fun x hx => by cases hx) (fun w b ih => ?_) w
  rw [sz_snoc]
  exact grow_pos ih b
theorem sz_len (w : List Nat) : (sz w).length ≤ w.length := by
  refine snoc_rec (P := fun w => (sz w).length ≤ w.length) (Nat.le_refl _) (fun w b ih => ?_) w
  rw [sz_snoc, List.length_append, List.length_singleton]
  have := grow_len (sz w) b
  omega
theorem sok_VL {r : Nat} (hr : 1 ≤ r) {u : List Nat} (h : VL r [] u) : ∀ i, i ≤ u.length → Sok r (u.take i)
  | 0, _ => fun x hx => by cases hx
  | i + 1, hi => by
    obtain ⟨b, hb⟩ : ∃ b, u[i]? = some b := ⟨_, List.getElem?_eq_getElem (by omega)⟩
    have y := h i b hb
    rw [List.nil_append] at y
    rw [take_snoc hb]
    exact sok_snoc hr (sok_VL hr h i (by omega)) y.2
def spNthL (K : PySem.W.Frag) : Sp := fun vs H Q E => ∃ (u v nm : V) (d e f : PyData), vs = [u, v, nm] ∧ Dp K H u d ∧ Dp K H v e ∧ Dp K H nm f ∧
  ((dIn 1 30 d = false ∧ wWord K "InvalidSize" (.str "cells") H E) ∨ (dIn 1 30 d = true ∧ dIn 1 8 e = false ∧ wAt K "InvalidRoom" (.int (-1)) H E) ∨
    ∃ n r : Nat, d = .int (n : Int) ∧ e = .int (r : Int) ∧ 1 ≤ n ∧ n ≤ 30 ∧ 1 ≤ r ∧ r ≤ 8 ∧
      ((dIn 0 (((lc r n : Nat) : Int) - 1) f = false ∧ wAt K "InvalidIndex" (.int (-1)) H E) ∨ ∃ m : Nat, f = .int (m : Int) ∧ m < lc r n ∧ ∀ q H', Same H H' → Dp K H' q (.tuple (nI (nthL r n [] m))) → Q q H'))
def spNumL (K : PySem.W.Frag) : Sp := fun vs H Q E => ∃ (u v x : V) (d e f : PyData), vs = [u, v, x] ∧ Dp K H u d ∧ Dp K H v e ∧ Dp K H x f ∧
  ((dIn 1 30 d = false ∧ wWord K "InvalidSize" (.str "cells") H E) ∨ (dIn 1 30 d = true ∧ dIn 1 8 e = false ∧ wAt K "InvalidRoom" (.int (-1)) H E) ∨
    ∃ n r : Nat, d = .int (n : Int) ∧ e = .int (r : Int) ∧ 1 ≤ n ∧ n ≤ 30 ∧ 1 ≤ r ∧ r ≤ 8 ∧
      (((dSeq f && decide ((dItems f).length = n)) = false ∧ wAt K "InvalidLayout" (.int (-1)) H E) ∨ ((dSeq f && decide ((dItems f).length = n)) = true ∧
        ((∃ x, LOff r f x ∧ wAt K "InvalidLayout" (.int x) H E) ∨ ∃ w, LOk r f w ∧ ∀ H', Same H H' → Q (.int ((numL r [] (plainL w) : Nat) : Int)) H'))))
end Shf


namespace Shf
open PySem PySem.Spec PyProof.Rows L2 LamX
theorem ix_first : ∀ {l : List Nat} {y m q : Nat}, m < ix l y → l[m]? = some q → q ≠ y
  | [], y, m, q, h, _ => absurd h (Nat.not_lt_zero _)
  | a :: l, y, m, q, h, e => by
    have h : m < if a = y then 0 else ix l y + 1 := h
    by_cases c : a = y
    · rw [if_pos c] at h
      exact absurd h (Nat.not_lt_zero _)
    · rw [if_neg c] at h
      cases m with
      | zero =>
        cases e
        exact c
      | succ m =>
        rw [List.getElem?_cons_succ] at e
        exact ix_first (by omega) e
theorem index_nat {K : PySem.W.Frag} {a : Addr} {l : List Nat} {y : Nat} {H : Hp} {Q : VK} (hS : SqL K H a (nV l)) (hy : y ∈ l) (q : Q (.int ((ix l y : Nat) : Int)) H) : rIndex K (.ref a) [.int (y : Int)] H Q := by
  refine ⟨a, nV l, .int (y : Int), ix l y, .int (y : Int), rfl, rfl, hS, rfl, flat_nV l, nV_at (ix_get hy), ?_, fun m z' hm hz => ?_, q⟩
  · show ((y : Int) == (y : Int)) = true
    rw [beq_iff_eq]
  · obtain ⟨b, rfl, hb⟩ := nV_of_at hz
    have ne := ix_first hm hb
    show ((b : Int) == (y : Int)) = false
    rw [beq_eq_false_iff_ne]
    omega
section
variable {X : Cx}
def rCntL (K : PySem.W.Frag) : V → List V → Hp → VK → Prop := fun x xs H Q => ∃ (p : Addr) (l : List Nat) (k : Nat), x = .ref p ∧ xs = [.int (k : Int)] ∧ SqL K H p (nV l) ∧ Q (.int ((l.count k : Nat) : Int)) H
theorem mt_lcount (hu : X.A.units + 65 < cLine) : MtR X "list.count" (rCntL X.K) := by
  intro pins s σ H x xs v us Q I rx rxs h
  obtain ⟨p, l, k, rfl, rfl, hs, q⟩ := h
  cases rx
  obtain ⟨u, rfl, ru⟩ := rxs.one
  obtain ⟨t, rfl⟩ := ru
  obtain ⟨its, rv, hl, hlen⟩ := I.list hs
  obtain ⟨as, ra⟩ := Dp.readsAll I (nI l) (nV l) its (dAll_nat l) rv
  have hd : X.A.units + 1 + min (PyData.depthAll (nI l)) (PyData.depth (.int (k : Int))) < cLine := by
    rw [dep_nI, Nat.zero_min]
    omega
  refine PySem.SeqAt.count_list_data (d := .int (k : Int)) (bs := []) hl.isList (by simpa using ra) (.int _ _) (plain_nI l) rfl hd ?_
  rw [cnt_eqv]
  exact ⟨.int _, H, I.tok _, ⟨_, rfl⟩, q⟩
end
section
variable {X : Cx}
/-- a tuple of which it is known that it is just a tuple: its methods can be called -/
def ExT (H : Hp) (p : Addr) (xs : List V) : Prop := ∃ ob : Obj, H p = some (.frz ob (.tup xs)) ∧ ob.cls = .type "tuple" ∧ ob.dict = none
theorem ExT.sqt {K : PySem.W.Frag} {H : Hp} {p : Addr} {xs : List V} (h : ExT H p xs) : SqT K H p xs := by
  obtain ⟨ob, e, _⟩ := h
  exact .inl (.inr ⟨ob, e⟩)
theorem ExT.keep {H H' : Hp} {p : Addr} {xs : List V} (k : KeepT H H') (h : ExT H p xs) : ExT H' p xs := by
  obtain ⟨ob, e, r⟩ := h
  exact ⟨ob, (k p xs).2 ob e, r⟩
def tTupF (t : TA) : TE := fun σ H Q => t σ H fun xs H1 => xs.length ≤ sizeLine ∧ ∀ p ob, H1 p = none → ob.cls = .type "tuple" → ob.dict = none → Q (.ref p) (upd H1 p (.frz ob (.tup xs)))
theorem pe_tupF {es : List Expr} {t : TA} {x1} {pos : Pos} (h : PA X es t) : PE X (.Tuple es x1 pos) (tTupF t) := by
  refine ⟨fun pins s σ H Q I hq => ?_⟩
  refine wpAny_Tuple_spliced (thn (h.run pos pins s σ H _ I hq) fun us s1 ⟨xs, H1, I1, r, z, q⟩ => ⟨by rw [← r.length]; exact z, ?_⟩)
  have hf : H1 s1.heap.objs.size = none := I1.hok.fresh (Nat.le_refl _)
  refine ⟨.ref s1.heap.objs.size, upd H1 s1.heap.objs.size (.frz { cls := .type "tuple", data := .seq us.toArray } (.tup xs)), I1.laid (t' := s1.toks) (fun b u e => Heap.get?_push_of_some _ e) (Nat.le_refl _) ?_, rfl, q _ _ hf rfl rfl⟩
  exact ⟨Heap.get?_push_size _ rfl, z, us, r, ⟨_, Heap.get?_push_size _ rfl, rfl, _, rfl⟩⟩
def rCatF (K : PySem.W.Frag) : R2 := fun x y H Q => ∃ a b xs ys, x = .ref a ∧ y = .ref b ∧ SqT K H a xs ∧ SqT K H b ys ∧ ys ≠ [] ∧ xs.length + ys.length ≤ sizeLine ∧
  (xs = [] → Q (.ref b) H) ∧ (xs ≠ [] → ∀ p ob, H p = none → ob.cls = .type "tuple" → ob.dict = none → Q (.ref p) (upd H p (.frz ob (.tup (xs ++ ys)))))
theorem op_catF : OpR X (binaryOp .Add) (rCatF X.K) := by
  intro pins s σ H x y v u Q I rx ry h
  obtain ⟨a, b, xs, ys, rfl, rfl, ha, hb, hy, hz, q0, q2⟩ := h
  cases rx
  cases ry
  obtain ⟨its, r1, p1, _⟩ := I.tuple ha
  obtain ⟨its2, r2, p2, _⟩ := I.tuple hb
  by_cases hx : xs = []
  · subst hx
    cases r1
    exact cat_tup0 p1 p2 ⟨.ref b, H, I, rfl, q0 rfl⟩
  · refine HT.cat_tup p1 p2 (fun z => hx (r1.nil_iff.mp z)) (fun z => absurd (r2.nil_iff.mp z) hy) (fun z => ?_) (by rw [← r1.length, ← r2.length]; exact hz)
    refine ⟨.ref s.heap.objs.size, _, I.laid (t' := s.toks) (o := .frz { cls := .type "tuple", data := .seq (its ++ its2).toArray } (.tup (xs ++ ys))) (fun b ob q => Heap.get?_push_of_some _ q) (Nat.le_refl _) ?_, rfl, q2 hx _ _ (I.hok.fresh (Nat.le_refl _)) rfl rfl⟩
    exact ⟨Heap.get?_push_size _ rfl, by rw [List.length_append]; exact hz, _, r1.append r2, IsTup.new _ _⟩
def tBMT (r : V → List V → Hp → VK → Prop) (to : TE) (t : TA) : TE := fun σ H Q => to σ H fun x H1 => (∃ p xs, x = .ref p ∧ ExT H1 p xs) ∧ t σ H1 fun xs H2 => r x xs H2 Q
theorem pe_bmT {o e : Expr} {es : List Expr} {to : TE} {t : TA} {name : PySem.Str} {apos cpos : Pos} {id : String} {r : V → List V → Hp → VK → Prop} (pa : PlainAttrs "tuple") (slot : Slot "tuple" name id) (hty : typeOf (.builtin id) = pure (.type "method_descriptor")) (hm : MtR X id r) (ho : PE X o to) (ha : PA X (e :: es) t)
    (hbase : attributeBase o name X.env (eval o X.env) = eval o X.env := by rfl)
    (hfew : ((backTo cpos (starEach (e :: es) X.env)).all (fun x => !x.1) && (backToKw cpos (keywordEach [] X.env)).all (fun x => x.1.isSome)
      && decide ((e :: es).length + ([] : List Keyword).length + (if ([] : List Keyword).isEmpty then 0 else 1) < 30)) = true := by rfl)
    (hline : (apos.endLine == cpos.line) = true := by rfl) (hs : starEach (e :: es) X.env = (false, eval e X.env) :: starEach es X.env := by rfl) (hplain : (backTo cpos (starEach es X.env)).any (·.1) = false := by rfl) :
    PE X (.Call (.Attribute o name apos) (e :: es) [] cpos) (tBMT r to t) := by
  refine ⟨fun pins s σ H Q I h => ?_⟩
  refine wpAny_Call_method_late hbase hfew hline rfl (thn (ho.run pins s σ H _ I h) fun v s1 ⟨x, H1, I1, r1, ⟨p, xs, ex, ob, ty, oc, od⟩, q1⟩ => ?_)
  subst ex
  obtain rfl : v = Value.ref p := r1
  have e1 : s1.heap.get? p = some ob := (I1.hok p _ ty).1
  refine ⟨"tuple", id, pa, slot, hty, ⟨ob, e1, oc⟩, (fun a ea => by
    cases ea
    exact ⟨ob, e1, od⟩), ?_⟩
  have hA := ha.run cpos pins s1 σ H1 _ I1 q1
  rw [hs] at hA ⊢
  refine Calls.callWith_builtin (by show (false || (backTo cpos (starEach es X.env)).any (·.1)) = false; rw [hplain] <;> rfl) (Calls.evalArgs_plain ?_)
  exact thn hA fun us s2 ⟨vs, H2, I2, r2, q2⟩ => hm pins s2 σ H2 (.ref p) vs (.ref p) us Q I2 rfl r2 q2
end
/-- rows of numbers in tuples of which it is known that they are just tuples -/
inductive AllX (H : Hp) : List V → List (List Nat) → Prop
  | nil : AllX H [] []
  | cons {p : Addr} {w : List Nat} {vs : List V} {ws : List (List Nat)} : ExT H p (nV w) → AllX H vs ws → AllX H (.ref p :: vs) (w :: ws)
theorem AllX.len {H : Hp} : ∀ {vs : List V} {ws : List (List Nat)}, AllX H vs ws → vs.length = ws.length
  | _, _, .nil => rfl
  | _, _, .cons _ t => by rw [List.length_cons, List.length_cons, t.len]
theorem AllX.keep {H H' : Hp} (k : KeepT H H') : ∀ {vs : List V} {ws : List (List Nat)}, AllX H vs ws → AllX H' vs ws
  | _, _, .nil => .nil
  | _, _, .cons h t => .cons (h.keep k) (t.keep k)
theorem AllX.snoc {H : Hp} {p : Addr} {w : List Nat} (x : ExT H p (nV w)) : ∀ {vs : List V} {ws : List (List Nat)}, AllX H vs ws → AllX H (vs ++ [.ref p]) (ws ++ [w])
  | _, _, .nil => .cons x .nil
  | _, _, .cons h t => .cons h (t.snoc x)
theorem AllX.at {H : Hp} : ∀ {vs : List V} {ws : List (List Nat)} {i : Nat} {v : V}, AllX H vs ws → vs[i]? = some v → ∃ w, ws[i]? = some w ∧ ∃ p, v = .ref p ∧ ExT H p (nV w)
  | _, _, 0, _, .cons h _, e => by
    cases e
    exact ⟨_, rfl, _, rfl, h⟩
  | _, _, i + 1, _, .cons _ t, e => t.at (i := i) e
theorem AllX.dp {K : PySem.W.Frag} {H : Hp} : ∀ {vs : List V} {ws : List (List Nat)}, AllX H vs ws → DpAll K H vs (ws.map tupN)
  | _, _, .nil => .nil
  | _, _, .cons h t => .cons (.tup h.sqt (dAll_nat _)) t.dp
theorem lc_small : ∀ r : Nat, r < 9 → ∀ k : Nat, k < 9 → lc r k ≤ 4140 := by
  decide +kernel
theorem ex_VL {r : Nat} (h1 : 1 ≤ r) {k : Nat} {u : List Nat} (h : u ∈ exL r k []) : u.length = k ∧ VL r [] u := by
  obtain ⟨m, hm⟩ := List.mem_iff_getElem?.mp h
  have hl := (List.getElem?_eq_some_iff.mp hm).1
  have sk : Sok r [] := fun x hx => by cases hx
  have y := ex_nth h1 k [] m sk hl
  rw [hm] at y
  obtain ⟨v, e1, e2, _, e4⟩ := nth_numL h1 k [] m sk hl
  have e : u = v := (Option.some.inj y).trans e1
  rw [e]
  exact ⟨e2, e4⟩
theorem VL_left {r : Nat} {u : List Nat} {b : Nat} (h : VL r [] (u ++ [b])) : VL r [] u := fun i c hc => by
  have hi := (List.getElem?_eq_some_iff.mp hc).1
  have y := h i c (by rw [List.getElem?_append_left hi]; exact hc)
  rw [List.take_append_of_le_length (by omega)] at y
  exact y
theorem sz_count {r : Nat} (u : List Nat) : VL r [] u → (∀ b, (sz u).getD b 0 = u.count b) ∧ ∀ x ∈ u, x < (sz u).length := by
  refine snoc_rec (P := fun u => VL r [] u → (∀ b, (sz u).getD b 0 = u.count b) ∧ ∀ x ∈ u, x < (sz u).length) (fun _ => ⟨fun b => rfl, fun x hx => by cases hx⟩) (fun u b ih => ?_) u
  intro h
  obtain ⟨i1, i2⟩ := ih (VL_left h)
  obtain ⟨hb, _⟩ := h u.length b (by rw [List.getElem?_concat_length])
  rw [List.nil_append, List.take_append_of_le_length (Nat.le_refl _), List.take_length] at hb
  have hb : b < (sz u).length + 1 := List.mem_range.mp hb
  rw [sz_snoc]
  unfold grow
  by_cases c : b < (sz u).length
  · rw [if_pos c]
    refine ⟨fun d => ?_, fun x hx => ?_⟩
    · rw [List.getD_eq_getElem?_getD, List.getElem?_set, List.count_append, List.count_singleton, ← i1 d]
      by_cases e : b = d
      · subst e
        rw [if_pos rfl, if_pos c, if_pos (by simp)]
        rfl
      · rw [if_neg e, if_neg (by simpa using e), List.getD_eq_getElem?_getD]
        rfl
    · rw [List.length_set]
      rcases List.mem_append.mp hx with hx | hx
      · exact i2 x hx
      · obtain rfl := List.mem_singleton.mp hx
        exact c
  · rw [if_neg c]
    obtain rfl : b = (sz u).length := by omega
    refine ⟨fun d => ?_, fun x hx => ?_⟩
    · rw [List.count_append, List.count_singleton, ← i1 d, List.getD_eq_getElem?_getD, List.getD_eq_getElem?_getD]
      by_cases e : d < (sz u).length
      · rw [List.getElem?_append_left e, if_neg (by simp; omega)]
        rfl
      · rw [List.getElem?_append_right (by omega), List.getElem?_eq_none (show (sz u).length ≤ d by omega)]
        by_cases e2 : (sz u).length = d
        · subst e2
          rw [Nat.sub_self, if_pos (by simp)]
          rfl
        · rw [List.getElem?_eq_none (by rw [List.length_singleton]; omega), if_neg (by simpa using e2)]
          rfl
    · rw [List.length_append, List.length_singleton]
      rcases List.mem_append.mp hx with hx | hx
      · have := i2 x hx
        omega
      · obtain rfl := List.mem_singleton.mp hx
        omega
/-- as many unlike ones as blocks -/
theorem set_len {r : Nat} {u : List Nat} (h : VL r [] u) {m : List Int} (hn : m.Nodup) (hm : ∀ k, k ∈ m ↔ k ∈ u.map fun x : Nat => (x : Int)) : m.length = (sz u).length := by
  obtain ⟨c1, c2⟩ := sz_count u h
  have hr : ((List.range (sz u).length).map fun x : Nat => (x : Int)).Nodup := (List.pairwise_map).mpr ((List.nodup_range).imp fun e z => e (by omega))
  have y := (same_count (ns := (List.range (sz u).length).map fun x : Nat => (x : Int)) hn fun k => (hm k).trans ?_).2.mpr hr
  · rw [y, List.length_map, List.length_range]
  · constructor
    · intro z
      obtain ⟨x, hx, rfl⟩ := List.mem_map.mp z
      exact List.mem_map.mpr ⟨x, List.mem_range.mpr (c2 x hx), rfl⟩
    · intro z
      obtain ⟨x, hx, rfl⟩ := List.mem_map.mp z
      have hx := List.mem_range.mp hx
      refine List.mem_map.mpr ⟨x, ?_, rfl⟩
      have p := sz_pos u ((sz u).getD x 0) (by
        rw [List.getD_eq_getElem?_getD, List.getElem?_eq_getElem hx]
        exact List.getElem_mem hx)
      rw [c1] at p
      exact List.count_pos_iff.mp p
theorem ch_self : ∀ n : Nat, ch n n = 1
  | 0 => rfl
  | n + 1 => by
    show ch n n + ch n (n + 1) = 1
    rw [ch_self n, ch_above (Nat.lt_succ_self n)]
theorem pascal (i : Nat) : ([V.int 1] ++ nV ((List.range i).map fun k => ch i k + ch i (k + 1))) ++ [V.int 1] = nV ((List.range (i + 1 + 1)).map (ch (i + 1))) := by
  rw [rgM_succ, List.range_succ_eq_map, List.map_cons, List.map_map, ch_self]
  rfl
def spCountL (K : PySem.W.Frag) : Sp := fun vs H Q _ => ∃ n r : Nat, vs = [.int (n : Int), .int (r : Int)] ∧ n ≤ 30 ∧ 1 ≤ r ∧ r ≤ 200 ∧ ∀ H', Same H H' → Q (.int ((lc r n : Nat) : Int)) H'
def spAllL (K : PySem.W.Frag) : Sp := fun vs H Q _ => ∃ n r : Nat, vs = [.int (n : Int), .int (r : Int)] ∧ n ≤ 6 ∧ 1 ≤ r ∧ r ≤ 8 ∧ ∀ p H', Same H H' → H p = none → Dp K H' (.ref p) (.list ((exL r n []).map tupN)) → Q (.ref p) H'
end Shf


namespace Shf
open PySem PySem.Spec PyProof.Rows L2 LamX
/-- fewer than n numbers below n: one is lacking -/
theorem lacks : ∀ {n : Nat} {w : List Nat}, w.length < n → ∃ b, b < n ∧ ¬ b ∈ w
  | 0, w, h => absurd h (Nat.not_lt_zero _)
  | n + 1, w, h => by
    by_cases c : n ∈ w
    · have y := List.length_erase_of_mem c
      have p := List.length_pos_of_mem c
      obtain ⟨b, hb, hn⟩ := lacks (n := n) (w := w.erase n) (by omega)
      refine ⟨b, by omega, fun hm => hn ?_⟩
      exact (List.mem_erase_of_ne (by omega)).mpr hm
    · exact ⟨n, Nat.lt_succ_self n, c⟩
def openL (n r : Nat) (w : List Nat) : List Nat := (List.range n).filter fun b => decide (w.count b < r)
theorem openL_ne {n r : Nat} {w : List Nat} (h1 : 1 ≤ r) (h : w.length < n) : openL n r w ≠ [] := fun e => by
  obtain ⟨b, hb, hw⟩ := lacks h
  have y : b ∈ openL n r w := List.mem_filter.mpr ⟨List.mem_range.mpr hb, by
    rw [List.count_eq_zero_of_not_mem hw, decide_eq_true_eq]
    exact h1⟩
  rw [e] at y
  cases y
theorem cut_nat (w : List Nat) (lo hi : Option Int) : ∃ v : List Nat, cutV (nV w) lo hi = nV v := by
  unfold cutV
  refine ⟨(w.drop (HT.sIx (nV w).length 0 lo)).take (HT.sIx (nV w).length (nV w).length hi - HT.sIx (nV w).length 0 lo), ?_⟩
  show _ = List.map _ _
  rw [List.map_take, List.map_drop]
theorem eqv_nilL : ∀ l : List Nat, PyData.eqv (.list (nI l)) (.list []) = decide (l = [])
  | [] => by
    rw [PyData.eqv]
    rfl
  | x :: t => by
    rw [PyData.eqv]
    rfl
theorem shp_nI {l : List Nat} (h : ∀ x ∈ l, x < 1000000) : SeqAt.shaped (.list (nI l)) = true :=
  (nice_lst (niceA_map (f := fun x : Nat => PyData.int (x : Int)) (dp := 0) (a := 20) fun x hx => nice_nat (h x hx))).shaped (by decide)
def spLayD (K : PySem.W.Frag) : Sp := fun vs H Q _ => ∃ (a : Addr) (N : Int) (n r : Nat), vs = [.ref a, .int (n : Int), .int (r : Int)] ∧ BoxN H a N ∧ N < 100000000000 ∧ n ≤ 8 ∧ 1 ≤ r ∧
  ∀ q (w : List Nat) H', H q = none → q ≠ a → H' q = some (.lst (nV w)) → w.length = n → (∀ x ∈ w, x < n) → (∀ b, w.count b ≤ r) → But a H H' → BoxN H' a (N + 2 * n) → Q (.ref q) H'
def spNamedL (K : PySem.W.Frag) : Sp := fun vs H Q _ => ∃ (a l : Addr) (N : Int) (w : List Nat), vs = [.ref a, .ref l] ∧ BoxN H a N ∧ N < 100000000000 ∧ SqL K H l (nV w) ∧ l ≠ a ∧ w.length ≤ 8 ∧ (∀ x ∈ w, x < 8) ∧
  ∀ q (u : List Nat) (f : Nat → Nat) H', H q = none → q ≠ a → H' q = some (.lst (nV (w.map f))) → u = w.map f → (∀ x y, x < 8 → y < 8 → f x = f y → x = y) → (∀ x, x < 8 → f x < 200) → But a H H' → BoxN H' a (N + 20) → Q (.ref q) H'
end Shf


namespace Shf
open PySem PySem.Spec PyProof.Rows L2 LamX
theorem ix_range : ∀ {n b : Nat}, b < n → ix (List.range n) b = b := fun {n b} h => by
  have hm : b ∈ List.range n := List.mem_range.mpr h
  have y := ix_get hm
  have z := ix_lt hm
  rw [List.length_range] at z
  rw [List.getElem?_range z] at y
  exact Option.some.inj y
theorem dd_VL {r : Nat} (u : List Nat) : VL r [] u → dd [] u = List.range (sz u).length := by
  refine snoc_rec (P := fun u => VL r [] u → dd [] u = List.range (sz u).length) (fun _ => rfl) (fun u b ih h => ?_) u
  obtain ⟨hb, _⟩ := h u.length b (by rw [List.getElem?_concat_length])
  rw [List.nil_append, List.take_append_of_le_length (Nat.le_refl _), List.take_length] at hb
  have hb : b < (sz u).length + 1 := List.mem_range.mp hb
  rw [dd_snoc, ih (VL_left h), sz_snoc]
  unfold grow
  by_cases c : b < (sz u).length
  · rw [if_pos (List.mem_range.mpr c), if_pos c, List.length_set]
  · rw [if_neg (fun z => c (List.mem_range.mp z)), if_neg c, List.length_append, List.length_singleton, List.range_succ]
    congr 2
    omega
theorem plain_VL {r : Nat} (u : List Nat) : VL r [] u → plainL u = u := by
  refine snoc_rec (P := fun u => VL r [] u → plainL u = u) (fun _ => rfl) (fun u b ih h => ?_) u
  have y := dd_VL _ h
  obtain ⟨_, c2⟩ := sz_count _ h
  rw [plain_snoc, ih (VL_left h), y, ix_range (c2 b (List.mem_append_right _ (List.mem_singleton.mpr rfl)))]
theorem VL_take {r : Nat} {u : List Nat} (h : VL r [] u) (i : Nat) : VL r [] (u.take i) := fun j b hb => by
  rw [List.getElem?_take] at hb
  by_cases c : j < i
  · rw [if_pos c] at hb
    have y := h j b hb
    rw [List.take_take, Nat.min_eq_left (by omega)]
    exact y
  · rw [if_neg c] at hb
    cases hb
theorem VL_held {r : Nat} (h1 : 1 ≤ r) {u : List Nat} (h : VL r [] u) : Held r u := fun i x hx => by
  have hi := (List.getElem?_eq_some_iff.mp hx).1
  obtain ⟨hb, nf⟩ := h i x hx
  rw [List.nil_append] at hb nf
  obtain ⟨c1, _⟩ := sz_count _ (VL_take h i)
  have sok := sok_VL h1 h i (by omega)
  rw [take_snoc hx, List.count_append, List.count_singleton_self, ← c1]
  unfold full at nf
  by_cases c : x < (sz (u.take i)).length
  · have y := sok ((sz (u.take i)).getD x 0) (by
      rw [List.getD_eq_getElem?_getD, List.getElem?_eq_getElem c]
      exact List.getElem_mem c)
    omega
  · rw [List.getD_eq_getElem?_getD, List.getElem?_eq_none (by omega)]
    exact h1
theorem VL_ok {r : Nat} (h1 : 1 ≤ r) {u : List Nat} (h : VL r [] u) (hl : u.length ≤ 100) : LOk r (.tuple (nI u)) u := ⟨rfl, fun x hx => by
  have y := (sz_count _ h).2 x hx
  have z := sz_len u
  omega, VL_held h1 h⟩
def lexN (u v : List Nat) : Prop := HT.lexLt (u.map fun x : Nat => (x : Int)) (v.map fun x : Nat => (x : Int)) = true
theorem lex_app : ∀ (w u v : List Nat) (b c : Nat), b < c → lexN (w ++ b :: u) (w ++ c :: v)
  | [], u, v, b, c, h => by
    show HT.lexLt ((b : Int) :: _) ((c : Int) :: _) = true
    unfold HT.lexLt
    have h1 : ¬ (b : Int) = (c : Int) := by omega
    have h2 : (b : Int) < (c : Int) := by omega
    simp [h1, h2]
  | a :: w, u, v, b, c, h => by
    have ih := lex_app w u v b c h
    show HT.lexLt ((a : Int) :: _) ((a : Int) :: _) = true
    unfold HT.lexLt
    unfold lexN at ih
    simpa using ih
theorem ex_pre (r : Nat) : ∀ (k : Nat) (w u : List Nat), u ∈ exL r k w → ∃ v, u = w ++ v
  | 0, w, u, h => by
    obtain rfl := List.mem_singleton.mp h
    exact ⟨[], (List.append_nil _).symm⟩
  | k + 1, w, u, h => by
    obtain ⟨b, _, hb⟩ := List.mem_flatMap.mp h
    by_cases c : full r w b
    · rw [if_pos c] at hb
      cases hb
    · rw [if_neg c] at hb
      obtain ⟨v, rfl⟩ := ex_pre r k _ u hb
      exact ⟨b :: v, by rw [List.append_assoc]; rfl⟩
theorem ex_asc (r : Nat) : ∀ (k : Nat) (w : List Nat), (exL r k w).Pairwise lexN
  | 0, w => List.pairwise_singleton ..
  | k + 1, w => by
    show ((bks w).flatMap fun b => if full r w b then [] else exL r k (w ++ [b])).Pairwise lexN
    refine List.pairwise_flatMap.mpr ⟨fun b _ => ?_, (bks_asc w).imp fun {b c} hbc x hx y hy => ?_⟩
    · by_cases c : full r w b
      · rw [if_pos c]
        exact .nil
      · rw [if_neg c]
        exact ex_asc r k _
    · by_cases c1 : full r w b
      · rw [if_pos c1] at hx
        cases hx
      · rw [if_neg c1] at hx
        by_cases c2 : full r w c
        · rw [if_pos c2] at hy
          cases hy
        · rw [if_neg c2] at hy
          obtain ⟨v1, rfl⟩ := ex_pre r k _ x hx
          obtain ⟨v2, rfl⟩ := ex_pre r k _ y hy
          rw [List.append_assoc, List.append_assoc]
          exact lex_app w v1 v2 b c hbc
theorem nth_lex {r : Nat} (h1 : 1 ≤ r) {n m : Nat} (h : m + 1 < lc r n) : lexN (nthL r n [] m) (nthL r n [] (m + 1)) := by
  have sk : Sok r [] := fun x hx => by cases hx
  have el : (exL r n []).length = lc r n := by
    rw [ex_len h1 n [] sk]
    exact go_nil r n
  have y1 := ex_nth h1 n [] m sk (by omega)
  have y2 := ex_nth h1 n [] (m + 1) sk (by omega)
  have p := List.pairwise_iff_getElem.mp (ex_asc r n []) m (m + 1) (by omega) (by omega) (by omega)
  rw [(List.getElem?_eq_some_iff.mp y1).2, (List.getElem?_eq_some_iff.mp y2).2] at p
  exact p
theorem nth_all {r : Nat} (h1 : 1 ≤ r) {n m : Nat} (h : m < lc r n) : (nthL r n [] m).length = n ∧ numL r [] (nthL r n [] m) = m ∧ VL r [] (nthL r n [] m) ∧ (exL r n [])[m]? = some (nthL r n [] m) := by
  have sk : Sok r [] := fun x hx => by cases hx
  have el : (exL r n []).length = lc r n := by
    rw [ex_len h1 n [] sk]
    exact go_nil r n
  obtain ⟨u, e1, e2, e3, e4⟩ := nth_numL h1 n [] m sk (by omega)
  rw [List.nil_append] at e1
  have y := ex_nth h1 n [] m sk (by omega)
  rw [e1] at y ⊢
  exact ⟨e2, e3, e4, y⟩
theorem lc_two : ∀ r : Nat, r < 9 → 2 ≤ r → ∀ n : Nat, n < 9 → 7 ≤ n → 2 ≤ lc r n := by
  decide +kernel
def spNeigh (K : PySem.W.Frag) : Sp := fun vs H Q _ => ∃ (a : Addr) (N : Int) (r : Nat), vs = [.ref a, .int (r : Int)] ∧ BoxN H a N ∧ N < 100000000000 ∧ 1 ≤ r ∧ r ≤ 8 ∧ ∀ H', But a H H' → BoxN H' a (N + 2) → Q (.bl true) H'
end Shf

namespace K02
open PySem PySem.Spec PyProof.Rows L2
def top (i : Nat) : Stmt := PySem.Challenge.pw_slowshelves_k02_whole_layouts_numbered.main.body.getD i (.Pass ⟨0, 0, 0, 0⟩)
abbrev s_is_integer : Stmt := top 8
abbrev s_is_within : Stmt := top 9
abbrev s_is_below : Stmt := top 10
abbrev s_is_sequence : Stmt := top 11
abbrev s_need_size : Stmt := top 12
abbrev s_numbered : Stmt := top 13
abbrev s_need_room : Stmt := top 18
abbrev s_plain_layout : Stmt := top 19
abbrev s__layout_of : Stmt := top 20
abbrev s__roomy_layout : Stmt := top 21
abbrev s_layout_count : Stmt := top 22
abbrev s__layout_counts : Stmt := top 23
abbrev s__grown : Stmt := top 24
abbrev s__ways_on : Stmt := top 25
abbrev s__branch_counts : Stmt := top 26
abbrev s_nth_layout : Stmt := top 27
abbrev s_layout_number : Stmt := top 28
abbrev s__law_box : Stmt := top 30
abbrev s__law_take : Stmt := top 31
abbrev s__law_pick : Stmt := top 32
abbrev s__law_mixed : Stmt := top 33
abbrev s__law_plain : Stmt := top 34
abbrev s__law_layout : Stmt := top 35
abbrev s__law_all : Stmt := top 36
abbrev s__law_count : Stmt := top 37
abbrev s__law_neighbours : Stmt := top 38
abbrev s__law_named : Stmt := top 39
abbrev s__law_error : Stmt := top 40
abbrev s__law_refused : Stmt := top 41
abbrev s__law_full : Stmt := top 42
abbrev s_law : Stmt := top 43
def own0 : List He.DefD := [⟨("is_integer", none), "is_integer", "is_integer", defArgs s_is_integer, defBody s_is_integer, defScope s_is_integer, [], []⟩, ⟨("is_within", none), "is_within", "is_within", defArgs s_is_within, defBody s_is_within, defScope s_is_within, [], []⟩, ⟨("is_below", none), "is_below", "is_below", defArgs s_is_below, defBody s_is_below, defScope s_is_below, [], []⟩, ⟨("is_sequence", none), "is_sequence", "is_sequence", defArgs s_is_sequence, defBody s_is_sequence, defScope s_is_sequence, [], []⟩, ⟨("need_size", none), "need_size", "need_size", defArgs s_need_size, defBody s_need_size, defScope s_need_size, [], []⟩, ⟨("numbered", none), "numbered", "numbered", defArgs s_numbered, defBody s_numbered, defScope s_numbered, [], []⟩, ⟨("need_room", none), "need_room", "need_room", defArgs s_need_room, defBody s_need_room, defScope s_need_room, [], []⟩, ⟨("plain_layout", none), "plain_layout", "plain_layout", defArgs s_plain_layout, defBody s_plain_layout, defScope s_plain_layout, [], []⟩, ⟨("_layout_of", none), "_layout_of", "_layout_of", defArgs s__layout_of, defBody s__layout_of, defScope s__layout_of, [], []⟩, ⟨("_roomy_layout", none), "_roomy_layout", "_roomy_layout", defArgs s__roomy_layout, defBody s__roomy_layout, defScope s__roomy_layout, [], []⟩, ⟨("layout_count", none), "layout_count", "layout_count", defArgs s_layout_count, defBody s_layout_count, defScope s_layout_count, [], []⟩, ⟨("_layout_counts", none), "_layout_counts", "_layout_counts", defArgs s__layout_counts, defBody s__layout_counts, defScope s__layout_counts, [], []⟩]
def own1 : List He.DefD := [⟨("_grown", none), "_grown", "_grown", defArgs s__grown, defBody s__grown, defScope s__grown, [], []⟩, ⟨("_ways_on", none), "_ways_on", "_ways_on", defArgs s__ways_on, defBody s__ways_on, defScope s__ways_on, [], []⟩, ⟨("_branch_counts", none), "_branch_counts", "_branch_counts", defArgs s__branch_counts, defBody s__branch_counts, defScope s__branch_counts, [], []⟩, ⟨("nth_layout", none), "nth_layout", "nth_layout", defArgs s_nth_layout, defBody s_nth_layout, defScope s_nth_layout, [], []⟩, ⟨("layout_number", none), "layout_number", "layout_number", defArgs s_layout_number, defBody s_layout_number, defScope s_layout_number, [], []⟩, ⟨("_law_box", none), "_law_box", "_law_box", defArgs s__law_box, defBody s__law_box, defScope s__law_box, [], []⟩, ⟨("_law_take", none), "_law_take", "_law_take", defArgs s__law_take, defBody s__law_take, defScope s__law_take, [], []⟩, ⟨("_law_pick", none), "_law_pick", "_law_pick", defArgs s__law_pick, defBody s__law_pick, defScope s__law_pick, [], []⟩, ⟨("_law_mixed", none), "_law_mixed", "_law_mixed", defArgs s__law_mixed, defBody s__law_mixed, defScope s__law_mixed, [], []⟩, ⟨("_law_plain", none), "_law_plain", "_law_plain", defArgs s__law_plain, defBody s__law_plain, defScope s__law_plain, [], []⟩, ⟨("_law_layout", none), "_law_layout", "_law_layout", defArgs s__law_layout, defBody s__law_layout, defScope s__law_layout, [], []⟩, ⟨("_law_all", none), "_law_all", "_law_all", defArgs s__law_all, defBody s__law_all, defScope s__law_all, [], []⟩]
def own2 : List He.DefD := [⟨("_law_count", none), "_law_count", "_law_count", defArgs s__law_count, defBody s__law_count, defScope s__law_count, [], []⟩, ⟨("_law_neighbours", none), "_law_neighbours", "_law_neighbours", defArgs s__law_neighbours, defBody s__law_neighbours, defScope s__law_neighbours, [], []⟩, ⟨("_law_named", none), "_law_named", "_law_named", defArgs s__law_named, defBody s__law_named, defScope s__law_named, [], []⟩, ⟨("_law_error", none), "_law_error", "_law_error", defArgs s__law_error, defBody s__law_error, defScope s__law_error, [], []⟩, ⟨("_law_refused", none), "_law_refused", "_law_refused", defArgs s__law_refused, defBody s__law_refused, defScope s__law_refused, [], []⟩, ⟨("_law_full", none), "_law_full", "_law_full", defArgs s__law_full, defBody s__law_full, defScope s__law_full, [], []⟩, ⟨("law", none), "law", "law", defArgs s_law, defBody s_law, defScope s_law, [], []⟩]
def cfg : Shf.Cfg := ⟨[("InvalidRoom", 7), ("InvalidLayout", 11), ("InvalidIndex", 15)], [("InvalidSize", 19)], [], own0 ++ own1 ++ own2, ["abs", "bool", "enumerate", "int", "isinstance", "len", "list", "max", "min", "range", "repr", "reversed", "set", "sum", "tuple"], [("MOST_CELLS", 200), ("MOST_ROOM", 8), ("MOST_COUNTED", 30)]⟩
def nm0 : List PySem.Str := ["ShelfError", "InvalidRoom", "InvalidLayout", "InvalidIndex", "InvalidSize", "is_integer", "is_within", "is_below", "is_sequence", "need_size", "numbered", "MOST_CELLS", "MOST_ROOM", "MOST_COUNTED", "need_room", "plain_layout", "_layout_of", "_roomy_layout"]
def nm1 : List PySem.Str := ["layout_count", "_layout_counts", "_grown", "_ways_on", "_branch_counts", "nth_layout", "layout_number", "_law_box", "_law_take", "_law_pick", "_law_mixed", "_law_plain", "_law_layout", "_law_all", "_law_count", "_law_neighbours", "_law_named", "_law_error"]
def nm2 : List PySem.Str := ["_law_refused", "_law_full"]
def loose : List PySem.Str := nm0 ++ nm1 ++ nm2
abbrev R : PySem.W.OpenRow := PySem.W.OpenLaw.row PySem.Challenge.rw_slowshelves_k02_whole_layouts_numbered
abbrev qv : Program := PySem.W.view R.prog [0, 43]
def tf : List He.Defn := [("_law_refused", none), ("_law_full", none)]
def combB (v : Option (Option Value)) : Bool := match v with
  | some (some (.builtin id)) => id == "math.comb"
  | _ => false
theorem combB_ok {v : Option (Option Value)} (h : combB v = true) : v = some (some (.builtin "math.comb")) := by
  unfold combB at h
  split at h
  · rw [beq_iff_eq] at h
    rw [h]
  · cases h
def facts2 (K : PySem.W.Frag) : Bool := cfg.facts K && combB (PySem.W.nsIn K mainGlobals "comb")
abbrev hk : PySem.W.Hook := Shf.hookY 6 facts2 cfg.fn tf
def ob (s : PySem.W.SharedT) : Shf.AlY := Shf.obsY 6 facts2 cfg.fn tf (HandSHeadRun.getT s)
theorem ob_eq (s : PySem.W.SharedT) : ob s = hk.obs s.abs := Shf.obsY_eq (HandSHeadRun.getT_eq s)
theorem run (w : World) : HandSHeadRun.RunEqI R qv hk ob 12000 loose w := by
  unfold HandSHeadRun.RunEqI
  kernel_rfl
end K02

namespace K02
open PySem PySem.Spec PyProof.Rows L2 Shf
section
variable {P : Program} {w : World} {K : PySem.W.Frag} {mg : PySem.Str → Option Value} {base : Heap}
theorem sc_is_integer : FnScope ["value"] ["value"] (defScope s_is_integer) := ⟨rfl, rfl, rfl, by decide +kernel, rfl, by decide +kernel, by decide +kernel⟩
theorem fk_is_integer (c : SaysS cfg.facts cfg.fn K) (T : EnvOk cfg K mg) : Fk P w K mg base 2 "is_integer" ["value"] (spB K dInt1) := by
  obtain ⟨fd, hh⟩ := has_of c T 0 "is_integer" s_is_integer rfl
  refine Fk.of hh (hh.F.ok sc_is_integer (fun vs H Q E h => ?_) (fun cdv A outer s H vs Q E hr h => ?_)) (hh.F.bindsN fun _ _ _ _ _ _ us hl => match us, hl with | [_], _ => rfl)
  · obtain ⟨v, d, rfl, _⟩ := h
    rfl
  · obtain ⟨v, d, rfl, hd, hq⟩ := h
    have misinstance := T.free "isinstance" (by decide)
    have mint := T.free "int" (by decide)
    have mbool := T.free "bool" (by decide)
    
    refine ⟨_, pss_one (ps_ret (pe_and (pe_callB call_isi (by rfl) misinstance boot_isinstance (pa_cons (pv 0) (pa_cons (pe_bltn (v := .ty "int") (by rfl) mint PyProof.Rows.boot_int rfl) pa_nil)))
      (pe_one (pe_not (pe_callB call_isi (by rfl) misinstance boot_isinstance (pa_cons (pv 0) (pa_cons (pe_bltn (v := .ty "bool") (by rfl) mbool PyProof.Rows.boot_bool rfl) pa_nil))))))), ?_⟩
    refine t_ret (t_and (t_isi rfl (isi_int hd ⟨_, rfl, ?_⟩)))
    cases d with
    | int i => exact iteT (t_isi (i := 0) (c := .ty "bool") rfl (isi_bool hd ⟨_, rfl, hq⟩))
    | bool b => exact iteT (t_isi (i := 0) (c := .ty "bool") rfl (isi_bool hd ⟨_, rfl, hq⟩))
    | _ => exact iteF hq
theorem sc_is_within : FnScope ["value", "low", "high"] ["value", "low", "high"] (defScope s_is_within) := ⟨rfl, rfl, rfl, by decide +kernel, rfl, by decide +kernel, by decide +kernel⟩
theorem fk_is_within (c : SaysS cfg.facts cfg.fn K) (T : EnvOk cfg K mg) : Fk P w K mg base 3 "is_within" ["value", "low", "high"] (spWithin K) := by
  obtain ⟨fd, hh⟩ := has_of c T 1 "is_within" s_is_within rfl
  refine Fk.of hh (hh.F.ok sc_is_within (fun vs H Q E h => ?_) (fun cdv A outer s H vs Q E hr h => ?_)) (hh.F.bindsN fun _ _ _ _ _ _ us hl => match us, hl with | [_, _, _], _ => rfl)
  · obtain ⟨v, d, lo, hi, rfl, _⟩ := h
    rfl
  · obtain ⟨v, d, lo, hi, rfl, hd, hq⟩ := h
    refine ⟨_, pss_one (ps_ret (pe_and (pe_f (fk_is_integer c T) hr (by decide) (by rfl) passL (pa_cons (pv 0) pa_nil)) (pe_one (pe_chain op_le op_le (pv 1) (pv 0) (pv 2))))), ?_⟩
    refine ⟨_, rfl, v, d, rfl, hd, _, rfl, ?_⟩
    cases hd with
    | int i =>
      refine iteT ⟨_, rfl, _, rfl, _, _, rfl, rfl, _, rfl, ?_⟩
      have z : dIn lo hi (.int i) = (decide (lo ≤ i) && decide (i ≤ hi)) := rfl
      rw [z] at hq
      by_cases h1 : lo ≤ i
      · rw [decide_eq_true h1] at hq ⊢
        exact iteT ⟨_, rfl, _, _, rfl, rfl, hq⟩
      · rw [decide_eq_false h1] at hq ⊢
        exact iteF hq
    | _ => exact iteF hq
theorem sc_is_below : FnScope ["value", "limit"] ["value", "limit"] (defScope s_is_below) := ⟨rfl, rfl, rfl, by decide +kernel, rfl, by decide +kernel, by decide +kernel⟩
theorem fk_is_below (c : SaysS cfg.facts cfg.fn K) (T : EnvOk cfg K mg) : Fk P w K mg base 4 "is_below" ["value", "limit"] (spBelow K) := by
  obtain ⟨fd, hh⟩ := has_of c T 2 "is_below" s_is_below rfl
  refine Fk.of hh (hh.F.ok sc_is_below (fun vs H Q E h => ?_) (fun cdv A outer s H vs Q E hr h => ?_)) (hh.F.bindsN fun _ _ _ _ _ _ us hl => match us, hl with | [_, _], _ => rfl)
  · obtain ⟨v, d, hi, rfl, _⟩ := h
    rfl
  · obtain ⟨v, d, hi, rfl, hd, hq⟩ := h
    refine ⟨_, pss_one (ps_ret (pe_f (fk_is_within c T) hr (by decide) (by rfl) passL (pa_cons (pv 0) (pa_cons pe_int (pa_cons (pe_op op_sub (pv 1) pe_int) pa_nil))))), ?_⟩
    exact ⟨_, rfl, _, rfl, _, _, rfl, rfl, v, d, 0, hi - 1, rfl, hd, hq⟩
theorem sc_is_sequence : FnScope ["value"] ["value"] (defScope s_is_sequence) := ⟨rfl, rfl, rfl, by decide +kernel, rfl, by decide +kernel, by decide +kernel⟩
theorem fk_is_sequence (c : SaysS cfg.facts cfg.fn K) (T : EnvOk cfg K mg) : Fk P w K mg base 2 "is_sequence" ["value"] (spBS K dSeq) := by
  obtain ⟨fd, hh⟩ := has_of c T 3 "is_sequence" s_is_sequence rfl
  refine Fk.of hh (hh.F.ok sc_is_sequence (fun vs H Q E h => ?_) (fun cdv A outer s H vs Q E hr h => ?_)) (hh.F.bindsN fun _ _ _ _ _ _ us hl => match us, hl with | [_], _ => rfl)
  · obtain ⟨v, d, rfl, _⟩ := h
    rfl
  · obtain ⟨v, d, rfl, hd, hq⟩ := h
    have misinstance := T.free "isinstance" (by decide)
    have mlist := T.free "list" (by decide)
    have mtuple := T.free "tuple" (by decide)
    
    refine ⟨_, pss_one (ps_ret (pe_callB call_isiT (by rfl) misinstance boot_isinstance (pa_cons (pv 0) (pa_cons (pe_tup (pa_cons (pe_bltn (v := .ty "list") (by rfl) mlist (by decide +kernel) rfl) (pa_cons (pe_bltn (v := .ty "tuple") (by rfl) mtuple (by decide +kernel) rfl) pa_nil))) pa_nil)))), ?_⟩
    refine ⟨_, rfl, two_le, fun p hp => ?_⟩
    exact isi_seq (dp_same (same_new hp) _ _ hd) upd_same (hq _ (same_new hp))
theorem sc_need_size : FnScope ["value", "low", "high", "word"] ["value", "low", "high", "word"] (defScope s_need_size) := ⟨rfl, rfl, rfl, by decide +kernel, rfl, by decide +kernel, by decide +kernel⟩
theorem fk_need_size (c : SaysS cfg.facts cfg.fn K) (T : EnvOk cfg K mg) : Fk P w K mg base 4 "need_size" ["value", "low", "high", "word"] (spNeedSize K) := by
  obtain ⟨fd, hh⟩ := has_of c T 4 "need_size" s_need_size rfl
  refine Fk.of hh (hh.F.ok sc_need_size (fun vs H Q E h => ?_) (fun cdv A outer s H vs Q E hr h => ?_)) (hh.F.bindsN fun _ _ _ _ _ _ us hl => match us, hl with | [_, _, _, _], _ => rfl)
  · obtain ⟨v, d, lo, hi, wd, rfl, _⟩ := h
    rfl
  · obtain ⟨v, d, lo, hi, wd, rfl, hd, hq, he⟩ := h
    refine ⟨_, pss_cons (ps_if (pt_not (pt_val (pe_f (fk_is_within c T) hr (by decide) (by rfl) passL (pa_cons (pv 0) (pa_cons (pv 1) (pa_cons (pv 2) pa_nil)))))) (pss_one (ps_raise rfl (takes_of rfl rfl rfl rfl) (pmk_word (T.word "InvalidSize" (by decide)) (T.g "InvalidSize" (by decide)) hr (pa_cons (pv 3) pa_nil) (by rfl)))) pss_nil)
      (pss_one (ps_ret (pv 0))), ?_⟩
    refine ⟨_, rfl, _, rfl, _, rfl, v, d, lo, hi, rfl, hd, _, rfl, ?_⟩
    by_cases h : dIn lo hi d = true
    · rw [h]
      exact iteF ⟨_, rfl, hq h⟩
    · have h' : dIn lo hi d = false := Bool.eq_false_iff.mpr h
      rw [h']
      exact iteT ⟨_, rfl, _, rfl, fun D hD => he h' _ D (same_new hD) upd_same⟩
end
end K02

namespace K02
open PySem PySem.Spec PyProof.Rows L2 Shf
section
variable {P : Program} {w : World} {K : PySem.W.Frag} {mg : PySem.Str → Option Value} {base : Heap}
theorem sc_numbered : FnScope ["row", "numbers", "thing"] ["row"] (defScope s_numbered) := ⟨rfl, rfl, rfl, by decide +kernel, rfl, by decide +kernel, by decide +kernel⟩
theorem fk_numbered (c : SaysS cfg.facts cfg.fn K) (T : EnvOk cfg K mg) : Fk P w K mg base 2 "numbered" ["row"] (spNumbered K) := by
  obtain ⟨fd, hh⟩ := has_of c T 5 "numbered" s_numbered rfl
  refine Fk.of hh (hh.F.ok sc_numbered (fun vs H Q E h => ?_) (fun cdv A outer s H vs Q E hr h => ?_)) (hh.F.bindsN fun _ _ _ _ _ _ us hl => match us, hl with | [_], _ => rfl)
  · obtain ⟨a, w, rfl, _⟩ := h
    rfl
  · obtain ⟨a, w, rfl, hS, hw, hq⟩ := h
    have mlen := T.free "len" (by decide)
    have mtuple := T.free "tuple" (by decide)
    have hu := Nat.lt_of_le_of_lt (Nat.add_le_add_left (show 1 ≤ 64 by decide) _) hr.units
    refine ⟨_, (pss_cons (ps_set (i := 1) sc_numbered.nd rfl (.inr rfl) pe_dnewK)
          (pss_cons (ps_for (passes_of rfl) rfl (pi_sq (pv 0)) (pg_name (i := 2) sc_numbered.nd rfl (.inl rfl))
          (pss_one (ps_expr (pe_dsetd (pv 1) (pv 2) (pe_callB call_len_dK (by rfl) mlen PySem.boot_len (pa_cons (pv 1) pa_nil)) ⟨rfl, rfl, rfl, rfl⟩))))
          (pss_one (ps_ret (pe_tupleOf (by rfl) mtuple (pe_lc (g := gName 2) (te := (tDGet (tVar 1) (tVar 2))) (own := [("thing", 2)]) rfl sc_numbered.nd (pi_sq (pv 0)) (blkOk_by (N := ["row", "numbers", "thing"]) (sc := defScope s_numbered) (by decide +kernel)) (fun s H C cl fp => (pg_name (i := 2) sc_numbered.nd rfl (.inl rfl))) (fun s H C cl fp => pts_nil) (fun s H C cl fp => by exact (pe_dget hu (pv 1) (pv 2) (fun _ _ => rfl))))))))), ?_⟩
    have hlw : (nV w).length = w.length := List.length_map ..
    refine t_seq fun pN hpN => ?_
    have s1 : Same H (upd H pN (.dK [])) := same_new hpN
    have hN1 : (upd H pN (.dK [])) pN = some (.dK []) := upd_same
    generalize (upd H pN (.dK [])) = H1 at s1 hN1 ⊢
    try dsimp only
    refine t_seq (for_read ⟨_, rfl, for_old (H0 := H) hS (fun i σ H' => ∃ (ks : List (Key × V)) (z2 : Option V), σ = [some (.ref a), some (.ref pN), z2] ∧ Same H H' ∧ H' pN = some (.dK ks) ∧ NInv ks (dd [] (w.take i))) ⟨[], none, rfl, s1, hN1, ninv_nil⟩ (fun _ _ _ ⟨_, _, _, s, _⟩ => s) ?_ ?_⟩)
    · rintro i x σ H2 hx ⟨ks, z2, rfl, s2, hN2, inv⟩
      obtain ⟨b, rfl, hb⟩ := nV_of_at hx
      have ldd := dd_len (w.take i) []
      rw [List.length_take] at ldd
      have l1 := inv.1
      have hdd : dd [] (w.take (i + 1)) = if b ∈ dd [] (w.take i) then dd [] (w.take i) else dd [] (w.take i) ++ [b] := by
        rw [take_snoc hb, dd_snoc]
      unfold gName
      try dsimp only
      refine t_drop ⟨_, rfl, pN, rfl, .inl ⟨ks, .inl hN2⟩, _, rfl, _, rfl, pN, ks, rfl, hN2, ks, (Sum.inl (b : Int) : Key), hN2, rfl, (by rw [sizeLine_eq]; rw [List.length_nil] at ldd; omega), fun v hv => ?_, fun hv => ?_⟩
      · have y := inv.2 b
        by_cases c : b ∈ dd [] (w.take i)
        · rw [if_pos c] at hdd
          exact ⟨ks, _, rfl, s2, hN2, by rw [hdd]; exact inv⟩
        · rw [if_neg c, hv] at y
          cases y
      · have y := inv.2 b
        by_cases c : b ∈ dd [] (w.take i)
        · rw [if_pos c, hv] at y
          cases y
        · rw [if_neg c] at hdd
          exact ⟨_, _, rfl, Same.upd s2 hpN, upd_same, by rw [hdd]; exact ninv_put inv c⟩
    · rintro σ H2 ⟨ks, z2, rfl, s2, hN2, inv⟩
      rw [hlw, List.take_length] at inv
      try dsimp only
      refine t_ret (t_thn ?_)
      refine lc_sq (a := a) (xs := nV w) (Sq.same s2 hS) (fun j acc G => Same H2 G ∧ acc = nV ((w.take j).map (ix (dd [] w)))) ⟨Same.rfl', rfl⟩ (fun _ _ _ r => r.1) ?_ ?_ _ (fun R hR => ⟨_, rfl, hR⟩)
      · rintro j y acc G D hy hG ⟨g1, rfl⟩
        obtain ⟨b, rfl, hb⟩ := nV_of_at hy
        have hj : j < w.length := (List.getElem?_eq_some_iff.mp hb).1
        have hm : b ∈ dd [] w := (dd_mem w [] b).mpr (.inr (List.mem_of_getElem? hb))
        have hg := DGet.k (k := (Sum.inl (b : Int) : Key)) ((g1.tr (same_upd (o := .lst (nV ((w.take j).map (ix (dd [] w))))) hG)) _ _ hN2)
        rw [inv.2 b, if_pos hm] at hg
        refine ⟨rfl, t_yes (iteT ⟨_, rfl, _, rfl, pN, _, rfl, hg, lc_put hG ?_ ⟨g1, ?_⟩⟩)⟩
        · rw [show (nV ((w.take j).map (ix (dd [] w)))).length = _ from List.length_map .., List.length_map, List.length_take, sizeLine_eq]
          omega
        · rw [take_snoc hb, List.map_append, List.map_singleton, nV_snoc]
      · rintro D acc G hG ⟨g1, rfl⟩
        rw [hlw, List.take_length]
        refine kTup_sq (.inl (SqL.of upd_same)) fun p H3 s3 hp => ?_
        exact hq (.ref p) H3 (s2.tr (g1.tr ((same_upd hG).tr s3))) (.tup hp (dAll_nat _))
theorem sc_need_room : FnScope ["value"] ["value"] (defScope s_need_room) := ⟨rfl, rfl, rfl, by decide +kernel, rfl, by decide +kernel, by decide +kernel⟩
theorem fk_need_room (c : SaysS cfg.facts cfg.fn K) (T : EnvOk cfg K mg) : Fk P w K mg base 4 "need_room" ["value"] (spNeedRoom K) := by
  obtain ⟨fd, hh⟩ := has_of c T 6 "need_room" s_need_room rfl
  refine Fk.of hh (hh.F.ok sc_need_room (fun vs H Q E h => ?_) (fun cdv A outer s H vs Q E hr h => ?_)) (hh.F.bindsN fun _ _ _ _ _ _ us hl => match us, hl with | [_], _ => rfl)
  · obtain ⟨v, d, rfl, _⟩ := h
    rfl
  · obtain ⟨v, d, rfl, hv, h1, h2⟩ := h
    obtain ⟨tMOST_ROOM, iMOST_ROOM⟩ := T.int ("MOST_ROOM", 8) (by decide)
    refine ⟨_, (pss_cons (ps_if (pt_not (pt_val (pe_f (fk_is_within c T) hr (by decide) (by rfl) passL (pa_cons (pv 0) (pa_cons pe_int (pa_cons (pe_glob (v := .int 8) (by rfl) iMOST_ROOM ⟨tMOST_ROOM, rfl⟩) pa_nil)))))) (pss_one (ps_raise rfl (takes_of rfl rfl rfl rfl) (pmk_at (T.at_ "InvalidRoom" (by decide)) (T.g "InvalidRoom" (by decide)) hr (pa_cons (pe_un un_neg pe_int) pa_nil) (by rfl)))) pss_nil)
          (pss_one (ps_ret (pv 0)))), ?_⟩
    refine t_seq (t_ifs ?_)
    refine ⟨_, rfl, v, d, 1, 8, rfl, hv, ⟨_, rfl, ?_⟩⟩
    by_cases h0 : dIn 1 8 d = true
    · rw [h0]
      exact iteF (t_next ⟨_, rfl, h1 h0⟩)
    · have h0' : dIn 1 8 d = false := Bool.eq_false_iff.mpr h0
      rw [h0']
      exact iteT ⟨_, rfl, _, rfl, fun D hD => wAt_new hD (h2 h0')⟩
theorem sc__roomy_layout : FnScope ["row", "room", "held", "at", "block"] ["row", "room"] (defScope s__roomy_layout) := ⟨rfl, rfl, rfl, by decide +kernel, rfl, by decide +kernel, by decide +kernel⟩
theorem fk__roomy_layout (c : SaysS cfg.facts cfg.fn K) (T : EnvOk cfg K mg) : Fk P w K mg base 5 "_roomy_layout" ["row", "room"] (spRoomy K) := by
  obtain ⟨fd, hh⟩ := has_of c T 9 "_roomy_layout" s__roomy_layout rfl
  refine Fk.of hh (hh.F.ok sc__roomy_layout (fun vs H Q E h => ?_) (fun cdv A outer s H vs Q E hr h => ?_)) (hh.F.bindsN fun _ _ _ _ _ _ us hl => match us, hl with | [_, _], _ => rfl)
  · obtain ⟨v, d, r, rfl, _⟩ := h
    rfl
  · obtain ⟨v, d, r, rfl, hv, hs, hl, h⟩ := h
    have menumerate := T.free "enumerate" (by decide)
    obtain ⟨tMOST_CELLS, iMOST_CELLS⟩ := T.int ("MOST_CELLS", 200) (by decide)
    have hu := Nat.lt_of_le_of_lt (Nat.add_le_add_left (show 1 ≤ 64 by decide) _) hr.units
    refine ⟨_, (pss_cons (ps_set (i := 2) sc__roomy_layout.nd rfl (.inl rfl) pe_dnewK)
          (pss_cons (ps_for (passes_of rfl) rfl (pi_enumSq (by rfl) menumerate (pa_cons (pv 0) pa_nil)) (pg_tup rfl (pgs_cons (pg_name (i := 3) sc__roomy_layout.nd rfl (.inl rfl)) (pgs_cons (pg_name (i := 4) sc__roomy_layout.nd rfl (.inl rfl)) pgs_nil)))
          (pss_cons (ps_if (pt_not (pt_val (pe_f (fk_is_below c T) hr (by decide) (by rfl) passL (pa_cons (pv 4) (pa_cons (pe_glob (v := .int 200) (by rfl) iMOST_CELLS ⟨tMOST_CELLS, rfl⟩) pa_nil))))) (pss_one (ps_raise rfl (takes_of rfl rfl rfl rfl) (pmk_at (T.at_ "InvalidLayout" (by decide)) (T.g "InvalidLayout" (by decide)) hr (pa_cons (pv 3) pa_nil) (by rfl)))) pss_nil)
          (pss_cons (ps_dput hu (pv 2) (pv 4) (pe_op op_add (pe_dget2 hu (pv 2) (pv 4) pe_int ⟨rfl, rfl, rfl, rfl⟩) pe_int) rfl)
          (pss_one (ps_if (pt_cmpR op_gt (pe_dget hu (pv 2) (pv 4) (fun _ _ => rfl)) (pv 1) (nomark _)) (pss_one (ps_raise rfl (takes_of rfl rfl rfl rfl) (pmk_at (T.at_ "InvalidLayout" (by decide)) (T.g "InvalidLayout" (by decide)) hr (pa_cons (pv 3) pa_nil) (by rfl)))) pss_nil)))))
          (pss_one (ps_ret (pe_f (fk_numbered c T) hr (by decide) (by rfl) passL (pa_cons (pv 0) pa_nil)))))), ?_⟩
    obtain ⟨b, ys, rfl, hS, hA⟩ := dp_seq hv hs
    have hly : ys.length = (dItems d).length := hA.len
    obtain ⟨w, zs, ed, hlt, hheld, hend⟩ : ∃ (w : List Nat) (zs : List PyData), dItems d = nI w ++ zs ∧ (∀ x ∈ w, x < 200) ∧ Held r w ∧ ((zs = [] ∧ ∀ q H', Same H H' → Dp K H' q (.tuple (nI (plainL w))) → Q q H') ∨ ∃ (z : PyData) (rest : List PyData), zs = z :: rest ∧ (dIn 0 199 z = false ∨ ∃ b : Nat, z = .int (b : Int) ∧ b < 200 ∧ r ≤ w.count b) ∧ wAt K "InvalidLayout" (.int (w.length : Int)) H E) := by
      rcases h with ⟨x, hb, he⟩ | ⟨w, ok, hq⟩
      · cases hb with
        | off w z rest e1 e2 e3 e4 => exact ⟨w, z :: rest, e1, e2, e3, .inr ⟨z, rest, rfl, e4, he⟩⟩
      · exact ⟨w, [], by rw [List.append_nil]; exact ok.it, ok.lt, ok.held, .inl ⟨rfl, hq⟩⟩
    have el : (nI w).length = w.length := List.length_map ..
    have ld : (dItems d).length = w.length + zs.length := by rw [ed, List.length_append, el]
    refine t_seq fun pN hpN => ?_
    have s1 : Same H (upd H pN (.dK [])) := same_new hpN
    have hN1 : (upd H pN (.dK [])) pN = some (.dK []) := upd_same
    generalize (upd H pN (.dK [])) = H1 at s1 hN1 ⊢
    try dsimp only
    refine t_seq (for_readE ⟨_, rfl, for_enumOld (H0 := H) hS (fun i σ H' => i ≤ w.length ∧ ∃ (ks : List (Key × V)) (z3 z4 : Option V), σ = [some (.ref b), some (.int (r : Int)), some (.ref pN), z3, z4] ∧ Same H H' ∧ H' pN = some (.dK ks) ∧ HInv ks (w.take i)) ⟨Nat.zero_le _, [], none, none, rfl, s1, hN1, Nat.le_refl _, fun x => rfl⟩ (fun _ _ _ ⟨_, _, _, _, _, s, _⟩ => s) ?_ ?_⟩)
    · rintro i x σ H2 t hx ⟨hiw, ks, z3, z4, rfl, s2, hN2, inv⟩ ht
      have s23 : Same H2 (upd H2 t (.tup [V.int (i : Nat), x])) := same_new ht
      have ht3 : (upd H2 t (.tup [V.int (i : Nat), x])) t = some (.tup [V.int (i : Nat), x]) := upd_same
      have hN3 := s23 _ _ hN2
      have s3 := s2.tr s23
      generalize (upd H2 t (.tup [V.int (i : Nat), x])) = H3 at ht3 hN3 s3 ⊢
      refine ⟨t, _, rfl, .inl (.inl ht3), rfl, _, _, rfl, _, _, rfl, rfl, ?_⟩
      obtain ⟨dz, hdz, hpz⟩ := hA.at hx
      rw [ed] at hdz
      have lks := inv.1
      rw [List.length_take] at lks
      have both : (dIn 0 199 dz = false ∧ wAt K "InvalidLayout" (.int (i : Int)) H E) ∨ ∃ b : Nat, dz = .int (b : Int) ∧ b < 200 ∧ ((w[i]? = some b ∧ (w.take i).count b + 1 ≤ r) ∨ (r ≤ (w.take i).count b ∧ wAt K "InvalidLayout" (.int (i : Int)) H E)) := by
        by_cases hi : i < w.length
        · obtain ⟨q, hq1⟩ : ∃ q, w[i]? = some q := ⟨_, List.getElem?_eq_getElem hi⟩
          have q2 := hlt q (List.mem_of_getElem? hq1)
          rw [nI_at hq1] at hdz
          cases hdz
          have hc := hheld i q hq1
          rw [take_snoc hq1, List.count_append, List.count_singleton_self] at hc
          exact .inr ⟨q, rfl, q2, .inl ⟨hq1, hc⟩⟩
        · obtain rfl : i = w.length := by omega
          rw [List.getElem?_append_right (by rw [el]; exact Nat.le_refl _), el, Nat.sub_self] at hdz
          rcases hend with ⟨rfl, _⟩ | ⟨z, rest, rfl, hz, he⟩
          · cases hdz
          · cases hdz
            rw [List.take_length]
            rcases hz with hz | ⟨b, rfl, hb, hr⟩
            · exact .inl ⟨hz, he⟩
            · exact .inr ⟨b, rfl, hb, .inr ⟨hr, he⟩⟩
      have hpz3 := dp_same s3 _ _ hpz
      refine t_seq (t_ifs ⟨_, rfl, x, dz, 200, rfl, hpz3, _, rfl, ?_⟩)
      rcases both with ⟨hno, he⟩ | ⟨q, rfl, hq2, hq3⟩
      · rw [show dIn 0 (200 - 1) dz = false from hno]
        exact iteT ⟨_, rfl, _, rfl, fun D hD => wAt_new hD (wAt_same s3 he)⟩
      · rw [show dIn 0 (200 - 1) (.int (q : Int)) = true by
          show (decide ((0 : Int) ≤ (q : Int)) && decide ((q : Int) ≤ 200 - 1)) = true
          rw [Bool.and_eq_true, decide_eq_true_eq, decide_eq_true_eq]
          omega]
        refine iteF (t_next ?_)
        obtain rfl : x = .int (q : Int) := by
          cases hpz
          rfl
        have hg := inv.2 q
        have hgd : (valV ks (Sum.inl (q : Int) : Key)).getD (V.int 0) = V.int (((w.take i).count q : Nat) : Int) := by
          rw [hg]
          by_cases c : q ∈ w.take i
          · rw [if_pos c]
            rfl
          · rw [if_neg c, List.count_eq_zero_of_not_mem c]
            rfl
        have lsz : ks.length < sizeLine := by
          rw [sizeLine_eq]
          omega
        have hput : ∀ y, V.int ((((w.take i).count q : Nat) : Int) + 1) = y → y = V.int (((w.take i).count q + 1 : Nat) : Int) := fun y e => e ▸ rfl
        have s4 : Same H (upd H3 pN (.dK (putK ks (Sum.inl (q : Int) : Key) (V.int ((((w.take i).count q : Nat) : Int) + 1))))) := Same.upd s3 hpN
        have hN4 : (upd H3 pN (.dK (putK ks (Sum.inl (q : Int) : Key) (V.int ((((w.take i).count q : Nat) : Int) + 1))))) pN = some (.dK (putK ks (Sum.inl (q : Int) : Key) (V.int ((((w.take i).count q : Nat) : Int) + 1)))) := upd_same
        have hG4 := DGet.k (k := (Sum.inl (q : Int) : Key)) hN4
        rw [valV_put, if_pos rfl] at hG4
        refine t_seq ⟨_, rfl, pN, rfl, .inl ⟨ks, .inl hN3⟩, _, rfl, _, DGet.k (k := (Sum.inl (q : Int) : Key)) hN3, _, _, hgd, rfl, _, rfl, _, rfl, pN, _, rfl, DPut.k (k := (Sum.inl (q : Int) : Key)) hN3 lsz, ?_⟩
        generalize (upd H3 pN (.dK (putK ks (Sum.inl (q : Int) : Key) (V.int ((((w.take i).count q : Nat) : Int) + 1))))) = H4 at s4 hN4 hG4 ⊢
        try dsimp only
        refine t_ifs ⟨_, rfl, _, rfl, pN, _, rfl, hG4, _, rfl, _, _, rfl, rfl, _, rfl, ?_⟩
        rcases hq3 with ⟨hw, hc⟩ | ⟨hc, he⟩
        · rw [decide_eq_false (by omega)]
          refine iteF (t_next ⟨(List.getElem?_eq_some_iff.mp hw).1, _, _, _, rfl, s4, hN4, ?_⟩)
          rw [take_snoc hw]
          exact hinv_put inv
        · rw [decide_eq_true (by omega)]
          exact iteT ⟨_, rfl, _, rfl, fun D hD => wAt_new hD (wAt_same s4 he)⟩
    · rintro σ H2 ⟨hle, ks, z3, z4, rfl, s2, hN2, inv⟩
      rcases hend with ⟨rfl, hq⟩ | ⟨z, rest, rfl, _, _⟩
      · rw [ed, List.append_nil] at hA
        obtain rfl := dAll_nat_vs hA
        try dsimp only
        exact t_ret ⟨_, rfl, _, w, rfl, Sq.same s2 hS, by rw [ld] at hl; exact Nat.le_trans (Nat.le_add_right _ _) hl, fun q H' s3 hp => hq q H' (s2.tr s3) hp⟩
      · rw [hly, ld, List.length_cons] at hle
        omega
theorem sc_plain_layout : FnScope ["value"] ["value"] (defScope s_plain_layout) := ⟨rfl, rfl, rfl, by decide +kernel, rfl, by decide +kernel, by decide +kernel⟩
theorem fk_plain_layout (c : SaysS cfg.facts cfg.fn K) (T : EnvOk cfg K mg) : Fk P w K mg base 6 "plain_layout" ["value"] (spPlainL K) := by
  obtain ⟨fd, hh⟩ := has_of c T 7 "plain_layout" s_plain_layout rfl
  refine Fk.of hh (hh.F.ok sc_plain_layout (fun vs H Q E h => ?_) (fun cdv A outer s H vs Q E hr h => ?_)) (hh.F.bindsN fun _ _ _ _ _ _ us hl => match us, hl with | [_], _ => rfl)
  · obtain ⟨v, d, rfl, _⟩ := h
    rfl
  · obtain ⟨v, d, rfl, hv, hd, h⟩ := h
    have mlen := T.free "len" (by decide)
    obtain ⟨tMOST_CELLS, iMOST_CELLS⟩ := T.int ("MOST_CELLS", 200) (by decide)
    have hu := Nat.lt_of_le_of_lt (Nat.add_le_add_left (show 1 ≤ 64 by decide) _) hr.units
    refine ⟨_, (pss_cons (ps_if (pw_or (pt_not (pt_val (pe_f (fk_is_sequence c T) hr (by decide) (by rfl) passL (pa_cons (pv 0) pa_nil)))) (pw_or1 (pt_not (pt_chain op_le op_le pe_int (pe_callB call_len_seq (by rfl) mlen PySem.boot_len (pa_cons (pv 0) pa_nil)) (pe_glob (v := .int 200) (by rfl) iMOST_CELLS ⟨tMOST_CELLS, rfl⟩))))).pt (pss_one (ps_raise rfl (takes_of rfl rfl rfl rfl) (pmk_at (T.at_ "InvalidLayout" (by decide)) (T.g "InvalidLayout" (by decide)) hr (pa_cons (pe_un un_neg pe_int) pa_nil) (by rfl)))) pss_nil)
          (pss_one (ps_ret (pe_f (fk__roomy_layout c T) hr (by decide) (by rfl) (passes_call (takes_of rfl rfl rfl rfl) (fun _ _ _ _ h => h)) (pa_cons (pv 0) (pa_cons (pe_callB call_len_seq (by rfl) mlen PySem.boot_len (pa_cons (pv 0) pa_nil)) pa_nil)))))), ?_⟩
    have hd2 := hd
    unfold dRowOf at hd2
    rw [Bool.and_eq_true, Bool.and_eq_true, decide_eq_true_eq, decide_eq_true_eq] at hd2
    obtain ⟨hs, h1, h2⟩ := hd2
    obtain ⟨a, xs, rfl, hS, hA⟩ := dp_seq hv hs
    have hl : xs.length = (dItems d).length := hA.len
    refine t_seq (t_ifs ⟨_, rfl, _, d, rfl, hv, fun H1 s1 => ⟨_, rfl, ?_⟩⟩)
    rw [hs]
    refine iteF ⟨_, rfl, a, xs, rfl, Sq.same s1 hS, _, _, rfl, rfl, _, rfl, ?_⟩
    rw [decide_eq_true (by omega)]
    refine iteT ⟨_, _, rfl, rfl, _, rfl, ?_⟩
    rw [decide_eq_true (by omega)]
    refine iteF (t_next ?_)
    try dsimp only
    refine t_ret ⟨_, rfl, _, rfl, a, xs, rfl, Sq.same s1 hS, _, d, (dItems d).length, by rw [hl]; rfl, dp_same s1 _ _ hv, hs, Nat.le_trans h2 (by decide), ?_⟩
    rcases h with ⟨x, hb, he⟩ | ⟨w, ok, hq⟩
    · exact .inl ⟨x, hb, wAt_same s1 he⟩
    · exact .inr ⟨w, ok, fun q H' s => hq q H' (s1.tr s)⟩
theorem sc__layout_of : FnScope ["cells", "room", "value"] ["cells", "room", "value"] (defScope s__layout_of) := ⟨rfl, rfl, rfl, by decide +kernel, rfl, by decide +kernel, by decide +kernel⟩
theorem fk__layout_of (c : SaysS cfg.facts cfg.fn K) (T : EnvOk cfg K mg) : Fk P w K mg base 6 "_layout_of" ["cells", "room", "value"] (spLayoutOf K) := by
  obtain ⟨fd, hh⟩ := has_of c T 8 "_layout_of" s__layout_of rfl
  refine Fk.of hh (hh.F.ok sc__layout_of (fun vs H Q E h => ?_) (fun cdv A outer s H vs Q E hr h => ?_)) (hh.F.bindsN fun _ _ _ _ _ _ us hl => match us, hl with | [_, _, _], _ => rfl)
  · obtain ⟨v, d, n, r, rfl, _⟩ := h
    rfl
  · obtain ⟨v, d, n, r, rfl, hv, hn, h⟩ := h
    have mlen := T.free "len" (by decide)
    have hu := Nat.lt_of_le_of_lt (Nat.add_le_add_left (show 1 ≤ 64 by decide) _) hr.units
    refine ⟨_, (pss_cons (ps_if (pw_or (pt_not (pt_val (pe_f (fk_is_sequence c T) hr (by decide) (by rfl) passL (pa_cons (pv 2) pa_nil)))) (pw_or1 (pt_cmpR op_ne (pe_callB call_len_seq (by rfl) mlen PySem.boot_len (pa_cons (pv 2) pa_nil)) (pv 0) (nomark _)))).pt (pss_one (ps_raise rfl (takes_of rfl rfl rfl rfl) (pmk_at (T.at_ "InvalidLayout" (by decide)) (T.g "InvalidLayout" (by decide)) hr (pa_cons (pe_un un_neg pe_int) pa_nil) (by rfl)))) pss_nil)
          (pss_one (ps_ret (pe_f (fk__roomy_layout c T) hr (by decide) (by rfl) (passes_call (takes_of rfl rfl rfl rfl) (fun _ _ _ _ h => h)) (pa_cons (pv 2) (pa_cons (pv 1) pa_nil)))))), ?_⟩
    refine t_seq (t_ifs ⟨_, rfl, _, d, rfl, hv, fun H1 s1 => ⟨_, rfl, ?_⟩⟩)
    have out : ∀ z, z = V.int (-1) → wAt K "InvalidLayout" (.int (-1)) H E → wAt K "InvalidLayout" z H1 E := fun z e he => e ▸ wAt_same s1 he
    by_cases hs : dSeq d = true
    · obtain ⟨a, xs, rfl, hS, hA⟩ := dp_seq hv hs
      have hl : xs.length = (dItems d).length := hA.len
      rw [hs, Bool.true_and] at h
      rw [hs]
      refine iteF ⟨_, rfl, a, xs, rfl, Sq.same s1 hS, _, rfl, rfl, _, rfl, ?_⟩
      rw [dec_int, hl]
      rcases h with ⟨hne, he⟩ | ⟨he, h⟩
      · rw [show (((dItems d).length : Int) == (n : Int)) = false by
          rw [decide_eq_false_iff_not] at hne
          rw [beq_eq_false_iff_ne]
          omega]
        exact iteT ⟨_, rfl, _, rfl, fun D hD => wAt_new hD (out _ rfl he)⟩
      · rw [decide_eq_true_eq] at he
        rw [show (((dItems d).length : Int) == (n : Int)) = true by
          rw [beq_iff_eq]
          omega]
        refine iteF (t_next ?_)
        try dsimp only
        refine t_ret ⟨_, rfl, _, rfl, _, d, r, rfl, dp_same s1 _ _ hv, hs, by omega, ?_⟩
        rcases h with ⟨x, hb, he⟩ | ⟨w, ok, hq⟩
        · exact .inl ⟨x, hb, wAt_same s1 he⟩
        · exact .inr ⟨w, ok, fun q H' s => hq q H' (s1.tr s)⟩
    · have hs' : dSeq d = false := Bool.eq_false_iff.mpr hs
      rw [hs', Bool.false_and] at h
      rw [hs']
      rcases h with ⟨_, he⟩ | ⟨he, _⟩
      · refine iteT ?_
        exact iteT ⟨_, rfl, _, rfl, fun D hD => wAt_new hD (out _ rfl he)⟩
      · cases he
end
end K02

namespace K02
open PySem PySem.Spec PyProof.Rows L2 Shf
section
variable {P : Program} {w : World} {K : PySem.W.Frag} {mg : PySem.Str → Option Value} {base : Heap}
theorem sc__layout_counts : FnScope ["cells", "room", "counts", "many", "size"] ["cells", "room"] (defScope s__layout_counts) := ⟨rfl, rfl, rfl, by decide +kernel, rfl, by decide +kernel, by decide +kernel⟩
theorem fk__layout_counts (c : SaysS cfg.facts cfg.fn K) (T : EnvOk cfg K mg) (hcomb : mg "comb" = some (.builtin "math.comb")) : Fk P w K mg base 3 "_layout_counts" ["cells", "room"] (spLCs K) := by
  obtain ⟨fd, hh⟩ := has_of c T 11 "_layout_counts" s__layout_counts rfl
  refine Fk.of hh (hh.F.ok sc__layout_counts (fun vs H Q E h => ?_) (fun cdv A outer s H vs Q E hr h => ?_)) (hh.F.bindsN fun _ _ _ _ _ _ us hl => match us, hl with | [_, _], _ => rfl)
  · obtain ⟨n, r, rfl, _⟩ := h
    rfl
  · obtain ⟨n, r, rfl, hn, h1, h2, hq⟩ := h
    have mrange := T.free "range" (by decide)
    have msum := T.free "sum" (by decide)
    have mmin := T.free "min" (by decide)
    refine ⟨_, (pss_cons (ps_set (i := 2) sc__layout_counts.nd rfl (.inr rfl) (pe_lst (pa_cons pe_int pa_nil)))
          (pss_cons (ps_for (passes_of rfl) rfl (pi_range2 (by rfl) mrange (pa_cons pe_int (pa_cons (pe_op op_add (pv 0) pe_int) pa_nil))) (pg_name (i := 3) sc__layout_counts.nd rfl (.inr rfl))
          (pss_one (ps_expr (pe_bm PySem.F.plainAttrs_list PySem.F.slot_list_append PySem.F.type_list_append mt_append (pv 2) (pa_cons (pe_callB (cr_sum rfl) (by rfl) msum (by decide +kernel) (pa_cons (pe_lc (g := gName 4) (te := (tOp (rI IntMulOk fun i j => V.int (i * j)) (tCB rComb (tCons (tOp (rI0 fun i j => V.int (i - j)) (tVar 3) (tC (V.int 1))) (tCons (tOp (rI0 fun i j => V.int (i - j)) (tVar 4) (tC (V.int 1))) tNil))) (tOp (rIx K) (tVar 2) (tOp (rI0 fun i j => V.int (i - j)) (tVar 3) (tVar 4))))) (own := [("size", 4)]) rfl sc__layout_counts.nd (pi_range2 (by rfl) mrange (pa_cons pe_int (pa_cons (pe_op op_add (pe_callB (call_min2 rfl) (by rfl) mmin (by decide +kernel) (pa_cons (pv 3) (pa_cons (pv 1) pa_nil))) pe_int) pa_nil))) (blkOk_by (N := ["cells", "room", "counts", "many", "size"]) (sc := defScope s__layout_counts) (by decide +kernel)) (fun s H C cl fp => (pg_name (i := 4) sc__layout_counts.nd rfl (.inl rfl))) (fun s H C cl fp => pts_nil) (fun s H C cl fp => by exact (pe_op op_mulG (pe_callBG cr_comb (by rfl) hcomb (pa_cons (pe_op op_sub (pv 3) pe_int) (pa_cons (pe_op op_sub (pv 4) pe_int) pa_nil))) (pe_ix ix_seq (pv 2) (pe_op op_sub (pv 3) (pv 4)) (fun _ _ => rfl))))) pa_nil)) pa_nil)))))
          (pss_one (ps_ret (pv 2))))), ?_⟩
    refine t_seq ⟨one_le, fun p0 hp0 => ?_⟩
    try dsimp only [gName]
    refine t_seq ⟨_, rfl, _, _, rfl, rfl, _, _, rfl, ⟨by omega, by omega, by omega, by omega⟩, ?_⟩
    rw [show ((n : Int) + 1 - 1).toNat = n by omega]
    refine for_range (lo := 1) (n := n) (fun i σ H' => ∃ (z3 : Option V) (G : Hp), σ = [some (.int (n : Int)), some (.int (r : Int)), some (.ref p0), z3, none] ∧ G p0 = none ∧ Same H G ∧ H' = upd G p0 (.lst (nV ((List.range (i + 1)).map (lc r))))) ⟨none, H, rfl, hp0, Same.rfl', rfl⟩ ?_ ?_
    · rintro i σ H' hi ⟨z3, G, rfl, gp, sG, rfl⟩
      have hS : SqL K (upd G p0 (.lst (nV ((List.range (i + 1)).map (lc r))))) p0 (nV ((List.range (i + 1)).map (lc r))) := SqL.of upd_same
      have ll : (nV ((List.range (i + 1)).map (lc r))).length = i + 1 := by
        rw [show (nV ((List.range (i + 1)).map (lc r))).length = _ from List.length_map .., List.length_map, List.length_range]
      refine ⟨_, rfl, .inl ⟨rfl, _, hS⟩, _, rfl, _, rfl, _, _, rfl, _, _, rfl, rfl, _, _, rfl, ⟨?_, ?_, ?_, ?_⟩, fun D hD => ?_⟩
      · omega
      · omega
      · split <;> omega
      · split <;> omega
      rw [show ((if (r : Int) < 1 + (i : Int) then (r : Int) else 1 + (i : Int)) + 1 - 1).toNat = min (i + 1) r by split <;> omega]
      refine lc_rg (lo := 1) (n := min (i + 1) r) (fun k acc G2 => Same (upd G p0 (.lst (nV ((List.range (i + 1)).map (lc r))))) G2 ∧ acc = nV ((List.range k).map fun k => ch i k * lc r (i - k))) hD ⟨Same.rfl', rfl⟩ ?_ ?_
      · rintro k acc G2 hk hG ⟨g1, rfl⟩
        have hS2 := (g1.tr (same_upd (o := .lst (nV ((List.range k).map fun k => ch i k * lc r (i - k)))) hG)).seq hS
        have hat : (nV ((List.range (i + 1)).map (lc r)))[i - k]? = some (V.int ((lc r (i - k) : Nat) : Int)) := by
          refine nV_at ?_
          rw [List.getElem?_map, List.getElem?_range (by omega)]
          rfl
        have e1 : (1 : Int) + (i : Int) - (1 + (k : Nat)) = ((i - k : Nat) : Int) := by omega
        refine ⟨rfl, t_yes (iteT ⟨_, rfl, _, _, rfl, rfl, _, rfl, _, _, rfl, rfl, i, k, ?_, by omega, by omega, _, rfl, _, rfl, _, rfl, _, _, rfl, rfl, ?_⟩)⟩
        · dsimp only
          rw [show (1 : Int) + (i : Int) - 1 = (i : Int) by omega, show (1 : Int) + (k : Nat) - 1 = (k : Int) by omega]
        · dsimp only
          rw [e1]
          refine ix_sq (j := i - k) (.inl hS2) hat ⟨_, _, rfl, rfl, mulG (ch_le i k) (lc_le r 30 (i - k) (by omega)) (by have : (i - k) * 30 ≤ 30 * 30 := Nat.mul_le_mul_right _ (by omega); omega), lc_put hG ?_ ⟨g1, ?_⟩⟩
          · rw [show (nV ((List.range k).map fun k => ch i k * lc r (i - k))).length = _ from List.length_map .., List.length_map, List.length_range, sizeLine_eq]
            omega
          · rw [List.range_succ, List.map_append, List.map_singleton, nV_snoc]
            rfl
      · rintro acc G2 hG ⟨g1, rfl⟩
        have sE := g1.tr (same_upd (o := .lst (nV ((List.range (min (i + 1) r)).map fun k => ch i k * lc r (i - k)))) hG)
        refine ⟨D, ((List.range (min (i + 1) r)).map fun k => ch i k * lc r (i - k)).map fun x : Nat => (x : Int), rfl, SqL.of (by rw [upd_same, List.map_map]; rfl), ?_⟩
        rw [sum_nat, lc_sum r i h1]
        refine ⟨p0, _, _, rfl, rfl, sE _ _ upd_same, by rw [ll, sizeLine_eq]; omega, ?_⟩
        obtain ⟨G4, g4, sg4, e4⟩ := core_of sE gp
        refine ⟨_, G4, rfl, g4, sG.tr sg4, ?_⟩
        rw [e4, upd_upd, List.range_succ (n := i + 1), List.map_append, List.map_singleton, nV_snoc]
    · rintro σ H' ⟨z3, G, rfl, gp, sG, rfl⟩
      exact ⟨_, rfl, hq p0 _ (sG.tr (same_upd gp)) (SqL.of upd_same)⟩
theorem sc_layout_count : FnScope ["cells", "room"] ["cells", "room"] (defScope s_layout_count) := ⟨rfl, rfl, rfl, by decide +kernel, rfl, by decide +kernel, by decide +kernel⟩
theorem fk_layout_count (c : SaysS cfg.facts cfg.fn K) (T : EnvOk cfg K mg) (hcomb : mg "comb" = some (.builtin "math.comb")) : Fk P w K mg base 5 "layout_count" ["cells", "room"] (spLCount K) := by
  obtain ⟨fd, hh⟩ := has_of c T 10 "layout_count" s_layout_count rfl
  refine Fk.of hh (hh.F.ok sc_layout_count (fun vs H Q E h => ?_) (fun cdv A outer s H vs Q E hr h => ?_)) (hh.F.bindsN fun _ _ _ _ _ _ us hl => match us, hl with | [_, _], _ => rfl)
  · obtain ⟨u, v, d, e, rfl, _⟩ := h
    rfl
  · obtain ⟨u, v, d, e, rfl, hu1, hv, h⟩ := h
    obtain ⟨tMOST_COUNTED, iMOST_COUNTED⟩ := T.int ("MOST_COUNTED", 30) (by decide)
    refine ⟨_, (pss_cons (ps_expr (pe_f (fk_need_size c T) hr (by decide) (by rfl) (passes_call (takes_of rfl rfl rfl rfl) (fun _ _ _ _ h => h)) (pa_cons (pv 0) (pa_cons pe_int (pa_cons (pe_glob (v := .int 30) (by rfl) iMOST_COUNTED ⟨tMOST_COUNTED, rfl⟩) (pa_cons pe_str pa_nil))))))
          (pss_one (ps_ret (pe_ix ix_seq (pe_f (fk__layout_counts c T hcomb) hr (by decide) (by rfl) passL (pa_cons (pv 0) (pa_cons (pe_f (fk_need_room c T) hr (by decide) (by rfl) (passes_call (takes_of rfl rfl rfl rfl) (fun _ _ _ _ h => h)) (pa_cons (pv 1) pa_nil)) pa_nil))) (pv 0) (fun _ _ => rfl))))), ?_⟩
    have rest : dIn 1 30 d = true → tRet (tOp (rIx K) (tCall (spLCs K) [] E0 (tCons (tVar 0) (tCons (tCall (spNeedRoom K) [] E (tCons (tVar 1) tNil)) tNil))) (tVar 0)) { nx := fun x H' => Q V.non H', rt := Q } (L2.start ["cells", "room"] [u, v]) H := fun hd => by
      rcases h with ⟨h0, _⟩ | ⟨_, h2, he⟩ | ⟨n, r, rfl, rfl, h1, h2, h3, h4, hq⟩
      · rw [hd] at h0
        cases h0
      · exact ⟨_, rfl, _, rfl, v, e, rfl, hv, (fun z => by rw [h2] at z; cases z), fun _ => he⟩
      · obtain rfl : u = .int (n : Int) := by
          cases hu1
          rfl
        obtain rfl : v = .int (r : Int) := by
          cases hv
          rfl
        have hr8 : dIn 1 8 (.int (r : Int)) = true := by
          show (decide ((1 : Int) ≤ (r : Int)) && decide ((r : Int) ≤ 8)) = true
          rw [Bool.and_eq_true, decide_eq_true_eq, decide_eq_true_eq]
          omega
        refine ⟨_, rfl, _, rfl, _, _, rfl, .int _, (fun _ => ⟨n, r, rfl, h2, h3, by omega, fun q H' s1 hS => ⟨_, rfl, ix_sq (j := n) (.inl hS) ?_ (hq H' s1)⟩⟩), fun z => by rw [hr8] at z; cases z⟩
        refine nV_at ?_
        rw [List.getElem?_map, List.getElem?_range (by omega)]
        rfl
    refine t_seq ⟨_, rfl, u, d, 1, 30, _, rfl, hu1, rest, fun hd => ?_⟩
    rcases h with ⟨_, he⟩ | ⟨h0, _⟩ | ⟨n, r, rfl, rfl, h1, h2, h3, h4, hq⟩
    · exact he
    · rw [hd] at h0
      cases h0
    · have hr8 : dIn 1 30 (.int (n : Int)) = true := by
        show (decide ((1 : Int) ≤ (n : Int)) && decide ((n : Int) ≤ 30)) = true
        rw [Bool.and_eq_true, decide_eq_true_eq, decide_eq_true_eq]
        omega
      rw [hr8] at hd
      cases hd
theorem sc__grown : FnScope ["sizes", "block", "size"] ["sizes", "block"] (defScope s__grown) := ⟨rfl, rfl, rfl, by decide +kernel, rfl, by decide +kernel, by decide +kernel⟩
theorem fk__grown (c : SaysS cfg.facts cfg.fn K) (T : EnvOk cfg K mg) : Fk P w K mg base 2 "_grown" ["sizes", "block"] (spGrown K) := by
  obtain ⟨fd, hh⟩ := has_of c T 12 "_grown" s__grown rfl
  refine Fk.of hh (hh.F.ok sc__grown (fun vs H Q E h => ?_) (fun cdv A outer s H vs Q E hr h => ?_)) (hh.F.bindsN fun _ _ _ _ _ _ us hl => match us, hl with | [_, _], _ => rfl)
  · obtain ⟨a, s0, b, rfl, _⟩ := h
    rfl
  · obtain ⟨a, s0, b, rfl, hS, hl, hb, hq⟩ := h
    have mlen := T.free "len" (by decide)
    refine ⟨_, (pss_cons (ps_set (i := 2) sc__grown.nd rfl (.inl rfl) (pe_ifExp (pt_cmpR op_lt (pv 1) (pe_callB call_len_seq (by rfl) mlen PySem.boot_len (pa_cons (pv 0) pa_nil)) (nomark _)) (pe_ix ix_seq (pv 0) (pv 1) (fun _ _ => rfl)) pe_int))
          (pss_one (ps_ret (pe_op op_cat (pe_op op_cat (pe_slice sl_list (pv 0) po_none (po_some (pv 1))) (pe_lst (pa_cons (pe_op op_add (pv 2) pe_int) pa_nil))) (pe_slice sl_list (pv 0) (po_some (pe_op op_add (pv 1) pe_int)) po_none))))), ?_⟩
    have el : (nV s0).length = s0.length := List.length_map ..
    have fin : ∀ z : V, z = .int ((s0.getD b 0 : Nat) : Int) → tRet (tOp rCat (tOp rCat (tSl (rSlL K) (tVar 0) tNoPart (tPart (tVar 1))) (tLst (tCons (tOp (rI0 fun i j => V.int (i + j)) (tVar 2) (tC (V.int 1))) tNil))) (tSl (rSlL K) (tVar 0) (tPart (tOp (rI0 fun i j => V.int (i + j)) (tVar 1) (tC (V.int 1)))) tNoPart)) { nx := fun x H' => Q V.non H', rt := Q } [some (.ref a), some (.int (b : Int)), some z] H := by
      rintro z rfl
      refine ⟨_, rfl, _, rfl, _, rfl, a, _, rfl, hS, fun p1 hp1 => ?_⟩
      have s1 : Same H (upd H p1 (.lst (cutV (nV s0) none (some (b : Int))))) := same_new hp1
      refine ⟨_, rfl, _, _, rfl, rfl, one_le, fun p2 hp2 => ?_⟩
      have s2 := s1.tr (same_new (o := .lst [V.int (((s0.getD b 0 : Nat) : Int) + 1)]) hp2)
      have e1 : (upd (upd H p1 (.lst (cutV (nV s0) none (some (b : Int))))) p2 (.lst [V.int (((s0.getD b 0 : Nat) : Int) + 1)])) p1 = some (.lst (cutV (nV s0) none (some (b : Int)))) := same_new hp2 _ _ upd_same
      refine ⟨p1, p2, _, _, rfl, rfl, e1, upd_same, ?_, fun p3 hp3 => ?_⟩
      · rw [cut_take, List.length_take, List.length_singleton, sizeLine_eq]
        omega
      have s3 := s2.tr (same_new (o := .lst (cutV (nV s0) none (some (b : Int)) ++ [V.int (((s0.getD b 0 : Nat) : Int) + 1)])) hp3)
      refine ⟨_, rfl, _, rfl, _, _, rfl, rfl, _, rfl, a, _, rfl, s3.seq hS, fun p4 hp4 => ?_⟩
      have s4 := s3.tr (same_new (o := .lst (cutV (nV s0) (some ((b : Int) + 1)) none)) hp4)
      refine ⟨p3, p4, _, _, rfl, rfl, same_new hp4 _ _ upd_same, upd_same, ?_, fun p5 hp5 => ?_⟩
      · rw [cut_take, show ((b : Int) + 1) = ((b + 1 : Nat) : Int) from rfl, cut_drop, List.length_append, List.length_take, List.length_drop, List.length_singleton, sizeLine_eq]
        omega
      have z := hq p5 _ hp5 s4
      rw [← grow_cat hb] at z
      have e2 : cutV (nV s0) none (some (b : Int)) ++ [V.int (((s0.getD b 0 : Nat) : Int) + 1)] ++ cutV (nV s0) (some ((b : Int) + 1)) none = nV (s0.take b ++ [s0.getD b 0 + 1] ++ s0.drop (b + 1)) := by
        rw [cut_take, show ((b : Int) + 1) = ((b + 1 : Nat) : Int) from rfl, cut_drop]
        show _ = List.map _ _
        rw [List.map_append, List.map_append, List.map_take, List.map_drop]
        rfl
      show Q (.ref p5) (upd _ p5 (.lst (cutV (nV s0) none (some (b : Int)) ++ [V.int (((s0.getD b 0 : Nat) : Int) + 1)] ++ cutV (nV s0) (some ((b : Int) + 1)) none)))
      rw [e2]
      exact z
    refine t_seq ⟨_, rfl, _, rfl, a, _, rfl, .inl hS, _, _, rfl, rfl, _, rfl, ?_⟩
    rw [el]
    by_cases c : b < s0.length
    · rw [decide_eq_true (by omega)]
      refine iteT ⟨_, rfl, _, rfl, ix_sq (j := b) (.inl hS) (nV_at (List.getElem?_eq_getElem c)) (fin _ ?_)⟩
      rw [List.getD_eq_getElem?_getD, List.getElem?_eq_getElem c]
      rfl
    · rw [decide_eq_false (by omega)]
      refine iteF (fin _ ?_)
      rw [List.getD_eq_getElem?_getD, List.getElem?_eq_none (by omega)]
      rfl
theorem sc__ways_on : FnScope ["left", "room", "sizes", "ways", "size", "most", "many", "taken", "counts"] ["left", "room", "sizes"] (defScope s__ways_on) := ⟨rfl, rfl, rfl, by decide +kernel, rfl, by decide +kernel, by decide +kernel⟩
theorem fk__ways_on (c : SaysS cfg.facts cfg.fn K) (T : EnvOk cfg K mg) (hcomb : mg "comb" = some (.builtin "math.comb")) : Fk P w K mg base 5 "_ways_on" ["left", "room", "sizes"] (spWays K) := by
  obtain ⟨fd, hh⟩ := has_of c T 13 "_ways_on" s__ways_on rfl
  refine Fk.of hh (hh.F.ok sc__ways_on (fun vs H Q E h => ?_) (fun cdv A outer s H vs Q E hr h => ?_)) (hh.F.bindsN fun _ _ _ _ _ _ us hl => match us, hl with | [_, _, _], _ => rfl)
  · obtain ⟨a, s0, n, r, rfl, _⟩ := h
    rfl
  · obtain ⟨a, s0, n, r, rfl, hS, hn, hl, hx, h1, h2, hq⟩ := h
    have mrange := T.free "range" (by decide)
    have msum := T.free "sum" (by decide)
    have mmin := T.free "min" (by decide)
    refine ⟨_, (pss_cons (ps_set (i := 3) sc__ways_on.nd rfl (.inr rfl) (pe_op op_cat (pe_lst (pa_cons pe_int pa_nil)) (pe_op op_rep (pe_lst (pa_cons pe_int pa_nil)) (pv 0))))
          (pss_cons (ps_for (passes_of rfl) rfl (pi_sq (pv 2)) (pg_name (i := 4) sc__ways_on.nd rfl (.inl rfl))
          (pss_cons (ps_set (i := 5) sc__ways_on.nd rfl (.inr rfl) (pe_op op_sub (pv 1) (pv 4)))
          (pss_one (ps_set (i := 3) sc__ways_on.nd rfl (.inr rfl) (pe_lc (g := gName 6) (te := (tCB (rSum K) (tCons (tLc (iRng1 (tCons _ tNil)) (gName 7) tYes (tOp (rI IntMulOk fun i j => V.int (i * j)) (tCB rComb (tCons (tVar 6) (tCons (tVar 7) tNil))) (tOp (rIx K) (tVar 3) (tOp (rI0 fun i j => V.int (i - j)) (tVar 6) (tVar 7)))) (List.map (fun x : PySem.Str × Nat => x.snd) [("taken", 7)])) tNil))) (own := [("many", 6)]) rfl sc__ways_on.nd (pi_range1 (by rfl) mrange (pa_cons (pe_op op_add (pv 0) pe_int) pa_nil)) (blkOk_by (N := ["left", "room", "sizes", "ways", "size", "most", "many", "taken", "counts"]) (sc := defScope s__ways_on) (by decide +kernel)) (fun s H C cl fp => (pg_name (i := 6) sc__ways_on.nd rfl (.inr rfl))) (fun s H C cl fp => pts_nil) (fun s H C cl fp => by exact (pe_callB (cr_sum rfl) (by rfl) msum (by decide +kernel) (pa_cons (pe_lc (g := gName 7) (te := (tOp (rI IntMulOk fun i j => V.int (i * j)) (tCB rComb (tCons (tVar 6) (tCons (tVar 7) tNil))) (tOp (rIx K) (tVar 3) (tOp (rI0 fun i j => V.int (i - j)) (tVar 6) (tVar 7))))) (own := [("taken", 7)]) rfl sc__ways_on.nd (pi_range1 (by rfl) mrange (pa_cons (pe_op op_add (pe_callB (call_min2 rfl) (by rfl) mmin (by decide +kernel) (pa_cons (pv 5) (pa_cons (pv 6) pa_nil))) pe_int) pa_nil)) (blkOk_by (N := ["left", "room", "sizes", "ways", "size", "most", "many", "taken", "counts"]) (by kernel_rfl)) (fun s H C cl fp => (pg_name (i := 7) sc__ways_on.nd rfl (.inl rfl))) (fun s H C cl fp => pts_nil) (fun s H C cl fp => by exact (pe_op op_mulG (pe_callBG cr_comb (by rfl) hcomb (pa_cons (pv 6) (pa_cons (pv 7) pa_nil))) (pe_ix ix_seq (pv 3) (pe_op op_sub (pv 6) (pv 7)) (fun _ _ => rfl))))) pa_nil))))))))
          (pss_cons (ps_set (i := 8) sc__ways_on.nd rfl (.inr rfl) (pe_f (fk__layout_counts c T hcomb) hr (by decide) (by rfl) passL (pa_cons (pv 0) (pa_cons (pv 1) pa_nil))))
          (pss_one (ps_ret (pe_callB (cr_sum rfl) (by rfl) msum (by decide +kernel) (pa_cons (pe_lc (g := gName 6) (te := (tOp (rI IntMulOk fun i j => V.int (i * j)) (tOp (rI IntMulOk fun i j => V.int (i * j)) (tCB rComb (tCons (tVar 0) (tCons (tVar 6) tNil))) (tOp (rIx K) (tVar 3) (tVar 6))) (tOp (rIx K) (tVar 8) (tOp (rI0 fun i j => V.int (i - j)) (tVar 0) (tVar 6))))) (own := [("many", 6)]) rfl sc__ways_on.nd (pi_range1 (by rfl) mrange (pa_cons (pe_op op_add (pv 0) pe_int) pa_nil)) (blkOk_by (N := ["left", "room", "sizes", "ways", "size", "most", "many", "taken", "counts"]) (sc := defScope s__ways_on) (by decide +kernel)) (fun s H C cl fp => (pg_name (i := 6) sc__ways_on.nd rfl (.inl rfl))) (fun s H C cl fp => pts_nil) (fun s H C cl fp => by exact (pe_op op_mulG (pe_op op_mulG (pe_callBG cr_comb (by rfl) hcomb (pa_cons (pv 0) (pa_cons (pv 6) pa_nil))) (pe_ix ix_seq (pv 3) (pv 6) (fun _ _ => rfl))) (pe_ix ix_seq (pv 8) (pe_op op_sub (pv 0) (pv 6)) (fun _ _ => rfl))))) pa_nil))))))), ?_⟩
    have el : (nV s0).length = s0.length := List.length_map ..
    refine t_seq ⟨one_le, fun p1 hp1 => ⟨one_le, fun p2 hp2 => ⟨_, rfl, p2, n, [V.int 0], rfl, rfl, upd_same, by omega, by omega, ?_, fun p3 hp3 => ⟨p1, p3, [V.int 1], _, rfl, rfl, same_new hp3 _ _ (same_new hp2 _ _ upd_same), upd_same, ?_, fun pw hpw => ?_⟩⟩⟩⟩
    · rw [sizeLine_eq, Int.toNat_natCast]
      show 1 * n ≤ _
      omega
    · rw [sizeLine_eq, Int.toNat_natCast, List.length_flatten, List.map_replicate, List.sum_replicate_nat]
      show 1 + n * 1 ≤ _
      omega
    rw [Int.toNat_natCast, dl_list r n]
    have s1 := (((same_new (o := .lst [V.int 1]) hp1).tr (same_new (o := .lst [V.int 0]) hp2)).tr (same_new (o := .lst (List.replicate n [V.int 0]).flatten) hp3)).tr (same_new (o := .lst (nV ((List.range (n + 1)).map (wy r [])))) hpw)
    have hW : SqL K (upd (upd (upd (upd H p1 (.lst [V.int 1])) p2 (.lst [V.int 0])) p3 (.lst (List.replicate n [V.int 0]).flatten)) pw (.lst (nV ((List.range (n + 1)).map (wy r []))))) pw (nV ((List.range (n + 1)).map (wy r []))) := SqL.of upd_same
    generalize (upd (upd (upd (upd H p1 (.lst [V.int 1])) p2 (.lst [V.int 0])) p3 (.lst (List.replicate n [V.int 0]).flatten)) pw (.lst (nV ((List.range (n + 1)).map (wy r []))))) = H1 at s1 hW ⊢
    try dsimp only [gName]
    refine t_seq (for_read ⟨_, rfl, for_old (H0 := H) (.inl hS) (fun i σ H' => ∃ (q : Addr) (z4 z5 : Option V), σ = [some (.int (n : Int)), some (.int (r : Int)), some (.ref a), some (.ref q), z4, z5, none, none, none] ∧ Same H H' ∧ SqL K H' q (nV ((List.range (n + 1)).map (wy r (s0.take i))))) ⟨pw, none, none, rfl, s1, hW⟩ (fun _ _ _ ⟨_, _, _, _, s, _⟩ => s) ?_ ?_⟩)
    · rintro i x σ H2 hxi ⟨q, z4, z5, rfl, s2, hW2⟩
      obtain ⟨b, rfl, hb⟩ := nV_of_at hxi
      have hbr := hx b (List.mem_of_getElem? hb)
      try dsimp only [gName]
      refine t_seq ⟨_, rfl, _, rfl, _, _, rfl, rfl, ?_⟩
      try dsimp only [gName]
      rw [show (r : Int) - (b : Int) = ((r - b : Nat) : Int) by omega]
      have wsn : ∀ k, wy r (s0.take (i + 1)) k = cv k (tm (r - b)) (wy r (s0.take i)) := fun k => by
        rw [take_snoc hb, wy_snoc]
      have wle : ∀ k, k ≤ n → wy r (s0.take i) k ≤ 2 ^ 1000 := fun k hk => Nat.le_trans (wy_le ..) (Nat.pow_le_pow_right (by decide) (by
        rw [List.length_take]
        have : k * min i s0.length ≤ 30 * 31 := Nat.mul_le_mul (by omega) (by omega)
        omega))
      refine ⟨_, rfl, _, _, rfl, rfl, _, rfl, by omega, by omega, fun D hD => ?_⟩
      rw [show ((n : Int) + 1).toNat = n + 1 by omega]
      refine lc_rg (lo := 0) (n := n + 1) (fun k acc G => Same H2 G ∧ acc = nV ((List.range k).map (wy r (s0.take (i + 1))))) hD ⟨Same.rfl', rfl⟩ ?_ ?_
      · rintro k acc G hk hG ⟨g1, rfl⟩
        rw [Int.zero_add]
        have sU := g1.tr (same_upd (o := .lst (nV ((List.range k).map (wy r (s0.take (i + 1)))))) hG)
        refine ⟨rfl, t_yes (iteT (t_cb1 ⟨_, rfl, _, rfl, _, _, rfl, _, _, rfl, rfl, _, rfl, ?_, ?_, fun D2 hD2 => ?_⟩))⟩
        · split <;> omega
        · split <;> omega
        rw [show ((if (k : Int) < ((r - b : Nat) : Int) then (k : Int) else ((r - b : Nat) : Int)) + 1).toNat = min (r - b) k + 1 by split <;> omega]
        refine lc_rg (lo := 0) (n := min (r - b) k + 1) (fun t acc2 G2 => Same (upd G D (.lst (nV ((List.range k).map (wy r (s0.take (i + 1))))))) G2 ∧ acc2 = nV ((List.range t).map fun t => ch k t * wy r (s0.take i) (k - t))) hD2 ⟨Same.rfl', rfl⟩ ?_ ?_
        · rintro t acc2 G2 ht hG2 ⟨g2, rfl⟩
          rw [Int.zero_add]
          have hS2 := (sU.tr (g2.tr (same_upd (o := .lst (nV ((List.range t).map fun t => ch k t * wy r (s0.take i) (k - t)))) hG2))).seq hW2
          refine ⟨rfl, t_yes (iteT ⟨_, rfl, _, rfl, k, t, rfl, by omega, by omega, _, rfl, _, rfl, _, rfl, _, _, rfl, rfl, ?_⟩)⟩
          try dsimp only
          rw [show (k : Int) - (t : Int) = ((k - t : Nat) : Int) by omega]
          refine ix_sq (j := k - t) (.inl hS2) (rgM_at (by omega)) ⟨_, _, rfl, rfl, mulG (ch_le k t) (wle (k - t) (by omega)) (by omega), lc_put hG2 ?_ ⟨g2, ?_⟩⟩
          · rw [rgM_len, sizeLine_eq]
            omega
          · rw [rgM_succ]
            rfl
        · rintro acc2 G2 hG2 ⟨g2, rfl⟩
          refine ⟨D2, ((List.range (min (r - b) k + 1)).map fun t => ch k t * wy r (s0.take i) (k - t)).map fun x : Nat => (x : Int), rfl, SqL.of (by rw [upd_same, List.map_map]; rfl), ?_⟩
          rw [sum_nat, cv_tm, ← wsn]
          obtain ⟨G3, g3, sg3, e⟩ := core_of (g2.tr (same_upd (o := .lst (nV ((List.range (min (r - b) k + 1)).map fun t => ch k t * wy r (s0.take i) (k - t)))) hG2)) hG
          rw [e]
          refine lc_put g3 ?_ ⟨g1.tr sg3, ?_⟩
          · rw [rgM_len, sizeLine_eq]
            omega
          · rw [rgM_succ]
      · rintro acc G hG ⟨g1, rfl⟩
        exact ⟨D, _, _, rfl, s2.tr (g1.tr (same_upd hG)), SqL.of upd_same⟩
    · rintro σ H2 ⟨q, z4, z5, rfl, s2, hW2⟩
      rw [el, List.take_length] at hW2
      try dsimp only
      refine t_seq ⟨_, rfl, _, rfl, n, r, rfl, hn, h1, h2, fun q2 H3 s3 hC => ?_⟩
      try dsimp only [gName]
      refine t_ret ⟨_, rfl, _, _, rfl, rfl, _, rfl, by omega, by omega, fun D hD => ?_⟩
      rw [show ((n : Int) + 1).toNat = n + 1 by omega]
      have hW3 := s3.seq hW2
      refine lc_rg (lo := 0) (n := n + 1) (fun k acc G => Same H3 G ∧ acc = nV ((List.range k).map fun k => ch n k * wy r s0 k * lc r (n - k))) hD ⟨Same.rfl', rfl⟩ ?_ ?_
      · rintro k acc G hk hG ⟨g1, rfl⟩
        rw [Int.zero_add]
        have sU := g1.tr (same_upd (o := .lst (nV ((List.range k).map fun k => ch n k * wy r s0 k * lc r (n - k)))) hG)
        have wle : wy r s0 k ≤ 2 ^ 1000 := Nat.le_trans (wy_le ..) (Nat.pow_le_pow_right (by decide) (by
          have : k * s0.length ≤ 30 * 31 := Nat.mul_le_mul (by omega) (by omega)
          omega))
        have cw : ch n k * wy r s0 k ≤ 2 ^ (n + 1000) := by
          rw [Nat.pow_add]
          exact Nat.mul_le_mul (ch_le n k) wle
        refine ⟨rfl, t_yes (iteT ⟨_, rfl, _, rfl, n, k, rfl, by omega, by omega, _, rfl, _, rfl, ix_sq (j := k) (.inl (sU.seq hW3)) (rgM_at (by omega)) ⟨_, _, rfl, rfl, mulG (ch_le n k) wle (by omega), _, rfl, _, rfl, _, rfl, _, _, rfl, rfl, ?_⟩⟩)⟩
        try dsimp only
        rw [show (n : Int) - (k : Int) = ((n - k : Nat) : Int) by omega]
        refine ix_sq (j := n - k) (.inl (sU.seq hC)) (rgM_at (by omega)) ⟨_, _, rfl, rfl, ?_, lc_put hG ?_ ⟨g1, ?_⟩⟩
        · rw [← Int.natCast_mul]
          exact mulG cw (lc_le r 30 (n - k) (by omega)) (by have : (n - k) * 30 ≤ 30 * 30 := Nat.mul_le_mul_right _ (by omega); omega)
        · rw [rgM_len, sizeLine_eq]
          omega
        · rw [rgM_succ]
          rfl
      · rintro acc G hG ⟨g1, rfl⟩
        refine ⟨D, ((List.range (n + 1)).map fun k => ch n k * wy r s0 k * lc r (n - k)).map fun x : Nat => (x : Int), rfl, SqL.of (by rw [upd_same, List.map_map]; rfl), ?_⟩
        rw [sum_nat, go_sum]
        exact hq _ (s2.tr (s3.tr (g1.tr (same_upd hG))))
theorem sc__branch_counts : FnScope ["left", "room", "sizes", "counts", "by_size", "block", "size"] ["left", "room", "sizes"] (defScope s__branch_counts) := ⟨rfl, rfl, rfl, by decide +kernel, rfl, by decide +kernel, by decide +kernel⟩
theorem fk__branch_counts (c : SaysS cfg.facts cfg.fn K) (T : EnvOk cfg K mg) (hcomb : mg "comb" = some (.builtin "math.comb")) : Fk P w K mg base 7 "_branch_counts" ["left", "room", "sizes"] (spBranch K) := by
  obtain ⟨fd, hh⟩ := has_of c T 14 "_branch_counts" s__branch_counts rfl
  refine Fk.of hh (hh.F.ok sc__branch_counts (fun vs H Q E h => ?_) (fun cdv A outer s H vs Q E hr h => ?_)) (hh.F.bindsN fun _ _ _ _ _ _ us hl => match us, hl with | [_, _, _], _ => rfl)
  · obtain ⟨a, s0, n, r, rfl, _⟩ := h
    rfl
  · obtain ⟨a, s0, n, r, rfl, hS, hn, hl, hx, hpos, h1, h2, hq⟩ := h
    have menumerate := T.free "enumerate" (by decide)
    have hu := Nat.lt_of_le_of_lt (Nat.add_le_add_left (show 1 ≤ 64 by decide) _) hr.units
    refine ⟨_, (pss_cons (ps_set (i := 3) sc__branch_counts.nd rfl (.inl rfl) (pe_lst pa_nil))
          (pss_cons (ps_set (i := 4) sc__branch_counts.nd rfl (.inl rfl) (pe_disp (pps_cons (pv 1) pe_int pps_nil) rfl rfl (by simp) (by decide)))
          (pss_cons (ps_for (passes_of rfl) rfl (pi_enumSq (by rfl) menumerate (pa_cons (pe_op op_cat (pv 2) (pe_lst (pa_cons pe_int pa_nil))) pa_nil)) (pg_tup rfl (pgs_cons (pg_name (i := 5) sc__branch_counts.nd rfl (.inl rfl)) (pgs_cons (pg_name (i := 6) sc__branch_counts.nd rfl (.inl rfl)) pgs_nil)))
          (pss_cons (ps_if (pt_cmp (pc_dnotin hu (pv 6) (pv 4))) (pss_one (ps_dput hu (pv 4) (pv 6) (pe_f (fk__ways_on c T hcomb) hr (by decide) (by rfl) passL (pa_cons (pv 0) (pa_cons (pv 1) (pa_cons (pe_f (fk__grown c T) hr (by decide) (by rfl) passL (pa_cons (pv 2) (pa_cons (pv 5) pa_nil))) pa_nil)))) rfl)) pss_nil)
          (pss_one (ps_expr (pe_bm PySem.F.plainAttrs_list PySem.F.slot_list_append PySem.F.type_list_append mt_append (pv 3) (pa_cons (pe_dget hu (pv 4) (pv 6) (fun _ _ => rfl)) pa_nil))))))
          (pss_one (ps_ret (pv 3)))))), ?_⟩
    have el : (nV s0).length = s0.length := List.length_map ..
    refine t_seq ⟨Nat.zero_le _, fun pC hpC => ?_⟩
    have s1 := same_new (o := .lst []) hpC
    try dsimp only [gName]
    have hC0 : (upd H pC (.lst [])) pC = some (.lst []) := upd_same
    generalize (upd H pC (.lst [])) = HC at s1 hC0 ⊢
    refine t_seq fun pD hpD => ⟨_, rfl, upd_same, [((Sum.inl (r : Int) : Key), V.int 0)], rfl, (show 1 ≤ 15 by decide), ?_⟩
    rw [upd_upd]
    have s2 : Same HC (upd HC pD (.dK (mergeK [] [((Sum.inl (r : Int) : Key), V.int 0)]))) := same_new hpD
    have hD1 : (upd HC pD (.dK (mergeK [] [((Sum.inl (r : Int) : Key), V.int 0)]))) pD = some (.dK [((Sum.inl (r : Int) : Key), V.int 0)]) := upd_same
    have hC1 := s2 _ _ hC0
    have nCD : pC ≠ pD := ne_of_none hC0 hpD
    have hpD0 : H pD = none := by
      cases e : H pD with
      | none => rfl
      | some v =>
        have y := s1 _ _ e
        rw [hpD] at y
        cases y
    have s12 := s1.tr s2
    generalize (upd HC pD (.dK (mergeK [] [((Sum.inl (r : Int) : Key), V.int 0)]))) = H1 at s12 hD1 hC1 ⊢
    try dsimp only [gName]
    refine t_seq (for_readE ⟨_, rfl, one_le, fun p5 hp5 => ⟨a, p5, _, _, rfl, rfl, same_new hp5 _ _ (s12 _ _ hS), upd_same, by rw [el, sizeLine_eq]; show s0.length + 1 ≤ _; omega, fun p6 hp6 => ?_⟩⟩)
    have s3 := (same_new (o := .lst [V.int 0]) hp5).tr (same_new (o := .lst (nV s0 ++ [V.int 0])) hp6)
    have h6 : (upd (upd H1 p5 (.lst [V.int 0])) p6 (.lst (nV s0 ++ [V.int 0]))) p6 = some (.lst (nV (s0 ++ [0]))) := by
      rw [upd_same, nV_snoc]
      rfl
    have hC2 := s3 _ _ hC1
    have hD2 := s3 _ _ hD1
    have n6C : p6 ≠ pC := Ne.symm (ne_of_none (same_new hp5 _ _ hC1) hp6)
    have n6D : p6 ≠ pD := Ne.symm (ne_of_none (same_new hp5 _ _ hD1) hp6)
    have s13 := s12.tr s3
    generalize (upd (upd H1 p5 (.lst [V.int 0])) p6 (.lst (nV s0 ++ [V.int 0]))) = H3 at s13 h6 hC2 hD2 ⊢
    try dsimp only
    have l6 : (nV (s0 ++ [0])).length = s0.length + 1 := by
      rw [show (nV (s0 ++ [0])).length = _ from List.length_map .., List.length_append]
      rfl
    refine for_enumL (a := p6) (xs := nV (s0 ++ [0])) (fun i σ H' => ∃ (ks : List (Key × V)) (z5 z6 : Option V), σ = [some (.int (n : Int)), some (.int (r : Int)), some (.ref a), some (.ref pC), some (.ref pD), z5, z6] ∧ Same H H' ∧ H' pC = some (.lst (nV ((List.range i).map (brF r n s0)))) ∧ H' pD = some (.dK ks) ∧ BInv r n s0 ks i ∧ H' p6 = some (.lst (nV (s0 ++ [0]))))
      ⟨_, none, none, rfl, s13, hC2, hD2, binv0 r n s0, h6⟩ (fun i σ H' ⟨_, _, _, _, _, _, _, _, h6⟩ => SqL.of h6) ?_ ?_
    · rintro i x σ H4 T hxi ⟨ks, z5, z6, rfl, s4, hC4, hD4, inv, h64⟩ hT
      have hi : i ≤ s0.length := by
        have y := (List.getElem?_eq_some_iff.mp hxi).1
        rw [l6] at y
        omega
      obtain ⟨g, rfl, hg⟩ := nV_of_at hxi
      obtain rfl : g = s0.getD i 0 := by
        by_cases c : i < s0.length
        · rw [List.getElem?_append_left c] at hg
          rw [List.getD_eq_getElem?_getD, hg]
          rfl
        · obtain rfl : i = s0.length := by omega
          rw [List.getElem?_concat_length] at hg
          rw [List.getD_eq_getElem?_getD, List.getElem?_eq_none (Nat.le_refl _)]
          exact (Option.some.inj hg).symm
      have sT : Same H4 (upd H4 T (.tup [V.int (i : Nat), V.int ((s0.getD i 0 : Nat) : Int)])) := same_new hT
      have tT : (upd H4 T (.tup [V.int (i : Nat), V.int ((s0.getD i 0 : Nat) : Int)])) T = some (.tup [V.int (i : Nat), V.int ((s0.getD i 0 : Nat) : Int)]) := upd_same
      have s5 := s4.tr sT
      have hC5 := sT _ _ hC4
      have hD5 := sT _ _ hD4
      have h65 := sT _ _ h64
      generalize (upd H4 T (.tup [V.int (i : Nat), V.int ((s0.getD i 0 : Nat) : Int)])) = H5 at tT s5 hC5 hD5 h65 ⊢
      have rest : ∀ (D : Ends) (ks' : List (Key × V)) (H6 : Hp), Same H H6 → H6 pC = some (.lst (nV ((List.range i).map (brF r n s0)))) → H6 pD = some (.dK ks') → valV ks' (Sum.inl (s0.getD i 0 : Int) : Key) = some (.int ((brF r n s0 i : Nat) : Int)) → H6 p6 = some (.lst (nV (s0 ++ [0]))) →
          (∀ H7, Same H H7 → H7 pC = some (.lst (nV ((List.range (i + 1)).map (brF r n s0)))) → H7 pD = some (.dK ks') → H7 p6 = some (.lst (nV (s0 ++ [0]))) → D.nx [some (.int (n : Int)), some (.int (r : Int)), some (.ref a), some (.ref pC), some (.ref pD), some (.int (i : Int)), some (.int ((s0.getD i 0 : Nat) : Int))] H7) →
          tDrop (tBM K "list" rAppend (tVar 3) (tCons (tDGet (tVar 4) (tVar 6)) tNil)) D [some (.int (n : Int)), some (.int (r : Int)), some (.ref a), some (.ref pC), some (.ref pD), some (.int (i : Int)), some (.int ((s0.getD i 0 : Nat) : Int))] H6 := fun D ks' H6 s6 hC hD hv h66 go => by
        have hgt := DGet.k (k := (Sum.inl (s0.getD i 0 : Int) : Key)) hD
        rw [hv] at hgt
        refine t_drop ⟨_, rfl, .inl ⟨rfl, _, SqL.of hC⟩, _, rfl, _, rfl, pD, _, rfl, hgt, pC, _, _, rfl, rfl, hC, by rw [rgM_len, sizeLine_eq]; omega, ?_⟩
        refine go _ (Same.upd s6 hpC) ?_ ((upd_ne (Ne.symm nCD)).trans hD) ((upd_ne n6C).trans h66)
        rw [upd_same, rgM_succ]
      refine ⟨T, _, rfl, .inl (.inl tT), rfl, _, _, rfl, _, _, rfl, rfl, ?_⟩
      refine t_seq (t_ifs ⟨_, rfl, _, rfl, pD, _, rfl, DGet.k (k := (Sum.inl (s0.getD i 0 : Int) : Key)) hD5, _, rfl, ?_⟩)
      cases hv : valV ks (Sum.inl (s0.getD i 0 : Int) : Key) with
      | some v =>
        have hv2 := inv.had hpos hi (by rw [hv]; exact fun z => by cases z)
        refine iteF (t_next ?_)
        exact rest _ ks _ s5 hC5 hD5 hv2 h65 fun H7 s7 hC7 hD7 h67 => ⟨ks, _, _, rfl, s7, hC7, hD7, inv.keep hv2, h67⟩
      | none =>
        obtain ⟨nr, inv2⟩ := inv.add hv
        have bF : brF r n s0 i = go_on r (grow s0 i) n := if_neg nr
        refine iteT ⟨_, rfl, _, rfl, _, rfl, _, rfl, a, s0, i, rfl, SqL.of (s5 _ _ hS), by omega, hi, fun q G hG sG => ⟨q, grow s0 i, n, r, rfl, SqL.of upd_same, hn, ?_, grow_le h1 hx nr, h1, h2, fun H6 s6 => ⟨_, rfl, _, rfl, pD, _, rfl, DPut.k (k := (Sum.inl (s0.getD i 0 : Int) : Key)) (s6 _ _ (same_new hG _ _ (sG _ _ hD5))) ?_, ?_⟩⟩⟩
        · unfold grow
          by_cases c : i < s0.length
          · rw [if_pos c, List.length_set]
            omega
          · rw [if_neg c, List.length_append, List.length_singleton]
            omega
        · have := inv.len
          rw [sizeLine_eq]
          omega
        · rw [← bF]
          have s56 := (sG.tr (same_new (o := .lst (nV (grow s0 i))) hG)).tr s6
          exact rest _ _ _ (Same.upd (s5.tr s56) hpD0) ((upd_ne nCD).trans (s56 _ _ hC5)) upd_same (by rw [valV_put, if_pos rfl]) ((upd_ne n6D).trans (s56 _ _ h65)) fun H7 s7 hC7 hD7 h67 => ⟨_, _, _, rfl, s7, hC7, hD7, inv2, h67⟩
    · rintro σ H4 ⟨ks, z5, z6, rfl, s4, hC4, hD4, inv, h64⟩
      rw [l6] at hC4
      try dsimp only
      exact ⟨_, rfl, hq pC H4 s4 (SqL.of hC4)⟩
end
end K02

namespace K02
open PySem PySem.Spec PyProof.Rows L2 Shf
section
variable {P : Program} {w : World} {K : PySem.W.Frag} {mg : PySem.Str → Option Value} {base : Heap}
theorem sc_nth_layout : FnScope ["cells", "room", "number", "layout", "sizes", "left", "counts", "block"] ["cells", "room", "number"] (defScope s_nth_layout) := ⟨rfl, rfl, rfl, by decide +kernel, rfl, by decide +kernel, by decide +kernel⟩
theorem fk_nth_layout (c : SaysS cfg.facts cfg.fn K) (T : EnvOk cfg K mg) (hcomb : mg "comb" = some (.builtin "math.comb")) : Fk P w K mg base 10 "nth_layout" ["cells", "room", "number"] (spNthL K) := by
  obtain ⟨fd, hh⟩ := has_of c T 15 "nth_layout" s_nth_layout rfl
  refine Fk.of hh (hh.F.ok sc_nth_layout (fun vs H Q E h => ?_) (fun cdv A outer s H vs Q E hr h => ?_)) (hh.F.bindsN fun _ _ _ _ _ _ us hl => match us, hl with | [_, _, _], _ => rfl)
  · obtain ⟨u, v, nm, d, e, f, rfl, _⟩ := h
    rfl
  · obtain ⟨u, v, nm, d, e, f, rfl, hu1, hv, hnm, h⟩ := h
    have mreversed := T.free "reversed" (by decide)
    have mrange := T.free "range" (by decide)
    have mtuple := T.free "tuple" (by decide)
    refine ⟨_, (pss_cons (ps_if (pt_not (pt_val (pe_f (fk_is_below c T) hr (by decide) (by rfl) passL (pa_cons (pv 2) (pa_cons (pe_f (fk_layout_count c T hcomb) hr (by decide) (by rfl) (passes_call (takes_of rfl rfl rfl rfl) (fun _ _ _ _ h => h)) (pa_cons (pv 0) (pa_cons (pv 1) pa_nil))) pa_nil))))) (pss_one (ps_raise rfl (takes_of rfl rfl rfl rfl) (pmk_at (T.at_ "InvalidIndex" (by decide)) (T.g "InvalidIndex" (by decide)) hr (pa_cons (pe_un un_neg pe_int) pa_nil) (by rfl)))) pss_nil)
          (pss_cons (ps_set (i := 3) sc_nth_layout.nd rfl (.inl rfl) (pe_lst pa_nil))
          (pss_cons (ps_set (i := 4) sc_nth_layout.nd rfl (.inl rfl) (pe_lst pa_nil))
          (pss_cons (ps_for (passes_of rfl) rfl (pi_revR (by rfl) mreversed (prg_1 (by rfl) mrange (pv 0))) (pg_name (i := 5) sc_nth_layout.nd rfl (.inl rfl))
          (pss_cons (ps_set (i := 6) sc_nth_layout.nd rfl (.inl rfl) (pe_f (fk__branch_counts c T hcomb) hr (by decide) (by rfl) passL (pa_cons (pv 5) (pa_cons (pv 1) (pa_cons (pv 4) pa_nil)))))
          (pss_cons (ps_set (i := 7) sc_nth_layout.nd rfl (.inl rfl) pe_int)
          (pss_cons (ps_while (passes_of rfl) (pt_cmpR op_ge (pv 2) (pe_ix ix_seq (pv 6) (pv 7) (fun _ _ => rfl)) (nomark _)) (pss_cons (ps_aug (i := 2) sc_nth_layout.nd rfl (.inl rfl) (pe_ix ix_seq (pv 6) (pv 7) (fun _ _ => rfl)) ip_sub)
          (pss_one (ps_aug (i := 7) sc_nth_layout.nd rfl (.inl rfl) pe_int ip_add))))
          (pss_cons (ps_expr (pe_bm PySem.F.plainAttrs_list PySem.F.slot_list_append PySem.F.type_list_append mt_append (pv 3) (pa_cons (pv 7) pa_nil)))
          (pss_one (ps_set (i := 4) sc_nth_layout.nd rfl (.inl rfl) (pe_f (fk__grown c T) hr (by decide) (by rfl) passL (pa_cons (pv 4) (pa_cons (pv 7) pa_nil))))))))))
          (pss_one (ps_ret (pe_tupleOf (by rfl) mtuple (pv 3)))))))), ?_⟩
    refine t_seq ⟨_, rfl, _, rfl, _, rfl, u, v, d, e, rfl, hu1, hv, ?_⟩
    rcases h with h | h | ⟨n, r, rfl, rfl, hn1, hn, h1, h8, h⟩
    · exact .inl h
    · exact .inr (.inl h)
    refine .inr (.inr ⟨n, r, rfl, rfl, hn1, hn, h1, h8, fun H1 s1 => ?_⟩)
    refine ⟨nm, f, _, rfl, dp_same s1 _ _ hnm, _, rfl, ?_⟩
    rcases h with ⟨hf, he⟩ | ⟨m, rfl, hm, hq⟩
    · rw [hf]
      exact iteT ⟨_, rfl, _, rfl, fun D hD => wAt_new hD (wAt_same s1 he)⟩
    have hin : dIn 0 (((lc r n : Nat) : Int) - 1) (.int (m : Int)) = true := by
      show (decide ((0 : Int) ≤ m) && decide ((m : Int) ≤ ((lc r n : Nat) : Int) - 1)) = true
      rw [Bool.and_eq_true, decide_eq_true_eq, decide_eq_true_eq]
      omega
    rw [hin]
    obtain rfl : nm = .int (m : Int) := by
      cases hnm
      rfl
    obtain rfl : u = .int (n : Int) := by
      cases hu1
      rfl
    obtain rfl : v = .int (r : Int) := by
      cases hv
      rfl
    refine iteF (t_next (t_seq ⟨Nat.zero_le _, fun pW hpW => ?_⟩))
    have s2 := same_new (o := .lst []) hpW
    have hW0 : (upd H1 pW (.lst [])) pW = some (.lst []) := upd_same
    generalize (upd H1 pW (.lst [])) = H2 at s2 hW0 ⊢
    try dsimp only [gName]
    refine t_seq ⟨Nat.zero_le _, fun pZ hpZ => ?_⟩
    have s3 := same_new (o := .lst []) hpZ
    have hZ0 : (upd H2 pZ (.lst [])) pZ = some (.lst []) := upd_same
    have nZ : pZ ≠ pW := Ne.symm (ne_of_none hW0 hpZ)
    have hW1 := s3 _ _ hW0
    have s13 := s2.tr s3
    generalize (upd H2 pZ (.lst [])) = H3 at s13 hW1 hZ0 ⊢
    try dsimp only [gName]
    refine t_seq ⟨_, rfl, _, rfl, by omega, by omega, by omega, by omega, ?_⟩
    rw [show ((n : Int) - 0).toNat = n by omega]
    refine for_rangeC (lo := 0 + (n : Int) - 1) (c := -1) (n := n) (fun i σ H' => ∃ (w : List Nat) (m' : Nat) (q : Addr) (z5 z6 z7 : Option V), σ = [some (.int (n : Int)), some (.int (r : Int)), some (.int (m' : Int)), some (.ref pW), some (.ref q), z5, z6, z7] ∧ Same H1 H' ∧ H' pW = some (.lst (nV w)) ∧ H' q = some (.lst (nV (sz w))) ∧ q ≠ pW ∧ w.length = i ∧ Sok r w ∧ nthL r (n - i) w m' = nthL r n [] m ∧ m' < (exL r (n - i) w).length) ?_ ?_ ?_
    · refine ⟨[], m, pZ, none, none, none, rfl, s13, hW1, hZ0, nZ, rfl, (fun x hx => by cases hx), rfl, ?_⟩
      rw [Nat.sub_zero, ex_len h1 _ _ (fun x hx => by cases hx)]
      show m < go_on r [] n
      rw [go_nil]
      exact hm
    · rintro i σ H4 hi ⟨w, m', q, z5, z6, z7, rfl, s4, hW, hZ, nq, hwl, sok, he, hlt⟩
      rw [show (0 + (n : Int) - 1 + (i : Nat) * (-1)) = ((n - 1 - i : Nat) : Int) by omega]
      rw [show n - i = (n - 1 - i) + 1 by omega] at he hlt
      have ek : n - (i + 1) = n - 1 - i := by omega
      have kb : n - 1 - i ≤ 30 := by omega
      generalize n - 1 - i = k at he hlt ek kb ⊢
      rw [ex_sum h1 k sok] at hlt
      have szl := sz_len w
      refine t_seq ⟨_, rfl, _, rfl, _, rfl, q, sz w, k, r, rfl, hZ, kb, by omega, sok, sz_pos w, h1, by omega, fun qc H5 s5 hc => ?_⟩
      have hW5 := s5 _ _ hW
      have hZ5 := s5 _ _ hZ
      have s45 := s4.tr s5
      try dsimp only [gName]
      refine t_seq ?_
      try dsimp only [tAsg, tC, gName]
      refine t_seq ?_
      refine while_by (fun σ H6 => ∃ (a m2 : Nat), σ = [some (.int (n : Int)), some (.int (r : Int)), some (.int (m2 : Int)), some (.ref pW), some (.ref q), some (.int (k : Int)), some (.ref qc), some (.int (a : Int))] ∧ H6 = H5 ∧ stepW (brL r k w) ((bks w).drop a) m2 = stepW (brL r k w) (bks w) m' ∧ m2 < sumW (brL r k w) ((bks w).drop a))
        (fun σ _ => match σ with
          | [_, _, _, _, _, _, _, some (.int a)] => (bks w).length - a.toNat
          | _ => 0) ?_ ?_ ?_
      · exact ⟨0, m', rfl, rfl, rfl, hlt⟩
      · rintro σ H6 ⟨a, m2, rfl, rfl, hst, hm2⟩
        have ha := sumW_lt hm2
        have ba := bks_at w ha
        have look : ∀ {Q' : VK}, Q' (.int ((cAt (brL r k w) a : Nat) : Int)) H6 → rIx K (.ref qc) (.int (a : Int)) H6 Q' := fun q => ix_sq (j := a) (.inl hc) (cAt_br ha) q
        refine ⟨_, rfl, _, rfl, _, rfl, look ⟨_, _, rfl, rfl, _, rfl, ?_⟩⟩
        by_cases hcm : cAt (brL r k w) a ≤ m2
        · rw [show decide (((cAt (brL r k w) a : Nat) : Int) ≤ (m2 : Int)) = true by rw [decide_eq_true_eq]; omega]
          refine iteT (t_seq ⟨_, rfl, _, rfl, _, rfl, look ⟨_, _, rfl, rfl, ?_⟩⟩)
          refine ⟨_, rfl, _, _, rfl, rfl, ?_⟩
          refine ⟨⟨a + 1, m2 - cAt (brL r k w) a, ?_, rfl, ?_, ?_⟩, ?_⟩
          · rw [show ((m2 - cAt (brL r k w) a : Nat) : Int) = (m2 : Int) - ((cAt (brL r k w) a : Nat) : Int) by omega]
            rfl
          · have y := stepW_ge (c := brL r k w) (m := m2) ha (by rw [ba]; exact hcm)
            rw [ba] at y
            rw [← y]
            exact hst
          · rw [sumW_drop ha, ba] at hm2
            omega
          · show (bks w).length - ((a : Int) + 1).toNat < (bks w).length - (a : Int).toNat
            omega
        · rw [show decide (((cAt (brL r k w) a : Nat) : Int) ≤ (m2 : Int)) = false by rw [decide_eq_false_iff_not]; omega]
          have y := stepW_lt (c := brL r k w) (m := m2) ha (by rw [ba]; exact hcm)
          rw [ba] at y
          rw [y] at hst
          refine iteF ?_
          try dsimp only
          refine t_seq (t_drop ⟨_, rfl, .inl ⟨rfl, _, SqL.of hW5⟩, _, rfl, pW, _, _, rfl, rfl, hW5, ?_, ?_⟩)
          · rw [show (nV w).length = _ from List.length_map .., sizeLine_eq]
            omega
          have hal : a < (sz w).length + 1 := by
            rw [← bks_len]
            exact ha
          have mb : a ∈ bks w := List.mem_range.mpr hal
          have op := open_of mb (show m2 < cAt (brL r k w) a by omega)
          have hZ6 : (upd H6 pW (.lst (nV w ++ [V.int (a : Int)]))) q = some (.lst (nV (sz w))) := (upd_ne nq).trans hZ5
          refine ⟨_, rfl, _, rfl, q, sz w, a, rfl, SqL.of hZ6, by omega, by omega, fun q2 G hG sG => ?_⟩
          have hpW1 : H1 pW = none := hpW
          refine ⟨w ++ [a], m2, q2, _, _, _, rfl, (Same.upd s45 hpW1).tr (sG.tr (same_new hG)), ?_, ?_, ?_, ?_, sok_snoc h1 sok op, ?_, ?_⟩
          · rw [nV_snoc]
            exact same_new hG _ _ (sG _ _ upd_same)
          · rw [sz_snoc]
            exact upd_same
          · exact Ne.symm (ne_of_none (sG _ _ upd_same) hG)
          · rw [List.length_append, hwl]
            rfl
          · rw [ek, ← he]
            show _ = nthL r k (w ++ [(stepW (brL r k w) (bks w) m').1]) (stepW (brL r k w) (bks w) m').2
            rw [← hst]
          · rw [ek, ex_len h1 k _ (sok_snoc h1 sok op)]
            have z := brL_at (r := r) (k := k) mb
            rw [if_neg op] at z
            omega
      · rintro σ H1 Q1 Q2 hQ ⟨x, hx, y, hy, z, hz, q⟩
        exact ⟨x, hx, y, hy, z, hz, rIx_mono (fun val H ⟨i, j, e1, e2, k, ek, q⟩ => ⟨i, j, e1, e2, k, ek, hQ _ _ q⟩) q⟩
    · rintro σ H4 ⟨w, m', q, z5, z6, z7, rfl, s4, hW, hZ, nq, hwl, sok, he, hlt⟩
      rw [Nat.sub_self] at he
      have he : w = nthL r n [] m := he
      refine t_ret (t_thn (t_var rfl (kTup_sq (.inl (SqL.of hW)) fun p H6 s6 hq6 => ?_)))
      refine hq (.ref p) H6 ((s1.tr s4).tr s6) (.tup hq6 ?_)
      rw [← he]
      exact dAll_nat _
theorem sc_layout_number : FnScope ["cells", "room", "layout", "number", "sizes", "cell", "block", "counts"] ["cells", "room", "layout"] (defScope s_layout_number) := ⟨rfl, rfl, rfl, by decide +kernel, rfl, by decide +kernel, by decide +kernel⟩
theorem fk_layout_number (c : SaysS cfg.facts cfg.fn K) (T : EnvOk cfg K mg) (hcomb : mg "comb" = some (.builtin "math.comb")) : Fk P w K mg base 10 "layout_number" ["cells", "room", "layout"] (spNumL K) := by
  obtain ⟨fd, hh⟩ := has_of c T 16 "layout_number" s_layout_number rfl
  refine Fk.of hh (hh.F.ok sc_layout_number (fun vs H Q E h => ?_) (fun cdv A outer s H vs Q E hr h => ?_)) (hh.F.bindsN fun _ _ _ _ _ _ us hl => match us, hl with | [_, _, _], _ => rfl)
  · obtain ⟨u, v, x, d, e, f, rfl, _⟩ := h
    rfl
  · obtain ⟨u, v, x, d, e, f, rfl, hu1, hv, hx, h⟩ := h
    have menumerate := T.free "enumerate" (by decide)
    have msum := T.free "sum" (by decide)
    obtain ⟨tMOST_COUNTED, iMOST_COUNTED⟩ := T.int ("MOST_COUNTED", 30) (by decide)
    refine ⟨_, (pss_cons (ps_expr (pe_f (fk_need_size c T) hr (by decide) (by rfl) (passes_call (takes_of rfl rfl rfl rfl) (fun _ _ _ _ h => h)) (pa_cons (pv 0) (pa_cons pe_int (pa_cons (pe_glob (v := .int 30) (by rfl) iMOST_COUNTED ⟨tMOST_COUNTED, rfl⟩) (pa_cons pe_str pa_nil))))))
          (pss_cons (ps_set (i := 2) sc_layout_number.nd rfl (.inl rfl) (pe_f (fk__layout_of c T) hr (by decide) (by rfl) (passes_call (takes_of rfl rfl rfl rfl) (fun _ _ _ _ h => h)) (pa_cons (pv 0) (pa_cons (pe_f (fk_need_room c T) hr (by decide) (by rfl) (passes_call (takes_of rfl rfl rfl rfl) (fun _ _ _ _ h => h)) (pa_cons (pv 1) pa_nil)) (pa_cons (pv 2) pa_nil)))))
          (pss_cons (ps_set (i := 3) sc_layout_number.nd rfl (.inl rfl) pe_int)
          (pss_cons (ps_set (i := 4) sc_layout_number.nd rfl (.inl rfl) (pe_lst pa_nil))
          (pss_cons (ps_for (passes_of rfl) rfl (pi_enumSq (by rfl) menumerate (pa_cons (pv 2) pa_nil)) (pg_tup rfl (pgs_cons (pg_name (i := 5) sc_layout_number.nd rfl (.inl rfl)) (pgs_cons (pg_name (i := 6) sc_layout_number.nd rfl (.inl rfl)) pgs_nil)))
          (pss_cons (ps_set (i := 7) sc_layout_number.nd rfl (.inl rfl) (pe_f (fk__branch_counts c T hcomb) hr (by decide) (by rfl) passL (pa_cons (pe_op op_sub (pe_op op_sub (pv 0) pe_int) (pv 5)) (pa_cons (pv 1) (pa_cons (pv 4) pa_nil)))))
          (pss_cons (ps_aug (i := 3) sc_layout_number.nd rfl (.inl rfl) (pe_callB (cr_sum rfl) (by rfl) msum (by decide +kernel) (pa_cons (pe_slice sl_list (pv 7) po_none (po_some (pv 6))) pa_nil)) ip_add)
          (pss_one (ps_set (i := 4) sc_layout_number.nd rfl (.inl rfl) (pe_f (fk__grown c T) hr (by decide) (by rfl) passL (pa_cons (pv 4) (pa_cons (pv 6) pa_nil))))))))
          (pss_one (ps_ret (pv 3)))))))), ?_⟩
    have no3 : ∀ {X : Prop} {i : Nat} {lo hi : Int}, lo ≤ (i : Int) → (i : Int) ≤ hi → dIn lo hi (.int (i : Int)) = false → X := fun a b z => by
      rw [show dIn _ _ (.int _) = true by
        show (decide (_ ≤ _) && decide (_ ≤ _)) = true
        rw [Bool.and_eq_true, decide_eq_true_eq, decide_eq_true_eq]
        exact ⟨a, b⟩] at z
      cases z
    refine t_seq ⟨_, rfl, u, d, 1, 30, _, rfl, hu1, fun hd => ?_, fun hd => ?_⟩
    rotate_left
    · rcases h with ⟨_, he⟩ | ⟨h0, _⟩ | ⟨n, r, rfl, rfl, h1, h2, h3, h4, _⟩
      · exact he
      · rw [hd] at h0
        cases h0
      · exact no3 (by omega) (by omega) hd
    rcases h with ⟨h0, _⟩ | ⟨_, h2, he⟩ | ⟨n, r, rfl, rfl, hn1, hn, h1, h8, h⟩
    · rw [hd] at h0
      cases h0
    · exact t_seq ⟨_, rfl, _, rfl, v, e, rfl, hv, (fun z => by rw [h2] at z; cases z), fun _ => he⟩
    obtain rfl : u = .int (n : Int) := by
      cases hu1
      rfl
    obtain rfl : v = .int (r : Int) := by
      cases hv
      rfl
    refine t_seq ⟨_, rfl, _, rfl, _, _, rfl, .int _, (fun _ => ⟨_, rfl, x, f, n, r, rfl, hx, by omega, ?_⟩), fun z => no3 (by omega) (by omega) z⟩
    rcases h with h | ⟨hl, h⟩
    · exact .inl h
    refine .inr ⟨hl, ?_⟩
    rcases h with h | ⟨w, ok, hq⟩
    · exact .inl h
    refine .inr ⟨w, ok, fun pl H1 s1 hpl => ?_⟩
    obtain ⟨aP, vs, rfl, hS, hA⟩ := tup_of hpl
    obtain rfl := dAll_nat_vs hA
    have hw : w.length = n := by
      rw [Bool.and_eq_true, decide_eq_true_eq, ok.it] at hl
      rw [← hl.2]
      exact (List.length_map ..).symm
    have vl := held_VL h1 ok.held
    have ul := plain_len w
    rw [hw] at ul
    generalize plainL w = u at hS vl ul hq
    have el : (nV u).length = u.length := List.length_map ..
    try dsimp only [gName]
    refine t_seq ?_
    try dsimp only [tAsg, tC, gName]
    refine t_seq ⟨Nat.zero_le _, fun pZ hpZ => ?_⟩
    try dsimp only [gName]
    refine t_seq (for_readE ⟨_, rfl, for_enumOld (H0 := H1) (.inr hS) (fun i σ H' => ∃ (m : Nat) (q : Addr) (z5 z6 z7 : Option V), σ = [some (.int (n : Int)), some (.int (r : Int)), some (.ref aP), some (.int (m : Int)), some (.ref q), z5, z6, z7] ∧ Same H1 H' ∧ H' q = some (.lst (nV (sz (u.take i)))) ∧ m + numL r (u.take i) (u.drop i) = numL r [] u)
      ⟨0, pZ, none, none, none, rfl, same_new hpZ, upd_same, by rw [List.take_zero, List.drop_zero, Nat.zero_add]⟩ (fun _ _ _ ⟨_, _, _, _, _, _, s, _⟩ => s) ?_ ?_⟩)
    · rintro i x σ H2 T hxi ⟨m, q, z5, z6, z7, rfl, s2, hZ, he⟩ hT
      obtain ⟨b, rfl, hb⟩ := nV_of_at hxi
      have hi : i < u.length := (List.getElem?_eq_some_iff.mp hb).1
      have sT : Same H2 (upd H2 T (.tup [V.int (i : Nat), V.int (b : Int)])) := same_new hT
      have tT : (upd H2 T (.tup [V.int (i : Nat), V.int (b : Int)])) T = some (.tup [V.int (i : Nat), V.int (b : Int)]) := upd_same
      have hZ3 := sT _ _ hZ
      have s3 := s2.tr sT
      generalize (upd H2 T (.tup [V.int (i : Nat), V.int (b : Int)])) = H3 at tT hZ3 s3 ⊢
      refine ⟨T, _, rfl, .inl (.inl tT), rfl, _, _, rfl, _, _, rfl, rfl, ?_⟩
      have sok := sok_VL h1 vl i (by omega)
      have szl := sz_len (u.take i)
      rw [List.length_take] at szl
      obtain ⟨mb, op⟩ := vl i b hb
      rw [List.nil_append] at mb op
      have hbl : b < (sz (u.take i)).length + 1 := List.mem_range.mp mb
      refine t_seq ⟨_, rfl, _, _, rfl, rfl, _, rfl, _, _, rfl, rfl, _, rfl, _, rfl, q, sz (u.take i), n - 1 - i, r, ?_, hZ3, by omega, by omega, sok, sz_pos _, h1, by omega, fun qc H5 s5 hc => ?_⟩
      · dsimp only
        rw [show (n : Int) - 1 - (i : Nat) = ((n - 1 - i : Nat) : Int) by omega]
        rfl
      have hZ5 := s5 _ _ hZ3
      have s35 := s3.tr s5
      try dsimp only [gName]
      refine t_seq ⟨_, rfl, _, rfl, _, rfl, _, rfl, qc, _, rfl, hc, fun p hp => ⟨p, ((brc r (n - 1 - i) (sz (u.take i))).take b).map fun x : Nat => (x : Int), rfl, SqL.of ?_, _, _, rfl, rfl, ?_⟩⟩
      · rw [upd_same, cut_take, List.map_map, show nV (brc r (n - 1 - i) (sz (u.take i))) = (brc r (n - 1 - i) (sz (u.take i))).map fun x : Nat => V.int (x : Int) from rfl, ← List.map_take]
        rfl
      rw [sum_nat]
      have hZ6 := same_new (o := .lst (cutV (nV (brc r (n - 1 - i) (sz (u.take i)))) none (some (b : Int)))) hp _ _ hZ5
      have s36 := s35.tr (same_new (o := .lst (cutV (nV (brc r (n - 1 - i) (sz (u.take i)))) none (some (b : Int)))) hp)
      generalize (upd H5 p (.lst (cutV (nV (brc r (n - 1 - i) (sz (u.take i)))) none (some (b : Int))))) = H6 at hZ6 s36 ⊢
      try dsimp only
      refine ⟨_, rfl, _, rfl, q, sz (u.take i), b, rfl, SqL.of hZ6, by omega, by omega, fun q2 G hG sG => ?_⟩
      refine ⟨m + ((brc r (n - 1 - i) (sz (u.take i))).take b).sum, q2, _, _, _, rfl, s36.tr (sG.tr (same_new hG)), ?_, ?_⟩
      · rw [take_snoc hb, sz_snoc]
        exact upd_same
      · have ed : u.drop i = b :: u.drop (i + 1) := by
          rw [List.drop_eq_getElem_cons hi]
          congr 1
          exact Option.some.inj ((List.getElem?_eq_getElem hi).symm.trans hb)
        rw [ed] at he
        have e2 : numL r (u.take i) (b :: u.drop (i + 1)) = sumW (brL r (u.drop (i + 1)).length (u.take i)) ((bks (u.take i)).filter fun o => decide (o < b)) + numL r (u.take i ++ [b]) (u.drop (i + 1)) := rfl
        rw [e2, List.length_drop, ul, show n - (i + 1) = n - 1 - i by omega] at he
        have e3 := sumW_low (brL r (n - 1 - i) (u.take i)) ((sz (u.take i)).length + 1) b (by omega) (by rw [brL_len]; exact Nat.le_refl _)
        have e4 : sumW (brL r (n - 1 - i) (u.take i)) ((bks (u.take i)).filter fun o => decide (o < b)) = ((brc r (n - 1 - i) (sz (u.take i))).take b).sum := e3
        rw [e4] at he
        rw [take_snoc hb]
        omega
    · rintro σ H2 ⟨m, q, z5, z6, z7, rfl, s2, hZ, he⟩
      rw [el, List.drop_length, List.take_length] at he
      have he : m = numL r [] u := he
      try dsimp only
      refine ⟨_, rfl, ?_⟩
      rw [he]
      exact hq H2 (s1.tr s2)
end
end K02

namespace K02
open PySem PySem.Spec PyProof.Rows L2 Shf
section
variable {P : Program} {w : World} {K : PySem.W.Frag} {mg : PySem.Str → Option Value} {base : Heap}
theorem sc__law_box : FnScope ["_law_script", "_law_k", "_law_cell"] ["_law_script", "_law_k"] (defScope s__law_box) := ⟨rfl, rfl, rfl, by decide +kernel, rfl, by decide +kernel, by decide +kernel⟩
theorem fk__law_box (c : SaysS cfg.facts cfg.fn K) (T : EnvOk cfg K mg) : Fk P w K mg base 2 "_law_box" ["_law_script", "_law_k"] (spBox K) := by
  obtain ⟨fd, hh⟩ := has_of c T 17 "_law_box" s__law_box rfl
  refine Fk.of hh ?_ (hh.F.bindsN fun _ _ _ _ _ _ us hl => match us, hl with | [_, _], _ => rfl)
  have F := hh.F
  have mLen := T.free "len" (by decide)
  have mAbs := T.free "abs" (by decide)
  have mInt := T.free "int" (by decide)
  refine F.ok sc__law_box (fun vs H Q E h => ?_) (fun cdv A outer s H vs Q E hr h => ?_)
  · obtain ⟨a, ns, k, rfl, _⟩ := h
    rfl
  · obtain ⟨a, ns, k, rfl, hS, hl, hk, hq⟩ := h
    refine ⟨_, pss_cons (ps_set (i := 2) sc__law_box.nd rfl (.inl rfl) (pe_op op_add (pe_op op_mul pe_int (pv 1)) pe_int))
      (pss_cons (ps_if (pt_cmpR op_lt (pv 1) (pe_callB call_len_seq (by rfl) mLen PySem.boot_len (pa_cons (pv 0) pa_nil)) (nomark _))
          (pss_one (ps_set (i := 2) sc__law_box.nd rfl (.inl rfl) (pe_callB call_abs (by rfl) mAbs PyProof.Rows.boot_abs (pa_cons (pe_ix ix_list (pv 0) (pv 1) (fun _ _ => rfl)) pa_nil))))
          (pss_one (ps_if (pt_cmpR op_gt (pe_callB call_len_seq (by rfl) mLen PySem.boot_len (pa_cons (pv 0) pa_nil)) pe_int (nomark _))
            (pss_one (ps_set (i := 2) sc__law_box.nd rfl (.inl rfl) (pe_op op_add (pv 2) (pe_op op_mul (pe_op op_mod (pe_callTy call_int1 (by rfl) mInt PyProof.Rows.boot_int (pa_cons (pe_callB call_abs (by rfl) mAbs PyProof.Rows.boot_abs (pa_cons (pe_ix ix_list (pv 0)
              (pe_op op_mod (pe_callTy call_int1 (by rfl) mInt PyProof.Rows.boot_int (pa_cons (pv 1) pa_nil)) (pe_callB call_len_seq (by rfl) mLen PySem.boot_len (pa_cons (pv 0) pa_nil))) (fun _ _ => rfl)) pa_nil)) pa_nil)) pe_int) pe_int))))
            pss_nil)))
      (pss_one (ps_ret (pe_lst (pa_cons (pe_ix ix_list (pe_lst (pa_cons pe_int (pa_cons (pv 2) pa_nil))) (pe_callTy call_int1 (by rfl) mInt PyProof.Rows.boot_int (pa_cons (pe_cmpR op_ge (pv 2) (pe_op op_pow pe_int pe_int) (nomark _)) pa_nil)) (fun _ _ => rfl))
        (pa_cons (pe_op op_add (pe_op op_mod (pe_callTy call_int1 (by rfl) mInt PyProof.Rows.boot_int (pa_cons (pe_op op_add (pe_op op_mul (pe_op op_mod (pe_callTy call_int1 (by rfl) mInt PyProof.Rows.boot_int (pa_cons (pv 2) pa_nil)) pe_int) pe_int) (pe_op op_mul pe_int (pv 1))) pa_nil)) pe_int) pe_int)
        (pa_cons pe_int pa_nil))))))), ?_⟩
    -- the last row, from any cell
    have last : ∀ (cell : Int), 0 ≤ cell → ∀ (σ : L2.St), σ = [some (.ref a), some (.int k), some (.int cell)] → tRet (tLst (tCons (tOp (rIxL K) (tLst (tCons (tC (.int 0)) (tCons (tVar 2) tNil)))
        (tCB (fun xs H Q => (∃ i, xs = [.int i] ∧ Q (.int i) H) ∨ ∃ k, xs = [.bl k] ∧ Q (.int (if k then 1 else 0)) H) (tCons (tOp (rI0 fun i j => .bl (decide (j ≤ i))) (tVar 2) (tOp (rI CPow fun i j => .int (i ^ j.toNat)) (tC (.int 10)) (tC (.int 18)))) tNil)))
        (tCons (tOp (rI0 fun i j => .int (i + j)) (tOp (rI (fun _ j => 0 < j) fun i j => .int (i % j)) (tCB (fun xs H Q => (∃ i, xs = [.int i] ∧ Q (.int i) H) ∨ ∃ k, xs = [.bl k] ∧ Q (.int (if k then 1 else 0)) H)
          (tCons (tOp (rI0 fun i j => .int (i + j)) (tOp (rI CMul fun i j => .int (i * j)) (tOp (rI (fun _ j => 0 < j) fun i j => .int (i % j)) (tCB (fun xs H Q => (∃ i, xs = [.int i] ∧ Q (.int i) H) ∨ ∃ k, xs = [.bl k] ∧ Q (.int (if k then 1 else 0)) H) (tCons (tVar 2) tNil)) (tC (.int 2147483629))) (tC (.int 44041)))
            (tOp (rI CMul fun i j => .int (i * j)) (tC (.int 51023)) (tVar 1))) tNil)) (tC (.int 2147483629))) (tC (.int 1))) (tCons (tC (.int 0)) tNil)))) { nx := fun _ H' => Q .non H', rt := Q } σ H := by
      rintro cell h0 _ rfl
      refine ⟨_, rfl, two_le, fun l hl => ⟨_, rfl, _, _, rfl, rfl, ⟨by decide, by decide, by decide⟩, _, _, rfl, rfl, .inr ⟨_, rfl, ?_⟩⟩⟩
      have same : Same H (upd H l (.lst [.int 0, .int cell])) := fun b o e => by rw [upd_ne (ne_of_none e hl)]; exact e
      have m0 := Int.emod_nonneg ((cell % 2147483629) * 44041 + 51023 * k) (show (2147483629 : Int) ≠ 0 by decide)
      have m1 := Int.emod_lt_of_pos ((cell % 2147483629) * 44041 + 51023 * k) (show (0 : Int) < 2147483629 by decide)
      have q0 := Int.emod_nonneg cell (show (2147483629 : Int) ≠ 0 by decide)
      have q1 := Int.emod_lt_of_pos cell (show (0 : Int) < 2147483629 by decide)
      have fin : ∀ c : Int, 0 ≤ c → ∀ p, (upd H l (.lst [.int 0, .int cell])) p = none → Q (.ref p) (upd (upd H l (.lst [.int 0, .int cell])) p (.lst [.int c, .int (((cell % 2147483629) * 44041 + 51023 * k) % 2147483629 + 1), .int 0])) := fun c hc p hp => by
        refine hq p _ (fun b o e => ?_) ?_ ⟨c, _, 0, ⟨upd_same, hc, by omega, by omega, by decide, by decide⟩, Int.le_refl _⟩
        · have e2 := same b o e
          rw [upd_ne (ne_of_none e2 hp)]
          exact e2
        · cases z : H p with
          | none => rfl
          | some o =>
            rw [same p o z] at hp
            cases hp
      have posM : (0 : Int) < 2147483629 := by decide
      have three : 3 ≤ sizeLine := by rw [sizeLine_eq]; decide
      by_cases big : (10 : Int) ^ (18 : Int).toNat ≤ cell
      · rw [decide_eq_true big]
        refine ⟨l, _, 1, _, rfl, rfl, .inl (.inl upd_same), atI_nat (j := 1) rfl, ?_⟩
        exact ⟨_, rfl, .inl ⟨_, rfl, _, _, rfl, rfl, posM, _, _, rfl, rfl, .inr ⟨by decide, by decide⟩, _, rfl, _, _, rfl, rfl, .inl ⟨by decide, by decide⟩, _, _, rfl, rfl, .inl ⟨_, rfl, _, _, rfl, rfl, posM, _, _, rfl, rfl, three, fin cell h0⟩⟩⟩
      · rw [decide_eq_false big]
        refine ⟨l, _, 0, _, rfl, rfl, .inl (.inl upd_same), atI_nat (j := 0) rfl, ?_⟩
        exact ⟨_, rfl, .inl ⟨_, rfl, _, _, rfl, rfl, posM, _, _, rfl, rfl, .inr ⟨by decide, by decide⟩, _, rfl, _, _, rfl, rfl, .inl ⟨by decide, by decide⟩, _, _, rfl, rfl, .inl ⟨_, rfl, _, _, rfl, rfl, posM, _, _, rfl, rfl, three, fin 0 (by decide)⟩⟩⟩
    refine ⟨_, rfl, _, _, rfl, rfl, .inl ⟨by decide, by decide⟩, _, _, rfl, rfl, ?_⟩
    refine ⟨_, rfl, _, rfl, a, _, rfl, .inl hS, _, _, rfl, rfl, _, rfl, ite2 (fun h => ?_) (fun h => ?_)⟩
    · have hk2 : k < ns.length := by
        have z := of_decide_eq_true h
        rw [List.length_map] at z
        omega
      refine ⟨_, rfl, _, rfl, a, _, _, _, rfl, rfl, hS, atI_nat (j := k) (by rw [List.getElem?_map, List.getElem?_eq_getElem hk2]; rfl), _, rfl, ?_⟩
      refine last _ ?_ _ rfl
      split <;> omega
    · refine ⟨_, rfl, a, _, rfl, .inl hS, _, _, rfl, rfl, _, rfl, ite2 (fun h2 => ?_) (fun h2 => ?_)⟩
      · have hp : 0 < ns.length := by
          have z := of_decide_eq_true h2
          rw [List.length_map] at z
          omega
        have m0 := Int.emod_nonneg (k : Int) (show (ns.length : Int) ≠ 0 by omega)
        have m1 := Int.emod_lt_of_pos (k : Int) (show (0 : Int) < ns.length by omega)
        obtain ⟨j, hj⟩ : ∃ j : Nat, (k : Int) % (ns.length : Int) = j := ⟨((k : Int) % (ns.length : Int)).toNat, by omega⟩
        have hj2 : j < ns.length := by omega
        refine ⟨_, rfl, _, rfl, _, rfl, .inl ⟨_, rfl, _, rfl, a, _, rfl, .inl hS, _, _, rfl, rfl, by rw [List.length_map]; omega, a, _, _, .int ns[j], rfl, rfl, hS, ?_, ?_⟩⟩
        · rw [List.length_map, hj]
          exact atI_nat (by rw [List.getElem?_map, List.getElem?_eq_getElem hj2]; rfl)
        · refine ⟨_, rfl, .inl ⟨_, rfl, _, _, rfl, rfl, (show (0 : Int) < 2147483629 by decide), _, _, rfl, rfl, .inr ⟨by decide, by decide⟩, _, _, rfl, rfl, ?_⟩⟩
          refine last _ ?_ _ rfl
          have z := Int.emod_nonneg (if ns[j] < 0 then -ns[j] else ns[j]) (show (2147483629 : Int) ≠ 0 by decide)
          omega
      · exact last _ (by omega) _ rfl
theorem sc__law_take : FnScope ["_law_box_here", "_law_many", "_law_digit", "_law_raw"] ["_law_box_here", "_law_many"] (defScope s__law_take) := ⟨rfl, rfl, rfl, by decide +kernel, rfl, by decide +kernel, by decide +kernel⟩
theorem fk__law_take (c : SaysS cfg.facts cfg.fn K) (T : EnvOk cfg K mg) : Fk P w K mg base 2 "_law_take" ["_law_box_here", "_law_many"] (spTake) := by
  obtain ⟨fd, hh⟩ := has_of c T 18 "_law_take" s__law_take rfl
  refine Fk.of hh ?_ (hh.F.bindsN fun _ _ _ _ _ _ us hl => match us, hl with | [_, _], _ => rfl)
  have F := hh.F
  have mInt := T.free "int" (by decide)
  refine F.ok sc__law_take (fun vs H Q E h => ?_) (fun cdv A outer s H vs Q E hr h => ?_)
  · obtain ⟨a, m, n, rfl, _⟩ := h
    rfl
  · obtain ⟨a, m, n, rfl, ⟨c, d, e, ⟨hb, hc, hd1, hd2, he1, he2⟩, hen⟩, he, hm1, hm2, hq0⟩ := h
    have hq : ∀ (r : Nat) c' d' e', (r : Int) < m → Box (upd H a (.lst [.int c', .int d', .int e'])) a c' d' e' → e' ≤ e + 1 → Q (.int r) (upd H a (.lst [.int c', .int d', .int e'])) := fun r c' d' e' h1 h2 h3 => hq0 r _ h1 but_upd ⟨c', d', e', h2, by omega⟩
    refine ⟨_, pss_cons (ps_if (pt_cmpR op_gt (pe_ix ix_list (pv 0) pe_int (fun _ _ => rfl)) pe_int (nomark _))
          (pss_cons (ps_set (i := 2) sc__law_take.nd rfl (.inl rfl) (pe_op op_mod (pe_callTy call_int1 (by rfl) mInt PyProof.Rows.boot_int (pa_cons (pe_ix ix_list (pv 0) pe_int (fun _ _ => rfl)) pa_nil)) (pv 1)))
          (pss_cons (ps_asg (pe_op op_fdiv (pe_ix ix_list (pv 0) pe_int (fun _ _ => rfl)) (pv 1)) (pg_sub (pv 0) pe_int set_list (fun _ => rfl)))
          (pss_one (ps_ret (pv 2))))) pss_nil)
      (pss_cons (ps_asg (pe_op op_add (pe_ix ix_list (pv 0) pe_int (fun _ _ => rfl)) pe_int) (pg_sub (pv 0) pe_int set_list (fun _ => rfl)))
      (pss_cons (ps_set (i := 3) sc__law_take.nd rfl (.inl rfl) (pe_op op_mod (pe_callTy call_int1 (by rfl) mInt PyProof.Rows.boot_int (pa_cons (pe_op op_add (pe_op op_mul (pe_op op_add (pe_ix ix_list (pv 0) pe_int (fun _ _ => rfl)) (pe_op op_mul pe_int (pe_ix ix_list (pv 0) pe_int (fun _ _ => rfl)))) pe_int) pe_int) pa_nil)) pe_int))
      (pss_cons (ps_asg (pe_op op_add (pe_op op_mod (pe_callTy call_int1 (by rfl) mInt PyProof.Rows.boot_int (pa_cons (pe_op op_add (pe_op op_mul (pv 3) pe_int) pe_int) pa_nil)) pe_int) pe_int) (pg_sub (pv 0) pe_int set_list (fun _ => rfl)))
      (pss_one (ps_ret (pe_op op_mod (pe_callTy call_int1 (by rfl) mInt PyProof.Rows.boot_int (pa_cons (pe_op op_fdiv (pe_op op_add (pe_op op_mul (pv 3) pe_int) (pe_ix ix_list (pv 0) pe_int (fun _ _ => rfl))) pe_int) pa_nil)) (pv 1))))))), ?_⟩
    have hS : SqL K H a [.int c, .int d, .int e] := .inl (.inl hb)
    refine ⟨_, rfl, a, _, 0, .int c, rfl, rfl, hS, rfl, _, _, rfl, rfl, _, rfl, ite2 (fun h => ?_) (fun h => ?_)⟩
    · have m0 := Int.emod_nonneg c (show m ≠ 0 by omega)
      have m1 := Int.emod_lt_of_pos c hm1
      obtain ⟨r, hr'⟩ : ∃ r : Nat, c % m = r := ⟨(c % m).toNat, by omega⟩
      have hdv : 0 ≤ c / m := Int.ediv_nonneg hc (by omega)
      have q := hq r (c / m) d e (by omega) ⟨upd_same, hdv, hd1, hd2, he1, by omega⟩ (by omega)
      rw [← hr'] at q
      exact ⟨_, rfl, a, _, 0, .int c, rfl, rfl, hS, rfl, .inl ⟨_, rfl, _, rfl, _, _, rfl, rfl, hm1, _, rfl, a, _, 0, .int c, rfl, rfl, hS, rfl, _, rfl, _, _, rfl, rfl, ⟨hm1, by omega⟩, _, rfl, a, _, 0, 0, rfl, rfl, hb, rfl, _, rfl, q⟩⟩
    · refine ⟨_, rfl, a, _, 2, .int e, rfl, rfl, hS, rfl, _, _, rfl, rfl, _, rfl, a, _, 2, 2, rfl, rfl, hb, rfl, ?_⟩
      have hS1 : SqL K (upd H a (.lst [.int c, .int d, .int (e + 1)])) a [.int c, .int d, .int (e + 1)] := .inl (.inl upd_same)
      have pos1 : (0 : Int) < 2147483563 := by decide
      have pos2 : (0 : Int) < 2147483629 := by decide
      refine ⟨_, rfl, a, _, 1, .int d, rfl, rfl, hS1, rfl, _, rfl, a, _, 2, .int (e + 1), rfl, rfl, hS1, rfl, _, _, rfl, rfl, .inl ⟨by decide, by decide⟩, _, _, rfl, rfl, _, _, rfl, rfl, .inr ⟨by decide, by decide⟩, _, _, rfl, rfl, .inl ⟨_, rfl, _, _, rfl, rfl, pos1, ?_⟩⟩
      have n0 := Int.emod_nonneg ((((d + 71045 * (e + 1)) * 62019 + 43) % 2147483563) * 39031 + 21019) (show (2147483629 : Int) ≠ 0 by decide)
      have n1 := Int.emod_lt_of_pos ((((d + 71045 * (e + 1)) * 62019 + 43) % 2147483563) * 39031 + 21019) pos2
      refine ⟨_, rfl, _, _, rfl, rfl, .inr ⟨by decide, by decide⟩, _, _, rfl, rfl, .inl ⟨_, rfl, _, _, rfl, rfl, pos2, _, _, rfl, rfl, _, rfl, a, _, 1, 1, rfl, rfl, upd_same, rfl, ?_⟩⟩
      rw [upd_upd]
      have hS2 : SqL K (upd H a (.lst [.int c, .int (((((d + 71045 * (e + 1)) * 62019 + 43) % 2147483563) * 39031 + 21019) % 2147483629 + 1), .int (e + 1)])) a [.int c, .int (((((d + 71045 * (e + 1)) * 62019 + 43) % 2147483563) * 39031 + 21019) % 2147483629 + 1), .int (e + 1)] := .inl (.inl upd_same)
      have z0 := Int.emod_nonneg (((((d + 71045 * (e + 1)) * 62019 + 43) % 2147483563) * 2147483647 + (((((d + 71045 * (e + 1)) * 62019 + 43) % 2147483563) * 39031 + 21019) % 2147483629 + 1)) / 8191) (show m ≠ 0 by omega)
      have z1 := Int.emod_lt_of_pos (((((d + 71045 * (e + 1)) * 62019 + 43) % 2147483563) * 2147483647 + (((((d + 71045 * (e + 1)) * 62019 + 43) % 2147483563) * 39031 + 21019) % 2147483629 + 1)) / 8191) hm1
      obtain ⟨r, hr'⟩ : ∃ r : Nat, (((((d + 71045 * (e + 1)) * 62019 + 43) % 2147483563) * 2147483647 + (((((d + 71045 * (e + 1)) * 62019 + 43) % 2147483563) * 39031 + 21019) % 2147483629 + 1)) / 8191) % m = r := ⟨((((((d + 71045 * (e + 1)) * 62019 + 43) % 2147483563) * 2147483647 + (((((d + 71045 * (e + 1)) * 62019 + 43) % 2147483563) * 39031 + 21019) % 2147483629 + 1)) / 8191) % m).toNat, by omega⟩
      have q := hq r c (((((d + 71045 * (e + 1)) * 62019 + 43) % 2147483563) * 39031 + 21019) % 2147483629 + 1) (e + 1) (by omega) ⟨upd_same, hc, by omega, by omega, by omega, by omega⟩ (by omega)
      rw [← hr'] at q
      exact ⟨_, rfl, _, _, rfl, rfl, .inr ⟨by decide, by decide⟩, _, rfl, a, _, 1, _, rfl, rfl, hS2, rfl, _, _, rfl, rfl, _, _, rfl, rfl, ⟨by decide, by decide⟩, .inl ⟨_, rfl, _, rfl, _, _, rfl, rfl, hm1, q⟩⟩
theorem sc__law_pick : FnScope ["_law_box_here", "_law_some"] ["_law_box_here", "_law_some"] (defScope s__law_pick) := ⟨rfl, rfl, rfl, by decide +kernel, rfl, by decide +kernel, by decide +kernel⟩
theorem fk__law_pick (c : SaysS cfg.facts cfg.fn K) (T : EnvOk cfg K mg) : Fk P w K mg base 3 "_law_pick" ["_law_box_here", "_law_some"] (spPick K) := by
  obtain ⟨fd, hh⟩ := has_of c T 19 "_law_pick" s__law_pick rfl
  refine Fk.of hh ?_ (hh.F.bindsN fun _ _ _ _ _ _ us hl => match us, hl with | [_, _], _ => rfl)
  have F := hh.F
  have mLen := T.free "len" (by decide)
  refine F.ok sc__law_pick (fun vs H Q E h => ?_) (fun cdv A outer s H vs Q E hr h => ?_)
  · obtain ⟨a, b, n, xs, rfl, _⟩ := h
    rfl
  · obtain ⟨a, b, n, xs, rfl, hB, he, hS, hab, hx0, hx1, hq⟩ := h
    refine ⟨_, pss_one (ps_ret (pe_ix ix_list (pv 1) (pe_f (fk__law_take c T) hr (by decide) (by rfl) passL (pa_cons (pv 0) (pa_cons (pe_callB call_len_seq (by rfl) mLen PySem.boot_len (pa_cons (pv 1) pa_nil)) pa_nil))) (fun _ _ => rfl))), ?_⟩
    refine ⟨_, rfl, _, rfl, _, rfl, b, xs, rfl, .inl hS, a, _, n, rfl, hB, he, by omega, by omega, fun r H' hr2 bt hB2 => ?_⟩
    have hr3 : r < xs.length := by omega
    exact ⟨b, xs, r, xs[r], rfl, rfl, bt.seq (Ne.symm hab) hS, atI_nat (List.getElem?_eq_getElem hr3), hq r _ H' (List.getElem?_eq_getElem hr3) bt hB2⟩
end
end K02

namespace K02
open PySem PySem.Spec PyProof.Rows L2 Shf LamX
section
def ecs : List EC := [⟨"InvalidLayout", "layout", true⟩, ⟨"InvalidIndex", "index", true⟩, ⟨"InvalidRoom", "room", true⟩, ⟨"InvalidSize", "size", false⟩]
theorem sc__law_error : FnScope ["_law_work", "e"] ["_law_work"] (defScope s__law_error) := ⟨rfl, rfl, rfl, by decide +kernel, rfl, by decide +kernel, by decide +kernel⟩
theorem lerr_gives {X : Cx} (T : EnvOk cfg X.K X.mg) {g : Addr} {cdg : Value} {q : PySem.Str} : GivesTo X ["_law_work", "e"] "_law_error" (defScope s__law_error) g cdg (defBody s__law_error) "_law_work" q (TErr X.K ecs) := by
  intro f c' s H Q tl act hc h
  refine ⟨_, pss_cons (ps_try_cls (X := (cxOf C8.CX0 X.prog X.w X.K X.mg X.base ["_law_work", "e"] "_law_error" (defScope s__law_error) g cdg X.A X.stack s H C8.E0).nox)
      (tb := fun W D σ H => ∃ Ech : XK, (∀ cls d σ' H', Ech cls d H' → σ'.length = 2 → W cls d σ' H') ∧ σ[0]? = some (some (.ref f)) ∧ H c' = some (CodeO c' q) ∧ tl Ech H fun _ H1 => D.nx σ H1)
      rfl rfl sc__law_error.nd LamX.takes0 (fun W pn xe tk _ => ?_)
      (.as (i := 1) (ts := sAtL X.K "InvalidLayout" "layout") rfl rfl ⟨rfl, by decide, .inl (T.g "InvalidLayout" (by decide))⟩ (fun a oe cls d pn hz hf => pss_one (ps_ret (pe_tup (pa_cons pe_str (pa_cons (pe_by_at (T.at_ "InvalidLayout" (by decide)) hz hf (pv 1)) pa_nil))))) (.as (i := 1) (ts := sAtL X.K "InvalidIndex" "index") rfl rfl ⟨rfl, by decide, .inl (T.g "InvalidIndex" (by decide))⟩ (fun a oe cls d pn hz hf => pss_one (ps_ret (pe_tup (pa_cons pe_str (pa_cons (pe_by_at (T.at_ "InvalidIndex" (by decide)) hz hf (pv 1)) pa_nil))))) (.as (i := 1) (ts := sAtL X.K "InvalidRoom" "room") rfl rfl ⟨rfl, by decide, .inl (T.g "InvalidRoom" (by decide))⟩ (fun a oe cls d pn hz hf => pss_one (ps_ret (pe_tup (pa_cons pe_str (pa_cons (pe_by_at (T.at_ "InvalidRoom" (by decide)) hz hf (pv 1)) pa_nil))))) (.as (i := 1) (ts := sWordL X.K "InvalidSize" "size") rfl rfl ⟨rfl, by decide, .inl (T.g "InvalidSize" (by decide))⟩ (fun a oe cls d pn hz hf => pss_one (ps_ret (pe_tup (pa_cons pe_str (pa_cons (pe_by_word (T.word "InvalidSize" (by decide)) hz hf (pv 1)) pa_nil))))) .nil))))) (pss_one (ps_ret pe_non)), ?_⟩
  · refine ⟨fun pins s' σ H' D I h' => ?_⟩
    obtain ⟨Ech, hW, h1, h2, h3⟩ := h'
    exact (pss_one (ps_expr (act (fun cls d σ' H' => σ'.length = 2 → W cls d σ' H') pn xe Ech _ _ (takes_len tk) hW))).run pins s' σ H' D I ⟨h1, h2, h3⟩
  · refine ⟨fun cls d H' => ErrIn X.K ecs cls d H' Q, fun cls d σ' H' e hl => ?_, rfl, hc, h⟩
    obtain ⟨z, hz, rfl, a, v, rfl, ha, hq⟩ := e
    rcases List.mem_cons.mp hz with rfl | hz
    · exact yes_clause T "InvalidLayout" (by decide) fun a2 _ => sAtL_run hl ha hq
    rcases List.mem_cons.mp hz with rfl | hz
    · exact no_clause T "InvalidIndex" "InvalidLayout" (by decide) (by decide) (by decide) (yes_clause T "InvalidIndex" (by decide) fun a2 _ => sAtL_run hl ha hq)
    rcases List.mem_cons.mp hz with rfl | hz
    · exact no_clause T "InvalidRoom" "InvalidLayout" (by decide) (by decide) (by decide) (no_clause T "InvalidRoom" "InvalidIndex" (by decide) (by decide) (by decide) (yes_clause T "InvalidRoom" (by decide) fun a2 _ => sAtL_run hl ha hq))
    obtain rfl := List.mem_singleton.mp hz
    exact no_clause T "InvalidSize" "InvalidLayout" (by decide) (by decide) (by decide) (no_clause T "InvalidSize" "InvalidIndex" (by decide) (by decide) (by decide) (no_clause T "InvalidSize" "InvalidRoom" (by decide) (by decide) (by decide) (yes_clause T "InvalidSize" (by decide) fun a2 _ => sWordL_run hl ha hq)))
/-- _law_error(lambda: body) -/
theorem pe_lerr {X : Cx} {fd : FuncData} {k : Nat} {c Pt : Addr} {Ts : List (Addr × PySem.Str)} {params : Arguments} {body : Expr} {scope : Scope} {t : XK → TE} {p lpos pos : Pos} (T : EnvOk cfg X.K X.mg) (hh : Has X.K X.mg "_law_error" s__law_error fd) (hg : Gl X "_law_error")
    (tab : TabOk X Ts c Pt) (hr : Room (k + 2) X.A) (L : LamS X.env.scope scope)
    (hbody : ∀ (A : Around) (outer : List Env) (s : Shared) (H : Hp) (E : XK) (f c' : Addr), Room k (A.deeper (lamEnv X scope s.heap.objs.size f c')) → PE (lamCx X A outer s H E scope f c') body (t E))
    (hdef : defaultsOf params X.env = ([], []) := by rfl) (hbind : ∀ (q : PySem.Str) (cl : List (PySem.Str × Addr)) (pm cv ctv : Value), bindArgs (PySem.W.kla_fn "<lambda>" q params body scope cl pm cv ctv) ⟨[], []⟩ = pure [] := by intros; rfl) :
    PE X (.Call (.Name "_law_error" p) [.Lambda params body scope lpos] [] pos) (tLam Ts (TErr X.K ecs) t) := by
  have b := hh.F.bindsN (ps := ["_law_work"]) fun _ _ _ _ _ _ us hl => match us, hl with | [_], _ => rfl
  obtain ⟨oc, od, dV, kV, doc, pm, an, cdv, ct, osl, rfl, lk, hcd, _, _⟩ := hh.F.ex
  exact pe_lamcall (a := "_law_work") (Ng := ["_law_work", "e"]) hg hh.g hh.F.kp lk hcd b sc__law_error rfl (.inl rfl) (lerr_gives T) tab.b tab.code tab.mem tab.one hr L hdef hbind hbody
end
end K02

namespace K02
open PySem PySem.Spec PyProof.Rows L2 Shf
section
variable {P : Program} {w : World} {K : PySem.W.Frag} {mg : PySem.Str → Option Value} {base : Heap}
theorem sc__law_mixed : FnScope ["_law_box_here", "_law_row", "_law_left", "_law_found", "_law_turn"] ["_law_box_here", "_law_row"] (defScope s__law_mixed) := ⟨rfl, rfl, rfl, by decide +kernel, rfl, by decide +kernel, by decide +kernel⟩
theorem fk__law_mixed (c : SaysS cfg.facts cfg.fn K) (T : EnvOk cfg K mg) : Fk P w K mg base 3 "_law_mixed" ["_law_box_here", "_law_row"] (spMixed K) := by
  obtain ⟨fd, hh⟩ := has_of c T 20 "_law_mixed" s__law_mixed rfl
  refine Fk.of hh (hh.F.ok sc__law_mixed (fun vs H Q E h => ?_) (fun cdv A outer s H vs Q E hr h => ?_)) (hh.F.bindsN fun _ _ _ _ _ _ us hl => match us, hl with | [_, _], _ => rfl)
  · obtain ⟨a, b, n, xs, rfl, _⟩ := h
    rfl
  · obtain ⟨a, b, n, xs, rfl, hB, hS, hab, hl, hn, hq⟩ := h
    have mlist := T.free "list" (by decide)
    have mrange := T.free "range" (by decide)
    have mlen := T.free "len" (by decide)
    refine ⟨_, (pss_cons (ps_par (i := 2) (j := 3) (by rfl) sc__law_mixed.nd rfl rfl (by decide) rfl rfl (pa_cons (pe_callTy cr_listOf (by rfl) mlist (by decide +kernel) (pa_cons (pv 1) pa_nil)) (pa_cons (pe_lst pa_nil) pa_nil)) (by rfl))
          (pss_cons (ps_for (passes_of rfl) rfl (pi_range1 (by rfl) mrange (pa_cons (pe_callB call_len_seq (by rfl) mlen PySem.boot_len (pa_cons (pv 1) pa_nil)) pa_nil)) (pg_name (i := 4) sc__law_mixed.nd rfl (.inl rfl))
          (pss_one (ps_expr (pe_bm PySem.F.plainAttrs_list PySem.F.slot_list_append PySem.F.type_list_append mt_append (pv 3) (pa_cons (pe_bm PySem.F.plainAttrs_list PySem.F.slot_list_pop PySem.F.type_list_pop mt_popAt (pv 2) (pa_cons (pe_f (fk__law_take c T) hr (by decide) (by rfl) passL (pa_cons (pv 0) (pa_cons (pe_callB call_len_seq (by rfl) mlen PySem.boot_len (pa_cons (pv 2) pa_nil)) pa_nil))) pa_nil)) pa_nil)))))
          (pss_one (ps_ret (pv 3))))), ?_⟩
    refine ⟨_, rfl, b, xs, rfl, hS, fun lL hL => ⟨Nat.zero_le _, fun lF hF => ⟨_, _, rfl, ?_⟩⟩⟩
    obtain ⟨c0, d0', e0, hBx, hen⟩ := hB
    have n1 : a ≠ lL := ne_of_none hBx.1 hL
    have hBx1 := (upd_ne (o := HO.lst xs) n1).trans hBx.1
    have n2 : a ≠ lF := ne_of_none hBx1 hF
    have n3 : lL ≠ lF := ne_of_none upd_same hF
    have s0 : Same H (upd (upd H lL (.lst xs)) lF (.lst [])) := (same_new hL).tr (same_new hF)
    have hF0 : H lF = none := by
      cases z : H lF with
      | none => rfl
      | some o =>
        have y := same_new (o := HO.lst xs) hL lF o z
        rw [hF] at y
        cases y
    refine ⟨_, rfl, b, xs, rfl, ?_, (xs.length : Nat), rfl, by omega, by omega, ?_⟩
    · exact Sq.same s0 hS
    rw [show ((xs.length : Nat) : Int).toNat = xs.length by omega]
    refine for_range (lo := 0) (n := xs.length) (fun i σ H' => ∃ left found x4, σ = [some (.ref a), some (.ref b), some (.ref lL), some (.ref lF), x4] ∧ H' lL = some (.lst left) ∧ H' lF = some (.lst found) ∧ (found ++ left).Perm xs ∧ left.length + i = xs.length ∧ But a H H' ∧ BoxN H' a (n + i)) ?_ ?_ ?_
    · refine ⟨xs, [], none, rfl, (upd_ne n3).trans upd_same, upd_same, List.Perm.refl _, rfl, But.of s0, c0, d0', e0, ⟨(upd_ne n2).trans hBx1, hBx.2⟩, ?_⟩
      show e0 ≤ n + 0
      omega
    · rintro i σ H' hi ⟨left, found, x4, rfl, h1, h2, hp, hlen, bt, hBi⟩
      have hl0 : 0 < left.length := by omega
      refine ⟨_, rfl, .inl ⟨rfl, _, SqL.of h2⟩, _, rfl, .inl ⟨rfl, _, SqL.of h1⟩, _, rfl, _, rfl, lL, left, rfl, .inl (SqL.of h1), a, _, n + i, rfl, hBi, by omega, by omega, by omega, fun r H2 hr2 bt2 hB2 => ?_⟩
      have hr3 : r < left.length := by omega
      have g1 := bt2 lL _ (Ne.symm n1) h1
      have g2 := bt2 lF _ (Ne.symm n2) h2
      have hgl : left.length ≤ xs.length := by omega
      have hfl : found.length ≤ xs.length := by
        have z := hp.length_eq
        rw [List.length_append] at z
        omega
      refine ⟨lL, left, r, r, left[r], rfl, rfl, g1, by omega, by omega, by unfold seqIndex?; simp; omega, List.getElem?_eq_getElem hr3, lF, found, left[r], rfl, rfl, (upd_ne (Ne.symm n3)).trans g2, by rw [sizeLine_eq]; omega, ?_⟩
      refine ⟨left.eraseIdx r, found ++ [left[r]], _, rfl, ?_, upd_same, ?_, ?_, ?_, ?_⟩
      · exact (upd_ne n3).trans upd_same
      · have z := pick_perm' left r hr3
        rw [List.append_assoc]
        exact (List.Perm.append_left found z).trans hp
      · rw [List.length_eraseIdx]
        rw [if_pos hr3]
        omega
      · intro bb o nb e
        rw [upd_ne (ne_of_none e hF0), upd_ne (ne_of_none e hL)]
        exact bt2 bb o nb (bt bb o nb e)
      · obtain ⟨c1, d1', e1, hb1, hb2⟩ := hB2
        refine ⟨c1, d1', e1, ⟨(upd_ne n2).trans ((upd_ne n1).trans hb1.1), hb1.2⟩, ?_⟩
        show e1 ≤ n + ((i + 1 : Nat) : Int)
        omega
    · rintro σ H' ⟨left, found, x4, rfl, h1, h2, hp, hlen, bt, hBi⟩
      have e : left = [] := List.length_eq_zero_iff.mp (by omega)
      subst e
      rw [List.append_nil] at hp
      exact ⟨_, rfl, hq lF found H' hp hF0 (Ne.symm n2) h2 bt hBi⟩
end
end K02

namespace K02
open PySem PySem.Spec PyProof.Rows L2 Shf
section
variable {P : Program} {w : World} {K : PySem.W.Frag} {mg : PySem.Str → Option Value} {base : Heap}
theorem room65 {k : Nat} {A : Around} (r : Room k A) : A.units + 65 < cLine := by
  have := r.un
  omega
theorem sc__law_plain : FnScope ["_law_numbers", "_law_names", "_law_number"] ["_law_numbers"] (defScope s__law_plain) := ⟨rfl, rfl, rfl, by decide +kernel, rfl, by decide +kernel, by decide +kernel⟩
theorem fk__law_plain (c : SaysS cfg.facts cfg.fn K) (T : EnvOk cfg K mg) : Fk P w K mg base 2 "_law_plain" ["_law_numbers"] (spNumbered K) := by
  obtain ⟨fd, hh⟩ := has_of c T 21 "_law_plain" s__law_plain rfl
  refine Fk.of hh (hh.F.ok sc__law_plain (fun vs H Q E h => ?_) (fun cdv A outer s H vs Q E hr h => ?_)) (hh.F.bindsN fun _ _ _ _ _ _ us hl => match us, hl with | [_], _ => rfl)
  · obtain ⟨a, w, rfl, _⟩ := h
    rfl
  · obtain ⟨a, w, rfl, hS, hw, hq⟩ := h
    have mtuple := T.free "tuple" (by decide)
    refine ⟨_, (pss_cons (ps_set (i := 1) sc__law_plain.nd rfl (.inr rfl) (pe_lst pa_nil))
          (pss_cons (ps_for (passes_of rfl) rfl (pi_sq (pv 0)) (pg_name (i := 2) sc__law_plain.nd rfl (.inl rfl))
          (pss_one (ps_if (pt_cmpR op_notIn_seq (pv 2) (pv 1) rfl) (pss_one (ps_expr (pe_bm PySem.F.plainAttrs_list PySem.F.slot_list_append PySem.F.type_list_append mt_append (pv 1) (pa_cons (pv 2) pa_nil)))) pss_nil)))
          (pss_one (ps_ret (pe_tupleOf (by rfl) mtuple (pe_lc (g := gName 2) (te := (tBM K "list" (rIndex K) (tVar 1) (tCons (tVar 2) tNil))) (own := [("_law_number", 2)]) rfl sc__law_plain.nd (pi_sq (pv 0)) (blkOk_by (N := ["_law_numbers", "_law_names", "_law_number"]) (sc := defScope s__law_plain) (by decide +kernel)) (fun s H C cl fp => (pg_name (i := 2) sc__law_plain.nd rfl (.inl rfl))) (fun s H C cl fp => pts_nil) (fun s H C cl fp => by exact (pe_bm PySem.F.plainAttrs_list PySem.F.slot_list_index PySem.F.type_list_index mt_index (pv 1) (pa_cons (pv 2) pa_nil))))))))), ?_⟩
    have hlw : (nV w).length = w.length := List.length_map ..
    refine t_seq ⟨Nat.zero_le _, fun pN hpN => ?_⟩
    have s1 : Same H (upd H pN (.lst [])) := same_new hpN
    have hN1 : (upd H pN (.lst [])) pN = some (.lst []) := upd_same
    generalize (upd H pN (.lst [])) = H1 at s1 hN1 ⊢
    try dsimp only [gName]
    refine t_seq (for_read ⟨_, rfl, for_old (H0 := H) hS (fun i σ H' => ∃ (z2 : Option V), σ = [some (.ref a), some (.ref pN), z2] ∧ Same H H' ∧ H' pN = some (.lst (nV (dd [] (w.take i))))) ⟨none, rfl, s1, hN1⟩ (fun _ _ _ ⟨_, _, s, _⟩ => s) ?_ ?_⟩)
    · rintro i x σ H2 hx ⟨z2, rfl, s2, hN2⟩
      obtain ⟨b, rfl, hb⟩ := nV_of_at hx
      have ldd := dd_len (w.take i) []
      rw [List.length_take, List.length_nil] at ldd
      have hdd : dd [] (w.take (i + 1)) = if b ∈ dd [] (w.take i) then dd [] (w.take i) else dd [] (w.take i) ++ [b] := by
        rw [take_snoc hb, dd_snoc]
      unfold gName
      try dsimp only
      refine t_ifs (t_tst ⟨_, rfl, _, rfl, pN, _, rfl, .inl (SqL.of hN2), rfl, flat_nV _, _, rfl, ?_⟩)
      rw [inV_nat]
      by_cases c : b ∈ dd [] (w.take i)
      · rw [if_pos c] at hdd
        rw [decide_eq_true c]
        exact iteF (t_next ⟨_, rfl, s2, by rw [hdd]; exact hN2⟩)
      · rw [if_neg c] at hdd
        rw [decide_eq_false c]
        refine iteT (t_drop ⟨_, rfl, .inl ⟨rfl, _, SqL.of hN2⟩, _, rfl, pN, _, _, rfl, rfl, hN2, ?_, ⟨_, rfl, Same.upd s2 hpN, ?_⟩⟩)
        · rw [show (nV (dd [] (w.take i))).length = _ from List.length_map .., sizeLine_eq]
          omega
        · rw [upd_same, hdd, nV_snoc]
    · rintro σ H2 ⟨z2, rfl, s2, hN2⟩
      rw [hlw, List.take_length] at hN2
      try dsimp only
      refine t_ret (t_thn ?_)
      refine lc_sq (a := a) (xs := nV w) (Sq.same s2 hS) (fun j acc G => Same H2 G ∧ acc = nV ((w.take j).map (ix (dd [] w)))) ⟨Same.rfl', rfl⟩ (fun _ _ _ r => r.1) ?_ ?_ _ (fun R hR => ⟨_, rfl, hR⟩)
      · rintro j y acc G D hy hG ⟨g1, rfl⟩
        obtain ⟨b, rfl, hb⟩ := nV_of_at hy
        have hm : b ∈ dd [] w := (dd_mem w [] b).mpr (.inr (List.mem_of_getElem? hb))
        have hS3 := (g1.tr (same_upd (o := .lst (nV ((w.take j).map (ix (dd [] w))))) hG)).seq (K := K) (SqL.of hN2)
        refine ⟨rfl, t_yes (iteT ⟨_, rfl, .inl ⟨rfl, _, hS3⟩, _, rfl, ?_⟩)⟩
        dsimp only [tNil]
        refine index_nat hS3 hm (lc_put hG ?_ ⟨g1, ?_⟩)
        · rw [show (nV ((w.take j).map (ix (dd [] w)))).length = _ from List.length_map .., List.length_map, List.length_take, sizeLine_eq]
          have := (List.getElem?_eq_some_iff.mp hb).1
          omega
        · rw [take_snoc hb, List.map_append, List.map_singleton, nV_snoc]
      · rintro D acc G hG ⟨g1, rfl⟩
        rw [hlw, List.take_length]
        refine kTup_sq (.inl (SqL.of upd_same)) fun p H3 s3 hp => ?_
        exact hq (.ref p) H3 (s2.tr (g1.tr ((same_upd hG).tr s3))) (.tup hp (dAll_nat _))
theorem sc__law_count : FnScope ["_law_cells", "_law_room", "_law_counts", "_law_choices", "_law_many", "_law_size", "_law_at"] ["_law_cells", "_law_room"] (defScope s__law_count) := ⟨rfl, rfl, rfl, by decide +kernel, rfl, by decide +kernel, by decide +kernel⟩
theorem fk__law_count (c : SaysS cfg.facts cfg.fn K) (T : EnvOk cfg K mg) : Fk P w K mg base 2 "_law_count" ["_law_cells", "_law_room"] (spCountL K) := by
  obtain ⟨fd, hh⟩ := has_of c T 24 "_law_count" s__law_count rfl
  refine Fk.of hh (hh.F.ok sc__law_count (fun vs H Q E h => ?_) (fun cdv A outer s H vs Q E hr h => ?_)) (hh.F.bindsN fun _ _ _ _ _ _ us hl => match us, hl with | [_, _], _ => rfl)
  · obtain ⟨n, r, rfl, _⟩ := h
    rfl
  · obtain ⟨n, r, rfl, hn, h1, h2, hq⟩ := h
    have mrange := T.free "range" (by decide)
    have msum := T.free "sum" (by decide)
    have mmin := T.free "min" (by decide)
    refine ⟨_, (pss_cons (ps_asg (pe_tup (pa_cons (pe_lst (pa_cons pe_int pa_nil)) (pa_cons (pe_lst (pa_cons pe_int pa_nil)) pa_nil))) (pg_sq rfl (pgs_cons (pg_name (i := 2) sc__law_count.nd rfl (.inr rfl)) (pgs_cons (pg_name (i := 3) sc__law_count.nd rfl (.inr rfl)) pgs_nil))))
          (pss_cons (ps_for (passes_of rfl) rfl (pi_range2 (by rfl) mrange (pa_cons pe_int (pa_cons (pe_op op_add (pv 0) pe_int) pa_nil))) (pg_name (i := 4) sc__law_count.nd rfl (.inr rfl))
          (pss_cons (ps_expr (pe_bm PySem.F.plainAttrs_list PySem.F.slot_list_append PySem.F.type_list_append mt_append (pv 2) (pa_cons (pe_callB (cr_sum rfl) (by rfl) msum (by decide +kernel) (pa_cons (pe_lc (g := gName 5) (te := (tOp (rI IntMulOk fun i j => V.int (i * j)) (tOp (rIx K) (tVar 3) (tVar 5)) (tOp (rIx K) (tVar 2) (tOp (rI0 fun i j => V.int (i - j)) (tOp (rI0 fun i j => V.int (i - j)) (tVar 4) (tC (V.int 1))) (tVar 5))))) (own := [("_law_size", 5)]) rfl sc__law_count.nd (pi_range1 (by rfl) mrange (pa_cons (pe_callB (call_min2 rfl) (by rfl) mmin (by decide +kernel) (pa_cons (pv 1) (pa_cons (pv 4) pa_nil))) pa_nil)) (blkOk_by (N := ["_law_cells", "_law_room", "_law_counts", "_law_choices", "_law_many", "_law_size", "_law_at"]) (sc := defScope s__law_count) (by decide +kernel)) (fun s H C cl fp => (pg_name (i := 5) sc__law_count.nd rfl (.inl rfl))) (fun s H C cl fp => pts_nil) (fun s H C cl fp => by exact (pe_op op_mulG (pe_ix ix_seq (pv 3) (pv 5) (fun _ _ => rfl)) (pe_ix ix_seq (pv 2) (pe_op op_sub (pe_op op_sub (pv 4) pe_int) (pv 5)) (fun _ _ => rfl))))) pa_nil)) pa_nil)))
          (pss_one (ps_set (i := 3) sc__law_count.nd rfl (.inr rfl) (pe_op op_cat (pe_op op_cat (pe_lst (pa_cons pe_int pa_nil)) (pe_lc (g := gName 6) (te := (tOp (rI0 fun i j => V.int (i + j)) (tOp (rIx K) (tVar 3) (tVar 6)) (tOp (rIx K) (tVar 3) (tOp (rI0 fun i j => V.int (i + j)) (tVar 6) (tC (V.int 1)))))) (own := [("_law_at", 6)]) rfl sc__law_count.nd (pi_range1 (by rfl) mrange (pa_cons (pe_op op_sub (pv 4) pe_int) pa_nil)) (blkOk_by (N := ["_law_cells", "_law_room", "_law_counts", "_law_choices", "_law_many", "_law_size", "_law_at"]) (sc := defScope s__law_count) (by decide +kernel)) (fun s H C cl fp => (pg_name (i := 6) sc__law_count.nd rfl (.inl rfl))) (fun s H C cl fp => pts_nil) (fun s H C cl fp => by exact (pe_op op_add (pe_ix ix_seq (pv 3) (pv 6) (fun _ _ => rfl)) (pe_ix ix_seq (pv 3) (pe_op op_add (pv 6) pe_int) (fun _ _ => rfl)))))) (pe_lst (pa_cons pe_int pa_nil)))))))
          (pss_one (ps_ret (pe_ix ix_seq (pv 2) (pv 0) (fun _ _ => rfl)))))), ?_⟩
    refine t_seq (t_asg ⟨one_le, fun p1 hp1 => ⟨one_le, fun p2 hp2 => ⟨two_le, fun t ht => ⟨t, _, rfl, .inr (SqT.of upd_same), rfl, _, _, rfl, _, _, rfl, rfl, ?_⟩⟩⟩⟩)
    have s1 := ((same_new (o := .lst [V.int 1]) hp1).tr (same_new (o := .lst [V.int 1]) hp2)).tr (same_new (o := .tup [V.ref p1, V.ref p2]) ht)
    have h1a : (upd (upd (upd H p1 (.lst [V.int 1])) p2 (.lst [V.int 1])) t (.tup [V.ref p1, V.ref p2])) p1 = some (.lst [V.int 1]) := same_new ht _ _ (same_new hp2 _ _ upd_same)
    have h2a : (upd (upd (upd H p1 (.lst [V.int 1])) p2 (.lst [V.int 1])) t (.tup [V.ref p1, V.ref p2])) p2 = some (.lst [V.int 1]) := same_new ht _ _ upd_same
    have n21 : p2 ≠ p1 := Ne.symm (ne_of_none upd_same hp2)
    generalize (upd (upd (upd H p1 (.lst [V.int 1])) p2 (.lst [V.int 1])) t (.tup [V.ref p1, V.ref p2])) = H1 at s1 h1a h2a ⊢
    try dsimp only
    refine t_seq ⟨_, rfl, _, _, rfl, rfl, _, _, rfl, ⟨by omega, by omega, by omega, by omega⟩, ?_⟩
    rw [show ((n : Int) + 1 - 1).toNat = n by omega]
    refine for_range (lo := 1) (n := n) (fun i σ H' => ∃ (q : Addr) (z4 : Option V), σ = [some (.int (n : Int)), some (.int (r : Int)), some (.ref p1), some (.ref q), z4, none, none] ∧ Same H H' ∧ H' p1 = some (.lst (nV ((List.range (i + 1)).map (lc r)))) ∧ H' q = some (.lst (nV ((List.range (i + 1)).map (ch i)))) ∧ q ≠ p1) ⟨p2, none, rfl, s1, h1a, h2a, n21⟩ ?_ ?_
    · rintro i σ H2 hi ⟨q, z4, rfl, s2, hC, hR, nq⟩
      have hS : SqL K H2 p1 (nV ((List.range (i + 1)).map (lc r))) := SqL.of hC
      have hT : SqL K H2 q (nV ((List.range (i + 1)).map (ch i))) := SqL.of hR
      try dsimp only [gName]
      refine t_seq (t_drop ⟨_, rfl, .inl ⟨rfl, _, hS⟩, _, rfl, _, rfl, _, _, rfl, _, rfl, ?_, ?_, fun D hD => ?_⟩)
      · split <;> omega
      · split <;> omega
      rw [show (if (1 : Int) + (i : Int) < (r : Int) then (1 : Int) + (i : Int) else (r : Int)).toNat = min (i + 1) r by split <;> omega]
      refine lc_rg (lo := 0) (n := min (i + 1) r) (fun k acc G2 => Same H2 G2 ∧ acc = nV ((List.range k).map fun k => ch i k * lc r (i - k))) hD ⟨Same.rfl', rfl⟩ ?_ ?_
      · rintro k acc G2 hk hG ⟨g1, rfl⟩
        rw [Int.zero_add]
        have sU := g1.tr (same_upd (o := .lst (nV ((List.range k).map fun k => ch i k * lc r (i - k)))) hG)
        refine ⟨rfl, t_yes (iteT ⟨_, rfl, _, rfl, ix_sq (j := k) (.inl (sU.seq hT)) (rgM_at (by omega)) ⟨_, rfl, _, rfl, _, _, rfl, rfl, _, rfl, _, _, rfl, rfl, ?_⟩⟩)⟩
        try dsimp only
        rw [show (1 : Int) + (i : Int) - 1 - (k : Nat) = ((i - k : Nat) : Int) by omega]
        refine ix_sq (j := i - k) (.inl (sU.seq hS)) (rgM_at (by omega)) ⟨_, _, rfl, rfl, mulG (ch_le i k) (lc_le r 30 (i - k) (by omega)) (by have : (i - k) * 30 ≤ 30 * 30 := Nat.mul_le_mul_right _ (by omega); omega), lc_put hG ?_ ⟨g1, ?_⟩⟩
        · rw [rgM_len, sizeLine_eq]
          omega
        · rw [rgM_succ]
          rfl
      rintro acc G2 hG ⟨g1, rfl⟩
      have sE := g1.tr (same_upd (o := .lst (nV ((List.range (min (i + 1) r)).map fun k => ch i k * lc r (i - k)))) hG)
      refine ⟨D, ((List.range (min (i + 1) r)).map fun k => ch i k * lc r (i - k)).map fun x : Nat => (x : Int), rfl, SqL.of (by rw [upd_same, List.map_map]; rfl), ?_⟩
      rw [sum_nat, lc_sum r i h1]
      refine ⟨p1, _, _, rfl, rfl, sE _ _ hC, by rw [rgM_len, sizeLine_eq]; omega, ?_⟩
      rw [← rgM_succ (lc r) (i + 1)]
      have s3 : Same H (upd (upd G2 D (.lst (nV ((List.range (min (i + 1) r)).map fun k => ch i k * lc r (i - k))))) p1 (.lst (nV ((List.range (i + 1 + 1)).map (lc r))))) := Same.upd (s2.tr sE) hp1
      have hC3 : (upd (upd G2 D (.lst (nV ((List.range (min (i + 1) r)).map fun k => ch i k * lc r (i - k))))) p1 (.lst (nV ((List.range (i + 1 + 1)).map (lc r))))) p1 = some (.lst (nV ((List.range (i + 1 + 1)).map (lc r)))) := upd_same
      have hR3 : (upd (upd G2 D (.lst (nV ((List.range (min (i + 1) r)).map fun k => ch i k * lc r (i - k))))) p1 (.lst (nV ((List.range (i + 1 + 1)).map (lc r))))) q = some (.lst (nV ((List.range (i + 1)).map (ch i)))) := (upd_ne nq).trans (sE _ _ hR)
      generalize (upd (upd G2 D (.lst (nV ((List.range (min (i + 1) r)).map fun k => ch i k * lc r (i - k))))) p1 (.lst (nV ((List.range (i + 1 + 1)).map (lc r))))) = H3 at s3 hC3 hR3 ⊢
      try dsimp only
      refine ⟨one_le, fun pa hpa => ⟨_, rfl, _, _, rfl, rfl, _, rfl, by omega, by omega, fun D2 hD2 => ?_⟩⟩
      rw [show ((1 : Int) + (i : Int) - 1).toNat = i by omega]
      have sa := same_new (o := .lst [V.int 1]) hpa
      refine lc_rg (lo := 0) (n := i) (fun k acc G3 => Same (upd H3 pa (.lst [V.int 1])) G3 ∧ acc = nV ((List.range k).map fun k => ch i k + ch i (k + 1))) hD2 ⟨Same.rfl', rfl⟩ ?_ ?_
      · rintro k acc G3 hk hG3 ⟨g3, rfl⟩
        rw [Int.zero_add]
        have hT3 : SqL K (upd G3 D2 (.lst (nV ((List.range k).map fun k => ch i k + ch i (k + 1))))) q (nV ((List.range (i + 1)).map (ch i))) := SqL.of ((sa.tr (g3.tr (same_upd hG3))) _ _ hR3)
        refine ⟨rfl, t_yes (iteT ⟨_, rfl, _, rfl, ix_sq (j := k) (.inl hT3) (rgM_at (by omega)) ⟨_, rfl, _, rfl, _, _, rfl, rfl, ?_⟩⟩)⟩
        refine ix_sq (j := k + 1) (.inl hT3) (rgM_at (by omega)) ⟨_, _, rfl, rfl, lc_put hG3 ?_ ⟨g3, ?_⟩⟩
        · rw [rgM_len, sizeLine_eq]
          omega
        · rw [rgM_succ]
          rfl
      rintro acc G3 hG3 ⟨g3, rfl⟩
      have g4 := g3.tr (same_upd (o := .lst (nV ((List.range i).map fun k => ch i k + ch i (k + 1)))) hG3)
      refine ⟨pa, D2, _, _, rfl, rfl, g4 _ _ upd_same, upd_same, by rw [rgM_len, sizeLine_eq]; show 1 + i ≤ _; omega, fun pb hpb => ⟨one_le, fun pc hpc => ⟨pb, pc, _, _, rfl, rfl, same_new hpc _ _ upd_same, upd_same, ?_, fun pd hpd => ?_⟩⟩⟩
      · rw [List.length_append, rgM_len, sizeLine_eq]
        show 1 + i + 1 ≤ _
        omega
      rw [pascal]
      have s5 := ((sa.tr g4).tr (same_new (o := .lst ([V.int 1] ++ nV ((List.range i).map fun k => ch i k + ch i (k + 1)))) hpb)).tr (same_new (o := .lst [V.int 1]) hpc)
      have s6 := s5.tr (same_new (o := .lst (nV ((List.range (i + 1 + 1)).map (ch (i + 1))))) hpd)
      exact ⟨pd, _, rfl, s3.tr s6, s6 _ _ hC3, upd_same, Ne.symm (ne_of_none (s5 _ _ hC3) hpd)⟩
    · rintro σ H2 ⟨q, z4, rfl, s2, hC, hR, nq⟩
      try dsimp only
      exact ⟨_, rfl, _, rfl, ix_sq (j := n) (.inl (SqL.of hC)) (rgM_at (by omega)) (hq H2 s2)⟩
theorem sc__law_all : FnScope ["_law_cells", "_law_room", "_law_rows", "_law_cell", "_law_longer", "_law_row", "_law_block"] ["_law_cells", "_law_room"] (defScope s__law_all) := ⟨rfl, rfl, rfl, by decide +kernel, rfl, by decide +kernel, by decide +kernel⟩
theorem fk__law_all (c : SaysS cfg.facts cfg.fn K) (T : EnvOk cfg K mg) : Fk P w K mg base 4 "_law_all" ["_law_cells", "_law_room"] (spAllL K) := by
  obtain ⟨fd, hh⟩ := has_of c T 23 "_law_all" s__law_all rfl
  refine Fk.of hh (hh.F.ok sc__law_all (fun vs H Q E h => ?_) (fun cdv A outer s H vs Q E hr h => ?_)) (hh.F.bindsN fun _ _ _ _ _ _ us hl => match us, hl with | [_, _], _ => rfl)
  · obtain ⟨n, r, rfl, _⟩ := h
    rfl
  · obtain ⟨n, r, rfl, hn, h1, h8, hq⟩ := h
    have mrange := T.free "range" (by decide)
    have mlen := T.free "len" (by decide)
    have mset := T.free "set" (by decide)
    have hu65 := room65 hr
    refine ⟨_, (pss_cons (ps_set (i := 2) sc__law_all.nd rfl (.inl rfl) (pe_lst (pa_cons (pe_tupF pa_nil) pa_nil)))
          (pss_cons (ps_for (passes_of rfl) rfl (pi_range1 (by rfl) mrange (pa_cons (pv 0) pa_nil)) (pg_name (i := 3) sc__law_all.nd rfl (.inl rfl))
          (pss_cons (ps_set (i := 4) sc__law_all.nd rfl (.inl rfl) (pe_lst pa_nil))
          (pss_cons (ps_for (passes_of rfl) rfl (pi_sq (pv 2)) (pg_name (i := 5) sc__law_all.nd rfl (.inl rfl))
          (pss_one (ps_for (passes_of rfl) rfl (pi_range1 (by rfl) mrange (pa_cons (pe_op op_add (pe_lenSetE (by rfl) mlen (by rfl) mset (pv 5)) pe_int) pa_nil)) (pg_name (i := 6) sc__law_all.nd rfl (.inl rfl))
          (pss_one (ps_if (pt_cmpR op_lt (pe_bmT PySem.F.plainAttrs_tuple PySem.F.slot_tuple_count PySem.F.type_tuple_count (mt_tcount hu65) (pv 5) (pa_cons (pv 6) pa_nil)) (pv 1) (nomark _)) (pss_one (ps_expr (pe_bm PySem.F.plainAttrs_list PySem.F.slot_list_append PySem.F.type_list_append mt_append (pv 4) (pa_cons (pe_op op_catF (pv 5) (pe_tupF (pa_cons (pv 6) pa_nil))) pa_nil)))) pss_nil)))))
          (pss_one (ps_set (i := 2) sc__law_all.nd rfl (.inl rfl) (pv 4))))))
          (pss_one (ps_ret (pv 2))))), ?_⟩
    refine t_seq ⟨Nat.zero_le _, fun t0 ob0 ht0 oc0 od0 => ⟨one_le, fun p0 hp0 => ?_⟩⟩
    have s0 := (same_new (o := .frz ob0 (.tup [])) ht0)
    have hp0H := none_same s0 hp0
    have s1 := s0.tr (same_new (o := .lst [V.ref t0]) hp0)
    have r0 : (upd (upd H t0 (.frz ob0 (.tup []))) p0 (.lst [V.ref t0])) p0 = some (.lst [V.ref t0]) := upd_same
    have x0 : ExT (upd (upd H t0 (.frz ob0 (.tup []))) p0 (.lst [V.ref t0])) t0 [] := ⟨ob0, same_new hp0 _ _ upd_same, oc0, od0⟩
    generalize (upd (upd H t0 (.frz ob0 (.tup []))) p0 (.lst [V.ref t0])) = H1 at s1 r0 x0 ⊢
    try dsimp only [gName]
    refine t_seq ⟨_, rfl, _, rfl, by omega, by omega, ?_⟩
    rw [Int.toNat_natCast]
    have line : ∀ k, k ≤ 6 → (exL r k []).length ≤ 4140 := fun k hk => by
      rw [ex_len h1 k [] (fun x hx => by cases hx)]
      show go_on r [] k ≤ _
      rw [go_nil]
      exact lc_small r (by omega) k (by omega)
    have big : 4140 < sizeLine := by
      rw [sizeLine_eq]
      decide
    refine for_range (lo := 0) (n := n) (fun i σ H' => ∃ (D : Addr) (vs : List V) (z3 z4 z5 z6 : Option V), σ = [some (.int (n : Int)), some (.int (r : Int)), some (.ref D), z3, z4, z5, z6] ∧ Same H H' ∧ H D = none ∧ H' D = some (.lst vs) ∧ AllX H' vs (exL r i [])) ⟨p0, [.ref t0], none, none, none, none, rfl, s1, hp0H, r0, .cons x0 .nil⟩ ?_ ?_
    · rintro i σ H' hi ⟨D1, vs, z3, z4, z5, z6, rfl, sH, hD1, hvs, dA⟩
      try dsimp only [gName]
      refine t_seq ⟨Nat.zero_le _, fun pl hpl => ?_⟩
      have hplH := none_same sH hpl
      have sp := same_new (o := .lst []) hpl
      try dsimp only [gName]
      refine t_seq (for_read ⟨_, rfl, for_old (H0 := H') (.inl (SqL.of hvs)) (fun j σ H2 => ∃ (acc : List V) (z3 z5 z6 : Option V), σ = [some (.int (n : Int)), some (.int (r : Int)), some (.ref D1), z3, some (.ref pl), z5, z6] ∧ Same H' H2 ∧ H2 pl = some (.lst acc) ∧ AllX H2 acc (((exL r i []).take j).flatMap fun u => (kids r u).map fun b => u ++ [b])) ⟨[], _, _, _, rfl, sp, upd_same, .nil⟩ (fun _ _ _ ⟨_, _, _, _, _, s, _⟩ => s) ?_ ?_⟩)
      · rintro j x σ H2 hxj ⟨acc, z3, z5, z6, rfl, s2, hacc, dAcc⟩
        obtain ⟨u, hu, tw, rfl, xT⟩ := dA.at hxj
        obtain ⟨ul, uv⟩ := ex_VL h1 (List.mem_of_getElem? hu)
        obtain ⟨c1, c2⟩ := sz_count u uv
        have sok := sok_VL h1 uv u.length (Nat.le_refl _)
        rw [List.take_length] at sok
        have szl := sz_len u
        have xT2 := xT.keep (KeepT.of s2)
        have e2 : ((exL r i []).take (j + 1)).flatMap (fun u => (kids r u).map fun b => u ++ [b]) = (((exL r i []).take j).flatMap fun u => (kids r u).map fun b => u ++ [b]) ++ (kids r u).map fun b => u ++ [b] := by
          rw [List.take_add_one, hu, List.flatMap_append]
          show _ ++ ([u]).flatMap _ = _
          rw [List.flatMap_singleton]
        have lb : ((((exL r i []).take j).flatMap fun u => (kids r u).map fun b => u ++ [b]) ++ (kids r u).map fun b => u ++ [b]).length ≤ 4140 := by
          rw [← e2]
          have z : ((exL r i []).take (j + 1)).flatMap (fun u => (kids r u).map fun b => u ++ [b]) <+: (exL r i []).flatMap (fun u => (kids r u).map fun b => u ++ [b]) := by
            refine ⟨((exL r i []).drop (j + 1)).flatMap (fun u => (kids r u).map fun b => u ++ [b]), ?_⟩
            rw [← List.flatMap_append, List.take_append_drop]
          have z2 := z.length_le
          rw [← ex_end] at z2
          exact Nat.le_trans z2 (line (i + 1) (by omega))
        try dsimp only [gName]
        refine ⟨_, rfl, tw, u.map (fun x : Nat => (x : Int)), rfl, ?_, by rw [List.length_map]; omega, fun m hm hmm => ⟨_, _, rfl, rfl, _, rfl, ?_⟩⟩
        · rw [List.map_map]
          exact xT2.sqt
        rw [set_len uv hm hmm]
        refine ⟨by omega, by omega, ?_⟩
        rw [show (((sz u).length : Nat) + 1 : Int).toNat = (sz u).length + 1 by omega]
        refine for_range (lo := 0) (n := (sz u).length + 1) (fun k σ H3 => ∃ (acc : List V) (z6 : Option V), σ = [some (.int (n : Int)), some (.int (r : Int)), some (.ref D1), z3, some (.ref pl), some (.ref tw), z6] ∧ Same H' H3 ∧ H3 pl = some (.lst acc) ∧ AllX H3 acc ((((exL r i []).take j).flatMap fun u => (kids r u).map fun b => u ++ [b]) ++ ((List.range k).filter fun b => !decide (full r u b)).map fun b => u ++ [b])) ⟨acc, _, rfl, s2, hacc, by rw [List.range_zero]; rw [show (((([] : List Nat).filter fun b => !decide (full r u b)).map fun b => u ++ [b]) : List (List Nat)) = [] from rfl, List.append_nil]; exact dAcc⟩ ?_ ?_
        · rintro k σ H3 hk ⟨acc3, z6, rfl, s3, hacc3, dA3⟩
          rw [Int.zero_add]
          have xT3 := xT.keep (KeepT.of s3)
          try dsimp only [gName]
          refine t_ifs ⟨_, rfl, ⟨tw, nV u, rfl, xT3⟩, _, rfl, tw, u, k, rfl, rfl, xT3.sqt, _, rfl, _, _, rfl, rfl, _, rfl, ?_⟩
          have le : u.count k ≤ r := by
            rw [← c1]
            by_cases hk2 : k < (sz u).length
            · rw [List.getD_eq_getElem?_getD, List.getElem?_eq_getElem hk2]
              exact sok _ (List.getElem_mem hk2)
            · rw [List.getD_eq_getElem?_getD, List.getElem?_eq_none (by omega)]
              exact Nat.zero_le _
          by_cases hf : full r u k
          · have hf2 : u.count k = r := by
              rw [← c1]
              exact hf
            rw [decide_eq_false (by omega)]
            refine iteF (t_next ⟨acc3, _, rfl, s3, hacc3, ?_⟩)
            rw [List.range_succ, List.filter_append, show [k].filter (fun b => !decide (full r u b)) = [] by rw [List.filter_cons, decide_eq_true hf]; rfl, List.append_nil]
            exact dA3
          · have hf2 : ¬ u.count k = r := by
              rw [← c1]
              exact hf
            rw [decide_eq_true (by omega)]
            have accl : acc3.length < sizeLine := by
              have y := dA3.len
              rw [List.length_append, List.length_map] at y
              rw [List.length_append, List.length_map] at lb
              have z : ((List.range k).filter fun b => !decide (full r u b)).length ≤ (kids r u).length := by
                unfold kids bks
                have q : (List.range k).Sublist (List.range ((sz u).length + 1)) := List.range_sublist.mpr (by omega)
                exact (q.filter _).length_le
              omega
            have fin : ∀ (H4 : Hp) (p : Addr), Same H3 H4 → ExT H4 p (nV (u ++ [k])) → ∀ (D : Ends) (σ : L2.St), (∀ H5 acc5, Same H' H5 → H5 pl = some (.lst acc5) → AllX H5 acc5 ((((exL r i []).take j).flatMap fun u => (kids r u).map fun b => u ++ [b]) ++ ((List.range (k + 1)).filter fun b => !decide (full r u b)).map fun b => u ++ [b]) → D.nx σ H5) → rAppend (.ref pl) [.ref p] H4 fun _ H' => D.nx σ H' := fun H4 p s4 xp D σ go => by
              have h4 := s4 _ _ hacc3
              refine ⟨pl, _, _, rfl, rfl, h4, accl, ?_⟩
              refine go _ _ (Same.upd (s3.tr s4) hpl) upd_same ?_
              rw [List.range_succ, List.filter_append, show [k].filter (fun b => !decide (full r u b)) = [k] by rw [List.filter_cons, decide_eq_false hf]; rfl, List.map_append, ← List.append_assoc]
              have kt : KeepT H4 (upd H4 pl (.lst (acc3 ++ [V.ref p]))) := KeepT.put h4
              exact (dA3.keep ((KeepT.of s4).tr kt)).snoc (xp.keep kt)
            refine iteT (t_drop ⟨_, rfl, .inl ⟨rfl, _, SqL.of hacc3⟩, _, rfl, _, rfl, one_le, fun t1 ob1 ht1 oc1 od1 => ?_⟩)
            have st1 := same_new (o := .frz ob1 (.tup [V.int (k : Int)])) ht1
            have x1 : ExT (upd H3 t1 (.frz ob1 (.tup [V.int (k : Int)]))) t1 [V.int (k : Int)] := ⟨ob1, upd_same, oc1, od1⟩
            refine ⟨tw, t1, nV u, [V.int (k : Int)], rfl, rfl, (xT3.keep (KeepT.of st1)).sqt, x1.sqt, (fun e => by cases e), ?_, fun e => ?_, fun e p ob hp oc od => ?_⟩
            · rw [show (nV u).length = _ from List.length_map .., List.length_singleton, sizeLine_eq]
              omega
            · have eu : u = [] := by
                cases u with
                | nil => rfl
                | cons a t => cases e
              refine fin _ t1 st1 ?_ _ _ fun H5 acc5 s5 h5 d5 => ⟨acc5, _, rfl, s5, h5, d5⟩
              rw [eu]
              exact x1
            · refine fin _ p (st1.tr (same_new hp)) ⟨ob, ?_, oc, od⟩ _ _ fun H5 acc5 s5 h5 d5 => ⟨acc5, _, rfl, s5, h5, d5⟩
              rw [upd_same, nV_snoc]
        · rintro σ H3 ⟨acc3, z6, rfl, s3, hacc3, dA3⟩
          refine ⟨acc3, _, _, _, rfl, s3, hacc3, ?_⟩
          rw [e2]
          exact dA3
      · rintro σ H2 ⟨acc, z3, z5, z6, rfl, s2, hacc, dAcc⟩
        have vl := dA.len
        rw [vl, List.take_length, ← ex_end] at dAcc
        try dsimp only
        exact ⟨_, rfl, pl, acc, _, _, _, _, rfl, sH.tr s2, hplH, hacc, dAcc⟩
    · rintro σ H' ⟨D1, vs, z3, z4, z5, z6, rfl, sH, hD1, hvs, dA⟩
      try dsimp only
      exact ⟨_, rfl, hq D1 H' sH hD1 (.lst (SqL.of hvs) dA.dp)⟩
end
end K02

namespace K02
open PySem PySem.Spec PyProof.Rows L2 Shf
section
variable {P : Program} {w : World} {K : PySem.W.Frag} {mg : PySem.Str → Option Value} {base : Heap}
theorem sc__law_layout : FnScope ["_law_box_here", "_law_cells", "_law_room", "_law_found", "_law_cell", "_law_open_ones", "_law_block", "_law_near"] ["_law_box_here", "_law_cells", "_law_room"] (defScope s__law_layout) := ⟨rfl, rfl, rfl, by decide +kernel, rfl, by decide +kernel, by decide +kernel⟩
theorem fk__law_layout (c : SaysS cfg.facts cfg.fn K) (T : EnvOk cfg K mg) : Fk P w K mg base 5 "_law_layout" ["_law_box_here", "_law_cells", "_law_room"] (spLayD K) := by
  obtain ⟨fd, hh⟩ := has_of c T 22 "_law_layout" s__law_layout rfl
  refine Fk.of hh (hh.F.ok sc__law_layout (fun vs H Q E h => ?_) (fun cdv A outer s H vs Q E hr h => ?_)) (hh.F.bindsN fun _ _ _ _ _ _ us hl => match us, hl with | [_, _, _], _ => rfl)
  · obtain ⟨a, N, n, r, rfl, _⟩ := h
    rfl
  · obtain ⟨a, N, n, r, rfl, hB, hN, hn, h1, hq⟩ := h
    have mrange := T.free "range" (by decide)
    have mint := T.free "int" (by decide)
    have hu65 := room65 hr
    have hu := hr.units
    refine ⟨_, (pss_cons (ps_set (i := 3) sc__law_layout.nd rfl (.inr rfl) (pe_lst pa_nil))
          (pss_cons (ps_for (passes_of rfl) rfl (pi_range1 (by rfl) mrange (pa_cons (pv 1) pa_nil)) (pg_name (i := 4) sc__law_layout.nd rfl (.inl rfl))
          (pss_cons (ps_setLc (i := 5) (g := gName 6) (te := (tVar 6)) (tt := (tTest (tOp (rI0 fun i j => V.bl (decide (i < j))) (tBM K "list" (rCntL K) (tVar 3) (tCons (tVar 6) tNil)) (tVar 2)))) (own := [("_law_block", 6)]) rfl sc__law_layout.nd rfl rfl (sw_true rfl rfl rfl (by decide +kernel)) (pi_range1 (by rfl) mrange (pa_cons (pv 1) pa_nil)) (blkOk_by (N := ["_law_box_here", "_law_cells", "_law_room", "_law_found", "_law_cell", "_law_open_ones", "_law_block", "_law_near"]) (sc := defScope s__law_layout) (by decide +kernel)) (fun s H C cl fp => (pg_name (i := 6) sc__law_layout.nd rfl (.inl rfl))) (fun s H C cl fp => (pts_one (pt_cmpR op_lt (pe_bm PySem.F.plainAttrs_list PySem.F.slot_list_count PySem.F.type_list_count (mt_lcount hu65) (pv 3) (pa_cons (pv 6) pa_nil)) (pv 2) (nomark _)))) (fun s H C cl fp => by exact (pv 6)))
          (pss_cons (ps_setLc (i := 7) (g := gName 6) (te := (tVar 6)) (tt := (tTest (tOp (rIn K false) (tVar 6) (tSl (rSlL K) (tVar 3) (tPart (tUn (rU fun i => V.int (-i)) (tC (V.int 2)))) tNoPart)))) (own := [("_law_block", 6)]) rfl sc__law_layout.nd rfl rfl (sw_true rfl rfl rfl (by decide +kernel)) (pi_sq (pv 5)) (blkOk_by (N := ["_law_box_here", "_law_cells", "_law_room", "_law_found", "_law_cell", "_law_open_ones", "_law_block", "_law_near"]) (sc := defScope s__law_layout) (by decide +kernel)) (fun s H C cl fp => (pg_name (i := 6) sc__law_layout.nd rfl (.inl rfl))) (fun s H C cl fp => (pts_one (pt_cmpR op_in_seq (pv 6) (pe_slice sl_list (pv 3) (po_some (pe_un un_neg pe_int)) po_none) rfl))) (fun s H C cl fp => by exact (pv 6)))
          (pss_one (ps_expr (pe_bm PySem.F.plainAttrs_list PySem.F.slot_list_append PySem.F.type_list_append mt_append (pv 3) (pa_cons (pe_f (fk__law_pick c T) hr (by decide) (by rfl) passL (pa_cons (pv 0) (pa_cons (pe_ix ix_seq (pe_lst (pa_cons (pv 7) (pa_cons (pv 5) pa_nil))) (pe_callTy call_int1 (by rfl) mint PyProof.Rows.boot_int (pa_cons (pe_or (pe_cmpR (op_eqD hu) (pv 7) (pe_lst pa_nil) (nomark _)) (pe_one (pe_cmpR op_eq (pe_f (fk__law_take c T) hr (by decide) (by rfl) passL (pa_cons (pv 0) (pa_cons pe_int pa_nil))) pe_int (nomark _)))) pa_nil)) (fun _ _ => rfl)) pa_nil))) pa_nil)))))))
          (pss_one (ps_ret (pv 3))))), ?_⟩
    refine t_seq ⟨Nat.zero_le _, fun pF hpF => ?_⟩
    have nF : pF ≠ a := Ne.symm (hB.ne hpF)
    have s0 := same_new (o := .lst []) hpF
    have hF0 : (upd H pF (.lst [])) pF = some (.lst []) := upd_same
    have hB0 : BoxN (upd H pF (.lst [])) a N := hB.same s0
    generalize (upd H pF (.lst [])) = H1 at s0 hF0 hB0 ⊢
    try dsimp only [gName]
    refine t_seq ⟨_, rfl, _, rfl, by omega, by omega, ?_⟩
    rw [Int.toNat_natCast]
    refine for_range (lo := 0) (n := n) (fun i σ H' => ∃ (w : List Nat) (z4 z5 z7 : Option V), σ = [some (.ref a), some (.int (n : Int)), some (.int (r : Int)), some (.ref pF), z4, z5, none, z7] ∧ But a H H' ∧ BoxN H' a (N + 2 * (i : Int)) ∧ H' pF = some (.lst (nV w)) ∧ w.length = i ∧ (∀ x ∈ w, x < n) ∧ ∀ b, w.count b ≤ r) ⟨[], none, none, none, rfl, But.of s0, hB0.le (by omega), hF0, rfl, (fun x hx => by cases hx), fun b => Nat.zero_le _⟩ ?_ ?_
    · rintro i σ H2 hi ⟨w, z4, z5, z7, rfl, b2, hB2, hF2, hwl, hwn, hwr⟩
      have hSF : SqL K H2 pF (nV w) := SqL.of hF2
      try dsimp only [gName]
      refine t_seq ⟨_, rfl, _, rfl, by omega, by omega, fun D hD => ?_⟩
      rw [Int.toNat_natCast]
      refine lc_rg (lo := 0) (n := n) (fun k acc G => Same H2 G ∧ acc = nV ((List.range k).filter fun b => decide (w.count b < r))) hD ⟨Same.rfl', rfl⟩ ?_ ?_
      · rintro k acc G hk hG ⟨g1, rfl⟩
        rw [Int.zero_add]
        have hS3 := (g1.tr (same_upd (o := .lst (nV ((List.range k).filter fun b => decide (w.count b < r)))) hG)).seq hSF
        refine ⟨rfl, ⟨_, rfl, .inl ⟨rfl, _, hS3⟩, _, rfl, pF, w, k, rfl, rfl, hS3, _, rfl, _, _, rfl, rfl, _, rfl, ?_⟩⟩
        have ll : (nV ((List.range k).filter fun b => decide (w.count b < r))).length < sizeLine := by
          rw [show (nV ((List.range k).filter fun b => decide (w.count b < r))).length = _ from List.length_map .., sizeLine_eq]
          have y := List.length_filter_le (fun b => decide (w.count b < r)) (List.range k)
          rw [List.length_range] at y
          omega
        by_cases c : w.count k < r
        · rw [decide_eq_true (show ((w.count k : Nat) : Int) < (r : Int) by omega)]
          refine iteT ⟨_, rfl, lc_put hG ll ⟨g1, ?_⟩⟩
          rw [List.range_succ, List.filter_append, show [k].filter (fun b => decide (w.count b < r)) = [k] by rw [List.filter_cons, decide_eq_true c]; rfl, nV_snoc]
        · rw [decide_eq_false (show ¬ ((w.count k : Nat) : Int) < (r : Int) by omega)]
          refine iteF ⟨_, G, hG, ⟨g1, ?_⟩, rfl⟩
          rw [List.range_succ, List.filter_append, show [k].filter (fun b => decide (w.count b < r)) = [] by rw [List.filter_cons, decide_eq_false c]; rfl, List.append_nil]
      rintro acc G hG ⟨g1, rfl⟩
      have ne0 := openL_ne (n := n) h1 (w := w) (by omega)
      have hop : ∀ b ∈ openL n r w, b < n ∧ w.count b < r := fun b hb => by
        have y := List.mem_filter.mp hb
        exact ⟨List.mem_range.mp y.1, of_decide_eq_true y.2⟩
      have sG : Same H2 (upd G D (.lst (nV (openL n r w)))) := g1.tr (same_upd hG)
      have hO3 : (upd G D (.lst (nV (openL n r w)))) D = some (.lst (nV (openL n r w))) := upd_same
      have hlO : (openL n r w).length ≤ 8 := by
        have y := List.length_filter_le (fun b => decide (w.count b < r)) (List.range n)
        rw [List.length_range] at y
        exact Nat.le_trans y hn
      have nD : D ≠ a := Ne.symm (hB2.ne hD)
      show gName 5 (.ref D) _ (upd G D (.lst (nV (openL n r w)))) _
      generalize (upd G D (.lst (nV (openL n r w)))) = H3 at sG hO3 ⊢
      generalize openL n r w = l at ne0 hop hlO hO3
      try dsimp only [gName]
      have hSF3 : SqL K H3 pF (nV w) := sG.seq hSF
      obtain ⟨v, ev⟩ := cut_nat w (some (-2)) none
      refine t_seq (t_asg ?_)
      refine lc_sq (a := D) (xs := nV l) (.inl (SqL.of hO3)) (fun k acc G => Same H3 G ∧ acc = nV ((l.take k).filter fun b => decide (b ∈ v))) ⟨Same.rfl', rfl⟩ (fun _ _ _ r => r.1) ?_ ?_ _ (fun R hR => ⟨_, rfl, hR⟩)
      · rintro k x acc G D2 hx hG ⟨g1, rfl⟩
        obtain ⟨b, rfl, hb⟩ := nV_of_at hx
        have hS4 := (g1.tr (same_upd (o := .lst (nV ((l.take k).filter fun b => decide (b ∈ v)))) hG)).seq hSF3
        refine ⟨rfl, ⟨_, rfl, _, rfl, _, rfl, _, rfl, pF, _, rfl, hS4, fun p hp => ?_⟩⟩
        rw [ev]
        refine ⟨p, nV v, rfl, .inl (SqL.of upd_same), rfl, flat_nV v, _, rfl, ?_⟩
        rw [inV_nat]
        obtain ⟨G3, g3, sg3, e⟩ := core_of (same_new (o := .lst (nV v)) hp) hG
        rw [e]
        have ll : (nV ((l.take k).filter fun b => decide (b ∈ v))).length < sizeLine := by
          rw [show (nV ((l.take k).filter fun b => decide (b ∈ v))).length = _ from List.length_map .., sizeLine_eq]
          have y := List.length_filter_le (fun b => decide (b ∈ v)) (l.take k)
          rw [List.length_take] at y
          omega
        by_cases c : b ∈ v
        · rw [decide_eq_true c]
          refine iteT ⟨_, rfl, lc_put g3 ll ⟨g1.tr sg3, ?_⟩⟩
          rw [take_snoc hb, List.filter_append, show [b].filter (fun b => decide (b ∈ v)) = [b] by rw [List.filter_cons, decide_eq_true c]; rfl, nV_snoc]
        · rw [decide_eq_false c]
          refine iteF ⟨_, G3, g3, ⟨g1.tr sg3, ?_⟩, rfl⟩
          rw [take_snoc hb, List.filter_append, show [b].filter (fun b => decide (b ∈ v)) = [] by rw [List.filter_cons, decide_eq_false c]; rfl, List.append_nil]
      rintro D2 acc G4 hG4 ⟨g4, rfl⟩
      rw [show (nV l).length = _ from List.length_map .., List.take_length]
      have sN := g4.tr (same_upd (o := .lst (nV (l.filter fun b => decide (b ∈ v)))) hG4)
      have hN5 : (upd G4 D2 (.lst (nV (l.filter fun b => decide (b ∈ v))))) D2 = some (.lst (nV (l.filter fun b => decide (b ∈ v)))) := upd_same
      have hsub : ∀ b ∈ l.filter (fun b => decide (b ∈ v)), b ∈ l := fun b hb => (List.mem_filter.mp hb).1
      have hlN := List.length_filter_le (fun b => decide (b ∈ v)) l
      have hB5 : BoxN (upd G4 D2 (.lst (nV (l.filter fun b => decide (b ∈ v))))) a (N + 2 * (i : Int)) := (hB2.same sG).same sN
      have nD2 : D2 ≠ a := Ne.symm (((hB2.same sG).same g4).ne hG4)
      have hO5 := sN _ _ hO3
      have s25 := sG.tr sN
      generalize (upd G4 D2 (.lst (nV (l.filter fun b => decide (b ∈ v))))) = H5 at sN hN5 hB5 hO5 s25 ⊢
      generalize l.filter (fun b => decide (b ∈ v)) = m at hsub hlN hN5
      try dsimp only [gName]
      have hF5 : H5 pF = some (.lst (nV w)) := s25 _ _ hF2
      have post : ∀ (b : Nat) (H7 : Hp) (M : Int), b ∈ l → But a H5 H7 → BoxN H7 a M → M ≤ N + 2 * ((i + 1 : Nat) : Int) → H7 pF = some (.lst (nV w)) ∧ But a H (upd H7 pF (.lst (nV w ++ [V.int (b : Int)]))) ∧ BoxN (upd H7 pF (.lst (nV w ++ [V.int (b : Int)]))) a (N + 2 * ((i + 1 : Nat) : Int)) ∧ (upd H7 pF (.lst (nV w ++ [V.int (b : Int)]))) pF = some (.lst (nV (w ++ [b]))) ∧ (∀ x ∈ w ++ [b], x < n) ∧ ∀ c, (w ++ [b]).count c ≤ r := fun b H7 M hb bt hB hM => by
        obtain ⟨hbn, hbr⟩ := hop b hb
        refine ⟨bt _ _ nF hF5, fun d o nd e => ?_, (hB.le hM).keep (upd_ne (Ne.symm nF)), by rw [upd_same, nV_snoc], fun x hx => ?_, fun c => ?_⟩
        · rw [upd_ne (ne_of_none e hpF)]
          exact bt _ _ nd (s25 _ _ (b2 _ _ nd e))
        · rcases List.mem_append.mp hx with hx | hx
          · exact hwn x hx
          · obtain rfl := List.mem_singleton.mp hx
            exact hbn
        · rw [List.count_append, List.count_singleton]
          by_cases e : b = c
          · subst e
            rw [if_pos (by simp)]
            omega
          · rw [if_neg (by simpa using e)]
            exact hwr c
      have hl2 : (nV w).length < sizeLine := by
        rw [show (nV w).length = _ from List.length_map .., sizeLine_eq]
        omega
      refine t_drop ⟨_, rfl, .inl ⟨rfl, _, SqL.of hF5⟩, _, rfl, _, rfl, _, rfl, two_le, fun pL hpL => ⟨_, rfl, Nat.zero_le _, fun pE hpE => ⟨.list (nI m), .list [], ?_, .lst (SqL.of upd_same) .nil, shp_nI fun x hx => ?_, shp_nI (l := []) (fun x hx => by cases hx), _, rfl, ?_⟩⟩⟩
      · exact .lst (SqL.of (same_new hpE _ _ (same_new hpL _ _ hN5))) (dAll_nat m)
      · have := (hop x (hsub x hx)).1
        omega
      have sL := same_new (o := .lst [V.ref D2, V.ref D]) hpL
      have sE := sL.tr (same_new (o := .lst []) hpE)
      have hL6 : (upd (upd H5 pL (.lst [V.ref D2, V.ref D])) pE (.lst [])) pL = some (.lst [V.ref D2, V.ref D]) := same_new hpE _ _ upd_same
      have hB6 := hB5.same sE
      have npL : pL ≠ a := Ne.symm (hB5.ne hpL)
      generalize (upd (upd H5 pL (.lst [V.ref D2, V.ref D])) pE (.lst [])) = H6 at sE hL6 hB6 ⊢
      rw [eqv_nilL]
      by_cases em : m = []
      · rw [decide_eq_true em]
        refine iteT (.inr ⟨true, rfl, ?_⟩)
        refine ix_sq (j := 1) (.inl (SqL.of hL6)) rfl ⟨a, D, N + 2 * (i : Int), nV l, rfl, hB6, by omega, SqL.of (sE _ _ hO5), Ne.symm nD, ?_, ?_, fun k x H7 hx b7 hB7 => ?_⟩
        · rw [show (nV l).length = _ from List.length_map ..]
          cases l with
          | nil => exact absurd rfl ne0
          | cons x t => exact Nat.succ_pos _
        · rw [show (nV l).length = _ from List.length_map ..]
          omega
        · obtain ⟨b, rfl, hb⟩ := nV_of_at hx
          obtain ⟨f1, f2, f3, f4, f5, f6⟩ := post b H7 _ (List.mem_of_getElem? hb) ((But.of sE).tr b7) hB7 (by omega)
          exact ⟨pF, _, _, rfl, rfl, f1, hl2, w ++ [b], _, _, _, rfl, f2, f3, f4, by rw [List.length_append, hwl]; rfl, f5, f6⟩
      · rw [decide_eq_false em]
        refine iteF ⟨_, rfl, a, 3, N + 2 * (i : Int), rfl, hB6, by omega, by decide, by decide, fun t H7 ht b7 hB7 => ⟨rfl, .inr ⟨_, rfl, ?_⟩⟩⟩
        have hL7 := b7 _ _ npL hL6
        have pick : ∀ (j : Nat) (X : Addr) (q : List Nat), [V.ref D2, V.ref D][j]? = some (.ref X) → H5 X = some (.lst (nV q)) → X ≠ a → q ≠ [] → q.length ≤ 8 → (∀ b ∈ q, b ∈ l) → ∀ Q' : VK, (∀ (b : Nat) H8, b ∈ l → But a H5 H8 → BoxN H8 a (N + 2 * (i : Int) + 1 + 1) → Q' (.int (b : Int)) H8) → rIx K (.ref pL) (.int (j : Nat)) H7 fun x H8 => (spPick K) ([V.ref a, x] ++ []) H8 Q' E0 := fun j X q hj hX nX q0 q8 qs Q' hQ => by
          refine ix_sq (j := j) (.inl (SqL.of hL7)) hj ⟨a, X, N + 2 * (i : Int) + 1, nV q, rfl, hB7, by omega, SqL.of (b7 _ _ nX (sE _ _ hX)), Ne.symm nX, ?_, ?_, fun k x H8 hx b8 hB8 => ?_⟩
          · rw [show (nV q).length = _ from List.length_map ..]
            cases q with
            | nil => exact absurd rfl q0
            | cons x t => exact Nat.succ_pos _
          · rw [show (nV q).length = _ from List.length_map ..]
            omega
          · obtain ⟨b, rfl, hb⟩ := nV_of_at hx
            exact hQ b H8 (qs b (List.mem_of_getElem? hb)) (((But.of sE).tr b7).tr b8) hB8
        have last : ∀ (b : Nat) (H8 : Hp), b ∈ l → But a H5 H8 → BoxN H8 a (N + 2 * (i : Int) + 1 + 1) → _ := fun b H8 hb bt hB => post b H8 _ hb bt hB (by omega)
        by_cases e0 : (V.int (t : Nat) : V) = .int 0
        · rw [decide_eq_true e0]
          refine pick 1 D l rfl hO5 nD ne0 hlO (fun b hb => hb) _ fun b H8 hb bt hB => ?_
          obtain ⟨f1, f2, f3, f4, f5, f6⟩ := last b H8 hb bt hB
          exact ⟨pF, _, _, rfl, rfl, f1, hl2, w ++ [b], _, _, _, rfl, f2, f3, f4, by rw [List.length_append, hwl]; rfl, f5, f6⟩
        · rw [decide_eq_false e0]
          refine pick 0 D2 m rfl hN5 nD2 em (by omega) hsub _ fun b H8 hb bt hB => ?_
          obtain ⟨f1, f2, f3, f4, f5, f6⟩ := last b H8 hb bt hB
          exact ⟨pF, _, _, rfl, rfl, f1, hl2, w ++ [b], _, _, _, rfl, f2, f3, f4, by rw [List.length_append, hwl]; rfl, f5, f6⟩
    · rintro σ H2 ⟨w, z4, z5, z7, rfl, b2, hB2, hF2, hwl, hwn, hwr⟩
      try dsimp only
      exact ⟨_, rfl, hq pF w H2 hpF nF hF2 hwl hwn hwr b2 hB2⟩
theorem sc__law_named : FnScope ["_law_box_here", "_law_layout_here", "_law_names", "_law_at", "_law_block"] ["_law_box_here", "_law_layout_here"] (defScope s__law_named) := ⟨rfl, rfl, rfl, by decide +kernel, rfl, by decide +kernel, by decide +kernel⟩
theorem fk__law_named (c : SaysS cfg.facts cfg.fn K) (T : EnvOk cfg K mg) : Fk P w K mg base 5 "_law_named" ["_law_box_here", "_law_layout_here"] (spNamedL K) := by
  obtain ⟨fd, hh⟩ := has_of c T 26 "_law_named" s__law_named rfl
  refine Fk.of hh (hh.F.ok sc__law_named (fun vs H Q E h => ?_) (fun cdv A outer s H vs Q E hr h => ?_)) (hh.F.bindsN fun _ _ _ _ _ _ us hl => match us, hl with | [_, _], _ => rfl)
  · obtain ⟨a, l, N, w, rfl, _⟩ := h
    rfl
  · obtain ⟨a, l, N, w, rfl, hB, hN, hS, nl, hl, hw, hq⟩ := h
    have mrange := T.free "range" (by decide)
    have hu65 := room65 hr
    have hu := hr.units
    refine ⟨_, (pss_cons (ps_set (i := 2) sc__law_named.nd rfl (.inr rfl) (pe_f (fk__law_mixed c T) hr (by decide) (by rfl) passL (pa_cons (pv 0) (pa_cons (pe_lc (g := gName 3) (te := _) (own := [("_law_at", 3)]) rfl sc__law_named.nd (pi_range1 (by rfl) mrange (pa_cons pe_int pa_nil)) (blkOk_by (N := ["_law_box_here", "_law_layout_here", "_law_names", "_law_at", "_law_block"]) (sc := defScope s__law_named) (by decide +kernel)) (fun s H C cl fp => (pg_name (i := 3) sc__law_named.nd rfl (.inl rfl))) (fun s H C cl fp => pts_nil) (fun s H C cl fp => by exact (pe_op op_add (pe_f (fk__law_take c T) hr (by decide) (by rfl) passL (pa_cons (pv 0) (pa_cons pe_int pa_nil))) (pe_op op_mul pe_int (pv 3))))) pa_nil))))
          (pss_one (ps_ret (pe_lc (g := gName 4) (te := (tOp (rIx K) (tVar 2) (tVar 4))) (own := [("_law_block", 4)]) rfl sc__law_named.nd (pi_sq (pv 1)) (blkOk_by (N := ["_law_box_here", "_law_layout_here", "_law_names", "_law_at", "_law_block"]) (sc := defScope s__law_named) (by decide +kernel)) (fun s H C cl fp => (pg_name (i := 4) sc__law_named.nd rfl (.inl rfl))) (fun s H C cl fp => pts_nil) (fun s H C cl fp => by exact (pe_ix ix_seq (pv 2) (pv 4) (fun _ _ => rfl))))))), ?_⟩
    obtain ⟨c0, d0', e0, hBx, hen⟩ := hB
    have hB : BoxN H a N := ⟨c0, d0', e0, hBx, hen⟩
    refine t_seq ⟨_, rfl, _, rfl, by decide, by decide, fun D hD => ?_⟩
    have nD : D ≠ a := Ne.symm (hB.ne hD)
    show ∃ W : Nat → Nat → Hp → Prop, _
    refine lc_rg (lo := 0) (n := 10) (fun k acc G => But a H G ∧ BoxN G a (N + (k : Int)) ∧ ∃ ts : List Nat, acc = nV ts ∧ ts.length = k ∧ ∀ j t, ts[j]? = some t → t / 20 = j) hD ⟨But.rfl', hB.le (by omega), [], rfl, rfl, fun j t e => by cases e⟩ ?_ ?_
    · rintro k acc G hk hG ⟨bt, hBk, ts, rfl, hl2, ht⟩
      rw [Int.zero_add]
      refine ⟨rfl, t_yes (iteT ⟨_, rfl, a, 20, N + (k : Int), rfl, hBk.same (same_upd hG), by omega, by decide, by decide, fun t H5 ht5 b5 hB5 => ⟨_, rfl, _, _, rfl, rfl, .inl ⟨by decide, by decide⟩, _, _, rfl, rfl, ?_⟩⟩)⟩
      have hD5 : H5 D = some (.lst (nV ts)) := b5 _ _ nD upd_same
      obtain ⟨G5, g5, e5, g5b⟩ := coreB hD5
      have bt5 : But a H G5 := fun b o nb e => by
        have nb2 : b ≠ D := ne_of_none e hD
        rw [g5b b nb2]
        exact b5 _ _ nb ((upd_ne nb2).trans (bt _ _ nb e))
      have hB5' : BoxN G5 a (N + ((k + 1 : Nat) : Int)) := (hB5.le (by omega)).keep (g5b a (Ne.symm nD))
      rw [e5]
      refine lc_put g5 ?_ ⟨bt5, hB5', ts ++ [t + 20 * k], ?_, ?_, fun j y hy => ?_⟩
      · rw [show (nV ts).length = _ from List.length_map .., sizeLine_eq]
        omega
      · rw [nV_snoc]
        congr 2
      · rw [List.length_append, hl2]
        rfl
      · by_cases hj : j < ts.length
        · rw [List.getElem?_append_left hj] at hy
          exact ht j y hy
        · have hj2 := (List.getElem?_eq_some_iff.mp hy).1
          rw [List.length_append, List.length_singleton] at hj2
          obtain rfl : j = ts.length := by omega
          rw [List.getElem?_concat_length] at hy
          cases hy
          omega
    rintro acc G hG ⟨bt, hBk, ts, rfl, hl2, ht⟩
    have bt1 : But a H (upd G D (.lst (nV ts))) := bt.tr (But.of (same_upd hG))
    have nd : ts.Nodup := List.pairwise_iff_getElem.mpr fun i j hi hj hij e => by
      have y1 := ht i _ (List.getElem?_eq_getElem hi)
      have y2 := ht j _ (List.getElem?_eq_getElem hj)
      rw [e] at y1
      omega
    refine ⟨a, D, N + 10, nV ts, rfl, hBk.same (same_upd hG), .inl (SqL.of upd_same), Ne.symm nD, ?_, ?_, fun p ys H6 perm hpN npa hp6 b6 hB6 => ?_⟩
    · rw [show (nV ts).length = _ from List.length_map ..]
      omega
    · rw [show (nV ts).length = _ from List.length_map ..]
      omega
    rw [show (nV ts).length = _ from List.length_map .., hl2] at hB6
    obtain ⟨m, hm, rfl⟩ := perm_nV perm
    have ml : m.length = 10 := hm.length_eq.trans hl2
    have mnd : m.Nodup := hm.nodup_iff.mpr nd
    have mlt : ∀ x ∈ m, x < 200 := fun x hx => by
      obtain ⟨j, hj⟩ := List.mem_iff_getElem?.mp (hm.mem_iff.mp hx)
      have y := ht j x hj
      have z := (List.getElem?_eq_some_iff.mp hj).1
      omega
    have mat : ∀ x, x < 8 → m[x]? = some (m.getD x 0) := fun x hx => by
      rw [List.getD_eq_getElem?_getD, List.getElem?_eq_getElem (by omega)]
      rfl
    have b16 := bt1.tr b6
    have hS6 : SqL K H6 l (nV w) := b16.seq nl hS
    try dsimp only [gName]
    refine t_ret ?_
    refine lc_sq (a := l) (xs := nV w) (.inl hS6) (fun k acc G => Same H6 G ∧ acc = nV ((w.take k).map fun x => m.getD x 0)) ⟨Same.rfl', rfl⟩ (fun _ _ _ r => r.1) ?_ ?_ _ (fun R hR => ⟨_, rfl, hR⟩)
    · rintro k x acc G3 D3 hx hG3 ⟨g1, rfl⟩
      obtain ⟨b, rfl, hb⟩ := nV_of_at hx
      have b8 := hw b (List.mem_of_getElem? hb)
      have hp7 := (g1.tr (same_upd (o := .lst (nV ((w.take k).map fun x => m.getD x 0))) hG3)) _ _ hp6
      refine ⟨rfl, t_yes (iteT ⟨_, rfl, _, rfl, ix_sq (j := b) (.inl (SqL.of hp7)) (nV_at (mat b b8)) (lc_put hG3 ?_ ⟨g1, ?_⟩)⟩)⟩
      · rw [show (nV ((w.take k).map fun x => m.getD x 0)).length = _ from List.length_map .., List.length_map, List.length_take, sizeLine_eq]
        omega
      · rw [take_snoc hb, List.map_append, List.map_singleton, nV_snoc]
    rintro D3 acc G3 hG3 ⟨g1, rfl⟩
    rw [show (nV w).length = _ from List.length_map .., List.take_length]
    have hB7 := (hB6.same g1)
    have nD3 : D3 ≠ a := Ne.symm (hB7.ne hG3)
    have hD3 : H D3 = none := by
      cases z : H D3 with
      | none => rfl
      | some o =>
        have y := g1 _ _ (b16 _ _ nD3 z)
        rw [hG3] at y
        cases y
    exact hq D3 _ (fun x => m.getD x 0) _ hD3 nD3 upd_same rfl (fun x y hx hy e => (List.getElem?_inj (by omega) mnd).mp ((mat x hx).trans ((congrArg some e).trans (mat y hy).symm))) (fun x hx => mlt _ (List.mem_of_getElem? (mat x hx))) (b16.tr (But.of (g1.tr (same_upd hG3)))) ((hB7.same (same_upd hG3)).le (by omega))
end
end K02

namespace K02
open PySem PySem.Spec PyProof.Rows L2 Shf
section
variable {P : Program} {w : World} {K : PySem.W.Frag} {mg : PySem.Str → Option Value} {base : Heap}
theorem nice_tup_nI {l : List Nat} (h : ∀ x ∈ l, x < 1000000) : Nice (.tuple (nI l)) 1 (l.length * 21) := nice_tup (niceA_map (f := fun x : Nat => PyData.int (x : Int)) (dp := 0) (a := 20) fun x hx => nice_nat (h x hx))
theorem ints_nV (l : List Nat) : (l.map fun x : Nat => (x : Int)).map V.int = nV l := List.map_map
theorem seq_len {l : List Nat} {n : Nat} (h : l.length = n) : (dSeq (.tuple (nI l)) && decide ((dItems (.tuple (nI l))).length = n)) = true := by
  show (true && decide ((nI l).length = n)) = true
  rw [Bool.true_and, decide_eq_true_eq, show (nI l).length = _ from List.length_map ..]
  exact h
theorem sc__law_neighbours : FnScope ["_law_box_here", "_law_room", "_law_cells", "_law_number", "_law_one", "_law_other"] ["_law_box_here", "_law_room"] (defScope s__law_neighbours) := ⟨rfl, rfl, rfl, by decide +kernel, rfl, by decide +kernel, by decide +kernel⟩
theorem fk__law_neighbours (c : SaysS cfg.facts cfg.fn K) (T : EnvOk cfg K mg) (hcomb : mg "comb" = some (.builtin "math.comb")) : Fk P w K mg base 11 "_law_neighbours" ["_law_box_here", "_law_room"] (spNeigh K) := by
  obtain ⟨fd, hh⟩ := has_of c T 25 "_law_neighbours" s__law_neighbours rfl
  refine Fk.of hh (hh.F.ok sc__law_neighbours (fun vs H Q E h => ?_) (fun cdv A outer s H vs Q E hr h => ?_)) (hh.F.bindsN fun _ _ _ _ _ _ us hl => match us, hl with | [_, _], _ => rfl)
  · obtain ⟨a, N, r, rfl, _⟩ := h
    rfl
  · obtain ⟨a, N, r, rfl, hB, hN, h1, h8, hq⟩ := h
    have mmax := T.free "max" (by decide)
    have mlen := T.free "len" (by decide)
    have hu65 := room65 hr
    have hu := hr.units
    have hu0 := Nat.lt_of_le_of_lt (Nat.le_add_right _ 64) hr.units
    refine ⟨_, (pss_cons (ps_par (i := 2) (j := 1) (by rfl) sc__law_neighbours.nd rfl rfl (by decide) rfl rfl (pa_cons (pe_op op_add pe_int (pe_f (fk__law_take c T) hr (by decide) (by rfl) passL (pa_cons (pv 0) (pa_cons pe_int pa_nil)))) (pa_cons (pe_callB (call_max2 rfl) (by rfl) mmax (by decide +kernel) (pa_cons pe_int (pa_cons (pv 1) pa_nil))) pa_nil)) (by rfl))
          (pss_cons (ps_set (i := 3) sc__law_neighbours.nd rfl (.inl rfl) (pe_f (fk__law_take c T) hr (by decide) (by rfl) passL (pa_cons (pv 0) (pa_cons (pe_op op_sub (pe_f (fk__law_count c T) hr (by decide) (by rfl) passL (pa_cons (pv 2) (pa_cons (pv 1) pa_nil))) pe_int) pa_nil))))
          (pss_cons (ps_par (i := 4) (j := 5) (by rfl) sc__law_neighbours.nd rfl rfl (by decide) rfl rfl (pa_cons (pe_f (fk_nth_layout c T hcomb) hr (by decide) (by rfl) (passes_call (takes_of rfl rfl rfl rfl) (fun _ _ _ _ h => h)) (pa_cons (pv 2) (pa_cons (pv 1) (pa_cons (pv 3) pa_nil)))) (pa_cons (pe_f (fk_nth_layout c T hcomb) hr (by decide) (by rfl) (passes_call (takes_of rfl rfl rfl rfl) (fun _ _ _ _ h => h)) (pa_cons (pv 2) (pa_cons (pv 1) (pa_cons (pe_op op_add (pv 3) pe_int) pa_nil)))) pa_nil)) (by rfl))
          (pss_cons (ps_if (pw_or (pt_not (pt_cmpR (op_ltT hu0) (pv 4) (pv 5) (nomark _))) (pw_or (pt_cmpR (op_neD hu) (pe_f (fk__law_plain c T) hr (by decide) (by rfl) passL (pa_cons (pv 4) pa_nil)) (pv 4) (nomark _)) (pw_or1 (pt_cmpR op_ne (pe_callB call_len_seq (by rfl) mlen PySem.boot_len (pa_cons (pv 5) pa_nil)) (pv 2) (nomark _))))).pt (pss_one (ps_ret pe_bl)) pss_nil)
          (pss_one (ps_ret (pe_and (pe_cmpR op_eq (pe_f (fk_layout_number c T hcomb) hr (by decide) (by rfl) (passes_call (takes_of rfl rfl rfl rfl) (fun _ _ _ _ h => h)) (pa_cons (pv 2) (pa_cons (pv 1) (pa_cons (pv 4) pa_nil)))) (pv 3) (nomark _)) (pe_one (pe_cmpR op_eq (pe_f (fk_layout_number c T hcomb) hr (by decide) (by rfl) (passes_call (takes_of rfl rfl rfl rfl) (fun _ _ _ _ h => h)) (pa_cons (pv 2) (pa_cons (pv 1) (pa_cons (pv 5) pa_nil)))) (pe_op op_add (pv 3) pe_int) (nomark _)))))))))), ?_⟩
    refine t_seq ⟨_, rfl, a, 2, N, rfl, hB, by omega, by decide, by decide, fun t1 H1 ht1 b1 hB1 => ⟨_, _, rfl, rfl, _, rfl, _, _, rfl, _, _, rfl, ?_⟩⟩
    try dsimp only
    obtain ⟨R, hR, hR2, hR8⟩ : ∃ R : Nat, (if (r : Int) > 2 then (r : Int) else 2) = (R : Int) ∧ 2 ≤ R ∧ R ≤ 8 := by
      by_cases c : (r : Int) > 2
      · rw [if_pos c]
        exact ⟨r, rfl, by omega, h8⟩
      · rw [if_neg c]
        exact ⟨2, rfl, by decide, by decide⟩
    obtain ⟨n, hn⟩ : ∃ n : Nat, n = 7 + t1 := ⟨_, rfl⟩
    rw [hR, show ((7 : Int) + (t1 : Nat)) = ((n : Nat) : Int) by omega]
    have n7 : 7 ≤ n := by omega
    have n8 : n ≤ 8 := by omega
    have l2 := lc_two R (by omega) hR2 n (by omega) n7
    have ls := lc_small R (by omega) n (by omega)
    refine t_seq ⟨_, rfl, _, rfl, _, rfl, n, R, rfl, by omega, by omega, by omega, fun H2 s2 => ⟨_, _, rfl, rfl, a, _, N + 1, rfl, hB1.same s2, by omega, by omega, by omega, fun m H3 hm b3 hB3 => ?_⟩⟩
    try dsimp only [gName]
    have hm1 : m + 1 < lc R n := by omega
    obtain ⟨p1, p2, p3, _⟩ := nth_all (r := R) (by omega) (n := n) (m := m) (by omega)
    obtain ⟨r1, r2, r3, _⟩ := nth_all (r := R) (by omega) (n := n) (m := m + 1) hm1
    have lx := nth_lex (r := R) (by omega) hm1
    refine t_seq ⟨_, rfl, _, rfl, _, rfl, .int (n : Int), .int (R : Int), .int (m : Int), .int (n : Int), .int (R : Int), .int (m : Int), rfl, .int _, .int _, .int _, .inr (.inr ⟨n, R, rfl, rfl, by omega, by omega, by omega, hR8, .inr ⟨m, rfl, by omega, fun q1 H4 s4 d1 => ?_⟩⟩)⟩
    refine ⟨_, rfl, _, rfl, _, rfl, _, _, rfl, rfl, .int (n : Int), .int (R : Int), .int ((m + 1 : Nat) : Int), .int (n : Int), .int (R : Int), .int ((m + 1 : Nat) : Int), rfl, .int _, .int _, .int _, .inr (.inr ⟨n, R, rfl, rfl, by omega, by omega, by omega, hR8, .inr ⟨m + 1, rfl, hm1, fun q2 H5 s5 d2 => ?_⟩⟩)⟩
    generalize nthL R n [] m = u1 at p1 p2 p3 lx d1
    generalize nthL R n [] (m + 1) = u2 at r1 r2 r3 lx d2
    have d1 := dp_same s5 _ _ d1
    obtain ⟨a1, vs1, rfl, hT1, hA1⟩ := tup_of d1
    obtain rfl := dAll_nat_vs hA1
    obtain ⟨a2, vs2, rfl, hT2, hA2⟩ := tup_of d2
    obtain rfl := dAll_nat_vs hA2
    have sml1 : ∀ x ∈ u1, x < 1000000 := fun x hx => by
      have y := (sz_count _ p3).2 x hx
      have z := sz_len u1
      omega
    refine ⟨_, _, rfl, ?_⟩
    try dsimp only
    refine t_seq (t_ifs ⟨_, rfl, _, rfl, a1, a2, u1.map (fun x : Nat => (x : Int)), u2.map (fun x : Nat => (x : Int)), rfl, rfl, by rw [ints_nV]; exact hT1, by rw [ints_nV]; exact hT2, _, rfl, ?_⟩)
    rw [show HT.lexLt (u1.map fun x : Nat => (x : Int)) (u2.map fun x : Nat => (x : Int)) = true from lx]
    refine iteF ⟨_, rfl, a1, u1, rfl, .inr hT1, by omega, fun q H6 s6 d6 => ⟨_, rfl, _, _, d6, dp_same s6 _ _ d1, ?_, (nice_tup_nI sml1).shaped (by decide), _, rfl, ?_⟩⟩
    · rw [plain_VL _ p3]
      exact (nice_tup_nI sml1).shaped (by decide)
    rw [plain_VL _ p3, (nice_tup_nI sml1).refl]
    refine iteF ⟨_, rfl, a2, _, rfl, .inr (sqt_same s6 hT2), _, rfl, rfl, _, rfl, ?_⟩
    rw [show (nV u2).length = _ from List.length_map .., r1, decide_eq_true rfl]
    refine iteF (t_next ?_)
    try dsimp only
    refine t_ret ⟨_, rfl, _, rfl, _, rfl, .int (n : Int), .int (R : Int), .ref a1, .int (n : Int), .int (R : Int), .tuple (nI u1), rfl, .int _, .int _, dp_same s6 _ _ d1, .inr (.inr ⟨n, R, rfl, rfl, by omega, by omega, by omega, hR8, .inr ⟨seq_len p1, .inr ⟨u1, VL_ok (by omega) p3 (by omega), fun H7 s7 => ⟨_, rfl, rfl, _, rfl, ?_⟩⟩⟩⟩)⟩
    rw [plain_VL _ p3, p2, decide_eq_true rfl]
    refine iteT ⟨_, rfl, _, rfl, _, rfl, .int (n : Int), .int (R : Int), .ref a2, .int (n : Int), .int (R : Int), .tuple (nI u2), rfl, .int _, .int _, dp_same (s6.tr s7) _ _ d2, .inr (.inr ⟨n, R, rfl, rfl, by omega, by omega, by omega, hR8, .inr ⟨seq_len r1, .inr ⟨u2, VL_ok (by omega) r3 (by omega), fun H8 s8 => ?_⟩⟩⟩)⟩
    rw [plain_VL _ r3, r2]
    refine ⟨_, rfl, _, _, rfl, rfl, rfl, ?_⟩
    have s38 := s4.tr (s5.tr (s6.tr (s7.tr s8)))
    show Q (.bl (decide (V.int ((m + 1 : Nat) : Int) = V.int ((m : Int) + 1)))) H8
    rw [decide_eq_true (show V.int ((m + 1 : Nat) : Int) = V.int ((m : Int) + 1) from rfl)]
    exact hq H8 (((b1.tr (But.of s2)).tr b3).tr (But.of s38)) ((hB3.same s38).le (by omega))
end
end K02

namespace K02
open PySem PySem.Spec PyProof.Rows L2 Shf
section
variable {P : Program} {w : World} {K : PySem.W.Frag} {mg : PySem.Str → Option Value} {base : Heap}

def tbX : List PySem.Str := ["_law_refused", "_law_full"]
def spRefL (K : PySem.W.Frag) : Sp := fun vs H Q _ => ∃ (a : Addr) (N : Int) (n r : Nat), vs = [.ref a, .int (n : Int), .int (r : Int), .int ((lc r n : Nat) : Int)] ∧ BoxN H a N ∧ N < 100000000000 ∧ 1 ≤ n ∧ n ≤ 6 ∧ 1 ≤ r ∧ r ≤ 8 ∧ LamX.Tabs (tbs K tbX) H ∧ ∀ H', Stp a H H' → BoxN H' a (N + 4) → LamX.Tabs (tbs K tbX) H' → Q (.bl true) H'
theorem sc__law_refused : FnScope ["_law_box_here", "_law_cells", "_law_room", "_law_count_here", "_law_wrong"] ["_law_box_here", "_law_cells", "_law_room", "_law_count_here"] (defScope s__law_refused) := ⟨rfl, rfl, rfl, by decide +kernel, rfl, by decide +kernel, by decide +kernel⟩
theorem fk__law_refused (c : SaysS cfg.facts cfg.fn K) (T : EnvOk cfg K mg) (two : (tbX.map fun y => (He.cT K (y, none)).2).Nodup) (tb : ∀ y ∈ tbX, LamX.TabB base mg (He.cT K (y, none)).1 (He.cT K (y, none)).2) (hcomb : mg "comb" = some (.builtin "math.comb")) : Fk P w K mg base 13 "_law_refused" ["_law_box_here", "_law_cells", "_law_room", "_law_count_here"] (spRefL K) := by
  obtain ⟨fd, hh⟩ := has_of c T 28 "_law_refused" s__law_refused rfl
  obtain ⟨fdE, hErr⟩ := has_of c T 27 "_law_error" s__law_error rfl
  refine Fk.of hh (hh.F.okc sc__law_refused (fun vs H Q E h => ?_) (fun cdv hcd A outer s H vs Q E hr h => ?_)) (hh.F.bindsN fun _ _ _ _ _ _ us hl => match us, hl with | [_, _, _, _], _ => rfl)
  · obtain ⟨a, N, n, r, rfl, _⟩ := h
    rfl
  · obtain ⟨a, N, n, r, rfl, hB, hN, hn1, hn, h1, h8, hT, hq⟩ := h
    have hu65 := room65 hr
    have hu := hr.units
    have hu0 := Nat.lt_of_le_of_lt (Nat.le_add_right _ 64) hr.units
    refine ⟨_, (pss_cons (ps_for (passes_of rfl) rfl (pi_sq (pe_tup (pa_cons pe_int (pa_cons (pe_un un_neg pe_int) (pa_cons pe_int (pa_cons pe_non (pa_cons pe_bl (pa_cons pe_str pa_nil)))))))) (pg_name (i := 4) sc__law_refused.nd rfl (.inr rfl))
          (pss_cons (ps_if (pt_cmpR (op_neD hu) (pe_lerr (k := 10) T hErr (by rfl) (tabOk_of hcd (by decide) two tb rfl rfl) (hr.mono (by decide)) (LamX.lamS_by (by kernel_rfl)) (fun A outer s H E f c1 hr1 => (pe_f (fk_layout_count c T hcomb) hr1 (by decide) (by rfl) (passes_call (takes_of rfl rfl rfl rfl) (fun _ _ _ _ h => h)) (pa_cons (pv 4) (pa_cons pe_non pa_nil))))) (pe_tup (pa_cons pe_str (pa_cons pe_str pa_nil))) (nomark _)) (pss_one (ps_ret pe_bl)) pss_nil)
          (pss_cons (ps_if (pt_cmpR (op_neD hu) (pe_lerr (k := 10) T hErr (by rfl) (tabOk_of hcd (by decide) two tb rfl rfl) (hr.mono (by decide)) (LamX.lamS_by (by kernel_rfl)) (fun A outer s H E f c1 hr1 => (pe_f (fk_nth_layout c T hcomb) hr1 (by decide) (by rfl) (passes_call (takes_of rfl rfl rfl rfl) (fun _ _ _ _ h => h)) (pa_cons (pv 4) (pa_cons (pv 2) (pa_cons pe_non pa_nil)))))) (pe_tup (pa_cons pe_str (pa_cons pe_str pa_nil))) (nomark _)) (pss_one (ps_ret pe_bl)) pss_nil)
          (pss_one (ps_if (pt_cmpR (op_neD hu) (pe_lerr (k := 10) T hErr (by rfl) (tabOk_of hcd (by decide) two tb rfl rfl) (hr.mono (by decide)) (LamX.lamS_by (by kernel_rfl)) (fun A outer s H E f c1 hr1 => (pe_f (fk_layout_number c T hcomb) hr1 (by decide) (by rfl) (passes_call (takes_of rfl rfl rfl rfl) (fun _ _ _ _ h => h)) (pa_cons (pv 4) (pa_cons pe_non (pa_cons pe_non pa_nil)))))) (pe_tup (pa_cons pe_str (pa_cons pe_str pa_nil))) (nomark _)) (pss_one (ps_ret pe_bl)) pss_nil)))))
          (pss_cons (ps_set (i := 4) sc__law_refused.nd rfl (.inr rfl) (pe_f (fk__law_pick c T) hr (by decide) (by rfl) passL (pa_cons (pv 0) (pa_cons (pe_lst (pa_cons pe_int (pa_cons (pe_un un_neg pe_int) (pa_cons pe_int (pa_cons pe_non (pa_cons pe_bl (pa_cons (pe_lst (pa_cons pe_int pa_nil)) pa_nil))))))) pa_nil))))
          (pss_cons (ps_if (pt_cmpR (op_neD hu) (pe_lerr (k := 10) T hErr (by rfl) (tabOk_of hcd (by decide) two tb rfl rfl) (hr.mono (by decide)) (LamX.lamS_by (by kernel_rfl)) (fun A outer s H E f c1 hr1 => (pe_f (fk_layout_count c T hcomb) hr1 (by decide) (by rfl) (passes_call (takes_of rfl rfl rfl rfl) (fun _ _ _ _ h => h)) (pa_cons (pv 1) (pa_cons (pv 4) pa_nil))))) (pe_tup (pa_cons pe_str (pa_cons (pe_un un_neg pe_int) pa_nil))) (nomark _)) (pss_one (ps_ret pe_bl)) pss_nil)
          (pss_cons (ps_if (pt_cmpR (op_neD hu) (pe_lerr (k := 10) T hErr (by rfl) (tabOk_of hcd (by decide) two tb rfl rfl) (hr.mono (by decide)) (LamX.lamS_by (by kernel_rfl)) (fun A outer s H E f c1 hr1 => (pe_f (fk_nth_layout c T hcomb) hr1 (by decide) (by rfl) (passes_call (takes_of rfl rfl rfl rfl) (fun _ _ _ _ h => h)) (pa_cons (pv 1) (pa_cons (pv 4) (pa_cons pe_non pa_nil)))))) (pe_tup (pa_cons pe_str (pa_cons (pe_un un_neg pe_int) pa_nil))) (nomark _)) (pss_one (ps_ret pe_bl)) pss_nil)
          (pss_cons (ps_if (pt_cmpR (op_neD hu) (pe_lerr (k := 10) T hErr (by rfl) (tabOk_of hcd (by decide) two tb rfl rfl) (hr.mono (by decide)) (LamX.lamS_by (by kernel_rfl)) (fun A outer s H E f c1 hr1 => (pe_f (fk_layout_number c T hcomb) hr1 (by decide) (by rfl) (passes_call (takes_of rfl rfl rfl rfl) (fun _ _ _ _ h => h)) (pa_cons (pv 1) (pa_cons (pv 4) (pa_cons pe_non pa_nil)))))) (pe_tup (pa_cons pe_str (pa_cons (pe_un un_neg pe_int) pa_nil))) (nomark _)) (pss_one (ps_ret pe_bl)) pss_nil)
          (pss_cons (ps_set (i := 4) sc__law_refused.nd rfl (.inr rfl) (pe_f (fk__law_pick c T) hr (by decide) (by rfl) passL (pa_cons (pv 0) (pa_cons (pe_lst (pa_cons (pv 3) (pa_cons (pe_un un_neg pe_int) (pa_cons (pe_op op_add (pv 3) (pe_f (fk__law_take c T) hr (by decide) (by rfl) passL (pa_cons (pv 0) (pa_cons pe_int pa_nil)))) (pa_cons pe_non (pa_cons pe_bl (pa_cons (pe_lst (pa_cons pe_int pa_nil)) (pa_cons pe_str pa_nil)))))))) pa_nil))))
          (pss_cons (ps_if (pt_cmpR (op_neD hu) (pe_lerr (k := 10) T hErr (by rfl) (tabOk_of hcd (by decide) two tb rfl rfl) (hr.mono (by decide)) (LamX.lamS_by (by kernel_rfl)) (fun A outer s H E f c1 hr1 => (pe_f (fk_nth_layout c T hcomb) hr1 (by decide) (by rfl) (passes_call (takes_of rfl rfl rfl rfl) (fun _ _ _ _ h => h)) (pa_cons (pv 1) (pa_cons (pv 2) (pa_cons (pv 4) pa_nil)))))) (pe_tup (pa_cons pe_str (pa_cons (pe_un un_neg pe_int) pa_nil))) (nomark _)) (pss_one (ps_ret pe_bl)) pss_nil)
          (pss_cons (ps_set (i := 4) sc__law_refused.nd rfl (.inr rfl) (pe_f (fk__law_pick c T) hr (by decide) (by rfl) passL (pa_cons (pv 0) (pa_cons (pe_lst (pa_cons pe_non (pa_cons pe_int (pa_cons pe_str (pa_cons (pe_op op_rep (pe_lst (pa_cons pe_int pa_nil)) (pe_op op_add (pv 1) pe_int)) (pa_cons (pe_op op_rep (pe_lst (pa_cons pe_int pa_nil)) (pe_op op_sub (pv 1) pe_int)) pa_nil)))))) pa_nil))))
          (pss_one (ps_ret (pe_cmpR (op_eqD hu) (pe_lerr (k := 10) T hErr (by rfl) (tabOk_of hcd (by decide) two tb rfl rfl) (hr.mono (by decide)) (LamX.lamS_by (by kernel_rfl)) (fun A outer s H E f c1 hr1 => (pe_f (fk_layout_number c T hcomb) hr1 (by decide) (by rfl) (passes_call (takes_of rfl rfl rfl rfl) (fun _ _ _ _ h => h)) (pa_cons (pv 1) (pa_cons (pv 2) (pa_cons (pv 4) pa_nil)))))) (pe_tup (pa_cons pe_str (pa_cons (pe_un un_neg pe_int) pa_nil))) (nomark _)))))))))))), ?_⟩
    have hn30 : dIn 1 30 (.int (n : Int)) = true := by
      show (decide ((1 : Int) ≤ (n : Int)) && decide ((n : Int) ≤ 30)) = true
      rw [Bool.and_eq_true, decide_eq_true_eq, decide_eq_true_eq]
      omega
    refine t_seq (for_read ⟨_, rfl, (by show (6 : Nat) ≤ sizeLine; rw [sizeLine_eq]; decide), fun pt hpt => ?_⟩)
    have npt : pt ≠ a := Ne.symm (hB.ne hpt)
    have s1 := same_new (o := .tup [V.int 0, V.int (-1), V.int 31, V.non, V.bl true, V.str "3"]) hpt
    have ht1 : (upd H pt (.tup [V.int 0, V.int (-1), V.int 31, V.non, V.bl true, V.str "3"])) pt = some (.tup [V.int 0, V.int (-1), V.int 31, V.non, V.bl true, V.str "3"]) := upd_same
    have hB1 : BoxN (upd H pt (.tup [V.int 0, V.int (-1), V.int 31, V.non, V.bl true, V.str "3"])) a N := hB.same s1
    have hT1 := tabs_same hT s1
    show tFor _ _ _ _ _ (upd H pt (.tup [V.int 0, V.int (-1), V.int 31, V.non, V.bl true, V.str "3"]))
    generalize (upd H pt (.tup [V.int 0, V.int (-1), V.int 31, V.non, V.bl true, V.str "3"])) = H1 at s1 ht1 hB1 hT1 ⊢
    refine for_keepT (a := pt) (xs := [V.int 0, V.int (-1), V.int 31, V.non, V.bl true, V.str "3"]) (fun i σ H' => ∃ z4 : Option V, σ = [some (.ref a), some (.int (n : Int)), some (.int (r : Int)), some (.int ((lc r n : Nat) : Int)), z4] ∧ Stp a H1 H' ∧ BoxN H' a N ∧ LamX.Tabs (tbs K tbX) H') ⟨none, rfl, Stp.rfl', hB1, hT1⟩ (fun i σ H' ⟨_, _, st, _, _⟩ => SqT.of (st _ _ npt ht1 (fun ps e => by cases e))) ?_ ?_
    · rintro i x σ H2 hx ⟨z4, rfl, st2, hB2, hT2⟩
      obtain ⟨d, hd, hdb⟩ : ∃ d : PyData, (∀ H', Dp K H' x d) ∧ dIn 1 30 d = false := by
        have y := List.mem_of_getElem? hx
        simp only [List.mem_cons, List.not_mem_nil, or_false] at y
        rcases y with rfl | rfl | rfl | rfl | rfl | rfl
        · exact ⟨_, fun _ => .int _, by decide⟩
        · exact ⟨_, fun _ => .int _, by decide⟩
        · exact ⟨_, fun _ => .int _, by decide⟩
        · exact ⟨_, fun _ => .non, rfl⟩
        · exact ⟨_, fun _ => .bl _, rfl⟩
        · exact ⟨_, fun _ => .str _, rfl⟩
      try dsimp only [gName]
      refine t_seq (t_ifs (tt_suff (fun H' => Stp a H2 H' ∧ BoxN H' a (N) ∧ LamX.Tabs (tbs K tbX) H') (fun Q' rest => ?_) fun H3 h3 => ?_))
      · refine t_tst (t_op ⟨hT2, fun Hx ex tx => ⟨_, rfl, x, .non, d, .none, rfl, hd _, .non, .inl ⟨hdb, err_wordX "InvalidSize" "size" "cells" (by unfold ecs; simp) fun p Hy sy hy => ?_⟩⟩⟩)
        refine mk_tup (K := K) (ds := [.str "size", .str "cells"]) (mka_cons mk_str (mka_cons mk_str mka_nil)) (by simp) _ _ fun v7 Hz sz hz => ?_
        exact ne_same (dp_same sz _ _ hy) (dp_same newer_all _ _ hz) (nice_of (dp := 1) (wt := 100) (by decide +kernel)) (by decide) ⟨_, rfl, rest _ ⟨(Stp.ext ex).tr (Stp.of (sy.tr sz)), (hB2.ext ex).same (sy.tr sz), tabs_same tx (sy.tr sz)⟩⟩
      obtain ⟨st3, hB3, hT3⟩ := h3
      refine iteF (t_next ?_)
      try dsimp only
      refine t_seq (t_ifs (tt_suff (fun H' => Stp a H3 H' ∧ BoxN H' a (N) ∧ LamX.Tabs (tbs K tbX) H') (fun Q' rest => ?_) fun H4 h4 => ?_))
      · refine t_tst (t_op ⟨hT3, fun Hx ex tx => ⟨_, rfl, _, rfl, x, .int (r : Int), .non, d, .int (r : Int), .none, rfl, hd _, .int _, .non, .inl ⟨hdb, err_wordX "InvalidSize" "size" "cells" (by unfold ecs; simp) fun p Hy sy hy => ?_⟩⟩⟩)
        refine mk_tup (K := K) (ds := [.str "size", .str "cells"]) (mka_cons mk_str (mka_cons mk_str mka_nil)) (by simp) _ _ fun v7 Hz sz hz => ?_
        exact ne_same (dp_same sz _ _ hy) (dp_same newer_all _ _ hz) (nice_of (dp := 1) (wt := 100) (by decide +kernel)) (by decide) ⟨_, rfl, rest _ ⟨(Stp.ext ex).tr (Stp.of (sy.tr sz)), (hB3.ext ex).same (sy.tr sz), tabs_same tx (sy.tr sz)⟩⟩
      obtain ⟨st4, hB4, hT4⟩ := h4
      refine iteF (t_next ?_)
      try dsimp only
      refine t_ifs (tt_suff (fun H' => Stp a H4 H' ∧ BoxN H' a (N) ∧ LamX.Tabs (tbs K tbX) H') (fun Q' rest => ?_) fun H5 h5 => ?_)
      · refine t_tst (t_op ⟨hT4, fun Hx ex tx => ⟨_, rfl, x, .non, .non, d, .none, .none, rfl, hd _, .non, .non, .inl ⟨hdb, err_wordX "InvalidSize" "size" "cells" (by unfold ecs; simp) fun p Hy sy hy => ?_⟩⟩⟩)
        refine mk_tup (K := K) (ds := [.str "size", .str "cells"]) (mka_cons mk_str (mka_cons mk_str mka_nil)) (by simp) _ _ fun v7 Hz sz hz => ?_
        exact ne_same (dp_same sz _ _ hy) (dp_same newer_all _ _ hz) (nice_of (dp := 1) (wt := 100) (by decide +kernel)) (by decide) ⟨_, rfl, rest _ ⟨(Stp.ext ex).tr (Stp.of (sy.tr sz)), (hB4.ext ex).same (sy.tr sz), tabs_same tx (sy.tr sz)⟩⟩
      obtain ⟨st5, hB5, hT5⟩ := h5
      exact iteF (t_next ⟨_, rfl, ((st2.tr st3).tr st4).tr st5, hB5, hT5⟩)
    · rintro σ H2 ⟨z4, rfl, st2, hB2, hT2⟩
      try dsimp only
      have st2 := (Stp.of (a := a) s1).tr st2
      -- a wrong room
      refine t_seq ⟨_, rfl, mkl_lst (K := K) (ds := [.int 0, .int (-1), .int 9, .none, .bool false, .list [.int 3]]) (mka_cons mk_int (mka_cons mk_neg (mka_cons mk_int (mka_cons mk_non (mka_cons mk_bl (mka_cons (mk_lst (mka_cons mk_int mka_nil)) mka_nil)))))) (show (6 : Nat) ≤ 3000 by decide) _ _ fun p6 vs6 H6 s6 hp6 h6 d6 => ?_⟩
      have l6 : vs6.length = 6 := d6.len
      obtain ⟨xa2, ha2⟩ := hB2.at
      refine ⟨a, p6, N, vs6, rfl, hB2.same s6, by omega, SqL.of h6, hB2.ne hp6, by omega, by omega, fun r7 x7 H7 hx7 b7 hB7 => ?_⟩
      obtain ⟨d, hd, hp⟩ := d6.at hx7
      have hdb : dIn 1 8 d = false := by
        have y := List.mem_of_getElem? hd
        simp only [List.mem_cons, List.not_mem_nil, or_false] at y
        rcases y with rfl | rfl | rfl | rfl | rfl | rfl
        · decide
        · decide
        · decide
        · rfl
        · rfl
        · rfl
      have h7 : Dp K (off a H7) x7 d := dp_same ((newer_off ha2).tr (off_but b7)) _ _ hp
      have hx : ∀ Hx, Stp a H7 Hx → Dp K Hx x7 d := fun Hx st => dp_ext (LamX.ExtN.trans st.off (same_ext off_same)) _ _ h7
      have st7 : Stp a H H7 := (st2.tr (Stp.of s6)).tr (Stp.but b7)
      have hT7 := tabs_but (tabs_same hT2 s6) b7 (s6 _ _ ha2)
      clear hx7 d6
      try dsimp only [gName]
      refine t_seq (t_ifs (tt_suff (fun H' => Stp a H7 H' ∧ BoxN H' a (N + 1) ∧ LamX.Tabs (tbs K tbX) H') (fun Q' rest => ?_) fun H8 h8 => ?_))
      · refine t_tst (t_op ⟨hT7, fun Hx ex tx => ⟨_, rfl, _, rfl, .int (n : Int), x7, .int (n : Int), d, rfl, .int _, hx Hx (Stp.ext ex), .inr (.inl ⟨hn30, hdb, err_atX "InvalidRoom" "room" (by unfold ecs; simp) fun p Hy sy hy => ?_⟩)⟩⟩)
        refine mk_tup (K := K) (ds := [.str "room", .int (-1)]) (mka_cons mk_str (mka_cons mk_neg mka_nil)) (by simp) _ _ fun v7 Hz sz hz => ?_
        exact ne_same (dp_same sz _ _ hy) (dp_same newer_all _ _ hz) (nice_of (dp := 1) (wt := 100) (by decide +kernel)) (by decide) ⟨_, rfl, rest _ ⟨(Stp.ext ex).tr (Stp.of (sy.tr sz)), (hB7.ext ex).same (sy.tr sz), tabs_same tx (sy.tr sz)⟩⟩
      obtain ⟨st8, hB8, hT8⟩ := h8
      refine iteF (t_next ?_)
      try dsimp only
      refine t_seq (t_ifs (tt_suff (fun H' => Stp a H8 H' ∧ BoxN H' a (N + 1) ∧ LamX.Tabs (tbs K tbX) H') (fun Q' rest => ?_) fun H9 h9 => ?_))
      · refine t_tst (t_op ⟨hT8, fun Hx ex tx => ⟨_, rfl, _, rfl, .int (n : Int), x7, .non, .int (n : Int), d, .none, rfl, .int _, hx Hx (st8.tr (Stp.ext ex)), .non, .inr (.inl ⟨hn30, hdb, err_atX "InvalidRoom" "room" (by unfold ecs; simp) fun p Hy sy hy => ?_⟩)⟩⟩)
        refine mk_tup (K := K) (ds := [.str "room", .int (-1)]) (mka_cons mk_str (mka_cons mk_neg mka_nil)) (by simp) _ _ fun v7 Hz sz hz => ?_
        exact ne_same (dp_same sz _ _ hy) (dp_same newer_all _ _ hz) (nice_of (dp := 1) (wt := 100) (by decide +kernel)) (by decide) ⟨_, rfl, rest _ ⟨(Stp.ext ex).tr (Stp.of (sy.tr sz)), (hB8.ext ex).same (sy.tr sz), tabs_same tx (sy.tr sz)⟩⟩
      obtain ⟨st9, hB9, hT9⟩ := h9
      refine iteF (t_next ?_)
      try dsimp only
      refine t_seq (t_ifs (tt_suff (fun H' => Stp a H9 H' ∧ BoxN H' a (N + 1) ∧ LamX.Tabs (tbs K tbX) H') (fun Q' rest => ?_) fun H10 h10 => ?_))
      · refine t_tst (t_op ⟨hT9, fun Hx ex tx => ⟨_, rfl, _, rfl, .int (n : Int), x7, .non, .int (n : Int), d, .none, rfl, .int _, hx Hx ((st8.tr st9).tr (Stp.ext ex)), .non, .inr (.inl ⟨hn30, hdb, err_atX "InvalidRoom" "room" (by unfold ecs; simp) fun p Hy sy hy => ?_⟩)⟩⟩)
        refine mk_tup (K := K) (ds := [.str "room", .int (-1)]) (mka_cons mk_str (mka_cons mk_neg mka_nil)) (by simp) _ _ fun v7 Hz sz hz => ?_
        exact ne_same (dp_same sz _ _ hy) (dp_same newer_all _ _ hz) (nice_of (dp := 1) (wt := 100) (by decide +kernel)) (by decide) ⟨_, rfl, rest _ ⟨(Stp.ext ex).tr (Stp.of (sy.tr sz)), (hB9.ext ex).same (sy.tr sz), tabs_same tx (sy.tr sz)⟩⟩
      obtain ⟨st10, hB10, hT10⟩ := h10
      refine iteF (t_next ?_)
      try dsimp only
      have stA : Stp a H H10 := ((st7.tr st8).tr st9).tr st10
      obtain ⟨xa10, ha10⟩ := hB10.at
      -- a wrong number
      refine t_seq ⟨_, rfl, _, rfl, _, rfl, _, rfl, _, rfl, a, 9, N + 1, rfl, hB10, by omega, by decide, by decide, fun r11 H11 hr11 b11 hB11 => ⟨_, _, rfl, rfl, one_le, fun p0 hp0 => ⟨(by show (7 : Nat) ≤ sizeLine; rw [sizeLine_eq]; decide), fun pl hpl => ?_⟩⟩⟩
      have e0 := same_new (o := .lst [V.int 0]) hp0
      have e1 : Same (upd H11 p0 (.lst [V.int 0])) (upd (upd H11 p0 (.lst [V.int 0])) pl (.lst [V.int ((lc r n : Nat) : Int), V.int (-1), V.int (((lc r n : Nat) : Int) + (r11 : Nat)), V.non, V.bl true, V.ref p0, V.str "0"])) := same_new hpl
      have np0 : p0 ≠ a := Ne.symm (hB11.ne hp0)
      have q0 : (upd H11 p0 (.lst [V.int 0])) p0 = some (.lst [V.int 0]) := upd_same
      obtain ⟨xa11, ha11⟩ := hB11.at
      refine ⟨a, pl, N + 1 + 1, [V.int ((lc r n : Nat) : Int), V.int (-1), V.int (((lc r n : Nat) : Int) + (r11 : Nat)), V.non, V.bl true, V.ref p0, V.str "0"], rfl, (hB11.same e0).same e1, by omega, SqL.of upd_same, (hB11.same e0).ne hpl, (by show (0 : Nat) < 7; decide), (by show (7 : Nat) ≤ 1000000; decide), fun rx x12 H12 hx12 b12 hB12 => ?_⟩
      have q12 : H12 p0 = some (.lst [V.int 0]) := b12 _ _ np0 (e1 _ _ q0)
      obtain ⟨f, hf, hfb⟩ : ∃ f : PyData, (∀ H', Stp a H12 H' → Dp K H' x12 f) ∧ dIn 0 (((lc r n : Nat) : Int) - 1) f = false := by
        have y := List.mem_of_getElem? hx12
        simp only [List.mem_cons, List.not_mem_nil, or_false] at y
        rcases y with rfl | rfl | rfl | rfl | rfl | rfl | rfl
        · exact ⟨_, fun _ _ => .int _, dIn_out (.inr (Int.le_refl _))⟩
        · exact ⟨_, fun _ _ => .int _, dIn_out (.inl (by decide))⟩
        · exact ⟨_, fun _ _ => .int _, dIn_out (.inr (by omega))⟩
        · exact ⟨_, fun _ _ => .non, rfl⟩
        · exact ⟨_, fun _ _ => .bl _, rfl⟩
        · exact ⟨.list [.int 0], fun H' st => .lst (SqL.of (st _ _ np0 q12 (fun ps e => by cases e))) (.cons (.int _) .nil), rfl⟩
        · exact ⟨_, fun _ _ => .str _, rfl⟩
      have stC : Stp a H H12 := (stA.tr (Stp.but b11)).tr (((Stp.of e0).tr (Stp.of e1)).tr (Stp.but b12))
      have hT12 := tabs_but (tabs_same (tabs_same (tabs_but hT10 b11 ha10) e0) e1) b12 (e1 _ _ (e0 _ _ ha11))
      clear hx12
      try dsimp only [gName]
      refine t_seq (t_ifs (tt_suff (fun H' => Stp a H12 H' ∧ BoxN H' a (N + 1 + 1 + 1) ∧ LamX.Tabs (tbs K tbX) H') (fun Q' rest => ?_) fun H13 h13 => ?_))
      · refine t_tst (t_op ⟨hT12, fun Hx ex tx => ⟨_, rfl, _, rfl, _, rfl, .int (n : Int), .int (r : Int), x12, .int (n : Int), .int (r : Int), f, rfl, .int _, .int _, hf Hx (Stp.ext ex), .inr (.inr ⟨n, r, rfl, rfl, hn1, by omega, h1, h8, .inl ⟨hfb, err_atX "InvalidIndex" "index" (by unfold ecs; simp) fun p Hy sy hy => ?_⟩⟩)⟩⟩)
        refine mk_tup (K := K) (ds := [.str "index", .int (-1)]) (mka_cons mk_str (mka_cons mk_neg mka_nil)) (by simp) _ _ fun v7 Hz sz hz => ?_
        exact ne_same (dp_same sz _ _ hy) (dp_same newer_all _ _ hz) (nice_of (dp := 1) (wt := 100) (by decide +kernel)) (by decide) ⟨_, rfl, rest _ ⟨(Stp.ext ex).tr (Stp.of (sy.tr sz)), (hB12.ext ex).same (sy.tr sz), tabs_same tx (sy.tr sz)⟩⟩
      obtain ⟨st13, hB13, hT13⟩ := h13
      refine iteF (t_next ?_)
      try dsimp only
      have stD : Stp a H H13 := stC.tr st13
      obtain ⟨xa13, ha13⟩ := hB13.at
      refine t_seq ⟨_, rfl, one_le, fun z1 hz1 => ⟨_, rfl, _, _, rfl, rfl, z1, (n : Int) + 1, [V.int 0], rfl, rfl, upd_same, by omega, by omega, ?_, fun z2 hz2 => ⟨one_le, fun z3 hz3 => ⟨_, rfl, _, _, rfl, rfl, z3, (n : Int) - 1, [V.int 0], rfl, rfl, upd_same, by omega, by omega, ?_, fun z5 hz5 => ⟨(by show (5 : Nat) ≤ sizeLine; rw [sizeLine_eq]; decide), fun pm hpm => ?_⟩⟩⟩⟩⟩
      · rw [sizeLine_eq]
        show 1 * _ ≤ _
        omega
      · rw [sizeLine_eq]
        show 1 * _ ≤ _
        omega
      have rep : ∀ m : Nat, (List.replicate m [V.int 0]).flatten = nV (List.replicate m 0) := fun m => by
        rw [List.flatten_replicate_singleton]
        show _ = List.map _ _
        rw [List.map_replicate]
        rfl
      rw [show ((n : Int) + 1).toNat = n + 1 by omega, show ((n : Int) - 1).toNat = n - 1 by omega, rep, rep] at *
      have g1 := same_new (o := .lst [V.int 0]) hz1
      have g2 := same_new (o := .lst (nV (List.replicate (n + 1) 0))) hz2
      have g3 := same_new (o := .lst [V.int 0]) hz3
      have g4 := same_new (o := .lst (nV (List.replicate (n - 1) 0))) hz5
      have g5 := same_new (o := .lst [V.non, V.int 3, V.str "0", V.ref z2, V.ref z5]) hpm
      have b2 := (hB13.same g1)
      have b3 := b2.same g2
      have b4 := b3.same g3
      have b5 := b4.same g4
      have nz2 : z2 ≠ a := Ne.symm (b2.ne hz2)
      have nz5 : z5 ≠ a := Ne.symm (b4.ne hz5)
      have w2 := g5 _ _ (g4 _ _ (g3 _ _ (upd_same (H := _) (a := z2) (o := HO.lst (nV (List.replicate (n + 1) 0))))))
      have w5 := g5 _ _ (upd_same (H := _) (a := z5) (o := HO.lst (nV (List.replicate (n - 1) 0))))
      have gA := g1.tr (g2.tr (g3.tr (g4.tr g5)))
      refine ⟨a, pm, N + 1 + 1 + 1, [V.non, V.int 3, V.str "0", V.ref z2, V.ref z5], rfl, b5.same g5, by omega, SqL.of upd_same, b5.ne hpm, (by show (0 : Nat) < 5; decide), (by show (5 : Nat) ≤ 1000000; decide), fun ry x14 H14 hx14 b14 hB14 => ?_⟩
      have v2 := b14 _ _ nz2 w2
      have v5 := b14 _ _ nz5 w5
      obtain ⟨f2, hf2, hfb2⟩ : ∃ f : PyData, (∀ H', Stp a H14 H' → Dp K H' x14 f) ∧ (dSeq f && decide ((dItems f).length = n)) = false := by
        have y := List.mem_of_getElem? hx14
        simp only [List.mem_cons, List.not_mem_nil, or_false] at y
        rcases y with rfl | rfl | rfl | rfl | rfl
        · exact ⟨_, fun _ _ => .non, rfl⟩
        · exact ⟨_, fun _ _ => .int _, rfl⟩
        · exact ⟨_, fun _ _ => .str _, rfl⟩
        · refine ⟨.list (nI (List.replicate (n + 1) 0)), fun H' st => .lst (SqL.of (st _ _ nz2 v2 (fun ps e => by cases e))) (dAll_nat _), ?_⟩
          show (true && decide ((nI (List.replicate (n + 1) 0)).length = n)) = false
          rw [Bool.true_and, decide_eq_false_iff_not, show (nI (List.replicate (n + 1) 0)).length = _ from List.length_map .., List.length_replicate]
          omega
        · refine ⟨.list (nI (List.replicate (n - 1) 0)), fun H' st => .lst (SqL.of (st _ _ nz5 v5 (fun ps e => by cases e))) (dAll_nat _), ?_⟩
          show (true && decide ((nI (List.replicate (n - 1) 0)).length = n)) = false
          rw [Bool.true_and, decide_eq_false_iff_not, show (nI (List.replicate (n - 1) 0)).length = _ from List.length_map .., List.length_replicate]
          omega
      have stE : Stp a H H14 := stD.tr ((Stp.of gA).tr (Stp.but b14))
      have hT14 := tabs_but (tabs_same hT13 gA) b14 (gA _ _ ha13)
      try dsimp only [gName]
      refine t_ret (t_op ⟨hT14, fun Hx ex tx => ⟨_, rfl, _, rfl, _, rfl, .int (n : Int), .int (r : Int), x14, .int (n : Int), .int (r : Int), f2, rfl, .int _, .int _, hf2 Hx (Stp.ext ex), .inr (.inr ⟨n, r, rfl, rfl, hn1, by omega, h1, h8, .inl ⟨hfb2, err_atX "InvalidLayout" "layout" (by unfold ecs; simp) fun p Hy sy hy => ?_⟩⟩)⟩⟩)
      refine mk_tup (K := K) (ds := [.str "layout", .int (-1)]) (mka_cons mk_str (mka_cons mk_neg mka_nil)) (by simp) _ _ fun v7 Hz sz hz => ?_
      exact eq_same (dp_same sz _ _ hy) (dp_same newer_all _ _ hz) (nice_of (dp := 1) (wt := 100) (by decide +kernel)) (by decide) (hq Hz ((stE.tr (Stp.ext ex)).tr (Stp.of (sy.tr sz))) (((hB14.ext ex).same (sy.tr sz)).le (by omega)) (tabs_same tx (sy.tr sz)))
end
end K02

namespace K02
open PySem PySem.Spec PyProof.Rows L2 Shf
section
variable {P : Program} {w : World} {K : PySem.W.Frag} {mg : PySem.Str → Option Value} {base : Heap}

theorem dAll_set {K : PySem.W.Frag} {H : Hp} {x : V} {d : PyData} (hx : Dp K H x d) : ∀ (t : Nat) {vs : List V} {ds : List PyData}, DpAll K H vs ds → DpAll K H (vs.set t x) (ds.set t d)
  | _, _, _, .nil => .nil
  | 0, _, _, .cons _ r => .cons hx r
  | t + 1, _, _, .cons h r => .cons h (dAll_set hx t r)
def spFullL (K : PySem.W.Frag) : Sp := fun vs H Q _ => ∃ (a : Addr) (N : Int) (n r : Nat), vs = [.ref a, .int (n : Int), .int (r : Int)] ∧ BoxN H a N ∧ N < 10000000000 ∧ 1 ≤ n ∧ n ≤ 6 ∧ 1 ≤ r ∧ r ≤ 8 ∧ LamX.Tabs (tbs K tbX) H ∧ ∀ H', Stp a H H' → BoxN H' a (N + 2 * n + 3) → LamX.Tabs (tbs K tbX) H' → Q (.bl true) H'
theorem sc__law_full : FnScope ["_law_box_here", "_law_cells", "_law_room", "_law_layout_here", "_law_at", "_law_wrong", "_law_crowd"] ["_law_box_here", "_law_cells", "_law_room"] (defScope s__law_full) := ⟨rfl, rfl, rfl, by decide +kernel, rfl, by decide +kernel, by decide +kernel⟩
theorem fk__law_full (c : SaysS cfg.facts cfg.fn K) (T : EnvOk cfg K mg) (two : (tbX.map fun y => (He.cT K (y, none)).2).Nodup) (tb : ∀ y ∈ tbX, LamX.TabB base mg (He.cT K (y, none)).1 (He.cT K (y, none)).2) (hcomb : mg "comb" = some (.builtin "math.comb")) : Fk P w K mg base 13 "_law_full" ["_law_box_here", "_law_cells", "_law_room"] (spFullL K) := by
  obtain ⟨fd, hh⟩ := has_of c T 29 "_law_full" s__law_full rfl
  obtain ⟨fdE, hErr⟩ := has_of c T 27 "_law_error" s__law_error rfl
  refine Fk.of hh (hh.F.okc sc__law_full (fun vs H Q E h => ?_) (fun cdv hcd A outer s H vs Q E hr h => ?_)) (hh.F.bindsN fun _ _ _ _ _ _ us hl => match us, hl with | [_, _, _], _ => rfl)
  · obtain ⟨a, N, n, r, rfl, _⟩ := h
    rfl
  · obtain ⟨a, N, n, r, rfl, hB, hN, hn1, hn, h1, h8, hT, hq⟩ := h
    have mlist := T.free "list" (by decide)
    have hu65 := room65 hr
    have hu := hr.units
    have hu0 := Nat.lt_of_le_of_lt (Nat.le_add_right _ 64) hr.units
    refine ⟨_, (pss_cons (ps_set (i := 3) sc__law_full.nd rfl (.inl rfl) (pe_f (fk__law_layout c T) hr (by decide) (by rfl) passL (pa_cons (pv 0) (pa_cons (pv 1) (pa_cons (pv 2) pa_nil)))))
          (pss_cons (ps_set (i := 4) sc__law_full.nd rfl (.inl rfl) (pe_f (fk__law_take c T) hr (by decide) (by rfl) passL (pa_cons (pv 0) (pa_cons (pv 1) pa_nil))))
          (pss_cons (ps_set (i := 5) sc__law_full.nd rfl (.inr rfl) (pe_callTy cr_listOf (by rfl) mlist (by decide +kernel) (pa_cons (pv 3) pa_nil)))
          (pss_cons (ps_asg (pe_f (fk__law_pick c T) hr (by decide) (by rfl) passL (pa_cons (pv 0) (pa_cons (pe_lst (pa_cons (pe_un un_neg pe_int) (pa_cons pe_int (pa_cons pe_non (pa_cons pe_bl (pa_cons pe_str (pa_cons (pe_lst (pa_cons pe_int pa_nil)) (pa_cons (pe_op op_add pe_int (pe_f (fk__law_take c T) hr (by decide) (by rfl) passL (pa_cons (pv 0) (pa_cons pe_int pa_nil)))) pa_nil)))))))) pa_nil))) (pg_sub (pv 5) (pv 4) set_list (fun _ => rfl)))
          (pss_cons (ps_if (pt_cmpR (op_neD hu) (pe_lerr (k := 10) T hErr (by rfl) (tabOk_of hcd (by decide) two tb rfl rfl) (hr.mono (by decide)) (LamX.lamS_by (by kernel_rfl)) (fun A outer s H E f c1 hr1 => (pe_f (fk_layout_number c T hcomb) hr1 (by decide) (by rfl) (passes_call (takes_of rfl rfl rfl rfl) (fun _ _ _ _ h => h)) (pa_cons (pv 1) (pa_cons (pv 2) (pa_cons (pv 5) pa_nil)))))) (pe_tup (pa_cons pe_str (pa_cons (pv 4) pa_nil))) (nomark _)) (pss_one (ps_ret pe_bl)) pss_nil)
          (pss_cons (ps_if (pt_cmpR (op_neD hu) (pe_lerr (k := 10) T hErr (by rfl) (tabOk_of hcd (by decide) two tb rfl rfl) (hr.mono (by decide)) (LamX.lamS_by (by kernel_rfl)) (fun A outer s H E f c1 hr1 => (pe_f (fk_plain_layout c T) hr1 (by decide) (by rfl) (passes_call (takes_of rfl rfl rfl rfl) (fun _ _ _ _ h => h)) (pa_cons (pv 5) pa_nil)))) (pe_tup (pa_cons pe_str (pa_cons (pv 4) pa_nil))) (nomark _)) (pss_one (ps_ret pe_bl)) pss_nil)
          (pss_cons (ps_set (i := 6) sc__law_full.nd rfl (.inr rfl) (pe_op op_rep (pe_lst (pa_cons pe_int pa_nil)) (pv 1)))
          (pss_one (ps_ret (pe_cmpR (op_eqD hu) (pe_lerr (k := 10) T hErr (by rfl) (tabOk_of hcd (by decide) two tb rfl rfl) (hr.mono (by decide)) (LamX.lamS_by (by kernel_rfl)) (fun A outer s H E f c1 hr1 => (pe_f (fk_layout_number c T hcomb) hr1 (by decide) (by rfl) (passes_call (takes_of rfl rfl rfl rfl) (fun _ _ _ _ h => h)) (pa_cons (pv 1) (pa_cons (pv 2) (pa_cons (pv 6) pa_nil)))))) (pe_ifExp (pt_cmpR op_le (pv 1) (pv 2) (nomark _)) pe_non (pe_tup (pa_cons pe_str (pa_cons (pv 2) pa_nil)))) (nomark _))))))))))), ?_⟩
    obtain ⟨xa, ha⟩ := hB.at
    refine t_seq ⟨_, rfl, _, rfl, _, rfl, a, N, n, r, rfl, hB, by omega, by omega, h1, fun q w H1 hq0 nq hq1 hwl hwn hwr b1 hB1 => ?_⟩
    have hT1 := tabs_but hT b1 ha
    try dsimp only [gName]
    obtain ⟨xa1, ha1⟩ := hB1.at
    refine t_seq ⟨_, rfl, _, rfl, a, n, N + 2 * n, rfl, hB1, by omega, by omega, by omega, fun t H2 ht b2 hB2 => ?_⟩
    have ht : t < n := by omega
    have hT2 := tabs_but hT1 b2 ha1
    have hq2 : H2 q = some (.lst (nV w)) := b2 _ _ nq hq1
    try dsimp only [gName]
    refine t_seq ⟨_, rfl, q, nV w, rfl, .inl (SqL.of hq2), fun pw hpw => ?_⟩
    have npw : pw ≠ a := Ne.symm (hB2.ne hpw)
    have hpwH : H pw = none := by
      cases z : H pw with
      | none => rfl
      | some o =>
        have y := (b1.tr b2) pw o npw z
        rw [hpw] at y
        cases y
    have g3 := same_new (o := .lst (nV w)) hpw
    have w3 : (upd H2 pw (.lst (nV w))) pw = some (.lst (nV w)) := upd_same
    have hB3 := hB2.same g3
    have hT3 := tabs_same hT2 g3
    have st3 : Stp a H (upd H2 pw (.lst (nV w))) := ((Stp.but b1).tr (Stp.but b2)).tr (Stp.of g3)
    generalize (upd H2 pw (.lst (nV w))) = H3 at g3 w3 hB3 hT3 st3 ⊢
    try dsimp only [gName]
    obtain ⟨xa3, ha3⟩ := hB3.at
    refine t_seq ⟨_, rfl, _, rfl, one_le, fun p0 hp0 => ⟨_, rfl, a, 9, N + 2 * n + 1, rfl, hB3.same (same_new hp0), by omega, by decide, by decide, fun t2 H4 ht2 b4 hB4 => ⟨_, _, rfl, rfl, (by show (7 : Nat) ≤ sizeLine; rw [sizeLine_eq]; decide), fun pl hpl => ?_⟩⟩⟩
    have e0 := same_new (o := .lst [V.int 0]) hp0
    have np0 : p0 ≠ a := Ne.symm (hB3.ne hp0)
    have npp : p0 ≠ pw := Ne.symm (ne_of_none w3 hp0)
    have q4 : H4 p0 = some (.lst [V.int 0]) := b4 _ _ np0 upd_same
    have w4 : H4 pw = some (.lst (nV w)) := b4 _ _ npw (e0 _ _ w3)
    have hT4 := tabs_but (tabs_same hT3 e0) b4 (e0 _ _ ha3)
    obtain ⟨xa4, ha4⟩ := hB4.at
    have e1 := same_new (o := .lst [V.int (-1), V.int 200, V.non, V.bl true, V.str "0", V.ref p0, V.int (201 + (t2 : Nat))]) hpl
    refine ⟨a, pl, N + 2 * n + 1 + 1, [V.int (-1), V.int 200, V.non, V.bl true, V.str "0", V.ref p0, V.int (201 + (t2 : Nat))], rfl, hB4.same e1, by omega, SqL.of upd_same, hB4.ne hpl, (by show (0 : Nat) < 7; decide), (by show (7 : Nat) ≤ 1000000; decide), fun ry x H5 hx b5 hB5 => ⟨_, rfl, _, rfl, pw, nV w, (t : Int), t, rfl, rfl, b5 _ _ npw (e1 _ _ w4), ?_, ?_⟩⟩
    · unfold ixN
      rw [if_pos (by omega), if_pos (by rw [show (nV w).length = _ from List.length_map ..]; omega)]
      rfl
    have w5 := b5 _ _ npw (e1 _ _ w4)
    have hT5 := tabs_but (tabs_same hT4 e1) b5 (e1 _ _ ha4)
    have st5 : Stp a H H5 := ((st3.tr (Stp.of e0)).tr (Stp.but b4)).tr ((Stp.of e1).tr (Stp.but b5))
    have st6 : Stp a H (upd H5 pw (.lst ((nV w).set t x))) := fun b o nb e tb => (upd_ne (ne_of_none e hpwH)).trans (st5 b o nb e tb)
    have hT6 : LamX.Tabs (tbs K tbX) (upd H5 pw (.lst ((nV w).set t x))) := tabs_but hT5 but_upd w5
    have hB6 : BoxN (upd H5 pw (.lst ((nV w).set t x))) a (N + 2 * n + 3) := (hB5.le (by omega)).keep (upd_ne (Ne.symm npw))
    have w6 : (upd H5 pw (.lst ((nV w).set t x))) pw = some (.lst ((nV w).set t x)) := upd_same
    have q6 : (upd H5 pw (.lst ((nV w).set t x))) p0 = some (.lst [V.int 0]) := (upd_ne npp).trans (b5 _ _ np0 (e1 _ _ q4))
    generalize (upd H5 pw (.lst ((nV w).set t x))) = H6 at st6 hT6 hB6 w6 q6 ⊢
    obtain ⟨d, hd, hdb⟩ : ∃ d : PyData, (∀ H', Stp a H6 H' → Dp K H' x d) ∧ dIn 0 199 d = false := by
      have y := List.mem_of_getElem? hx
      simp only [List.mem_cons, List.not_mem_nil, or_false] at y
      rcases y with rfl | rfl | rfl | rfl | rfl | rfl | rfl
      · exact ⟨_, fun _ _ => .int _, by decide⟩
      · exact ⟨_, fun _ _ => .int _, by decide⟩
      · exact ⟨_, fun _ _ => .non, rfl⟩
      · exact ⟨_, fun _ _ => .bl _, rfl⟩
      · exact ⟨_, fun _ _ => .str _, rfl⟩
      · exact ⟨.list [.int 0], fun H' st => .lst (SqL.of (st _ _ np0 q6 (fun ps e => by cases e))) (.cons (.int _) .nil), rfl⟩
      · refine ⟨_, fun _ _ => .int _, ?_⟩
        show (decide ((0 : Int) ≤ 201 + (t2 : Nat)) && decide ((201 : Int) + (t2 : Nat) ≤ 199)) = false
        rw [Bool.and_eq_false_iff]
        exact .inr (decide_eq_false (by omega))
    clear hx
    have hW : ∀ H', Stp a H6 H' → Dp K H' (.ref pw) (.list ((nI w).set t d)) := fun H' st => .lst (SqL.of (st _ _ npw w6 (fun ps e => by cases e))) (dAll_set (hd H' st) t (dAll_nat w))
    have nil : (nI w).length = w.length := List.length_map ..
    have split : (nI w).set t d = nI (w.take t) ++ d :: nI (w.drop (t + 1)) := by
      rw [List.set_eq_take_append_cons_drop, if_pos (by rw [nil]; omega)]
      show (List.map _ _).take t ++ d :: (List.map _ _).drop (t + 1) = List.map _ _ ++ d :: List.map _ _
      rw [List.map_take, List.map_drop]
    have tl : (w.take t).length = t := by
      rw [List.length_take]
      omega
    have hoff : ∀ R, (∀ b, w.count b ≤ R) → LOff R (.list ((nI w).set t d)) (t : Int) := fun R hR => by
      have y := LOff.off (r := R) (d := .list ((nI w).set t d)) (w.take t) d (nI (w.drop (t + 1))) split (fun x hx => by
        have := hwn x (List.mem_of_mem_take hx)
        omega) (fun i x hx => Nat.le_trans ((((w.take t).take_sublist (i + 1)).trans (w.take_sublist t)).count_le x) (hR x)) (.inl hdb)
      rw [tl] at y
      exact y
    have nlay : Nice (.tuple [.str "layout", .int (t : Int)]) 1 42 := nice_tup (niceA_cons (nice_of (dp := 0) (wt := 20) (by decide +kernel)) (niceA_cons (nice_nat (n := t) (by omega)) niceA_nil))
    have hseq : (dSeq (.list ((nI w).set t d)) && decide ((dItems (.list ((nI w).set t d))).length = n)) = true := by
      show (true && decide (((nI w).set t d).length = n)) = true
      rw [Bool.true_and, decide_eq_true_eq, List.length_set, nil]
      exact hwl
    have hrow : dRowOf 200 (.list ((nI w).set t d)) = true := by
      show (true && (decide (1 ≤ ((nI w).set t d).length) && decide (((nI w).set t d).length ≤ 200))) = true
      rw [Bool.true_and, Bool.and_eq_true, decide_eq_true_eq, decide_eq_true_eq, List.length_set, nil]
      omega
    try dsimp only
    refine t_seq (t_ifs (tt_suff (fun H' => Stp a H6 H' ∧ BoxN H' a (N + 2 * n + 3) ∧ LamX.Tabs (tbs K tbX) H') (fun Q' rest => ?_) fun H7 h7 => ?_))
    · refine t_tst (t_op ⟨hT6, fun Hx ex tx => ⟨_, rfl, _, rfl, _, rfl, .int (n : Int), .int (r : Int), .ref pw, .int (n : Int), .int (r : Int), .list ((nI w).set t d), rfl, .int _, .int _, hW Hx (Stp.ext ex), .inr (.inr ⟨n, r, rfl, rfl, hn1, by omega, h1, h8, .inr ⟨hseq, .inl ⟨_, hoff r hwr, err_atX "InvalidLayout" "layout" (by unfold ecs; simp) fun p Hy sy hy => ?_⟩⟩⟩)⟩⟩)
      refine mk_tup (K := K) (ds := [.str "layout", .int (t : Int)]) (mka_cons mk_str (mka_cons (mk_varI rfl) mka_nil)) (by simp) _ _ fun v7 Hz sz hz => ?_
      exact ne_same (dp_same sz _ _ hy) (dp_same newer_all _ _ hz) nlay (by decide) ⟨_, rfl, rest _ ⟨(Stp.ext ex).tr (Stp.of (sy.tr sz)), (hB6.ext ex).same (sy.tr sz), tabs_same tx (sy.tr sz)⟩⟩
    obtain ⟨st7, hB7, hT7⟩ := h7
    refine iteF (t_next ?_)
    try dsimp only
    refine t_seq (t_ifs (tt_suff (fun H' => Stp a H7 H' ∧ BoxN H' a (N + 2 * n + 3) ∧ LamX.Tabs (tbs K tbX) H') (fun Q' rest => ?_) fun H8 h8 => ?_))
    · refine t_tst (t_op ⟨hT7, fun Hx ex tx => ⟨_, rfl, .ref pw, .list ((nI w).set t d), rfl, hW Hx (st7.tr (Stp.ext ex)), hrow, .inl ⟨_, hoff _ (fun b => Nat.le_trans List.count_le_length (Nat.le_of_eq (by show w.length = ((nI w).set t d).length; rw [List.length_set, nil]))), err_atX "InvalidLayout" "layout" (by unfold ecs; simp) fun p Hy sy hy => ?_⟩⟩⟩)
      refine mk_tup (K := K) (ds := [.str "layout", .int (t : Int)]) (mka_cons mk_str (mka_cons (mk_varI rfl) mka_nil)) (by simp) _ _ fun v7 Hz sz hz => ?_
      exact ne_same (dp_same sz _ _ hy) (dp_same newer_all _ _ hz) nlay (by decide) ⟨_, rfl, rest _ ⟨(Stp.ext ex).tr (Stp.of (sy.tr sz)), (hB7.ext ex).same (sy.tr sz), tabs_same tx (sy.tr sz)⟩⟩
    obtain ⟨st8, hB8, hT8⟩ := h8
    refine iteF (t_next ?_)
    try dsimp only
    have stZ : Stp a H H8 := (st6.tr st7).tr st8
    -- a crowd
    refine t_seq ⟨one_le, fun z1 hz1 => ⟨_, rfl, z1, (n : Int), [V.int 7], rfl, rfl, upd_same, by omega, by omega, ?_, fun z2 hz2 => ?_⟩⟩
    · rw [sizeLine_eq]
      show 1 * _ ≤ _
      omega
    have rep : (List.replicate ((n : Nat) : Int).toNat [V.int 7]).flatten = nV (List.replicate n 7) := by
      rw [List.flatten_replicate_singleton, Int.toNat_natCast]
      show _ = List.map _ _
      rw [List.map_replicate]
      rfl
    rw [rep]
    have gA := (same_new (o := .lst [V.int 7]) hz1).tr (same_new (o := .lst (nV (List.replicate n 7))) hz2)
    have z9 : (upd (upd H8 z1 (.lst [V.int 7])) z2 (.lst (nV (List.replicate n 7)))) z2 = some (.lst (nV (List.replicate n 7))) := upd_same
    have nz2 : z2 ≠ a := Ne.symm ((hB8.same (same_new hz1)).ne hz2)
    have hB9 := hB8.same gA
    have hT9 := tabs_same hT8 gA
    have st9 := stZ.tr (Stp.of gA)
    generalize (upd (upd H8 z1 (.lst [V.int 7])) z2 (.lst (nV (List.replicate n 7)))) = H9 at z9 hB9 hT9 st9 ⊢
    try dsimp only [gName]
    have hC : ∀ H', Stp a H9 H' → Dp K H' (.ref z2) (.list (nI (List.replicate n 7))) := fun H' st => .lst (SqL.of (st _ _ nz2 z9 (fun ps e => by cases e))) (dAll_nat _)
    have cseq : (dSeq (.list (nI (List.replicate n 7))) && decide ((dItems (.list (nI (List.replicate n 7)))).length = n)) = true := by
      show (true && decide ((nI (List.replicate n 7)).length = n)) = true
      rw [Bool.true_and, decide_eq_true_eq, show (nI (List.replicate n 7)).length = _ from List.length_map .., List.length_replicate]
    have ra : ∀ (m k : Nat), (List.replicate m 7).count k ≤ m := fun m k => Nat.le_trans List.count_le_length (Nat.le_of_eq List.length_replicate)
    have r7 : ∀ (m : Nat), ∀ x ∈ List.replicate m 7, x < 200 := fun m x hx => by
      rw [List.eq_of_mem_replicate hx]
      decide
    by_cases hnr : n ≤ r
    · have ok : LOk r (.list (nI (List.replicate n 7))) (List.replicate n 7) := ⟨rfl, r7 n, fun i x hx => Nat.le_trans (((List.replicate n 7).take_sublist (i + 1)).count_le x) (Nat.le_trans (ra n x) hnr)⟩
      refine t_ret (t_op ⟨hT9, fun Hx ex tx => ⟨_, rfl, _, rfl, _, rfl, .int (n : Int), .int (r : Int), .ref z2, .int (n : Int), .int (r : Int), .list (nI (List.replicate n 7)), rfl, .int _, .int _, hC Hx (Stp.ext ex), .inr (.inr ⟨n, r, rfl, rfl, hn1, by omega, h1, h8, .inr ⟨cseq, .inr ⟨_, ok, fun Hy sy => ?_⟩⟩⟩)⟩⟩)
      refine ⟨_, rfl, _, rfl, _, _, rfl, rfl, _, rfl, ?_⟩
      rw [decide_eq_true (show ((n : Nat) : Int) ≤ (r : Int) by omega)]
      exact iteT (eq_same .non .non (nice_of (dp := 0) (wt := 0) (by decide +kernel)) (by decide) (hq Hy ((st9.tr (Stp.ext ex)).tr (Stp.of sy)) (((hB9.ext ex).same sy).le (by omega)) (tabs_same tx sy)))
    · have off : LOff r (.list (nI (List.replicate n 7))) (r : Int) := by
        have e : nI (List.replicate n 7) = nI (List.replicate r 7) ++ .int ((7 : Nat) : Int) :: nI (List.replicate (n - r - 1) 7) := by
          have q : List.replicate n 7 = List.replicate r 7 ++ 7 :: List.replicate (n - r - 1) 7 := by
            rw [← List.replicate_succ, List.replicate_append_replicate]
            congr 1
            omega
          rw [q]
          show List.map _ _ = List.map _ _ ++ _ :: List.map _ _
          rw [List.map_append, List.map_cons]
        have y := LOff.off (r := r) (d := .list (nI (List.replicate n 7))) (List.replicate r 7) (.int ((7 : Nat) : Int)) (nI (List.replicate (n - r - 1) 7)) e (r7 r) (fun i x hx => Nat.le_trans (((List.replicate r 7).take_sublist (i + 1)).count_le x) (ra r x)) (.inr ⟨7, rfl, by decide, by rw [List.count_replicate_self]; exact Nat.le_refl _⟩)
        rw [List.length_replicate] at y
        exact y
      have nr : Nice (.tuple [.str "layout", .int (r : Int)]) 1 42 := nice_tup (niceA_cons (nice_of (dp := 0) (wt := 20) (by decide +kernel)) (niceA_cons (nice_nat (n := r) (by omega)) niceA_nil))
      refine t_ret (t_op ⟨hT9, fun Hx ex tx => ⟨_, rfl, _, rfl, _, rfl, .int (n : Int), .int (r : Int), .ref z2, .int (n : Int), .int (r : Int), .list (nI (List.replicate n 7)), rfl, .int _, .int _, hC Hx (Stp.ext ex), .inr (.inr ⟨n, r, rfl, rfl, hn1, by omega, h1, h8, .inr ⟨cseq, .inl ⟨_, off, err_atX "InvalidLayout" "layout" (by unfold ecs; simp) fun p Hy sy hy => ?_⟩⟩⟩)⟩⟩)
      refine ⟨_, rfl, _, rfl, _, _, rfl, rfl, _, rfl, ?_⟩
      rw [decide_eq_false (show ¬ ((n : Nat) : Int) ≤ (r : Int) by omega)]
      refine iteF (mk_tup (K := K) (ds := [.str "layout", .int (r : Int)]) (mka_cons mk_str (mka_cons (mk_varI rfl) mka_nil)) (by simp) _ _ fun v7 Hz sz hz => ?_)
      exact eq_same (dp_same sz _ _ hy) (dp_same newer_all _ _ hz) nr (by decide) (hq Hz ((st9.tr (Stp.ext ex)).tr (Stp.of (sy.tr sz))) (((hB9.ext ex).same (sy.tr sz)).le (by omega)) (tabs_same tx (sy.tr sz)))
end
end K02

namespace K02
open PySem PySem.Spec PyProof.Rows L2 Shf
section
variable {P : Program} {w : World} {K : PySem.W.Frag} {mg : PySem.Str → Option Value} {base : Heap}

theorem stp_sq {a p : Addr} {H H' : Hp} {xs : List V} (st : Stp a H H') (n : p ≠ a) (h : Sq K H p xs) : Sq K H' p xs := by
  rcases h with ((h | ⟨o, h⟩) | h) | ((h | ⟨o, h⟩) | h)
  · exact .inl (.inl (.inl (st _ _ n h (fun _ z => by cases z))))
  · exact .inl (.inl (.inr ⟨o, st _ _ n h (fun _ z => by cases z)⟩))
  · exact .inl (.inr h)
  · exact .inr (.inl (.inl (st _ _ n h (fun _ z => by cases z))))
  · exact .inr (.inl (.inr ⟨o, st _ _ n h (fun _ z => by cases z)⟩))
  · exact .inr (.inr h)
theorem stp_sl {a p : Addr} {H H' : Hp} {xs : List V} (st : Stp a H H') (n : p ≠ a) (h : SqL K H p xs) : SqL K H' p xs := by
  rcases h with (h | ⟨o, h⟩) | h
  · exact .inl (.inl (st _ _ n h (fun _ z => by cases z)))
  · exact .inl (.inr ⟨o, st _ _ n h (fun _ z => by cases z)⟩)
  · exact .inr h
theorem lex_irr : ∀ u : List Int, HT.lexLt u u = false
  | [] => rfl
  | x :: u => by
    rw [HT.lexLt_cons, if_pos rfl, lex_irr u]
theorem eqv_tupN : ∀ u v : List Nat, PyData.eqv (tupN u) (tupN v) = decide (u = v) := fun u v => by
  show PyData.eqv (.tuple (nI u)) (.tuple (nI v)) = _
  rw [PyData.eqv]
  exact eqv_nI u v
theorem map_count {f : Nat → Nat} (inj : ∀ x y, x < 8 → y < 8 → f x = f y → x = y) : ∀ (w : List Nat) (x : Nat), (∀ y ∈ w, y < 8) → x < 8 → (w.map f).count (f x) = w.count x
  | [], _, _, _ => rfl
  | a :: w, x, h, hx => by
    rw [List.map_cons, List.count_cons, List.count_cons, map_count inj w x (fun y hy => h y (List.mem_cons_of_mem _ hy)) hx]
    congr 1
    by_cases c : a = x
    · subst c
      simp
    · rw [if_neg (by simpa using fun e => c (inj a x (h a (List.mem_cons_self ..)) hx e)), if_neg (by simpa using c)]
theorem held_map {f : Nat → Nat} (inj : ∀ x y, x < 8 → y < 8 → f x = f y → x = y) {w : List Nat} (h : ∀ x ∈ w, x < 8) {r : Nat} (hr : ∀ b, w.count b ≤ r) : Held r (w.map f) := fun i y hy => by
  obtain ⟨x, hx, rfl⟩ := List.mem_map.mp (List.mem_of_getElem? hy)
  refine Nat.le_trans ((List.take_sublist ..).count_le _) ?_
  rw [map_count inj w x h (h x hx)]
  exact hr x
theorem ex_first {r : Nat} {n k m : Nat} {u z : List Nat} (hk : (exL r n [])[k]? = some u) (hm : m < k) (hz : (exL r n [])[m]? = some z) : z ≠ u := fun e => by
  obtain ⟨k1, k2⟩ := List.getElem?_eq_some_iff.mp hk
  obtain ⟨m1, m2⟩ := List.getElem?_eq_some_iff.mp hz
  have p := List.pairwise_iff_getElem.mp (ex_asc r n []) m k m1 k1 hm
  rw [k2, m2, e] at p
  unfold lexN at p
  rw [lex_irr] at p
  cases p
theorem ix_map {f : Nat → Nat} (inj : ∀ x y, x < 8 → y < 8 → f x = f y → x = y) : ∀ (l : List Nat) (x : Nat), (∀ y ∈ l, y < 8) → x < 8 → ix (l.map f) (f x) = ix l x
  | [], _, _, _ => rfl
  | a :: l, x, h, hx => by
    show (if f a = f x then 0 else ix (l.map f) (f x) + 1) = if a = x then 0 else ix l x + 1
    rw [ix_map inj l x (fun y hy => h y (List.mem_cons_of_mem _ hy)) hx]
    by_cases c : a = x
    · rw [if_pos c, if_pos (by rw [c])]
    · rw [if_neg c, if_neg (fun e => c (inj a x (h a (List.mem_cons_self ..)) hx e))]
theorem dd_map {f : Nat → Nat} (inj : ∀ x y, x < 8 → y < 8 → f x = f y → x = y) : ∀ (w acc : List Nat), (∀ x ∈ w, x < 8) → (∀ x ∈ acc, x < 8) → dd (acc.map f) (w.map f) = (dd acc w).map f
  | [], _, _, _ => rfl
  | x :: w, acc, hw, ha => by
    have hx := hw x (List.mem_cons_self ..)
    show dd (if f x ∈ acc.map f then acc.map f else acc.map f ++ [f x]) (w.map f) = (dd (if x ∈ acc then acc else acc ++ [x]) w).map f
    by_cases c : x ∈ acc
    · rw [if_pos c, if_pos (List.mem_map_of_mem c)]
      exact dd_map inj w acc (fun y hy => hw y (List.mem_cons_of_mem _ hy)) ha
    · rw [if_neg c, if_neg (fun z => by
        obtain ⟨y, hy, e⟩ := List.mem_map.mp z
        exact c (inj y x (ha y hy) hx e ▸ hy)), ← dd_map inj w (acc ++ [x]) (fun y hy => hw y (List.mem_cons_of_mem _ hy)) (fun y hy => by
        rcases List.mem_append.mp hy with hy | hy
        · exact ha y hy
        · rw [List.mem_singleton.mp hy]
          exact hx), List.map_append]
      rfl
theorem plain_map {f : Nat → Nat} (inj : ∀ x y, x < 8 → y < 8 → f x = f y → x = y) (w : List Nat) (h : ∀ x ∈ w, x < 8) : plainL (w.map f) = plainL w := by
  have e : dd [] (w.map f) = (dd [] w).map f := dd_map inj w [] h (fun x hx => by cases hx)
  unfold plainL
  rw [e, List.map_map]
  refine List.map_congr_left fun x hx => ?_
  exact ix_map inj (dd [] w) x (fun y hy => by
    rcases (dd_mem w [] y).mp hy with hy | hy
    · cases hy
    · exact h y hy) (h x hx)
theorem lc_pos : ∀ r : Nat, r < 9 → 1 ≤ r → ∀ n : Nat, n < 9 → 1 ≤ lc r n := by
  decide +kernel
theorem log_lc {r n : Nat} (h : n ≤ 30) : ((lc r n : Nat) : Int).natAbs.log2 < 1920 := by
  show (lc r n).log2 < 1920
  by_cases z : lc r n = 0
  · rw [z]
    decide
  · refine (Nat.log2_lt z).mpr (Nat.lt_of_le_of_lt (lc_le r 30 n h) (Nat.pow_lt_pow_right (by decide) ?_))
    have : n * 30 ≤ 30 * 30 := Nat.mul_le_mul_right _ h
    omega
def spLaw (K : PySem.W.Frag) : Sp := fun vs H Q _ => ∃ (s : Addr) (ns : List Int), vs = [.ref s] ∧ SqL K H s (ns.map V.int) ∧ ns.length ≤ 63 ∧ LamX.Tabs (tbs K tbX) H ∧ ∀ H', Q (.bl true) H'
theorem sc_law : FnScope ["_law_script", "_law_k", "_law_box_here", "_law_cells", "_law_room", "_law_rows", "_law_count_here", "_law_number", "_law_layout_here", "_law_told", "_law_kept"] ["_law_script"] (defScope s_law) := ⟨rfl, rfl, rfl, by decide +kernel, rfl, by decide +kernel, by decide +kernel⟩
theorem fg_law (c : SaysS cfg.facts cfg.fn K) (T : EnvOk cfg K mg) (two : (tbX.map fun y => (He.cT K (y, none)).2).Nodup) (tb : ∀ y ∈ tbX, LamX.TabB base mg (He.cT K (y, none)).1 (He.cT K (y, none)).2) (hcomb : mg "comb" = some (.builtin "math.comb")) {fd : FuncData} (hh : Has K mg "law" s_law fd) : FnG P w K mg base (L2.CX P w) 14 (ea K "law") fd ["_law_script"] (spLaw K) := by
  obtain ⟨fdE, hErr⟩ := has_of c T 27 "_law_error" s__law_error rfl
  obtain ⟨fdh_plain_layout, hk_plain_layout⟩ := has_of c T 7 "plain_layout" s_plain_layout rfl
  obtain ⟨fdk_plain_layout, kF_plain_layout, kB_plain_layout⟩ := Fk.kw (P := P) (w := w) (base := base) (nm := "value") (fk_plain_layout c T) hk_plain_layout (fun _ _ _ _ _ _ _ => rfl)
  have kG_plain_layout := hk_plain_layout.g
  have kP_plain_layout := hk_plain_layout.F.kp
  obtain ⟨fdh_layout_count, hk_layout_count⟩ := has_of c T 10 "layout_count" s_layout_count rfl
  obtain ⟨fdk_layout_count, kF_layout_count, kB_layout_count⟩ := Fk.kw_ba (P := P) (w := w) (base := base) (n0 := "room") (n1 := "cells") (fk_layout_count c T hcomb) hk_layout_count (fun _ _ _ _ _ _ _ _ => rfl)
  have kG_layout_count := hk_layout_count.g
  have kP_layout_count := hk_layout_count.F.kp
  obtain ⟨fdh_nth_layout, hk_nth_layout⟩ := has_of c T 15 "nth_layout" s_nth_layout rfl
  obtain ⟨fdk_nth_layout, kF_nth_layout, kB_nth_layout⟩ := Fk.kw_cba (P := P) (w := w) (base := base) (n0 := "number") (n1 := "room") (n2 := "cells") (fk_nth_layout c T hcomb) hk_nth_layout (fun _ _ _ _ _ _ _ _ _ => rfl)
  have kG_nth_layout := hk_nth_layout.g
  have kP_nth_layout := hk_nth_layout.F.kp
  refine hh.F.okGc sc_law (fun vs H Q E h => ?_) (fun cdv hcd A outer s H vs Q E hr hA h => ?_)
  · obtain ⟨s0, ns, rfl, _⟩ := h
    rfl
  · obtain ⟨s0, ns, rfl, hS, hns, hT, hq⟩ := h
    have mrange := T.free "range" (by decide)
    have mrepr := T.free "repr" (by decide)
    have mlen := T.free "len" (by decide)
    have mtuple := T.free "tuple" (by decide)
    have hu := hr.units
    have hu65 := room65 hr
    refine ⟨_, (pss_cons (ps_for (passes_of rfl) rfl (pi_range1 (by rfl) mrange (pa_cons pe_int pa_nil)) (pg_name (i := 1) sc_law.nd rfl (.inl rfl))
          (pss_cons (ps_set (i := 2) sc_law.nd rfl (.inl rfl) (pe_f (fk__law_box c T) hr (by decide) (by rfl) passL (pa_cons (pv 0) (pa_cons (pv 1) pa_nil))))
          (pss_cons (ps_par (i := 3) (j := 4) (by rfl) sc_law.nd rfl rfl (by decide) rfl rfl (pa_cons (pe_op op_add pe_int (pe_f (fk__law_take c T) hr (by decide) (by rfl) passL (pa_cons (pv 2) (pa_cons pe_int pa_nil)))) (pa_cons (pe_f (fk__law_pick c T) hr (by decide) (by rfl) passL (pa_cons (pv 2) (pa_cons (pe_lst (pa_cons pe_int (pa_cons pe_int (pa_cons pe_int (pa_cons pe_int (pa_cons pe_int (pa_cons pe_int (pa_cons pe_int pa_nil)))))))) pa_nil))) pa_nil)) (by rfl))
          (pss_cons (ps_set (i := 5) sc_law.nd rfl (.inl rfl) (pe_f (fk__law_all c T) hr (by decide) (by rfl) passL (pa_cons (pv 3) (pa_cons (pv 4) pa_nil))))
          (pss_cons (ps_set (i := 6) sc_law.nd rfl (.inl rfl) (pe_callK_ba kF_layout_count (hr.mono (by decide)) (by rfl) kG_layout_count kP_layout_count kB_layout_count (passes_call (takes_of rfl rfl rfl rfl) (fun _ _ _ _ h => h)) (pv 4) (pv 3)))
          (pss_cons (ps_if (pt_cmpR op_ne (pe_callB SkE.call_repr_int (by rfl) mrepr PyProof.Rows.boot_repr (pa_cons (pv 6) pa_nil)) (pe_callB SkE.call_repr_int (by rfl) mrepr PyProof.Rows.boot_repr (pa_cons (pe_callB call_len_seq (by rfl) mlen PySem.boot_len (pa_cons (pv 5) pa_nil)) pa_nil)) (nomark _)) (pss_one (ps_ret pe_bl)) pss_nil)
          (pss_cons (ps_set (i := 7) sc_law.nd rfl (.inl rfl) (pe_f (fk__law_take c T) hr (by decide) (by rfl) passL (pa_cons (pv 2) (pa_cons (pe_callB call_len_seq (by rfl) mlen PySem.boot_len (pa_cons (pv 5) pa_nil)) pa_nil))))
          (pss_cons (ps_if (pt_cmpR op_ne (pe_callB (call_reprD hA hu) (by rfl) mrepr PyProof.Rows.boot_repr (pa_cons (pe_callK_cba kF_nth_layout (hr.mono (by decide)) (by rfl) kG_nth_layout kP_nth_layout kB_nth_layout (passes_call (takes_of rfl rfl rfl rfl) (fun _ _ _ _ h => h)) (pv 7) (pv 4) (pv 3)) pa_nil)) (pe_callB (call_reprD hA hu) (by rfl) mrepr PyProof.Rows.boot_repr (pa_cons (pe_ix ix_seq (pv 5) (pv 7) (fun _ _ => rfl)) pa_nil)) (nomark _)) (pss_one (ps_ret pe_bl)) pss_nil)
          (pss_cons (ps_set (i := 8) sc_law.nd rfl (.inl rfl) (pe_f (fk__law_layout c T) hr (by decide) (by rfl) passL (pa_cons (pv 2) (pa_cons (pv 3) (pa_cons (pv 4) pa_nil)))))
          (pss_cons (ps_set (i := 9) sc_law.nd rfl (.inl rfl) (pe_f (fk__law_named c T) hr (by decide) (by rfl) passL (pa_cons (pv 2) (pa_cons (pv 8) pa_nil))))
          (pss_cons (ps_set (i := 10) sc_law.nd rfl (.inl rfl) (pe_callB (call_reprD hA hu) (by rfl) mrepr PyProof.Rows.boot_repr (pa_cons (pv 9) pa_nil)))
          (pss_cons (ps_if (pw_or (pt_cmpR op_ne (pe_callB (call_reprD hA hu) (by rfl) mrepr PyProof.Rows.boot_repr (pa_cons (pe_f (fk_plain_layout c T) hr (by decide) (by rfl) (passes_call (takes_of rfl rfl rfl rfl) (fun _ _ _ _ h => h)) (pa_cons (pv 9) pa_nil)) pa_nil)) (pe_callB (call_reprD hA hu) (by rfl) mrepr PyProof.Rows.boot_repr (pa_cons (pe_f (fk__law_plain c T) hr (by decide) (by rfl) passL (pa_cons (pv 8) pa_nil)) pa_nil)) (nomark _)) (pw_or1 (pt_cmpR op_ne (pe_callB (call_reprD hA hu) (by rfl) mrepr PyProof.Rows.boot_repr (pa_cons (pe_callK1 kF_plain_layout (hr.mono (by decide)) (by rfl) kG_plain_layout kP_plain_layout kB_plain_layout (passes_call (takes_of rfl rfl rfl rfl) (fun _ _ _ _ h => h)) (pe_tupleOf (by rfl) mtuple (pv 9))) pa_nil)) (pe_callB (call_reprD hA hu) (by rfl) mrepr PyProof.Rows.boot_repr (pa_cons (pe_f (fk__law_plain c T) hr (by decide) (by rfl) passL (pa_cons (pv 8) pa_nil)) pa_nil)) (nomark _)))).pt (pss_one (ps_ret pe_bl)) pss_nil)
          (pss_cons (ps_if (pw_or (pt_cmpR op_ne (pe_callB SkE.call_repr_int (by rfl) mrepr PyProof.Rows.boot_repr (pa_cons (pe_f (fk_layout_number c T hcomb) hr (by decide) (by rfl) (passes_call (takes_of rfl rfl rfl rfl) (fun _ _ _ _ h => h)) (pa_cons (pv 3) (pa_cons (pv 4) (pa_cons (pv 9) pa_nil)))) pa_nil)) (pe_callB SkE.call_repr_int (by rfl) mrepr PyProof.Rows.boot_repr (pa_cons (pe_bm PySem.F.plainAttrs_list PySem.F.slot_list_index PySem.F.type_list_index (mt_indexD hu65) (pv 5) (pa_cons (pe_f (fk__law_plain c T) hr (by decide) (by rfl) passL (pa_cons (pv 8) pa_nil)) pa_nil)) pa_nil)) (nomark _)) (pw_or1 (pt_cmpR op_ne (pe_callB (call_reprD hA hu) (by rfl) mrepr PyProof.Rows.boot_repr (pa_cons (pv 9) pa_nil)) (pv 10) (nomark _)))).pt (pss_one (ps_ret pe_bl)) pss_nil)
          (pss_cons (ps_if (pw_or (pt_cmpR op_ne (pe_callB SkE.call_repr_int (by rfl) mrepr PyProof.Rows.boot_repr (pa_cons (pe_f (fk_layout_count c T hcomb) hr (by decide) (by rfl) (passes_call (takes_of rfl rfl rfl rfl) (fun _ _ _ _ h => h)) (pa_cons (pe_op op_sub pe_int (pv 1)) (pa_cons (pe_op op_sub pe_int (pv 1)) pa_nil))) pa_nil)) (pe_callB SkE.call_repr_int (by rfl) mrepr PyProof.Rows.boot_repr (pa_cons (pe_f (fk__law_count c T) hr (by decide) (by rfl) passL (pa_cons (pe_op op_sub pe_int (pv 1)) (pa_cons (pe_op op_sub pe_int (pv 1)) pa_nil))) pa_nil)) (nomark _)) (pw_or1 (pw_and (pt_cmpR op_eq (pv 1) pe_int (nomark _)) (pw_and1 (pt_not (pt_val (pe_f (fk__law_neighbours c T hcomb) hr (by decide) (by rfl) passL (pa_cons (pv 2) (pa_cons (pv 4) pa_nil))))))).pt)).pt (pss_one (ps_ret pe_bl)) pss_nil)
          (pss_one (ps_if (pw_or (pt_not (pt_val (pe_f (fk__law_refused c T two tb hcomb) hr (by decide) (by rfl) passL (pa_cons (pv 2) (pa_cons (pv 3) (pa_cons (pv 4) (pa_cons (pv 6) pa_nil))))))) (pw_or1 (pt_not (pt_val (pe_f (fk__law_full c T two tb hcomb) hr (by decide) (by rfl) passL (pa_cons (pv 2) (pa_cons (pv 3) (pa_cons (pv 4) pa_nil)))))))).pt (pss_one (ps_ret pe_bl)) pss_nil))))))))))))))))
          (pss_one (ps_ret pe_bl))), ?_⟩
    refine t_seq ⟨3, rfl, by decide, by decide, ?_⟩
    rw [show (3 : Int).toNat = 3 from rfl]
    refine for_range (lo := 0) (n := 3) (fun i σ H1 => ∃ (z1 z2 z3 z4 z5 z6 z7 z8 z9 z10 : Option V), σ = [some (.ref s0), z1, z2, z3, z4, z5, z6, z7, z8, z9, z10] ∧ LamX.ExtN H H1 ∧ LamX.Tabs (tbs K tbX) H1)
      ⟨none, none, none, none, none, none, none, none, none, none, rfl, LamX.ExtN.refl H, hT⟩ ?_ ?_
    · rintro i σ H1 hi ⟨z1, z2, z3, z4, z5, z6, z7, z8, z9, z10, rfl, eH, hT1⟩
      rw [Int.zero_add]
      refine t_seq ⟨_, rfl, _, rfl, s0, ns, i, rfl, extN_seq eH hS, hns, by omega, fun a H2 s2 hpa hB2 => ?_⟩
      have hT2 := tabs_same hT1 s2
      try dsimp only
      obtain ⟨xa2, ha2⟩ := hB2.at
      refine t_seq ⟨_, rfl, a, 6, 0, rfl, hB2, by decide, by decide, by decide, fun t1 H3 ht1 b3 hB3 => ⟨_, _, rfl, rfl, _, rfl, (by show (7 : Nat) ≤ sizeLine; rw [sizeLine_eq]; decide), fun pl hpl => ⟨a, pl, 0 + 1, [V.int 1, V.int 2, V.int 2, V.int 3, V.int 3, V.int 4, V.int 8], rfl, hB3.same (same_new hpl), by decide, SqL.of upd_same, hB3.ne hpl, (by show (0 : Nat) < 7; decide), (by show (7 : Nat) ≤ 1000000; decide), fun rx x H4 hx b4 hB4 => ⟨_, _, rfl, ?_⟩⟩⟩⟩
      obtain ⟨xa3, ha3⟩ := hB3.at
      have hT4 := tabs_but (tabs_same (tabs_but hT2 b3 ha2) (same_new hpl)) b4 (same_new hpl _ _ ha3)
      obtain ⟨r, rfl, h1, h8⟩ : ∃ r : Nat, x = .int (r : Int) ∧ 1 ≤ r ∧ r ≤ 8 := by
        have y := List.mem_of_getElem? hx
        simp only [List.mem_cons, List.not_mem_nil, or_false] at y
        rcases y with rfl | rfl | rfl | rfl | rfl | rfl | rfl
        · exact ⟨1, rfl, by decide, by decide⟩
        · exact ⟨2, rfl, by decide, by decide⟩
        · exact ⟨2, rfl, by decide, by decide⟩
        · exact ⟨3, rfl, by decide, by decide⟩
        · exact ⟨3, rfl, by decide, by decide⟩
        · exact ⟨4, rfl, by decide, by decide⟩
        · exact ⟨8, rfl, by decide, by decide⟩
      clear hx
      obtain ⟨n, en⟩ : ∃ n, n = 1 + t1 := ⟨_, rfl⟩
      try dsimp only
      rw [show ((1 : Int) + (t1 : Nat)) = ((n : Nat) : Int) by omega]
      have hn1 : 1 ≤ n := by omega
      have hn : n ≤ 6 := by omega
      have hB4' : BoxN H4 a 2 := hB4
      obtain ⟨xa4, ha4⟩ := hB4'.at
      refine t_seq ⟨_, rfl, _, rfl, n, r, rfl, hn, h1, h8, fun pR H5 s5 hpR hR => ?_⟩
      have npR : pR ≠ a := Ne.symm (hB4'.ne hpR)
      have hB5 := hB4'.same s5
      have ha5 := s5 _ _ ha4
      have hT5 := tabs_same hT4 s5
      obtain ⟨vsR, hSR, hAR⟩ : ∃ vs, SqL K H5 pR vs ∧ DpAll K H5 vs ((exL r n []).map tupN) := by
        cases hR with
        | lst h1 h2 => exact ⟨_, h1, h2⟩
      have el : (exL r n []).length = lc r n := by
        rw [ex_len h1 n [] (fun x hx => by cases hx)]
        exact go_nil r n
      have hvR : vsR.length = lc r n := by
        rw [hAR.len]
        show ((exL r n []).map tupN).length = _
        rw [List.length_map, el]
      have lcs := lc_small r (by omega) n (by omega)
      have hRA : ∀ H', Stp a H5 H' → SqL K H' pR vsR ∧ DpAll K H' vsR ((exL r n []).map tupN) := fun H' st => ⟨stp_sl st npR hSR, dpAll_keep (st.keep ha5) _ _ (noLs_map (fun w => noL_nI w) _) hAR⟩
      try dsimp only
      refine t_seq ⟨_, rfl, _, rfl, _, _, rfl, .int (n : Int), .int (r : Int), .int (n : Int), .int (r : Int), rfl, .int _, .int _, .inr (.inr ⟨n, r, rfl, rfl, hn1, by omega, h1, h8, fun H6 s6 => ?_⟩)⟩
      try dsimp only [gName]
      have st56 : Stp a H5 H6 := Stp.of s6
      have lcp := lc_pos r (by omega) h1 n (by omega)
      refine t_seq (t_ifs (tt_suff (fun H' => Same H6 H') (fun Q' rest => ?_) fun H7 s67 => ?_))
      · refine t_tst (t_op (t_cb1 ⟨_, rfl, _, rfl, log_lc (by omega), t_cb1 (t_cb1 ⟨_, rfl, pR, vsR, rfl, (.inl (hRA H6 st56).1), _, rfl, ?_, rfl, _, rfl, ?_⟩)⟩))
        · rw [hvR]
          exact log_lc (by omega)
        · rw [hvR, Shf.ne_str]
          exact rest _ Same.rfl'
      refine iteF (t_next ?_)
      have st57 := st56.tr (Stp.of s67)
      have hB7 := (hB5.same s6).same s67
      have ha7 := s67 _ _ (s6 _ _ ha5)
      have hT7 := tabs_same (tabs_same hT5 s6) s67
      try dsimp only
      -- a number
      refine t_seq ⟨_, rfl, _, rfl, pR, vsR, rfl, (.inl (hRA H7 st57).1), a, _, 2, rfl, hB7, by decide, by omega, by omega, fun m H8 hm b8 hB8 => ?_⟩
      have st58 := st57.tr (Stp.but b8)
      have hT8 := tabs_but hT7 b8 ha7
      have hB8' : BoxN H8 a 3 := hB8
      obtain ⟨xa8, ha8⟩ := hB8'.at
      have hm2 : m < lc r n := by omega
      obtain ⟨p1, p2, p3, p4⟩ := nth_all h1 hm2
      try dsimp only [gName]
      -- the layout of the number
      have sml : ∀ x ∈ nthL r n [] m, x < 1000000 := fun x hx => by
        have y := (sz_count _ p3).2 x hx
        have z := sz_len (nthL r n [] m)
        omega
      have nU : Nice (.tuple (nI (nthL r n [] m))) 1 200 := (nice_tup_nI sml).le (Nat.le_refl _) (by rw [p1]; omega)
      have f2 : ((exL r n []).map tupN)[m]? = some (.tuple (nI (nthL r n [] m))) := by
        rw [List.getElem?_map, p4]
        rfl
      refine t_seq (t_ifs (tt_suff (fun H' => Same H8 H') (fun Q' rest => ?_) fun H9 s89 => ?_))
      · refine t_tst (t_op (t_cb1 ⟨_, rfl, _, rfl, _, rfl, _, _, _, rfl, .int (n : Int), .int (r : Int), .int (m : Int), .int (n : Int), .int (r : Int), .int (m : Int), rfl, .int _, .int _, .int _, .inr (.inr ⟨n, r, rfl, rfl, hn1, by omega, h1, h8, .inr ⟨m, rfl, hm2, fun q H9 s9 d9 => ?_⟩⟩)⟩))
        obtain ⟨a11, _, rfl, _, _⟩ := tup_of d9
        obtain ⟨vm, hvm, hpm⟩ := dAll_get (hRA H9 (st58.tr (Stp.of s9))).2 f2
        obtain ⟨am, xm, rfl, hSm, hAm⟩ := tup_of hpm
        refine nU.repr (by decide) (by decide) d9 (t_cb1 ⟨_, rfl, _, rfl, ix_sq (j := m) (.inl (hRA H9 (st58.tr (Stp.of s9))).1) hvm (nU.repr (by decide) (by decide) hpm ⟨rfl, _, rfl, ?_⟩)⟩)
        rw [Shf.ne_str]
        exact rest _ s9
      refine iteF (t_next ?_)
      have st59 := st58.tr (Stp.of s89)
      have hB9 := hB8'.same s89
      have ha9 := s89 _ _ ha8
      have hT9 := tabs_same hT8 s89
      try dsimp only
      -- a drawn layout, named anew
      refine t_seq ⟨_, rfl, _, rfl, _, rfl, a, 3, n, r, rfl, hB9, by decide, by omega, h1, fun q w H10 hq0 nq hq1 hwl hwn hwr b10 hB10 => ?_⟩
      have st510 := st59.tr (Stp.but b10)
      have hT10 := tabs_but hT9 b10 ha9
      obtain ⟨xa10, ha10⟩ := hB10.at
      try dsimp only [gName]
      have w8 : ∀ x ∈ w, x < 8 := fun x hx => by
        have := hwn x hx
        omega
      refine t_seq ⟨_, rfl, _, rfl, a, q, 3 + 2 * n, w, rfl, hB10, by omega, SqL.of hq1, nq, by omega, w8, fun qT u f H11 hqT0 nqT hqT1 eu finj flt b11 hB11 => ?_⟩
      clear eu
      have hq11 : H11 q = some (.lst (nV w)) := b11 _ _ nq hq1
      have st511 := st510.tr (Stp.but b11)
      have hT11 := tabs_but hT10 b11 ha10
      obtain ⟨xa11, ha11⟩ := hB11.at
      try dsimp only [gName]
      have fl : (w.map f).length = n := by
        rw [List.length_map, hwl]
      have fsm : ∀ x ∈ w.map f, x < 200 := fun x hx => by
        obtain ⟨y, hy, rfl⟩ := List.mem_map.mp hx
        exact flt y (w8 y hy)
      have nT : Nice (.list (nI (w.map f))) 1 200 := (nice_lst (niceA_map (f := fun x : Nat => PyData.int (x : Int)) (l := w.map f) (dp := 0) (a := 20) fun x hx => nice_nat (by have := fsm x hx; omega))).le (Nat.le_refl _) (by rw [fl]; omega)
      have hTold : ∀ H', Stp a H11 H' → Dp K H' (.ref qT) (.list (nI (w.map f))) := fun H' st => .lst (SqL.of (st _ _ nqT hqT1 (fun _ z => by cases z))) (dAll_nat _)
      have hLay : ∀ H', Stp a H11 H' → SqL K H' q (nV w) := fun H' st => SqL.of (st _ _ nq hq11 (fun _ z => by cases z))
      refine t_seq (t_asg (t_cb1 ⟨_, rfl, nT.repr (by decide) (by decide) (hTold H11 Stp.rfl') ?_⟩))
      try dsimp only [gName]
      have pm : plainL (w.map f) = plainL w := plain_map finj w w8
      have psm : ∀ x ∈ plainL w, x < 1000000 := fun x hx => by
        obtain ⟨y, hy, rfl⟩ := List.mem_map.mp hx
        have z := ix_lt ((dd_mem w [] y).mpr (.inr hy))
        have z2 := dd_len w []
        rw [List.length_nil] at z2
        omega
      have nP : Nice (.tuple (nI (plainL w))) 1 200 := (nice_tup_nI psm).le (Nat.le_refl _) (by rw [Shf.plain_len]; omega)
      have hrow : dRowOf 200 (.list (nI (w.map f))) = true := by
        show (true && (decide (1 ≤ (nI (w.map f)).length) && decide ((nI (w.map f)).length ≤ 200))) = true
        rw [Bool.true_and, Bool.and_eq_true, decide_eq_true_eq, decide_eq_true_eq, show (nI (w.map f)).length = _ from List.length_map .., fl]
        omega
      have hrowT : dRowOf 200 (.tuple (nI (w.map f))) = true := hrow
      have lok : ∀ d, dItems d = nI (w.map f) → LOk (dItems d).length d (w.map f) := fun d e => ⟨e, fsm, fun i x hx => by
        rw [e, show (nI (w.map f)).length = _ from List.length_map ..]
        exact Nat.le_trans ((List.take_sublist ..).count_le x) List.count_le_length⟩
      refine t_seq (t_ifs (tt_suff (fun H' => Same H11 H') (fun Q' rest => ?_) fun H12 s112 => ?_))
      · refine t_orT (t_tst (t_op (t_cb1 ⟨_, rfl, .ref qT, _, rfl, hTold H11 Stp.rfl', hrow, .inr ⟨w.map f, lok _ rfl, fun q2 H12 s12 d12 => ?_⟩⟩)))
        obtain ⟨a12, _, rfl, _, _⟩ := tup_of d12
        rw [pm] at d12
        refine nP.repr (by decide) (by decide) d12 (t_cb1 ⟨_, rfl, q, w, rfl, .inl (hLay H12 (Stp.of s12)), by omega, fun q3 H13 s13 d13 => ?_⟩)
        obtain ⟨a13, _, rfl, _, _⟩ := tup_of d13
        refine nP.repr (by decide) (by decide) d13 ⟨rfl, _, rfl, ?_⟩
        rw [Shf.ne_str]
        have s113 := s12.tr s13
        refine iteF (t_tst (t_op (t_cb1 (t_thn (t_var rfl (kTup_sq (.inl (SqL.of ((Stp.of s113) _ _ nqT hqT1 (fun _ z => by cases z)))) fun p H14 s14 hp14 => ?_))))))
        refine ⟨.ref p, .tuple (nI (w.map f)), rfl, .tup hp14 (dAll_nat _), hrowT, .inr ⟨w.map f, lok _ rfl, fun q4 H15 s15 d15 => ?_⟩⟩
        obtain ⟨a15, _, rfl, _, _⟩ := tup_of d15
        rw [pm] at d15
        have s115 := s113.tr (s14.tr s15)
        refine nP.repr (by decide) (by decide) d15 (t_cb1 ⟨_, rfl, q, w, rfl, .inl (hLay H15 (Stp.of s115)), by omega, fun q5 H16 s16 d16 => ?_⟩)
        obtain ⟨a16, _, rfl, _, _⟩ := tup_of d16
        refine nP.repr (by decide) (by decide) d16 ⟨rfl, _, rfl, ?_⟩
        rw [Shf.ne_str]
        exact rest _ (s115.tr s16)
      refine iteF (t_next ?_)
      have st1112 : Stp a H11 H12 := Stp.of s112
      have st512 := st511.tr st1112
      have hB12 := hB11.same s112
      have ha12 := s112 _ _ ha11
      have hT12 := tabs_same hT11 s112
      try dsimp only
      -- its number
      have hVL : VL r [] (plainL w) := held_VL h1 (fun i x hx => Nat.le_trans ((List.take_sublist ..).count_le _) (hwr x))
      obtain ⟨k1, k2⟩ := num_nthL h1 (plainL w) [] (fun x hx => by cases hx) hVL
      rw [Shf.plain_len, hwl] at k1 k2
      have k3 := ex_nth h1 n [] _ (fun x hx => by cases hx) k1
      rw [k2, List.nil_append] at k3
      rw [el] at k1
      generalize ek : numL r [] (plainL w) = k at k1 k2 k3
      have kd : ((exL r n []).map tupN)[k]? = some (tupN (plainL w)) := by
        rw [List.getElem?_map, k3]
        rfl
      have kmin : ∀ (m' : Nat) (z' : PyData), m' < k → ((exL r n []).map tupN)[m']? = some z' → PyData.eqv z' (tupN (plainL w)) = false := fun m' z' hm' hz' => by
        rw [List.getElem?_map] at hz'
        obtain ⟨z, hz, rfl⟩ := Option.map_eq_some_iff.mp hz'
        rw [eqv_tupN, decide_eq_false (ex_first k3 hm' hz)]
      have seqT : (dSeq (.list (nI (w.map f))) && decide ((dItems (.list (nI (w.map f)))).length = n)) = true := by
        show (true && decide ((nI (w.map f)).length = n)) = true
        rw [Bool.true_and, decide_eq_true_eq, show (nI (w.map f)).length = _ from List.length_map ..]
        exact fl
      have lokr : LOk r (.list (nI (w.map f))) (w.map f) := ⟨rfl, fsm, held_map finj w8 hwr⟩
      have shR : SeqAt.shaped (.list ((exL r n []).map tupN)) = true := by
        refine (nice_lst (niceA_map (f := tupN) (l := exL r n []) (dp := 1) (a := 200) fun u hu => ?_)).shaped (by decide)
        obtain ⟨ul, uv⟩ := ex_VL h1 hu
        refine (nice_tup_nI (fun x hx => ?_)).le (Nat.le_refl _) (by rw [ul]; omega)
        have y := (sz_count _ uv).2 x hx
        have z := sz_len u
        omega
      have logk : ((k : Nat) : Int).natAbs.log2 < 1920 := by
        show k.log2 < 1920
        by_cases z : k = 0
        · rw [z]
          decide
        · refine (Nat.log2_lt z).mpr (Nat.lt_of_lt_of_le (show k < 8192 by omega) (Nat.le_trans (show 8192 ≤ 2 ^ 13 by decide) (Nat.pow_le_pow_right (by decide) (by decide))))
      refine t_seq (t_ifs (tt_suff (fun H' => Same H12 H') (fun Q' rest => ?_) fun H13 s123 => ?_))
      · refine t_orT (t_tst (t_op (t_cb1 ⟨_, rfl, _, rfl, _, rfl, .int (n : Int), .int (r : Int), .ref qT, .int (n : Int), .int (r : Int), .list (nI (w.map f)), rfl, .int _, .int _, hTold H12 st1112, .inr (.inr ⟨n, r, rfl, rfl, hn1, by omega, h1, h8, .inr ⟨seqT, .inr ⟨w.map f, lokr, fun H13 s13 => ?_⟩⟩⟩)⟩)))
        rw [pm, ek]
        have sX : Stp a H5 H13 := st512.tr (Stp.of s13)
        have sY : Stp a H11 H13 := st1112.tr (Stp.of s13)
        refine ⟨_, rfl, logk, t_cb1 ⟨_, rfl, .inl ⟨rfl, vsR, (hRA H13 sX).1⟩, _, rfl, q, w, rfl, .inl (hLay H13 sY), by omega, fun q3 H14 s14 d14 => ?_⟩⟩
        have sX4 := sX.tr (Stp.of s14)
        have sY4 := sY.tr (Stp.of s14)
        dsimp only [tNil]
        refine ⟨pR, q3, tupN (plainL w), (exL r n []).map tupN, k, tupN (plainL w), rfl, rfl, .lst (hRA H14 sX4).1 (hRA H14 sX4).2, d14, shR, nP.shaped (by decide), kd, nP.refl, kmin, ?_⟩
        refine ⟨_, rfl, logk, rfl, _, rfl, ?_⟩
        rw [Shf.ne_str]
        refine iteF (t_tst (t_op (t_cb1 ⟨_, rfl, nT.repr (by decide) (by decide) (hTold H14 sY4) ⟨_, rfl, rfl, _, rfl, ?_⟩⟩)))
        rw [Shf.ne_str]
        exact rest _ (s13.tr s14)
      refine iteF (t_next ?_)
      have st1113 := st1112.tr (Stp.of s123)
      have st513 := st512.tr (Stp.of s123)
      have hB13 := hB12.same s123
      have ha13 := s123 _ _ ha12
      have hT13 := tabs_same hT12 s123
      try dsimp only
      -- many cells
      obtain ⟨N, eN⟩ : ∃ N, N = 30 - i := ⟨_, rfl⟩
      obtain ⟨R, eR⟩ : ∃ R, R = 8 - i := ⟨_, rfl⟩
      have iN : (30 : Int) - (i : Int) = (N : Int) := by omega
      have iR : (8 : Int) - (i : Int) = (R : Int) := by omega
      refine t_seq (t_ifs (tt_suff (fun H' => Stp a H13 H' ∧ BoxN H' a (3 + 2 * n + 20 + 2) ∧ LamX.Tabs (tbs K tbX) H') (fun Q' rest => ?_) fun H14 h14 => ?_))
      · refine t_orT (t_tst (t_op (t_cb1 ⟨_, rfl, _, _, rfl, rfl, _, rfl, _, _, rfl, rfl, ?_⟩)))
        try dsimp only
        rw [iN, iR]
        refine ⟨.int (N : Int), .int (R : Int), .int (N : Int), .int (R : Int), rfl, .int _, .int _, .inr (.inr ⟨N, R, rfl, rfl, by omega, by omega, by omega, by omega, fun H14 s14 => ?_⟩)⟩
        refine ⟨_, rfl, log_lc (by omega), t_cb1 ⟨_, rfl, _, _, rfl, rfl, _, rfl, _, _, rfl, rfl, ?_⟩⟩
        try dsimp only
        rw [iN, iR]
        refine ⟨N, R, rfl, by omega, by omega, by omega, fun H15 s15 => ⟨_, rfl, log_lc (by omega), rfl, _, rfl, ?_⟩⟩
        rw [Shf.ne_str]
        have s135 := s14.tr s15
        refine iteF (t_andT (t_tst ⟨_, rfl, rfl, _, rfl, ?_⟩))
        by_cases e0 : (V.int (i : Nat) : V) = .int 0
        · rw [decide_eq_true e0]
          refine iteT ⟨_, rfl, _, rfl, a, 3 + 2 * n + 20, r, rfl, hB13.same s135, by omega, h1, h8, fun H16 b16 hB16 => ⟨_, rfl, ?_⟩⟩
          exact rest H16 ⟨(Stp.of s135).tr (Stp.but b16), hB16, tabs_but (tabs_same hT13 s135) b16 (s135 _ _ ha13)⟩
        · rw [decide_eq_false e0]
          exact iteF (rest H15 ⟨Stp.of s135, (hB13.same s135).le (by omega), tabs_same hT13 s135⟩)
      obtain ⟨st1314, hB14, hT14⟩ := h14
      refine iteF (t_next ?_)
      try dsimp only
      have st514 := st513.tr st1314
      have st25 : Stp a H2 H5 := (Stp.but b3).tr ((Stp.of (same_new hpl)).tr ((Stp.but b4).tr (Stp.of s5)))
      refine t_ifs (t_orT ⟨_, rfl, _, rfl, _, rfl, _, rfl, a, 3 + 2 * n + 20 + 2, n, r, rfl, hB14, by omega, hn1, hn, h1, h8, hT14, fun H15 st15 hB15 hT15 => ⟨_, rfl, iteF ⟨_, rfl, _, rfl, _, rfl, a, 3 + 2 * n + 20 + 2 + 4, n, r, rfl, hB15, by omega, hn1, hn, h1, h8, hT15, fun H16 st16 hB16 hT16 => ⟨_, rfl, iteF (t_next ?_)⟩⟩⟩⟩)
      have st216 : Stp a H2 H16 := (st25.tr st514).tr (st15.tr st16)
      refine ⟨_, _, _, _, _, _, _, _, _, _, rfl, fun b o e t => ?_, hT16⟩
      have y := eH b o e t
      exact st216 b o (fun z => by rw [z, hpa] at y; cases y) (s2 _ _ y) t
    · rintro σ H1 ⟨z1, z2, z3, z4, z5, z6, z7, z8, z9, z10, rfl, eH, hT1⟩
      exact hq H1
end
end K02

namespace K02
open PySem PySem.Spec PyProof.Rows L2 Shf
def cs (K : PySem.W.Frag) : List (Addr × Addr) := tf.map (He.cT K)
theorem says2 {K : PySem.W.Frag} (c : SaysS facts2 cfg.fn K) : SaysS cfg.facts cfg.fn K ∧ combB (PySem.W.nsIn K mainGlobals "comb") = true := by
  have h1 : (facts2 K && cfg.fn.all fun d => d.ok K) = true := congrArg (fun z : He.AlD => z.1) c
  have h2 := congrArg (fun z : He.AlD => z.2) c
  rw [Bool.and_eq_true] at h1
  obtain ⟨h3, h4⟩ := h1
  have h3 : (cfg.facts K && combB (PySem.W.nsIn K mainGlobals "comb")) = true := h3
  rw [Bool.and_eq_true] at h3
  refine ⟨Prod.ext ?_ h2, h3.2⟩
  show (cfg.facts K && cfg.fn.all fun d => d.ok K) = true
  rw [h3.1, h4]
  rfl
theorem main {P : Program} {w : World} {K : PySem.W.Frag} {h : Heap} {mg : PySem.Str → Option Value} {f : Addr} (X : K.In h) (G : h.Ns mainGlobals mg) (hfa : mg ("law" : PySem.Str) = some (.ref f)) (c : SaysY facts2 cfg.fn tf h K) :
    ∃ fd : FuncData, (∀ (s : Shared) (v : Value), BindsTo s fd ⟨[v], []⟩ [("_law_script", v)]) ∧ ∀ base : Heap, K.In base → base.Ns mainGlobals mg → (∀ p ∈ cs K, LamX.TabB base mg p.1 p.2) → FnG P w K mg base (L2.CX P w) 14 f fd ["_law_script"] (spLaw K) := by
  have S := says2 c.s
  have T := top_of X G S.1
  have hcomb : mg "comb" = some (.builtin "math.comb") := PySem.W.mg_of X G (combB_ok S.2)
  obtain ⟨fd, hh⟩ := has_of S.1 T 30 "law" s_law rfl
  have e := hfa.symm.trans hh.g
  cases e
  have b := FunD.bindsA (ps := ["_law_script"]) hh.F fun _ _ _ _ _ _ us hl => match us, hl with | [_], _ => rfl
  refine ⟨fd, fun s v => b s [v] rfl, fun base _ _ tb => ?_⟩
  exact fg_law S.1 T c.two (fun y hy => tb (He.cT K (y, none)) (List.mem_map.mpr ⟨(y, none), by
    unfold tbX at hy
    unfold tf
    simp only [List.mem_cons, List.not_mem_nil, or_false] at hy ⊢
    rcases hy with rfl | rfl <;> simp, rfl⟩)) hcomb hh
end K02
open PySem PySem.W PySem.Calls PyProof.Rows
theorem PySem.Challenge.cw_slowshelves_k02_whole_layouts_numbered_holds : PySem.Challenge.rw_slowshelves_k02_whole_layouts_numbered.Holds := by
  w_on; o_law
  refine HandSHeadRun.head_imp (r := K02.R) (q := K02.qv) (H := K02.hk) (ob := K02.ob) (M := 12000) (loose := K02.loose) (d := HandSHeadRun.topDef K02.R.prog 43) (kwd := []) K02.ob_eq
    K02.run (by kernel_rfl) (by kernel_rfl) (by kernel_rfl) (by rfl) (by first | assumption | decide +kernel) (by decide +kernel) ⟨rfl, rfl, rfl, rfl, rfl, by decide +kernel⟩ ?hw ?hc
  case hw => w_witness2
  case hc =>
    refine L2.walk_ofTG (l := PySem.Challenge.rw_slowshelves_k02_whole_layouts_numbered) (n := 63) (k := 14) (x := "_law_script") (CX := fun w => L2.CX K02.R.prog w) rfl (by decide) (by kernel_rfl) ⟨rfl, by decide, by decide⟩ ?F ?X
    case X =>
      intro w H s e s' hx
      obtain ⟨_, _, _, _, _, _, _, _, _, _, _, _, z⟩ := hx
      exact z
    case F =>
      intro w mg fa h Y G hmg0
      obtain ⟨K, KX, c⟩ := Y
      have hmg : mg ("law" : PySem.Str) = some (.ref fa) := by
        have e : (HandSHeadRun.topDef K02.R.prog 43).name = ("law" : PySem.Str) := by kernel_rfl
        rw [← e]
        exact hmg0
      obtain ⟨fd, hb, hF⟩ := K02.main (P := (PySem.Challenge.rw_slowshelves_k02_whole_layouts_numbered).prog) (w := w) KX G hmg c
      have mem : ∀ p ∈ K02.cs K, ∃ q ∈ K02.tf, He.cT K q = p := fun p hp => List.mem_map.mp hp
      refine ⟨K, fd, K02.cs K, K02.spLaw K, KX, fun p hp => ?_, fun p hp => ?_, fun p hp => ?_, hb, fun H a ns hl hO hS => ⟨a, ns, rfl, hS, hl, fun p hp => ?_, fun _ => rfl⟩, hF⟩
      · obtain ⟨q, hq, rfl⟩ := mem p hp
        exact c.empty q hq
      · obtain ⟨q, hq, rfl⟩ := mem p hp
        exact c.out q hq
      · obtain ⟨q, hq, rfl⟩ := mem p hp
        exact PySem.W.codeHd_of_K KX (c.hd q hq)
      · obtain ⟨y, hy, rfl⟩ := List.mem_map.mp hp
        refine LamX.TabS.nil (hO.tabs (He.cT K (y, none)) (List.mem_map.mpr ⟨(y, none), ?_, rfl⟩))
        unfold K02.tbX at hy
        unfold K02.tf
        simp only [List.mem_cons, List.not_mem_nil, or_false] at hy ⊢
        rcases hy with rfl | rfl <;> simp

