import PyProof.Rows.All
import Wide.All
import OpenK.AllK
import Wide.FinOn
import KE.KExcInit
import KE.KExcPX
import KE.KTryMore
import HandS.ForMost
import HandS.ForExc
import HandS.Defaults
import HandS.TryMany
import HandS.Head0
import HandS.Head1
import HandS.Head2
import HandS.HeadEnd
import HandS.HeadHook1
import HandS.HeadHook2
import HandS.More
import HandS.Small
import HandS.NoneIn
import HandS.IsInst
import HandS.SetFor
import HandS.TupSets
import HandS.Conv
import HandS.Zip
import HandS.DictComp
import HandS.Iter
import HandS.Comp
import HandS.Lambda
import HandS.Nested
import HandS.NestedK
import HandS.Codes
import KE.GoesMore
import HandS.Walk
import HandS.SortInts
import HandS.EndTab
import HandS.HeadHook4
import HandS.Dict
import HandS.CallLocal
import HandS.DeepEq
import HandS.Deep
import PyProof.Rows.RegFStrParts
import KE.DataEq
import PySem.Challenge.RW_slowshelves_k01_whole_shelves_and_their
set_option Elab.async false
set_option linter.all false
set_option maxRecDepth 100000
set_option maxHeartbeats 0

/-! Errors of the program: one own base class over Exception, classes right below it whose maker keeps one thing (or none). -/
namespace Shf
open PySem PySem.W PySem.Calls PyProof.Rows
abbrev exB : List Value := [.type "Exception", .type "BaseException", .type "object"]
/-- the order of the classes looked through, from C on -/
abbrev mroE (S C : Addr) : List Value := [.ref C, .ref S, .type "Exception", .type "BaseException", .type "object"]
structure ErrC (K : Frag) (S C : Addr) : Prop where
  ini : excInitIn K C exB "Exception.__new__" = true
  ovr : excOver K C exB = true
  mro : ∃ cd, clsIn K C = some cd ∧ cd.mro = mroE S C ∧ cd.hasDict = true
  typ : typeIn K (.ref C) = some (.type "type")
  kp : keepIn K (.ref C) = true
  sa : findIn K (.ref C) "__setattr__" = some (some (.builtin "object.__setattr__"))
  ga : findIn K (.ref C) "__getattribute__" = some (some (.builtin "BaseException.__getattribute__"))
  gg : findIn K (.ref C) "__getattr__" = some none
def mroB (K : Frag) (S C : Addr) : Bool := match clsIn K C with
  | some cd => decide (cd.mro = mroE S C) && cd.hasDict
  | none => false
def oo (a b : Option (Option Value)) : Bool := decide (a = b)
def errB (K : Frag) (S C : Addr) : Bool :=
  excInitIn K C exB "Exception.__new__" && (excOver K C exB && (mroB K S C && (decide (typeIn K (.ref C) = some (.type "type")) && (keepIn K (.ref C) &&
    (oo (findIn K (.ref C) "__setattr__") (some (some (.builtin "object.__setattr__"))) && (oo (findIn K (.ref C) "__getattribute__") (some (some (.builtin "BaseException.__getattribute__"))) && oo (findIn K (.ref C) "__getattr__") (some none)))))))
theorem band {a b : Bool} (h : (a && b) = true) : a = true ∧ b = true := Bool.and_eq_true_iff.mp h
theorem errB_ok {K : Frag} {S C : Addr} (h : errB K S C = true) : ErrC K S C := by
  obtain ⟨h1, h⟩ := band h
  obtain ⟨h2, h⟩ := band h
  obtain ⟨h3, h⟩ := band h
  obtain ⟨h4, h⟩ := band h
  obtain ⟨h5, h⟩ := band h
  obtain ⟨h6, h⟩ := band h
  obtain ⟨h7, h8⟩ := band h
  refine ⟨h1, h2, ?_, of_decide_eq_true h4, h5, of_decide_eq_true h6, of_decide_eq_true h7, of_decide_eq_true h8⟩
  unfold mroB at h3
  cases q : clsIn K C with
  | none => rw [q] at h3; cases h3
  | some cd =>
    rw [q] at h3
    obtain ⟨a, b⟩ := band h3
    exact ⟨cd, rfl, of_decide_eq_true a, b⟩
section
variable {K : Frag} {S C D : Addr}
theorem ErrC.sub (T : ErrC K S C) (b : Value) : subIn K (.ref C) b = some ((mroE S C).contains b) := by
  obtain ⟨cd, hc, hm, _⟩ := T.mro
  show mroIn K C b = _
  unfold mroIn
  rw [hc, Option.bind_some, hm]
  rfl
theorem ErrC.exc (T : ErrC K S C) : subIn K (.ref C) (.type "BaseException") = some true := by
  rw [T.sub]
  simp
theorem ErrC.isCls (T : ErrC K S C) : (clsIn K C).isSome = true := by
  obtain ⟨cd, hc, _⟩ := T.mro
  rw [hc]
  rfl
/-- which clause takes which error -/
theorem ErrC.takes (T : ErrC K S C) (U : ErrC K S D) (hS : D ≠ S) : exmOne K (.ref C) (.ref D) = some (decide (D = C)) := by
  unfold exmOne
  rw [U.exc, if_pos (by decide)]
  show (if ((clsIn K D).isSome && typeIn K (.ref D) == some (.type "type")) = true then subIn K (.ref C) (.ref D) else none) = _
  rw [U.isCls, U.typ]
  have e : (true && (some (Value.type "type") == some (Value.type "type"))) = true := by simp
  rw [if_pos e, T.sub]
  by_cases h : D = C
  · subst h
    simp
  · simp [h, hS]
theorem ErrC.takesBase (T : ErrC K S C) (h1 : subIn K (.ref S) (.type "BaseException") = some true) (h2 : (clsIn K S).isSome = true) (h3 : typeIn K (.ref S) = some (.type "type")) : exmOne K (.ref C) (.ref S) = some true := by
  unfold exmOne
  rw [h1, if_pos (by decide)]
  show (if ((clsIn K S).isSome && typeIn K (.ref S) == some (.type "type")) = true then subIn K (.ref C) (.ref S) else none) = _
  rw [h2, h3]
  have e : (true && (some (Value.type "type") == some (Value.type "type"))) = true := by simp
  rw [if_pos e, T.sub]
  simp
end
/-! ### a thing kept: self.f = v on a new error -/
section
variable {prog : Program} {w : World} {A : Around} {E : Value → Shared → Prop} {R : Result → Shared → Prop} {K : Frag} {S C : Addr} {name : Str} {v : Value}
/-- what the store leaves -/
structure Kept (h h' : Heap) (x C dx t0 : Addr) (name : Str) (v : Value) : Prop where
  keep : ∀ b o, b ≠ x → h.get? b = some o → h'.get? b = some o
  obj : h'.get? x = some { cls := .ref C, dict := some dx, data := .fields #[.ref t0, .none, .none, .none, .bool false, .none] }
  big : h.objs.size ≤ dx
  ne : dx ≠ x
  ns : h'.Ns1 dx (fun y => if y = name then some v else none)
theorem store_err {s : Shared} {x t0 : Addr} {Q : Unit → Shared → Prop} (T : ErrC K S C) (X : K.In s.heap) (ht : takerIn K C name = some none) (hx : s.heap.get? x = some (PX.excO C t0))
    (hq : ∀ h' tk dx, Kept s.heap h' x C dx t0 name v → Q () { s with heap := h', toks := tk }) : wpAny (model prog w) A (setAttr (.ref x) name v) Q E s := by
  obtain ⟨cd, hc, hm, hd⟩ := T.mro
  have I : InstAt s.heap x (PX.excO C t0) C none := ⟨hx, rfl, rfl, trivial⟩
  refine set_plain X I T.sa ?_
  obtain ⟨hp, g, d, t, os⟩ := s
  refine osa_openX (r := none) F.store_Exception X I T.ovr ht fun b => ?_
  have hcls : Looks (model prog w) hp (classData C) cd := looks_clsIn X hc
  have hxs : x ≠ hp.objs.size := Nat.ne_of_lt (Heap.lt_size hx)
  obtain ⟨nm, bs, mro, ns, qn, hd', sn, sb, ab, col, del⟩ := cd
  dsimp only at hd
  subst hd
  dsimp only
  unfold Builtin.ObjectAttr.storeInOwnDict Builtin.ObjectAttr.ownDictForStores
  repeat (first
    | with_reducible refine PX.store_in_new ?_ ?_
    | with_reducible refine wpAny_loadPart_at hx ?_
    | with_reducible refine hcls.at ?_
    | wp_step)
  · have e1 : (hp.push { cls := .type "dict", data := .dict #[] }).get? hp.objs.size = some { cls := .type "dict", data := .dict #[] } := Heap.get?_push_at rfl rfl
    exact ⟨_, #[], _, (Heap.get?_update_ne _ _ _ _ hxs.symm).trans e1, rfl, fun e he => absurd he (by simp), fun _ => rfl⟩
  · intro h' tk' hn' hs
    have old : ∀ b o, hp.get? b = some o → (hp.push { cls := .type "dict", data := .dict #[] }).get? b = some o := fun b o e => Heap.get?_push_of_some _ e
    refine hq h' tk' hp.objs.size ⟨fun b o hb ho => ?_, (hs.2 x hxs).trans (Heap.get?_update_self _ (old x _ hx) rfl), Nat.le_refl _, hxs.symm, hn'⟩
    exact (hs.2 b (Nat.ne_of_lt (Heap.lt_size ho))).trans ((Heap.get?_update_ne _ _ _ _ hb).trans (old b o ho))
end
/-! ### the maker, and a made error -/

section
variable {prog : Program} {w : World} {A : Around} {E : Value → Shared → Prop} {R : Result → Shared → Prop} {s : Shared} {K : Frag} {S C fI : Addr}
theorem ld_loc {M : Model} {name : Str} {scope : Scope} {L a : Addr} {cd : Value} {m : Str → Option Value} {x : Str} {pos : Pos} {v : Value} {Q : Value → Shared → Prop} (hn : s.heap.Ns L m) (hv : m x = some v) (h : Q v s)
    (hk : scope.kind = .function := by rfl) (hl : (envOfC name scope L a cd).kindOf x = some .local := by rfl) (hd : (x == ("__debug__" : Str)) = false := by decide) :
    wpAny M A (eval (.Name x pos) (envOfC name scope L a cd)) Q E s := wpAny_Name (wpAny_loadName_local hk hl hn hv h) hd
/-- a made error: its object at e, its own dict (if it keeps a thing) at d -/
structure MadeE (h h' : Heap) (e C : Addr) (od : Option Addr) : Prop where
  keep : ∀ b o, h.get? b = some o → h'.get? b = some o
  new : h.objs.size ≤ e
  obj : ∃ oe vs, h'.get? e = some oe ∧ oe.cls = .ref C ∧ oe.dict = od ∧ oe.data = .fields vs ∧ vs[1]? = some .none
/-- the class called: a new object, then the maker -/
theorem made_err {us : List Value} (T : ErrC K S C) (hi : findIn K (.ref C) "__init__" = some (some (.ref fI))) (tI : typeIn K (.ref fI) = some (.type "function")) (X : K.In s.heap) (hl : us.length ≤ sizeLine)
    (hq : ∀ h1, (∀ b o, s.heap.get? b = some o → h1.get? b = some o) → h1.get? (s.heap.objs.size + 1) = some (PX.excO C s.heap.objs.size) → h1.objs.size = s.heap.objs.size + 2 →
      codeAny (model prog w) (A.under (.builtin "type.__call__" ⟨.ref C :: us, []⟩)) (.call (.ref fI) ⟨.ref (s.heap.objs.size + 1) :: us, []⟩) (InitBack (s.heap.objs.size + 1) R) { s with heap := h1 }) :
    codeAny (model prog w) A (.call (.ref C) ⟨us, []⟩) R s := by
  obtain ⟨nm, N, qn, bs, bm, hd, sn, sb, ab, col, dd, k0, k1, k2, k3, k5, hC, hT⟩ := excInit_of X T.ini
  obtain ⟨hp, g, dr, tk, os⟩ := s
  refine PX.call_own F.excBase_Exception hT hC (looks_findIn X hi) (fun self => bind_fn X self tI) hl ?_
  refine hq _ (fun b o e => Heap.get?_push_of_some _ (Heap.get?_push_of_some _ e)) ?_ ?_
  · heap_get
  · rw [Heap.size_push, Heap.size_push]

/-! #### one thing kept in at -/
def args_at (p1 p2 : Pos) : Arguments := { posonlyargs := [], args := [{ arg := "self", annotation := none, pos := p1 }, { arg := "at", annotation := none, pos := p2 }], vararg := none, kwonlyargs := [], kw_defaults := [], kwarg := none, defaults := [] }
def body_at (q1 q2 q3 q4 : Pos) : List Stmt := [.Assign [.Attribute (.Name "self" q1) "at" q2] (.Name "at" q3) q4]
def scope_at : Scope := { kind := .function, names := [(PySem.Str.ofString "self", .local), (PySem.Str.ofString "at", .local)], isGenerator := false, isCoroutine := false, more := [] }
structure Mkr_at (K : Frag) (S C fI : Addr) : Prop where
  cls : ErrC K S C
  tk : takerIn K C "at" = some none
  no : findIn K (.ref C) "at" = some none
  ini : findIn K (.ref C) "__init__" = some (some (.ref fI))
  tI : typeIn K (.ref fI) = some (.type "function")
  fn : ∃ (q : Str) (oc : Value) (od : Option Addr) (kV doc pm : Value) (an : Option Addr) (cdv ct : Value) (osl : Array (Option Value)) (p1 p2 q1 q2 q3 q4 : Pos),
    K.lookup fI = some ⟨oc, od, .func (fnOf "__init__" q (args_at p1 p2) (body_at q1 q2 q3 q4) scope_at .none kV doc pm an cdv ct), osl⟩ ∧ codeIn K cdv q = true
theorem run_at (T : Mkr_at K S C fI) {x t0 : Addr} {v : Value} (X : K.In s.heap) (hlim : s.heap.NoLimit) (hx : s.heap.get? x = some (PX.excO C t0)) (hroom : A.depth < recursionLimit)
    (hq : ∀ h' tk dx, Kept s.heap h' x C dx t0 "at" v → R (.ok (.ret .none)) { s with heap := h', toks := tk }) :
    codeAny (model prog w) A (.call (.ref fI) ⟨[.ref x, v], []⟩) R s := by
  obtain ⟨q, oc, od, kV, doc, pm, an, cdv, ct, osl, p1, p2, q1, q2, q3, q4, ho, hcd⟩ := T.fn
  refine Att.call_fn (binds := [("self", .ref x), ("at", v)]) X hlim ho hcd hroom (BindsTo.of_eq (by first | rfl | with_unfolding_all rfl)) (by first | rfl | decide | with_unfolding_all rfl) (fun s₁ IC => ?_) rfl rfl rfl
  obtain ⟨h1, tk1, rfl⟩ := IC.toInCall.same
  have k : ∀ b o, s.heap.get? b = some o → h1.get? b = some o := IC.toInCall.keep
  have hn := IC.toInCall.ns
  have X1 : K.In h1 := X.keeps k
  have z : s.heap.objs.size < h1.objs.size := hn.lt
  show wpAny _ _ (execs _ _) _ _ _
  refine wpAny_execs_cons (plainObj_wpAny_Assign_Attribute ?_)
  refine ld_loc (v := v) hn (by first | rfl | with_unfolding_all rfl | kernel_rfl) (ld_loc (v := .ref x) hn (by first | rfl | with_unfolding_all rfl | kernel_rfl) ?_)
  refine store_err T.cls X1 T.tk (k _ _ hx) fun h3 tk3 dx m => ?_
  show wpAny _ _ (execs _ _) _ _ _
  exact wpAny_execs_nil (hq h3 tk3 dx ⟨fun b o hb e => m.keep b o hb (k b o e), m.obj, Nat.le_of_lt (Nat.lt_of_lt_of_le z m.big), m.ne, m.ns⟩)
theorem make_at (T : Mkr_at K S C fI) {v : Value} (X : K.In s.heap) (hlim : s.heap.NoLimit) (hroom : A.depth + 1 < recursionLimit)
    (hq : ∀ h' tk e d, MadeE s.heap h' e C (some d) → s.heap.objs.size ≤ d → d ≠ e → h'.Ns1 d (fun y => if y = "at" then some v else none) → R (.ok (.ret (.ref e))) { s with heap := h', toks := tk }) :
    codeAny (model prog w) A (.call (.ref C) ⟨[v], []⟩) R s := by
  refine made_err T.cls T.ini T.tI X (by rw [sizeLine_eq]; exact (by decide : 1 ≤ 16777216)) fun h1 k he hsz => ?_
  obtain ⟨hp, g, dr, tk, os⟩ := s
  refine run_at (s := ⟨h1, g, dr, tk, os⟩) T (X.keeps k) (hlim.keeps k) he (by show A.depth + 1 < recursionLimit; exact hroom) fun h' tk' dx m => ?_
  have hsz' : h1.objs.size = hp.objs.size + 2 := hsz
  have big : hp.objs.size ≤ dx := by
    have y : h1.objs.size ≤ dx := m.big
    omega
  refine ⟨rfl, hq h' tk' (hp.objs.size + 1) dx ⟨fun b o e => m.keep b o (Nat.ne_of_lt (Nat.lt_succ_of_lt (Heap.lt_size e))) (k b o e), Nat.le_succ _, ⟨_, _, m.obj, rfl, rfl, rfl, rfl⟩⟩ big m.ne m.ns⟩


/-! #### one thing kept in word -/
def args_word (p1 p2 : Pos) : Arguments := { posonlyargs := [], args := [{ arg := "self", annotation := none, pos := p1 }, { arg := "word", annotation := none, pos := p2 }], vararg := none, kwonlyargs := [], kw_defaults := [], kwarg := none, defaults := [] }
def body_word (q1 q2 q3 q4 : Pos) : List Stmt := [.Assign [.Attribute (.Name "self" q1) "word" q2] (.Name "word" q3) q4]
def scope_word : Scope := { kind := .function, names := [(PySem.Str.ofString "self", .local), (PySem.Str.ofString "word", .local)], isGenerator := false, isCoroutine := false, more := [] }
structure Mkr_word (K : Frag) (S C fI : Addr) : Prop where
  cls : ErrC K S C
  tk : takerIn K C "word" = some none
  no : findIn K (.ref C) "word" = some none
  ini : findIn K (.ref C) "__init__" = some (some (.ref fI))
  tI : typeIn K (.ref fI) = some (.type "function")
  fn : ∃ (q : Str) (oc : Value) (od : Option Addr) (kV doc pm : Value) (an : Option Addr) (cdv ct : Value) (osl : Array (Option Value)) (p1 p2 q1 q2 q3 q4 : Pos),
    K.lookup fI = some ⟨oc, od, .func (fnOf "__init__" q (args_word p1 p2) (body_word q1 q2 q3 q4) scope_word .none kV doc pm an cdv ct), osl⟩ ∧ codeIn K cdv q = true
theorem run_word (T : Mkr_word K S C fI) {x t0 : Addr} {v : Value} (X : K.In s.heap) (hlim : s.heap.NoLimit) (hx : s.heap.get? x = some (PX.excO C t0)) (hroom : A.depth < recursionLimit)
    (hq : ∀ h' tk dx, Kept s.heap h' x C dx t0 "word" v → R (.ok (.ret .none)) { s with heap := h', toks := tk }) :
    codeAny (model prog w) A (.call (.ref fI) ⟨[.ref x, v], []⟩) R s := by
  obtain ⟨q, oc, od, kV, doc, pm, an, cdv, ct, osl, p1, p2, q1, q2, q3, q4, ho, hcd⟩ := T.fn
  refine Att.call_fn (binds := [("self", .ref x), ("word", v)]) X hlim ho hcd hroom (BindsTo.of_eq (by first | rfl | with_unfolding_all rfl)) (by first | rfl | decide | with_unfolding_all rfl) (fun s₁ IC => ?_) rfl rfl rfl
  obtain ⟨h1, tk1, rfl⟩ := IC.toInCall.same
  have k : ∀ b o, s.heap.get? b = some o → h1.get? b = some o := IC.toInCall.keep
  have hn := IC.toInCall.ns
  have X1 : K.In h1 := X.keeps k
  have z : s.heap.objs.size < h1.objs.size := hn.lt
  show wpAny _ _ (execs _ _) _ _ _
  refine wpAny_execs_cons (plainObj_wpAny_Assign_Attribute ?_)
  refine ld_loc (v := v) hn (by first | rfl | with_unfolding_all rfl | kernel_rfl) (ld_loc (v := .ref x) hn (by first | rfl | with_unfolding_all rfl | kernel_rfl) ?_)
  refine store_err T.cls X1 T.tk (k _ _ hx) fun h3 tk3 dx m => ?_
  show wpAny _ _ (execs _ _) _ _ _
  exact wpAny_execs_nil (hq h3 tk3 dx ⟨fun b o hb e => m.keep b o hb (k b o e), m.obj, Nat.le_of_lt (Nat.lt_of_lt_of_le z m.big), m.ne, m.ns⟩)
theorem make_word (T : Mkr_word K S C fI) {v : Value} (X : K.In s.heap) (hlim : s.heap.NoLimit) (hroom : A.depth + 1 < recursionLimit)
    (hq : ∀ h' tk e d, MadeE s.heap h' e C (some d) → s.heap.objs.size ≤ d → d ≠ e → h'.Ns1 d (fun y => if y = "word" then some v else none) → R (.ok (.ret (.ref e))) { s with heap := h', toks := tk }) :
    codeAny (model prog w) A (.call (.ref C) ⟨[v], []⟩) R s := by
  refine made_err T.cls T.ini T.tI X (by rw [sizeLine_eq]; exact (by decide : 1 ≤ 16777216)) fun h1 k he hsz => ?_
  obtain ⟨hp, g, dr, tk, os⟩ := s
  refine run_word (s := ⟨h1, g, dr, tk, os⟩) T (X.keeps k) (hlim.keeps k) he (by show A.depth + 1 < recursionLimit; exact hroom) fun h' tk' dx m => ?_
  have hsz' : h1.objs.size = hp.objs.size + 2 := hsz
  have big : hp.objs.size ≤ dx := by
    have y : h1.objs.size ≤ dx := m.big
    omega
  refine ⟨rfl, hq h' tk' (hp.objs.size + 1) dx ⟨fun b o e => m.keep b o (Nat.ne_of_lt (Nat.lt_succ_of_lt (Heap.lt_size e))) (k b o e), Nat.le_succ _, ⟨_, _, m.obj, rfl, rfl, rfl, rfl⟩⟩ big m.ne m.ns⟩

end

end Shf


namespace Shf
open PySem PySem.W PySem.Calls PyProof.Rows
section
variable {prog : Program} {w : World} {A : Around} {E : Value → Shared → Prop} {R : Result → Shared → Prop} {s : Shared} {K : Frag} {S C fI : Addr}
/-! #### nothing kept -/
def args_0 (p1 : Pos) : Arguments := { posonlyargs := [], args := [{ arg := "self", annotation := none, pos := p1 }], vararg := none, kwonlyargs := [], kw_defaults := [], kwarg := none, defaults := [] }
def scope_0 : Scope := { kind := .function, names := [(PySem.Str.ofString "self", .local)], isGenerator := false, isCoroutine := false, more := [] }
structure Mkr_0 (K : Frag) (S C fI : Addr) : Prop where
  cls : ErrC K S C
  ini : findIn K (.ref C) "__init__" = some (some (.ref fI))
  tI : typeIn K (.ref fI) = some (.type "function")
  fn : ∃ (q : Str) (oc : Value) (od : Option Addr) (kV doc pm : Value) (an : Option Addr) (cdv ct : Value) (osl : Array (Option Value)) (p1 q1 : Pos),
    K.lookup fI = some ⟨oc, od, .func (fnOf "__init__" q (args_0 p1) [.Pass q1] scope_0 .none kV doc pm an cdv ct), osl⟩ ∧ codeIn K cdv q = true
theorem make_0 (T : Mkr_0 K S C fI) (X : K.In s.heap) (hlim : s.heap.NoLimit) (hroom : A.depth + 1 < recursionLimit)
    (hq : ∀ h' tk e, MadeE s.heap h' e C none → R (.ok (.ret (.ref e))) { s with heap := h', toks := tk }) :
    codeAny (model prog w) A (.call (.ref C) ⟨[], []⟩) R s := by
  refine made_err T.cls T.ini T.tI X (Nat.zero_le _) fun h1 k he hsz => ?_
  obtain ⟨q, oc, od, kV, doc, pm, an, cdv, ct, osl, p1, q1, ho, hcd⟩ := T.fn
  obtain ⟨hp, g, dr, tk, os⟩ := s
  refine Att.call_fn (s := ⟨h1, g, dr, tk, os⟩) (binds := [("self", .ref (hp.objs.size + 1))]) (X.keeps k) (hlim.keeps k) ho hcd (by show A.depth + 1 < recursionLimit; exact hroom) (BindsTo.of_eq (by first | rfl | with_unfolding_all rfl)) (by first | rfl | decide | with_unfolding_all rfl) (fun s₁ IC => ?_) rfl rfl rfl
  obtain ⟨h2, tk2, rfl⟩ := IC.toInCall.same
  have k2 : ∀ b o, h1.get? b = some o → h2.get? b = some o := IC.toInCall.keep
  show wpAny _ _ (execs _ _) _ _ _
  refine wpAny_execs_cons (wpAny_Pass ?_)
  show wpAny _ _ (execs _ _) _ _ _
  refine wpAny_execs_nil ?_
  exact ⟨rfl, hq h2 tk2 (hp.objs.size + 1) ⟨fun b o e => k2 b o (k b o e), Nat.le_succ _, ⟨_, _, k2 _ _ he, rfl, rfl, rfl, rfl⟩⟩⟩
end
end Shf

namespace L2
open PySem PySem.Spec PyProof.Rows
section
variable {X : Cx} {S C fI : Addr}
/-- X(): an error that keeps nothing -/
theorem pmk_0 {x : Str} {p pos : Pos} {k : Nat} (T : Shf.Mkr_0 X.K S C fI) (gC : X.mg x = some (.ref C)) (hr : Room k X.A) (hg : Gl X x) (hdb : (x == ("__debug__" : Str)) = false := by decide) :
    PMk X (.Call (.Name x p) [] [] pos) (fun _ H Q => Q (.ref C) none H) := by
  intro pins s σ H Q I q1
  refine wpAny_Call_Name_kw (ld_glob I hg gC ?_ hdb)
  refine PySem.W.callWith_K0 I.kIn T.cls.kp ?_
  have hlim := I.nolimit
  obtain ⟨hp, g, dr, tk, os⟩ := s
  refine wpAny_call (Shf.make_0 T I.kIn hlim (by have := hr.dp; omega) fun h' tk' e M => ?_)
  obtain ⟨oe, fv, hoe, hc, hd, hdat, h1⟩ := M.obj
  refine ⟨e, oe, fv, ⟨hp, g, dr, tk, os⟩, H, .ref C, none, rfl, I, M.keep, ?_, hoe, ⟨hc, hd⟩, hdat, h1, I.hok.fresh M.new, rfl, I.bare, raises_own T.cls.exc T.cls.typ, q1⟩
  cases z : hp.get? e with
  | none => rfl
  | some o => exact absurd (Heap.lt_size z) (Nat.not_lt.mpr M.new)
end
end L2

namespace L2
open PySem PySem.Spec PyProof.Rows
theorem relO_at {v : V} {u : Value} (r : RelV v u) (f : Str) : RelO (List.lookup f [(("at" : Str), v)]) (if f = "at" then some u else none) := by
  by_cases hw : f = "at"
  · subst hw
    rw [if_pos rfl, show List.lookup ("at" : Str) [(("at" : Str), v)] = some v by simp [List.lookup]]
    exact r
  · rw [if_neg hw, show List.lookup f [(("at" : Str), v)] = none by simp [List.lookup, show (f == ("at" : Str)) = false by simpa using hw]]
    trivial
/-- X(e), which keeps e in at -/
def tMk_at (C : Addr) (ta : TA) : St → Hp → XK → Prop := fun σ H Q => ta σ H fun vs H1 => ∃ v, vs = [v] ∧ ∀ d, H1 d = none → Q (.ref C) (some d) (upd H1 d (.xd [(("at" : Str), v)]))
section
variable {X : Cx} {S C fI : Addr}
theorem pmk_at {a : Expr} {ta : TA} {x : Str} {p pos : Pos} {k : Nat} (T : Shf.Mkr_at X.K S C fI) (gC : X.mg x = some (.ref C)) (hr : Room k X.A) (ha : PA X [a] ta) (hg : Gl X x) (hdb : (x == ("__debug__" : Str)) = false := by decide)
    (he : starEach (a :: []) X.env = (false, eval a X.env) :: starEach [] X.env := by rfl) (hpl : (backTo pos (starEach [] X.env)).any (·.1) = false := by rfl) :
    PMk X (.Call (.Name x p) [a] [] pos) (tMk_at C ta) := by
  intro pins s σ H Q I h
  refine wpAny_Call_Name_kw (ld_glob I hg gC ?_ hdb)
  refine PySem.W.callWith_K (h₀ := X.base) I.ok.mod.kin T.cls.kp (thn (ha.run pos pins s σ H _ I h) fun us s1 hh => ?_) he hpl
  obtain ⟨vs, H1, I1, r1, v, ev, q1⟩ := hh
  subst ev
  refine ⟨I1.kIn, ?_⟩
  obtain ⟨u, rfl, rv⟩ : ∃ u, us = [u] ∧ RelV v u := by
    cases r1 with
    | cons rv rn =>
      cases rn
      exact ⟨_, rfl, rv⟩
  show wpAny _ _ (call (.ref C) [u]) _ _ _
  have hlim := I1.nolimit
  obtain ⟨hp, g, dr, tk, os⟩ := s1
  refine wpAny_call (Shf.make_at T I1.kIn hlim (by have := hr.dp; omega) fun h' tk' e d M dbig dne hns => ?_)
  obtain ⟨oe, fv, hoe, hc, hd, hdat, h1⟩ := M.obj
  obtain ⟨G, g1, g2⟩ := restrict h' fun b => decide (b ≠ e)
  have gk : ∀ b, b ≠ e → G.get? b = h'.get? b := fun b hb => g1 b (decide_eq_true hb)
  have ge : G.get? e = none := g2 e (by simp)
  have old : ∀ b o, hp.get? b = some o → G.get? b = some o := fun b o q => (gk b (Nat.ne_of_lt (Nat.lt_of_lt_of_le (Heap.lt_size q) M.new))).trans (M.keep b o q)
  have ob : ObjOk X.prog X.w (upd H1 d (.xd [(("at" : Str), v)])) G d (.xd [(("at" : Str), v)]) := ⟨_, hns.at (fun o q => (gk d dne).trans q), fun f => relO_at rv f⟩
  have J : Inv X pins σ (upd H1 d (.xd [(("at" : Str), v)])) ⟨G, g, dr, tk', os⟩ := I1.laid (t' := tk') old dbig ob
  refine ⟨e, oe, fv, ⟨G, g, dr, tk', os⟩, _, .ref C, some d, rfl, J, fun b o q => ?_, ge, hoe, ⟨hc, hd⟩, hdat, h1, ?_, rfl, I1.bare, raises_own T.cls.exc T.cls.typ, q1 d (I1.hok.fresh dbig)⟩
  · by_cases hb : b = e
    · have q' : G.get? b = some o := q
      rw [hb, ge] at q'
      cases q'
    · exact (gk b hb).symm.trans q
  · rw [upd_ne (Ne.symm dne)]
    exact I1.hok.fresh M.new
/-- e.at, e the error that the suite holds -/
def tBy_at (a C : Addr) (cls : Value) (d : Option Addr) (te : TE) : TE := fun σ H Q => te σ H fun x H1 => x = .ref a ∧ cls = .ref C ∧ ∃ (dd : Addr) (v : V), d = some dd ∧ H1 dd = some (.xd [(("at" : Str), v)]) ∧ Q v H1
theorem pe_by_at {a : Addr} {oe : Obj} {cls : Value} {d : Option Addr} {pn : List (Addr × Obj)} {e : Expr} {te : TE} {pos : Pos} (T : Shf.Mkr_at X.K S C fI) (hz : Zc cls d oe) (hf : ∃ vs, oe.data = .fields vs) (he : PE (X.suite a ((a, oe) :: pn)) e te)
    (hb : attributeBase e "at" X.env (eval e X.env) = eval e X.env := by rfl) :
    PE (X.suite a ((a, oe) :: pn)) (.Attribute e "at" pos) (tBy_at a C cls d te) := by
  refine ⟨fun pins s σ H Q I h => ?_⟩
  refine attr_of hb (thn (he.run pins s σ H _ I h) fun u s1 hh => ?_)
  obtain ⟨x, H1, I1, rx, ex, ec, dd, v, ed, ea, q⟩ := hh
  subst ex
  obtain rfl : u = Value.ref a := rx
  subst ec
  subst ed
  obtain ⟨ha, _⟩ := I1.pin (a, oe) (List.mem_append_left _ List.mem_cons_self)
  obtain ⟨vs, hd⟩ := hf
  have hx : ObjOk X.prog X.w H1 s1.heap dd (.xd [(("at" : Str), v)]) := I1.hok dd _ ea
  obtain ⟨mA, hns, hr⟩ := hx
  obtain ⟨od, ho, hl⟩ := lookIn_ns hns
  have l : List.lookup ("at" : Str) [(("at" : Str), v)] = some v := by simp [List.lookup]
  obtain ⟨u, hu, ru⟩ := RelO.some_of (v := v) (o := mA "at") (by rw [← l]; exact hr "at")
  have J : PySem.W.InstAt s1.heap a oe C (some od) := ⟨ha, hz.1, by unfold PySem.W.notCls; rw [hd] <;> rfl, by rw [hz.2]; exact ho⟩
  obtain ⟨cd, hcd, _, hdict⟩ := T.cls.mro
  have hD : PySem.W.hasDictIn X.K C = true := by
    show (PySem.W.clsIn X.K C).any (·.hasDict) = true
    rw [hcd]
    exact hdict
  exact PySem.PX.exc_get I1.kIn J T.cls.ga T.cls.gg T.cls.exc (PySem.W.findObj_own hD T.no rfl (by rw [hl, hu])) (handed_of ru) ⟨v, H1, I1.tok _, ru, q⟩
end
end L2

namespace L2
open PySem PySem.Spec PyProof.Rows
theorem relO_word {v : V} {u : Value} (r : RelV v u) (f : Str) : RelO (List.lookup f [(("word" : Str), v)]) (if f = "word" then some u else none) := by
  by_cases hw : f = "word"
  · subst hw
    rw [if_pos rfl, show List.lookup ("word" : Str) [(("word" : Str), v)] = some v by simp [List.lookup]]
    exact r
  · rw [if_neg hw, show List.lookup f [(("word" : Str), v)] = none by simp [List.lookup, show (f == ("word" : Str)) = false by simpa using hw]]
    trivial
/-- X(e), which keeps e in word -/
def tMk_word (C : Addr) (ta : TA) : St → Hp → XK → Prop := fun σ H Q => ta σ H fun vs H1 => ∃ v, vs = [v] ∧ ∀ d, H1 d = none → Q (.ref C) (some d) (upd H1 d (.xd [(("word" : Str), v)]))
section
variable {X : Cx} {S C fI : Addr}
theorem pmk_word {a : Expr} {ta : TA} {x : Str} {p pos : Pos} {k : Nat} (T : Shf.Mkr_word X.K S C fI) (gC : X.mg x = some (.ref C)) (hr : Room k X.A) (ha : PA X [a] ta) (hg : Gl X x) (hdb : (x == ("__debug__" : Str)) = false := by decide)
    (he : starEach (a :: []) X.env = (false, eval a X.env) :: starEach [] X.env := by rfl) (hpl : (backTo pos (starEach [] X.env)).any (·.1) = false := by rfl) :
    PMk X (.Call (.Name x p) [a] [] pos) (tMk_word C ta) := by
  intro pins s σ H Q I h
  refine wpAny_Call_Name_kw (ld_glob I hg gC ?_ hdb)
  refine PySem.W.callWith_K (h₀ := X.base) I.ok.mod.kin T.cls.kp (thn (ha.run pos pins s σ H _ I h) fun us s1 hh => ?_) he hpl
  obtain ⟨vs, H1, I1, r1, v, ev, q1⟩ := hh
  subst ev
  refine ⟨I1.kIn, ?_⟩
  obtain ⟨u, rfl, rv⟩ : ∃ u, us = [u] ∧ RelV v u := by
    cases r1 with
    | cons rv rn =>
      cases rn
      exact ⟨_, rfl, rv⟩
  show wpAny _ _ (call (.ref C) [u]) _ _ _
  have hlim := I1.nolimit
  obtain ⟨hp, g, dr, tk, os⟩ := s1
  refine wpAny_call (Shf.make_word T I1.kIn hlim (by have := hr.dp; omega) fun h' tk' e d M dbig dne hns => ?_)
  obtain ⟨oe, fv, hoe, hc, hd, hdat, h1⟩ := M.obj
  obtain ⟨G, g1, g2⟩ := restrict h' fun b => decide (b ≠ e)
  have gk : ∀ b, b ≠ e → G.get? b = h'.get? b := fun b hb => g1 b (decide_eq_true hb)
  have ge : G.get? e = none := g2 e (by simp)
  have old : ∀ b o, hp.get? b = some o → G.get? b = some o := fun b o q => (gk b (Nat.ne_of_lt (Nat.lt_of_lt_of_le (Heap.lt_size q) M.new))).trans (M.keep b o q)
  have ob : ObjOk X.prog X.w (upd H1 d (.xd [(("word" : Str), v)])) G d (.xd [(("word" : Str), v)]) := ⟨_, hns.at (fun o q => (gk d dne).trans q), fun f => relO_word rv f⟩
  have J : Inv X pins σ (upd H1 d (.xd [(("word" : Str), v)])) ⟨G, g, dr, tk', os⟩ := I1.laid (t' := tk') old dbig ob
  refine ⟨e, oe, fv, ⟨G, g, dr, tk', os⟩, _, .ref C, some d, rfl, J, fun b o q => ?_, ge, hoe, ⟨hc, hd⟩, hdat, h1, ?_, rfl, I1.bare, raises_own T.cls.exc T.cls.typ, q1 d (I1.hok.fresh dbig)⟩
  · by_cases hb : b = e
    · have q' : G.get? b = some o := q
      rw [hb, ge] at q'
      cases q'
    · exact (gk b hb).symm.trans q
  · rw [upd_ne (Ne.symm dne)]
    exact I1.hok.fresh M.new
/-- e.word, e the error that the suite holds -/
def tBy_word (a C : Addr) (cls : Value) (d : Option Addr) (te : TE) : TE := fun σ H Q => te σ H fun x H1 => x = .ref a ∧ cls = .ref C ∧ ∃ (dd : Addr) (v : V), d = some dd ∧ H1 dd = some (.xd [(("word" : Str), v)]) ∧ Q v H1
theorem pe_by_word {a : Addr} {oe : Obj} {cls : Value} {d : Option Addr} {pn : List (Addr × Obj)} {e : Expr} {te : TE} {pos : Pos} (T : Shf.Mkr_word X.K S C fI) (hz : Zc cls d oe) (hf : ∃ vs, oe.data = .fields vs) (he : PE (X.suite a ((a, oe) :: pn)) e te)
    (hb : attributeBase e "word" X.env (eval e X.env) = eval e X.env := by rfl) :
    PE (X.suite a ((a, oe) :: pn)) (.Attribute e "word" pos) (tBy_word a C cls d te) := by
  refine ⟨fun pins s σ H Q I h => ?_⟩
  refine attr_of hb (thn (he.run pins s σ H _ I h) fun u s1 hh => ?_)
  obtain ⟨x, H1, I1, rx, ex, ec, dd, v, ed, ea, q⟩ := hh
  subst ex
  obtain rfl : u = Value.ref a := rx
  subst ec
  subst ed
  obtain ⟨ha, _⟩ := I1.pin (a, oe) (List.mem_append_left _ List.mem_cons_self)
  obtain ⟨vs, hd⟩ := hf
  have hx : ObjOk X.prog X.w H1 s1.heap dd (.xd [(("word" : Str), v)]) := I1.hok dd _ ea
  obtain ⟨mA, hns, hr⟩ := hx
  obtain ⟨od, ho, hl⟩ := lookIn_ns hns
  have l : List.lookup ("word" : Str) [(("word" : Str), v)] = some v := by simp [List.lookup]
  obtain ⟨u, hu, ru⟩ := RelO.some_of (v := v) (o := mA "word") (by rw [← l]; exact hr "word")
  have J : PySem.W.InstAt s1.heap a oe C (some od) := ⟨ha, hz.1, by unfold PySem.W.notCls; rw [hd] <;> rfl, by rw [hz.2]; exact ho⟩
  obtain ⟨cd, hcd, _, hdict⟩ := T.cls.mro
  have hD : PySem.W.hasDictIn X.K C = true := by
    show (PySem.W.clsIn X.K C).any (·.hasDict) = true
    rw [hcd]
    exact hdict
  exact PySem.PX.exc_get I1.kIn J T.cls.ga T.cls.gg T.cls.exc (PySem.W.findObj_own hD T.no rfl (by rw [hl, hu])) (handed_of ru) ⟨v, H1, I1.tok _, ru, q⟩
end
end L2

namespace L2
open PySem PySem.Spec PyProof.Rows
/-- one except clause: the class that it names, the slot of its name (if it has one), what its suite does -/
structure Cl where
  c : Value
  i : Option Nat
  ts : Addr → Value → Option Addr → TS
/-- what the clauses wish of an error of the body -/
def wCls (K : PySem.W.Frag) (Wout : WX) (D : Ends) : List Cl → WX
  | [] => Wout
  | q :: r => fun cls d σ H => ∃ b, PySem.W.exmOne K cls q.c = some b ∧
      (b = true → ∀ a, H a = none → match q.i with
        | some i => q.ts a cls d { nx := fun σ' H' => D.nx (σ'.set i none) H', rt := D.rt, bk := fun σ' H' => D.bk (σ'.set i none) H', ct := fun σ' H' => D.ct (σ'.set i none) H' } (σ.set i (some (.ref a))) H
        | none => q.ts a cls d D σ H) ∧
      (b = false → wCls K Wout D r cls d σ H)
inductive ClsOk (X : Cx) : List ExceptHandler → List Cl → Prop
  | nil : ClsOk X [] []
  | as {x n : Str} {c : Value} {i : Nat} {ts : Addr → Value → Option Addr → TS} {b₀ : Stmt} {suite : List Stmt} {np pos' : Pos} {hds : List ExceptHandler} {l : List Cl} (hi : X.N[i]? = some n) (hln : X.env.kindOf n = some .local) (hc : Names X x c)
      (hsu : ∀ (a : Addr) (oe : Obj) (cls : Value) (d : Option Addr) (pn : List (Addr × Obj)), Zc cls d oe → (∃ vs, oe.data = .fields vs) → PSs (X.suite a ((a, oe) :: pn)) (b₀ :: suite) (ts a cls d)) (r : ClsOk X hds l) :
      ClsOk X (.ExceptHandler (some (.Name x np)) (some n) (b₀ :: suite) pos' :: hds) (⟨c, some i, ts⟩ :: l)
  | bare {x : Str} {c : Value} {ts : Addr → Value → Option Addr → TS} {b₀ : Stmt} {suite : List Stmt} {np pos' : Pos} {hds : List ExceptHandler} {l : List Cl} (hc : Names X x c)
      (hsu : ∀ (a : Addr) (oe : Obj) (cls : Value) (d : Option Addr) (pn : List (Addr × Obj)), Zc cls d oe → (∃ vs, oe.data = .fields vs) → PSs (X.suite a ((a, oe) :: pn)) (b₀ :: suite) (ts a cls d)) (r : ClsOk X hds l) :
      ClsOk X (.ExceptHandler (some (.Name x np)) none (b₀ :: suite) pos' :: hds) (⟨c, none, ts⟩ :: l)
section
variable {X : Cx} {body : List Stmt} {h₀ : ExceptHandler} {hds : List ExceptHandler} {l : List Cl} {pos : Pos} {tb : WX → TS} {Wout : WX}
/-- try: body, except .. as ..: .., except ..: .. -/
theorem ps_try_cls (hs : X.stack = X.env :: X.outer) (hf : X.env.frame = some X.env.locals) (hN : X.N.Nodup) (tk : Takes X Wout)
    (hb : ∀ (W : WX) (pn : List (Addr × Obj)) (xe : Value → Shared → Prop), Takes (X.tr pn xe) W → PassesOwn (model X.prog X.w) X.A X.env xe → PSs (X.tr pn xe) body (tb W))
    (hh : ClsOk X (h₀ :: hds) l) : PS X (.Try body (h₀ :: hds) [] [] pos) (fun D σ H => tb (wCls X.K Wout D l) D σ H) := by
  refine ⟨fun pins s σ H D I h => ?_⟩
  have ok := I.ok
  have hfr : X.A.frames = some (X.env :: X.outer) := by rw [ok.frames, hs]
  refine wpAny_Try_except (wpAny_mono ((hb (wCls X.K Wout D l) (X.pn ++ pins) (fun e s₁ => wpAny (model X.prog X.w) X.A (noteFrame e X.env) (fun _ s₂ => wpAny (model X.prog X.w) X.A (setFlight e none) (fun _ s₃ =>
    wpAny (model X.prog X.w) X.A (handleBy e X.env (h₀ :: hds)) (SP X pins D) X.xe s₃) X.xe s₂) X.xe s₁) (fun u s' xx => ?_) PassesOwn.looking).run [] s σ H D (I.toTry _) h) (fun f s1 hsp => ?_) (fun e s1 he => he))
  · obtain ⟨a, B, sI, pins', σ', H', cls, d, rfl, J', nb, up, sky, na, os, ag, w⟩ := xx
    have J : Inv X pins σ' H' sI := J'.ofTry ok
    have sky' : Sky B (X.env :: X.outer) a (Zc cls d) X.env.locals s'.heap := by rw [← hs]; exact sky
    show wpAny (model X.prog X.w) X.A (noteFrame (.ref a) X.env) _ _ _
    refine Sky.land Zc.steady hfr hf sky' fun h3 fl3 up3 => ?_
    have J3 : Inv X pins σ' H' { s' with heap := h3 } := J.landed nb fl3.1 (up.trans up3) os ag
    have nfr : a ∉ frs (X.env :: X.outer) := fun hm => by
      obtain ⟨oe, vs, he, _, hd⟩ := fl3.there
      obtain ⟨_, o', e', hnf⟩ := fl3.2.2.1.mem hm
      rw [he] at e'
      cases e'
      exact hnf _ hd
    have nL : a ≠ X.env.locals := fun z => nfr (List.mem_filterMap.mpr ⟨X.env, List.mem_cons_self, by rw [hf, z]⟩)
    have nF : a ∉ X.fs := fun hm => by
      obtain ⟨e, he, q⟩ := List.mem_filterMap.mp hm
      exact nfr (List.mem_filterMap.mpr ⟨e, List.mem_cons_of_mem _ he, q⟩)
    obtain ⟨oe3, vs3, he3, hz3, hd3⟩ := fl3.there
    have S3 := J3.suite he3 hd3 na nL nF
    have LT : PySem.W.Looks (model X.prog X.w) h3 (typeOf (.ref a)) cls := fun A Q E s k q => wpAny_typeOf_ref (k _ _ he3) (by rw [hz3.1]; exact q)
    have test : ∀ {x : Str} {np : Pos} {c : Value} {Q : Value → Shared → Prop} {E : Value → Shared → Prop}, Names X x c → Q c { s' with heap := h3 } →
        wpAny (model X.prog X.w) (X.A.mark (some (.ref a))) (eval (.Name x np) X.env) Q E { s' with heap := h3 } := fun {x np c Q E} hc q => by
      obtain ⟨hg, hdbg, hm | ⟨hm, hv, hnn⟩⟩ := hc
      · exact ld_glob (X := X.suite a ((a, oe3) :: (X.pn ++ pins))) S3 hg hm q hdbg
      · exact ld_blt (X := X.suite a ((a, oe3) :: (X.pn ++ pins))) S3 hg hm hv q hnn hdbg
    have go : ∀ {hds' : List ExceptHandler} {l' : List Cl}, ClsOk X hds' l' → wCls X.K Wout D l' cls d σ' H' →
        wpAny (model X.prog X.w) X.A (handleBy (.ref a) X.env hds') (SP X pins D) X.xe { s' with heap := h3 } := by
      intro hds' l' hk
      induction hk with
      | nil =>
        intro w
        refine PySem.PX.no_clauseZ (prog := X.prog) (w := X.w) hf fl3 fun h4 hh4 up4 => tk _ _ ?_
        exact ⟨a, B, sI, pins, σ', H', cls, d, rfl, J, nb, (up.trans up3).trans up4, .inr (.inr (by rw [hs]; exact hh4)), na, os, ag, w⟩
      | @as x n c i ts b₀ suite np pos' hds2 l2 hi hln hc hsu r ih =>
        intro w
        obtain ⟨b, hb1, hyes, hno⟩ := w
        have LM := PySem.W.exm_one (M := model X.prog X.w) J3.kIn LT hb1
        refine wpAny_handleBy_cons (codeAny_handlers_test (test hc (LM.here ?_))) (by intro q; cases q)
        cases b with
        | false => exact ih (hno rfl)
        | true =>
          refine codeAny_handlers_suite_as (HandSPX.lands_againZ fl3 fun h4 fl4 up4 => ?_)
          have J4 : Inv X pins σ' H' { s' with heap := h4 } := J.landed nb fl4.1 ((up.trans up3).trans up4) os ag
          obtain ⟨oe4, vs4, he4, hz4, hd4⟩ := fl4.there
          refine store_ok (X := X.suite a ((a, oe4) :: (X.pn ++ pins))) (v := .ref a) (J4.suite he4 hd4 na nL nF) hN hi (.inl hln) rfl (fun s5 S5 => ?_) (.inr hln)
          have wish := hyes rfl a na
          refine wpAny_mono ((hsu a oe4 cls d (X.pn ++ pins) hz4 ⟨_, hd4⟩).run [] s5 _ H' _ S5 wish) (fun f s6 hsp => ?_) (fun _ _ z => False.elim z)
          have out : ∀ {σ6 : St} {H6 : Hp} {Q : Shared → Prop}, Inv (X.suite a ((a, oe4) :: (X.pn ++ pins))) [] σ6 H6 s6 → (∀ s7, Inv X pins (σ6.set i none) H6 s7 → Q s7) →
              wpAny (model X.prog X.w) X.A (do bindName X.env n .none; unbindBehindTheSuite X.env n pos') (fun _ s7 => Q s7) X.xe s6 := fun {σ6 H6 Q} S6 hq => gone_ok (S6.unsuite ok) hN hi hln hq
          cases f with
          | next =>
            obtain ⟨σ6, H6, S6, q6⟩ := hsp
            exact out S6 fun s7 J7 => ⟨_, _, J7, q6⟩
          | brk =>
            obtain ⟨σ6, H6, S6, q6⟩ := hsp
            exact out S6 fun s7 J7 => ⟨_, _, J7, q6⟩
          | cont =>
            obtain ⟨σ6, H6, S6, q6⟩ := hsp
            exact out S6 fun s7 J7 => ⟨_, _, J7, q6⟩
          | ret u =>
            obtain ⟨v6, σ6, H6, S6, r6, q6⟩ := hsp
            exact out S6 fun s7 J7 => ⟨_, _, _, J7, r6, q6⟩
      | @bare x c ts b₀ suite np pos' hds2 l2 hc hsu r ih =>
        intro w
        obtain ⟨b, hb1, hyes, hno⟩ := w
        have LM := PySem.W.exm_one (M := model X.prog X.w) J3.kIn LT hb1
        refine wpAny_handleBy_cons (codeAny_handlers_test (test hc (LM.here ?_))) (by intro q; cases q)
        cases b with
        | false => exact ih (hno rfl)
        | true =>
          refine codeAny_handlers_suite (HandSPX.lands_againZ fl3 fun h4 fl4 up4 => ?_)
          have J4 : Inv X pins σ' H' { s' with heap := h4 } := J.landed nb fl4.1 ((up.trans up3).trans up4) os ag
          obtain ⟨oe4, vs4, he4, hz4, hd4⟩ := fl4.there
          have wish := hyes rfl a na
          refine wpAny_mono ((hsu a oe4 cls d (X.pn ++ pins) hz4 ⟨_, hd4⟩).run [] _ _ H' _ (J4.suite he4 hd4 na nL nF) wish) (fun f s6 hsp => ?_) (fun _ _ z => False.elim z)
          cases f with
          | next =>
            obtain ⟨σ6, H6, S6, q6⟩ := hsp
            exact ⟨_, _, S6.unsuite ok, q6⟩
          | brk =>
            obtain ⟨σ6, H6, S6, q6⟩ := hsp
            exact ⟨_, _, S6.unsuite ok, q6⟩
          | cont =>
            obtain ⟨σ6, H6, S6, q6⟩ := hsp
            exact ⟨_, _, S6.unsuite ok, q6⟩
          | ret u =>
            obtain ⟨v6, σ6, H6, S6, r6, q6⟩ := hsp
            exact ⟨_, _, _, S6.unsuite ok, r6, q6⟩
    exact go hh w
  · cases f with
    | next =>
      obtain ⟨σ', H', J', q⟩ := hsp
      exact wpAny_execs_nil ⟨σ', H', J'.ofTry ok, q⟩
    | brk =>
      obtain ⟨σ', H', J', q⟩ := hsp
      exact ⟨σ', H', J'.ofTry ok, q⟩
    | cont =>
      obtain ⟨σ', H', J', q⟩ := hsp
      exact ⟨σ', H', J'.ofTry ok, q⟩
    | ret u =>
      obtain ⟨v, σ', H', J', r, q⟩ := hsp
      exact ⟨v, σ', H', J'.ofTry ok, r, q⟩
end
end L2


namespace L2
open PySem PySem.Spec PyProof.Rows
/-! ### a def's promise where no repr is under way -/
structure FnG (P : Program) (w : World) (K : PySem.W.Frag) (mg : Str → Option Value) (base : Heap) (CX : CXT) (k : Nat) (f : Addr) (fd : FuncData) (ps : List Str) (sp : Sp) : Prop where
  len : ∀ vs H Q E, sp vs H Q E → vs.length = ps.length
  run : ∀ (A : Around) (outer : List Env) (s : Shared) (H : Hp) (args : Args) (us : List Value) (vs : List V) (Q : VK) (E : XK), Room k A → A.guards = some [] → Env0 P w K mg base A outer s H → BindsTo s fd args (ps.zip us) → Vals vs us →
    sp vs H Q E → codeAny (model P w) A (.call (.ref f) args) (CR CX outer P w H s Q E) s
section
variable {P : Program} {w : World} {K : PySem.W.Frag} {mg : Str → Option Value} {base : Heap} {CX : CXT} {k : Nat} {f : Addr} {fd : FuncData} {ps : List Str} {sp : Sp}
theorem FnOk.g (F : FnOk P w K mg base CX k f fd ps sp) : FnG P w K mg base CX k f fd ps sp := ⟨F.len, fun A outer s H args us vs Q E hr _ e0 hb r h => F.run A outer s H args us vs Q E hr e0 hb r h⟩
/-- cdv is the code object of the function at f -/
def AtCode (K : PySem.W.Frag) (f : Addr) (fd : FuncData) (cdv : Value) (qual : Str) : Prop := (∃ oc od osl, K.lookup f = some ⟨oc, od, .func fd, osl⟩) ∧ fd.code = cdv ∧ PySem.W.codeIn K cdv qual = true
theorem FunD.okGc {x qual : Str} {params : Arguments} {body : List Stmt} {scope : Scope} {dvs : List V} {kws : List (Str × V)} {N : List Str} (F : FunD K x qual params body scope dvs kws f fd) (Sc : FnScope N ps scope) (len : ∀ vs H Q E, sp vs H Q E → vs.length = ps.length)
    (hbody : ∀ (cdv : Value), AtCode K f fd cdv qual → ∀ (A : Around) (outer : List Env) (s : Shared) (H : Hp) (vs : List V) (Q : VK) (E : XK), Room k (A.deeper (envOfC qual scope s.heap.objs.size f cdv)) → A.guards = some [] → sp vs H Q E →
      ∃ t, PSs (cxOf CX P w K mg base N qual scope f cdv A outer s H E) body t ∧ t { nx := fun _ H' => Q .non H', rt := Q } (start N vs) H) : FnG P w K mg base CX (k + 1) f fd ps sp := by
  obtain ⟨oc, od, dV, kV, doc, pm, an, cdv, ct, osl, rfl, lk, hcd, _, _⟩ := F.ex
  refine ⟨len, fun A outer s H args us vs Q E hr hA e0 hb r hsp => ?_⟩
  have KX : K.In s.heap := e0.mod.kin.keeps fun b o e => (e0.bs b o e).1
  have lim : s.heap.NoLimit := e0.mod.nolimit.keeps fun b o e => (e0.bs b o e).1
  refine codeAny_call_function hr.depth (KX _ _ lk) rfl Sc.co Sc.gen rfl (PySem.W.codeRec_of KX hcd) (hb _ _ _ _ ?_)
  have hk : ∀ y ∈ ps.zip us, scope.names.lookup y.1 = some .local ∨ (scope.names.lookup y.1 = some .cell ∧ ((cellsFrom (s.heap.objs.size + 1) scope.names []).lookup y.1).isSome = true) := fun ⟨n, v⟩ hy =>
    (Sc.par n (List.of_mem_zip hy).1).imp id fun q => ⟨q, PySem.W.cellsFrom_some _ _ _ (.inl q)⟩
  refine wpAny_newFunctionEnv_cells Sc.kind hk fun env he s1 x => ?_
  subst he
  refine ⟨lim.keeps x.toInCall.keep, codeAny_func ?_⟩
  obtain ⟨t, ht, hq⟩ := hbody cdv ⟨⟨_, _, _, lk⟩, rfl, hcd⟩ A outer s H vs Q E (hr.deeper _) hA hsp
  have I := inv_start (CX := CX) (E := E) (qual := qual) (f := f) (cd := cdv) Sc hr.hd e0 (len _ _ _ _ hsp) r x
  refine wpAny_mono (ht.run [] s1 (start N vs) H _ I hq) (fun fl s' hs => ?_) fun e s' hs => hs
  cases fl with
  | ret u =>
    obtain ⟨v, σ', H', J, rv, q⟩ := hs
    exact ⟨v, H', J.os, J.bare, J.base, J.hok, rv, q⟩
  | next =>
    obtain ⟨σ', H', J, q⟩ := hs
    exact ⟨V.non, H', J.os, J.bare, J.base, J.hok, (rfl : RelV .non Value.none), q⟩
  | brk =>
    obtain ⟨_, _, _, q⟩ := hs
    exact q.elim
  | cont =>
    obtain ⟨_, _, _, q⟩ := hs
    exact q.elim
theorem FunD.okG {x qual : Str} {params : Arguments} {body : List Stmt} {scope : Scope} {dvs : List V} {kws : List (Str × V)} {N : List Str} (F : FunD K x qual params body scope dvs kws f fd) (Sc : FnScope N ps scope) (len : ∀ vs H Q E, sp vs H Q E → vs.length = ps.length)
    (hbody : ∀ (cdv : Value) (A : Around) (outer : List Env) (s : Shared) (H : Hp) (vs : List V) (Q : VK) (E : XK), Room k (A.deeper (envOfC qual scope s.heap.objs.size f cdv)) → A.guards = some [] → sp vs H Q E →
      ∃ t, PSs (cxOf CX P w K mg base N qual scope f cdv A outer s H E) body t ∧ t { nx := fun _ H' => Q .non H', rt := Q } (start N vs) H) : FnG P w K mg base CX (k + 1) f fd ps sp := by
  exact F.okGc Sc len fun cdv _ A outer s H vs Q E hr hA h => hbody cdv A outer s H vs Q E hr hA h
end
section
variable {X : Cx} {CX : CXT} {k : Nat} {f : Addr} {fd : FuncData} {ps : List Str} {sp : Sp} {dvs : List V} {ds : List Value} {E : XK} {x : Str} {p pos : Pos} {e : Expr} {es : List Expr} {t : TA}
theorem pe_callG (F : FnG X.prog X.w X.K X.mg X.base CX k f fd ps sp) (hA : X.A.guards = some []) (hr : Room k X.A) (hg : Gl X x) (hm : X.mg x = some (.ref f)) (hk : PySem.W.keepIn X.K (.ref f) = true) (hb : Binds X.K fd ps ds) (hd : Vals dvs ds) (hx : Passes CX X E)
    (ha : PA X (e :: es) t) (hdb : (x == ("__debug__" : Str)) = false := by decide) (he : starEach (e :: es) X.env = (false, eval e X.env) :: starEach es X.env := by rfl) (hpl : (backTo pos (starEach es X.env)).any (·.1) = false := by rfl) :
    PE X (.Call (.Name x p) (e :: es) [] pos) (tCall sp dvs E t) := by
  refine ⟨fun pins s σ H Q I h => wpAny_Call_Name_kw (ld_glob I hg hm (PySem.W.callWith_K (h₀ := X.base) I.ok.mod.kin hk (thn (ha.run pos pins s σ H _ I h) fun us s1 hh => ?_) he hpl) hdb)⟩
  obtain ⟨vs, H1, I1, r, q⟩ := hh
  have r2 : Vals (vs ++ dvs) (us ++ ds) := r.append hd
  have hl : (us ++ ds).length = ps.length := by rw [← r2.length]; exact F.len _ _ _ _ q
  refine ⟨I1.kIn, wpAny_call (codeAny_mono (F.run X.A X.stack s1 H1 ⟨us, []⟩ (us ++ ds) (vs ++ dvs) Q E hr hA I1.env0 (hb s1 us I1.kIn hl) r2 q) fun r s' hq => ?_)⟩
  cases r with
  | error e => exact hx pins σ H1 s1 e s' I1 hq
  | ok fl =>
    cases fl with
    | ret u => exact I1.after hq
    | next => exact hq.elim
    | brk => exact hq.elim
    | cont => exact hq.elim
/-- repr of data of any depth -/
def rRepr (K : PySem.W.Frag) : List V → Hp → VK → Prop := fun xs H Q => ∃ v d, xs = [v] ∧ Dp K H v d ∧ d.showable = true ∧ d.hasDict = false ∧ d.depth ≤ 60 ∧ d.shown.length ≤ sizeLine ∧ (∃ a, v = .ref a) ∧ Q (.str d.shown) H
theorem call_reprD (hA : X.A.guards = some []) (hu : X.A.units + 64 < cLine) : CallR X (.builtin "repr") (rRepr X.K) := by
  intro pins s σ H xs us Q I r h
  obtain ⟨v, d, rfl, hd, h1, h2, h3, h4, ⟨a, rfl⟩, q⟩ := h
  obtain rfl := Vals.ref1 r
  obtain ⟨as, rd⟩ := Dp.reads I d (.ref a) (.ref a) hd rfl
  exact repr_of_reads' rd h1 (fun z => by rw [h2] at z; cases z) hA (by omega) (fun _ _ e => e) (fun h' u tk hk => ⟨.str d.shown, H, I.kept hk, ⟨u, rfl⟩, q⟩) h4
end
/-! ### the law's own call -/
section
theorem ground_get {h : Heap} {H : Hp} {b : Addr} {o : Obj} (e : h.get? b = some o) (n : H b = none) : (hidT h H).get? b = some o := hidT_get e n
theorem law_callG {P : Program} {w : World} {K : PySem.W.Frag} {mg mb : Str → Option Value} {CX : CXT} {k : Nat} {fa a : Addr} {fd : FuncData} {x : Str} {sp : Sp} {s₁ : Shared} {vs : List Value} {ns : List Int}
    (KX : K.In s₁.heap) (hns : s₁.heap.Ns mainGlobals mg) (hb : s₁.heap.Ns builtinsNs mb) (hbb : ∀ x : Str, x ≠ "__name__" → mb x = bootBuiltins x) (hlim : s₁.heap.NoLimit) (hg : s₁.gens = #[])
    (ha : s₁.heap.get? a = some { cls := .type "list", data := .seq vs.toArray }) (hi : IntsAre vs ns) (hl : ns.length ≤ sizeLine) (hr : Room k callerA)
    (F : ∀ base : Heap, K.In base → base.Ns mainGlobals mg → FnG P w K mg base CX k fa fd [x] sp) (hbind : ∀ (s : Shared) (u : Value), BindsTo s fd ⟨[u], []⟩ [(x, u)])
    (hsp : ∀ H : Hp, Only H → SqL K H a (ns.map V.int) → sp [.ref a] H (fun v _ => v = .bl true) fun _ _ _ => False)
    (hCX : ∀ H e s', CX [] H s₁ (fun _ _ _ => False) e s' → False) :
    codeAny (model P w) callerA (.call (.ref fa) ⟨[.ref a], []⟩) (fun r s' => r = .ok (.ret (.bool true)) ∧ OldK s₁.heap s'.heap ∧ s'.os = s₁.os ∧ AllBare s'.gens) s₁ := by
  have rv := vals_ints hi
  have lenV := hi.length
  have core : ∀ H : Hp, Only H → SqL K H a (ns.map V.int) → HOk P w H s₁.heap → (∀ b, H b ≠ none → b = a) → (H a ≠ none → K.lookup a = none) →
      codeAny (model P w) callerA (.call (.ref fa) ⟨[.ref a], []⟩) (fun r s' => r = .ok (.ret (.bool true)) ∧ OldK s₁.heap s'.heap ∧ s'.os = s₁.os ∧ AllBare s'.gens) s₁ := by
    intro H hO hS hok hA hK
    have free : ∀ {b : Addr}, b ≠ a → H b = none := fun {b} hb => Classical.byContradiction fun z => hb (hA b z)
    have dictFree : ∀ {b : Addr} {o : Obj} {es : Array DictEntry} {ep : Nat}, s₁.heap.get? b = some o → o.data = .dict es ep → H b = none := fun {b o es ep} e d => free fun z => by
      subst z
      rw [ha] at e
      cases e
      cases (show Data.seq vs.toArray _ = Data.dict es ep from d)
    have nsK : ∀ {b : Addr} {m : Str → Option Value}, s₁.heap.Ns b m → (hidT s₁.heap H).Ns b m := fun {b m} hm => by
      obtain ⟨o, es, ep, e, d, r⟩ := hm
      exact ⟨o, es, ep, ground_get e (dictFree e d), d, r⟩
    have hKb : K.In (hidT s₁.heap H) := fun b o e => ground_get (KX b o e) (Classical.byContradiction fun z => by
      have z' := hA b z
      subst z'
      rw [hK z] at e
      cases e)
    have hM : Mod K mg (hidT s₁.heap H) := by
      obtain ⟨mc, h1, h2⟩ := hlim
      exact ⟨hKb, nsK hns, ⟨mb, nsK hb, hbb⟩, mc, nsK h1, h2⟩
    have e0 : Env0 P w K mg (hidT s₁.heap H) callerA [] s₁ H := ⟨rfl, hM, fun b o e => of_hidT e, Nat.le_of_eq (hidT_size _ _), trivial, (fun b hb => (List.not_mem_nil (show b ∈ ([] : List Addr) from hb)).elim), hok, .of_eq hg⟩
    refine codeAny_mono ((F _ hKb (nsK hns)).run callerA [] s₁ H ⟨[.ref a], []⟩ [.ref a] [.ref a] _ _ hr rfl e0 (hbind s₁ (.ref a)) (.cons rfl .nil) (hsp H hO hS)) fun r s' h => ?_
    match r, h with
    | .error e, h => exact (hCX H e s' h).elim
    | .ok (.ret u), h =>
      obtain ⟨v, H', os, bare, un, hok', r', q⟩ := h
      obtain rfl : v = .bl true := q
      obtain rfl : u = Value.bool true := r'
      refine ⟨rfl, OldK.of_keep fun b o e => ?_, os, bare⟩
      rcases hO b with q | ⟨ob, xs, q⟩
      · exact un.keep b o e q (fun z => (List.not_mem_nil (show b ∈ ([] : List Addr) from z)).elim) (fun z => (List.not_mem_nil z).elim)
      · obtain ⟨e1, _⟩ := hok b _ q
        obtain ⟨e2, _⟩ := hok' b _ (un.frzs b ob _ q)
        rw [e] at e1
        cases e1
        exact e2
    | .ok .next, h => exact False.elim h
    | .ok .brk, h => exact False.elim h
    | .ok .cont, h => exact False.elim h
  cases hk : K.lookup a with
  | some o =>
    have e := KX a o hk
    rw [ha] at e
    cases e
    exact core (fun _ => none) (fun _ => .inl rfl) (.inr ⟨_, vs.toArray, _, hk, rfl, rfl, rfl, by rw [List.size_toArray, lenV]; exact hl, by simpa using rv⟩) (fun b u z => by cases (show (none : Option HO) = some u from z)) (fun b z => absurd rfl z) fun z => absurd rfl z
  | none =>
    let o0 : Obj := { cls := .type "list", data := .seq vs.toArray }
    have at_a : ∀ {b : Addr} {u : HO}, (if b = a then some (HO.frz o0 (.lst (ns.map V.int))) else none) = some u → b = a ∧ u = .frz o0 (.lst (ns.map V.int)) := fun {b u} z => by
      by_cases hb : b = a
      · rw [if_pos hb] at z
        exact ⟨hb, (Option.some.inj z).symm⟩
      · rw [if_neg hb] at z
        cases z
    refine core (fun b => if b = a then some (.frz o0 (.lst (ns.map V.int))) else none) (fun b => ?_) (.inl (.inr ⟨o0, if_pos rfl⟩)) (fun b u z => ?_) (fun b z => ?_) fun _ => hk
    · by_cases hb : b = a
      · exact .inr ⟨_, _, if_pos hb⟩
      · exact .inl (if_neg hb)
    · obtain ⟨rfl, rfl⟩ := at_a z
      exact ⟨ha, by rw [List.length_map]; exact hl, vs, _, rv, ha⟩
    · exact Classical.byContradiction fun hb => z (if_neg hb)
theorem walk_ofG {l : PySem.W.OpenLaw} {n k : Nat} {q : Program} {loose : List Str} {XP : (Str → Option Value) → Heap → Prop} {YP : World → Heap → Prop} {d : DefRec} {CX : World → CXT} {x : Str}
    (hn : l.most = some n) (hn2 : n ≤ sizeLine) (hdf : d.params.defaults = []) (hr : Room k callerA)
    (F : ∀ (w : World) (mg : Str → Option Value) (fa : Addr) (h : Heap), YP w h → h.Ns mainGlobals mg → mg d.name = some (.ref fa) →
      ∃ (K : PySem.W.Frag) (fd : FuncData) (sp : Sp), K.In h ∧ (∀ (s : Shared) (u : Value), BindsTo s fd ⟨[u], []⟩ [(x, u)]) ∧
        (∀ (H : Hp) (a : Addr) (ns : List Int), ns.length ≤ n → Only H → SqL K H a (ns.map V.int) → sp [.ref a] H (fun v _ => v = .bl true) fun _ _ _ => False) ∧
        ∀ base : Heap, K.In base → base.Ns mainGlobals mg → FnG l.prog w K mg base (CX w) k fa fd [x] sp)
    (hCX : ∀ (w : World) (H : Hp) (s : Shared) (e : Value) (s' : Shared), CX w [] H s (fun _ _ _ => False) e s' → False) :
    PySem.W.WalkO q loose XP YP l.row.toRowW d [] (fun f vs => PySem.call f vs) := by
  refine Att.attach_call hn hdf fun w s₀ s₁ mg mb fa o pm cd doc a vs ns G Y ho hd hcd hmg hobj hints hlen hg => ?_
  obtain ⟨K, fd, sp, KX, hb, hsp, hF⟩ := F w mg fa _ Y G.T.g hmg
  exact law_callG KX G.T.g G.T.b G.T.builtins G.T.nolimit hg hobj hints (Nat.le_trans hlen hn2) hr hF hb (fun H hO hS => hsp H a ns hlen hO hS) fun H e s' => hCX w H s₁ e s'
end
end L2

/-! ### what the head leaves, looked at once: facts (a Bool of the written part) and defs -/
namespace Shf
open PySem PySem.Spec PyProof.Rows L2
def obsS (fa : PySem.W.Frag → Bool) (fn : List He.DefD) (K : PySem.W.Frag) : He.AlD := (fa K && fn.all fun d => d.ok K, fn.map fun d => He.fnW K d.at_)
def SaysS (fa : PySem.W.Frag → Bool) (fn : List He.DefD) (K : PySem.W.Frag) : Prop := obsS fa fn K = He.valD fn
def obsSG (n : Nat) (fa : PySem.W.Frag → Bool) (fn : List He.DefD) (g : Addr → Option Obj) : He.AlD := obsS fa fn (He.frG g (He.asD g n))
def hookS (n : Nat) (fa : PySem.W.Frag → Bool) (fn : List He.DefD) : PySem.W.Hook where
  α := He.AlD
  obs := fun s => obsSG n fa fn s.heap.get?
  val := fun _ => He.valD fn
  says := fun _ h => ∃ K : PySem.W.Frag, K.In h ∧ SaysS fa fn K
  of := fun _ _ e => ⟨_, He.frG_in, e⟩
  keeps := fun _ _ _ hh k => by
    obtain ⟨K, hK, c⟩ := hh
    exact ⟨K, PySem.W.Frag.In.keeps hK k, c⟩
theorem obsSG_eq {n : Nat} {fa : PySem.W.Frag → Bool} {fn : List He.DefD} {g : Addr → Option Obj} {s : Shared} (h : ∀ a, g a = s.heap.get? a) : obsSG n fa fn g = (hookS n fa fn).obs s := by
  rw [show g = s.heap.get? from funext h]
  rfl
section
variable {fa : PySem.W.Frag → Bool} {fn : List He.DefD} {K : PySem.W.Frag}
theorem SaysS.facts (c : SaysS fa fn K) : fa K = true := (He.ba (show (fa K && fn.all fun d => d.ok K) = true from congrArg (fun z : He.AlD => z.1) c)).1
theorem SaysS.def_ (c : SaysS fa fn K) (i : Nat) {d : He.DefD} (h : fn[i]? = some d := by rfl) : ∃ fd, FunD K d.name d.qual d.params d.body d.scope (d.dvs K) (d.kws K) (He.fAd K d.at_) fd := by
  have c2 := (He.ba (show (fa K && fn.all fun d => d.ok K) = true from congrArg (fun z : He.AlD => z.1) c)).2
  have e : (fn.map fun d => He.fnW K d.at_)[i]? = (fn.map He.DefD.val)[i]? := by rw [show fn.map (fun d => He.fnW K d.at_) = fn.map He.DefD.val from congrArg (fun z : He.AlD => z.2) c]
  rw [List.getElem?_map, List.getElem?_map, h] at e
  exact He.DefD.funD (Option.some.inj e) (List.all_eq_true.mp c2 d (List.mem_of_getElem? h))
end
end Shf


namespace Shf
open PySem PySem.W PySem.Calls PyProof.Rows
/-! ### an error made by keywords alone: C(f=v) -/
section
variable {prog : Program} {w : World} {A : Around} {E : Value → Shared → Prop} {R : Result → Shared → Prop} {h : Heap} {g : Array GenState} {d : Drawn} {t : Nat} {os : OsState}
variable {nm qn : Str} {C N : Addr} {bs bm bmB : List Value} {hd : Bool} {sn : List Str} {sb : List Value} {ab : Bool} {col : Option Bool} {dd : Option Addr} {k0 k1 k2 k3 k5 : Option Value} {B newId initId : String} {kw : List (Str × Value)}
theorem check_new_kw {M : Model} (F : ExcBaseFacts B newId initId bmB) (hT : ∀ X : String, bm.contains (.type X) = bmB.contains (.type X)) {Q : Unit → Shared → Prop}
    (hC : h.get? C = some (excClassObj nm qn C N bs bm hd sn sb ab col dd k0 k1 k2 k3 k5 newId)) (hsig : Bind.checkArgs newId ⟨.any, B, B, .cls, [⟨"args", .varPos, false⟩, ⟨"kwargs", .varKw, false⟩]⟩ ⟨[.ref C], kw⟩ = pure ()) (hq : Q () ⟨h, g, d, t, os⟩) :
    wpAny M A (checkBuiltinCall newId ⟨[.ref C], kw⟩) Q E ⟨h, g, d, t, os⟩ := by
  have hB : (Value.ref C :: bm).contains (.type B) = true := by rw [List.contains_cons, hT, F.hasB, Bool.or_true]
  have star := F.noStar
  simp only [checkBuiltinCall, F.newKind, F.newSplit, F.newRow]
  repeat (first
    | refine wpAny_loadPart_at hC ?_
    | (refine wpAny_isSubtype_exc hC ?_; rw [hB])
    | refine wpAny_staticBase_exc hC ?_
    | refine wpAny_madeBy_exc hC ?_
    | rw [hsig]
    | simp only [bne_self_eq_false, Bool.false_eq_true, if_false]
    | wp_step)
  exact hq
theorem new_kw (F : ExcBaseFacts B newId initId bmB) (hT : ∀ X : String, bm.contains (.type X) = bmB.contains (.type X))
    (hC : h.get? C = some (excClassObj nm qn C N bs bm hd sn sb ab col dd k0 k1 k2 k3 k5 newId))
    (hq : R (.ok (.ret (.ref (h.objs.size + 1)))) ⟨(h.push (W.kdv_tup [])).push (PX.excO C h.objs.size), g, d, t, os⟩) :
    codeAny (model prog w) A (.builtin newId ⟨[.ref C], kw⟩) R ⟨h, g, d, t, os⟩ := by
  have ends := F.ends
  have hB : (Value.ref C :: bm).contains (.type B) = true := by rw [List.contains_cons, hT, F.hasB, Bool.or_true]
  have hA : (Value.ref C :: bm).contains (.type "AttributeError") = false := by rw [List.contains_cons, hT, F.noAttr] <;> rfl
  have hN : (Value.ref C :: bm).contains (.type "NameError") = false := by rw [List.contains_cons, hT, F.noName] <;> rfl
  have z0 : ([] : List Value).length ≤ sizeLine := Nat.zero_le _
  refine codeAny_builtinAt F.entry ?_
  unfold Builtin.«BaseException.__new__»
  refine PySem.wpAt_bind ?_
  show PySem.wpAt _ _ _ (stack >>= _) _ _ _
  refine PySem.wpAt_bind (PySem.wpAt_stack fun p below => PySem.wpAt_of_wpAny ?_)
  wp_walk
  refine PySem.wpAt_of_wpAny ?_
  rw [F.owner]
  repeat (first
    | with_reducible refine wpAny_madeHere_exc F.canon hC ?_
    | with_reducible refine wpAny_loadPart_at hC ?_
    | (with_reducible refine wpAny_isSubtype_exc hC ?_; first | rw [hB] | rw [hA] | rw [hN])
    | wp_step)
  show R _ _
  rw [Heap.size_push]
  exact hq
theorem type_call_kw {fI : Addr} {Q : Fin → Shared → Prop} (F : ExcBaseFacts B newId initId bmB) (hT : ∀ X : String, bm.contains (.type X) = bmB.contains (.type X))
    (hC : h.get? C = some (excClassObj nm qn C N bs bm hd sn sb ab col dd k0 k1 k2 k3 k5 newId)) (hsig : Bind.checkArgs newId ⟨.any, B, B, .cls, [⟨"args", .varPos, false⟩, ⟨"kwargs", .varKw, false⟩]⟩ ⟨[.ref C], kw⟩ = pure ())
    (hi : Looks (model prog w) h (typeLookup (.ref C) "__init__") (some (.ref fI))) (hb : ∀ self, Looks (model prog w) h (bindSpecial (.ref fI) self) (.ref fI, [self]))
    (hq : codeAny (model prog w) A (.call (.ref fI) ⟨[.ref (h.objs.size + 1)], kw⟩)
      (fun r s' => match r with | .ok (.ret v) => v = .none ∧ Q (.done (.ret (.ref (h.objs.size + 1)))) s' | .ok _ => False | .error e => E e s')
      ⟨(h.push (W.kdv_tup [])).push (PX.excO C h.objs.size), g, d, t, os⟩) :
    wpAny (model prog w) A (Builtin.«type.__call__» ⟨[.ref C], kw⟩) Q E ⟨h, g, d, t, os⟩ := by
  repeat (first | with_reducible refine wpAny_loadPart_at hC ?_ | with_reducible refine wpAny_madeBy_exc hC ?_ | wp_step)
  refine codeAny_call_builtin_code (Code.quiet_builtin _ F.quiet) (check_new_kw F hT hC hsig ?_)
  refine new_kw F hT hC ?_
  show wpAny _ _ _ _ _ _
  have k : ∀ b o, h.get? b = some o → ((h.push (W.kdv_tup [])).push (PX.excO C h.objs.size)).get? b = some o := fun b o e => Heap.get?_push_of_some _ (Heap.get?_push_of_some _ e)
  have hC2 := k _ _ hC
  have he : ((h.push (W.kdv_tup [])).push (PX.excO C h.objs.size)).get? (h.objs.size + 1) = some (PX.excO C h.objs.size) := by heap_get
  have self : (Value.ref C :: bm).contains (.ref C) = true := by simp
  have i1 := hi.keeps k
  have b1 := (hb (.ref (h.objs.size + 1))).keeps k
  unfold isInstance
  repeat (first | with_reducible refine wpAny_loadPart_at he ?_ | (with_reducible refine wpAny_isSubtype_exc hC2 ?_; rw [self]) | wp_step)
  show wpAny _ _ (typeLookup (.ref C) _) _ _ _
  refine i1.at ?_
  refine wpAny_holding (wpAny_bind (b1.at ?_))
  refine wpAny_bind (wpAny_call (codeAny_mono hq fun r s' z => ?_))
  match r, z with
  | .error e, z => exact z
  | .ok (.ret v), z =>
    obtain ⟨rfl, z⟩ := z
    first
      | exact wpAny_pure (wpAny_pure z)
      | (wp_walk; exact z)
  | .ok .next, z => exact z.elim
  | .ok .brk, z => exact z.elim
  | .ok .cont, z => exact z.elim
theorem check_call_kw {M : Model} {Q : Unit → Shared → Prop} (hC : h.get? C = some (excClassObj nm qn C N bs bm hd sn sb ab col dd k0 k1 k2 k3 k5 newId)) (hs : argsOk "type.__call__" ⟨[.ref C], kw⟩)
    (hq : Q () ⟨h, g, d, t, os⟩) : wpAny M A (checkBuiltinCall "type.__call__" ⟨[.ref C], kw⟩) Q E ⟨h, g, d, t, os⟩ :=
  check_slot tc_kind tc_split (.andThen (fun A Q E s k q => wpAny_typeOf_ref (k _ _ hC) q) (.of_pure tc_sub)) hs hq
theorem call_kw {fI : Addr} (F : ExcBaseFacts B newId initId bmB) (hT : ∀ X : String, bm.contains (.type X) = bmB.contains (.type X))
    (hC : h.get? C = some (excClassObj nm qn C N bs bm hd sn sb ab col dd k0 k1 k2 k3 k5 newId)) (hsig : Bind.checkArgs newId ⟨.any, B, B, .cls, [⟨"args", .varPos, false⟩, ⟨"kwargs", .varKw, false⟩]⟩ ⟨[.ref C], kw⟩ = pure ())
    (hi : Looks (model prog w) h (typeLookup (.ref C) "__init__") (some (.ref fI))) (hb : ∀ self, Looks (model prog w) h (bindSpecial (.ref fI) self) (.ref fI, [self]))
    (hq : codeAny (model prog w) (A.under (.builtin "type.__call__" ⟨[.ref C], kw⟩)) (.call (.ref fI) ⟨[.ref (h.objs.size + 1)], kw⟩) (InitBack (h.objs.size + 1) R)
      ⟨(h.push (W.kdv_tup [])).push (PX.excO C h.objs.size), g, d, t, os⟩) :
    codeAny (model prog w) A (.call (.ref C) ⟨[], kw⟩) R ⟨h, g, d, t, os⟩ := by
  have f1 := tc_lookup
  have f2 := tc_bind (.ref C)
  have ty : (⟨h, g, d, t, os⟩ : Shared).TypeIs (.ref C) "type" := ⟨_, hC, rfl⟩
  refine codeAny_of_tree ?_
  show wpAny _ _ (callAny (.ref C) _) _ _ _
  repeat (any_goals (first | assumption | with_reducible refine wpAny_loadPart_at hC ?_ | wp_step))
  refine ⟨rfl, ?_⟩
  refine codeAny_call_builtin_at (Code.quiet_builtin _ (by decide +kernel)) entry_typeCall (check_call_kw hC (tc_args _ _ _) (type_call_kw F hT hC hsig hi hb (codeAny_mono hq fun r s' z => ?_)))
  match r, z with
  | .error e, z => exact z
  | .ok (.ret v), z => exact z
  | .ok .next, z => exact z.elim
  | .ok .brk, z => exact z.elim
  | .ok .cont, z => exact z.elim

theorem sig_at {v : Value} : Bind.checkArgs "Exception.__new__" ⟨.any, "Exception", "Exception", .cls, [⟨"args", .varPos, false⟩, ⟨"kwargs", .varKw, false⟩]⟩ ⟨[.ref C], [(("at" : Str), v)]⟩ = pure () := by first | rfl | kernel_rfl
theorem runK_at {K : Frag} {S fI : Addr} {s : Shared} (T : Mkr_at K S C fI) {x t0 : Addr} {v : Value} (X : K.In s.heap) (hlim : s.heap.NoLimit) (hx : s.heap.get? x = some (PX.excO C t0)) (hroom : A.depth < recursionLimit)
    (hq : ∀ h' tk dx, Kept s.heap h' x C dx t0 "at" v → R (.ok (.ret .none)) { s with heap := h', toks := tk }) :
    codeAny (model prog w) A (.call (.ref fI) ⟨[.ref x], [(("at" : Str), v)]⟩) R s := by
  obtain ⟨q, oc, od, kV, doc, pm, an, cdv, ct, osl, p1, p2, q1, q2, q3, q4, ho, hcd⟩ := T.fn
  refine Att.call_fn (binds := [("self", .ref x), ("at", v)]) X hlim ho hcd hroom (BindsTo.of_eq (by first | rfl | with_unfolding_all rfl | kernel_rfl)) (by first | rfl | decide | with_unfolding_all rfl) (fun s₁ IC => ?_) rfl rfl rfl
  obtain ⟨h1, tk1, rfl⟩ := IC.toInCall.same
  have k : ∀ b o, s.heap.get? b = some o → h1.get? b = some o := IC.toInCall.keep
  have hn := IC.toInCall.ns
  have z : s.heap.objs.size < h1.objs.size := hn.lt
  show wpAny _ _ (execs _ _) _ _ _
  refine wpAny_execs_cons (plainObj_wpAny_Assign_Attribute ?_)
  refine ld_loc (v := v) hn (by first | rfl | with_unfolding_all rfl | kernel_rfl) (ld_loc (v := .ref x) hn (by first | rfl | with_unfolding_all rfl | kernel_rfl) ?_)
  refine store_err T.cls (X.keeps k) T.tk (k _ _ hx) fun h3 tk3 dx m => ?_
  show wpAny _ _ (execs _ _) _ _ _
  exact wpAny_execs_nil (hq h3 tk3 dx ⟨fun b o hb e => m.keep b o hb (k b o e), m.obj, Nat.le_of_lt (Nat.lt_of_lt_of_le z m.big), m.ne, m.ns⟩)
theorem makeK_at {K : Frag} {S fI : Addr} {s : Shared} (T : Mkr_at K S C fI) {v : Value} (X : K.In s.heap) (hlim : s.heap.NoLimit) (hroom : A.depth + 1 < recursionLimit)
    (hq : ∀ h' tk e d, MadeE s.heap h' e C (some d) → s.heap.objs.size ≤ d → d ≠ e → h'.Ns1 d (fun y => if y = "at" then some v else none) → R (.ok (.ret (.ref e))) { s with heap := h', toks := tk }) :
    codeAny (model prog w) A (.call (.ref C) ⟨[], [(("at" : Str), v)]⟩) R s := by
  obtain ⟨nm, N, qn, bs, bm, hd, sn, sb, ab, col, dd, k0, k1, k2, k3, k5, hC, hT⟩ := excInit_of X T.cls.ini
  obtain ⟨hp, g, dr, tk, os⟩ := s
  have k : ∀ b o, hp.get? b = some o → ((hp.push (W.kdv_tup [])).push (PX.excO C hp.objs.size)).get? b = some o := fun b o e => Heap.get?_push_of_some _ (Heap.get?_push_of_some _ e)
  have he : ((hp.push (W.kdv_tup [])).push (PX.excO C hp.objs.size)).get? (hp.objs.size + 1) = some (PX.excO C hp.objs.size) := by heap_get
  have hsz : ((hp.push (W.kdv_tup [])).push (PX.excO C hp.objs.size)).objs.size = hp.objs.size + 2 := by rw [Heap.size_push, Heap.size_push]
  refine call_kw F.excBase_Exception hT hC sig_at (looks_findIn X T.ini) (fun self => bind_fn X self T.tI) ?_
  refine runK_at (s := ⟨_, g, dr, tk, os⟩) T (X.keeps k) (hlim.keeps k) he ?_ fun h' tk' dx m => ?_
  · have e : (A.under (.builtin "type.__call__" ⟨[.ref C], [(("at" : Str), v)]⟩)).depth = A.depth + 1 := L2.make_depth (us := [])
    rw [e]
    exact hroom
  · have big : hp.objs.size ≤ dx := by
      have y := m.big
      dsimp only at y
      rw [hsz] at y
      omega
    exact ⟨rfl, hq h' tk' (hp.objs.size + 1) dx ⟨fun b o e => m.keep b o (Nat.ne_of_lt (Nat.lt_succ_of_lt (Heap.lt_size e))) (k b o e), Nat.le_succ _, ⟨_, _, m.obj, rfl, rfl, rfl, rfl⟩⟩ big m.ne m.ns⟩


theorem sig_word {v : Value} : Bind.checkArgs "Exception.__new__" ⟨.any, "Exception", "Exception", .cls, [⟨"args", .varPos, false⟩, ⟨"kwargs", .varKw, false⟩]⟩ ⟨[.ref C], [(("word" : Str), v)]⟩ = pure () := by first | rfl | kernel_rfl
theorem runK_word {K : Frag} {S fI : Addr} {s : Shared} (T : Mkr_word K S C fI) {x t0 : Addr} {v : Value} (X : K.In s.heap) (hlim : s.heap.NoLimit) (hx : s.heap.get? x = some (PX.excO C t0)) (hroom : A.depth < recursionLimit)
    (hq : ∀ h' tk dx, Kept s.heap h' x C dx t0 "word" v → R (.ok (.ret .none)) { s with heap := h', toks := tk }) :
    codeAny (model prog w) A (.call (.ref fI) ⟨[.ref x], [(("word" : Str), v)]⟩) R s := by
  obtain ⟨q, oc, od, kV, doc, pm, an, cdv, ct, osl, p1, p2, q1, q2, q3, q4, ho, hcd⟩ := T.fn
  refine Att.call_fn (binds := [("self", .ref x), ("word", v)]) X hlim ho hcd hroom (BindsTo.of_eq (by first | rfl | with_unfolding_all rfl | kernel_rfl)) (by first | rfl | decide | with_unfolding_all rfl) (fun s₁ IC => ?_) rfl rfl rfl
  obtain ⟨h1, tk1, rfl⟩ := IC.toInCall.same
  have k : ∀ b o, s.heap.get? b = some o → h1.get? b = some o := IC.toInCall.keep
  have hn := IC.toInCall.ns
  have z : s.heap.objs.size < h1.objs.size := hn.lt
  show wpAny _ _ (execs _ _) _ _ _
  refine wpAny_execs_cons (plainObj_wpAny_Assign_Attribute ?_)
  refine ld_loc (v := v) hn (by first | rfl | with_unfolding_all rfl | kernel_rfl) (ld_loc (v := .ref x) hn (by first | rfl | with_unfolding_all rfl | kernel_rfl) ?_)
  refine store_err T.cls (X.keeps k) T.tk (k _ _ hx) fun h3 tk3 dx m => ?_
  show wpAny _ _ (execs _ _) _ _ _
  exact wpAny_execs_nil (hq h3 tk3 dx ⟨fun b o hb e => m.keep b o hb (k b o e), m.obj, Nat.le_of_lt (Nat.lt_of_lt_of_le z m.big), m.ne, m.ns⟩)
theorem makeK_word {K : Frag} {S fI : Addr} {s : Shared} (T : Mkr_word K S C fI) {v : Value} (X : K.In s.heap) (hlim : s.heap.NoLimit) (hroom : A.depth + 1 < recursionLimit)
    (hq : ∀ h' tk e d, MadeE s.heap h' e C (some d) → s.heap.objs.size ≤ d → d ≠ e → h'.Ns1 d (fun y => if y = "word" then some v else none) → R (.ok (.ret (.ref e))) { s with heap := h', toks := tk }) :
    codeAny (model prog w) A (.call (.ref C) ⟨[], [(("word" : Str), v)]⟩) R s := by
  obtain ⟨nm, N, qn, bs, bm, hd, sn, sb, ab, col, dd, k0, k1, k2, k3, k5, hC, hT⟩ := excInit_of X T.cls.ini
  obtain ⟨hp, g, dr, tk, os⟩ := s
  have k : ∀ b o, hp.get? b = some o → ((hp.push (W.kdv_tup [])).push (PX.excO C hp.objs.size)).get? b = some o := fun b o e => Heap.get?_push_of_some _ (Heap.get?_push_of_some _ e)
  have he : ((hp.push (W.kdv_tup [])).push (PX.excO C hp.objs.size)).get? (hp.objs.size + 1) = some (PX.excO C hp.objs.size) := by heap_get
  have hsz : ((hp.push (W.kdv_tup [])).push (PX.excO C hp.objs.size)).objs.size = hp.objs.size + 2 := by rw [Heap.size_push, Heap.size_push]
  refine call_kw F.excBase_Exception hT hC sig_word (looks_findIn X T.ini) (fun self => bind_fn X self T.tI) ?_
  refine runK_word (s := ⟨_, g, dr, tk, os⟩) T (X.keeps k) (hlim.keeps k) he ?_ fun h' tk' dx m => ?_
  · have e : (A.under (.builtin "type.__call__" ⟨[.ref C], [(("word" : Str), v)]⟩)).depth = A.depth + 1 := L2.make_depth (us := [])
    rw [e]
    exact hroom
  · have big : hp.objs.size ≤ dx := by
      have y := m.big
      dsimp only at y
      rw [hsz] at y
      omega
    exact ⟨rfl, hq h' tk' (hp.objs.size + 1) dx ⟨fun b o e => m.keep b o (Nat.ne_of_lt (Nat.lt_succ_of_lt (Heap.lt_size e))) (k b o e), Nat.le_succ _, ⟨_, _, m.obj, rfl, rfl, rfl, rfl⟩⟩ big m.ne m.ns⟩

end
end Shf


namespace L2
open PySem PySem.Spec PyProof.Rows
section
variable {X : Cx} {S C fI : Addr}

theorem pe_made_at {x : Str} {e : Expr} {te : TE} {p pos apos kp : Pos} {k : Nat} (T : Shf.Mkr_at X.K S C fI) (gC : X.mg x = some (.ref C)) (hr : Room k X.A) (hg : Gl X x) (he : PE X e te) (hdb : (x == ("__debug__" : Str)) = false := by decide)
    (hb : attributeBase (.Call (.Name x p) [] [⟨some "at", e, kp⟩] pos) "at" X.env (eval (.Call (.Name x p) [] [⟨some "at", e, kp⟩] pos) X.env) = eval (.Call (.Name x p) [] [⟨some "at", e, kp⟩] pos) X.env := by rfl)
    (hall : (backToKw pos (keywordEach [⟨some "at", e, kp⟩] X.env)).all (·.1.isSome) = true := by rfl) (hks : (backToKw pos (keywordEach [⟨some "at", e, kp⟩] X.env)).filterMap (·.1) = [("at" : Str)] := by rfl)
    (hpl : ((backTo pos (starEach [] X.env)).any (·.1) || (backToKw pos (keywordEach [⟨some "at", e, kp⟩] X.env)).any (·.1.isNone)) = false := by rfl) :
    PE X (.Attribute (.Call (.Name x p) [] [⟨some "at", e, kp⟩] pos) "at" apos) (fun σ H Q => te σ H fun y H1 => ∃ v, [y] = [v] ∧ Q v H1) := by
  refine ⟨fun pins s σ H Q I h => attr_of hb ?_⟩
  refine wpAny_Call_Name_kw (ld_glob I hg gC ?_ hdb)
  refine PySem.W.callWith_KW0 (h₀ := X.base) I.ok.mod.kin T.cls.kp hall ?_ hpl
  refine thn ((pk_cons (nm := "at") (kpos := kp) he pk_nil).run pos pins s σ H (fun zs H1 => ∃ v, zs = [v] ∧ Q v H1) I h) fun ws s1 hh => ?_
  obtain ⟨zs, H1, I1, rz, v, rfl, q⟩ := hh
  obtain ⟨u, rfl, rv⟩ : ∃ u, ws = [u] ∧ RelV v u := by
    cases rz with
    | cons rv rn =>
      cases rn
      exact ⟨_, rfl, rv⟩
  refine ⟨I1.kIn, ?_⟩
  rw [hks]
  have lim := I1.nolimit
  obtain ⟨hp, g, dr, tk, os⟩ := s1
  refine wpAny_call (Shf.makeK_at (s := ⟨hp, g, dr, tk, os⟩) T I1.kIn lim (by have := hr.dp; omega) fun h' tk' a d M dbig dne hns => ?_)
  obtain ⟨oe, fv, hoe, hc, hd, hdat, h1⟩ := M.obj
  obtain ⟨od, ho, hl⟩ := lookIn_ns hns
  have J : PySem.W.InstAt h' a oe C (some od) := ⟨hoe, hc, by unfold PySem.W.notCls; rw [hdat] <;> rfl, by rw [hd]; exact ho⟩
  obtain ⟨cd, hcd, _, hdict⟩ := T.cls.mro
  have hD : PySem.W.hasDictIn X.K C = true := by
    show (PySem.W.clsIn X.K C).any (·.hasDict) = true
    rw [hcd]
    exact hdict
  have hl2 : PySem.W.lookIn "at" od = some (some u) := by
    rw [hl]
    exact congrArg some (if_pos rfl)
  exact PySem.PX.exc_get (s := ⟨h', g, dr, tk', os⟩) (I1.kIn.keeps M.keep) J T.cls.ga T.cls.gg T.cls.exc (PySem.W.findObj_own hD T.no rfl hl2) (handed_of rv) ⟨v, H1, (I1.kept (t' := tk') M.keep).tok _, rv, q⟩

theorem pe_made_word {x : Str} {e : Expr} {te : TE} {p pos apos kp : Pos} {k : Nat} (T : Shf.Mkr_word X.K S C fI) (gC : X.mg x = some (.ref C)) (hr : Room k X.A) (hg : Gl X x) (he : PE X e te) (hdb : (x == ("__debug__" : Str)) = false := by decide)
    (hb : attributeBase (.Call (.Name x p) [] [⟨some "word", e, kp⟩] pos) "word" X.env (eval (.Call (.Name x p) [] [⟨some "word", e, kp⟩] pos) X.env) = eval (.Call (.Name x p) [] [⟨some "word", e, kp⟩] pos) X.env := by rfl)
    (hall : (backToKw pos (keywordEach [⟨some "word", e, kp⟩] X.env)).all (·.1.isSome) = true := by rfl) (hks : (backToKw pos (keywordEach [⟨some "word", e, kp⟩] X.env)).filterMap (·.1) = [("word" : Str)] := by rfl)
    (hpl : ((backTo pos (starEach [] X.env)).any (·.1) || (backToKw pos (keywordEach [⟨some "word", e, kp⟩] X.env)).any (·.1.isNone)) = false := by rfl) :
    PE X (.Attribute (.Call (.Name x p) [] [⟨some "word", e, kp⟩] pos) "word" apos) (fun σ H Q => te σ H fun y H1 => ∃ v, [y] = [v] ∧ Q v H1) := by
  refine ⟨fun pins s σ H Q I h => attr_of hb ?_⟩
  refine wpAny_Call_Name_kw (ld_glob I hg gC ?_ hdb)
  refine PySem.W.callWith_KW0 (h₀ := X.base) I.ok.mod.kin T.cls.kp hall ?_ hpl
  refine thn ((pk_cons (nm := "word") (kpos := kp) he pk_nil).run pos pins s σ H (fun zs H1 => ∃ v, zs = [v] ∧ Q v H1) I h) fun ws s1 hh => ?_
  obtain ⟨zs, H1, I1, rz, v, rfl, q⟩ := hh
  obtain ⟨u, rfl, rv⟩ : ∃ u, ws = [u] ∧ RelV v u := by
    cases rz with
    | cons rv rn =>
      cases rn
      exact ⟨_, rfl, rv⟩
  refine ⟨I1.kIn, ?_⟩
  rw [hks]
  have lim := I1.nolimit
  obtain ⟨hp, g, dr, tk, os⟩ := s1
  refine wpAny_call (Shf.makeK_word (s := ⟨hp, g, dr, tk, os⟩) T I1.kIn lim (by have := hr.dp; omega) fun h' tk' a d M dbig dne hns => ?_)
  obtain ⟨oe, fv, hoe, hc, hd, hdat, h1⟩ := M.obj
  obtain ⟨od, ho, hl⟩ := lookIn_ns hns
  have J : PySem.W.InstAt h' a oe C (some od) := ⟨hoe, hc, by unfold PySem.W.notCls; rw [hdat] <;> rfl, by rw [hd]; exact ho⟩
  obtain ⟨cd, hcd, _, hdict⟩ := T.cls.mro
  have hD : PySem.W.hasDictIn X.K C = true := by
    show (PySem.W.clsIn X.K C).any (·.hasDict) = true
    rw [hcd]
    exact hdict
  have hl2 : PySem.W.lookIn "word" od = some (some u) := by
    rw [hl]
    exact congrArg some (if_pos rfl)
  exact PySem.PX.exc_get (s := ⟨h', g, dr, tk', os⟩) (I1.kIn.keeps M.keep) J T.cls.ga T.cls.gg T.cls.exc (PySem.W.findObj_own hD T.no rfl hl2) (handed_of rv) ⟨v, H1, (I1.kept (t' := tk') M.keep).tok _, rv, q⟩
end
end L2


/-! ### what the head says of a program: its errors, its defs, its free names, its numbers -/
namespace Shf
open PySem PySem.Spec PyProof.Rows L2
def mkAt (q : PySem.Str × Nat) : He.DefD := ⟨(q.1, some "__init__"), "__init__", q.1 ++ ".__init__", args_at ⟨q.2, 17, q.2, 21⟩ ⟨q.2, 23, q.2, 25⟩, body_at ⟨q.2 + 1, 8, q.2 + 1, 12⟩ ⟨q.2 + 1, 8, q.2 + 1, 15⟩ ⟨q.2 + 1, 18, q.2 + 1, 20⟩ ⟨q.2 + 1, 8, q.2 + 1, 20⟩, scope_at, [], []⟩
def mkWord (q : PySem.Str × Nat) : He.DefD := ⟨(q.1, some "__init__"), "__init__", q.1 ++ ".__init__", args_word ⟨q.2, 17, q.2, 21⟩ ⟨q.2, 23, q.2, 27⟩, body_word ⟨q.2 + 1, 8, q.2 + 1, 12⟩ ⟨q.2 + 1, 8, q.2 + 1, 17⟩ ⟨q.2 + 1, 20, q.2 + 1, 24⟩ ⟨q.2 + 1, 8, q.2 + 1, 24⟩, scope_word, [], []⟩
def mk0 (q : PySem.Str × Nat) : He.DefD := ⟨(q.1, some "__init__"), "__init__", q.1 ++ ".__init__", args_0 ⟨q.2, 17, q.2, 21⟩, [.Pass ⟨q.2 + 1, 8, q.2 + 1, 12⟩], scope_0, [], []⟩
structure Cfg where
  eAt : List (PySem.Str × Nat)
  eWord : List (PySem.Str × Nat)
  e0 : List (PySem.Str × Nat)
  own : List He.DefD
  free : List PySem.Str
  nums : List (PySem.Str × Int)
def Cfg.fn (c : Cfg) : List He.DefD := c.own ++ (c.eAt.map mkAt ++ (c.eWord.map mkWord ++ c.e0.map mk0))
def Cfg.errs (c : Cfg) : List PySem.Str := c.eAt.map (·.1) ++ (c.eWord.map (·.1) ++ c.e0.map (·.1))
def bs (K : PySem.W.Frag) : Addr := He.ga K "ShelfError"
def ea (K : PySem.W.Frag) (x : PySem.Str) : Addr := He.ga K x
def ia (K : PySem.W.Frag) (x : PySem.Str) : Addr := He.ma K (He.ga K x) "__init__"
def fErr (K : PySem.W.Frag) (x : PySem.Str) : Bool := oo (PySem.W.nsIn K mainGlobals x) (some (some (.ref (ea K x)))) && (errB K (bs K) (ea K x) && (oo (PySem.W.findIn K (.ref (ea K x)) "__init__") (some (some (.ref (ia K x)))) && decide (PySem.W.typeIn K (.ref (ia K x)) = some (.type "function"))))
def fFld (K : PySem.W.Frag) (f x : PySem.Str) : Bool := decide (PySem.W.takerIn K (ea K x) f = some none) && oo (PySem.W.findIn K (.ref (ea K x)) f) (some none)
def fBase (K : PySem.W.Frag) : Bool := oo (PySem.W.nsIn K mainGlobals "ShelfError") (some (some (.ref (bs K)))) && (decide (PySem.W.subIn K (.ref (bs K)) (.type "BaseException") = some true) && ((PySem.W.clsIn K (bs K)).isSome && decide (PySem.W.typeIn K (.ref (bs K)) = some (.type "type"))))
def fFree (K : PySem.W.Frag) (x : PySem.Str) : Bool := oo (PySem.W.nsIn K mainGlobals x) (some none)
def fGlo (K : PySem.W.Frag) (x : PySem.Str) : Bool := oo (PySem.W.nsIn K mainGlobals x) (some (some (.ref (ea K x))))
def noTwo : List Addr → Bool
  | [] => true
  | a :: r => !r.contains a && noTwo r
theorem noTwo_ok : ∀ {l : List Addr}, noTwo l = true → l.Nodup
  | [], _ => List.nodup_nil
  | a :: r, h => by
    obtain ⟨h1, h2⟩ := band (show (!r.contains a && noTwo r) = true from h)
    refine List.nodup_cons.mpr ⟨fun hm => ?_, noTwo_ok h2⟩
    rw [List.contains_iff_mem.mpr hm] at h1
    cases h1
def Cfg.facts (c : Cfg) (K : PySem.W.Frag) : Bool := (c.errs.all fun x => fErr K x) && ((c.eAt.all fun q => fFld K "at" q.1) && ((c.eWord.all fun q => fFld K "word" q.1) && (fBase K && (noTwo (bs K :: c.errs.map (ea K)) && ((c.free.all fun x => fFree K x) && ((c.own.all fun d => fGlo K d.at_.1) && (c.nums.all fun q => (He.Fa.int q.1 q.2).ok K)))))))
abbrev Own (K : PySem.W.Frag) (x : PySem.Str) (st : Stmt) (f : Addr) (fd : FuncData) : Prop := FunD K x x (defArgs st) (defBody st) (defScope st) [] [] f fd
/-- a plain def of the text, where its name says -/
structure Has (K : PySem.W.Frag) (mg : PySem.Str → Option Value) (x : PySem.Str) (st : Stmt) (fd : FuncData) : Prop where
  F : Own K x st (ea K x) fd
  g : mg x = some (.ref (ea K x))
structure EnvOk (c : Cfg) (K : PySem.W.Frag) (mg : PySem.Str → Option Value) : Prop where
  at_ : ∀ x ∈ c.eAt.map (·.1), Mkr_at K (bs K) (ea K x) (ia K x)
  word : ∀ x ∈ c.eWord.map (·.1), Mkr_word K (bs K) (ea K x) (ia K x)
  non : ∀ x ∈ c.e0.map (·.1), Mkr_0 K (bs K) (ea K x) (ia K x)
  cls : ∀ x ∈ c.errs, ErrC K (bs K) (ea K x)
  g : ∀ x ∈ c.errs, mg x = some (.ref (ea K x))
  nb : ∀ x ∈ c.errs, ea K x ≠ bs K
  inj : ∀ x ∈ c.errs, ∀ y ∈ c.errs, ea K x = ea K y → x = y
  own : ∀ d ∈ c.own, mg d.at_.1 = some (.ref (ea K d.at_.1))
  free : ∀ x ∈ c.free, mg x = none
  int : ∀ q ∈ c.nums, ∃ t, mg q.1 = some (.int q.2 t)
theorem dfl0 {K : PySem.W.Frag} {dV : Value} (h : DflV K dV []) : dV = .none := by
  rcases h with h | h
  · exact h.2
  · exact absurd rfl h.1
theorem def_mem {fa : PySem.W.Frag → Bool} {fn : List He.DefD} {K : PySem.W.Frag} (c : SaysS fa fn K) {d : He.DefD} (h : d ∈ fn) : ∃ fd, FunD K d.name d.qual d.params d.body d.scope (d.dvs K) (d.kws K) (He.fAd K d.at_) fd := by
  obtain ⟨i, hi⟩ := List.getElem?_of_mem h
  exact c.def_ i hi
theorem map_inj {α β : Type} {f : α → β} : ∀ {l : List α}, (l.map f).Nodup → ∀ x ∈ l, ∀ y ∈ l, f x = f y → x = y
  | [], _, x, hx, _, _, _ => nomatch hx
  | a :: r, h, x, hx, y, hy, e => by
    obtain ⟨h1, h2⟩ := List.nodup_cons.mp (show (f a :: r.map f).Nodup from h)
    rcases List.mem_cons.mp hx with hx | hx
    · rcases List.mem_cons.mp hy with hy | hy
      · rw [hx, hy]
      · exact absurd (by rw [← hx, e]; exact List.mem_map_of_mem hy) h1
    · rcases List.mem_cons.mp hy with hy | hy
      · exact absurd (by rw [← hy, ← e]; exact List.mem_map_of_mem hx) h1
      · exact map_inj h2 x hx y hy e
theorem top_of {c : Cfg} {K : PySem.W.Frag} {mg : PySem.Str → Option Value} {h : Heap} (X : K.In h) (G : h.Ns mainGlobals mg) (s : SaysS c.facts c.fn K) : EnvOk c K mg := by
  obtain ⟨fE, hf⟩ := band s.facts
  obtain ⟨fA, hf⟩ := band hf
  obtain ⟨fW, hf⟩ := band hf
  obtain ⟨fB, hf⟩ := band hf
  obtain ⟨fN, hf⟩ := band hf
  obtain ⟨fF, hf⟩ := band hf
  obtain ⟨fG, fI⟩ := band hf
  have err : ∀ x ∈ c.errs, mg x = some (.ref (ea K x)) ∧ ErrC K (bs K) (ea K x) ∧ PySem.W.findIn K (.ref (ea K x)) "__init__" = some (some (.ref (ia K x))) ∧ PySem.W.typeIn K (.ref (ia K x)) = some (.type "function") := fun x hx => by
    obtain ⟨h1, h2⟩ := band (List.all_eq_true.mp fE x hx)
    obtain ⟨h2, h3⟩ := band h2
    obtain ⟨h3, h4⟩ := band h3
    exact ⟨PySem.W.mg_of X G (of_decide_eq_true h1), errB_ok h2, of_decide_eq_true h3, of_decide_eq_true h4⟩
  obtain ⟨nb, nd⟩ := List.nodup_cons.mp (noTwo_ok fN)
  refine ⟨fun x hx => ?_, fun x hx => ?_, fun x hx => ?_, fun x hx => (err x hx).2.1, fun x hx => (err x hx).1, fun x hx e => nb (by rw [← e]; exact List.mem_map_of_mem hx), fun x hx y hy e => map_inj nd x hx y hy e,
    fun d hd => PySem.W.mg_of X G (of_decide_eq_true (List.all_eq_true.mp fG d hd)), fun x hx => PySem.W.mg_none_of X G (of_decide_eq_true (List.all_eq_true.mp fF x hx)), fun q hq => He.int_ok X G (List.all_eq_true.mp fI q hq)⟩
  · obtain ⟨_, h2, h3, h4⟩ := err x (List.mem_append_left _ hx)
    obtain ⟨q, hq, rfl⟩ := List.mem_map.mp hx
    obtain ⟨h5, h6⟩ := band (List.all_eq_true.mp fA q hq)
    obtain ⟨fd, Fd⟩ := def_mem s (d := mkAt q) (List.mem_append_right _ (List.mem_append_left _ (List.mem_map_of_mem hq)))
    obtain ⟨oc, od, dV, kV, doc, pm, an, cdv, ct, osl, rfl, lk, hcd, hd, _⟩ := Fd.ex
    have e0 : dV = .none := dfl0 hd
    subst e0
    exact ⟨h2, of_decide_eq_true h5, of_decide_eq_true h6, h3, h4, _, oc, od, kV, doc, pm, an, cdv, ct, osl, _, _, _, _, _, _, lk, hcd⟩
  · obtain ⟨_, h2, h3, h4⟩ := err x (List.mem_append_right _ (List.mem_append_left _ hx))
    obtain ⟨q, hq, rfl⟩ := List.mem_map.mp hx
    obtain ⟨h5, h6⟩ := band (List.all_eq_true.mp fW q hq)
    obtain ⟨fd, Fd⟩ := def_mem s (d := mkWord q) (List.mem_append_right _ (List.mem_append_right _ (List.mem_append_left _ (List.mem_map_of_mem hq))))
    obtain ⟨oc, od, dV, kV, doc, pm, an, cdv, ct, osl, rfl, lk, hcd, hd, _⟩ := Fd.ex
    have e0 : dV = .none := dfl0 hd
    subst e0
    exact ⟨h2, of_decide_eq_true h5, of_decide_eq_true h6, h3, h4, _, oc, od, kV, doc, pm, an, cdv, ct, osl, _, _, _, _, _, _, lk, hcd⟩
  · obtain ⟨_, h2, h3, h4⟩ := err x (List.mem_append_right _ (List.mem_append_right _ hx))
    obtain ⟨q, hq, rfl⟩ := List.mem_map.mp hx
    obtain ⟨fd, Fd⟩ := def_mem s (d := mk0 q) (List.mem_append_right _ (List.mem_append_right _ (List.mem_append_right _ (List.mem_map_of_mem hq))))
    obtain ⟨oc, od, dV, kV, doc, pm, an, cdv, ct, osl, rfl, lk, hcd, hd, _⟩ := Fd.ex
    have e0 : dV = .none := dfl0 hd
    subst e0
    exact ⟨h2, h3, h4, _, oc, od, kV, doc, pm, an, cdv, ct, osl, _, _, lk, hcd⟩
theorem has_of {c : Cfg} {K : PySem.W.Frag} {mg : PySem.Str → Option Value} (s : SaysS c.facts c.fn K) (T : EnvOk c K mg) (i : Nat) (x : PySem.Str) (st : Stmt) (h : c.own[i]? = some ⟨(x, none), x, x, defArgs st, defBody st, defScope st, [], []⟩) : ∃ fd, Has K mg x st fd := by
  have hm := List.mem_of_getElem? h
  obtain ⟨fd, Fd⟩ := def_mem s (List.mem_append_left _ hm)
  exact ⟨fd, Fd, T.own _ hm⟩
/-! ### which clause takes which error -/
section
variable {c : Cfg} {K : PySem.W.Frag} {mg : PySem.Str → Option Value} {D : Ends} {Wout : WX} {ts : Addr → Value → Option Addr → TS} {r : List Cl} {d : Option Addr} {σ : L2.St} {H : Hp}
theorem no_clause (T : EnvOk c K mg) {i : Option Nat} (x y : PySem.Str) (hy : y ∈ c.errs) (hx : x ∈ c.errs) (hne : x ≠ y) (h : wCls K Wout D r (.ref (ea K x)) d σ H) : wCls K Wout D (⟨.ref (ea K y), i, ts⟩ :: r) (.ref (ea K x)) d σ H := by
  refine ⟨false, ?_, fun q => Bool.noConfusion q, fun _ => h⟩
  rw [(T.cls x hx).takes (T.cls y hy) (T.nb y hy), decide_eq_false (fun e => hne (T.inj y hy x hx e).symm)]
theorem yes_clause (T : EnvOk c K mg) {i : Nat} (x : PySem.Str) (hx : x ∈ c.errs)
    (h : ∀ a, H a = none → ts a (.ref (ea K x)) d { nx := fun σ' H' => D.nx (σ'.set i none) H', rt := D.rt, bk := fun σ' H' => D.bk (σ'.set i none) H', ct := fun σ' H' => D.ct (σ'.set i none) H' } (σ.set i (some (.ref a))) H) :
    wCls K Wout D (⟨.ref (ea K x), some i, ts⟩ :: r) (.ref (ea K x)) d σ H := by
  refine ⟨true, ?_, fun _ => h, fun q => Bool.noConfusion q⟩
  rw [(T.cls x hx).takes (T.cls x hx) (T.nb x hx), decide_eq_true rfl]
theorem yes_bare (T : EnvOk c K mg) (x : PySem.Str) (hx : x ∈ c.errs) (h : ∀ a, H a = none → ts a (.ref (ea K x)) d D σ H) : wCls K Wout D (⟨.ref (ea K x), none, ts⟩ :: r) (.ref (ea K x)) d σ H := by
  refine ⟨true, ?_, fun _ => h, fun q => Bool.noConfusion q⟩
  rw [(T.cls x hx).takes (T.cls x hx) (T.nb x hx), decide_eq_true rfl]
end
end Shf


/-! ### sequences: lists or tuples -/
namespace L2
open PySem PySem.Spec PyProof.Rows
def Sq (K : PySem.W.Frag) (H : Hp) (a : Addr) (xs : List V) : Prop := SqL K H a xs ∨ SqT K H a xs
theorem sqt_same {K : PySem.W.Frag} {H H' : Hp} {a : Addr} {xs : List V} (e : Same H H') (h : SqT K H a xs) : SqT K H' a xs := by
  rcases h with (h | ⟨o, h⟩) | h
  · exact .inl (.inl (e _ _ h))
  · exact .inl (.inr ⟨o, e _ _ h⟩)
  · exact .inr h
theorem Sq.same {K : PySem.W.Frag} {H H' : Hp} {a : Addr} {xs : List V} (e : Same H H') (h : Sq K H a xs) : Sq K H' a xs := h.imp e.seq (sqt_same e)
theorem same_new {H : Hp} {p : Addr} {o : HO} (h : H p = none) : Same H (upd H p o) := fun b x e => by
  rw [upd_ne (ne_of_none e h)]
  exact e
/-- what a list or a tuple yields, one after the other -/
def Its2 (K : PySem.W.Frag) (a : Addr) (xs : List V) : It := ⟨fun i H => Sq K H a xs ∧ i < xs.length, fun i H x H' => H' = H ∧ xs[i]? = some x, fun i H => Sq K H a xs ∧ xs.length ≤ i⟩
section
variable {X : Cx} {tg l : Expr} {tl : TE}
def iSq (K : PySem.W.Frag) (tl : TE) : TI := fun σ H R => tl σ H fun x H1 => ∃ a xs, x = .ref a ∧ Sq K H1 a xs ∧ R (Its2 K a xs) H1
theorem turn_sqL {P : Program} {w : World} {K : PySem.W.Frag} (a it : Addr) (xs : List V) : Turn P w K tg ⟨fun i H => SqL K H a xs ∧ i < xs.length, fun i H x H' => H' = H ∧ xs[i]? = some x, fun i H => SqL K H a xs ∧ xs.length ≤ i⟩ [it] it (fun i h => h.IsListIter it a i) := by
  have t := turn_list (P := P) (w := w) (K := K) (tg := tg) a it
  refine ⟨t.mem, t.obj, t.keep, fun X hP hw hK hc i pins s σ H E I hf st hg => ?_, fun X hP hw hK hc i pins s σ H E I hf st hg => ?_, t.self⟩
  · have q := t.item X hP hw hK hc i pins s σ H E I hf st ⟨xs, xs[i]'hg.2, hg.1, by simp [hg.2]⟩
    refine wpAny_mono q (fun r s1 h1 => ?_) fun _ _ z => z
    obtain ⟨u, e, h1⟩ := h1
    refine ⟨u, e, wpAny_mono h1 (fun _ s2 h2 => ?_) fun _ _ z => z⟩
    obtain ⟨x, H', J, rx, ⟨e1, e2⟩, st2, hn⟩ := h2
    exact ⟨x, H', J, rx, ⟨e1, e2 xs hg.1⟩, st2, hn⟩
  · exact t.done X hP hw hK hc i pins s σ H E I hf st ⟨xs, hg.1, hg.2⟩
theorem turn_sqT {P : Program} {w : World} {K : PySem.W.Frag} (a it : Addr) (xs : List V) : Turn P w K tg ⟨fun i H => SqT K H a xs ∧ i < xs.length, fun i H x H' => H' = H ∧ xs[i]? = some x, fun i H => SqT K H a xs ∧ xs.length ≤ i⟩ [it] it (fun i h => h.IsTupleIter it a i) := by
  have t := turn_tuple (P := P) (w := w) (K := K) (tg := tg) a it
  refine ⟨t.mem, t.obj, t.keep, fun X hP hw hK hc i pins s σ H E I hf st hg => ?_, fun X hP hw hK hc i pins s σ H E I hf st hg => ?_, t.self⟩
  · have q := t.item X hP hw hK hc i pins s σ H E I hf st ⟨xs, xs[i]'hg.2, hg.1, by simp [hg.2]⟩
    refine wpAny_mono q (fun r s1 h1 => ?_) fun _ _ z => z
    obtain ⟨u, e, h1⟩ := h1
    refine ⟨u, e, wpAny_mono h1 (fun _ s2 h2 => ?_) fun _ _ z => z⟩
    obtain ⟨x, H', J, rx, ⟨e1, e2⟩, st2, hn⟩ := h2
    exact ⟨x, H', J, rx, ⟨e1, e2 xs hg.1⟩, st2, hn⟩
  · exact t.done X hP hw hK hc i pins s σ H E I hf st ⟨xs, hg.1, hg.2⟩
/-- for x in a list or a tuple; the two ways may stand as they will -/
def iSqW (K : PySem.W.Frag) (tl : TE) : TI := fun σ H R => tl σ H fun x H1 => ∃ a xs, x = .ref a ∧
  ((SqL K H1 a xs ∧ R ⟨fun i H => SqL K H a xs ∧ i < xs.length, fun i H x H' => H' = H ∧ xs[i]? = some x, fun i H => SqL K H a xs ∧ xs.length ≤ i⟩ H1) ∨
    (SqT K H1 a xs ∧ R ⟨fun i H => SqT K H a xs ∧ i < xs.length, fun i H x H' => H' = H ∧ xs[i]? = some x, fun i H => SqT K H a xs ∧ xs.length ≤ i⟩ H1))
theorem pi_sq (hl : PE X l tl) : PI X tg l (iSqW X.K tl) := by
  refine ⟨fun pins s σ H R I h => thn (hl.run pins s σ H _ I h) fun v s1 hh => ?_⟩
  obtain ⟨x, H1, I1, r1, a, xs, rfl, q⟩ := hh
  obtain rfl : v = Value.ref a := r1
  rcases q with ⟨hq, q⟩ | ⟨hq, q⟩
  · obtain ⟨its, rv, p, hz⟩ := I1.list hq
    refine wpAny_pyIter_list p.isList ⟨s1.heap.objs.size, [s1.heap.objs.size], _, _, H1, rfl, I1.kept (t' := s1.toks) fun b o e => Heap.get?_push_of_some _ e, turn_sqL a _ xs, ⟨_, Heap.get?_push_size _ rfl, rfl, rfl⟩, fun b hb => ?_, q⟩
    obtain rfl : b = s1.heap.objs.size := by simpa using hb
    exact I1.fpOk (Nat.le_refl _) (I1.hok.fresh (Nat.le_refl _))
  · obtain ⟨its, rv, p, hz⟩ := I1.tuple hq
    refine wpAny_pyIter_tuple (show s1.heap.IsTuple a its.toArray from p) ⟨s1.heap.objs.size, [s1.heap.objs.size], _, _, H1, rfl, I1.kept (t' := s1.toks) fun b o e => Heap.get?_push_of_some _ e, turn_sqT a _ xs, ⟨_, Heap.get?_push_size _ rfl, rfl, rfl⟩, fun b hb => ?_, q⟩
    obtain rfl : b = s1.heap.objs.size := by simpa using hb
    exact I1.fpOk (Nat.le_refl _) (I1.hok.fresh (Nat.le_refl _))
/-- a, b = a list or a tuple of two -/
def gSq (K : PySem.W.Frag) (n : Nat) (t : TGs) : TG := fun v σ H Q => ∃ a xs, v = .ref a ∧ Sq K H a xs ∧ xs.length = n ∧ t xs σ H Q
theorem pg_sq {es : List Expr} {k : Nat} {t : TGs} {n : Nat} {pos : Pos} (hc : X.calm = true) (h : PGs X es t)
    (hn : (assignEach es X.env).length = n := by rfl) (hst : (assignEach es X.env).findIdx? (·.1) = none := by rfl) : PG X (.Tuple es k pos) (gSq X.K n t) := by
  refine ⟨fun pins s σ H v u Q I r hw => ?_⟩
  obtain ⟨a, xs, e, hq | hq, hl, hw⟩ := hw
  · exact (pg_unl (k := k) (pos := pos) hc h hn hst).run pins s σ H v u Q I r ⟨a, xs, e, hq, hl, hw⟩
  · exact (pg_tup (k := k) (pos := pos) hc h hn hst).run pins s σ H v u Q I r ⟨a, xs, e, hq, hl, hw⟩
end
/-- a for over either -/
theorem for_sq {K : PySem.W.Frag} {a : Addr} {xs : List V} {g : TG} {tb : TS} {D : Ends} {σ : L2.St} {H : Hp} (hS : Sq K H a xs) (Pv : Nat → L2.St → Hp → Prop) (h0 : Pv 0 σ H) (hk : ∀ i σ' H', Pv i σ' H' → Same H H')
    (hs : ∀ i x σ H, xs[i]? = some x → Pv i σ H → g x σ H fun σ2 H2 => tb { D with nx := Pv (i + 1), ct := Pv (i + 1), bk := D.nx } σ2 H2) (hd : ∀ σ H, Pv xs.length σ H → D.nx σ H) (tl : TE)
    (ht : ∀ R : V → Hp → Prop, R (.ref a) H → tl σ H R) : tFor (iSqW K tl) g tb D σ H := by
  have core : ∀ (G : Hp → Prop), G H → (∀ H', Same H H' → G H → G H') → ∃ W : Nat → Nat → L2.St → Hp → Prop, (∃ m, W 0 m σ H) ∧ ∀ i m σ H, W i m σ H →
      ((G H ∧ xs.length ≤ i) ∧ D.nx σ H) ∨ ((G H ∧ i < xs.length) ∧ ∃ N : L2.St → Hp → Prop, (∀ σ' H', N σ' H' → ∃ m', m' < m ∧ W (i + 1) m' σ' H') ∧ ∀ x H', (H' = H ∧ xs[i]? = some x) → g x σ H' fun σ2 H2 => tb { D with nx := N, ct := N, bk := D.nx } σ2 H2) := by
    intro G hG hkeep
    refine ⟨fun i m σ H => m = xs.length - i ∧ i ≤ xs.length ∧ Pv i σ H, ⟨xs.length, rfl, Nat.zero_le _, h0⟩, ?_⟩
    rintro i m σ' H' ⟨rfl, hi, p⟩
    have gg := hkeep H' (hk i σ' H' p) hG
    by_cases hlt : i < xs.length
    · refine .inr ⟨⟨gg, hlt⟩, Pv (i + 1), fun σ2 H2 p2 => ⟨xs.length - (i + 1), by omega, rfl, hlt, p2⟩, fun x H2 y => ?_⟩
      obtain ⟨rfl, hx⟩ := y
      exact hs i x σ' H2 hx p
    · have e : i = xs.length := by omega
      subst e
      exact .inl ⟨⟨gg, Nat.le_refl _⟩, hd σ' H' p⟩
  refine ht _ ⟨a, xs, rfl, ?_⟩
  rcases hS with hS | hS
  · exact .inl ⟨hS, core (fun H' => SqL K H' a xs) hS fun H' e h => e.seq h⟩
  · exact .inr ⟨hS, core (fun H' => SqT K H' a xs) hS fun H' e h => sqt_same e h⟩
end L2

namespace Shf
open PySem PySem.W PySem.Calls PyProof.Rows
/-! ### enumerate of a tuple, at the library's level -/
open PySem.AutoSeq1 (wpAny_loadPart')
theorem enum_new_tup (l : Addr) (items : Array Value) (n : Nat) (dct : Option Addr) (sl : Array (Option Value)) :
    Meets (Builtin.«enumerate.__new__» ⟨[.type "enumerate", .ref l], []⟩) (fun _ R s => s.heap.get? l = some { cls := .type "tuple", dict := dct, data := .seq items n, slots := sl } ∧
      R (.ok (.ret (.ref (s.heap.push { cls := .type "tuple_iterator", data := .fields #[.ref l, .int 0 0] }).objs.size)))
        { s with heap := (s.heap.push { cls := .type "tuple_iterator", data := .fields #[.ref l, .int 0 0] }).push { cls := .type "enumerate", data := .fields #[.none, .bool false, .ref s.heap.objs.size, rawInt 0, .none, .none] } }) :=
  .of_wp fun prog w A R s h => by
    obtain ⟨hp, g, d, tk, os⟩ := s
    obtain ⟨hl, h⟩ := h
    have sub := sub_enumerate
    have T : Heap.IsTuple (Shared.heap ⟨hp, g, d, tk, os⟩) l items := ⟨_, hl, rfl, n, rfl⟩
    wp_walk using wpAny_loadPart' hl
    refine wpAny_stack_any fun st => wpAny_pure ?_
    split
    · rename_i c _ _ _ _ _
      cases (c == Value.type "enumerate")
      · wp_walk using wpAny_loadPart' hl, wpAny_pyIter_tuple T
        exact ⟨_, rfl, h⟩
      · wp_walk using wpAny_loadPart' hl, wpAny_pyIter_tuple T
        exact ⟨_, rfl, h⟩
    · wp_walk using wpAny_loadPart' hl, wpAny_pyIter_tuple T
      exact ⟨_, rfl, h⟩
theorem call_enum_tup {prog : Program} {w : World} {A : Around} {E : Value → Shared → Prop} {s : Shared} {l : Addr} {items : Array Value} {Q : Value → Shared → Prop} (hT : s.heap.IsTuple l items)
    (h : ∀ h', IsEnum h' (s.heap.objs.size + 1) s.heap.objs.size 0 .none → h'.IsTupleIter s.heap.objs.size l 0 → h'.objs.size = s.heap.objs.size + 2 →
      (∀ b o, s.heap.get? b = some o → h'.get? b = some o) → Q (.ref (s.heap.objs.size + 1)) { s with heap := h' }) :
    wpAny (model prog w) A (call (.type "enumerate") [.ref l]) Q E s := by
  obtain ⟨⟨c, dct, dt, sl⟩, hl, hc, n, hd⟩ := hT
  obtain rfl : c = .type "tuple" := hc
  obtain rfl : dt = .seq items n := hd
  refine callType_new F.called_enumerate (by decide) (F.typeCall_enumerate_1 _) (F.newCall_enumerate_1 _) (fun obj => F.args_object_init_2 obj _) F.entry_enumerate_new (enum_new_tup l items n dct sl) ⟨hl, ?_⟩
  have z : (s.heap.push { cls := .type "tuple_iterator", data := .fields #[.ref l, .int 0 0] }).objs.size = s.heap.objs.size + 1 := Heap.size_push ..
  show _ ∧ _
  rw [z]
  have he : IsEnum ((s.heap.push { cls := .type "tuple_iterator", data := .fields #[.ref l, .int 0 0] }).push { cls := .type "enumerate", data := .fields #[.none, .bool false, .ref s.heap.objs.size, rawInt 0, .none, .none] }) (s.heap.objs.size + 1) s.heap.objs.size 0 .none := by
    have y := Heap.get?_push_size (s.heap.push { cls := .type "tuple_iterator", data := .fields #[.ref l, .int 0 0] }) (o := { cls := .type "enumerate", data := .fields #[.none, .bool false, .ref s.heap.objs.size, rawInt 0, .none, .none] }) rfl
    rw [z] at y
    exact y
  exact ⟨⟨_, he, rfl⟩, h _ he ⟨_, Heap.get?_push_of_some _ (Heap.get?_push_size _ rfl), rfl, rfl⟩ (by rw [Heap.size_push, z]) fun b o x => Heap.get?_push_of_some _ (Heap.get?_push_of_some _ x)⟩
end Shf
namespace L2
open PySem PySem.Spec PyProof.Rows
/-- enumerate of a tuple: new pairs -/
def IteT (K : PySem.W.Frag) (a : Addr) (xs : List V) : It :=
  ⟨fun i H => SqT K H a xs ∧ i < xs.length, fun i H v H' => ∃ T x, v = .ref T ∧ H T = none ∧ H' = upd H T (.tup [.int (i : Nat), x]) ∧ xs[i]? = some x, fun i H => SqT K H a xs ∧ i = xs.length⟩
def IteL (K : PySem.W.Frag) (a : Addr) (xs : List V) : It :=
  ⟨fun i H => SqL K H a xs ∧ i < xs.length, fun i H v H' => ∃ T x, v = .ref T ∧ H T = none ∧ H' = upd H T (.tup [.int (i : Nat), x]) ∧ xs[i]? = some x, fun i H => SqL K H a xs ∧ i = xs.length⟩
theorem turn_enumL {P : Program} {w : World} {K : PySem.W.Frag} {elts : List Expr} {kk : Nat} {tpos : Pos} (a e it : Addr) (xs : List V) :
    Turn P w K (.Tuple elts kk tpos) (IteL K a xs) [e, it] e (fun i h => (∃ old, IsEnum h e it ((i : Nat) : Int) old) ∧ h.IsListIter it a i ∧ e ≠ it) := by
  have t := turn_enum (P := P) (w := w) (K := K) (elts := elts) (kk := kk) (tpos := tpos) a e it
  refine ⟨t.mem, t.obj, t.keep, fun X hP hw hK hc i pins s σ H E I hf st hg => ?_, fun X hP hw hK hc i pins s σ H E I hf st hg => ?_, t.self⟩
  · refine wpAny_mono (t.item X hP hw hK hc i pins s σ H E I hf st ⟨xs, xs[i]'hg.2, hg.1, by simp [hg.2]⟩) (fun r s1 h1 => ?_) fun _ _ z => z
    obtain ⟨u, e1, h1⟩ := h1
    refine ⟨u, e1, wpAny_mono h1 (fun _ s2 h2 => ?_) fun _ _ z => z⟩
    obtain ⟨x, H', J, rx, ⟨T, y, e2, e3, e4, e5⟩, st2, hn⟩ := h2
    exact ⟨x, H', J, rx, ⟨T, y, e2, e3, e4, e5 xs hg.1⟩, st2, hn⟩
  · exact t.done X hP hw hK hc i pins s σ H E I hf st ⟨xs, hg.1, by rw [hg.2]; exact Nat.le_refl _⟩
theorem turn_enumT {P : Program} {w : World} {K : PySem.W.Frag} {elts : List Expr} {kk : Nat} {tpos : Pos} (a e it : Addr) (xs : List V) (hat : a ≠ it) (hae : a ≠ e) :
    Turn P w K (.Tuple elts kk tpos) (IteT K a xs) [e, it] e (fun i h => (∃ old, IsEnum h e it ((i : Nat) : Int) old) ∧ h.IsTupleIter it a i ∧ e ≠ it) where
  mem := by simp
  obj := fun i h st b hb => by
    obtain ⟨⟨old, he⟩, ⟨o, ho, hc, hd⟩, _⟩ := st
    rcases (show b = e ∨ b = it by simpa using hb) with z | z
    · rw [z]
      exact ⟨_, he, fun v q => nomatch q⟩
    · rw [z]
      exact ⟨o, ho, fun v q => by rw [hd] at q; cases q⟩
  keep := fun i h h' st k => by
    obtain ⟨⟨old, he⟩, hi, hne⟩ := st
    exact ⟨⟨old, k e (by simp) _ he⟩, hi.at fun o q => k it (by simp) o q, hne⟩
  item := by
    intro X hP hw hK hc i pins s σ H E I hf st hg
    subst hP hw hK
    obtain ⟨⟨old, he⟩, hit, hne⟩ := st
    obtain ⟨hq, hi⟩ := hg
    obtain ⟨its, rv, p, hz⟩ := I.tuple hq
    have hx : xs[i]? = some xs[i] := by simp [hi]
    obtain ⟨u, hu, ru⟩ := rv.get hx
    have hel : e < s.heap.objs.size := Heap.lt_size he
    have hil : it < s.heap.objs.size := by
      obtain ⟨_, q, _⟩ := hit
      exact Heap.lt_size q
    have hT : s.heap.IsTuple a its.toArray := p
    have hn : i < its.toArray.size := by
      have z := rv.length
      simp
      omega
    refine wpAny_pyNext_enum_itemD (PySem.Draws.tuple (prog := X.prog) (w := X.w) (A := X.A.in1) (show X.A.in1.handled = none from I.ok.hd hc) it a hat its.toArray) he ⟨hit, hT⟩ hn hne (by simp [hne, hae.symm]) fun x h' tk hxi ho hst' hT' hsz hk => ?_
    obtain ⟨hit', _⟩ := hst'
    have ex : x = u := by
      have y : its.toArray[i]? = some x := hxi
      rw [show its.toArray[i]? = some u by simpa using hu] at y
      exact (Option.some.inj y).symm
    subst ex
    refine ⟨_, rfl, wpAny_letOwnedTupleGo_enum (s := { s with heap := h', toks := tk + 1 }) ho fun h'' he' sb => ?_⟩
    have hT2 : h''.get? s.heap.objs.size = some { cls := .type "tuple", data := .seq #[.int i tk, x] } := (sb.2 _ (Nat.ne_of_gt hel)).trans hT'
    have new : ObjOk X.prog X.w (upd H s.heap.objs.size (.tup [.int (i : Nat), xs[i]])) h'' s.heap.objs.size (.tup [.int (i : Nat), xs[i]]) :=
      ⟨by show 2 ≤ sizeLine; decide, [.int i tk, x], .cons ⟨_, rfl⟩ (.cons ru .nil), ⟨_, hT2, rfl, _, rfl⟩⟩
    have I1 : Inv X pins σ (upd H s.heap.objs.size (.tup [.int (i : Nat), xs[i]])) { s with heap := h'', toks := tk + 1 } :=
      I.turnedNew (ch := [e, it]) (fun b ob hb q => (sb.2 b (fun z => hb (by simp [z]))).trans (hk b ob (fun z => hb (by simp [z])) (fun z => hb (by simp [z])) q)) hf (Nat.le_refl _) new
    refine ⟨.ref s.heap.objs.size, _, I1, rfl, ⟨_, xs[i], rfl, I.hok.fresh (Nat.le_refl _), rfl, hx⟩, ⟨⟨x, ?_⟩, hit'.at fun o q => (sb.2 it (Ne.symm hne)).trans q, hne⟩, fun b hb => ?_⟩
    · rw [show ((i + 1 : Nat) : Int) = (i : Int) + 1 by omega]
      exact he'
    · have hb' : b < s.heap.objs.size := by
        rcases (show b = e ∨ b = it by simpa using hb) with z | z
        · rw [z]; exact hel
        · rw [z]; exact hil
      rw [upd_ne (Nat.ne_of_lt hb')]
      exact (hf b hb).1
  done := by
    intro X hP hw hK hc i pins s σ H E I hf st hg
    subst hP hw hK
    obtain ⟨⟨old, he⟩, hit, hne⟩ := st
    obtain ⟨hq, hi⟩ := hg
    obtain ⟨its, rv, p, hz⟩ := I.tuple hq
    have hT : s.heap.IsTuple a its.toArray := p
    obtain ⟨f0, f1, f2, f3, f4, f5⟩ := hf it (by simp)
    have hn : i = its.toArray.size := by
      have z := rv.length
      simp
      omega
    rw [hn] at hit
    refine wpAny_pyNext_enum_endD (PySem.Draws.tuple (prog := X.prog) (w := X.w) (A := X.A.in1) (show X.A.in1.handled = none from I.ok.hd hc) it a hat its.toArray) he ⟨hit, hT⟩ fun h' eb => ⟨rfl, I.turned (t' := s.toks) (fun b o hb q => eb b o hb q) f0 f1 f3 f4 f5⟩
  self := fun A i s Q E st h => by
    obtain ⟨⟨_, he⟩, _⟩ := st
    exact wpAny_pyIter_enum he h
end L2


namespace L2
open PySem PySem.Spec PyProof.Rows
section
variable {X : Cx} {e : Expr} {te : TE} {p pos tpos : Pos} {elts : List Expr} {kk : Nat}
/-- for i, x in enumerate(a list or a tuple) -/
def iEnumSq (K : PySem.W.Frag) (ta : TA) : TI := fun σ H R => ta σ H fun vs H1 => ∃ a xs, vs = [.ref a] ∧ ((SqL K H1 a xs ∧ R (IteL K a xs) H1) ∨ (SqT K H1 a xs ∧ R (IteT K a xs) H1))
theorem pi_enumSq {ta : TA} (hg : Gl X "enumerate") (hm : X.mg "enumerate" = none) (ha : PA X [e] ta) (hs : starEach [e] X.env = [(false, eval e X.env)] := by rfl) :
    PI X (.Tuple elts kk tpos) (.Call (.Name "enumerate" p) [e] [] pos) (iEnumSq X.K ta) := by
  refine ⟨fun pins s σ H R I h => Call_ (ld_blt I hg hm boot_enumerate (PyProof.Rows.callWith_type1 (thn (ha.run pos pins s σ H _ I h) fun us s1 hh => ?_) hs rfl))⟩
  obtain ⟨vs, H1, I1, r1, a, xs, rfl, q⟩ := hh
  obtain rfl := Vals.ref1 r1
  have fresh : ∀ {h' : Heap}, (∀ b o, s1.heap.get? b = some o → h'.get? b = some o) → ∀ b ∈ [s1.heap.objs.size + 1, s1.heap.objs.size], s1.heap.objs.size ≤ b := fun {h'} _ b hb => by
    rcases (show b = s1.heap.objs.size + 1 ∨ b = s1.heap.objs.size by simpa using hb) with z | z
    · rw [z]; exact Nat.le_succ _
    · rw [z]; exact Nat.le_refl _
  rcases q with ⟨hq, q⟩ | ⟨hq, q⟩
  · obtain ⟨its, rv, pl, hz⟩ := I1.list hq
    refine call_enumerate_list pl.isList fun h' he hit hsz hk => wpAny_pyIter_enum he ?_
    have I2 : Inv X pins σ H1 { s1 with heap := h' } := I1.kept (t' := s1.toks) hk
    exact ⟨s1.heap.objs.size + 1, [s1.heap.objs.size + 1, s1.heap.objs.size], _, _, H1, rfl, I2, turn_enumL a (s1.heap.objs.size + 1) s1.heap.objs.size xs, ⟨⟨.none, he⟩, hit, Nat.succ_ne_self _⟩, fun b hb => I1.fpOk (fresh hk b hb) (I1.hok.fresh (fresh hk b hb)), q⟩
  · obtain ⟨its, rv, pl, hz⟩ := I1.tuple hq
    have hT : s1.heap.IsTuple a its.toArray := pl
    have lt : a < s1.heap.objs.size := by
      obtain ⟨o, ho, _⟩ := hT
      exact Heap.lt_size ho
    refine Shf.call_enum_tup hT fun h' he hit hsz hk => wpAny_pyIter_enum he ?_
    have I2 : Inv X pins σ H1 { s1 with heap := h' } := I1.kept (t' := s1.toks) hk
    exact ⟨s1.heap.objs.size + 1, [s1.heap.objs.size + 1, s1.heap.objs.size], _, _, H1, rfl, I2, turn_enumT a (s1.heap.objs.size + 1) s1.heap.objs.size xs (Nat.ne_of_lt lt) (Nat.ne_of_lt (Nat.lt_succ_of_lt lt)), ⟨⟨.none, he⟩, hit, Nat.succ_ne_self _⟩, fun b hb => I1.fpOk (fresh hk b hb) (I1.hok.fresh (fresh hk b hb)), q⟩
end
/-- .. in a for -/
theorem for_enumSq {K : PySem.W.Frag} {a : Addr} {xs : List V} {g : TG} {tb : TS} {D : Ends} {σ : L2.St} {H : Hp} (hS : Sq K H a xs) (Pv : Nat → L2.St → Hp → Prop) (h0 : Pv 0 σ H) (hk : ∀ i σ' H', Pv i σ' H' → Same H H')
    (hs : ∀ i x σ H T, xs[i]? = some x → Pv i σ H → H T = none → g (.ref T) σ (upd H T (.tup [.int (i : Nat), x])) fun σ2 H2 => tb { D with nx := Pv (i + 1), ct := Pv (i + 1), bk := D.nx } σ2 H2) (hd : ∀ σ H, Pv xs.length σ H → D.nx σ H) (ta : TA)
    (ht : ∀ R : List V → Hp → Prop, R [.ref a] H → ta σ H R) : tFor (iEnumSq K ta) g tb D σ H := by
  have core : ∀ (G : Hp → Prop), G H → (∀ H', Same H H' → G H → G H') → ∃ W : Nat → Nat → L2.St → Hp → Prop, (∃ m, W 0 m σ H) ∧ ∀ i m σ H, W i m σ H →
      ((G H ∧ i = xs.length) ∧ D.nx σ H) ∨ ((G H ∧ i < xs.length) ∧ ∃ N : L2.St → Hp → Prop, (∀ σ' H', N σ' H' → ∃ m', m' < m ∧ W (i + 1) m' σ' H') ∧
        ∀ v H', (∃ T x, v = .ref T ∧ H T = none ∧ H' = upd H T (.tup [.int (i : Nat), x]) ∧ xs[i]? = some x) → g v σ H' fun σ2 H2 => tb { D with nx := N, ct := N, bk := D.nx } σ2 H2) := by
    intro G hG hkeep
    refine ⟨fun i m σ H => m = xs.length - i ∧ i ≤ xs.length ∧ Pv i σ H, ⟨xs.length, rfl, Nat.zero_le _, h0⟩, ?_⟩
    rintro i m σ' H' ⟨rfl, hi, p⟩
    have gg := hkeep H' (hk i σ' H' p) hG
    by_cases hlt : i < xs.length
    · refine .inr ⟨⟨gg, hlt⟩, Pv (i + 1), fun σ2 H2 p2 => ⟨xs.length - (i + 1), by omega, rfl, hlt, p2⟩, fun v H2 y => ?_⟩
      obtain ⟨T, x, rfl, hT, rfl, hx⟩ := y
      exact hs i x σ' H' T hx p hT
    · have e : i = xs.length := by omega
      subst e
      exact .inl ⟨⟨gg, rfl⟩, hd σ' H' p⟩
  refine ht _ ⟨a, xs, rfl, ?_⟩
  rcases hS with hS | hS
  · exact .inl ⟨hS, core (fun H' => SqL K H' a xs) hS fun H' e h => e.seq h⟩
  · exact .inr ⟨hS, core (fun H' => SqT K H' a xs) hS fun H' e h => sqt_same e h⟩
/-! ### len(set(a list or a tuple of ints)) -/
theorem same_count : ∀ {ns l : List Int}, l.Nodup → (∀ k, k ∈ l ↔ k ∈ ns) → l.length ≤ ns.length ∧ (l.length = ns.length ↔ ns.Nodup)
  | [], l, _, hm => by
    have e : l = [] := List.eq_nil_iff_forall_not_mem.mpr fun k hk => nomatch (hm k).mp hk
    subst e
    exact ⟨Nat.le_refl _, ⟨fun _ => List.nodup_nil, fun _ => rfl⟩⟩
  | x :: r, l, hn, hm => by
    by_cases hx : x ∈ r
    · have hm2 : ∀ k, k ∈ l ↔ k ∈ r := fun k => (hm k).trans ⟨fun h => by
        rcases List.mem_cons.mp h with e | h
        · rw [e]; exact hx
        · exact h, fun h => List.mem_cons_of_mem _ h⟩
      obtain ⟨h1, _⟩ := same_count hn hm2
      refine ⟨Nat.le_succ_of_le h1, ⟨fun e => ?_, fun h => absurd hx (List.nodup_cons.mp h).1⟩⟩
      rw [List.length_cons] at e
      omega
    · have hxl : x ∈ l := (hm x).mpr List.mem_cons_self
      have hm2 : ∀ k, k ∈ l.erase x ↔ k ∈ r := fun k => by
        rw [hn.mem_erase_iff]
        constructor
        · rintro ⟨h1, h2⟩
          rcases List.mem_cons.mp ((hm k).mp h2) with e | h
          · exact absurd e h1
          · exact h
        · intro h
          exact ⟨fun e => hx (by rw [← e]; exact h), (hm k).mpr (List.mem_cons_of_mem _ h)⟩
      obtain ⟨h1, h2⟩ := same_count (hn.erase x) hm2
      have hl := List.length_erase_of_mem hxl
      have hp : 0 < l.length := List.length_pos_of_mem hxl
      rw [hl] at h1 h2
      rw [List.length_cons, List.nodup_cons]
      refine ⟨by omega, ⟨fun e => ⟨hx, h2.mp (by omega)⟩, fun h => ?_⟩⟩
      have z := h2.mpr h.2
      omega
theorem dedup_step (l : List Int) (x : Int) (hn : l.Nodup) : (PyProof.Rows.step_dedup l x).Nodup ∧ ∀ k, k ∈ PyProof.Rows.step_dedup l x ↔ k ∈ l ∨ k = x := by
  unfold PyProof.Rows.step_dedup
  split
  · rename_i h
    have hx : x ∈ l := by simpa using h
    exact ⟨hn, fun k => ⟨.inl, fun h => h.elim id fun e => by rw [e]; exact hx⟩⟩
  · rename_i h
    have hx : x ∉ l := by simpa using h
    refine ⟨?_, fun k => by simp⟩
    rw [List.nodup_append]
    exact ⟨hn, by simp, fun a ha b hb e => hx (by rw [List.mem_singleton] at hb; rw [← hb, ← e]; exact ha)⟩
theorem dedup_fold : ∀ (ns l : List Int), l.Nodup → (ns.foldl PyProof.Rows.step_dedup l).Nodup ∧ ∀ k, k ∈ ns.foldl PyProof.Rows.step_dedup l ↔ k ∈ l ∨ k ∈ ns
  | [], l, hn => ⟨hn, fun k => by simp⟩
  | x :: r, l, hn => by
    obtain ⟨h1, h2⟩ := dedup_step l x hn
    obtain ⟨h3, h4⟩ := dedup_fold r _ h1
    refine ⟨h3, fun k => (h4 k).trans ?_⟩
    rw [h2, List.mem_cons]
    exact or_assoc
/-- the unlike ones of a row, as first met -/
def unlikeInts (ns : List Int) : List Int := ns.foldl PyProof.Rows.step_dedup []
theorem unlike_ok (ns : List Int) : (unlikeInts ns).Nodup ∧ ∀ k, k ∈ unlikeInts ns ↔ k ∈ ns := by
  obtain ⟨h1, h2⟩ := dedup_fold ns [] List.nodup_nil
  exact ⟨h1, fun k => (h2 k).trans (by simp)⟩
theorem firstMet_all (ns : List Int) : PyProof.Rows.firstMet (fun i => ns.getD i 0) ns.length = unlikeInts ns := by
  unfold PyProof.Rows.firstMet unlikeInts
  congr 1
  refine List.ext_getElem (by simp) fun i h1 h2 => ?_
  simp [List.getD_eq_getElem?_getD, List.getElem?_eq_getElem h2]
def tLenSetSq (K : PySem.W.Frag) (ta : TE) : TE := fun σ H Q => ta σ H fun x H1 => ∃ (l : Addr) (ns : List Int), x = .ref l ∧ Sq K H1 l (ns.map V.int) ∧ ns.length ≤ 3000 ∧ ∀ m : Nat, (m = ns.length ↔ ns.Nodup) → Q (.int m) H1
theorem pe_lenSetSq {X : Cx} {a : Expr} {ta : TE} {p p2 q pos : Pos} (hg : Gl X "len") (hm : X.mg "len" = none) (hg2 : Gl X "set") (hm2 : X.mg "set" = none) (ha : PE X a ta) (hc : X.calm = true := by rfl)
    (na : starEach [a] X.env = (false, eval a X.env) :: starEach [] X.env := by rfl) : PE X (.Call (.Name "len" p) [.Call (.Name "set" p2) [a] [] q] [] pos) (tLenSetSq X.K ta) := by
  refine ⟨fun pins s σ H Q I h => Call_ (ld_blt I hg hm PySem.boot_len ?_)⟩
  refine PyProof.Rows.callWith_builtin1 (PyProof.Rows.args_cons ?_ rfl) rfl rfl
  refine Call_ (ld_blt I hg2 hm2 PyProof.Rows.boot_set ?_)
  refine PyProof.Rows.callWith_type1 (PyProof.Rows.args_cons (thn (ha.run pins s σ H _ I h) fun v s1 hh => PyProof.Rows.args_nil ?_) na) na rfl
  obtain ⟨x, H1, I1, r1, l, ns, rfl, hq, hl, q1⟩ := hh
  obtain rfl : v = Value.ref l := r1
  rcases hq with hq | hq
  · obtain ⟨ul, cnt⟩ := same_count (unlike_ok ns).1 (unlike_ok ns).2
    obtain ⟨its, r, pl, hz⟩ := I1.list hq
    have hlen : its.toArray.size = ns.length := by rw [List.size_toArray, ← r.length, List.length_map]
    refine call_set_list (I1.ok.hd hc) pl.isList (ns := ns) (by simpa using r.ints) (by rw [hlen]; unfold scanBound; omega) fun h' tk hS hk => ?_
    rw [hlen, firstMet_all] at hS
    refine PyProof.Rows.args_nil ?_
    obtain ⟨o, es, ep, t, ho, hex, hd, _, _, _, hf, hn⟩ := hS
    have I2 : Inv X pins σ H1 { s1 with heap := h', toks := tk } := I1.kept fun b o e => hk b o (Heap.lt_size e) e
    exact call_len_set ho hex hd hf (by rw [hn]; omega) ⟨.int (unlikeInts ns).length, H1, I2.tok _, ⟨_, by rw [hn]⟩, q1 _ cnt⟩
  · obtain ⟨its, r, pl, hz⟩ := I1.tuple hq
    refine call_set_tupI ns (I1.ok.hd hc) (show s1.heap.IsTuple l its.toArray from pl) (by simpa using r.ints) (by unfold scanBound; omega) fun h' tk c hS hcl hk => ?_
    refine PyProof.Rows.args_nil ?_
    obtain ⟨o, es, ep, t, ho, hex, hd, _, hnd, hmem, _, hf, hn, _⟩ := hS
    have I2 : Inv X pins σ H1 { s1 with heap := h', toks := tk } := I1.kept hk
    obtain ⟨ul, cnt⟩ := same_count (ns := ns) hnd fun k => (hmem k).symm.trans (by simp)
    have hsz : (es.toList.map keyOf).length = es.size := by simp
    rw [hsz] at cnt
    exact call_len_set ho hex hd hf (by omega) ⟨.int es.size, H1, I2.tok _, ⟨_, rfl⟩, q1 _ cnt⟩
/-! ### what a value is, by its data -/
def tyN : PyData → String
  | .none => "NoneType"
  | .bool _ => "bool"
  | .int _ => "int"
  | .str _ => "str"
  | .list _ => "list"
  | .tuple _ => "tuple"
  | .dict _ => "dict"
def dInt : PyData → Bool
  | .int _ => true
  | _ => false
def dBool : PyData → Bool
  | .bool _ => true
  | _ => false
def dSeq : PyData → Bool
  | .list _ => true
  | .tuple _ => true
  | _ => false
def dItems : PyData → List PyData
  | .list xs => xs
  | .tuple xs => xs
  | _ => []
section
variable {K : PySem.W.Frag} {H : Hp} {v : V} {d : PyData}
theorem dp_ty (h : Dp K H v d) : TyX K H v (.type (tyN d)) := by
  cases h with
  | non => exact .base .non
  | bl b => exact .base (.bl b)
  | int i => exact .base (.int i)
  | str x => exact .base (.str x)
  | lst h1 h2 =>
    rcases h1 with (h1 | ⟨o, h1⟩) | ⟨o, its, n, h1, h3, _⟩
    · exact .base (.lst h1)
    · exact .base (.frz h1)
    · exact .kList h1 h3
  | tup h1 h2 =>
    rcases h1 with (h1 | ⟨o, h1⟩) | ⟨o, its, n, h1, h3, _⟩
    · exact .base (.tup h1)
    · exact .fTuple h1
    · exact .kTuple h1 h3
def kitSq (n : String) : Option Bool := match kitB n "list" with
  | some true => some true
  | some false => (match kitB n "tuple" with
    | some true => some true
    | some false => some false
    | none => none)
  | none => none
theorem kitseq {K : PySem.W.Frag} {n : String} {v : Bool} (h : kitSq n = some v) : W.kitAny K (.type n) [.type "list", .type "tuple"] = some v := h
theorem kitseq_NoneType {K : PySem.W.Frag} : W.kitAny K (.type "NoneType") [.type "list", .type "tuple"] = some false := kitseq (by decide +kernel)
theorem kitseq_bool {K : PySem.W.Frag} : W.kitAny K (.type "bool") [.type "list", .type "tuple"] = some false := kitseq (by decide +kernel)
theorem kitseq_int {K : PySem.W.Frag} : W.kitAny K (.type "int") [.type "list", .type "tuple"] = some false := kitseq (by decide +kernel)
theorem kitseq_str {K : PySem.W.Frag} : W.kitAny K (.type "str") [.type "list", .type "tuple"] = some false := kitseq (by decide +kernel)
theorem kitseq_list {K : PySem.W.Frag} : W.kitAny K (.type "list") [.type "list", .type "tuple"] = some true := kitseq (by decide +kernel)
theorem kitseq_tuple {K : PySem.W.Frag} : W.kitAny K (.type "tuple") [.type "list", .type "tuple"] = some true := kitseq (by decide +kernel)
theorem kitseq_dict {K : PySem.W.Frag} : W.kitAny K (.type "dict") [.type "list", .type "tuple"] = some false := kitseq (by decide +kernel)
theorem isi_int {Q : VK} (h : Dp K H v d) (q : Q (.bl (dInt d || dBool d)) H) : rIsi K [v, .ty "int"] H Q := by
  refine ⟨v, .ty "int", _, _, _, rfl, .ty _, dp_ty h, kit_ty (r := dInt d || dBool d) ?_, q⟩
  cases d <;> first
    | exact (by decide +kernel : kitB "NoneType" "int" = some false)
    | exact (by decide +kernel : kitB "bool" "int" = some true)
    | exact (by decide +kernel : kitB "int" "int" = some true)
    | exact (by decide +kernel : kitB "str" "int" = some false)
    | exact (by decide +kernel : kitB "list" "int" = some false)
    | exact (by decide +kernel : kitB "tuple" "int" = some false)
    | exact (by decide +kernel : kitB "dict" "int" = some false)
theorem isi_bool {Q : VK} (h : Dp K H v d) (q : Q (.bl (dBool d)) H) : rIsi K [v, .ty "bool"] H Q := by
  refine ⟨v, .ty "bool", _, _, _, rfl, .ty _, dp_ty h, kit_ty (r := dBool d) ?_, q⟩
  cases d <;> first
    | exact (by decide +kernel : kitB "NoneType" "bool" = some false)
    | exact (by decide +kernel : kitB "bool" "bool" = some true)
    | exact (by decide +kernel : kitB "int" "bool" = some false)
    | exact (by decide +kernel : kitB "str" "bool" = some false)
    | exact (by decide +kernel : kitB "list" "bool" = some false)
    | exact (by decide +kernel : kitB "tuple" "bool" = some false)
    | exact (by decide +kernel : kitB "dict" "bool" = some false)
theorem isi_seq {Q : VK} {tp : Addr} (h : Dp K H v d) (ht : H tp = some (.tup [.ty "list", .ty "tuple"])) (q : Q (.bl (dSeq d)) H) : rIsiT K [v, .ref tp] H Q := by
  refine ⟨v, tp, _, _, _, dSeq d, rfl, ht, .cons (.ty _) (.cons (.ty _) .nil), dp_ty h, ?_, q⟩
  cases d <;> first
    | exact kitseq_NoneType
    | exact kitseq_bool
    | exact kitseq_int
    | exact kitseq_str
    | exact kitseq_list
    | exact kitseq_tuple
    | exact kitseq_dict
theorem dp_seq (h : Dp K H v d) (hs : dSeq d = true) : ∃ a xs, v = .ref a ∧ Sq K H a xs ∧ DpAll K H xs (dItems d) := by
  cases h with
  | lst h1 h2 => exact ⟨_, _, rfl, .inl h1, h2⟩
  | tup h1 h2 => exact ⟨_, _, rfl, .inr h1, h2⟩
  | _ => cases hs
theorem DpAll.len : ∀ {vs : List V} {ds : List PyData}, DpAll K H vs ds → vs.length = ds.length
  | _, _, .nil => rfl
  | _, _, .cons _ t => by rw [List.length_cons, List.length_cons, DpAll.len t]
theorem DpAll.at : ∀ {vs : List V} {ds : List PyData} {i : Nat} {v : V}, DpAll K H vs ds → vs[i]? = some v → ∃ d, ds[i]? = some d ∧ Dp K H v d
  | _, _, 0, _, .cons h _, e => by
    cases e
    exact ⟨_, rfl, h⟩
  | _, _, i + 1, _, .cons _ t, e => DpAll.at (i := i) t e
  | _, _, _, _, .nil, e => by simp at e
end
mutual
theorem dp_same {K : PySem.W.Frag} {H H' : Hp} (e : Same H H') : ∀ (d : PyData) (v : V), Dp K H v d → Dp K H' v d
  | .none, _, h => by cases h; exact .non
  | .bool b, _, h => by cases h; exact .bl b
  | .int i, _, h => by cases h; exact .int i
  | .str x, _, h => by cases h; exact .str x
  | .list ds, _, h => by
    cases h with
    | lst h1 h2 => exact .lst (e.seq h1) (dpAll_same e ds _ h2)
  | .tuple ds, _, h => by
    cases h with
    | tup h1 h2 => exact .tup (sqt_same e h1) (dpAll_same e ds _ h2)
  | .dict _, _, h => by cases h
theorem dpAll_same {K : PySem.W.Frag} {H H' : Hp} (e : Same H H') : ∀ (ds : List PyData) (vs : List V), DpAll K H vs ds → DpAll K H' vs ds
  | [], _, h => by cases h; exact .nil
  | d :: ds, _, h => by
    cases h with
    | cons h1 h2 => exact .cons (dp_same e d _ h1) (dpAll_same e ds _ h2)
end
end L2


namespace L2
open PySem PySem.Spec PyProof.Rows
/-! ### comprehensions: the new list apart from all else -/
/-- the heap is a core with the new list at D -/
def LcN (R : Nat → List V → Hp → Prop) (D : Addr) (i : Nat) : Hp → Prop := fun H => ∃ acc G, G D = none ∧ R i acc G ∧ H = upd G D (.lst acc)
theorem lc_put {R : Nat → List V → Hp → Prop} {D : Addr} {i : Nat} {acc : List V} {G : Hp} {y : V} (hG : G D = none) (hl : acc.length < sizeLine) (h : R i (acc ++ [y]) G) :
    ∃ acc', (upd G D (.lst acc)) D = some (.lst acc') ∧ acc'.length < sizeLine ∧ LcN R D i (upd (upd G D (.lst acc)) D (.lst (acc' ++ [y]))) :=
  ⟨acc, upd_same, hl, acc ++ [y], G, hG, h, upd_upd⟩
theorem core_of {G H4 : Hp} {D : Addr} {o : HO} (h : Same (upd G D o) H4) (hG : G D = none) : ∃ G2, G2 D = none ∧ Same G G2 ∧ H4 = upd G2 D o := by
  refine ⟨fun b => if b = D then none else H4 b, if_pos rfl, fun b x e => ?_, ?_⟩
  · have n : b ≠ D := fun z => by rw [z, hG] at e; cases e
    show (if b = D then none else H4 b) = some x
    rw [if_neg n]
    exact h b x (by rw [upd_ne n]; exact e)
  · funext b
    by_cases z : b = D
    · subst z
      rw [upd_same]
      exact h b o upd_same
    · rw [upd_ne z]
      exact (if_neg z).symm
theorem core_at {G G2 : Hp} {D q : Addr} {o o1 o2 : HO} (hG : G D = none) (hq : (upd G D o) q = none) (e : upd (upd G D o) q o1 = upd G2 D o2) : G2 q = some o1 := by
  have n : q ≠ D := fun z => by rw [z, upd_same] at hq; cases hq
  have z := congrFun e q
  rw [upd_same, upd_ne n] at z
  exact z.symm
theorem sqt_core {K : PySem.W.Frag} {G : Hp} {D p : Addr} {acc xs : List V} (h : SqT K (upd G D (.lst acc)) p xs) : SqT K G p xs := by
  by_cases e : p = D
  · subst e
    rcases h with (h | ⟨o, h⟩) | h
    · rw [upd_same] at h
      cases h
    · rw [upd_same] at h
      cases h
    · exact .inr h
  · rcases h with (h | ⟨o, h⟩) | h
    · rw [upd_ne e] at h
      exact .inl (.inl h)
    · rw [upd_ne e] at h
      exact .inl (.inr ⟨o, h⟩)
    · exact .inr h
theorem same_upd {G : Hp} {D : Addr} {o : HO} (hG : G D = none) : Same G (upd G D o) := same_new hG
theorem Same.rfl' {H : Hp} : Same H H := fun _ _ e => e
theorem Same.tr {H H1 H2 : Hp} (a : Same H H1) (b : Same H1 H2) : Same H H2 := fun c o e => b c o (a c o e)
theorem lc_w {J : It} {n : Nat} {Gd : Hp → Prop} {Y : Nat → Hp → V → Hp → Prop} (w : Walk J n Gd Y) {g : TG} {tt : TT} {te : TE} {vs : List Nat} {σ : L2.St} {H : Hp} {D : Addr} {Qd : Hp → Prop} (R : Nat → List V → Hp → Prop)
    (hD : H D = none) (h0 : R 0 [] H) (hG : ∀ i acc G, i ≤ n → G D = none → R i acc G → Gd (upd G D (.lst acc)))
    (hs : ∀ i x acc G H', i < n → G D = none → R i acc G → Y i (upd G D (.lst acc)) x H' → g x (wipe σ vs) H' fun σ2 H2 => wipe σ2 vs = wipe σ vs ∧ tt σ2 H2 fun b H3 =>
      if b = true then te σ2 H3 fun y H4 => ∃ acc, H4 D = some (.lst acc) ∧ acc.length < sizeLine ∧ LcN R D (i + 1) (upd H4 D (.lst (acc ++ [y]))) else LcN R D (i + 1) H3)
    (hd : ∀ acc G, G D = none → R n acc G → Qd (upd G D (.lst acc))) :
    ∃ W : Nat → Nat → Hp → Prop, (∃ m, W 0 m (upd H D (.lst []))) ∧ ∀ i m H, W i m H →
      (J.stop i H ∧ Qd H) ∨ (J.go i H ∧ ∃ Nx : Hp → Prop, (∀ H', Nx H' → ∃ m', m' < m ∧ W (i + 1) m' H') ∧ ∀ x H', J.yld i H x H' → g x (wipe σ vs) H' fun σ2 H2 => wipe σ2 vs = wipe σ vs ∧ tt σ2 H2 fun b H3 =>
        if b = true then te σ2 H3 fun y H4 => ∃ acc, H4 D = some (.lst acc) ∧ acc.length < sizeLine ∧ Nx (upd H4 D (.lst (acc ++ [y]))) else Nx H3) := by
  refine lc_it w (Pv := LcN R D) ⟨[], H, hD, h0, rfl⟩ (fun i H1 hi h => ?_) (fun i x H1 H' hi h y => ?_) (fun H1 h => ?_)
  · obtain ⟨acc, G, hG1, r, rfl⟩ := h
    exact hG i acc G hi hG1 r
  · obtain ⟨acc, G, hG1, r, rfl⟩ := h
    exact hs i x acc G H' hi hG1 r y
  · obtain ⟨acc, G, hG1, r, rfl⟩ := h
    exact hd acc G hG1 r
theorem walk_sqL {K : PySem.W.Frag} {a : Addr} {xs : List V} : Walk ⟨fun i H => SqL K H a xs ∧ i < xs.length, fun i H x H' => H' = H ∧ xs[i]? = some x, fun i H => SqL K H a xs ∧ xs.length ≤ i⟩ xs.length (fun H => SqL K H a xs) (YAt xs) :=
  ⟨fun _ _ hi q => ⟨q, hi⟩, fun _ q => ⟨q, Nat.le_refl _⟩, fun _ _ _ _ _ _ y => y⟩
theorem walk_sqT {K : PySem.W.Frag} {a : Addr} {xs : List V} : Walk ⟨fun i H => SqT K H a xs ∧ i < xs.length, fun i H x H' => H' = H ∧ xs[i]? = some x, fun i H => SqT K H a xs ∧ xs.length ≤ i⟩ xs.length (fun H => SqT K H a xs) (YAt xs) :=
  ⟨fun _ _ hi q => ⟨q, hi⟩, fun _ q => ⟨q, Nat.le_refl _⟩, fun _ _ _ _ _ _ y => y⟩
/-! ### readings opened one step -/
section
variable {K : PySem.W.Frag} {σ : L2.St} {H : Hp} {Q : VK} {D : Ends} {te ta tb tc : TE} {r : List V → Hp → VK → Prop} {sp : Sp} {E : XK} {op : R2} {g : TG} {tt : TT}
theorem t_ret (h : te σ H D.rt) : tRet te D σ H := h
theorem t_next {nx : L2.St → Hp → Prop} {rt : VK} {bk ct : L2.St → Hp → Prop} (h : nx σ H) : tNext ⟨nx, rt, bk, ct⟩ σ H := h
theorem t_seq {A B : TS} (h : A { D with nx := B D } σ H) : tSeq A B D σ H := h
theorem t_yes {Q : Bool → Hp → Prop} (h : Q true H) : tYes σ H Q := h
theorem t_drop (h : te σ H fun _ H1 => D.nx σ H1) : tDrop te D σ H := h
theorem t_and (h : ta σ H fun x H1 => ∃ c, x = .bl c ∧ if c = true then tb σ H1 Q else Q (.bl false) H1) : tAndV ta tb σ H Q := h
theorem t_or (h : ta σ H fun x H1 => ∃ c, x = .bl c ∧ if c = true then Q (.bl true) H1 else tb σ H1 Q) : tOrV ta tb σ H Q := h
theorem t_cb1 (h : te σ H fun x H1 => r [x] H1 Q) : tCB r (tCons te tNil) σ H Q := h
theorem t_cb2 (h : ta σ H fun x H1 => tb σ H1 fun y H2 => r [x, y] H2 Q) : tCB r (tCons ta (tCons tb tNil)) σ H Q := h
theorem t_call1 (h : te σ H fun x H1 => sp [x] H1 Q E) : tCall sp [] E (tCons te tNil) σ H Q := h
theorem t_call2 (h : ta σ H fun x H1 => tb σ H1 fun y H2 => sp [x, y] H2 Q E) : tCall sp [] E (tCons ta (tCons tb tNil)) σ H Q := h
theorem t_tup2 (h : ta σ H fun x H1 => tb σ H1 fun y H2 => 2 ≤ sizeLine ∧ ∀ p, H2 p = none → Q (.ref p) (upd H2 p (.tup [x, y]))) : tTup (tCons ta (tCons tb tNil)) σ H Q := h
theorem t_var {i : Nat} {v : V} (hv : σ[i]? = some (some v)) (h : Q v H) : tVar i σ H Q := ⟨v, hv, h⟩
theorem t_op (h : ta σ H fun x H1 => tb σ H1 fun y H2 => op x y H2 Q) : tOp op ta tb σ H Q := h
theorem t_asg (h : te σ H fun v H1 => g v σ H1 fun σ2 H2 => D.nx σ2 H2) : tAsg te g D σ H := h
theorem t_thn {k : V → Hp → VK → Prop} (h : te σ H fun x H1 => k x H1 Q) : tThen te k σ H Q := h
theorem t_isi {c : V} {i : Nat} {v : V} (hv : σ[i]? = some (some v)) (h : rIsi K [v, c] H Q) : tCB (rIsi K) (tCons (tVar i) (tCons (tC c) tNil)) σ H Q := ⟨v, hv, h⟩
end
/-- [.. for x in a list or a tuple] -/
theorem lc_sq {K : PySem.W.Frag} {a : Addr} {xs : List V} {g : TG} {tt : TT} {te : TE} {vs : List Nat} {σ : L2.St} {H : Hp} {Q : VK} (hS : Sq K H a xs) (R : Nat → List V → Hp → Prop) (h0 : R 0 [] H) (hR : ∀ i acc G, R i acc G → Same H G)
    (hs : ∀ i x acc G D, xs[i]? = some x → G D = none → R i acc G → g x (wipe σ vs) (upd G D (.lst acc)) fun σ2 H2 => wipe σ2 vs = wipe σ vs ∧ tt σ2 H2 fun b H3 =>
      if b = true then te σ2 H3 fun y H4 => ∃ acc, H4 D = some (.lst acc) ∧ acc.length < sizeLine ∧ LcN R D (i + 1) (upd H4 D (.lst (acc ++ [y]))) else LcN R D (i + 1) H3)
    (hd : ∀ D acc G, G D = none → R xs.length acc G → Q (.ref D) (upd G D (.lst acc))) (tl : TE) (ht : ∀ R' : V → Hp → Prop, R' (.ref a) H → tl σ H R') : tLc (iSqW K tl) g tt te vs σ H Q := by
  refine ht _ ⟨a, xs, rfl, ?_⟩
  rcases hS with hS | hS
  · refine .inl ⟨hS, fun D hD => lc_w walk_sqL R hD h0 (fun i acc G _ hG r => (same_upd hG).seq ((hR i acc G r).seq hS)) (fun i x acc G H' hi hG r y => ?_) (fun acc G hG r => hd D acc G hG r)⟩
    obtain ⟨rfl, hx⟩ := y
    exact hs i x acc G D hx hG r
  · refine .inr ⟨hS, fun D hD => lc_w walk_sqT R hD h0 (fun i acc G _ hG r => sqt_same (same_upd hG) (sqt_same (hR i acc G r) hS)) (fun i x acc G H' hi hG r y => ?_) (fun acc G hG r => hd D acc G hG r)⟩
    obtain ⟨rfl, hx⟩ := y
    exact hs i x acc G D hx hG r
/-- [.. for x in range(n)] -/
theorem lc_rg {lo : Int} {n : Nat} {g : TG} {tt : TT} {te : TE} {vs : List Nat} {σ : L2.St} {H : Hp} {D : Addr} {Qd : Hp → Prop} (R : Nat → List V → Hp → Prop) (hD : H D = none) (h0 : R 0 [] H)
    (hs : ∀ i acc G, i < n → G D = none → R i acc G → g (.int (lo + i)) (wipe σ vs) (upd G D (.lst acc)) fun σ2 H2 => wipe σ2 vs = wipe σ vs ∧ tt σ2 H2 fun b H3 =>
      if b = true then te σ2 H3 fun y H4 => ∃ acc, H4 D = some (.lst acc) ∧ acc.length < sizeLine ∧ LcN R D (i + 1) (upd H4 D (.lst (acc ++ [y]))) else LcN R D (i + 1) H3)
    (hd : ∀ acc G, G D = none → R n acc G → Qd (upd G D (.lst acc))) :
    ∃ W : Nat → Nat → Hp → Prop, (∃ m, W 0 m (upd H D (.lst []))) ∧ ∀ i m H, W i m H →
      ((Itr lo n).stop i H ∧ Qd H) ∨ ((Itr lo n).go i H ∧ ∃ Nx : Hp → Prop, (∀ H', Nx H' → ∃ m', m' < m ∧ W (i + 1) m' H') ∧ ∀ x H', (Itr lo n).yld i H x H' → g x (wipe σ vs) H' fun σ2 H2 => wipe σ2 vs = wipe σ vs ∧ tt σ2 H2 fun b H3 =>
        if b = true then te σ2 H3 fun y H4 => ∃ acc, H4 D = some (.lst acc) ∧ acc.length < sizeLine ∧ Nx (upd H4 D (.lst (acc ++ [y]))) else Nx H3) := by
  refine lc_w walk_range R hD h0 (fun _ _ _ _ _ _ => trivial) (fun i x acc G H' hi hG r y => ?_) hd
  obtain ⟨rfl, rfl⟩ := y
  exact hs i acc G hi hG r
end L2
namespace Shf
open PySem PySem.Spec PyProof.Rows L2
/-! ### a def of the text with its promise -/
structure Fk (P : Program) (w : World) (K : PySem.W.Frag) (mg : PySem.Str → Option Value) (base : Heap) (k : Nat) (x : PySem.Str) (ps : List PySem.Str) (sp : Sp) : Prop where
  ex : ∃ fd, FnOk P w K mg base (L2.CX P w) k (ea K x) fd ps sp ∧ Binds K fd ps [] ∧ ∃ oc od osl, K.lookup (ea K x) = some ⟨oc, od, .func fd, osl⟩
  g : mg x = some (.ref (ea K x))
  kp : PySem.W.keepIn K (.ref (ea K x)) = true
section
variable {P : Program} {w : World} {K : PySem.W.Frag} {mg : PySem.Str → Option Value} {base : Heap} {k j : Nat} {x : PySem.Str} {ps : List PySem.Str} {sp sp' : Sp}
theorem Fk.mono (c : Fk P w K mg base k x ps sp) (h : k ≤ j) : Fk P w K mg base j x ps sp := by
  obtain ⟨fd, F, b, lk⟩ := c.ex
  exact ⟨⟨fd, F.mono h, b, lk⟩, c.g, c.kp⟩
theorem Fk.imp (c : Fk P w K mg base k x ps sp) (h : ∀ vs H Q E, sp' vs H Q E → sp vs H Q E) : Fk P w K mg base k x ps sp' := by
  obtain ⟨fd, F, b, lk⟩ := c.ex
  exact ⟨⟨fd, ⟨fun vs H Q E z => F.len vs H Q E (h _ _ _ _ z), fun A outer s H args us vs Q E hr e0 hb r z => F.run A outer s H args us vs Q E hr e0 hb r (h _ _ _ _ z)⟩, b, lk⟩, c.g, c.kp⟩
theorem Fk.of {st : Stmt} {fd : FuncData} (h : Has K mg x st fd) (F : FnOk P w K mg base (L2.CX P w) k (ea K x) fd ps sp) (b : Binds K fd ps []) : Fk P w K mg base k x ps sp := by
  refine ⟨⟨fd, F, b, ?_⟩, h.g, h.F.kp⟩
  obtain ⟨oc, od, dV, kV, doc, pm, an, cdv, ct, osl, rfl, lk, hcd, _, _⟩ := h.F.ex
  exact ⟨_, _, _, lk⟩
end
section
variable {X : Cx} {k j : Nat} {x : PySem.Str} {ps : List PySem.Str} {sp : Sp} {e : Expr} {es : List Expr} {t : TA} {p pos : Pos} {E : XK}
theorem pe_f (c : Fk X.prog X.w X.K X.mg X.base k x ps sp) (hr : Room j X.A) (hk : k ≤ j) (hg : Gl X x) (hx : Passes (L2.CX X.prog X.w) X E) (ha : PA X (e :: es) t)
    (hdb : (x == ("__debug__" : PySem.Str)) = false := by decide) (he : starEach (e :: es) X.env = (false, eval e X.env) :: starEach es X.env := by rfl) (hpl : (backTo pos (starEach es X.env)).any (·.1) = false := by rfl) :
    PE X (.Call (.Name x p) (e :: es) [] pos) (tCall sp [] E t) := by
  obtain ⟨fd, F, b, lk⟩ := c.ex
  exact pe_call F (hr.mono hk) hg c.g c.kp b .nil hx ha hdb he hpl
theorem pe_fS {E : L2.St → XK} (c : Fk X.prog X.w X.K X.mg X.base k x ps sp) (hr : Room j X.A) (hk : k ≤ j) (hg : Gl X x) (hx : ∀ σ, PassesAt (L2.CX X.prog X.w) X σ (E σ)) (ha : PA X (e :: es) t)
    (hdb : (x == ("__debug__" : PySem.Str)) = false := by decide) (he : starEach (e :: es) X.env = (false, eval e X.env) :: starEach es X.env := by rfl) (hpl : (backTo pos (starEach es X.env)).any (·.1) = false := by rfl) :
    PE X (.Call (.Name x p) (e :: es) [] pos) (tCallS sp E t) := by
  obtain ⟨fd, F, b, lk⟩ := c.ex
  exact pe_callS F (hr.mono hk) hg c.g c.kp b hx ha hdb he hpl
end
theorem two_le : 2 ≤ sizeLine := by rw [sizeLine_eq]; decide
/-! ### what is wished for when an error is raised -/
/-- C(v) with .at -/
def wAt (K : PySem.W.Frag) (x : PySem.Str) (v : V) (H : Hp) (E : XK) : Prop := ∀ H' d, Same H H' → H' d = some (.xd [(("at" : PySem.Str), v)]) → E (.ref (ea K x)) (some d) H'
def wWord (K : PySem.W.Frag) (x : PySem.Str) (v : V) (H : Hp) (E : XK) : Prop := ∀ H' d, Same H H' → H' d = some (.xd [(("word" : PySem.Str), v)]) → E (.ref (ea K x)) (some d) H'
/-! ### looks at data -/
def dIn (lo hi : Int) : PyData → Bool
  | .int i => decide (lo ≤ i) && decide (i ≤ hi)
  | _ => false
def dInt1 : PyData → Bool
  | .int _ => true
  | _ => false
def spB (K : PySem.W.Frag) (f : PyData → Bool) : Sp := fun vs H Q _ => ∃ v d, vs = [v] ∧ Dp K H v d ∧ Q (.bl (f d)) H
def spBS (K : PySem.W.Frag) (f : PyData → Bool) : Sp := fun vs H Q _ => ∃ v d, vs = [v] ∧ Dp K H v d ∧ ∀ H', Same H H' → Q (.bl (f d)) H'
def spWithin (K : PySem.W.Frag) : Sp := fun vs H Q _ => ∃ v d lo hi, vs = [v, .int lo, .int hi] ∧ Dp K H v d ∧ Q (.bl (dIn lo hi d)) H
def spBelow (K : PySem.W.Frag) : Sp := fun vs H Q _ => ∃ v d hi, vs = [v, .int hi] ∧ Dp K H v d ∧ Q (.bl (dIn 0 (hi - 1) d)) H
def dPair (d : PyData) : Bool := dSeq d && decide ((dItems d).length = 2)
def dInts : List PyData → List Int
  | [] => []
  | .int i :: r => i :: dInts r
  | _ :: r => 0 :: dInts r
/-- unlike numbers below m -/
def dRow (m : Int) (d : PyData) : Bool := dSeq d && ((dItems d).all (dIn 0 (m - 1)) && decide ((dInts (dItems d)).Nodup))
def spRow (K : PySem.W.Frag) : Sp := fun vs H Q _ => ∃ v d m, vs = [v, .int m] ∧ Dp K H v d ∧ (dItems d).length ≤ 3000 ∧ ∀ H', Same H H' → Q (.bl (dRow m d)) H'
theorem ints_of {K : PySem.W.Frag} {H : Hp} {lo hi : Int} : ∀ {ds : List PyData} {vs : List V}, DpAll K H vs ds → ds.all (dIn lo hi) = true → vs = (dInts ds).map V.int ∧ (∀ i ∈ dInts ds, lo ≤ i ∧ i ≤ hi) ∧ ds = (dInts ds).map PyData.int
  | [], _, .nil, _ => ⟨rfl, fun _ h => (by cases h), rfl⟩
  | d :: ds, _, .cons h t, e => by
    rw [List.all_cons, Bool.and_eq_true] at e
    obtain ⟨e1, e2⟩ := e
    obtain ⟨r1, r2, r3⟩ := ints_of t e2
    cases h with
    | int i =>
      have z : (decide (lo ≤ i) && decide (i ≤ hi)) = true := e1
      rw [Bool.and_eq_true, decide_eq_true_eq, decide_eq_true_eq] at z
      refine ⟨?_, fun k hk => ?_, ?_⟩
      · show _ = V.int i :: (dInts ds).map V.int
        rw [r1]
      · rcases List.mem_cons.mp (show k ∈ i :: dInts ds from hk) with rfl | hk
        · exact z
        · exact r2 k hk
      · show PyData.int i :: ds = PyData.int i :: (dInts ds).map PyData.int
        rw [← r3]
    | _ => cases e1
theorem dInts_len : ∀ ds : List PyData, (dInts ds).length = ds.length
  | [] => rfl
  | .int _ :: r => congrArg (· + 1) (dInts_len r)
  | .none :: r => congrArg (· + 1) (dInts_len r)
  | .bool _ :: r => congrArg (· + 1) (dInts_len r)
  | .str _ :: r => congrArg (· + 1) (dInts_len r)
  | .list _ :: r => congrArg (· + 1) (dInts_len r)
  | .tuple _ :: r => congrArg (· + 1) (dInts_len r)
  | .dict _ :: r => congrArg (· + 1) (dInts_len r)
end Shf


namespace Shf
open PySem PySem.Spec PyProof.Rows L2
/-! ### data of small lists, laid as it is -/
mutual
def dLens : PyData → Bool
  | .list xs => decide (xs.length ≤ 3000) && dLensAll xs
  | .tuple xs => decide (xs.length ≤ 3000) && dLensAll xs
  | _ => true
def dLensAll : List PyData → Bool
  | [] => true
  | x :: r => dLens x && dLensAll r
end
def dOk (d : PyData) : Prop := SeqAt.shaped d = true ∧ dLens d = true
theorem dLensAll_mem : ∀ {ds : List PyData}, dLensAll ds = true → ∀ d ∈ ds, dLens d = true
  | x :: r, h, d, hd => by
    have z := h
    rw [dLensAll, Bool.and_eq_true] at z
    rcases List.mem_cons.mp hd with rfl | hd
    · exact z.1
    · exact dLensAll_mem z.2 d hd
theorem canLayAll_mem : ∀ {ds : List PyData}, PyData.canLayAll0 ds = true → ∀ d ∈ ds, PyData.canLay0 d = true
  | x :: r, h, d, hd => by
    rw [PyData.canLayAll0, Bool.and_eq_true] at h
    rcases List.mem_cons.mp hd with rfl | hd
    · exact h.1
    · exact canLayAll_mem h.2 d hd
theorem depthAll_mem : ∀ {ds : List PyData}, ∀ d ∈ ds, PyData.depth d ≤ PyData.depthAll ds
  | x :: r, d, hd => by
    rw [PyData.depthAll]
    rcases List.mem_cons.mp hd with rfl | hd
    · exact Nat.le_max_left _ _
    · exact Nat.le_trans (depthAll_mem d hd) (Nat.le_max_right _ _)
theorem dOk.item {d z : PyData} (h : dOk d) (hz : z ∈ dItems d) : dOk z := by
  obtain ⟨h1, h2⟩ := h
  unfold SeqAt.shaped at h1
  rw [Bool.and_eq_true, decide_eq_true_eq] at h1
  cases d with
  | list xs =>
    rw [PyData.canLay0, PyData.depth] at h1
    obtain ⟨a1, a2⟩ := h1
    rw [dLens, Bool.and_eq_true] at h2
    have a3 := h2
    have a4 := depthAll_mem z (show z ∈ xs from hz)
    refine ⟨?_, dLensAll_mem a3.2 z hz⟩
    unfold SeqAt.shaped
    rw [canLayAll_mem a1 z hz, Bool.true_and, decide_eq_true_eq]
    omega
  | tuple xs =>
    rw [PyData.canLay0, PyData.depth] at h1
    obtain ⟨a1, a2⟩ := h1
    rw [dLens, Bool.and_eq_true] at h2
    have a3 := h2
    have a4 := depthAll_mem z (show z ∈ xs from hz)
    refine ⟨?_, dLensAll_mem a3.2 z hz⟩
    unfold SeqAt.shaped
    rw [canLayAll_mem a1 z hz, Bool.true_and, decide_eq_true_eq]
    omega
  | _ => cases hz
theorem dOk.len {d : PyData} (h : dOk d) : (dItems d).length ≤ 3000 := by
  obtain ⟨_, h2⟩ := h
  cases d with
  | list xs =>
    rw [dLens, Bool.and_eq_true, decide_eq_true_eq] at h2
    exact h2.1
  | tuple xs =>
    rw [dLens, Bool.and_eq_true, decide_eq_true_eq] at h2
    exact h2.1
  | _ => exact Nat.zero_le _
def dStr (x : PySem.Str) : PyData → Bool
  | .str y => y == x
  | _ => false
theorem eqv_str (d : PyData) (x : PySem.Str) : PyData.eqv d (.str x) = dStr x d := by
  cases d <;> simp [PyData.eqv, dStr]
theorem pair_of {K : PySem.W.Frag} {H : Hp} {v : V} {d : PyData} (hd : Dp K H v d) (hp : dPair d = true) :
    ∃ a x y dx dy, v = .ref a ∧ Sq K H a [x, y] ∧ dItems d = [dx, dy] ∧ Dp K H x dx ∧ Dp K H y dy := by
  unfold dPair at hp
  rw [Bool.and_eq_true, decide_eq_true_eq] at hp
  obtain ⟨a, xs, rfl, hS, hA⟩ := dp_seq hd hp.1
  have hl := hp.2
  generalize dItems d = ds at hl hA
  cases hA with
  | nil => exact absurd hl (by decide)
  | cons h1 t =>
    cases t with
    | nil => exact absurd hl (show ¬ (1 : Nat) = 2 by decide)
    | cons h2 t2 =>
      cases t2 with
      | nil => exact ⟨a, _, _, _, _, rfl, hS, rfl, h1, h2⟩
      | cons h3 t3 =>
        rw [List.length_cons, List.length_cons, List.length_cons] at hl
        omega
theorem ix_sq {K : PySem.W.Frag} {H : Hp} {a : Addr} {xs : List V} {j : Nat} {v : V} {Q : VK} (hS : Sq K H a xs) (hj : xs[j]? = some v) (q : Q v H) : rIx K (.ref a) (.int (j : Nat)) H Q := by
  rcases hS with hS | hS
  · exact .inl ⟨a, xs, j, v, rfl, rfl, hS, atI_nat hj, q⟩
  · exact .inr (.inl ⟨a, xs, j, v, rfl, rfl, hS, atI_nat hj, q⟩)
/-! ### shelves -/
/-- a chain of m cells -/
def dChain (m : Int) (d : PyData) : Bool := dPair d && (dRow m ((dItems d).getD 1 .none) && ((dStr "list" ((dItems d).getD 0 .none) && decide (1 ≤ (dItems ((dItems d).getD 1 .none)).length)) || (dStr "ring" ((dItems d).getD 0 .none) && decide (3 ≤ (dItems ((dItems d).getD 1 .none)).length))))
def spChain (K : PySem.W.Frag) : Sp := fun vs H Q _ => ∃ v d m, vs = [.int m, v] ∧ Dp K H v d ∧ dOk d ∧ ∀ H', Same H H' → Q (.bl (dChain m d)) H'
def spNeedSize (K : PySem.W.Frag) : Sp := fun vs H Q E => ∃ v d lo hi wd, vs = [v, .int lo, .int hi, wd] ∧ Dp K H v d ∧ (dIn lo hi d = true → Q v H) ∧ (dIn lo hi d = false → wWord K "InvalidSize" wd H E)
theorem dAll_snoc {K : PySem.W.Frag} {H : Hp} {y : V} {d : PyData} (hy : Dp K H y d) : ∀ {xs : List V} {ds : List PyData}, DpAll K H xs ds → DpAll K H (xs ++ [y]) (ds ++ [d])
  | _, _, .nil => .cons hy .nil
  | _, _, .cons h t => .cons h (dAll_snoc hy t)
theorem dAll_ints {K : PySem.W.Frag} {H : Hp} : ∀ ns : List Int, DpAll K H (ns.map V.int) (ns.map PyData.int)
  | [] => .nil
  | i :: r => .cons (.int i) (dAll_ints r)
theorem kTup_sq {K : PySem.W.Frag} {H : Hp} {a : Addr} {xs : List V} {Q : VK} (hS : Sq K H a xs) (h : ∀ p H', Same H H' → SqT K H' p xs → Q (.ref p) H') : kTup K (.ref a) H Q := by
  rcases hS with hS | hS
  · exact .inl ⟨a, xs, rfl, hS, fun q hq => h q _ (same_new hq) (.inl (.inl upd_same))⟩
  · exact .inr ⟨a, xs, rfl, hS, h a H Same.rfl' hS⟩
def dNum : PyData → Int
  | .int i => i
  | _ => 0
abbrev d0 (d : PyData) : PyData := (dItems d).getD 0 .none
abbrev d1 (d : PyData) : PyData := (dItems d).getD 1 .none
abbrev Chain := Bool × List Int
def chOf (d : PyData) : Chain := (dStr "ring" (d0 d), dInts (dItems (d1 d)))
def chD (c : Chain) : PyData := .tuple [.str (if c.1 = true then "ring" else "list"), .tuple (c.2.map PyData.int)]
def shD (n : Int) (cs : List Chain) : PyData := .tuple [.int n, .tuple (cs.map chD)]
/-- cells and some chains, however they are -/
def shHead (d : PyData) : Bool := dPair d && (dIn 1 200 (d0 d) && dSeq (d1 d))
/-- the first place, from the i-th on, of a chain that is none -/
def badFrom (m : Int) (i : Nat) : List PyData → Option Nat
  | [] => none
  | c :: r => if (decide (i = 200) || !dChain m c) = true then some i else badFrom m (i + 1) r
theorem bad_none {m : Int} : ∀ {cs : List PyData} {i : Nat}, badFrom m i cs = none → ∀ c ∈ cs, dChain m c = true
  | c :: r, i, h, z, hz => by
    unfold badFrom at h
    by_cases e : (decide (i = 200) || !dChain m c) = true
    · rw [if_pos e] at h
      cases h
    · rw [if_neg e] at h
      rcases List.mem_cons.mp hz with rfl | hz
      · cases q : dChain m z with
        | true => rfl
        | false =>
          rw [q] at e
          exact absurd (by simp) e
      · exact bad_none h z hz
/-- going on: the first i are chains -/
theorem bad_step {m : Int} {cs : List PyData} {c : PyData} : ∀ {i j : Nat}, cs[i]? = some c → (∀ k, k < i → ∀ z, cs[k]? = some z → (decide (j + k = 200) || !dChain m z) = false) →
    (decide (j + i = 200) || !dChain m c) = true → badFrom m j cs = some (j + i) := by
  induction cs with
  | nil =>
    intro i j h
    simp at h
  | cons d r ih =>
    intro i j h hk hb
    unfold badFrom
    cases i with
    | zero =>
      simp at h
      subst h
      rw [Nat.add_zero] at hb
      rw [if_pos hb]
      rfl
    | succ i =>
      have e := hk 0 (Nat.succ_pos _) d rfl
      rw [if_neg (by rw [Nat.add_zero] at e; rw [e]; exact Bool.false_ne_true)]
      have q := ih (i := i) (j := j + 1) h (fun k hk2 z hz => by
        have y := hk (k + 1) (by omega) z hz
        rw [show j + 1 + k = j + (k + 1) by omega]
        exact y) (by rw [show j + 1 + i = j + (i + 1) by omega]; exact hb)
      rw [q]
      congr 1
      omega
theorem bad_done {m : Int} {cs : List PyData} : ∀ {j : Nat}, (∀ k, k < cs.length → ∀ z, cs[k]? = some z → (decide (j + k = 200) || !dChain m z) = false) → badFrom m j cs = none := by
  induction cs with
  | nil =>
    intro j _
    rfl
  | cons d r ih =>
    intro j hk
    unfold badFrom
    have e := hk 0 (Nat.succ_pos _) d rfl
    rw [if_neg (by rw [Nat.add_zero] at e; rw [e]; exact Bool.false_ne_true)]
    refine ih fun k hk2 z hz => ?_
    have y := hk (k + 1) (by simpa using hk2) z hz
    rw [show j + 1 + k = j + (k + 1) by omega]
    exact y
def spNeedShelf (K : PySem.W.Frag) : Sp := fun vs H Q E => ∃ v d, vs = [v] ∧ Dp K H v d ∧ dOk d ∧ (shHead d = false → wAt K "InvalidShelf" (.int (-1)) H E) ∧
  (shHead d = true → (∀ i : Nat, badFrom (dNum (d0 d)) 0 (dItems (d1 d)) = some i → wAt K "InvalidShelf" (.int i) H E) ∧
    (badFrom (dNum (d0 d)) 0 (dItems (d1 d)) = none → ∀ r H', Same H H' → Dp K H' r (shD (dNum (d0 d)) ((dItems (d1 d)).map chOf)) → Q r H'))
theorem wAt_same {K : PySem.W.Frag} {x : PySem.Str} {v : V} {H H1 : Hp} {E : XK} (s : Same H H1) (h : wAt K x v H E) : wAt K x v H1 E := fun H' d s' e => h H' d (s.tr s') e
theorem wWord_same {K : PySem.W.Frag} {x : PySem.Str} {v : V} {H H1 : Hp} {E : XK} (s : Same H H1) (h : wWord K x v H E) : wWord K x v H1 E := fun H' d s' e => h H' d (s.tr s') e
theorem wAt_new {K : PySem.W.Frag} {x : PySem.Str} {v : V} {H : Hp} {E : XK} {D : Addr} (hD : H D = none) (h : wAt K x v H E) : E (.ref (ea K x)) (some D) (upd H D (.xd [(("at" : PySem.Str), v)])) := h _ D (same_new hD) upd_same
theorem dRow_seq {m : Int} {d : PyData} (h : dRow m d = true) : dSeq d = true := by
  unfold dRow at h
  rw [Bool.and_eq_true] at h
  exact h.1
theorem dRow_all {m : Int} {d : PyData} (h : dRow m d = true) : (dItems d).all (dIn 0 (m - 1)) = true := by
  unfold dRow at h
  rw [Bool.and_eq_true, Bool.and_eq_true] at h
  exact h.2.1
theorem dRow_nd {m : Int} {d : PyData} (h : dRow m d = true) : (dInts (dItems d)).Nodup := by
  unfold dRow at h
  rw [Bool.and_eq_true, Bool.and_eq_true, decide_eq_true_eq] at h
  exact h.2.2
theorem dStr_eq {x : PySem.Str} {d : PyData} (h : dStr x d = true) : d = .str x := by
  cases d with
  | str y =>
    have e : (y == x) = true := h
    rw [beq_iff_eq] at e
    rw [e]
  | _ => cases h
/-- a chain, made a tuple -/
theorem chain_kind {m : Int} {d : PyData} (h : dChain m d = true) : dPair d = true ∧ dRow m (d1 d) = true ∧ d0 d = .str (if (chOf d).1 = true then "ring" else "list") ∧ 1 ≤ (chOf d).2.length ∧ ((chOf d).1 = true → 3 ≤ (chOf d).2.length) := by
  unfold dChain at h
  rw [Bool.and_eq_true, Bool.and_eq_true, Bool.or_eq_true, Bool.and_eq_true, Bool.and_eq_true, decide_eq_true_eq, decide_eq_true_eq] at h
  obtain ⟨h1, h2, h3⟩ := h
  have e : (chOf d).2.length = (dItems (d1 d)).length := dInts_len _
  refine ⟨h1, h2, ?_, ?_, ?_⟩
  · show d0 d = .str (if dStr "ring" (d0 d) = true then "ring" else "list")
    rcases h3 with ⟨h3, _⟩ | ⟨h3, _⟩
    · have z := dStr_eq h3
      rw [show (dItems d).getD 0 .none = d0 d from rfl] at z
      rw [z]
      rw [if_neg (by decide)]
    · have z := dStr_eq h3
      rw [show (dItems d).getD 0 .none = d0 d from rfl] at z
      rw [z]
      rw [if_pos (by decide)]
  · rw [e]
    rcases h3 with ⟨_, h3⟩ | ⟨_, h3⟩
    · exact h3
    · exact Nat.le_trans (by decide) h3
  · intro q
    rw [e]
    rcases h3 with ⟨h4, h3⟩ | ⟨_, h3⟩
    · have z := dStr_eq h4
      rw [show (dItems d).getD 0 .none = d0 d from rfl] at z
      have q2 : dStr "ring" (d0 d) = true := q
      rw [z] at q2
      exact absurd q2 (by decide)
    · exact h3
end Shf


namespace L2
open PySem PySem.Spec PyProof.Rows LamX
/-! ### the law's own call, with tables of code objects, the guards kept -/
section
/-- what may be tracked at first: the script as it stands, and empty tables -/
structure Begun (h : Heap) (cs : List (Addr × Addr)) (H : Hp) : Prop where
  tabs : ∀ p ∈ cs, H p.2 = some (.tbl #[])
  only : ∀ b o, H b = some o → (∃ p ∈ cs, p.2 = b) ∨ ∃ ob xs, o = .frz ob (.lst xs)
theorem law_callTG {P : Program} {w : World} {K : PySem.W.Frag} {mg mb : Str → Option Value} {CX : CXT} {k : Nat} {fa a : Addr} {cs : List (Addr × Addr)} {fd : FuncData} {x : Str} {sp : Sp} {s₁ : Shared} {vs : List Value} {ns : List Int}
    (KX : K.In s₁.heap) (hns : s₁.heap.Ns mainGlobals mg) (hb : s₁.heap.Ns builtinsNs mb) (hbb : ∀ x : Str, x ≠ "__name__" → mb x = bootBuiltins x) (hlim : s₁.heap.NoLimit) (hg : s₁.gens = #[])
    (hT : ∀ p ∈ cs, s₁.heap.get? p.2 = some { cls := .none, data := .fields #[] }) (nT : ∀ p ∈ cs, K.lookup p.2 = none) (C : ∀ p ∈ cs, PySem.W.CodeHd s₁.heap p.1 p.2)
    (hbm : ∃ (bm : Addr) (ob : Obj), mg "__builtins__" = some (.ref bm) ∧ bm ≠ builtinsNs ∧ s₁.heap.get? bm = some ob ∧ ob.cls = .type "module" ∧ ob.dict = some builtinsNs ∧ ob.data = .plain)
    (ha : s₁.heap.get? a = some { cls := .type "list", data := .seq vs.toArray }) (hi : IntsAre vs ns) (hl : ns.length ≤ sizeLine) (hr : Room k callerA)
    (F : ∀ base : Heap, K.In base → base.Ns mainGlobals mg → (∀ p ∈ cs, TabB base mg p.1 p.2) → FnG P w K mg base CX k fa fd [x] sp) (hbind : ∀ (s : Shared) (u : Value), BindsTo s fd ⟨[u], []⟩ [(x, u)])
    (hsp : ∀ H : Hp, Begun s₁.heap cs H → SqL K H a (ns.map V.int) → sp [.ref a] H (fun v _ => v = .bl true) fun _ _ _ => False)
    (hCX : ∀ H e s', CX [] H s₁ (fun _ _ _ => False) e s' → False) :
    codeAny (model P w) callerA (.call (.ref fa) ⟨[.ref a], []⟩) (fun r s' => r = .ok (.ret (.bool true)) ∧ OldK s₁.heap s'.heap ∧ s'.os = s₁.os ∧ AllBare s'.gens) s₁ := by
  have rv := vals_ints hi
  have lenV := hi.length
  let isT : Addr → Prop := fun b => ∃ p ∈ cs, p.2 = b
  have atT : ∀ {b : Addr}, isT b → s₁.heap.get? b = some { cls := .none, data := .fields #[] } := fun {b} hb => by
    obtain ⟨p, hp, rfl⟩ := hb
    exact hT p hp
  have aT : ¬ isT a := fun z => by
    have q := atT z
    rw [ha] at q
    cases q
  have core : ∀ H : Hp, Begun s₁.heap cs H → SqL K H a (ns.map V.int) → HOk P w H s₁.heap → (∀ b, H b ≠ none → b = a ∨ isT b) → (H a ≠ none → K.lookup a = none) →
      codeAny (model P w) callerA (.call (.ref fa) ⟨[.ref a], []⟩) (fun r s' => r = .ok (.ret (.bool true)) ∧ OldK s₁.heap s'.heap ∧ s'.os = s₁.os ∧ AllBare s'.gens) s₁ := by
    intro H hO hS hok hA hK
    -- an object of the ground that is neither the script nor a table is not tracked
    have free : ∀ {b : Addr} {o : Obj}, s₁.heap.get? b = some o → o ≠ { cls := .type "list", data := .seq vs.toArray } → o ≠ { cls := .none, data := .fields #[] } → (hidT s₁.heap H).get? b = some o := fun {b o} e n1 n2 => by
      refine hidT_get e (Classical.byContradiction fun z => ?_)
      rcases hA b z with rfl | q
      · rw [ha] at e
        exact n1 (Option.some.inj e).symm
      · rw [atT q] at e
        exact n2 (Option.some.inj e).symm
    have nsK : ∀ {b : Addr} {m : Str → Option Value}, s₁.heap.Ns b m → (hidT s₁.heap H).Ns b m := fun {b m} hm => by
      obtain ⟨o, es, ep, e, d, r⟩ := hm
      refine ⟨o, es, ep, free e (fun z => ?_) (fun z => ?_), d, r⟩
      · rw [z] at d
        cases d
      · rw [z] at d
        cases d
    have hKb : K.In (hidT s₁.heap H) := fun b o e => by
      refine hidT_get (KX b o e) (Classical.byContradiction fun z => ?_)
      rcases hA b z with rfl | ⟨p, hp, rfl⟩
      · rw [hK z] at e
        cases e
      · rw [nT p hp] at e
        cases e
    have hM : Mod K mg (hidT s₁.heap H) := by
      obtain ⟨mc, h1, h2⟩ := hlim
      exact ⟨hKb, nsK hns, ⟨mb, nsK hb, hbb⟩, mc, nsK h1, h2⟩
    have gNs : ∀ {b : Addr} {o : Obj}, s₁.heap.get? b = some o → o.data = .plain → b ≠ mainGlobals := fun {b o} e d z => by
      obtain ⟨o2, es, ep, e2, d2, _⟩ := hns
      rw [z, e2] at e
      cases e
      rw [d2] at d
      cases d
    have TB : ∀ p ∈ cs, TabB (hidT s₁.heap H) mg p.1 p.2 := fun p hp => by
      refine ⟨?_, ?_, fun z => ?_⟩
      · obtain ⟨o, us, file, tf, flags, tg, inF, text, tt, e1, r1, r2, rest⟩ := C p hp
        refine ⟨o, us, file, tf, flags, tg, inF, text, tt, free e1 (fun z => ?_) (fun z => ?_), r1, r2, rest⟩
        · rw [z] at r2
          cases r2
        · rw [z] at r2
          cases r2
          have q := rest.1
          simp at q
      · obtain ⟨bm, ob, b1, b2, b3, b4, b5, b6⟩ := hbm
        refine ⟨bm, ob, b1, b2, gNs b3 b6, fun q => ?_, free b3 (fun z => ?_) (fun z => ?_), b4, b5, b6⟩
        · rw [q, hT p hp] at b3
          cases b3
          cases b6
        · rw [z] at b6
          cases b6
        · rw [z] at b6
          cases b6
      · obtain ⟨o2, es, ep, e2, d2, _⟩ := hns
        rw [z, hT p hp] at e2
        cases e2
        cases d2
    have e0 : Env0 P w K mg (hidT s₁.heap H) callerA [] s₁ H := ⟨rfl, hM, fun b o e => of_hidT e, Nat.le_of_eq (hidT_size _ _), trivial, (fun b hb => (List.not_mem_nil (show b ∈ ([] : List Addr) from hb)).elim), hok, .of_eq hg⟩
    refine codeAny_mono ((F _ hKb (nsK hns) TB).run callerA [] s₁ H ⟨[.ref a], []⟩ [.ref a] [.ref a] _ _ hr rfl e0 (hbind s₁ (.ref a)) (.cons rfl .nil) (hsp H hO hS)) fun r s' h => ?_
    match r, h with
    | .error e, h => exact (hCX H e s' h).elim
    | .ok .next, h => exact False.elim h
    | .ok .brk, h => exact False.elim h
    | .ok .cont, h => exact False.elim h
    | .ok (.ret u), h =>
      obtain ⟨v, H', os, bare, un, hok', r', q⟩ := h
      obtain rfl : v = .bl true := q
      obtain rfl : u = Value.bool true := r'
      have stay : ∀ b o, ¬ isT b → s₁.heap.get? b = some o → s'.heap.get? b = some o := fun b o nb e => by
        cases z : H b with
        | none => exact un.keep b o e z (fun z => (List.not_mem_nil (show b ∈ ([] : List Addr) from z)).elim) (fun z => (List.not_mem_nil z).elim)
        | some u =>
          rcases hO.only b u z with q | ⟨ob, xs, rfl⟩
          · exact absurd q nb
          · obtain ⟨e1, _⟩ := hok b _ z
            obtain ⟨e2, _⟩ := hok' b _ (un.frzs b ob _ z)
            rw [e] at e1
            cases e1
            exact e2
      have grown : ∀ p ∈ cs, ∃ more : Array Value, s'.heap.get? p.2 = some { cls := .none, data := .fields more } := fun p hp => by
        obtain ⟨more, z⟩ := un.tbls p.2 #[] (hO.tabs p hp)
        exact ⟨_, hok' p.2 _ z⟩
      refine ⟨rfl, ⟨fun b o e => ?_, fun b o e => ?_⟩, os, bare⟩
      · by_cases nb : isT b
        · obtain ⟨p, hp, rfl⟩ := nb
          obtain ⟨more, hm⟩ := grown p hp
          rw [hT p hp] at e
          cases e
          exact .inr (.inl ⟨((C p hp).tab (hT p hp)).isCodeTable, rfl, #[], more, rfl, by rw [Array.empty_append]; exact hm⟩)
        · exact .inl (stay b o nb e)
      · by_cases nb : isT b
        · obtain ⟨p, hp, rfl⟩ := nb
          obtain ⟨more, hm⟩ := grown p hp
          exact ⟨_, hm⟩
        · exact ⟨o, stay b o nb e⟩
  -- the heaps to begin with
  have mk : ∀ A : Option HO, (∀ o, A = some o → o = .frz { cls := .type "list", data := .seq vs.toArray } (.lst (ns.map V.int))) → ∃ H : Hp, H a = A ∧ (∀ p ∈ cs, H p.2 = some (.tbl #[])) ∧ (∀ b, b ≠ a → ¬ isT b → H b = none) ∧ ∀ b, isT b → H b = some (.tbl #[]) := fun A _ => by
    have dec : ∀ b, Decidable (isT b) := fun b => Classical.propDecidable _
    refine ⟨fun b => if b = a then A else (@ite _ (isT b) (dec b) (some (.tbl #[])) none), if_pos rfl, fun p hp => ?_, fun b h1 h2 => (if_neg h1).trans (@if_neg _ (dec b) h2 _ _ _), fun b h => ?_⟩
    · have n : p.2 ≠ a := fun z => aT ⟨p, hp, z⟩
      exact (if_neg n).trans (@if_pos _ (dec _) ⟨p, hp, rfl⟩ _ _ _)
    · have n : b ≠ a := fun z => aT (z ▸ h)
      exact (if_neg n).trans (@if_pos _ (dec _) h _ _ _)
  cases hk : K.lookup a with
  | some o =>
    have e := KX a o hk
    rw [ha] at e
    cases e
    obtain ⟨H, h1, h2, h3, h4⟩ := mk none (fun o z => by cases z)
    have cl : ∀ b o, H b = some o → isT b := fun b o z => Classical.byContradiction fun n => by
      by_cases e : b = a
      · rw [e, h1] at z
        cases z
      · rw [h3 b e n] at z
        cases z
    refine core H ⟨h2, fun b o z => .inl (cl b o z)⟩ (.inr ⟨_, vs.toArray, _, hk, rfl, rfl, rfl, by rw [List.size_toArray, lenV]; exact hl, by simpa using rv⟩) (fun b u z => ?_) (fun b z => ?_) (fun z => absurd h1 z)
    · have q := cl b u z
      rw [h4 b q] at z
      cases z
      exact atT q
    · cases y : H b with
      | none => exact absurd y z
      | some o => exact .inr (cl b o y)
  | none =>
    obtain ⟨H, h1, h2, h3, h4⟩ := mk (some (.frz { cls := .type "list", data := .seq vs.toArray } (.lst (ns.map V.int)))) (fun o z => (Option.some.inj z).symm)
    have cl : ∀ b o, H b = some o → isT b ∨ (b = a ∧ o = .frz { cls := .type "list", data := .seq vs.toArray } (.lst (ns.map V.int))) := fun b o z => by
      by_cases e : b = a
      · rw [e, h1] at z
        exact .inr ⟨e, (Option.some.inj z).symm⟩
      · by_cases n : isT b
        · exact .inl n
        · rw [h3 b e n] at z
          cases z
    refine core H ⟨h2, fun b o z => ?_⟩ (.inl (.inr ⟨_, h1⟩)) (fun b u z => ?_) (fun b z => ?_) (fun _ => hk)
    · rcases cl b o z with q | ⟨_, q⟩
      · exact .inl q
      · exact .inr ⟨_, _, q⟩
    · rcases cl b u z with q | ⟨rfl, rfl⟩
      · rw [h4 b q] at z
        cases z
        exact atT q
      · exact ⟨ha, by rw [List.length_map]; exact hl, vs, _, rv, ha⟩
    · cases y : H b with
      | none => exact absurd y z
      | some o =>
        rcases cl b o y with q | ⟨q, _⟩
        · exact .inr q
        · exact .inl q
theorem walk_ofTG {l : PySem.W.OpenLaw} {n k : Nat} {q : Program} {loose : List Str} {XP : (Str → Option Value) → Heap → Prop} {YP : World → Heap → Prop} {d : DefRec} {CX : World → CXT} {x : Str}
    (hn : l.most = some n) (hn2 : n ≤ sizeLine) (hdf : d.params.defaults = []) (hr : Room k callerA)
    (F : ∀ (w : World) (mg : Str → Option Value) (fa : Addr) (h : Heap), YP w h → h.Ns mainGlobals mg → mg d.name = some (.ref fa) →
      ∃ (K : PySem.W.Frag) (fd : FuncData) (cs : List (Addr × Addr)) (sp : Sp), K.In h ∧ (∀ p ∈ cs, h.get? p.2 = some { cls := .none, data := .fields #[] }) ∧ (∀ p ∈ cs, K.lookup p.2 = none) ∧ (∀ p ∈ cs, PySem.W.CodeHd h p.1 p.2) ∧
        (∀ (s : Shared) (u : Value), BindsTo s fd ⟨[u], []⟩ [(x, u)]) ∧
        (∀ (H : Hp) (a : Addr) (ns : List Int), ns.length ≤ n → Begun h cs H → SqL K H a (ns.map V.int) → sp [.ref a] H (fun v _ => v = .bl true) fun _ _ _ => False) ∧
        ∀ base : Heap, K.In base → base.Ns mainGlobals mg → (∀ p ∈ cs, TabB base mg p.1 p.2) → FnG l.prog w K mg base (CX w) k fa fd [x] sp)
    (hCX : ∀ (w : World) (H : Hp) (s : Shared) (e : Value) (s' : Shared), CX w [] H s (fun _ _ _ => False) e s' → False) :
    PySem.W.WalkO q loose XP YP l.row.toRowW d [] (fun f vs => PySem.call f vs) := by
  refine Att.attach_call hn hdf fun w s₀ s₁ mg mb fa o pm cd doc a vs ns G Y ho hd hcd hmg hobj hints hlen hg => ?_
  obtain ⟨K, fd, cs, sp, KX, hT, nT, C, hb, hsp, hF⟩ := F w mg fa _ Y G.T.g hmg
  exact law_callTG KX G.T.g G.T.b G.T.builtins G.T.nolimit hg hT nT C G.T.bmain hobj hints (Nat.le_trans hlen hn2) hr hF hb (fun H hO hS => hsp H a ns hlen hO hS) fun H e s' => hCX w H s₁ e s'
end
end L2
/-! ### what the head leaves: facts, defs, and defs whose tables of code objects are empty -/
namespace Shf
open PySem PySem.Spec PyProof.Rows L2
abbrev AlY : Type := He.AlD × Bool
def obsY (n : Nat) (fa : PySem.W.Frag → Bool) (fn : List He.DefD) (tf : List He.Defn) (g : Addr → Option Obj) : AlY := (obsS fa fn (He.frT g (He.asD g n)), He.tabsB g tf (He.frT g (He.asD g n)) && noTwo (tf.map fun p => (He.cT (He.frT g (He.asD g n)) p).2))
structure SaysY (fa : PySem.W.Frag → Bool) (fn : List He.DefD) (tf : List He.Defn) (h : Heap) (K : PySem.W.Frag) : Prop where
  s : SaysS fa fn K
  hd : ∀ p ∈ tf, PySem.W.codeHdIn K (He.cT K p).1 (He.cT K p).2 = true
  out : ∀ p ∈ tf, K.lookup (He.cT K p).2 = none
  empty : ∀ p ∈ tf, h.get? (He.cT K p).2 = some { cls := .none, data := .fields #[] }
  two : (tf.map fun p => (He.cT K p).2).Nodup
theorem saysY_of {n : Nat} {fa : PySem.W.Frag → Bool} {fn : List He.DefD} {tf : List He.Defn} {h : Heap} (e : obsY n fa fn tf h.get? = (He.valD fn, true)) : SaysY fa fn tf h (He.frT h.get? (He.asD h.get? n)) := by
  have e1 : obsS fa fn (He.frT h.get? (He.asD h.get? n)) = He.valD fn := congrArg (fun z : AlY => z.1) e
  obtain ⟨e2, e3⟩ := band (show (He.tabsB h.get? tf (He.frT h.get? (He.asD h.get? n)) && noTwo (tf.map fun p => (He.cT (He.frT h.get? (He.asD h.get? n)) p).2)) = true from congrArg (fun z : AlY => z.2) e)
  generalize hK : He.frT h.get? (He.asD h.get? n) = K at e1 e2 e3 ⊢
  have look : ∀ p ∈ tf, PySem.W.codeHdIn K (He.cT K p).1 (He.cT K p).2 = true ∧ ∃ o, h.get? (He.cT K p).2 = some o ∧ He.emptyTab o = true := fun p hp => by
    obtain ⟨h3, h4⟩ := band (List.all_eq_true.mp e2 p hp)
    refine ⟨h3, ?_⟩
    cases z : h.get? (He.cT K p).2 with
    | none =>
      rw [z] at h4
      cases h4
    | some o =>
      rw [z] at h4
      exact ⟨o, rfl, h4⟩
  refine ⟨e1, fun p hp => (look p hp).1, fun p hp => ?_, fun p hp => ?_, noTwo_ok e3⟩
  · obtain ⟨_, o, z, y⟩ := look p hp
    rw [← hK] at z ⊢
    exact He.frT_none z y
  · obtain ⟨_, o, z, y⟩ := look p hp
    rw [z, He.emptyTab_eq y]
def hookY (n : Nat) (fa : PySem.W.Frag → Bool) (fn : List He.DefD) (tf : List He.Defn) : PySem.W.Hook where
  α := AlY
  obs := fun s => obsY n fa fn tf s.heap.get?
  val := fun _ => (He.valD fn, true)
  says := fun _ h => ∃ K : PySem.W.Frag, K.In h ∧ SaysY fa fn tf h K
  of := fun _ _ e => ⟨_, He.frT_in, saysY_of e⟩
  keeps := fun _ _ _ hh k => by
    obtain ⟨K, hK, c⟩ := hh
    exact ⟨K, PySem.W.Frag.In.keeps hK k, c.s, c.hd, c.out, fun p hp => k _ _ (c.empty p hp), c.two⟩
theorem obsY_eq {n : Nat} {fa : PySem.W.Frag → Bool} {fn : List He.DefD} {tf : List He.Defn} {g : Addr → Option Obj} {s : Shared} (h : ∀ a, g a = s.heap.get? a) : obsY n fa fn tf g = (hookY n fa fn tf).obs s := by
  rw [show g = s.heap.get? from funext h]
  rfl
end Shf


namespace Shf
open PySem PySem.Spec PyProof.Rows L2 LamX
/-! ### a work handed to a def that tells its error -/
/-- an error told: its class, what is told ahead of its field, and whether the field is at -/
structure EC where
  x : PySem.Str
  lab : PySem.Str
  at_ : Bool
def EC.f (q : EC) : PySem.Str := if q.at_ = true then "at" else "word"
/-- what is wished for when the work lets an error out -/
def ErrIn (K : PySem.W.Frag) (cl : List EC) (cls : Value) (d : Option Addr) (H : Hp) (Q : VK) : Prop :=
  ∃ q ∈ cl, cls = .ref (ea K q.x) ∧ ∃ a v, d = some a ∧ H a = some (.xd [(q.f, v)]) ∧ ∀ p H2, Same H H2 → H2 p = some (.tup [.str q.lab, v]) → Q (.ref p) H2
/-- the def's reading: the work's, its errors told, else None -/
def TErr (K : PySem.W.Frag) (cl : List EC) : (XK → Hp → VK → Prop) → Hp → VK → Prop := fun tl H Q => tl (fun cls d H' => ErrIn K cl cls d H' Q) H fun _ H' => Q .non H'
def sAtL (K : PySem.W.Frag) (x lab : PySem.Str) : Addr → Value → Option Addr → TS := fun a cls d => tRet (tTup (tCons (tC (.str lab)) (tCons (tBy_at a (ea K x) cls d (tVar 1)) tNil)))
def sWordL (K : PySem.W.Frag) (x lab : PySem.Str) : Addr → Value → Option Addr → TS := fun a cls d => tRet (tTup (tCons (tC (.str lab)) (tCons (tBy_word a (ea K x) cls d (tVar 1)) tNil)))
theorem slot1 {σ : L2.St} {v : V} (h : σ.length = 2) : (σ.set 1 (some v))[1]? = some (some v) := by
  match σ, h with
  | [a, b], _ => rfl
theorem sAtL_run {K : PySem.W.Frag} {x lab : PySem.Str} {H : Hp} {D : Ends} {σ : L2.St} {a d : Addr} {v : V} (hl : σ.length = 2) (hd : H d = some (.xd [(("at" : PySem.Str), v)])) (hq : ∀ p H2, Same H H2 → H2 p = some (.tup [.str lab, v]) → D.rt (.ref p) H2) :
    sAtL K x lab a (.ref (ea K x)) (some d) D (σ.set 1 (some (.ref a))) H := by
  refine ⟨_, slot1 hl, rfl, rfl, d, v, rfl, hd, two_le, fun p hp => hq p _ (same_new hp) upd_same⟩
theorem sWordL_run {K : PySem.W.Frag} {x lab : PySem.Str} {H : Hp} {D : Ends} {σ : L2.St} {a d : Addr} {v : V} (hl : σ.length = 2) (hd : H d = some (.xd [(("word" : PySem.Str), v)])) (hq : ∀ p H2, Same H H2 → H2 p = some (.tup [.str lab, v]) → D.rt (.ref p) H2) :
    sWordL K x lab a (.ref (ea K x)) (some d) D (σ.set 1 (some (.ref a))) H := by
  refine ⟨_, slot1 hl, rfl, rfl, d, v, rfl, hd, two_le, fun p hp => hq p _ (same_new hp) upd_same⟩
theorem takes_len {X : Cx} {W : WX} (t : Takes X W) : Takes X (fun c d σ H => σ.length = X.N.length → W c d σ H) := fun u s' x => by
  obtain ⟨a, B, sI, pins, σ, H, cls, d, e, I, nb, up, sky, na, os, ag, w⟩ := x
  exact t u s' ⟨a, B, sI, pins, σ, H, cls, d, e, I, nb, up, sky, na, os, ag, w I.len⟩
/-! ### laws' tables -/
/-- a def's code object, its table, the tables that are told -/
structure TabOk (X : Cx) (Ts : List (Addr × PySem.Str)) (c P : Addr) : Prop where
  b : TabB X.base X.mg c P
  code : X.env.code = .ref c
  mem : (P, X.env.qual ++ "<lambda>") ∈ Ts
  one : ∀ p ∈ Ts, p.1 = P → p.2 = X.env.qual ++ "<lambda>"
/-- heaps alike but for the tables -/
theorem extN_seq {K : PySem.W.Frag} {H H' : Hp} {a : Addr} {xs : List V} (e : ExtN H H') (h : SqL K H a xs) : SqL K H' a xs := by
  rcases h with (h | ⟨o, h⟩) | h
  · exact .inl (.inl (e _ _ h (fun ps z => by cases z)))
  · exact .inl (.inr ⟨o, e _ _ h (fun ps z => by cases z)⟩)
  · exact .inr h
theorem extN_sqt {K : PySem.W.Frag} {H H' : Hp} {a : Addr} {xs : List V} (e : ExtN H H') (h : SqT K H a xs) : SqT K H' a xs := by
  rcases h with (h | ⟨o, h⟩) | h
  · exact .inl (.inl (e _ _ h (fun ps z => by cases z)))
  · exact .inl (.inr ⟨o, e _ _ h (fun ps z => by cases z)⟩)
  · exact .inr h
mutual
theorem dp_ext {K : PySem.W.Frag} {H H' : Hp} (e : ExtN H H') : ∀ (d : PyData) (v : V), Dp K H v d → Dp K H' v d
  | .none, _, h => by cases h; exact .non
  | .bool b, _, h => by cases h; exact .bl b
  | .int i, _, h => by cases h; exact .int i
  | .str x, _, h => by cases h; exact .str x
  | .list ds, _, h => by
    cases h with
    | lst h1 h2 => exact .lst (extN_seq e h1) (dpAll_ext e ds _ h2)
  | .tuple ds, _, h => by
    cases h with
    | tup h1 h2 => exact .tup (extN_sqt e h1) (dpAll_ext e ds _ h2)
  | .dict _, _, h => by cases h
theorem dpAll_ext {K : PySem.W.Frag} {H H' : Hp} (e : ExtN H H') : ∀ (ds : List PyData) (vs : List V), DpAll K H vs ds → DpAll K H' vs ds
  | [], _, h => by cases h; exact .nil
  | d :: ds, _, h => by
    cases h with
    | cons h1 h2 => exact .cons (dp_ext e d _ h1) (dpAll_ext e ds _ h2)
end
theorem same_ext {H H' : Hp} (s : Same H H') : ExtN H H' := .of s
end Shf


namespace Shf
open PySem PySem.Spec PyProof.Rows L2
/-! ### what a law draws: a box holds three numbers -/
def Box (H : Hp) (a : Addr) (c d e : Int) : Prop := H a = some (.lst [.int c, .int d, .int e]) ∧ 0 ≤ c ∧ 1 ≤ d ∧ d ≤ 2147483629 ∧ 0 ≤ e ∧ e ≤ 1000000000000
/-- the box a with at most n turns behind it -/
def BoxN (H : Hp) (a : Addr) (n : Int) : Prop := ∃ c d e, Box H a c d e ∧ e ≤ n
/-- all but the thing at a stays -/
def But (a : Addr) (H H' : Hp) : Prop := ∀ b o, b ≠ a → H b = some o → H' b = some o
theorem But.rfl' {a : Addr} {H : Hp} : But a H H := fun _ _ _ e => e
theorem But.tr {a : Addr} {H H1 H2 : Hp} (x : But a H H1) (y : But a H1 H2) : But a H H2 := fun b o n e => y b o n (x b o n e)
theorem But.of {a : Addr} {H H' : Hp} (s : Same H H') : But a H H' := fun b o _ e => s b o e
theorem but_upd {a : Addr} {H : Hp} {o : HO} : But a H (upd H a o) := fun b x n e => by
  rw [upd_ne n]
  exact e
theorem But.seq {K : PySem.W.Frag} {a b : Addr} {H H' : Hp} {xs : List V} (x : But a H H') (n : b ≠ a) (h : SqL K H b xs) : SqL K H' b xs := by
  rcases h with (h | ⟨o, h⟩) | h
  · exact .inl (.inl (x _ _ n h))
  · exact .inl (.inr ⟨o, x _ _ n h⟩)
  · exact .inr h
theorem But.sqt {K : PySem.W.Frag} {a b : Addr} {H H' : Hp} {xs : List V} (x : But a H H') (n : b ≠ a) (h : SqT K H b xs) : SqT K H' b xs := by
  rcases h with (h | ⟨o, h⟩) | h
  · exact .inl (.inl (x _ _ n h))
  · exact .inl (.inr ⟨o, x _ _ n h⟩)
  · exact .inr h
/-- data that does not lie at a (a holds a box: a list of three numbers; the data is none of these lists) -/
inductive Off (a : Addr) : V → Prop
  | non : Off a .non
  | bl (b : Bool) : Off a (.bl b)
  | int (i : Int) : Off a (.int i)
  | str (x : PySem.Str) : Off a (.str x)
def spBox (K : PySem.W.Frag) : Sp := fun vs H Q _ => ∃ (a : Addr) (ns : List Int) (k : Nat), vs = [.ref a, .int k] ∧ SqL K H a (ns.map V.int) ∧ ns.length ≤ 63 ∧ k ≤ 100 ∧
  ∀ p H', Same H H' → H p = none → BoxN H' p 0 → Q (.ref p) H'
def spTake : Sp := fun vs H Q _ => ∃ (a : Addr) (m n : Int), vs = [.ref a, .int m] ∧ BoxN H a n ∧ n < 1000000000000 ∧ 0 < m ∧ m ≤ 1000000 ∧
  ∀ (r : Nat) H', (r : Int) < m → But a H H' → BoxN H' a (n + 1) → Q (.int r) H'
def spPick (K : PySem.W.Frag) : Sp := fun vs H Q _ => ∃ (a b : Addr) (n : Int) (xs : List V), vs = [.ref a, .ref b] ∧ BoxN H a n ∧ n < 1000000000000 ∧ SqL K H b xs ∧ a ≠ b ∧ 0 < xs.length ∧ xs.length ≤ 1000000 ∧
  ∀ (r : Nat) x H', xs[r]? = some x → But a H H' → BoxN H' a (n + 1) → Q x H'
def spMixed (K : PySem.W.Frag) : Sp := fun vs H Q _ => ∃ (a b : Addr) (n : Int) (xs : List V), vs = [.ref a, .ref b] ∧ BoxN H a n ∧ Sq K H b xs ∧ a ≠ b ∧ xs.length ≤ 1000000 ∧ n + xs.length < 1000000000000 ∧
  ∀ p (ys : List V) H', ys.Perm xs → H p = none → p ≠ a → H' p = some (.lst ys) → But a H H' → BoxN H' a (n + xs.length) → Q (.ref p) H'
theorem pick_perm' {α : Type} : ∀ (l : List α) (i : Nat) (h : i < l.length), (l[i] :: l.eraseIdx i).Perm l
  | x :: r, 0, _ => List.Perm.refl _
  | x :: r, i + 1, h => ((List.Perm.swap x (r[i]'(Nat.lt_of_succ_lt_succ h)) (r.eraseIdx i)).trans ((pick_perm' r i (Nat.lt_of_succ_lt_succ h)).cons x))
theorem atI_nat' {xs : List V} {j : Nat} {v : V} (h : xs[j]? = some v) : atI xs (j : Nat) = some v := atI_nat h
end Shf

namespace Shf
/-! ### lists that stand in order -/
theorem asc_ext {α : Type} {lt : α → α → Prop} (as : ∀ a b, lt a b → ¬ lt b a) : ∀ {l1 l2 : List α}, l1.Pairwise lt → l2.Pairwise lt → (∀ x, x ∈ l1 ↔ x ∈ l2) → l1 = l2
  | [], [], _, _, _ => rfl
  | [], b :: r, _, _, h => absurd ((h b).mpr (List.mem_cons_self ..)) (by simp)
  | a :: r, [], _, _, h => absurd ((h a).mp (List.mem_cons_self ..)) (by simp)
  | a :: r, b :: q, h1, h2, h => by
    have ir : ∀ x, ¬ lt x x := fun x y => as x x y y
    obtain ⟨p1, p2⟩ := List.pairwise_cons.mp h1
    obtain ⟨q1, q2⟩ := List.pairwise_cons.mp h2
    have e : a = b := by
      rcases List.mem_cons.mp ((h a).mp (List.mem_cons_self ..)) with e | e
      · exact e
      · rcases List.mem_cons.mp ((h b).mpr (List.mem_cons_self ..)) with e' | e'
        · exact e'.symm
        · exact absurd (q1 a e) (as _ _ (p1 b e'))
    subst e
    refine congrArg (a :: ·) (asc_ext as p2 q2 fun x => ⟨fun hx => ?_, fun hx => ?_⟩)
    · rcases List.mem_cons.mp ((h x).mp (List.mem_cons_of_mem _ hx)) with e | e
      · subst e
        exact absurd (p1 x hx) (ir x)
      · exact e
    · rcases List.mem_cons.mp ((h x).mpr (List.mem_cons_of_mem _ hx)) with e | e
      · subst e
        exact absurd (q1 x hx) (ir x)
      · exact e
def srt (l : List Nat) : List Nat := l.mergeSort fun a b => decide (a ≤ b)
theorem srt_perm (l : List Nat) : (srt l).Perm l := List.mergeSort_perm ..
theorem srt_le (l : List Nat) : (srt l).Pairwise (· ≤ ·) := by
  have h := List.pairwise_mergeSort (le := fun a b : Nat => decide (a ≤ b)) (fun a b c => by simp; omega) (fun a b => by simp; omega) l
  exact h.imp fun h => by simpa using h
theorem srt_uni {l l' : List Nat} (p : l'.Perm l) (h : l'.Pairwise (· ≤ ·)) : l' = srt l := List.Perm.eq_of_pairwise (le := (· ≤ ·)) (fun a b _ _ h1 h2 => Nat.le_antisymm h1 h2) h (srt_le l) (p.trans (srt_perm l).symm)
theorem lt_of_le_nd {l : List Nat} (h : l.Pairwise (· ≤ ·)) (n : l.Nodup) : l.Pairwise (· < ·) := by
  refine (List.Pairwise.and h n).imp fun ⟨h1, h2⟩ => ?_
  exact Nat.lt_of_le_of_ne h1 h2
theorem srt_nd {l : List Nat} (n : l.Nodup) : (srt l).Pairwise (· < ·) := lt_of_le_nd (srt_le l) ((srt_perm l).nodup_iff.mpr n)
theorem srt_mem {l : List Nat} {x : Nat} : x ∈ srt l ↔ x ∈ l := (srt_perm l).mem_iff
theorem asc_nat {l1 l2 : List Nat} (h1 : l1.Pairwise (· < ·)) (h2 : l2.Pairwise (· < ·)) (h : ∀ x, x ∈ l1 ↔ x ∈ l2) : l1 = l2 := asc_ext (fun a b h => by omega) h1 h2 h
/-- sorted, of numbers as ints -/
theorem sorted_nat {l : List Nat} {ns : List Int} (p : ns.Perm (l.map fun x : Nat => (x : Int))) (h : ns.Pairwise (· ≤ ·)) : ns = (srt l).map fun x : Nat => (x : Int) := by
  refine List.Perm.eq_of_pairwise (le := (· ≤ ·)) (fun a b _ _ h1 h2 => Int.le_antisymm h1 h2) h ?_ (p.trans ((srt_perm l).symm.map _))
  rw [List.pairwise_map]
  exact (srt_le l).imp fun h => by omega
/-! ### what hangs together -/
inductive Rch (E : Nat → Nat → Prop) (a : Nat) : Nat → Prop
  | refl : Rch E a a
  | step {b c : Nat} : Rch E a b → E b c → Rch E a c
theorem Rch.trans {E : Nat → Nat → Prop} {a b c : Nat} (h : Rch E a b) (g : Rch E b c) : Rch E a c := by
  induction g with
  | refl => exact h
  | step _ e ih => exact .step ih e
theorem Rch.one {E : Nat → Nat → Prop} {a b : Nat} (e : E a b) : Rch E a b := .step .refl e
theorem Rch.symm {E : Nat → Nat → Prop} (s : ∀ a b, E a b → E b a) {a b : Nat} (h : Rch E a b) : Rch E b a := by
  induction h with
  | refl => exact .refl
  | step _ e ih => exact (Rch.one (s _ _ e)).trans ih
theorem Rch.mono {E F : Nat → Nat → Prop} (s : ∀ a b, E a b → F a b) {a b : Nat} (h : Rch E a b) : Rch F a b := by
  induction h with
  | refl => exact .refl
  | step _ e ih => exact .step ih (s _ _ e)
theorem Rch.lt {E : Nat → Nat → Prop} {n a b : Nat} (s : ∀ a b, E a b → b < n) (ha : a < n) (h : Rch E a b) : b < n := by
  induction h with
  | refl => exact ha
  | step _ e _ => exact s _ _ e
/-- whoever is closed holds all that hangs on one of it -/
theorem Rch.closed {E : Nat → Nat → Prop} {S : Nat → Prop} {a b : Nat} (hc : ∀ x y, S x → E x y → S y) (ha : S a) (h : Rch E a b) : S b := by
  induction h with
  | refl => exact ha
  | step _ e ih => exact hc _ _ ih e
open Classical in
noncomputable def fstOf (n : Nat) (E : Nat → Nat → Prop) : List Nat := (List.range n).filter fun f => decide (∀ g, g < f → ¬ Rch E g f)
open Classical in
noncomputable def hangOf (n : Nat) (E : Nat → Nat → Prop) (f : Nat) : List Nat := (List.range n).filter fun c => decide (Rch E f c)
noncomputable def partsOf (n : Nat) (E : Nat → Nat → Prop) : List (List Nat) := (fstOf n E).map (hangOf n E)
theorem hang_mem {n : Nat} {E : Nat → Nat → Prop} {f c : Nat} : c ∈ hangOf n E f ↔ c < n ∧ Rch E f c := by
  unfold hangOf
  rw [List.mem_filter, List.mem_range, @decide_eq_true_eq _ (_)]
theorem hang_asc (n : Nat) (E : Nat → Nat → Prop) (f : Nat) : (hangOf n E f).Pairwise (· < ·) := List.Pairwise.filter _ List.pairwise_lt_range
theorem hang_srt {n : Nat} {E : Nat → Nat → Prop} {f : Nat} {l : List Nat} (nd : l.Nodup) (hm : ∀ c, c ∈ l ↔ c < n ∧ Rch E f c) : srt l = hangOf n E f :=
  asc_nat (srt_nd nd) (hang_asc n E f) fun x => by rw [srt_mem, hm, hang_mem]
theorem parts_congr {n : Nat} {E F : Nat → Nat → Prop} (h : ∀ a b, E a b ↔ F a b) : partsOf n E = partsOf n F := by
  have e : E = F := by
    funext a b
    exact propext (h a b)
  rw [e]
/-! #### names that fall -/
def nstep (nm : List Nat) (p : Nat × Nat) : List Nat := (nm.set p.1 (min (nm.getD p.1 0) (nm.getD p.2 0))).set p.2 (min (nm.getD p.1 0) (nm.getD p.2 0))
def nround (L : List (Nat × Nat)) (nm : List Nat) : List Nat := L.foldl nstep nm
def nrounds (L : List (Nat × Nat)) (n : Nat) : Nat → List Nat
  | 0 => List.range n
  | r + 1 => nround L (nrounds L n r)
def Lk (L : List (Nat × Nat)) (a b : Nat) : Prop := (a, b) ∈ L ∨ (b, a) ∈ L
theorem Lk.symm {L : List (Nat × Nat)} : ∀ a b, Lk L a b → Lk L b a := fun _ _ h => Or.symm h
/-- names: each at most the cell, and hanging on it -/
structure NOk (n : Nat) (E : Nat → Nat → Prop) (nm : List Nat) : Prop where
  len : nm.length = n
  le : ∀ c, c < n → nm.getD c 0 ≤ c
  on : ∀ c, c < n → Rch E (nm.getD c 0) c
theorem getD_set {l : List Nat} {i j v : Nat} (hi : i < l.length) : (l.set i v).getD j 0 = if i = j then v else l.getD j 0 := by
  rw [List.getD_eq_getElem?_getD, List.getElem?_set]
  by_cases e : i = j
  · rw [if_pos e, if_pos e, if_pos hi]
    rfl
  · rw [if_neg e, if_neg e, List.getD_eq_getElem?_getD]
theorem nstep_at {nm : List Nat} {p : Nat × Nat} (h1 : p.1 < nm.length) (h2 : p.2 < nm.length) (c : Nat) :
    (nstep nm p).getD c 0 = if p.1 = c ∨ p.2 = c then min (nm.getD p.1 0) (nm.getD p.2 0) else nm.getD c 0 := by
  unfold nstep
  rw [getD_set (by rw [List.length_set]; exact h2), getD_set h1]
  by_cases e : p.2 = c
  · rw [if_pos e, if_pos (.inr e)]
  · rw [if_neg e]
    by_cases e2 : p.1 = c
    · rw [if_pos e2, if_pos (.inl e2)]
    · rw [if_neg e2, if_neg (by rintro (z | z) <;> contradiction)]
theorem nstep_len (nm : List Nat) (p : Nat × Nat) : (nstep nm p).length = nm.length := by
  unfold nstep
  rw [List.length_set, List.length_set]
/-- a name that is the least that hangs on it -/
def Least (E : Nat → Nat → Prop) (m : Nat) : Prop := ∀ g, g < m → ¬ Rch E g m
theorem nstep_ok {n : Nat} {E : Nat → Nat → Prop} {nm : List Nat} {p : Nat × Nat} (s : ∀ a b, E a b → E b a) (h1 : p.1 < n) (h2 : p.2 < n) (e : E p.1 p.2) (h : NOk n E nm) : NOk n E (nstep nm p) := by
  have l1 : p.1 < nm.length := by rw [h.len]; exact h1
  have l2 : p.2 < nm.length := by rw [h.len]; exact h2
  have le1 := h.le _ h1
  have le2 := h.le _ h2
  have r12 : Rch E (min (nm.getD p.1 0) (nm.getD p.2 0)) p.1 ∧ Rch E (min (nm.getD p.1 0) (nm.getD p.2 0)) p.2 := by
    by_cases z : nm.getD p.1 0 ≤ nm.getD p.2 0
    · rw [Nat.min_eq_left z]
      exact ⟨h.on _ h1, .step (h.on _ h1) e⟩
    · rw [Nat.min_eq_right (by omega)]
      exact ⟨.step (h.on _ h2) (s _ _ e), h.on _ h2⟩
  refine ⟨by rw [nstep_len, h.len], fun c hc => ?_, fun c hc => ?_⟩
  · rw [nstep_at l1 l2]
    by_cases z : p.1 = c ∨ p.2 = c
    · rw [if_pos z]
      rcases z with rfl | rfl
      · exact Nat.le_trans (Nat.min_le_left ..) le1
      · exact Nat.le_trans (Nat.min_le_right ..) le2
    · rw [if_neg z]
      exact h.le c hc
  · rw [nstep_at l1 l2]
    by_cases z : p.1 = c ∨ p.2 = c
    · rw [if_pos z]
      rcases z with rfl | rfl
      · exact r12.1
      · exact r12.2
    · rw [if_neg z]
      exact h.on c hc
theorem nstep_stay {n : Nat} {E : Nat → Nat → Prop} {nm : List Nat} {p : Nat × Nat} {m c : Nat} (s : ∀ a b, E a b → E b a) (h1 : p.1 < n) (h2 : p.2 < n) (e : E p.1 p.2) (h : NOk n E nm) (hm : Least E m) (hc : c < n) (hn : nm.getD c 0 = m) :
    (nstep nm p).getD c 0 = m := by
  have l1 : p.1 < nm.length := by rw [h.len]; exact h1
  have l2 : p.2 < nm.length := by rw [h.len]; exact h2
  have ok := nstep_ok s h1 h2 e h
  have r := ok.on c hc
  have rm : Rch E m c := hn ▸ h.on c hc
  have ge : m ≤ (nstep nm p).getD c 0 := by
    refine Nat.le_of_not_lt fun z => hm _ z (r.trans (rm.symm s))
  have le : (nstep nm p).getD c 0 ≤ m := by
    rw [nstep_at l1 l2]
    by_cases z : p.1 = c ∨ p.2 = c
    · rw [if_pos z]
      rcases z with rfl | rfl
      · rw [hn]; exact Nat.min_le_left ..
      · rw [hn]; exact Nat.min_le_right ..
    · rw [if_neg z]
      exact Nat.le_of_eq hn
  exact Nat.le_antisymm le ge
theorem nround_ok {n : Nat} {E : Nat → Nat → Prop} (s : ∀ a b, E a b → E b a) : ∀ {L : List (Nat × Nat)} {nm : List Nat}, (∀ p ∈ L, p.1 < n ∧ p.2 < n ∧ E p.1 p.2) → NOk n E nm →
    NOk n E (nround L nm) ∧ ∀ m c, Least E m → c < n → nm.getD c 0 = m → (nround L nm).getD c 0 = m
  | [], nm, _, h => ⟨h, fun _ _ _ _ e => e⟩
  | p :: L, nm, hL, h => by
    obtain ⟨a1, a2, a3⟩ := hL p (List.mem_cons_self ..)
    obtain ⟨b1, b2⟩ := nround_ok s (L := L) (fun q hq => hL q (List.mem_cons_of_mem _ hq)) (nstep_ok s a1 a2 a3 h)
    exact ⟨b1, fun m c hm hc e => b2 m c hm hc (nstep_stay s a1 a2 a3 h hm hc e)⟩
theorem nround_hit {n : Nat} {E : Nat → Nat → Prop} (s : ∀ a b, E a b → E b a) {L : List (Nat × Nat)} {nm : List Nat} (hL : ∀ p ∈ L, p.1 < n ∧ p.2 < n ∧ E p.1 p.2) (h : NOk n E nm) {m a b : Nat} (hm : Least E m) (ha : a < n) (hb : b < n)
    (e : nm.getD a 0 = m) (hl : (a, b) ∈ L ∨ (b, a) ∈ L) : (nround L nm).getD b 0 = m := by
  have go : ∀ p : Nat × Nat, p ∈ L → (p = (a, b) ∨ p = (b, a)) → (nround L nm).getD b 0 = m := fun p hp hpe => by
    obtain ⟨L1, L2, rfl⟩ := List.append_of_mem hp
    have h1 := nround_ok s (L := L1) (fun q hq => hL q (List.mem_append_left _ hq)) h
    obtain ⟨a1, a2, a3⟩ := hL p (List.mem_append_right _ (List.mem_cons_self ..))
    have e1 := h1.2 m a hm ha e
    have ok2 := nstep_ok s a1 a2 a3 h1.1
    have e2 := nstep_stay s a1 a2 a3 h1.1 hm ha e1
    have e3 : (nstep (nround L1 nm) p).getD b 0 = m := by
      have l1 : p.1 < (nround L1 nm).length := by rw [h1.1.len]; exact a1
      have l2 : p.2 < (nround L1 nm).length := by rw [h1.1.len]; exact a2
      rw [nstep_at l1 l2] at e2 ⊢
      rcases hpe with rfl | rfl
      · rw [if_pos (.inl rfl)] at e2
        rw [if_pos (.inr rfl)]
        exact e2
      · rw [if_pos (.inr rfl)] at e2
        rw [if_pos (.inl rfl)]
        exact e2
    have h3 := nround_ok s (L := L2) (fun q hq => hL q (List.mem_append_right _ (List.mem_cons_of_mem _ hq))) ok2
    have z := h3.2 m b hm hb e3
    have q : nround (L1 ++ p :: L2) nm = nround L2 (nstep (nround L1 nm) p) := by
      unfold nround
      rw [List.foldl_append, List.foldl_cons]
    rw [q]
    exact z
  rcases hl with hl | hl
  · exact go _ hl (.inl rfl)
  · exact go _ hl (.inr rfl)
theorem edge_out {E : Nat → Nat → Prop} {S : Nat → Prop} {m c : Nat} (h : Rch E m c) (hm : S m) (hc : ¬ S c) : ∃ a b, Rch E m a ∧ S a ∧ ¬ S b ∧ E a b := by
  refine Classical.byContradiction fun z => ?_
  have cl : ∀ x, Rch E m x → S x := fun x hx => by
    induction hx with
    | refl => exact hm
    | @step b c hb e ih => exact Classical.byContradiction fun q => z ⟨b, c, hb, ih, q, e⟩
  exact hc (cl c h)
theorem nrounds_ok {n : Nat} {L : List (Nat × Nat)} (hL : ∀ p ∈ L, p.1 < n ∧ p.2 < n) : ∀ r, NOk n (Lk L) (nrounds L n r) ∧ ∀ m, m < n → Least (Lk L) m →
    (∀ c, c < n → Rch (Lk L) m c → (nrounds L n r).getD c 0 = m) ∨ r + 1 ≤ ((List.range n).filter fun c => decide ((nrounds L n r).getD c 0 = m)).length
  | 0 => by
    have g : ∀ c, c < n → (List.range n).getD c 0 = c := fun c hc => by
      rw [List.getD_eq_getElem?_getD, List.getElem?_range hc]
      rfl
    refine ⟨⟨List.length_range, fun c hc => Nat.le_of_eq (g c hc), fun c hc => ?_⟩, fun m hm _ => .inr ?_⟩
    · show Rch _ ((List.range n).getD c 0) c
      rw [g c hc]
      exact .refl
    · have : m ∈ (List.range n).filter fun c => decide ((nrounds L n 0).getD c 0 = m) := by
        rw [List.mem_filter, List.mem_range, decide_eq_true_eq]
        exact ⟨hm, g m hm⟩
      exact List.length_pos_of_mem this
  | r + 1 => by
    obtain ⟨ok, h⟩ := nrounds_ok hL r
    have hL2 : ∀ p ∈ L, p.1 < n ∧ p.2 < n ∧ Lk L p.1 p.2 := fun p hp => ⟨(hL p hp).1, (hL p hp).2, .inl hp⟩
    obtain ⟨ok2, st⟩ := nround_ok Lk.symm hL2 ok
    refine ⟨ok2, fun m hm lm => ?_⟩
    have own : (nrounds L n r).getD m 0 = m := by
      have y := ok.le m hm
      have o := ok.on m hm
      refine Nat.le_antisymm y (Nat.le_of_not_lt fun z => lm _ z o)
    rcases h m hm lm with h | h
    · exact .inl fun c hc hr => st m c lm hc (h c hc hr)
    · by_cases all : ∀ c, c < n → Rch (Lk L) m c → (nrounds L n r).getD c 0 = m
      · exact .inl fun c hc hr => st m c lm hc (all c hc hr)
      · refine .inr ?_
        have ex : ∃ c, c < n ∧ Rch (Lk L) m c ∧ (nrounds L n r).getD c 0 ≠ m := Classical.byContradiction fun z => all fun c hc hr => Classical.byContradiction fun q => z ⟨c, hc, hr, q⟩
        obtain ⟨c, hc, hr, hne⟩ := ex
        have inR : ∀ x, Rch (Lk L) m x → x < n := fun x hx => Rch.lt (fun a b e => by rcases e with e | e; exact (hL _ e).2; exact (hL _ e).1) hm hx
        obtain ⟨a, b, ra, sa, nb, e⟩ := edge_out (S := fun x => (nrounds L n r).getD x 0 = m) hr own hne
        have ha := inR a ra
        have hb := inR b (.step ra e)
        have hit := nround_hit Lk.symm hL2 ok lm ha hb sa e
        have sub : ((List.range n).filter fun c => decide ((nrounds L n r).getD c 0 = m)) ++ [b] ⊆ (List.range n).filter fun c => decide ((nrounds L n (r + 1)).getD c 0 = m) := by
          intro x hx
          rcases List.mem_append.mp hx with hx | hx
          · rw [List.mem_filter, List.mem_range, decide_eq_true_eq] at hx ⊢
            exact ⟨hx.1, st m x lm hx.1 hx.2⟩
          · rw [List.mem_singleton] at hx
            subst hx
            rw [List.mem_filter, List.mem_range, decide_eq_true_eq]
            exact ⟨hb, hit⟩
        have nd : (((List.range n).filter fun c => decide ((nrounds L n r).getD c 0 = m)) ++ [b]).Nodup := by
          rw [List.nodup_append]
          refine ⟨List.Pairwise.filter _ List.nodup_range, by simp, fun x hx y hy => ?_⟩
          rw [List.mem_singleton] at hy
          subst hy
          rw [List.mem_filter, decide_eq_true_eq] at hx
          rintro rfl
          exact nb hx.2
        have z := List.Nodup.length_le_of_subset nd sub
        rw [List.length_append] at z
        have : [b].length = 1 := rfl
        omega
theorem names_least {n : Nat} {L : List (Nat × Nat)} (hL : ∀ p ∈ L, p.1 < n ∧ p.2 < n) {m c : Nat} (hm : m < n) (lm : Least (Lk L) m) (hc : c < n) (hr : Rch (Lk L) m c) : (nrounds L n n).getD c 0 = m := by
  obtain ⟨_, h⟩ := nrounds_ok hL n
  rcases h m hm lm with h | h
  · exact h c hc hr
  · have z := List.length_filter_le (fun c => decide ((nrounds L n n).getD c 0 = m)) (List.range n)
    rw [List.length_range] at z
    omega
theorem least_ex {E : Nat → Nat → Prop} (s : ∀ a b, E a b → E b a) : ∀ c, ∃ m, m ≤ c ∧ Least E m ∧ Rch E m c := by
  intro c
  induction c using Nat.strongRecOn with
  | ind c ih =>
    by_cases h : Least E c
    · exact ⟨c, Nat.le_refl _, h, .refl⟩
    · have : ∃ g, g < c ∧ Rch E g c := Classical.byContradiction fun z => h fun g hg hr => z ⟨g, hg, hr⟩
      obtain ⟨g, hg, hr⟩ := this
      obtain ⟨m, h1, h2, h3⟩ := ih g hg
      exact ⟨m, by omega, h2, h3.trans hr⟩
theorem names_iff {n : Nat} {L : List (Nat × Nat)} (hL : ∀ p ∈ L, p.1 < n ∧ p.2 < n) {f c : Nat} (hf : f < n) (lf : Least (Lk L) f) (hc : c < n) : (nrounds L n n).getD c 0 = f ↔ Rch (Lk L) f c := by
  refine ⟨fun e => ?_, fun h => names_least hL hf lf hc h⟩
  have o := (nrounds_ok hL n).1.on c hc
  rw [e] at o
  exact o
theorem names_own {n : Nat} {L : List (Nat × Nat)} (hL : ∀ p ∈ L, p.1 < n ∧ p.2 < n) {f : Nat} (hf : f < n) : (nrounds L n n).getD f 0 = f ↔ Least (Lk L) f := by
  refine ⟨fun e => ?_, fun h => names_least hL hf h hf .refl⟩
  obtain ⟨m, h1, h2, h3⟩ := least_ex Lk.symm (E := Lk L) f
  have z := names_least hL (by omega) h2 hf h3
  rw [z] at e
  subst e
  exact h2
/-- the law's parts -/
def lawParts (n : Nat) (nm : List Nat) : List (List Nat) := ((List.range n).filter fun f => decide (nm.getD f 0 = f)).map fun f => (List.range n).filter fun c => decide (nm.getD c 0 = f)
theorem lawParts_eq {n : Nat} {L : List (Nat × Nat)} (hL : ∀ p ∈ L, p.1 < n ∧ p.2 < n) : lawParts n (nrounds L n n) = partsOf n (Lk L) := by
  unfold lawParts partsOf
  have e1 : ((List.range n).filter fun f => decide ((nrounds L n n).getD f 0 = f)) = fstOf n (Lk L) := by
    unfold fstOf
    refine List.filter_congr fun f hf => ?_
    rw [List.mem_range] at hf
    have z := names_own hL hf
    exact decide_eq_decide.mpr z
  rw [e1]
  refine List.map_congr_left fun f hf => ?_
  unfold fstOf at hf
  rw [List.mem_filter, List.mem_range, @decide_eq_true_eq _ (_)] at hf
  unfold hangOf
  refine List.filter_congr fun c hc => ?_
  rw [List.mem_range] at hc
  exact decide_eq_decide.mpr (names_iff hL hf.1 hf.2 hc)
/-! #### neighbours -/
def nbL (L : List (Nat × Nat)) (i : Nat) : List Nat := L.flatMap fun p => (if p.1 = i then [p.2] else []) ++ (if p.2 = i then [p.1] else [])
def rowsOf (n : Nat) (L : List (Nat × Nat)) : List (List Nat) := (List.range n).map fun i => srt (nbL L i)
theorem nb_mem {L : List (Nat × Nat)} {i c : Nat} : c ∈ nbL L i ↔ Lk L i c := by
  unfold nbL Lk
  rw [List.mem_flatMap]
  constructor
  · rintro ⟨p, hp, h⟩
    rcases List.mem_append.mp h with h | h
    · by_cases e : p.1 = i
      · rw [if_pos e, List.mem_singleton] at h
        subst h e
        exact .inl hp
      · rw [if_neg e] at h
        simp at h
    · by_cases e : p.2 = i
      · rw [if_pos e, List.mem_singleton] at h
        subst h e
        exact .inr hp
      · rw [if_neg e] at h
        simp at h
  · rintro (h | h)
    · exact ⟨_, h, List.mem_append_left _ (by rw [if_pos rfl]; exact List.mem_singleton.mpr rfl)⟩
    · exact ⟨_, h, List.mem_append_right _ (by rw [if_pos rfl]; exact List.mem_singleton.mpr rfl)⟩
theorem rowsOf_len (n : Nat) (L : List (Nat × Nat)) : (rowsOf n L).length = n := by
  unfold rowsOf
  rw [List.length_map, List.length_range]
theorem rowsOf_at {n i : Nat} {L : List (Nat × Nat)} (h : i < n) : (rowsOf n L)[i]? = some (srt (nbL L i)) := by
  unfold rowsOf
  rw [List.getElem?_map, List.getElem?_range h]
  rfl
/-- from a row to the next -/
def Rw (rs : List (List Nat)) (a b : Nat) : Prop := b ∈ rs.getD a []
theorem rowsOf_rw {n : Nat} {L : List (Nat × Nat)} (hL : ∀ p ∈ L, p.1 < n ∧ p.2 < n) (a b : Nat) : Rw (rowsOf n L) a b ↔ Lk L a b := by
  unfold Rw
  by_cases h : a < n
  · rw [List.getD_eq_getElem?_getD, rowsOf_at h]
    show b ∈ srt (nbL L a) ↔ _
    rw [srt_mem, nb_mem]
  · rw [List.getD_eq_getElem?_getD, List.getElem?_eq_none (by rw [rowsOf_len]; omega)]
    constructor
    · intro z
      simp at z
    · rintro (z | z)
      · exact absurd (hL _ z).1 h
      · exact absurd (hL _ z).2 h
end Shf

namespace L2
open PySem PySem.Spec PyProof.Rows
/-! ### d.update(e): dicts of ints or texts -/
def rUpdK : V → List V → Hp → VK → Prop := fun x vs H Q => ∃ (a b : Addr) (kvs more : List (Key × V)), x = .ref a ∧ vs = [.ref b] ∧ a ≠ b ∧ H a = some (.dK kvs) ∧ H b = some (.dK more) ∧ kvs.length + more.length ≤ sizeLine ∧ Q .non (upd H a (.dK (mergeK kvs more)))
theorem mt_updateK {X : Cx} : MtR X "dict.update" rUpdK := by
  intro pins s σ H x vs v us Q I rx rv h
  obtain ⟨a, b, kvs, more, rfl, rfl, nab, ea, eb, hz, q⟩ := h
  obtain rfl : v = Value.ref a := rx
  obtain ⟨u, rfl, ru⟩ := rv.one
  obtain rfl : u = Value.ref b := ru
  obtain ⟨z1, hd1, vs1, rel1, dd1⟩ := dk_of I.hok ea
  obtain ⟨z2, hd2, vs2, rel2, dd2⟩ := dk_of I.hok eb
  refine call_meetsIn PySem.F.slot_dict_update dd1.typeIs PySem.F.entry_dict_update (PySem.F.args_dict_update_2 _ _) (meets_dict_update (mixKind X.prog X.w) a b nab hd2)
    ⟨vs1, vs2, dd1, dd2, (by rw [← rel1.length, ← rel2.length]; exact hz), fun h' dd' _ hs => ?_⟩
  have he : ∃ q, h'.get? a = some q := let ⟨q, _, _, hq, _⟩ := dd'; ⟨q, hq⟩
  have hl : (mergeK kvs more).length ≤ sizeLine := Nat.le_trans (length_mergeK more kvs) hz
  exact ⟨.non, _, d_write (t' := s.toks) I (by rw [ea]; exact True.intro) hs he (dk_new hl hd1 (KV.merge rel2 rel1) dd'), rfl, q⟩
/-! ### {k: v for ..}: the new dict apart from all else -/
def DcN (R : Nat → List (Key × V) → Hp → Prop) (D : Addr) (i : Nat) : Hp → Prop := fun H => ∃ kvs G, G D = none ∧ R i kvs G ∧ H = upd G D (.dK kvs)
theorem dc_put {R : Nat → List (Key × V) → Hp → Prop} {D : Addr} {i : Nat} {kvs : List (Key × V)} {G : Hp} {k : Key} {z : V} (hG : G D = none) (hl : kvs.length < sizeLine) (h : R i (putK kvs k z) G) :
    ∃ kvs' k', kV k = kV k' ∧ (upd G D (.dK kvs)) D = some (.dK kvs') ∧ kvs'.length < sizeLine ∧ DcN R D i (upd (upd G D (.dK kvs)) D (.dK (putK kvs' k' z))) :=
  ⟨kvs, k, rfl, upd_same, hl, _, G, hG, h, upd_upd⟩
theorem dc_w {J : It} {n : Nat} {Gd : Hp → Prop} {Y : Nat → Hp → V → Hp → Prop} (w : Walk J n Gd Y) {g : TG} {tt : TT} {tk tv : TE} {vs : List Nat} {σ : L2.St} {H : Hp} {D : Addr} {Qd : Hp → Prop} (R : Nat → List (Key × V) → Hp → Prop)
    (hD : H D = none) (h0 : R 0 [] H) (hG : ∀ i kvs G, i ≤ n → G D = none → R i kvs G → Gd (upd G D (.dK kvs)))
    (hs : ∀ i x kvs G H', i < n → G D = none → R i kvs G → Y i (upd G D (.dK kvs)) x H' → g x (wipe σ vs) H' fun σ2 H2 => wipe σ2 vs = wipe σ vs ∧ tt σ2 H2 fun b H3 =>
      if b = true then tk σ2 H3 fun y H4 => tv σ2 H4 fun z H5 => ∃ kvs k, y = kV k ∧ H5 D = some (.dK kvs) ∧ kvs.length < sizeLine ∧ DcN R D (i + 1) (upd H5 D (.dK (putK kvs k z))) else DcN R D (i + 1) H3)
    (hd : ∀ kvs G, G D = none → R n kvs G → Qd (upd G D (.dK kvs))) :
    ∃ W : Nat → Nat → Hp → Prop, (∃ m, W 0 m (upd H D (.dK []))) ∧ ∀ i m H, W i m H →
      (J.stop i H ∧ Qd H) ∨ (J.go i H ∧ ∃ Nx : Hp → Prop, (∀ H', Nx H' → ∃ m', m' < m ∧ W (i + 1) m' H') ∧ ∀ x H', J.yld i H x H' → g x (wipe σ vs) H' fun σ2 H2 => wipe σ2 vs = wipe σ vs ∧ tt σ2 H2 fun b H3 =>
        if b = true then tk σ2 H3 fun y H4 => tv σ2 H4 fun z H5 => ∃ kvs k, y = kV k ∧ H5 D = some (.dK kvs) ∧ kvs.length < sizeLine ∧ Nx (upd H5 D (.dK (putK kvs k z))) else Nx H3) := by
  refine ⟨fun i m H => m = n - i ∧ i ≤ n ∧ DcN R D i H, ⟨n, by simp, Nat.zero_le _, [], H, hD, h0, rfl⟩, ?_⟩
  rintro i m H1 ⟨rfl, hi, p⟩
  obtain ⟨kvs, G, hGD, r, rfl⟩ := p
  have q := hG i kvs G hi hGD r
  by_cases hlt : i < n
  · exact .inr ⟨w.goes i _ hlt q, DcN R D (i + 1), fun H' p' => ⟨n - (i + 1), by omega, rfl, hlt, p'⟩, fun x H' y => hs i x kvs G H' hlt hGD r (w.yields i _ x H' hlt q y)⟩
  · have e : i = n := by omega
    subst e
    exact .inl ⟨w.stops _ q, hd kvs G hGD r⟩
theorem same_updD {G : Hp} {D : Addr} {o : HO} (hG : G D = none) : Same G (upd G D o) := same_new hG
/-- {.. for x in a list or a tuple} -/
theorem dc_sq {K : PySem.W.Frag} {a : Addr} {xs : List V} {g : TG} {tt : TT} {tk tv : TE} {vs : List Nat} {σ : L2.St} {H : Hp} {Q : VK} (hS : Sq K H a xs) (R : Nat → List (Key × V) → Hp → Prop) (h0 : R 0 [] H) (hR : ∀ i kvs G, R i kvs G → Same H G)
    (hs : ∀ i x kvs G D, xs[i]? = some x → G D = none → R i kvs G → g x (wipe σ vs) (upd G D (.dK kvs)) fun σ2 H2 => wipe σ2 vs = wipe σ vs ∧ tt σ2 H2 fun b H3 =>
      if b = true then tk σ2 H3 fun y H4 => tv σ2 H4 fun z H5 => ∃ kvs k, y = kV k ∧ H5 D = some (.dK kvs) ∧ kvs.length < sizeLine ∧ DcN R D (i + 1) (upd H5 D (.dK (putK kvs k z))) else DcN R D (i + 1) H3)
    (hd : ∀ D kvs G, G D = none → R xs.length kvs G → Q (.ref D) (upd G D (.dK kvs))) (tl : TE) (ht : ∀ R' : V → Hp → Prop, R' (.ref a) H → tl σ H R') : tDc (iSqW K tl) g tt tk tv vs σ H Q := by
  refine ht _ ⟨a, xs, rfl, ?_⟩
  rcases hS with hS | hS
  · refine .inl ⟨hS, fun D hD => dc_w walk_sqL R hD h0 (fun i kvs G _ hG r => (same_updD hG).seq ((hR i kvs G r).seq hS)) (fun i x kvs G H' hi hG r y => ?_) (fun kvs G hG r => hd D kvs G hG r)⟩
    obtain ⟨rfl, hx⟩ := y
    exact hs i x kvs G D hx hG r
  · refine .inr ⟨hS, fun D hD => dc_w walk_sqT R hD h0 (fun i kvs G _ hG r => sqt_same (same_updD hG) (sqt_same (hR i kvs G r) hS)) (fun i x kvs G H' hi hG r y => ?_) (fun kvs G hG r => hd D kvs G hG r)⟩
    obtain ⟨rfl, hx⟩ := y
    exact hs i x kvs G D hx hG r
/-- loops whose list or tuple stays, whatever else changes -/
theorem for_sqT {K : PySem.W.Frag} {a : Addr} {xs : List V} {g : TG} {tb : TS} {D : Ends} {σ : L2.St} {H : Hp} (Pv : Nat → L2.St → Hp → Prop) (h0 : Pv 0 σ H) (hk : ∀ i σ' H', Pv i σ' H' → SqT K H' a xs)
    (hs : ∀ i x σ H, xs[i]? = some x → Pv i σ H → g x σ H fun σ2 H2 => tb { D with nx := Pv (i + 1), ct := Pv (i + 1), bk := D.nx } σ2 H2) (hd : ∀ σ H, Pv xs.length σ H → D.nx σ H) (tl : TE)
    (ht : ∀ R : V → Hp → Prop, R (.ref a) H → tl σ H R) : tFor (iSqW K tl) g tb D σ H := by
  refine ht _ ⟨a, xs, rfl, .inr ⟨hk 0 σ H h0, fun i m σ H => m = xs.length - i ∧ i ≤ xs.length ∧ Pv i σ H, ⟨xs.length, rfl, Nat.zero_le _, h0⟩, ?_⟩⟩
  rintro i m σ' H' ⟨rfl, hi, p⟩
  have gg := hk i σ' H' p
  by_cases hlt : i < xs.length
  · refine .inr ⟨⟨gg, hlt⟩, Pv (i + 1), fun σ2 H2 p2 => ⟨xs.length - (i + 1), by omega, rfl, hlt, p2⟩, fun x H2 y => ?_⟩
    obtain ⟨rfl, hx⟩ := y
    exact hs i x σ' H2 hx p
  · have e : i = xs.length := by omega
    subst e
    exact .inl ⟨⟨gg, Nat.le_refl _⟩, hd σ' H' p⟩
theorem for_sqL {K : PySem.W.Frag} {a : Addr} {xs : List V} {g : TG} {tb : TS} {D : Ends} {σ : L2.St} {H : Hp} (Pv : Nat → L2.St → Hp → Prop) (h0 : Pv 0 σ H) (hk : ∀ i σ' H', Pv i σ' H' → SqL K H' a xs)
    (hs : ∀ i x σ H, xs[i]? = some x → Pv i σ H → g x σ H fun σ2 H2 => tb { D with nx := Pv (i + 1), ct := Pv (i + 1), bk := D.nx } σ2 H2) (hd : ∀ σ H, Pv xs.length σ H → D.nx σ H) (tl : TE)
    (ht : ∀ R : V → Hp → Prop, R (.ref a) H → tl σ H R) : tFor (iSqW K tl) g tb D σ H := by
  refine ht _ ⟨a, xs, rfl, .inl ⟨hk 0 σ H h0, fun i m σ H => m = xs.length - i ∧ i ≤ xs.length ∧ Pv i σ H, ⟨xs.length, rfl, Nat.zero_le _, h0⟩, ?_⟩⟩
  rintro i m σ' H' ⟨rfl, hi, p⟩
  have gg := hk i σ' H' p
  by_cases hlt : i < xs.length
  · refine .inr ⟨⟨gg, hlt⟩, Pv (i + 1), fun σ2 H2 p2 => ⟨xs.length - (i + 1), by omega, rfl, hlt, p2⟩, fun x H2 y => ?_⟩
    obtain ⟨rfl, hx⟩ := y
    exact hs i x σ' H2 hx p
  · have e : i = xs.length := by omega
    subst e
    exact .inl ⟨⟨gg, Nat.le_refl _⟩, hd σ' H' p⟩
/-- keys alone count -/
theorem valV_isSome {kvs : List (Key × V)} {k : Key} : (valV kvs k).isSome = true ↔ k ∈ kvs.map (·.1) := by
  rw [← valV_any, List.any_eq_true]
  constructor
  · rintro ⟨p, hp, e⟩
    rw [decide_eq_true_eq] at e
    exact List.mem_map.mpr ⟨p, hp, e⟩
  · intro h
    obtain ⟨p, hp, e⟩ := List.mem_map.mp h
    exact ⟨p, hp, by rw [decide_eq_true_eq]; exact e⟩
theorem putK_keys {kvs : List (Key × V)} {k j : Key} {z : V} : j ∈ (putK kvs k z).map (·.1) ↔ j ∈ kvs.map (·.1) ∨ j = k := by
  rw [← valV_isSome, ← valV_isSome, valV_put]
  by_cases e : j = k
  · rw [if_pos e]
    simp [e]
  · rw [if_neg e]
    simp [e]
theorem merge_keys {j : Key} : ∀ {more kvs : List (Key × V)}, j ∈ (mergeK kvs more).map (·.1) ↔ j ∈ kvs.map (·.1) ∨ j ∈ more.map (·.1)
  | [], kvs => by show j ∈ kvs.map (·.1) ↔ _; simp
  | p :: r, kvs => by
    show j ∈ (mergeK (putK kvs p.1 p.2) r).map (·.1) ↔ _
    rw [merge_keys, putK_keys, List.map_cons, List.mem_cons]
    constructor
    · rintro ((h | h) | h)
      · exact .inl h
      · exact .inr (.inl h)
      · exact .inr (.inr h)
    · rintro (h | h | h)
      · exact .inl (.inl h)
      · exact .inl (.inr h)
      · exact .inr h
/-- a def that a slot holds, one of several, called; it may raise -/
def tCallAX (i : Nat) (S : Addr → Option Sp) (E : XK) (t : TA) : TE := fun σ H Q => ∃ f sp, σ[i]? = some (some (.ref f)) ∧ S f = some sp ∧ t σ H fun vs H1 => sp vs H1 Q E
theorem pe_callAX {X : Cx} {CX : CXT} {k i : Nat} {S : Addr → Option Sp} {E : XK} {x : PySem.Str} {p pos : Pos} {e : Expr} {es : List Expr} {t : TA}
    (A : ∀ f sp, S f = some sp → ∃ (fd : FuncData) (ps : List PySem.Str), FnOk X.prog X.w X.K X.mg X.base CX k f fd ps sp ∧ PySem.W.keepIn X.K (.ref f) = true ∧ Binds X.K fd ps [])
    (hr : Room k X.A) (hN : X.N[i]? = some x) (hv : Vis X.env.scope x) (hx : Passes CX X E) (ha : PA X (e :: es) t)
    (hdb : (x == ("__debug__" : PySem.Str)) = false := by decide) (hcd : (x == ("__classdict__" : PySem.Str)) = false := by decide)
    (he : starEach (e :: es) X.env = (false, eval e X.env) :: starEach es X.env := by rfl) (hpl : (backTo pos (starEach es X.env)).any (·.1) = false := by rfl) : PE X (.Call (.Name x p) (e :: es) [] pos) (tCallAX i S E t) := by
  refine ⟨fun pins s σ H Q I h => ?_⟩
  obtain ⟨f, sp, hs, hS, ht⟩ := h
  obtain ⟨fd, ps, F, hk, hb⟩ := A f sp hS
  refine (pe_callL (i := i) (f := f) (sp := sp) (dvs := []) (E := E) F hr hN hv hk hb .nil hx ha hdb hcd he hpl).run pins s σ H Q I ⟨hs, ?_⟩
  have e0 : (fun (vs : List V) (H1 : Hp) => sp (vs ++ []) H1 Q E) = fun vs H1 => sp vs H1 Q E := by
    funext vs H1
    rw [List.append_nil]
  show t σ H (fun vs H1 => sp (vs ++ []) H1 Q E)
  rw [e0]
  exact ht
end L2
namespace Shf
open PySem PySem.Spec PyProof.Rows L2
/-! ### links and rows as data -/
abbrev nI (l : List Nat) : List PyData := l.map fun x : Nat => .int (x : Int)
abbrev nV (l : List Nat) : List V := l.map fun x : Nat => .int (x : Int)
def lkD (L : List (Nat × Nat)) : PyData := .tuple (L.map fun p => .tuple [.int (p.1 : Int), .int (p.2 : Int)])
def rwD (rs : List (List Nat)) : PyData := .tuple (rs.map fun r => .tuple (nI r))
theorem dAll_nat {K : PySem.W.Frag} {H : Hp} : ∀ l : List Nat, DpAll K H (nV l) (nI l)
  | [] => .nil
  | i :: r => .cons (.int i) (dAll_nat r)
theorem dAll_nat_vs {K : PySem.W.Frag} {H : Hp} : ∀ {l : List Nat} {vs : List V}, DpAll K H vs (nI l) → vs = nV l
  | [], _, .nil => rfl
  | i :: r, _, .cons h t => by
    cases h
    exact congrArg (V.int (i : Int) :: ·) (dAll_nat_vs t)
theorem nI_inj : ∀ {l m : List Nat}, nI l = nI m → l = m
  | [], [], _ => rfl
  | [], _ :: _, h => by cases h
  | _ :: _, [], h => by cases h
  | a :: r, b :: q, h => by
    have h1 := List.cons.inj h
    have h2 : (a : Int) = b := PyData.int.inj h1.1
    rw [show a = b by omega, nI_inj h1.2]
theorem nV_eq (l : List Nat) : nV l = (l.map fun x : Nat => (x : Int)).map V.int := by
  rw [List.map_map]
  rfl
theorem upd_swap {H : Hp} {a b : Addr} {o u : HO} (h : a ≠ b) : upd (upd H a o) b u = upd (upd H b u) a o := by
  funext c
  by_cases e1 : c = b
  · subst e1
    rw [upd_same, upd_ne (Ne.symm h), upd_same]
  · rw [upd_ne e1]
    by_cases e2 : c = a
    · subst e2
      rw [upd_same, upd_same]
    · rw [upd_ne e2, upd_ne e2, upd_ne e1]
theorem core2 {G H4 : Hp} {a b : Addr} {x y : HO} (h : Same (upd (upd G a x) b y) H4) (n : a ≠ b) (ha : G a = none) (hb : G b = none) : ∃ G2, G2 a = none ∧ G2 b = none ∧ Same G G2 ∧ H4 = upd (upd G2 a x) b y := by
  have hb' : (upd G a x) b = none := (upd_ne (Ne.symm n)).trans hb
  obtain ⟨G1, g1, s1, rfl⟩ := core_of h hb'
  obtain ⟨G2, g2, s2, rfl⟩ := core_of s1 ha
  refine ⟨G2, g2, ?_, s2, rfl⟩
  rw [upd_ne (Ne.symm n)] at g1
  exact g1
theorem dp_core2 {K : PySem.W.Frag} {G : Hp} {a b q : Addr} {x y : HO} {xs : List V} (h : SqT K (upd (upd G a x) b y) q xs) (nx : ∀ z, x ≠ .tup z) (ny : ∀ z, y ≠ .tup z) (nx' : ∀ o z, x ≠ .frz o z) (ny' : ∀ o z, y ≠ .frz o z) : SqT K G q xs := by
  have look : ∀ u, (upd (upd G a x) b y) q = some u → u = x ∨ u = y ∨ G q = some u := fun u e => by
    by_cases e1 : q = b
    · subst e1
      rw [upd_same] at e
      exact .inr (.inl (Option.some.inj e).symm)
    · rw [upd_ne e1] at e
      by_cases e2 : q = a
      · subst e2
        rw [upd_same] at e
        exact .inl (Option.some.inj e).symm
      · rw [upd_ne e2] at e
        exact .inr (.inr e)
  rcases h with (h | ⟨o, h⟩) | h
  · rcases look _ h with e | e | e
    · exact absurd e.symm (nx _)
    · exact absurd e.symm (ny _)
    · exact .inl (.inl e)
  · rcases look _ h with e | e | e
    · exact absurd e.symm (nx' _ _)
    · exact absurd e.symm (ny' _ _)
    · exact .inl (.inr ⟨o, e⟩)
  · exact .inr h
theorem link_of {K : PySem.W.Frag} {H : Hp} {v : V} {a b : Int} (h : Dp K H v (.tuple [.int a, .int b])) : ∃ t, v = .ref t ∧ SqT K H t [.int a, .int b] := by
  cases h with
  | tup h1 h2 =>
    cases h2 with
    | cons x1 x2 =>
      cases x2 with
      | cons y1 y2 =>
        cases x1
        cases y1
        cases y2
        exact ⟨_, rfl, h1⟩
theorem tup_of {K : PySem.W.Frag} {H : Hp} {v : V} {ds : List PyData} (h : Dp K H v (.tuple ds)) : ∃ a vs, v = .ref a ∧ SqT K H a vs ∧ DpAll K H vs ds := by
  cases h with
  | tup h1 h2 => exact ⟨_, _, rfl, h1, h2⟩
/-- fresh lists that hold numbers -/
def RowsH (H : Hp) (ps : List Addr) (f : Nat → List Nat) : Prop := ∀ j p, ps[j]? = some p → H p = some (.lst (nV (f j)))
theorem getElem?_inj {ps : List Addr} (nd : ps.Nodup) {i j : Nat} {p : Addr} (h1 : ps[i]? = some p) (h2 : ps[j]? = some p) : i = j := by
  have l1 := (List.getElem?_eq_some_iff.mp h1).1
  have l2 := (List.getElem?_eq_some_iff.mp h2).1
  exact (List.getElem?_inj (i := i) (j := j) l1 nd).mp (h1.trans h2.symm)
theorem RowsH.put {H : Hp} {ps : List Addr} {f : Nat → List Nat} {j x : Nat} {p : Addr} (h : RowsH H ps f) (nd : ps.Nodup) (hp : ps[j]? = some p) : RowsH (upd H p (.lst (nV (f j) ++ [.int (x : Int)]))) ps (fun k => if k = j then f k ++ [x] else f k) := by
  intro k q hq
  show _ = some (HO.lst (nV (if k = j then f k ++ [x] else f k)))
  by_cases e : k = j
  · subst e
    rw [hp] at hq
    cases hq
    rw [if_pos rfl, upd_same, show nV (f k ++ [x]) = nV (f k) ++ [V.int (x : Int)] from List.map_append]
  · rw [if_neg e, upd_ne]
    · exact h k q hq
    · rintro rfl
      exact e (getElem?_inj nd hq hp)
theorem nb_snoc (L : List (Nat × Nat)) (p : Nat × Nat) (k : Nat) : nbL (L ++ [p]) k = nbL L k ++ ((if p.1 = k then [p.2] else []) ++ (if p.2 = k then [p.1] else [])) := by
  unfold nbL
  rw [List.flatMap_append, List.flatMap_cons, List.flatMap_nil, List.append_nil]
theorem nb_two {L : List (Nat × Nat)} {p : Nat × Nat} {k : Nat} : (if k = p.2 then (if k = p.1 then nbL L k ++ [p.2] else nbL L k) ++ [p.1] else (if k = p.1 then nbL L k ++ [p.2] else nbL L k)) = nbL (L ++ [p]) k := by
  rw [nb_snoc]
  by_cases e1 : p.1 = k
  · rw [if_pos e1]
    by_cases e2 : p.2 = k
    · rw [if_pos e2.symm, if_pos e1.symm, if_pos e2, List.append_assoc]
    · rw [if_neg (fun z => e2 z.symm), if_pos e1.symm, if_neg e2, List.append_nil]
  · rw [if_neg e1]
    by_cases e2 : p.2 = k
    · rw [if_pos e2.symm, if_neg (fun z => e1 z.symm), if_pos e2, List.nil_append]
    · rw [if_neg (fun z => e2 z.symm), if_neg (fun z => e1 z.symm), if_neg e2, List.append_nil, List.append_nil]
theorem nb_len (L : List (Nat × Nat)) (k : Nat) : (nbL L k).length ≤ 2 * L.length := by
  induction L with
  | nil => exact Nat.zero_le _
  | cons p r ih =>
    have e : nbL (p :: r) k = ((if p.1 = k then [p.2] else []) ++ (if p.2 = k then [p.1] else [])) ++ nbL r k := rfl
    rw [e, List.length_append, List.length_append, List.length_cons]
    have h1 : (if p.1 = k then [p.2] else []).length ≤ 1 := by split <;> simp
    have h2 : (if p.2 = k then [p.1] else []).length ≤ 1 := by split <;> simp
    omega
theorem row_at {K : PySem.W.Frag} {H : Hp} {rs : List (List Nat)} {xs : List V} {j : Nat} {r : List Nat} (h : DpAll K H xs (rs.map fun r => PyData.tuple (nI r))) (hj : rs[j]? = some r) : ∃ t, xs[j]? = some (.ref t) ∧ SqT K H t (nV r) := by
  have hl := h.len
  rw [List.length_map] at hl
  have lt := (List.getElem?_eq_some_iff.mp hj).1
  have e : xs[j]? = some (xs[j]'(by omega)) := List.getElem?_eq_getElem _
  obtain ⟨d, hd, hp⟩ := h.at e
  rw [List.getElem?_map, hj] at hd
  cases hd
  obtain ⟨t, vs, e2, hT, hA⟩ := tup_of hp
  rw [e, e2]
  rw [dAll_nat_vs hA] at hT
  exact ⟨t, rfl, hT⟩
abbrev keysN (o : List Nat) : List Key := o.map fun x : Nat => Sum.inl (x : Int)
theorem keysN_mem {o : List Nat} {x : Nat} : (Sum.inl (x : Int) : Key) ∈ keysN o ↔ x ∈ o := by
  rw [List.mem_map]
  constructor
  · rintro ⟨y, hy, e⟩
    have e2 : (y : Int) = x := Sum.inl.inj e
    rw [show x = y by omega]
    exact hy
  · intro h
    exact ⟨x, h, rfl⟩
/-- what is met from f -/
def Met (rs : List (List Nat)) (f : Nat) (o : List Nat) : Prop := o.Nodup ∧ ∀ x, x ∈ o ↔ Rch (Rw rs) f x
/-- going on from f: all of o hang on f, and what is linked to its first i stands in it -/
structure Bfs (rs : List (List Nat)) (f : Nat) (o : List Nat) (i : Nat) : Prop where
  nd : o.Nodup
  fst : f ∈ o
  on : ∀ x ∈ o, Rch (Rw rs) f x
  le : i ≤ o.length
  done : ∀ j x, j < i → o[j]? = some x → ∀ c, Rw rs x c → c ∈ o
theorem Bfs.met {rs : List (List Nat)} {f : Nat} {o : List Nat} {i : Nat} (b : Bfs rs f o i) (h : ¬ i < o.length) : Met rs f o := by
  refine ⟨b.nd, fun x => ⟨b.on x, fun r => ?_⟩⟩
  refine Rch.closed (S := fun x => x ∈ o) (fun y z hy e => ?_) b.fst r
  obtain ⟨j, hj, rfl⟩ := List.mem_iff_getElem.mp hy
  exact b.done j _ (by omega) (List.getElem?_eq_getElem hj) z e
open Classical in
/-- the parts whose least is below i -/
noncomputable def fstTo (i : Nat) (E : Nat → Nat → Prop) : List Nat := (List.range i).filter fun f => decide (∀ g, g < f → ¬ Rch E g f)
theorem fstTo_yes {i : Nat} {E : Nat → Nat → Prop} (h : ∀ g, g < i → ¬ Rch E g i) : fstTo (i + 1) E = fstTo i E ++ [i] := by
  unfold fstTo
  rw [List.range_succ, List.filter_append, List.filter_cons, if_pos (by rw [@decide_eq_true_eq _ (_)]; exact h), List.filter_nil]
theorem fstTo_no {i : Nat} {E : Nat → Nat → Prop} (h : ¬ ∀ g, g < i → ¬ Rch E g i) : fstTo (i + 1) E = fstTo i E := by
  unfold fstTo
  rw [List.range_succ, List.filter_append, List.filter_cons, if_neg (by rw [@decide_eq_true_eq _ (_)]; exact h), List.filter_nil, List.append_nil]
theorem fstTo_len (i : Nat) (E : Nat → Nat → Prop) : (fstTo i E).length ≤ i := by
  unfold fstTo
  exact Nat.le_trans (List.length_filter_le _ _) (by rw [List.length_range]; exact Nat.le_refl _)
/-- what was met by the parts whose least is below i -/
def metTo (i : Nat) (E : Nat → Nat → Prop) (ks : List Key) : Prop := ∀ c : Nat, (Sum.inl (c : Int) : Key) ∈ ks ↔ ∃ g, g < i ∧ Rch E g c
def spLinkedRows (K : PySem.W.Frag) : Sp := fun vs H Q _ => ∃ (m : Nat) (v : V) (L : List (Nat × Nat)), vs = [.int m, v] ∧ Dp K H v (lkD L) ∧ (∀ p ∈ L, p.1 < m ∧ p.2 < m) ∧ m ≤ 3000 ∧ L.length ≤ 3000 ∧ ∀ r H', Same H H' → Dp K H' r (rwD (rowsOf m L)) → Q r H'
def spMet (K : PySem.W.Frag) : Sp := fun vs H Q _ => ∃ (v : V) (f : Nat) (rs : List (List Nat)), vs = [v, .int f] ∧ Dp K H v (rwD rs) ∧ f < rs.length ∧ (∀ r ∈ rs, ∀ x ∈ r, x < rs.length) ∧ rs.length ≤ 3000 ∧
  ∀ p H' kvs o, Same H H' → H p = none → H' p = some (.dK kvs) → kvs.map (·.1) = o.map (fun x : Nat => Sum.inl (x : Int)) → Met rs f o → Q (.ref p) H'
def spReached (K : PySem.W.Frag) : Sp := fun vs H Q _ => ∃ (v : V) (f : Nat) (rs : List (List Nat)), vs = [v, .int f] ∧ Dp K H v (rwD rs) ∧ f < rs.length ∧ (∀ r ∈ rs, ∀ x ∈ r, x < rs.length) ∧ rs.length ≤ 3000 ∧
  ∀ p H' o, Same H H' → H p = none → H' p = some (.lst (nV o)) → Met rs f o → Q (.ref p) H'
def spHanging (K : PySem.W.Frag) : Sp := fun vs H Q _ => ∃ v rs, vs = [v] ∧ Dp K H v (rwD rs) ∧ (∀ r ∈ rs, ∀ x ∈ r, x < rs.length) ∧ (∀ a b, Rw rs a b → Rw rs b a) ∧ rs.length ≤ 3000 ∧
  ∀ r H', Same H H' → Dp K H' r (rwD (partsOf rs.length (Rw rs))) → Q r H'
theorem met_len {rs : List (List Nat)} {f : Nat} {o : List Nat} {n : Nat} (hf : f < n) (hb : ∀ a b, Rw rs a b → b < n) (nd : o.Nodup) (hm : ∀ x ∈ o, Rch (Rw rs) f x) : o.length ≤ n := by
  have z := List.Nodup.length_le_of_subset nd (l₂ := List.range n) fun x hx => List.mem_range.mpr (Rch.lt hb hf (hm x hx))
  rw [List.length_range] at z
  exact z
theorem rw_lt {rs : List (List Nat)} (h : ∀ r ∈ rs, ∀ x ∈ r, x < rs.length) : ∀ a b, Rw rs a b → b < rs.length := fun a b e => by
  unfold Rw at e
  rw [List.getD_eq_getElem?_getD] at e
  cases z : rs[a]? with
  | none => rw [z] at e; simp at e
  | some r =>
    rw [z] at e
    exact h r (List.mem_of_getElem? z) b e
end Shf

namespace Shf
/-! ### chains and their links -/
abbrev NCh := Bool × List Nat
def ord2 (p : Nat × Nat) : Nat × Nat := (min p.1 p.2, max p.1 p.2)
def side (l : List Nat) : List (Nat × Nat) := l.zip l.tail
def clk (c : NCh) : List (Nat × Nat) := (side c.2).map ord2 ++ if c.1 = true then [ord2 (c.2.headD 0, c.2.getLastD 0)] else []
def lks (cs : List NCh) : List (Nat × Nat) := cs.flatMap clk
def lt2 (p q : Nat × Nat) : Prop := p.1 < q.1 ∨ (p.1 = q.1 ∧ p.2 < q.2)
def grid : List (Nat × Nat) := (List.range 64).flatMap fun x => (List.range 64).map fun y => (x, y)
/-- each once, ascending (numbers below 64) -/
def sdL (l : List (Nat × Nat)) : List (Nat × Nat) := grid.filter fun p => decide (p ∈ l)
theorem grid_asc : grid.Pairwise lt2 := by
  unfold grid
  rw [List.pairwise_flatMap]
  constructor
  · intro x _
    rw [List.pairwise_map]
    exact List.pairwise_lt_range.imp fun h => .inr ⟨rfl, h⟩
  · refine List.pairwise_lt_range.imp fun h p hp q hq => ?_
    obtain ⟨y, _, rfl⟩ := List.mem_map.mp hp
    obtain ⟨z, _, rfl⟩ := List.mem_map.mp hq
    exact .inl h
theorem sd_asc (l : List (Nat × Nat)) : (sdL l).Pairwise lt2 := List.Pairwise.filter _ grid_asc
theorem sd_mem {l : List (Nat × Nat)} (hb : ∀ p ∈ l, p.1 < 64 ∧ p.2 < 64) {p : Nat × Nat} : p ∈ sdL l ↔ p ∈ l := by
  unfold sdL
  rw [List.mem_filter, decide_eq_true_eq]
  refine ⟨fun h => h.2, fun h => ⟨?_, h⟩⟩
  obtain ⟨h1, h2⟩ := hb p h
  unfold grid
  rw [List.mem_flatMap]
  exact ⟨p.1, List.mem_range.mpr h1, List.mem_map.mpr ⟨p.2, List.mem_range.mpr h2, rfl⟩⟩
theorem lt2_as : ∀ a b, lt2 a b → ¬ lt2 b a := by
  intro a b h g
  unfold lt2 at h g
  omega
theorem sd_uni {l m : List (Nat × Nat)} (hb : ∀ p ∈ l, p.1 < 64 ∧ p.2 < 64) (ha : m.Pairwise lt2) (hm : ∀ p, p ∈ m ↔ p ∈ l) : m = sdL l :=
  asc_ext lt2_as ha (sd_asc l) fun p => by rw [hm, sd_mem hb]
theorem sd_congr {l m : List (Nat × Nat)} (h : ∀ p, p ∈ l ↔ p ∈ m) : sdL l = sdL m := by
  unfold sdL
  refine List.filter_congr fun p _ => ?_
  exact decide_eq_decide.mpr (h p)
theorem side_mem {l : List Nat} {a b : Nat} : (a, b) ∈ side l ↔ ∃ i, l[i]? = some a ∧ l[i + 1]? = some b := by
  unfold side
  rw [List.mem_iff_getElem?]
  constructor
  · rintro ⟨i, h⟩
    rw [List.getElem?_zip_eq_some] at h
    refine ⟨i, h.1, ?_⟩
    have y := h.2
    rw [List.getElem?_tail] at y
    exact y
  · rintro ⟨i, h1, h2⟩
    refine ⟨i, ?_⟩
    rw [List.getElem?_zip_eq_some]
    refine ⟨h1, ?_⟩
    rw [List.getElem?_tail]
    exact h2
theorem ord2_lt {a b : Nat} (h : a < b) : ord2 (a, b) = (a, b) ∧ ord2 (b, a) = (a, b) := by
  unfold ord2
  simp only [Prod.mk.injEq]
  omega
/-- a chain as it may be: cells unlike, below m; a ring has three -/
structure ChOk (m : Nat) (c : NCh) : Prop where
  nd : c.2.Nodup
  lt : ∀ x ∈ c.2, x < m
  ne : 1 ≤ c.2.length
  ring : c.1 = true → 3 ≤ c.2.length
/-! #### the law's own links -/
def llk1 (c : NCh) (i : Nat) : List (Nat × Nat) := if i + 1 < c.2.length ∨ c.1 = true then [(c.2.getD i 0, c.2.getD ((i + 1) % c.2.length) 0), (c.2.getD ((i + 1) % c.2.length) 0, c.2.getD i 0)] else []
def llkTo (c : NCh) (k : Nat) : List (Nat × Nat) := (List.range k).flatMap (llk1 c)
def llk (c : NCh) : List (Nat × Nat) := llkTo c c.2.length
def llks (cs : List NCh) : List (Nat × Nat) := cs.flatMap llk
theorem llkTo_succ (c : NCh) (k : Nat) : llkTo c (k + 1) = llkTo c k ++ llk1 c k := by
  unfold llkTo
  rw [List.range_succ, List.flatMap_append, List.flatMap_cons, List.flatMap_nil, List.append_nil]
theorem getD_of {l : List Nat} {i a : Nat} (h : l[i]? = some a) : l.getD i 0 = a := by
  rw [List.getD_eq_getElem?_getD, h]
  rfl
/-- side by side: a and b stand at neighbouring places, or at the last and the first of a ring -/
def Adj (c : NCh) (a b : Nat) : Prop := (∃ i, c.2[i]? = some a ∧ c.2[i + 1]? = some b) ∨ (c.1 = true ∧ c.2[c.2.length - 1]? = some a ∧ c.2[0]? = some b)
theorem llk_mem {c : NCh} {m : Nat} (ok : ChOk m c) {a b : Nat} : (a, b) ∈ llk c ↔ Adj c a b ∨ Adj c b a := by
  have one : ∀ i, i < c.2.length → ((a, b) ∈ llk1 c i ↔ (i + 1 < c.2.length ∨ c.1 = true) ∧ ((c.2[i]? = some a ∧ c.2[(i + 1) % c.2.length]? = some b) ∨ (c.2[i]? = some b ∧ c.2[(i + 1) % c.2.length]? = some a))) := by
    intro i hi
    unfold llk1
    have m2 : (i + 1) % c.2.length < c.2.length := Nat.mod_lt _ (by omega)
    have g1 : c.2[i]? = some (c.2.getD i 0) := by rw [List.getD_eq_getElem?_getD, List.getElem?_eq_getElem hi]; rfl
    have g2 : c.2[(i + 1) % c.2.length]? = some (c.2.getD ((i + 1) % c.2.length) 0) := by rw [List.getD_eq_getElem?_getD, List.getElem?_eq_getElem m2]; rfl
    rw [g1, g2]
    by_cases h : i + 1 < c.2.length ∨ c.1 = true
    · rw [if_pos h]
      simp only [List.mem_cons, Prod.mk.injEq, List.not_mem_nil, or_false, Option.some.injEq, h, true_and]
      constructor
      · rintro (⟨rfl, rfl⟩ | ⟨rfl, rfl⟩)
        · exact .inl ⟨rfl, rfl⟩
        · exact .inr ⟨rfl, rfl⟩
      · rintro (⟨rfl, rfl⟩ | ⟨rfl, rfl⟩)
        · exact .inl ⟨rfl, rfl⟩
        · exact .inr ⟨rfl, rfl⟩
    · rw [if_neg h]
      simp [h]
  have mid : ∀ i x y, i < c.2.length → (i + 1 < c.2.length ∨ c.1 = true) → c.2[i]? = some x → c.2[(i + 1) % c.2.length]? = some y → Adj c x y := by
    intro i x y hi h h1 h2
    by_cases e : i + 1 < c.2.length
    · rw [Nat.mod_eq_of_lt e] at h2
      exact .inl ⟨i, h1, h2⟩
    · have e2 : i + 1 = c.2.length := by omega
      rw [e2, Nat.mod_self] at h2
      rcases h with h | h
      · exact absurd h e
      · refine .inr ⟨h, ?_, h2⟩
        rw [show c.2.length - 1 = i by omega]
        exact h1
  unfold llk llkTo
  rw [List.mem_flatMap]
  constructor
  · rintro ⟨i, hi, h⟩
    rw [List.mem_range] at hi
    rw [one i hi] at h
    obtain ⟨h0, h | h⟩ := h
    · exact .inl (mid i a b hi h0 h.1 h.2)
    · exact .inr (mid i b a hi h0 h.1 h.2)
  · have back : ∀ x y, Adj c x y → ∃ i, i < c.2.length ∧ (i + 1 < c.2.length ∨ c.1 = true) ∧ c.2[i]? = some x ∧ c.2[(i + 1) % c.2.length]? = some y := by
      rintro x y (⟨i, h1, h2⟩ | ⟨h0, h1, h2⟩)
      · have l2 := (List.getElem?_eq_some_iff.mp h2).1
        exact ⟨i, by omega, .inl l2, h1, by rw [Nat.mod_eq_of_lt l2]; exact h2⟩
      · have := ok.ne
        exact ⟨c.2.length - 1, by omega, .inr h0, h1, by rw [show c.2.length - 1 + 1 = c.2.length by omega, Nat.mod_self]; exact h2⟩
    rintro (h | h)
    · obtain ⟨i, hi, h0, h1, h2⟩ := back a b h
      exact ⟨i, List.mem_range.mpr hi, (one i hi).mpr ⟨h0, .inl ⟨h1, h2⟩⟩⟩
    · obtain ⟨i, hi, h0, h1, h2⟩ := back b a h
      exact ⟨i, List.mem_range.mpr hi, (one i hi).mpr ⟨h0, .inr ⟨h1, h2⟩⟩⟩
theorem head_at {l : List Nat} (h : 1 ≤ l.length) : l[0]? = some (l.headD 0) := by
  cases l with
  | nil => simp at h
  | cons a r => rfl
theorem last_at {l : List Nat} (h : 1 ≤ l.length) : l[l.length - 1]? = some (l.getLastD 0) := by
  rw [← List.getLast?_eq_getElem?]
  cases l with
  | nil => simp at h
  | cons a r => rw [List.getLastD_cons, List.getLast?_cons, List.getLastD_eq_getLast?]
theorem adj_ne {c : NCh} {m : Nat} (ok : ChOk m c) {a b : Nat} (h : Adj c a b) : a ≠ b := by
  rintro rfl
  rcases h with ⟨i, h1, h2⟩ | ⟨h0, h1, h2⟩
  · have l1 := (List.getElem?_eq_some_iff.mp h1).1
    have z := (List.getElem?_inj l1 ok.nd).mp (h1.trans h2.symm)
    omega
  · have l1 := (List.getElem?_eq_some_iff.mp h1).1
    have z := (List.getElem?_inj l1 ok.nd).mp (h1.trans h2.symm)
    have := ok.ring h0
    omega
theorem adj_lt {c : NCh} {m : Nat} (ok : ChOk m c) {a b : Nat} (h : Adj c a b) : a < m ∧ b < m := by
  rcases h with ⟨i, h1, h2⟩ | ⟨h0, h1, h2⟩
  · exact ⟨ok.lt _ (List.mem_of_getElem? h1), ok.lt _ (List.mem_of_getElem? h2)⟩
  · exact ⟨ok.lt _ (List.mem_of_getElem? h1), ok.lt _ (List.mem_of_getElem? h2)⟩
theorem clk_mem {c : NCh} {m : Nat} (ok : ChOk m c) {a b : Nat} : (a, b) ∈ clk c ↔ a < b ∧ (Adj c a b ∨ Adj c b a) := by
  have pick : ∀ x y : Nat, x ≠ y → ((a, b) = ord2 (x, y) ↔ a < b ∧ ((a = x ∧ b = y) ∨ (b = x ∧ a = y))) := by
    intro x y ne
    unfold ord2
    simp only [Prod.mk.injEq]
    omega
  unfold clk
  rw [List.mem_append, List.mem_map]
  constructor
  · rintro (⟨⟨x, y⟩, hp, e⟩ | h)
    · rw [side_mem] at hp
      have ad : Adj c x y := .inl hp
      obtain ⟨h1, ⟨rfl, rfl⟩ | ⟨rfl, rfl⟩⟩ := (pick x y (adj_ne ok ad)).mp e.symm
      · exact ⟨h1, .inl ad⟩
      · exact ⟨h1, .inr ad⟩
    · by_cases r : c.1 = true
      · rw [if_pos r, List.mem_singleton] at h
        have ad : Adj c (c.2.getLastD 0) (c.2.headD 0) := .inr ⟨r, last_at ok.ne, head_at ok.ne⟩
        obtain ⟨h1, ⟨e1, e2⟩ | ⟨e1, e2⟩⟩ := (pick _ _ (adj_ne ok ad).symm).mp h
        · rw [e1, e2]
          rw [e1, e2] at h1
          exact ⟨h1, .inr ad⟩
        · rw [e1, e2]
          rw [e1, e2] at h1
          exact ⟨h1, .inl ad⟩
      · rw [if_neg r] at h
        cases h
  · rintro ⟨h1, h⟩
    have go : ∀ x y, Adj c x y → (a, b) = ord2 (x, y) → (∃ p, p ∈ side c.2 ∧ ord2 p = (a, b)) ∨ (a, b) ∈ if c.1 = true then [ord2 (c.2.headD 0, c.2.getLastD 0)] else [] := by
      intro x y ad e
      rcases ad with ad | ⟨r, l1, l2⟩
      · exact .inl ⟨(x, y), side_mem.mpr ad, e.symm⟩
      · refine .inr ?_
        rw [if_pos r, List.mem_singleton]
        rw [last_at ok.ne] at l1
        rw [head_at ok.ne] at l2
        rw [Option.some.inj l1, Option.some.inj l2, e]
        unfold ord2
        simp only [Prod.mk.injEq]
        omega
    rcases h with h | h
    · exact go a b h (ord2_lt h1).1.symm
    · exact go b a h (ord2_lt h1).2.symm
theorem due_mem {m : Nat} {cs : List NCh} (ok : ∀ c ∈ cs, ChOk m c) (p : Nat × Nat) : p ∈ lks cs ↔ p ∈ (llks cs).filter fun q => decide (q.1 < q.2) := by
  obtain ⟨a, b⟩ := p
  unfold lks llks
  rw [List.mem_filter, List.mem_flatMap, List.mem_flatMap, decide_eq_true_eq]
  constructor
  · rintro ⟨c, hc, h⟩
    have y := (clk_mem (ok c hc)).mp h
    exact ⟨⟨c, hc, (llk_mem (ok c hc)).mpr y.2⟩, y.1⟩
  · rintro ⟨⟨c, hc, h⟩, h1⟩
    exact ⟨c, hc, (clk_mem (ok c hc)).mpr ⟨h1, (llk_mem (ok c hc)).mp h⟩⟩
theorem llks_lk {m : Nat} {cs : List NCh} (ok : ∀ c ∈ cs, ChOk m c) (a b : Nat) : (a, b) ∈ llks cs ↔ Lk (lks cs) a b := by
  unfold Lk llks lks
  rw [List.mem_flatMap, List.mem_flatMap, List.mem_flatMap]
  constructor
  · rintro ⟨c, hc, h⟩
    have y := (llk_mem (ok c hc)).mp h
    have ne : a ≠ b := by
      rcases y with y | y
      · exact adj_ne (ok c hc) y
      · exact (adj_ne (ok c hc) y).symm
    rcases Nat.lt_or_gt_of_ne ne with l | l
    · exact .inl ⟨c, hc, (clk_mem (ok c hc)).mpr ⟨l, y⟩⟩
    · exact .inr ⟨c, hc, (clk_mem (ok c hc)).mpr ⟨l, Or.symm y⟩⟩
  · rintro (⟨c, hc, h⟩ | ⟨c, hc, h⟩)
    · exact ⟨c, hc, (llk_mem (ok c hc)).mpr ((clk_mem (ok c hc)).mp h).2⟩
    · exact ⟨c, hc, (llk_mem (ok c hc)).mpr (Or.symm ((clk_mem (ok c hc)).mp h).2)⟩
theorem lks_lt {m : Nat} {cs : List NCh} (ok : ∀ c ∈ cs, ChOk m c) : ∀ p ∈ lks cs, p.1 < m ∧ p.2 < m ∧ p.1 < p.2 := by
  rintro ⟨a, b⟩ h
  unfold lks at h
  rw [List.mem_flatMap] at h
  obtain ⟨c, hc, h⟩ := h
  obtain ⟨h1, h | h⟩ := (clk_mem (ok c hc)).mp h
  · exact ⟨(adj_lt (ok c hc) h).1, (adj_lt (ok c hc) h).2, h1⟩
  · exact ⟨(adj_lt (ok c hc) h).2, (adj_lt (ok c hc) h).1, h1⟩
theorem clk_len {c : NCh} (h : 1 ≤ c.2.length) : (clk c).length ≤ c.2.length := by
  unfold clk side
  rw [List.length_append, List.length_map, List.length_zip, List.length_tail]
  by_cases r : c.1 = true
  · rw [if_pos r]
    show min _ _ + 1 ≤ _
    omega
  · rw [if_neg r, List.length_nil]
    omega
theorem lks_len {m : Nat} {cs : List NCh} (ok : ∀ c ∈ cs, ChOk m c) : (lks cs).length ≤ cs.length * m := by
  induction cs with
  | nil => exact Nat.zero_le _
  | cons c r ih =>
    have e : lks (c :: r) = clk c ++ lks r := rfl
    have o := ok c (List.mem_cons_self ..)
    have h1 := clk_len o.ne
    have h2 := List.Nodup.length_le_of_subset o.nd (l₂ := List.range m) fun x hx => List.mem_range.mpr (o.lt x hx)
    rw [List.length_range] at h2
    have h3 := ih fun c hc => ok c (List.mem_cons_of_mem _ hc)
    rw [e, List.length_append, List.length_cons, Nat.add_mul, Nat.one_mul]
    omega
end Shf

namespace L2
open PySem PySem.Spec PyProof.Rows
theorem walk_zipT {K : PySem.W.Frag} {a b : Addr} {xs ys : List V} {n : Nat} (hn : n = min xs.length ys.length) : Walk (RZ.ItzT K a b) n (fun H => SqT K H a xs ∧ SqT K H b ys) (YPair (fun i => xs[i]?) (fun i => ys[i]?)) := by
  subst hn
  refine ⟨fun i _ hi q => ?_, fun _ q => ⟨xs, ys, q.1, q.2, by omega⟩, fun i H v H' _ q y => ?_⟩
  · have h1 : i < xs.length := by omega
    have h2 : i < ys.length := by omega
    exact ⟨xs, ys, xs[i], ys[i], q.1, q.2, by simp [h1], by simp [h2]⟩
  · obtain ⟨T, x, z, h1, h2, h3, h4, h5⟩ := y
    exact ⟨T, x, z, h1, h2, h3, h4 xs q.1, h5 ys q.2⟩
end L2
namespace Shf
open PySem PySem.Spec PyProof.Rows L2
/-! ### pairs of numbers as data -/
abbrev prD (p : Nat × Nat) : PyData := .tuple [.int (p.1 : Int), .int (p.2 : Int)]
abbrev prI (p : Nat × Nat) : List Int := [(p.1 : Int), (p.2 : Int)]
theorem prI_inj {p q : Nat × Nat} (h : prI p = prI q) : p = q := by
  have h1 := List.cons.inj h
  have h2 := (List.cons.inj h1.2).1
  obtain ⟨a, b⟩ := p
  obtain ⟨c, d⟩ := q
  have e1 : a = c := Int.ofNat.inj h1.1
  have e2 : b = d := Int.ofNat.inj h2
  rw [e1, e2]
/-- addresses of pairs -/
theorem keys_of {K : PySem.W.Frag} {H : Hp} : ∀ {ps : List (Nat × Nat)} {vs : List V}, DpAll K H vs (ps.map prD) → ∃ ks : List (Addr × List Int), vs = (ks.map fun p => V.ref p.1) ∧ ks.map (·.2) = ps.map prI ∧ ∀ p ∈ ks, SqT K H p.1 (p.2.map V.int)
  | [], _, .nil => ⟨[], rfl, rfl, fun _ h => (by cases h)⟩
  | p :: ps, _, .cons h t => by
    obtain ⟨ks, rfl, h2, h3⟩ := keys_of t
    obtain ⟨a, rfl, hT⟩ := link_of h
    refine ⟨(a, prI p) :: ks, rfl, ?_, fun q hq => ?_⟩
    · show prI p :: ks.map (·.2) = prI p :: ps.map prI
      rw [h2]
    · rcases List.mem_cons.mp hq with rfl | hq
      · exact hT
      · exact h3 q hq
theorem dAll_keys {K : PySem.W.Frag} {H : Hp} : ∀ {ps : List (Nat × Nat)} {ks : List (Addr × List Int)}, ks.map (·.2) = ps.map prI → (∀ p ∈ ks, SqT K H p.1 (p.2.map V.int)) → DpAll K H (ks.map fun p => V.ref p.1) (ps.map prD)
  | [], [], _, _ => .nil
  | [], _ :: _, h, _ => by cases h
  | _ :: _, [], h, _ => by cases h
  | p :: ps, k :: ks, h, g => by
    have h1 := List.cons.inj h
    have t := dAll_keys h1.2 fun q hq => g q (List.mem_cons_of_mem _ hq)
    have g0 := g k (List.mem_cons_self ..)
    have h0 : k.2 = prI p := h1.1
    rw [h0] at g0
    exact .cons (.tup (xs := [.int (p.1 : Int), .int (p.2 : Int)]) g0 (.cons (.int _) (.cons (.int _) .nil))) t
def decP (l : List Int) : Nat × Nat := ((l.getD 0 0).toNat, (l.getD 1 0).toNat)
theorem dec_prI (p : Nat × Nat) : decP (prI p) = p := by
  obtain ⟨a, b⟩ := p
  rfl
theorem lt2_of {p q : Nat × Nat} (hp : p.1 < 64 ∧ p.2 < 64) (hq : q.1 < 64 ∧ q.2 < 64) (h : TS.code 64 (prI p) ≤ TS.code 64 (prI q)) (ne : p ≠ q) : lt2 p q := by
  have z := pair_lt (x := p.1) (y := p.2) (x' := q.1) (y' := q.2) h (fun e => ne (prI_inj e)) ⟨by omega, by omega⟩ ⟨by omega, by omega⟩ ⟨by omega, by omega⟩ ⟨by omega, by omega⟩
  unfold lt2
  omega
/-- sorted(set(pairs)) by values: a new list of the same, each once, ascending -/
theorem sorted_set {K : PySem.W.Frag} {P : Program} {w : World} {H : Hp} {Q : VK} {l : Addr} {vs : List V} {ps : List (Nat × Nat)} (hL : SqL K H l vs) (hA : DpAll K H vs (ps.map prD)) (hb : ∀ p ∈ ps, p.1 < 64 ∧ p.2 < 64) (hl : ps.length < 64)
    (q : ∀ p vs' H', Same H H' → H p = none → H' p = some (.lst vs') → DpAll K H' vs' ((sdL ps).map prD) → Q (.ref p) H') : rSetOfT K P w [.ref l] H fun x H1 => rSortedT K P w [x] H1 Q := by
  obtain ⟨ks, rfl, e2, hk⟩ := keys_of hA
  have kl : ks.length = ps.length := by
    have y := congrArg List.length e2
    rw [List.length_map, List.length_map] at y
    exact y
  have kp : ∀ k ∈ ks, ∃ p ∈ ps, k.2 = prI p := fun k hk' => by
    have y : k.2 ∈ ps.map prI := by rw [← e2]; exact List.mem_map_of_mem hk'
    obtain ⟨p, hp, e⟩ := List.mem_map.mp y
    exact ⟨p, hp, e.symm⟩
  refine ⟨l, ks, rfl, hL, hk, by omega, fun a L ha hsub hall => ⟨a, L, 2, 64, rfl, upd_same, fun p hp => sqt_same (same_new ha) (hk p (hsub p hp)), by decide, fun p hp => ?_, fun L' r pm nd hlt pw hr => ?_⟩⟩
  · obtain ⟨x, hx, e⟩ := kp p (hsub p hp)
    rw [e]
    refine ⟨rfl, fun m hm => ?_⟩
    have b := hb x hx
    rcases List.mem_cons.mp hm with rfl | hm
    · omega
    · rw [List.mem_singleton] at hm
      subst hm
      omega
  · have sA : Same H (upd (upd H a (SetTO P w a L)) r (.lst (L'.map fun q => V.ref q.1))) := (same_new ha).tr (same_new hr)
    have hr0 : H r = none := by
      cases z : H r with
      | none => rfl
      | some u =>
        have y := same_new (o := SetTO P w a L) ha r u z
        rw [hr] at y
        cases y
    have l'k : ∀ k ∈ L', k ∈ ks := fun k hk' => hsub k (pm.mem_iff.mp hk')
    have em : L'.map (·.2) = (L'.map fun k => decP k.2).map prI := by
      rw [List.map_map]
      refine List.map_congr_left fun k hk' => ?_
      obtain ⟨p, _, e⟩ := kp k (l'k k hk')
      show k.2 = prI (decP k.2)
      rw [e, dec_prI]
    have emem : ∀ p, p ∈ (L'.map fun k => decP k.2) ↔ p ∈ ps := fun p => by
      rw [List.mem_map]
      constructor
      · rintro ⟨k, hk', rfl⟩
        obtain ⟨p, hp, e⟩ := kp k (l'k k hk')
        rw [e, dec_prI]
        exact hp
      · intro hp
        have y : prI p ∈ ks.map (·.2) := by rw [e2]; exact List.mem_map_of_mem hp
        obtain ⟨k, hk', e⟩ := List.mem_map.mp y
        have z := hall k hk'
        obtain ⟨k2, hk2, e3⟩ := List.mem_map.mp z
        refine ⟨k2, pm.mem_iff.mpr hk2, ?_⟩
        rw [e3, e, dec_prI]
    have easc : (L'.map fun k => decP k.2).Pairwise lt2 := by
      rw [List.pairwise_map]
      have nd' : L'.Pairwise fun x y => x.2 ≠ y.2 := List.pairwise_map.mp nd
      refine (List.Pairwise.and_mem.mp (List.Pairwise.and pw nd')).imp ?_
      rintro x y ⟨hx, hy, h1, h2⟩
      obtain ⟨p, hp, e⟩ := kp x (l'k x hx)
      obtain ⟨p', hp', e'⟩ := kp y (l'k y hy)
      rw [e, e', dec_prI, dec_prI]
      rw [e, e'] at h1 h2
      exact lt2_of (hb p hp) (hb p' hp') h1 fun z => h2 (by rw [z])
    have eu := sd_uni hb easc emem
    refine q r _ _ sA hr0 upd_same ?_
    rw [← eu]
    exact dAll_keys em fun k hk' => sqt_same sA (hk k (l'k k hk'))
/-- a chain as data -/
def chN (c : NCh) : PyData := .tuple [.str (if c.1 = true then "ring" else "list"), .tuple (nI c.2)]
def chsD (cs : List NCh) : PyData := .tuple (cs.map chN)
def spCLinks (K : PySem.W.Frag) : Sp := fun vs H Q _ => ∃ (v : V) (cs : List NCh) (m : Nat), vs = [v] ∧ Dp K H v (chsD cs) ∧ (∀ c ∈ cs, ChOk m c) ∧ m ≤ 64 ∧ (lks cs).length < 64 ∧ cs.length ≤ 200 ∧ ∀ r H', Same H H' → Dp K H' r (lkD (sdL (lks cs))) → Q r H'
theorem chain_of {K : PySem.W.Frag} {H : Hp} {v : V} {c : NCh} (h : Dp K H v (chN c)) : ∃ t r, v = .ref t ∧ SqT K H t [.str (if c.1 = true then "ring" else "list"), .ref r] ∧ SqT K H r (nV c.2) := by
  cases h with
  | tup h1 h2 =>
    cases h2 with
    | cons x1 x2 =>
      cases x2 with
      | cons y1 y2 =>
        cases x1
        cases y2
        obtain ⟨r, vs, rfl, hT, hA⟩ := tup_of y1
        rw [dAll_nat_vs hA] at hT
        exact ⟨_, r, rfl, h1, hT⟩
theorem dAll_core {K : PySem.W.Frag} {G : Hp} {D : Addr} {acc : List V} : ∀ {ps : List (Nat × Nat)} {vs : List V}, DpAll K (upd G D (.lst acc)) vs (ps.map prD) → DpAll K G vs (ps.map prD)
  | [], _, .nil => .nil
  | p :: ps, _, .cons h t => by
    obtain ⟨a, rfl, hT⟩ := link_of h
    exact .cons (.tup (xs := [.int (p.1 : Int), .int (p.2 : Int)]) (sqt_core hT) (.cons (.int _) (.cons (.int _) .nil))) (dAll_core t)
theorem dAll_app {K : PySem.W.Frag} {H : Hp} : ∀ {xs ys : List V} {ds es : List PyData}, DpAll K H xs ds → DpAll K H ys es → DpAll K H (xs ++ ys) (ds ++ es)
  | _, _, _, _, .nil, h => h
  | _, _, _, _, .cons h t, g => .cons h (dAll_app t g)
theorem min_nat (a b : Nat) : (if (b : Int) < (a : Int) then (b : Int) else (a : Int)) = ((min a b : Nat) : Int) := by
  split <;> omega
theorem max_nat (a b : Nat) : (if (b : Int) > (a : Int) then (b : Int) else (a : Int)) = ((max a b : Nat) : Int) := by
  split <;> omega
theorem cut_tail (xs : List V) : cutV xs (some 1) none = xs.tail := by
  unfold cutV
  rw [show HT.sIx xs.length 0 (some 1) = min 1 xs.length from HT.sIx_nat xs.length 0 1, HT.sIx_none]
  cases xs with
  | nil => rfl
  | cons a r =>
    rw [show min 1 (a :: r).length = 1 by rw [List.length_cons]; omega]
    rw [List.drop_one, List.tail_cons, List.length_cons, Nat.add_sub_cancel, List.take_length]
theorem not_whole {xs : List V} (h : 1 ≤ xs.length) : ¬ (HT.sIx xs.length 0 (some 1) = 0 ∧ HT.sIx xs.length xs.length none = xs.length) := by
  rw [show HT.sIx xs.length 0 (some 1) = min 1 xs.length from HT.sIx_nat xs.length 0 1]
  omega
theorem at_last {l : List Nat} (h : 1 ≤ l.length) : atI (nV l) (-1) = some (.int ((l.getLastD 0 : Nat) : Int)) := by
  have e : nV l = nV l.dropLast ++ [V.int ((l.getLastD 0 : Nat) : Int)] := by
    cases l with
    | nil => simp at h
    | cons a r =>
      have y := List.dropLast_concat_getLast (l := a :: r) (by simp)
      rw [List.getLastD_eq_getLast?, List.getLast?_eq_some_getLast (by simp)]
      show nV (a :: r) = nV (a :: r).dropLast ++ nV [(a :: r).getLast _]
      rw [← List.map_append, y]
  rw [e]
  exact atI_last _ _
theorem at_head {l : List Nat} (h : 1 ≤ l.length) : (nV l)[0]? = some (.int ((l.headD 0 : Nat) : Int)) := by
  rw [List.getElem?_map, head_at h]
  rfl
theorem ix_last {K : PySem.W.Frag} {H : Hp} {r : Addr} {l : List Nat} {Q : VK} (hS : SqT K H r (nV l)) (h : 1 ≤ l.length) (q : Q (.int ((l.getLastD 0 : Nat) : Int)) H) : rIx K (.ref r) (.int (-1)) H Q :=
  .inr (.inl ⟨r, nV l, -1, _, rfl, rfl, hS, at_last h, q⟩)
theorem side_len (l : List Nat) : (side l).length = min l.length l.tail.length := by
  unfold side
  rw [List.length_zip]
theorem side_at {l : List Nat} {i a b : Nat} (h1 : l[i]? = some a) (h2 : l[i + 1]? = some b) : (side l)[i]? = some (a, b) := by
  unfold side
  rw [List.getElem?_zip_eq_some, List.getElem?_tail]
  exact ⟨h1, h2⟩
/-! ### shelves, good and bad -/
def shN (n : Nat) (cs : List NCh) : PyData := .tuple [.int (n : Int), chsD cs]
def chI (c : NCh) : Chain := (c.1, c.2.map fun x : Nat => (x : Int))
theorem chD_chI (c : NCh) : chD (chI c) = chN c := by
  show PyData.tuple [.str _, .tuple ((c.2.map fun x : Nat => (x : Int)).map PyData.int)] = _
  rw [List.map_map]
  rfl
theorem shD_N (n : Nat) (cs : List NCh) : shD (n : Int) (cs.map chI) = shN n cs := by
  show PyData.tuple [.int (n : Int), .tuple ((cs.map chI).map chD)] = _
  rw [List.map_map, show cs.map (chD ∘ chI) = cs.map chN from List.map_congr_left fun c _ => chD_chI c]
  rfl
structure ShOk (d : PyData) (n : Nat) (cs : List NCh) : Prop where
  hd : shHead d = true
  ok : badFrom (dNum (d0 d)) 0 (dItems (d1 d)) = none
  n : dNum (d0 d) = n
  cs : (dItems (d1 d)).map chOf = cs.map chI
inductive ShBad (d : PyData) : Int → Prop
  | head : shHead d = false → ShBad d (-1)
  | chain (i : Nat) : shHead d = true → badFrom (dNum (d0 d)) 0 (dItems (d1 d)) = some i → ShBad d i
/-- a def of a shelf: its error for bad ones, what it tells of good ones -/
def spShR (K : PySem.W.Frag) (lim : Nat → List NCh → Prop) (res : Nat → List NCh → PyData) : Sp := fun vs H Q E => ∃ (v : V) (d : PyData), vs = [v] ∧ Dp K H v d ∧ dOk d ∧
  ((∃ x : Int, ShBad d x ∧ wAt K "InvalidShelf" (.int x) H E) ∨ ∃ (n : Nat) (cs : List NCh), ShOk d n cs ∧ lim n cs ∧ ∀ r H', Same H H' → Dp K H' r (res n cs) → Q r H')
theorem need_shelf_R {K : PySem.W.Frag} : ∀ vs H Q E, spShR K (fun _ _ => True) shN vs H Q E → spNeedShelf K vs H Q E := by
  rintro vs H Q E ⟨v, d, rfl, hd, hk, h⟩
  refine ⟨v, d, rfl, hd, hk, ?_⟩
  rcases h with ⟨x, hb, he⟩ | ⟨n, cs, ho, _, hq⟩
  · cases hb with
    | head h => exact ⟨fun _ => he, fun q => by rw [h] at q; cases q⟩
    | chain i h1 h2 =>
      refine ⟨fun q => (by rw [h1] at q; cases q), fun _ => ⟨fun j hj => ?_, fun q => (by rw [h2] at q; cases q)⟩⟩
      rw [h2] at hj
      cases hj
      exact he
  · refine ⟨fun q => (by rw [ho.hd] at q; cases q), fun _ => ⟨fun j hj => (by rw [ho.ok] at hj; cases hj), fun _ r H' s hr => hq r H' s ?_⟩⟩
    rw [ho.n, ho.cs, shD_N] at hr
    exact hr
theorem bad_len {m : Int} : ∀ {cs : List PyData} {i : Nat}, badFrom m i cs = none → i ≤ 200 → i + cs.length ≤ 200
  | [], i, _, h => h
  | c :: r, i, h, hi => by
    unfold badFrom at h
    by_cases e : (decide (i = 200) || !dChain m c) = true
    · rw [if_pos e] at h
      cases h
    · rw [if_neg e] at h
      have ne : i ≠ 200 := by
        rintro rfl
        exact e rfl
      have z := bad_len h (by omega)
      rw [List.length_cons]
      omega
theorem ints_cast {l : List Nat} {lo hi : Int} (h : ∀ i ∈ l.map (fun x : Nat => (x : Int)), lo ≤ i ∧ i ≤ hi) : ∀ x ∈ l, (x : Int) ≤ hi := fun x hx => (h x (List.mem_map_of_mem hx)).2
theorem ShOk.facts {d : PyData} {n : Nat} {cs : List NCh} (h : ShOk d n cs) : 1 ≤ n ∧ n ≤ 200 ∧ cs.length ≤ 200 ∧ ∀ c ∈ cs, ChOk n c := by
  have hh := h.hd
  unfold shHead at hh
  rw [Bool.and_eq_true, Bool.and_eq_true] at hh
  have hn : 1 ≤ n ∧ n ≤ 200 := by
    have z := hh.2.1
    have e := h.n
    cases y : d0 d with
    | int i =>
      rw [y] at z e
      have z2 : (decide ((1 : Int) ≤ i) && decide (i ≤ 200)) = true := z
      rw [Bool.and_eq_true, decide_eq_true_eq, decide_eq_true_eq] at z2
      have e2 : i = n := e
      omega
    | _ =>
      rw [y] at z
      cases z
  have lc := bad_len h.ok (Nat.zero_le _)
  have le : (dItems (d1 d)).length = cs.length := by
    have y := congrArg List.length h.cs
    rw [List.length_map, List.length_map] at y
    exact y
  refine ⟨hn.1, hn.2, by omega, fun c hc => ?_⟩
  have hcI : chI c ∈ (dItems (d1 d)).map chOf := by rw [h.cs]; exact List.mem_map_of_mem hc
  obtain ⟨z, hz, e⟩ := List.mem_map.mp hcI
  have k := bad_none h.ok z hz
  obtain ⟨q1, q2, q3, q4, q5⟩ := chain_kind k
  rw [e] at q4 q5
  have e2 : dInts (dItems (d1 z)) = c.2.map fun x : Nat => (x : Int) := congrArg Prod.snd e
  have nd := dRow_nd q2
  have al := dRow_all q2
  rw [e2] at nd
  have len4 : (chI c).2.length = c.2.length := List.length_map _
  refine ⟨?_, fun x hx => ?_, by rw [← len4]; exact q4, fun r => by rw [← len4]; exact q5 r⟩
  · exact (List.pairwise_map.mp nd).imp fun h e => h (by rw [e])
  · have y : (x : Int) ∈ dInts (dItems (d1 z)) := by rw [e2]; exact List.mem_map_of_mem hx
    have b : ∀ ds : List PyData, ds.all (dIn 0 (dNum (d0 d) - 1)) = true → ∀ i ∈ dInts ds, i ≤ dNum (d0 d) - 1 := by
      intro ds
      induction ds with
      | nil => intro _ i hi; cases hi
      | cons a r ih =>
        intro hA i hi
        rw [List.all_cons, Bool.and_eq_true] at hA
        cases a with
        | int j =>
          have z2 : (decide ((0 : Int) ≤ j) && decide (j ≤ dNum (d0 d) - 1)) = true := hA.1
          rw [Bool.and_eq_true, decide_eq_true_eq, decide_eq_true_eq] at z2
          rcases List.mem_cons.mp (show i ∈ j :: dInts r from hi) with rfl | hi
          · exact z2.2
          · exact ih hA.2 i hi
        | _ => cases hA.1
    have y2 := b _ al x y
    rw [h.n] at y2
    omega
theorem pair2_of {K : PySem.W.Frag} {H : Hp} {v : V} {d e : PyData} (h : Dp K H v (.tuple [d, e])) : ∃ a x y, v = .ref a ∧ SqT K H a [x, y] ∧ Dp K H x d ∧ Dp K H y e := by
  cases h with
  | tup h1 h2 =>
    cases h2 with
    | cons x1 x2 =>
      cases x2 with
      | cons y1 y2 =>
        cases y2
        exact ⟨_, _, _, rfl, h1, x1, y1⟩
theorem sd_len (l : List (Nat × Nat)) : (sdL l).length ≤ l.length := by
  have nd : (sdL l).Nodup := (sd_asc l).imp fun h e => by
    subst e
    exact lt2_as _ _ h h
  refine List.Nodup.length_le_of_subset nd fun p hp => ?_
  unfold sdL at hp
  rw [List.mem_filter, decide_eq_true_eq] at hp
  exact hp.2
def limS (n : Nat) (cs : List NCh) : Prop := n ≤ 64 ∧ (lks cs).length < 64
theorem rgV_nat (n : Nat) : rgV 0 (n : Int) = nV (List.range n) := by
  unfold rgV
  rw [show ((n : Int) - 0).toNat = n by omega]
  refine List.map_congr_left fun i _ => ?_
  rw [Int.zero_add]
def spWhole (K : PySem.W.Frag) (lo : Nat) (ring : Bool) : Sp := fun vs H Q E => ∃ (v : V) (d : PyData), vs = [v] ∧ Dp K H v d ∧ (dIn lo 200 d = false → wWord K "InvalidSize" (.str "cells") H E) ∧
  (∀ n : Nat, d = .int (n : Int) → dIn lo 200 d = true → ∀ r H', Same H H' → Dp K H' r (shN n [(ring, List.range n)]) → Q r H')
theorem in_nat {lo hi : Nat} {d : PyData} (h : dIn lo hi d = true) : ∃ n : Nat, d = .int (n : Int) ∧ lo ≤ n ∧ n ≤ hi := by
  cases d with
  | int i =>
    have z : (decide ((lo : Int) ≤ i) && decide (i ≤ (hi : Int))) = true := h
    rw [Bool.and_eq_true, decide_eq_true_eq, decide_eq_true_eq] at z
    exact ⟨i.toNat, by rw [Int.toNat_of_nonneg (by omega)], by omega, by omega⟩
  | _ => cases h
end Shf


namespace L2
open PySem PySem.Spec PyProof.Rows
def rListOf (K : PySem.W.Frag) : List V → Hp → VK → Prop := fun xs H Q => ∃ p ys, xs = [.ref p] ∧ (SqL K H p ys ∨ SqT K H p ys) ∧ ∀ l, H l = none → Q (.ref l) (upd H l (.lst ys))
theorem cr_listOf {X : Cx} (hc : X.calm = true := by rfl) : CallR X (.type "list") (rListOf X.K) := call_list_of
end L2
namespace Shf
open PySem PySem.Spec PyProof.Rows L2 LamX
/-! ### data of tuples alone: it stays while tuples stay -/
def KeepT (H H' : Hp) : Prop := ∀ b xs, (H b = some (.tup xs) → H' b = some (.tup xs)) ∧ ∀ o, H b = some (.frz o (.tup xs)) → H' b = some (.frz o (.tup xs))
theorem KeepT.rfl' {H : Hp} : KeepT H H := fun _ _ => ⟨fun h => h, fun _ h => h⟩
theorem KeepT.tr {H H1 H2 : Hp} (x : KeepT H H1) (y : KeepT H1 H2) : KeepT H H2 := fun b xs => ⟨fun h => (y b xs).1 ((x b xs).1 h), fun o h => (y b xs).2 o ((x b xs).2 o h)⟩
theorem KeepT.of {H H' : Hp} (s : Same H H') : KeepT H H' := fun b xs => ⟨fun h => s b _ h, fun o h => s b _ h⟩
theorem KeepT.ext {H H' : Hp} (s : ExtN H H') : KeepT H H' := fun b xs => ⟨fun h => s b _ h (fun _ z => by cases z), fun o h => s b _ h (fun _ z => by cases z)⟩
theorem KeepT.but {a : Addr} {H H' : Hp} {xs : List V} (s : But a H H') (ha : H a = some (.lst xs)) : KeepT H H' := fun b ys => ⟨fun h => s b _ (fun z => by rw [z, ha] at h; cases h) h, fun o h => s b _ (fun z => by rw [z, ha] at h; cases h) h⟩
theorem KeepT.put {H : Hp} {p : Addr} {xs : List V} {o : HO} (hp : H p = some (.lst xs)) : KeepT H (upd H p o) := KeepT.but but_upd hp
theorem KeepT.sqt {K : PySem.W.Frag} {H H' : Hp} {b : Addr} {xs : List V} (s : KeepT H H') (h : SqT K H b xs) : SqT K H' b xs := by
  rcases h with (h | ⟨o, h⟩) | h
  · exact .inl (.inl ((s b xs).1 h))
  · exact .inl (.inr ⟨o, (s b xs).2 o h⟩)
  · exact .inr h
mutual
def noL : PyData → Bool
  | .list _ => false
  | .tuple ds => noLs ds
  | .dict _ => false
  | _ => true
def noLs : List PyData → Bool
  | [] => true
  | d :: r => noL d && noLs r
end
mutual
theorem dp_keep {K : PySem.W.Frag} {H H' : Hp} (e : KeepT H H') : ∀ (d : PyData) (v : V), noL d = true → Dp K H v d → Dp K H' v d
  | .none, _, _, h => by cases h; exact .non
  | .bool b, _, _, h => by cases h; exact .bl b
  | .int i, _, _, h => by cases h; exact .int i
  | .str x, _, _, h => by cases h; exact .str x
  | .list ds, _, n, h => by cases n
  | .tuple ds, _, n, h => by
    cases h with
    | tup h1 h2 => exact .tup (e.sqt h1) (dpAll_keep e ds _ n h2)
  | .dict _, _, n, h => by cases n
theorem dpAll_keep {K : PySem.W.Frag} {H H' : Hp} (e : KeepT H H') : ∀ (ds : List PyData) (vs : List V), noLs ds = true → DpAll K H vs ds → DpAll K H' vs ds
  | [], _, _, h => by cases h; exact .nil
  | d :: ds, _, n, h => by
    rw [noLs, Bool.and_eq_true] at n
    cases h with
    | cons h1 h2 => exact .cons (dp_keep e d _ n.1 h1) (dpAll_keep e ds _ n.2 h2)
end
theorem noLs_map {α : Type} {f : α → PyData} (h : ∀ x, noL (f x) = true) : ∀ l : List α, noLs (l.map f) = true
  | [] => rfl
  | x :: r => by
    rw [List.map_cons, noLs, h x, noLs_map h r]
    rfl
theorem noL_nI (l : List Nat) : noL (.tuple (nI l)) = true := noLs_map (fun _ => rfl) l
theorem noL_ch (c : NCh) : noL (chN c) = true := by
  show noLs [_, .tuple (nI c.2)] = true
  rw [noLs, noLs, noL_nI]
  rfl
theorem noL_sh (n : Nat) (cs : List NCh) : noL (shN n cs) = true := by
  show noLs [_, .tuple (cs.map chN)] = true
  rw [noLs, noLs, show noL (.tuple (cs.map chN)) = noLs (cs.map chN) from rfl, noLs_map noL_ch]
  rfl
theorem noL_rw (rs : List (List Nat)) : noL (rwD rs) = true := noLs_map (fun r => noL_nI r) rs
theorem noL_lk (L : List (Nat × Nat)) : noL (lkD L) = true := noLs_map (fun _ => rfl) L
/-! ### data apart from a (a list that changes) -/
def off (a : Addr) (H : Hp) : Hp := fun b => if b = a then none else H b
theorem off_same {a : Addr} {H : Hp} : Same (off a H) H := fun b o h => by
  unfold off at h
  by_cases e : b = a
  · rw [if_pos e] at h
    cases h
  · rw [if_neg e] at h
    exact h
theorem off_but {a : Addr} {H H' : Hp} (s : But a H H') : Same (off a H) (off a H') := fun b o h => by
  unfold off at h ⊢
  by_cases e : b = a
  · rw [if_pos e] at h
    cases h
  · rw [if_neg e] at h ⊢
    exact s b o e h
theorem off_of {a : Addr} {H H' : Hp} (s : Same H H') : Same (off a H) (off a H') := off_but (But.of s)
theorem off_ext {a : Addr} {H H' : Hp} (s : ExtN H H') : ExtN (off a H) (off a H') := fun b o h n => by
  unfold off at h ⊢
  by_cases e : b = a
  · rw [if_pos e] at h
    cases h
  · rw [if_neg e] at h ⊢
    exact s b o h n
theorem off_at {a b : Addr} {H : Hp} (n : b ≠ a) : off a H b = H b := if_neg n
/-- tuples' data stands apart from a list -/
theorem off_keep {a : Addr} {H : Hp} {xs : List V} (ha : H a = some (.lst xs)) : KeepT H (off a H) := fun b ys => by
  have n : b ≠ a → off a H b = H b := fun n => off_at n
  refine ⟨fun h => ?_, fun o h => ?_⟩
  · rw [n (fun z => by rw [z, ha] at h; cases h)]
    exact h
  · rw [n (fun z => by rw [z, ha] at h; cases h)]
    exact h
theorem BoxN.at {H : Hp} {a : Addr} {n : Int} (h : BoxN H a n) : ∃ xs, H a = some (.lst xs) := by
  obtain ⟨c, d, e, ⟨h1, _⟩, _⟩ := h
  exact ⟨_, h1⟩
theorem BoxN.keep {H H' : Hp} {a : Addr} {n : Int} (h : BoxN H a n) (s : H' a = H a) : BoxN H' a n := by
  obtain ⟨c, d, e, ⟨h1, h2⟩, h3⟩ := h
  exact ⟨c, d, e, ⟨s.trans h1, h2⟩, h3⟩
theorem BoxN.same {H H' : Hp} {a : Addr} {n : Int} (h : BoxN H a n) (s : Same H H') : BoxN H' a n := by
  obtain ⟨c, d, e, ⟨h1, h2⟩, h3⟩ := h
  exact ⟨c, d, e, ⟨s _ _ h1, h2⟩, h3⟩
theorem BoxN.ext {H H' : Hp} {a : Addr} {n : Int} (h : BoxN H a n) (s : ExtN H H') : BoxN H' a n := by
  obtain ⟨c, d, e, ⟨h1, h2⟩, h3⟩ := h
  exact ⟨c, d, e, ⟨s _ _ h1 (fun _ z => by cases z), h2⟩, h3⟩
theorem BoxN.le {H : Hp} {a : Addr} {n m : Int} (h : BoxN H a n) (l : n ≤ m) : BoxN H a m := by
  obtain ⟨c, d, e, h1, h3⟩ := h
  exact ⟨c, d, e, h1, Int.le_trans h3 l⟩
theorem BoxN.ne {H : Hp} {a p : Addr} {n : Int} (h : BoxN H a n) (hp : H p = none) : a ≠ p := by
  obtain ⟨xs, ha⟩ := h.at
  rintro rfl
  rw [ha] at hp
  cases hp
/-! ### rows drawn -/
theorem perm_nV {l : List Nat} {ys : List V} (h : ys.Perm (nV l)) : ∃ m : List Nat, m.Perm l ∧ ys = nV m := by
  let dec : V → Nat := fun v => match v with
    | .int i => i.toNat
    | _ => 0
  have e1 : (nV l).map dec = l := by
    show (l.map fun x : Nat => V.int (x : Int)).map dec = l
    rw [List.map_map]
    have : (dec ∘ fun x : Nat => V.int (x : Int)) = id := by
      funext x
      show ((x : Int)).toNat = x
      omega
    rw [this, List.map_id]
  refine ⟨ys.map dec, ?_, ?_⟩
  · have y := h.map dec
    rw [e1] at y
    exact y
  · show ys = (ys.map dec).map fun x : Nat => V.int (x : Int)
    rw [List.map_map]
    have : ys.map id = ys.map ((fun x : Nat => V.int (x : Int)) ∘ dec) := by
      refine List.map_congr_left fun y hy => ?_
      have y2 := h.mem_iff.mp hy
      obtain ⟨x, _, rfl⟩ := List.mem_map.mp y2
      show V.int (x : Int) = V.int (((x : Int).toNat : Nat) : Int)
      rw [Int.toNat_natCast]
    rw [List.map_id] at this
    exact this
theorem cut_take (xs : List V) (k : Nat) : cutV xs none (some (k : Int)) = xs.take k := by
  unfold cutV
  rw [HT.sIx_none, HT.sIx_nat, List.drop_zero, Nat.sub_zero]
  by_cases h : k ≤ xs.length
  · rw [Nat.min_eq_left h]
  · rw [Nat.min_eq_right (by omega), List.take_of_length_le (Nat.le_refl _), List.take_of_length_le (by omega)]
theorem cut_drop (xs : List V) (k : Nat) : cutV xs (some (k : Int)) none = xs.drop k := by
  unfold cutV
  rw [HT.sIx_none, HT.sIx_nat]
  by_cases h : k ≤ xs.length
  · rw [Nat.min_eq_left h]
    exact List.take_of_length_le (by rw [List.length_drop]; exact Nat.le_refl _)
  · rw [Nat.min_eq_right (by omega), Nat.sub_self, List.take_zero, List.drop_eq_nil_of_le (by omega)]
theorem none_back {a p : Addr} {H H1 : Hp} {n : Int} (h : BoxN H1 a n) (b : But a H H1) (hp : H1 p = none) : H p = none := by
  cases z : H p with
  | none => rfl
  | some o =>
    have y := b p o (Ne.symm (h.ne hp)) z
    rw [hp] at y
    cases y
theorem But.upd {a p : Addr} {H H1 : Hp} {o : HO} (b : But a H H1) (hp : H p = none) : But a H (upd H1 p o) := fun c x n e => by
  rw [upd_ne (ne_of_none e hp)]
  exact b c x n e
theorem But.same {a : Addr} {H H1 H2 : Hp} (b : But a H H1) (s : Same H1 H2) : But a H H2 := fun c x n e => s c x (b c x n e)
theorem take_ok {n k : Nat} {l : List Nat} (p : l.Perm (List.range n)) (r : Bool) (h1 : 1 ≤ k) (hk : k ≤ n) (h3 : r = true → 3 ≤ k) : ChOk n (r, l.take k) := by
  have ll : l.length = n := by rw [p.length_eq, List.length_range]
  have nd : l.Nodup := p.nodup_iff.mpr List.nodup_range
  have e : (l.take k).length = k := by rw [List.length_take]; omega
  refine ⟨List.Pairwise.sublist (List.take_sublist k l) nd, fun x hx => ?_, by show 1 ≤ (l.take k).length; omega, fun r' => by show 3 ≤ (l.take k).length; rw [e]; exact h3 r'⟩
  have y := p.mem_iff.mp (List.mem_of_mem_take hx)
  exact List.mem_range.mp y
def spLawShelf (K : PySem.W.Frag) : Sp := fun vs H Q _ => ∃ (a : Addr) (most : Nat) (N : Int), vs = [.ref a, .int (most : Int)] ∧ BoxN H a N ∧ N < 1000000 ∧ 1 ≤ most ∧ most ≤ 16 ∧
  ∀ r H' (n : Nat) (cs : List NCh), But a H H' → BoxN H' a (N + 100) → 1 ≤ n → n ≤ most → cs.length ≤ 4 → (∀ c ∈ cs, ChOk n c) → Dp K H' r (shN n cs) → Q r H'
def spLawLinks (K : PySem.W.Frag) : Sp := fun vs H Q _ => ∃ (v : V) (n : Nat) (cs : List NCh), vs = [v] ∧ Dp K H v (shN n cs) ∧ (∀ c ∈ cs, ChOk n c) ∧ n ≤ 64 ∧ cs.length ≤ 16 ∧
  ∀ p vs' H', Same H H' → H p = none → H' p = some (.lst vs') → DpAll K H' vs' ((llks cs).map prD) → Q (.ref p) H'
theorem nat_at {l : List Nat} {j : Nat} (h : j < l.length) : (nV l)[j]? = some (.int ((l.getD j 0 : Nat) : Int)) := by
  rw [List.getElem?_map, List.getD_eq_getElem?_getD, List.getElem?_eq_getElem h]
  rfl
theorem llkTo_len (c : NCh) : ∀ k, (llkTo c k).length ≤ 2 * k
  | 0 => Nat.zero_le _
  | k + 1 => by
    rw [llkTo_succ, List.length_append]
    have y := llkTo_len c k
    have z : (llk1 c k).length ≤ 2 := by
      unfold llk1
      split <;> simp
    omega
theorem llks_len {n : Nat} : ∀ {cs : List NCh}, (∀ c ∈ cs, ChOk n c) → (llks cs).length ≤ cs.length * (2 * n)
  | [], _ => Nat.zero_le _
  | c :: r, ok => by
    have e : llks (c :: r) = llk c ++ llks r := rfl
    have o := ok c (List.mem_cons_self ..)
    have h2 := List.Nodup.length_le_of_subset o.nd (l₂ := List.range n) fun x hx => List.mem_range.mpr (o.lt x hx)
    rw [List.length_range] at h2
    have h1 : (llk c).length ≤ 2 * c.2.length := llkTo_len c _
    have h3 := llks_len fun c hc => ok c (List.mem_cons_of_mem _ hc)
    rw [e, List.length_append, List.length_cons, Nat.add_mul, Nat.one_mul]
    omega
theorem llks_take {cs : List NCh} {i : Nat} {c : NCh} (h : cs[i]? = some c) : llks (cs.take (i + 1)) = llks (cs.take i) ++ llk c := by
  unfold llks
  rw [List.take_add_one, h, List.flatMap_append]
  show _ ++ (llk c ++ []) = _
  rw [List.append_nil]
theorem dec_nat (a b : Nat) : decide (V.int (a : Int) = V.int (b : Int)) = decide (a = b) := by
  rw [Bool.eq_iff_iff, decide_eq_true_eq, decide_eq_true_eq]
  constructor
  · intro h
    have y : (a : Int) = b := V.int.inj h
    omega
  · rintro rfl
    rfl
def spLawParts (K : PySem.W.Frag) : Sp := fun vs H Q _ => ∃ (n : Nat) (v : V) (L : List (Nat × Nat)), vs = [.int (n : Int), v] ∧ Dp K H v (lkD L) ∧ (∀ p ∈ L, p.1 < n ∧ p.2 < n) ∧ n ≤ 64 ∧
  ∀ r H', Same H H' → Dp K H' r (rwD (lawParts n (nrounds L n n))) → Q r H'
theorem ixN_nat {n k : Nat} (h : k < n) : ixN n (k : Int) = some k := by
  unfold ixN
  rw [if_pos (by omega), if_pos (by omega), Int.toNat_natCast]
theorem nV_set (l : List Nat) (k x : Nat) : (nV l).set k (.int (x : Int)) = nV (l.set k x) := (List.map_set ..).symm
theorem foldl_take_succ {L : List (Nat × Nat)} {j : Nat} {p : Nat × Nat} {nm : List Nat} (h : L[j]? = some p) : (L.take (j + 1)).foldl nstep nm = nstep ((L.take j).foldl nstep nm) p := by
  rw [List.take_add_one, h, List.foldl_append]
  rfl
theorem foldl_len : ∀ {L : List (Nat × Nat)} {nm : List Nat}, (L.foldl nstep nm).length = nm.length
  | [], _ => rfl
  | p :: r, nm => by
    rw [List.foldl_cons, foldl_len, nstep_len]
theorem nrounds_len (L : List (Nat × Nat)) (n : Nat) : ∀ r, (nrounds L n r).length = n
  | 0 => List.length_range
  | r + 1 => by
    show (nround L (nrounds L n r)).length = n
    unfold nround
    rw [foldl_len, nrounds_len L n r]
theorem filter_range_succ (n : Nat) (f : Nat → Bool) : (List.range (n + 1)).filter f = (List.range n).filter f ++ if f n = true then [n] else [] := by
  rw [List.range_succ, List.filter_append, List.filter_cons, List.filter_nil]
/-! ### lists made anew -/
def newer (H H' : Hp) : Hp := fun b => if H b = none then H' b else none
theorem newer_at {H H' : Hp} {b : Addr} (h : H b = none) : newer H H' b = H' b := if_pos h
theorem newer_same {H H1 H2 : Hp} (s : Same H1 H2) : Same (newer H H1) (newer H H2) := fun b o e => by
  unfold newer at e ⊢
  by_cases h : H b = none
  · rw [if_pos h] at e ⊢
    exact s b o e
  · rw [if_neg h] at e
    cases e
theorem newer_off {H H' : Hp} {a : Addr} {o : HO} (h : H a = some o) : Same (newer H H') (off a H') := fun b u e => by
  unfold newer at e
  unfold off
  by_cases hb : H b = none
  · rw [if_pos hb] at e
    rw [if_neg (by rintro rfl; rw [h] at hb; cases hb)]
    exact e
  · rw [if_neg hb] at e
    cases e
theorem newer_all {H H' : Hp} : Same (newer H H') H' := fun b u e => by
  unfold newer at e
  by_cases hb : H b = none
  · rw [if_pos hb] at e
    exact e
  · rw [if_neg hb] at e
    cases e
theorem none_of {H H' : Hp} {b : Addr} (s : Same H H') (h : H' b = none) : H b = none := by
  cases z : H b with
  | none => rfl
  | some o =>
    rw [s b o z] at h
    cases h
def chL (c : NCh) : PyData := .list [.str (if c.1 = true then "ring" else "list"), .list (nI c.2)]
def shL (n : Nat) (cs : List NCh) : PyData := .list [.int (n : Int), .list (cs.map chL)]
def spLawLists (K : PySem.W.Frag) : Sp := fun vs H Q _ => ∃ (v : V) (n : Nat) (cs : List NCh), vs = [v] ∧ Dp K H v (shN n cs) ∧ cs.length ≤ 3000 ∧
  ∀ r H', Same H H' → Dp K (newer H H') r (shL n cs) → Q r H'
end Shf


namespace Shf
open PySem PySem.Spec PyProof.Rows L2 LamX
/-! ### displays: what is made anew, as data -/
def Mk (K : PySem.W.Frag) (σ : L2.St) (t : TE) (d : PyData) : Prop := ∀ H Q, (∀ v H', Same H H' → Dp K (newer H H') v d → Q v H') → t σ H Q
def MkA (K : PySem.W.Frag) (σ : L2.St) (t : TA) (ds : List PyData) : Prop := ∀ H Q, (∀ vs H', Same H H' → DpAll K (newer H H') vs ds → Q vs H') → t σ H Q
def MkL (K : PySem.W.Frag) (σ : L2.St) (t : TE) (ds : List PyData) : Prop := ∀ H Q, (∀ p vs H', Same H H' → H p = none → H' p = some (.lst vs) → DpAll K (newer H H') vs ds → Q (.ref p) H') → t σ H Q
theorem newer_tr {H H1 H2 : Hp} (s : Same H H1) : Same (newer H1 H2) (newer H H2) := fun b o e => by
  unfold newer at e ⊢
  by_cases h1 : H1 b = none
  · rw [if_pos h1] at e
    rw [if_pos (none_of s h1)]
    exact e
  · rw [if_neg h1] at e
    cases e
section
variable {K : PySem.W.Frag} {σ : L2.St} {t ta tb : TE} {tr : TA} {d e : PyData} {ds es : List PyData}
theorem mk_non : Mk K σ (tC .non) .none := fun _ _ q => q _ _ Same.rfl' .non
theorem mk_bl {b : Bool} : Mk K σ (tC (.bl b)) (.bool b) := fun _ _ q => q _ _ Same.rfl' (.bl b)
theorem mk_int {i : Int} : Mk K σ (tC (.int i)) (.int i) := fun _ _ q => q _ _ Same.rfl' (.int i)
theorem mk_str {x : PySem.Str} : Mk K σ (tC (.str x)) (.str x) := fun _ _ q => q _ _ Same.rfl' (.str x)
theorem mk_neg {i : Int} : Mk K σ (tUn (rU fun i => .int (-i)) (tC (.int i))) (.int (-i)) := fun _ _ q => ⟨i, rfl, q _ _ Same.rfl' (.int (-i))⟩
theorem mk_varI {j : Nat} {i : Int} (h : σ[j]? = some (some (.int i))) : Mk K σ (tVar j) (.int i) := fun _ _ q => ⟨_, h, q _ _ Same.rfl' (.int i)⟩
theorem mka_nil : MkA K σ tNil [] := fun _ _ q => q _ _ Same.rfl' .nil
theorem mka_cons (h : Mk K σ t d) (g : MkA K σ tr ds) : MkA K σ (tCons t tr) (d :: ds) := fun H Q q =>
  h H _ fun v H1 s1 h1 => g H1 _ fun vs H2 s2 h2 => q _ _ (s1.tr s2) (.cons (dp_same (newer_same s2) _ _ h1) (dpAll_same (newer_tr s1) _ _ h2))
theorem mkl_lst (h : MkA K σ tr ds) (hl : ds.length ≤ 3000) : MkL K σ (tLst tr) ds := fun H Q q =>
  h H _ fun vs H1 s1 h1 => ⟨by rw [h1.len, sizeLine_eq]; omega, fun p hp => q p vs _ (s1.tr (same_new hp)) (none_of s1 hp) upd_same (dpAll_same (newer_same (same_new hp)) _ _ h1)⟩
theorem MkL.mk (h : MkL K σ t ds) : Mk K σ t (.list ds) := fun H Q q => h H Q fun p vs H1 s1 h0 hp h1 => q _ _ s1 (.lst (SqL.of ((newer_at h0).trans hp)) h1)
theorem mk_lst (h : MkA K σ tr ds) (hl : ds.length ≤ 3000 := by simp) : Mk K σ (tLst tr) (.list ds) := (mkl_lst h hl).mk
theorem mk_tup (h : MkA K σ tr ds) (hl : ds.length ≤ 3000 := by simp) : Mk K σ (tTup tr) (.tuple ds) := fun H Q q =>
  h H _ fun vs H1 s1 h1 => ⟨by rw [h1.len, sizeLine_eq]; omega, fun p hp => q _ _ (s1.tr (same_new hp)) (.tup (SqT.of ((newer_at (none_of s1 hp)).trans upd_same)) (dpAll_same (newer_same (same_new hp)) _ _ h1))⟩
theorem mkl_cat (h : MkL K σ ta ds) (g : MkL K σ tb es) (hl : ds.length + es.length ≤ 3000) : MkL K σ (tOp rCat ta tb) (ds ++ es) := fun H Q q =>
  h H _ fun p vs H1 s1 hp h1 d1 => g H1 _ fun p2 vs2 H2 s2 hp2 h2 d2 => ⟨p, p2, vs, vs2, rfl, rfl, s2 _ _ h1, h2, by rw [d1.len, d2.len, sizeLine_eq]; omega, fun p3 hp3 =>
    q p3 _ _ ((s1.tr s2).tr (same_new hp3)) (none_of (s1.tr s2) hp3) upd_same (dpAll_same (newer_same (same_new hp3)) _ _ (dAll_app (dpAll_same (newer_same s2) _ _ d1) (dpAll_same (newer_tr s1) _ _ d2)))⟩
/-- a name's list and a new one -/
theorem cat_var {j : Nat} {p : Addr} {vs : List V} {H : Hp} {Q : VK} (hσ : σ[j]? = some (some (.ref p))) (hp : H p = some (.lst vs)) (hv : vs.length ≤ 3000) (g : MkL K σ tb es) (hl : es.length ≤ 3000)
    (q : ∀ p3 vs2 H', Same H H' → H p3 = none → H' p3 = some (.lst (vs ++ vs2)) → DpAll K (newer H H') vs2 es → Q (.ref p3) H') : tOp rCat (tVar j) tb σ H Q :=
  ⟨_, hσ, g H _ fun p2 vs2 H2 s2 hp2 h2 d2 => ⟨p, p2, vs, vs2, rfl, rfl, s2 _ _ hp, h2, by rw [d2.len, sizeLine_eq]; omega, fun p3 hp3 =>
    q p3 vs2 _ (s2.tr (same_new hp3)) (none_of s2 hp3) upd_same (dpAll_same (newer_same (same_new hp3)) _ _ d2)⟩⟩
end
/-! ### chains that are none -/
def wrongA (n : Nat) : List PyData := [.none, .int 7, .str "list", .tuple [.str "list"], .tuple [.str "list", .tuple []], .tuple [.str "list", .list [.int (n : Int)]], .tuple [.str "list", .list [.int (-1)]], .tuple [.str "list", .list [.int 0, .int 0]], .tuple [.str "ring", .list [.int 0]]]
def wrongB : List PyData := [.tuple [.str "list", .list [.bool true]], .tuple [.str "row", .list [.int 0]], .tuple [.int 0, .list [.int 0]], .tuple [.str "list", .str "0"], .tuple [.str "list", .list [.int 0], .int 0], .tuple [.str "ring", .list [.int 0, .int 0, .int 0]]]
def wrongC (n : Nat) : List PyData := [.tuple [.str "ring", .list (nI (List.range (min n 2)))], .tuple [.list [], .list [.int 0]], .tuple [.str "list", .list [.none]], .tuple [.str "list", .list [.list [.int 0]]]]
theorem wrongA_bad {n : Nat} (hn : 1 ≤ n) : ∀ d ∈ wrongA n, dChain n d = false ∧ dOk d := by
  intro d hd
  unfold wrongA at hd
  simp only [List.mem_cons, List.not_mem_nil, or_false] at hd
  rcases hd with rfl | rfl | rfl | rfl | rfl | rfl | rfl | rfl | rfl
  · exact ⟨by kernel_rfl, by kernel_rfl, by kernel_rfl⟩
  · exact ⟨by kernel_rfl, by kernel_rfl, by kernel_rfl⟩
  · exact ⟨by kernel_rfl, by kernel_rfl, by kernel_rfl⟩
  · exact ⟨by kernel_rfl, by kernel_rfl, by kernel_rfl⟩
  · exact ⟨by kernel_rfl, by kernel_rfl, by kernel_rfl⟩
  · exact ⟨by simp [dChain, dPair, dRow, dSeq, dItems, dIn, dStr, dInts]; omega, by kernel_rfl, by kernel_rfl⟩
  · exact ⟨by simp [dChain, dPair, dRow, dSeq, dItems, dIn, dStr, dInts], by kernel_rfl, by kernel_rfl⟩
  · exact ⟨by simp [dChain, dPair, dRow, dSeq, dItems, dIn, dStr, dInts], by kernel_rfl, by kernel_rfl⟩
  · exact ⟨by simp [dChain, dPair, dRow, dSeq, dItems, dIn, dStr, dInts]; intro _; decide +kernel, by kernel_rfl, by kernel_rfl⟩
theorem wrongB_bad {n : Nat} (hn : 1 ≤ n) : ∀ d ∈ wrongB, dChain n d = false ∧ dOk d := by
  intro d hd
  unfold wrongB at hd
  simp only [List.mem_cons, List.not_mem_nil, or_false] at hd
  rcases hd with rfl | rfl | rfl | rfl | rfl | rfl
  · exact ⟨by simp [dChain, dPair, dRow, dSeq, dItems, dIn, dStr, dInts], by kernel_rfl, by kernel_rfl⟩
  · exact ⟨by simp [dChain, dPair, dRow, dSeq, dItems, dIn, dStr, dInts]; intro _; decide +kernel, by kernel_rfl, by kernel_rfl⟩
  · exact ⟨by simp [dChain, dPair, dRow, dSeq, dItems, dIn, dStr, dInts], by kernel_rfl, by kernel_rfl⟩
  · exact ⟨by simp [dChain, dPair, dRow, dSeq, dItems, dIn, dStr, dInts], by kernel_rfl, by kernel_rfl⟩
  · exact ⟨by kernel_rfl, by kernel_rfl, by kernel_rfl⟩
  · exact ⟨by simp [dChain, dPair, dRow, dSeq, dItems, dIn, dStr, dInts], by kernel_rfl, by kernel_rfl⟩
theorem min_two (n : Nat) (hn : 1 ≤ n) : min n 2 = 1 ∨ min n 2 = 2 := by omega
theorem wrongC_bad {n : Nat} (hn : 1 ≤ n) : ∀ d ∈ wrongC n, dChain n d = false ∧ dOk d := by
  intro d hd
  unfold wrongC at hd
  simp only [List.mem_cons, List.not_mem_nil, or_false] at hd
  rcases hd with rfl | rfl | rfl | rfl
  · rcases min_two n hn with e | e
    · rw [e]
      exact ⟨by simp [dChain, dPair, dRow, dSeq, dItems, dIn, dStr, dInts, List.range_succ]; intro _; decide +kernel, by kernel_rfl, by kernel_rfl⟩
    · rw [e]
      exact ⟨by simp [dChain, dPair, dRow, dSeq, dItems, dIn, dStr, dInts, List.range_succ]; intro _ _; decide +kernel, by kernel_rfl, by kernel_rfl⟩
  · exact ⟨by simp [dChain, dPair, dRow, dSeq, dItems, dIn, dStr, dInts], by kernel_rfl, by kernel_rfl⟩
  · exact ⟨by simp [dChain, dPair, dRow, dSeq, dItems, dIn, dStr, dInts], by kernel_rfl, by kernel_rfl⟩
  · exact ⟨by simp [dChain, dPair, dRow, dSeq, dItems, dIn, dStr, dInts], by kernel_rfl, by kernel_rfl⟩
def wrongs (n : Nat) : List PyData := wrongA n ++ wrongB ++ wrongC n
theorem wrongs_bad {n : Nat} (hn : 1 ≤ n) : ∀ d ∈ wrongs n, dChain n d = false ∧ dOk d := by
  intro d hd
  unfold wrongs at hd
  rcases List.mem_append.mp hd with hd | hd
  · rcases List.mem_append.mp hd with hd | hd
    · exact wrongA_bad hn d hd
    · exact wrongB_bad hn d hd
  · exact wrongC_bad hn d hd
theorem depAll_two {d e : PyData} {m : Nat} (h1 : PyData.depth d ≤ m) (h2 : PyData.depth e ≤ m) : PyData.depth (.tuple [d, e]) ≤ m + 1 := by
  rw [PyData.depth, PyData.depthAll, PyData.depthAll, PyData.depthAll]
  omega
theorem depAll_nI : ∀ l : List Nat, PyData.depthAll (nI l) = 0
  | [] => rfl
  | x :: r => by
    show PyData.depthAll (.int (x : Int) :: nI r) = 0
    rw [PyData.depthAll, depAll_nI r]
    rfl
theorem wrongs_dep {n : Nat} : ∀ d ∈ wrongs n, PyData.depth d ≤ 38 := by
  intro d hd
  unfold wrongs at hd
  rcases List.mem_append.mp hd with hd | hd
  · rcases List.mem_append.mp hd with hd | hd
    · unfold wrongA at hd
      simp only [List.mem_cons, List.not_mem_nil, or_false] at hd
      rcases hd with rfl | rfl | rfl | rfl | rfl | rfl | rfl | rfl | rfl <;> simp [PyData.depth, PyData.depthAll]
    · unfold wrongB at hd
      simp only [List.mem_cons, List.not_mem_nil, or_false] at hd
      rcases hd with rfl | rfl | rfl | rfl | rfl | rfl <;> simp [PyData.depth, PyData.depthAll]
  · unfold wrongC at hd
    simp only [List.mem_cons, List.not_mem_nil, or_false] at hd
    rcases hd with rfl | rfl | rfl | rfl
    · refine Nat.le_trans (depAll_two (m := 1) (Nat.zero_le _) ?_) (by decide)
      rw [PyData.depth, depAll_nI]
      exact Nat.le_refl _
    all_goals simp [PyData.depth, PyData.depthAll]
def spWrongChain (K : PySem.W.Frag) : Sp := fun vs H Q _ => ∃ (a : Addr) (n : Nat) (N : Int), vs = [.ref a, .int (n : Int)] ∧ BoxN H a N ∧ N < 1000000 ∧ 1 ≤ n ∧ n ≤ 3000 ∧
  ∀ r H' d, But a H H' → BoxN H' a (N + 1) → dChain n d = false → (dOk d ∧ PyData.depth d ≤ 38) → Dp K (off a H') r d → Q r H'
end Shf


namespace L2
open PySem PySem.Spec PyProof.Rows
section
variable {P : Program} {w : World} {K : PySem.W.Frag} {mg : PySem.Str → Option Value} {base : Heap} {CX : CXT} {k : Nat} {f : Addr} {fd : FuncData} {ps : List PySem.Str} {sp : Sp}
/-- a def's promise, its code object told -/
theorem FunD.okc {x qual : PySem.Str} {params : Arguments} {body : List Stmt} {scope : Scope} {dvs : List V} {kws : List (PySem.Str × V)} {N : List PySem.Str} (F : FunD K x qual params body scope dvs kws f fd) (Sc : FnScope N ps scope) (len : ∀ vs H Q E, sp vs H Q E → vs.length = ps.length)
    (hbody : ∀ (cdv : Value), AtCode K f fd cdv qual → ∀ (A : Around) (outer : List Env) (s : Shared) (H : Hp) (vs : List V) (Q : VK) (E : XK), Room k (A.deeper (envOfC qual scope s.heap.objs.size f cdv)) → sp vs H Q E →
      ∃ t, PSs (cxOf CX P w K mg base N qual scope f cdv A outer s H E) body t ∧ t { nx := fun _ H' => Q .non H', rt := Q } (start N vs) H) : FnOk P w K mg base CX (k + 1) f fd ps sp := by
  obtain ⟨oc, od, dV, kV, doc, pm, an, cdv, ct, osl, rfl, lk, hcd, _, _⟩ := F.ex
  exact fn_of lk hcd Sc len fun A outer s H vs Q E hr hsp => hbody cdv ⟨⟨_, _, _, lk⟩, rfl, hcd⟩ A outer s H vs Q E hr hsp
end
/-! f(k = e) -/
section
variable {X : Cx} {CX : CXT} {k : Nat} {f : Addr} {fd : FuncData} {sp : Sp} {E : XK} {x nm : PySem.Str} {p pos kp : Pos} {e : Expr} {te : TE}
def KB1 (K : PySem.W.Frag) (fd : FuncData) (nm : PySem.Str) : Prop := ∀ (s : Shared) (u : Value), K.In s.heap → BindsTo s fd ⟨[], [(nm, u)]⟩ [(nm, u)]
theorem pe_callK1 (F : FnOk X.prog X.w X.K X.mg X.base CX k f fd [nm] sp) (hr : Room k X.A) (hg : Gl X x) (hm : X.mg x = some (.ref f)) (hk : PySem.W.keepIn X.K (.ref f) = true) (hb : KB1 X.K fd nm) (hx : Passes CX X E) (he : PE X e te)
    (hall : (backToKw pos (keywordEach [⟨some nm, e, kp⟩] X.env)).all (·.1.isSome) = true := by rfl) (hks : (backToKw pos (keywordEach [⟨some nm, e, kp⟩] X.env)).filterMap (·.1) = [nm] := by rfl) (hdb : (x == ("__debug__" : PySem.Str)) = false := by decide)
    (hpl : ((backTo pos (starEach [] X.env)).any (·.1) || (backToKw pos (keywordEach [⟨some nm, e, kp⟩] X.env)).any (·.1.isNone)) = false := by rfl) :
    PE X (.Call (.Name x p) [] [⟨some nm, e, kp⟩] pos) (tCall sp [] E (tCons te tNil)) := by
  refine ⟨fun pins s σ H Q I h => ?_⟩
  refine wpAny_Call_Name_kw (ld_glob I hg hm ?_ hdb)
  refine PySem.W.callWith_KW0 (h₀ := X.base) I.ok.mod.kin hk hall ?_ hpl
  refine thn ((pk_cons (nm := nm) (kpos := kp) he pk_nil).run pos pins s σ H (fun zs H1 => sp zs H1 Q E) I (show te σ H (fun x H1 => sp [x] H1 Q E) from by
    have e0 : (fun (vs : List V) (H1 : Hp) => sp (vs ++ []) H1 Q E) = fun vs H1 => sp vs H1 Q E := by
      funext vs H1
      rw [List.append_nil]
    exact h)) fun ws s1 hh => ?_
  obtain ⟨zs, H1, I1, rz, q⟩ := hh
  refine ⟨I1.kIn, ?_⟩
  rw [hks]
  have hl : zs.length = 1 := F.len _ _ _ _ q
  obtain ⟨z, u, rfl, rfl, rzu⟩ : ∃ z u, zs = [z] ∧ ws = [u] ∧ RelV z u := by
    match zs, ws, hl, rz with
    | [z], [u], _, .cons r .nil => exact ⟨z, u, rfl, rfl, r⟩
  refine wpAny_call (codeAny_mono (F.run X.A X.stack s1 H1 ⟨[], [(nm, u)]⟩ [u] [z] Q E hr I1.env0 (hb s1 u I1.kIn) (.cons rzu .nil) q) fun r s' hq => ?_)
  cases r with
  | error e => exact hx pins σ H1 s1 e s' I1 hq
  | ok fl =>
    cases fl with
    | ret u => exact I1.after hq
    | next => exact False.elim hq
    | brk => exact False.elim hq
    | cont => exact False.elim hq
end
end L2
namespace Shf
open PySem PySem.Spec PyProof.Rows L2 LamX
theorem Fk.kw {P : Program} {w : World} {K : PySem.W.Frag} {mg : PySem.Str → Option Value} {base : Heap} {k : Nat} {x nm : PySem.Str} {sp : Sp} {st : Stmt} {fd : FuncData} (c : Fk P w K mg base k x [nm] sp) (h : Has K mg x st fd)
    (hb : ∀ (kV doc pm : Value) (an : Option Addr) (cdv ct : Value) (u : Value), bindArgs (PySem.W.fnOf x x (defArgs st) (defBody st) (defScope st) .none kV doc pm an cdv ct) ⟨[], [(nm, u)]⟩ = pure [(nm, u)]) :
    ∃ fd, FnOk P w K mg base (L2.CX P w) k (ea K x) fd [nm] sp ∧ KB1 K fd nm := by
  obtain ⟨fd1, F, _, oc1, od1, osl1, lk1⟩ := c.ex
  obtain ⟨oc, od, dV, kV, doc, pm, an, cdv, ct, osl, rfl, lk, hcd, hD, hK⟩ := h.F.ex
  have e : fd1 = PySem.W.fnOf x x (defArgs st) (defBody st) (defScope st) dV kV doc pm an cdv ct := by
    rw [lk] at lk1
    have y := congrArg Obj.data (Option.some.inj lk1)
    exact (Data.func.inj y).symm
  rcases hD with ⟨_, rfl⟩ | ⟨e2, _⟩
  · refine ⟨fd1, F, fun s u _ => ?_⟩
    rw [e]
    exact BindsTo.of_eq (hb kV doc pm an cdv ct u)
  · exact absurd rfl e2
/-! ### data that can be shown and compared -/
structure Nice (d : PyData) (dp wt : Nat) : Prop where
  lay : PyData.canLay0 d = true
  dep : PyData.depth d ≤ dp
  wt : PyData.weight d ≤ wt
  sh : PyData.intsShort 13 d = true
  sw : PyData.showable d = true
theorem Nice.le {d : PyData} {a b a' b' : Nat} (h : Nice d a b) (h1 : a ≤ a') (h2 : b ≤ b') : Nice d a' b' := ⟨h.lay, Nat.le_trans h.dep h1, Nat.le_trans h.wt h2, h.sh, h.sw⟩
theorem nice_nat {n : Nat} (h : n < 1000000) : Nice (.int (n : Int)) 0 20 := by
  have l : (n : Int).natAbs.log2 < 20 := by
    rw [Int.natAbs_natCast]
    by_cases e : n = 0
    · subst e
      decide
    · exact (Nat.log2_lt e).mpr (by omega)
  refine ⟨rfl, Nat.le_refl _, ?_, ?_, ?_⟩
  · rw [PyData.weight]
    split <;> omega
  · rw [PyData.intsShort, decide_eq_true_eq]
    exact PyData.shown_int_le2 (by omega) (by omega)
  · rw [PyData.showable, decide_eq_true_eq]
    omega
mutual
def niceB (dp : Nat) (wt : Nat) : PyData → Bool := fun d => PyData.canLay0 d && decide (PyData.depth d ≤ dp) && decide (PyData.weight d ≤ wt) && PyData.intsShort 13 d && PyData.showable d
end
theorem nice_of {d : PyData} {dp wt : Nat} (h : niceB dp wt d = true) : Nice d dp wt := by
  unfold niceB at h
  rw [Bool.and_eq_true, Bool.and_eq_true, Bool.and_eq_true, Bool.and_eq_true, decide_eq_true_eq, decide_eq_true_eq] at h
  obtain ⟨⟨⟨⟨h1, h2⟩, h3⟩, h4⟩, h5⟩ := h
  exact ⟨h1, h2, h3, h4, h5⟩
/-- of all of a list -/
structure NiceA (ds : List PyData) (dp wt : Nat) : Prop where
  lay : PyData.canLayAll0 ds = true
  dep : PyData.depthAll ds ≤ dp
  wt : PyData.weightAll ds ≤ wt
  sh : PyData.intsShortAll 13 ds = true
  sw : PyData.showableAll ds = true
theorem niceA_nil {dp : Nat} : NiceA [] dp 0 := ⟨rfl, Nat.zero_le _, Nat.le_refl _, rfl, rfl⟩
theorem niceA_cons {d : PyData} {ds : List PyData} {dp a b : Nat} (h : Nice d dp a) (g : NiceA ds dp b) : NiceA (d :: ds) dp (a + 1 + b) := by
  refine ⟨?_, ?_, ?_, ?_, ?_⟩
  · rw [PyData.canLayAll0, h.lay, g.lay]
    rfl
  · rw [PyData.depthAll]
    exact Nat.max_le.mpr ⟨h.dep, g.dep⟩
  · rw [PyData.weightAll]
    have := h.wt
    have := g.wt
    omega
  · rw [PyData.intsShortAll, h.sh, g.sh]
    rfl
  · rw [PyData.showableAll, h.sw, g.sw]
    rfl
theorem niceA_map {α : Type} {f : α → PyData} {dp a : Nat} : ∀ {l : List α}, (∀ x ∈ l, Nice (f x) dp a) → NiceA (l.map f) dp (l.length * (a + 1))
  | [], _ => by
    rw [List.length_nil, Nat.zero_mul]
    exact niceA_nil
  | x :: r, h => by
    have z := niceA_cons (h x (List.mem_cons_self ..)) (niceA_map (l := r) fun y hy => h y (List.mem_cons_of_mem _ hy))
    rw [List.length_cons, Nat.add_mul, Nat.one_mul, Nat.add_comm]
    exact z
theorem nice_tup {ds : List PyData} {dp wt : Nat} (g : NiceA ds dp wt) : Nice (.tuple ds) (dp + 1) wt := by
  refine ⟨?_, ?_, ?_, ?_, ?_⟩
  · rw [PyData.canLay0]; exact g.lay
  · rw [PyData.depth]; exact Nat.succ_le_succ g.dep
  · rw [PyData.weight]; exact g.wt
  · rw [PyData.intsShort]; exact g.sh
  · rw [PyData.showable]; exact g.sw
theorem nice_lst {ds : List PyData} {dp wt : Nat} (g : NiceA ds dp wt) : Nice (.list ds) (dp + 1) wt := by
  refine ⟨?_, ?_, ?_, ?_, ?_⟩
  · rw [PyData.canLay0]; exact g.lay
  · rw [PyData.depth]; exact Nat.succ_le_succ g.dep
  · rw [PyData.weight]; exact g.wt
  · rw [PyData.intsShort]; exact g.sh
  · rw [PyData.showable]; exact g.sw
theorem niceA_le {ds : List PyData} {a b a' b' : Nat} (h : NiceA ds a b) (h1 : a ≤ a') (h2 : b ≤ b') : NiceA ds a' b' := ⟨h.lay, Nat.le_trans h.dep h1, Nat.le_trans h.wt h2, h.sh, h.sw⟩
theorem Nice.shaped {d : PyData} {dp wt : Nat} (h : Nice d dp wt) (h1 : dp ≤ 60) : SeqAt.shaped d = true := by
  unfold SeqAt.shaped
  rw [h.lay, Bool.true_and, decide_eq_true_eq]
  have := h.dep
  omega
theorem Nice.refl {d : PyData} {dp wt : Nat} (h : Nice d dp wt) : PyData.eqv d d = true := SeqAt.eqv_refl_plain d (PyData.plain_of_canLay0 d h.lay)
/-- repr's question -/
theorem Nice.repr {K : PySem.W.Frag} {H : Hp} {a : Addr} {d : PyData} {dp wt : Nat} {Q : VK} (h : Nice d dp wt) (h1 : dp ≤ 60) (h2 : wt ≤ 1000000) (hd : Dp K H (.ref a) d) (q : Q (.str d.shown) H) : rRepr K [.ref a] H Q := by
  refine ⟨.ref a, d, rfl, hd, h.sw, PyData.hasDict_of_canLay d h.lay, Nat.le_trans h.dep h1, ?_, ⟨a, rfl⟩, q⟩
  have z := shown_le13 (d := d) (by
    unfold PyData.layable0
    rw [h.lay, Bool.true_and, Bool.and_eq_true, decide_eq_true_eq, decide_eq_true_eq]
    have := h.dep
    have := h.wt
    exact ⟨by omega, by omega⟩) h.sh
  rw [sizeLine_eq]
  omega
theorem nice_kind (r : Bool) : Nice (.str (if r = true then "ring" else "list")) 0 8 := by
  cases r
  · exact nice_of (by decide +kernel)
  · exact nice_of (by decide +kernel)
theorem nice_nI {l : List Nat} (h : ∀ x ∈ l, x < 1000000) : NiceA (nI l) 0 (l.length * 21) := niceA_map fun x hx => nice_nat (h x hx)
theorem nice_chN {n : Nat} {c : NCh} (o : ChOk n c) (hn : n ≤ 200) : Nice (chN c) 2 (8 + 1 + (200 * 21 + 1 + 0)) := by
  have h2 := List.Nodup.length_le_of_subset o.nd (l₂ := List.range n) fun x hx => List.mem_range.mpr (o.lt x hx)
  rw [List.length_range] at h2
  exact nice_tup (niceA_cons ((nice_kind c.1).le (by omega) (by omega)) (niceA_cons ((nice_tup (nice_nI fun x hx => by have := o.lt x hx; omega)).le (Nat.le_refl _) (Nat.mul_le_mul_right 21 (by omega))) niceA_nil))
theorem nice_shN {n : Nat} {cs : List NCh} (o : ∀ c ∈ cs, ChOk n c) (hn : n ≤ 200) (hc : cs.length ≤ 200) : Nice (shN n cs) 4 1000000 := by
  have y := niceA_map (f := chN) fun c hc => nice_chN (o c hc) hn
  have z := nice_tup (niceA_cons ((nice_nat (n := n) (by omega)).le (Nat.zero_le 3) (Nat.le_refl _)) (niceA_cons (nice_tup y) niceA_nil))
  refine z.le (Nat.le_refl _) ?_
  have e : cs.length * (8 + 1 + (200 * 21 + 1 + 0) + 1) ≤ 200 * 4211 := Nat.mul_le_mul hc (by decide)
  omega
theorem nice_chL {n : Nat} {c : NCh} (o : ChOk n c) (hn : n ≤ 200) : Nice (chL c) 2 (8 + 1 + (200 * 21 + 1 + 0)) := by
  have h2 := List.Nodup.length_le_of_subset o.nd (l₂ := List.range n) fun x hx => List.mem_range.mpr (o.lt x hx)
  rw [List.length_range] at h2
  exact nice_lst (niceA_cons ((nice_kind c.1).le (by omega) (by omega)) (niceA_cons ((nice_lst (nice_nI fun x hx => by have := o.lt x hx; omega)).le (Nat.le_refl _) (Nat.mul_le_mul_right 21 (by omega))) niceA_nil))
theorem nice_shL {n : Nat} {cs : List NCh} (o : ∀ c ∈ cs, ChOk n c) (hn : n ≤ 200) (hc : cs.length ≤ 200) : Nice (shL n cs) 4 1000000 := by
  have y := niceA_map (f := chL) fun c hc => nice_chL (o c hc) hn
  have z := nice_lst (niceA_cons ((nice_nat (n := n) (by omega)).le (Nat.zero_le 3) (Nat.le_refl _)) (niceA_cons (nice_lst y) niceA_nil))
  refine z.le (Nat.le_refl _) ?_
  have e : cs.length * (8 + 1 + (200 * 21 + 1 + 0) + 1) ≤ 200 * 4211 := Nat.mul_le_mul hc (by decide)
  omega
theorem nice_lkD {L : List (Nat × Nat)} (h : ∀ p ∈ L, p.1 < 64 ∧ p.2 < 64) (hl : L.length ≤ 3000) : Nice (lkD L) 2 1000000 := by
  have y := niceA_map (f := fun p : Nat × Nat => PyData.tuple [.int (p.1 : Int), .int (p.2 : Int)]) (l := L) (dp := 1) (a := 20 + 1 + (20 + 1 + 0)) fun p hp => nice_tup (niceA_cons (nice_nat (by have := h p hp; omega)) (niceA_cons (nice_nat (by have := h p hp; omega)) niceA_nil))
  refine (nice_tup y).le (Nat.le_refl _) ?_
  omega
theorem nice_rwD {rs : List (List Nat)} {m : Nat} (h : ∀ r ∈ rs, r.length ≤ m ∧ ∀ x ∈ r, x < 1000000) (hl : rs.length ≤ 200) (hm : m ≤ 200) : Nice (rwD rs) 2 1000000 := by
  have y := niceA_map (f := fun r : List Nat => PyData.tuple (nI r)) (l := rs) (dp := 1) (a := m * 21) fun r hr => (nice_tup (nice_nI (h r hr).2)).le (Nat.le_refl _) (Nat.mul_le_mul_right 21 (h r hr).1)
  refine (nice_tup y).le (Nat.le_refl _) ?_
  have e : rs.length * (m * 21 + 1) ≤ 200 * 4201 := Nat.mul_le_mul hl (by omega)
  omega
/-! ### a step of the law: all stays but the box and the tables -/
def Stp (a : Addr) (H H' : Hp) : Prop := ∀ b o, b ≠ a → H b = some o → (∀ ps, o ≠ .tbl ps) → H' b = some o
theorem Stp.rfl' {a : Addr} {H : Hp} : Stp a H H := fun _ _ _ e _ => e
theorem Stp.tr {a : Addr} {H H1 H2 : Hp} (x : Stp a H H1) (y : Stp a H1 H2) : Stp a H H2 := fun b o n e t => y b o n (x b o n e t) t
theorem Stp.of {a : Addr} {H H' : Hp} (s : Same H H') : Stp a H H' := fun b o _ e _ => s b o e
theorem Stp.ext {a : Addr} {H H' : Hp} (s : ExtN H H') : Stp a H H' := fun b o _ e t => s b o e t
theorem Stp.but {a : Addr} {H H' : Hp} (s : But a H H') : Stp a H H' := fun b o n e _ => s b o n e
theorem Stp.off {a : Addr} {H H' : Hp} (s : Stp a H H') : ExtN (off a H) (off a H') := fun b o e t => by
  unfold Shf.off at e ⊢
  by_cases h : b = a
  · rw [if_pos h] at e
    cases e
  · rw [if_neg h] at e ⊢
    exact s b o h e t
theorem Stp.keep {a : Addr} {H H' : Hp} {xs : List V} (s : Stp a H H') (ha : H a = some (.lst xs)) : KeepT H H' := fun b ys =>
  ⟨fun h => s b _ (fun z => by rw [z, ha] at h; cases h) h (fun _ z => by cases z), fun o h => s b _ (fun z => by rw [z, ha] at h; cases h) h (fun _ z => by cases z)⟩
theorem tabs_but {T : List (Addr × PySem.Str)} {a : Addr} {H H' : Hp} {xs : List V} (t : Tabs T H) (s : But a H H') (ha : H a = some (.lst xs)) : Tabs T H' := fun p hp => by
  obtain ⟨ps, h1, h2, h3⟩ := t p hp
  refine ⟨ps, s _ _ (fun z => by rw [z, ha] at h1; cases h1) h1, h2, fun pos cv hc => ?_⟩
  obtain ⟨c, rfl, hcc⟩ := h3 pos cv hc
  exact ⟨c, rfl, s _ _ (fun z => by rw [z, ha] at hcc; cases hcc) hcc⟩
theorem tabs_same {T : List (Addr × PySem.Str)} {H H' : Hp} (t : Tabs T H) (s : Same H H') : Tabs T H' := t.ext s
/-- a def's own table of lambdas -/
def tbN (K : PySem.W.Frag) (x : PySem.Str) : Addr × PySem.Str := ((He.cT K (x, none)).2, (x ++ ".<locals>.") ++ "<lambda>")
def tbs (K : PySem.W.Frag) (xs : List PySem.Str) : List (Addr × PySem.Str) := xs.map (tbN K)
theorem tabOk_of {X : Cx} {x : PySem.Str} {xs : List PySem.Str} {fd : FuncData} {cdv : Value} (h : AtCode X.K (ea X.K x) fd cdv x) (hx : x ∈ xs) (two : ((xs.map fun y => (He.cT X.K (y, none)).2)).Nodup)
    (tb : ∀ y ∈ xs, TabB X.base X.mg (He.cT X.K (y, none)).1 (He.cT X.K (y, none)).2) (hq : X.env.qual = x ++ ".<locals>.") (hc : X.env.code = cdv) : TabOk X (tbs X.K xs) (He.cT X.K (x, none)).1 (He.cT X.K (x, none)).2 := by
  obtain ⟨⟨oc, od, osl, lk⟩, e1, e2⟩ := h
  obtain ⟨cc, rfl⟩ := He.codeIn_ref e2
  have e3 : (He.cT X.K (x, none)).1 = cc := He.codeOf_eq (p := (x, none)) lk e1
  refine ⟨tb x hx, by rw [hc, e3], ?_, fun p hp e => ?_⟩
  · rw [hq]
    exact List.mem_map_of_mem hx
  · obtain ⟨y, hy, rfl⟩ := List.mem_map.mp hp
    have ey : y = x := map_inj two y hy x hx e
    rw [ey, hq]
    rfl
def spWholeLists (K : PySem.W.Frag) (Ts : List (Addr × PySem.Str)) : Sp := fun vs H Q _ => ∃ (a : Addr) (N : Int), vs = [.ref a] ∧ BoxN H a N ∧ N < 1000000 ∧ Tabs Ts H ∧
  ∀ H', Stp a H H' → BoxN H' a (N + 10) → Tabs Ts H' → Q (.bl true) H'
theorem mk_rg {K : PySem.W.Frag} {σ : L2.St} {j n : Nat} (h : σ[j]? = some (some (.int (n : Int)))) (hn : n ≤ 200) : Mk K σ (tTupRg (tRg1 (tVar j))) (.tuple (nI (List.range n))) := fun H Q q =>
  ⟨_, h, n, rfl, RgOk.of_le (by omega) (by omega) (by omega) (by omega), fun p hp => q _ _ (same_new hp) (.tup (SqT.of ((newer_at hp).trans upd_same)) (by rw [rgV_nat]; exact dAll_nat _))⟩
theorem mk_whole {K : PySem.W.Frag} {σ : L2.St} {j n : Nat} (r : Bool) (h : σ[j]? = some (some (.int (n : Int)))) (hn : n ≤ 200) :
    Mk K σ (tTup (tCons (tVar j) (tCons (tTup (tCons (tTup (tCons (tC (.str (if r = true then "ring" else "list"))) (tCons (tTupRg (tRg1 (tVar j))) tNil))) tNil)) tNil))) (shN n [(r, List.range n)]) :=
  mk_tup (mka_cons (mk_varI h) (mka_cons (mk_tup (mka_cons (mk_tup (mka_cons mk_str (mka_cons (mk_rg h hn) mka_nil))) mka_nil)) mka_nil))
theorem ne_same {K : PySem.W.Frag} {H : Hp} {x y : V} {d : PyData} {dp wt : Nat} {Q : VK} (hx : Dp K H x d) (hy : Dp K H y d) (h : Nice d dp wt) (h1 : dp ≤ 60) (q : Q (.bl false) H) : rNeD K x y H Q :=
  ⟨d, d, hx, hy, h.shaped h1, h.shaped h1, by rw [h.refl]; exact q⟩
theorem eq_same {K : PySem.W.Frag} {H : Hp} {x y : V} {d : PyData} {dp wt : Nat} {Q : VK} (hx : Dp K H x d) (hy : Dp K H y d) (h : Nice d dp wt) (h1 : dp ≤ 60) (q : Q (.bl true) H) : rEqD K x y H Q :=
  ⟨d, d, hx, hy, h.shaped h1, h.shaped h1, by rw [h.refl]; exact q⟩
theorem ok_whole {n : Nat} {r : Bool} (h1 : 1 ≤ n) (h3 : r = true → 3 ≤ n) : ∀ c ∈ [((r, List.range n) : NCh)], ChOk n c := by
  intro c hc
  rw [List.mem_singleton] at hc
  subst hc
  exact ⟨List.nodup_range, fun x hx => List.mem_range.mp hx, by show 1 ≤ (List.range n).length; rw [List.length_range]; exact h1, fun z => by show 3 ≤ (List.range n).length; rw [List.length_range]; exact h3 z⟩
theorem dIn_nat {lo n : Nat} : dIn lo 200 (.int (n : Int)) = (decide (lo ≤ n) && decide (n ≤ 200)) := by
  show (decide ((lo : Int) ≤ n) && decide ((n : Int) ≤ 200)) = _
  rw [Bool.eq_iff_iff]
  simp only [Bool.and_eq_true, decide_eq_true_eq]
  omega
def szD : PyData := .tuple [.str "size", .str "cells"]
theorem nice_sz : Nice szD 1 100 := nice_of (by decide +kernel)
def atD (x : Int) : PyData := .tuple [.str "shelf", .int x]
def sizesBad : List PyData := [.int 0, .int (-1), .int 201, .none, .bool true, .str "3", .list [.int 3]]
theorem sizes_bad : ∀ d ∈ sizesBad, dIn 1 200 d = false ∧ dIn 3 200 d = false := by
  intro d hd
  unfold sizesBad at hd
  simp only [List.mem_cons, List.not_mem_nil, or_false] at hd
  rcases hd with rfl | rfl | rfl | rfl | rfl | rfl | rfl <;> exact ⟨rfl, rfl⟩
end Shf


namespace Shf
open PySem PySem.Spec PyProof.Rows L2 LamX
/-! ### shelves told -/
theorem dInts_nI : ∀ l : List Nat, dInts (nI l) = l.map fun x : Nat => (x : Int)
  | [] => rfl
  | x :: r => by
    show (x : Int) :: dInts (nI r) = (x : Int) :: r.map fun x : Nat => (x : Int)
    rw [dInts_nI r]
theorem dRow_nI {m : Nat} {d : PyData} {l : List Nat} (hs : dSeq d = true) (hi : dItems d = nI l) (lt : ∀ x ∈ l, x < m) (nd : l.Nodup) : dRow m d = true := by
  unfold dRow
  rw [hs, hi, Bool.true_and, Bool.and_eq_true, decide_eq_true_eq, dInts_nI]
  refine ⟨?_, ?_⟩
  · rw [List.all_eq_true]
    intro z hz
    obtain ⟨x, hx, rfl⟩ := List.mem_map.mp hz
    have y := lt x hx
    show (decide ((0 : Int) ≤ (x : Int)) && decide ((x : Int) ≤ (m : Int) - 1)) = true
    rw [Bool.and_eq_true, decide_eq_true_eq, decide_eq_true_eq]
    omega
  · rw [List.Nodup, List.pairwise_map]
    exact nd.imp fun h e => h (by omega)
theorem dStr_self (x : PySem.Str) : dStr x (.str x) = true := by
  show (x == x) = true
  rw [beq_self_eq_true]
theorem ring_list : dStr "ring" (.str "list") = false := by decide +kernel
theorem list_ring : dStr "list" (.str "ring") = false := by decide +kernel
theorem dChain_of {m : Nat} {c : NCh} {d e : PyData} (ok : ChOk m c) (hs : dSeq d = true) (hi : dItems d = [.str (if c.1 = true then "ring" else "list"), e]) (es : dSeq e = true) (ei : dItems e = nI c.2) : dChain m d = true ∧ chOf d = chI c := by
  have h1 : (dItems d).getD 1 .none = e := by rw [hi]; rfl
  have h0 : (dItems d).getD 0 .none = .str (if c.1 = true then "ring" else "list") := by rw [hi]; rfl
  have len : (dItems e).length = c.2.length := by rw [ei, List.length_map]
  refine ⟨?_, ?_⟩
  · unfold dChain
    rw [h1, h0, len, dRow_nI es ei ok.lt ok.nd, Bool.true_and]
    have hp : dPair d = true := by
      unfold dPair
      rw [hs, hi]
      rfl
    rw [hp, Bool.true_and]
    by_cases r : c.1 = true
    · rw [if_pos r, list_ring, dStr_self, Bool.false_and, Bool.false_or, Bool.true_and, decide_eq_true_eq]
      exact ok.ring r
    · rw [if_neg r, dStr_self, Bool.true_and, decide_eq_true ok.ne, Bool.true_or]
  · show (dStr "ring" ((dItems d).getD 0 .none), dInts (dItems ((dItems d).getD 1 .none))) = _
    rw [h1, h0, ei, dInts_nI]
    obtain ⟨b, l⟩ := c
    cases b
    · show (dStr "ring" (.str "list"), _) = _
      rw [ring_list]
      rfl
    · show (dStr "ring" (.str "ring"), _) = _
      rw [dStr_self]
      rfl
theorem dChain_N {m : Nat} {c : NCh} (ok : ChOk m c) : dChain m (chN c) = true ∧ chOf (chN c) = chI c := dChain_of ok rfl rfl rfl rfl
theorem dChain_L {m : Nat} {c : NCh} (ok : ChOk m c) : dChain m (chL c) = true ∧ chOf (chL c) = chI c := dChain_of ok rfl rfl rfl rfl
theorem bad_nil {m : Int} {zs : List PyData} (h : ∀ z ∈ zs, dChain m z = true) (hl : zs.length ≤ 200) : badFrom m 0 zs = none := by
  refine bad_done fun k hk z hz => ?_
  rw [h z (List.mem_of_getElem? hz), decide_eq_false (by omega)]
  rfl
theorem shOk_of {n : Nat} {cs : List NCh} {d e : PyData} {f : NCh → PyData} (h1 : 1 ≤ n) (h2 : n ≤ 200) (hl : cs.length ≤ 200) (hs : dSeq d = true) (hi : dItems d = [.int (n : Int), e]) (es : dSeq e = true) (ei : dItems e = cs.map f)
    (hf : ∀ c ∈ cs, dChain n (f c) = true ∧ chOf (f c) = chI c) : ShOk d n cs := by
  have g1 : d1 d = e := by show (dItems d).getD 1 .none = e; rw [hi]; rfl
  have g0 : d0 d = .int (n : Int) := by show (dItems d).getD 0 .none = _; rw [hi]; rfl
  have hp : dPair d = true := by
    unfold dPair
    rw [hs, hi]
    rfl
  refine ⟨?_, ?_, ?_, ?_⟩
  · unfold shHead
    rw [hp, g0, g1, es, Bool.true_and, Bool.and_true]
    show (decide ((1 : Int) ≤ (n : Int)) && decide ((n : Int) ≤ 200)) = true
    rw [Bool.and_eq_true, decide_eq_true_eq, decide_eq_true_eq]
    omega
  · rw [g0, g1, ei]
    refine bad_nil (fun z hz => ?_) (by rw [List.length_map]; exact hl)
    obtain ⟨c, hc, rfl⟩ := List.mem_map.mp hz
    exact (hf c hc).1
  · rw [g0]
    rfl
  · rw [g1, ei, List.map_map]
    exact List.map_congr_left fun c hc => (hf c hc).2
theorem shOk_N {n : Nat} {cs : List NCh} (h1 : 1 ≤ n) (h2 : n ≤ 200) (hl : cs.length ≤ 200) (ok : ∀ c ∈ cs, ChOk n c) : ShOk (shN n cs) n cs := shOk_of h1 h2 hl rfl rfl rfl rfl fun c hc => dChain_N (ok c hc)
theorem shOk_L {n : Nat} {cs : List NCh} (h1 : 1 ≤ n) (h2 : n ≤ 200) (hl : cs.length ≤ 200) (ok : ∀ c ∈ cs, ChOk n c) : ShOk (shL n cs) n cs := shOk_of h1 h2 hl rfl rfl rfl rfl fun c hc => dChain_L (ok c hc)
/-! #### lengths -/
theorem dLens_all {ds : List PyData} (h : ∀ z ∈ ds, dLens z = true) : dLensAll ds = true := by
  induction ds with
  | nil => rfl
  | cons d r ih =>
    rw [dLensAll, h d (List.mem_cons_self ..), ih fun z hz => h z (List.mem_cons_of_mem _ hz)]
    rfl
theorem dLens_nI (l : List Nat) : dLensAll (nI l) = true := dLens_all fun z hz => by
  obtain ⟨x, _, rfl⟩ := List.mem_map.mp hz
  rfl
theorem dLens_tup {ds : List PyData} (hl : ds.length ≤ 3000) (h : dLensAll ds = true) : dLens (.tuple ds) = true := by
  rw [dLens, h, decide_eq_true hl]
  rfl
theorem dLens_lst {ds : List PyData} (hl : ds.length ≤ 3000) (h : dLensAll ds = true) : dLens (.list ds) = true := by
  rw [dLens, h, decide_eq_true hl]
  rfl
theorem ch_len {n : Nat} {c : NCh} (o : ChOk n c) : c.2.length ≤ n := by
  have h2 := List.Nodup.length_le_of_subset o.nd (l₂ := List.range n) fun x hx => List.mem_range.mpr (o.lt x hx)
  rw [List.length_range] at h2
  exact h2
theorem dLens_two {d e : PyData} (h1 : dLens d = true) (h2 : dLens e = true) : dLensAll [d, e] = true := dLens_all fun z hz => by
  rcases List.mem_cons.mp hz with rfl | hz
  · exact h1
  · rw [List.mem_singleton] at hz
    subst hz
    exact h2
theorem dLens_chN {n : Nat} {c : NCh} (o : ChOk n c) (hn : n ≤ 200) : dLens (chN c) = true := dLens_tup (show (2 : Nat) ≤ 3000 by decide) (dLens_two rfl (dLens_tup (by rw [List.length_map]; have := ch_len o; omega) (dLens_nI _)))
theorem dLens_chL {n : Nat} {c : NCh} (o : ChOk n c) (hn : n ≤ 200) : dLens (chL c) = true := dLens_lst (show (2 : Nat) ≤ 3000 by decide) (dLens_two rfl (dLens_lst (by rw [List.length_map]; have := ch_len o; omega) (dLens_nI _)))
theorem dOk_N {n : Nat} {cs : List NCh} (o : ∀ c ∈ cs, ChOk n c) (hn : n ≤ 200) (hc : cs.length ≤ 200) : dOk (shN n cs) := ⟨(nice_shN o hn hc).shaped (by decide), dLens_tup (show (2 : Nat) ≤ 3000 by decide) (dLens_two rfl (dLens_tup (by rw [List.length_map]; omega) (dLens_all fun z hz => by
  obtain ⟨c, hc', rfl⟩ := List.mem_map.mp hz
  exact dLens_chN (o c hc') hn)))⟩
theorem dOk_L {n : Nat} {cs : List NCh} (o : ∀ c ∈ cs, ChOk n c) (hn : n ≤ 200) (hc : cs.length ≤ 200) : dOk (shL n cs) := ⟨(nice_shL o hn hc).shaped (by decide), dLens_lst (show (2 : Nat) ≤ 3000 by decide) (dLens_two rfl (dLens_lst (by rw [List.length_map]; omega) (dLens_all fun z hz => by
  obtain ⟨c, hc', rfl⟩ := List.mem_map.mp hz
  exact dLens_chL (o c hc') hn)))⟩
/-! #### a shelf with a wrong chain at a place -/
def wrD (n : Nat) (zs : List PyData) (at_ : Nat) (w : PyData) : PyData := .tuple [.int (n : Int), .list (zs.take at_ ++ [w] ++ zs.drop at_ ++ [.none])]
theorem wr_bad {n : Nat} {zs : List PyData} {i : Nat} {w : PyData} (h1 : 1 ≤ n) (h2 : n ≤ 200) (hz : ∀ z ∈ zs, dChain n z = true) (hi : i ≤ zs.length) (hl : zs.length ≤ 100) (hw : dChain n w = false) : ShBad (wrD n zs i w) (i : Int) := by
  refine .chain i ?_ ?_
  · show (dPair _ && (dIn 1 200 (.int (n : Int)) && true)) = true
    rw [Bool.and_true]
    show (true && dIn 1 200 (.int (n : Int))) = true
    rw [Bool.true_and]
    show (decide ((1 : Int) ≤ (n : Int)) && decide ((n : Int) ≤ 200)) = true
    rw [Bool.and_eq_true, decide_eq_true_eq, decide_eq_true_eq]
    omega
  · show badFrom (n : Int) 0 (zs.take i ++ [w] ++ zs.drop i ++ [.none]) = some i
    have lt : (zs.take i).length = i := by rw [List.length_take]; omega
    have at_i : (zs.take i ++ [w] ++ zs.drop i ++ [.none])[i]? = some w := by
      rw [List.append_assoc, List.append_assoc, List.getElem?_append_right (by omega), lt, Nat.sub_self]
      rfl
    have q := bad_step (m := (n : Int)) (j := 0) at_i (fun k hk z hz' => ?_) (by rw [hw]; simp)
    · rw [Nat.zero_add] at q
      exact q
    · rw [List.append_assoc, List.append_assoc, List.getElem?_append_left (by omega), List.getElem?_take, if_pos hk] at hz'
      rw [hz z (List.mem_of_getElem? hz'), decide_eq_false (by omega)]
      rfl
theorem canAll_app : ∀ {xs ys : List PyData}, PyData.canLayAll0 (xs ++ ys) = (PyData.canLayAll0 xs && PyData.canLayAll0 ys)
  | [], ys => by show _ = (true && _); rw [Bool.true_and]; rfl
  | x :: xs, ys => by
    rw [List.cons_append, PyData.canLayAll0, canAll_app, PyData.canLayAll0, Bool.and_assoc]
theorem canAll_of {xs : List PyData} (h : ∀ z ∈ xs, PyData.canLay0 z = true) : PyData.canLayAll0 xs = true := by
  induction xs with
  | nil => rfl
  | cons d r ih =>
    rw [PyData.canLayAll0, h d (List.mem_cons_self ..), ih fun z hz => h z (List.mem_cons_of_mem _ hz)]
    rfl
theorem depthAll_le {xs : List PyData} {m : Nat} (h : ∀ z ∈ xs, PyData.depth z ≤ m) : PyData.depthAll xs ≤ m := by
  induction xs with
  | nil => exact Nat.zero_le _
  | cons d r ih =>
    rw [PyData.depthAll]
    exact Nat.max_le.mpr ⟨h d (List.mem_cons_self ..), ih fun z hz => h z (List.mem_cons_of_mem _ hz)⟩
/-- shallow and short -/
def dSm (d : PyData) : Prop := PyData.canLay0 d = true ∧ PyData.depth d ≤ 40 ∧ dLens d = true
theorem dSm_lst {ds : List PyData} (hl : ds.length ≤ 3000) (h : ∀ z ∈ ds, PyData.canLay0 z = true ∧ PyData.depth z ≤ 39 ∧ dLens z = true) : dSm (.list ds) := by
  refine ⟨?_, ?_, dLens_lst hl (dLens_all fun z hz => (h z hz).2.2)⟩
  · rw [PyData.canLay0]
    exact canAll_of fun z hz => (h z hz).1
  · rw [PyData.depth]
    exact Nat.succ_le_succ (depthAll_le fun z hz => (h z hz).2.1)
theorem dOk_pair {n : Int} {e : PyData} (h : dSm e) : dOk (.tuple [.int n, e]) := by
  obtain ⟨h1, h2, h3⟩ := h
  refine ⟨?_, dLens_tup (show (2 : Nat) ≤ 3000 by decide) (dLens_two rfl h3)⟩
  unfold SeqAt.shaped
  rw [Bool.and_eq_true, decide_eq_true_eq, PyData.canLay0, PyData.depth]
  refine ⟨canAll_of fun z hz => ?_, ?_⟩
  · rcases List.mem_cons.mp hz with rfl | hz
    · rfl
    · rw [List.mem_singleton] at hz
      subst hz
      exact h1
  · have y : PyData.depthAll [.int n, e] ≤ 40 := depthAll_le fun z hz => by
      rcases List.mem_cons.mp hz with rfl | hz
      · exact Nat.zero_le _
      · rw [List.mem_singleton] at hz
        subst hz
        exact h2
    omega
theorem dOk_small {d : PyData} (h : dOk d) (h2 : PyData.depth d ≤ 38) : PyData.canLay0 d = true ∧ PyData.depth d ≤ 39 ∧ dLens d = true := by
  obtain ⟨h1, h3⟩ := h
  unfold SeqAt.shaped at h1
  rw [Bool.and_eq_true] at h1
  exact ⟨h1.1, by omega, h3⟩
theorem wr_ok {n : Nat} {cs : List NCh} {i : Nat} {w : PyData} (ok : ∀ c ∈ cs, ChOk n c) (hn : n ≤ 200) (hc : cs.length ≤ 4) (hw : dOk w ∧ PyData.depth w ≤ 38) : dOk (wrD n (cs.map chN) i w) := by
  refine dOk_pair (dSm_lst ?_ fun z hz => ?_)
  · rw [List.length_append, List.length_append, List.length_append, List.length_take, List.length_drop, List.length_map, List.length_singleton, List.length_singleton]
    omega
  · have one : ∀ z ∈ cs.map chN, PyData.canLay0 z = true ∧ PyData.depth z ≤ 39 ∧ dLens z = true := fun z hz => by
      obtain ⟨c, hc', rfl⟩ := List.mem_map.mp hz
      have y := nice_chN (ok c hc') hn
      exact ⟨y.lay, Nat.le_trans y.dep (by decide), dLens_chN (ok c hc') hn⟩
    rcases List.mem_append.mp hz with hz | hz
    · rcases List.mem_append.mp hz with hz | hz
      · rcases List.mem_append.mp hz with hz | hz
        · exact one z (List.mem_of_mem_take hz)
        · rw [List.mem_singleton] at hz
          subst hz
          exact dOk_small hw.1 hw.2
      · exact one z (List.mem_of_mem_drop hz)
    · rw [List.mem_singleton] at hz
      subst hz
      exact ⟨rfl, Nat.zero_le _, rfl⟩
def grD (k : Nat) : PyData := .tuple [.int 1, .list (List.replicate k (.tuple [.str "list", .list [.int 0]]))]
theorem gr_ch : dChain 1 (.tuple [.str "list", .list [.int 0]]) = true := by decide +kernel
theorem gr_ok {k : Nat} (hk : k ≤ 3000) : dOk (grD k) := dOk_pair (dSm_lst (by rw [List.length_replicate]; exact hk) fun z hz => by
  obtain ⟨_, rfl⟩ := List.mem_replicate.mp hz
  exact ⟨by decide +kernel, by decide +kernel, by decide +kernel⟩)
theorem gr_head (k : Nat) : shHead (grD k) = true := rfl
theorem gr_none {k : Nat} (hk : k ≤ 200) : badFrom (dNum (d0 (grD k))) 0 (dItems (d1 (grD k))) = none := by
  show badFrom 1 0 (List.replicate k _) = none
  refine bad_nil (fun z hz => ?_) (by rw [List.length_replicate]; exact hk)
  obtain ⟨_, rfl⟩ := List.mem_replicate.mp hz
  exact gr_ch
theorem gr_some {k : Nat} (hk : 200 < k) : badFrom (dNum (d0 (grD k))) 0 (dItems (d1 (grD k))) = some 200 := by
  show badFrom 1 0 (List.replicate k (.tuple [.str "list", .list [.int 0]])) = some 200
  have q := bad_step (m := 1) (cs := List.replicate k (.tuple [.str "list", .list [.int 0]])) (i := 200) (j := 0) (List.getElem?_replicate_of_lt hk) (fun j hj z hz => ?_) (by rfl)
  · exact q
  · have y := List.mem_of_getElem? hz
    obtain ⟨_, rfl⟩ := List.mem_replicate.mp y
    rw [gr_ch, decide_eq_false (by omega)]
    rfl
def nonesBad : List PyData := [.none, .int 3, .tuple [.int 3], .tuple [.int 0, .tuple []], .tuple [.int 201, .tuple []], .tuple [.bool true, .tuple []], .tuple [.int 3, .none], .tuple [.int 3, .str "list"], .tuple [.int 3, .tuple [], .tuple []], .tuple [.str "3", .tuple []]]
theorem nones_bad : ∀ d ∈ nonesBad, shHead d = false ∧ dOk d := by
  intro d hd
  unfold nonesBad at hd
  simp only [List.mem_cons, List.not_mem_nil, or_false] at hd
  rcases hd with rfl | rfl | rfl | rfl | rfl | rfl | rfl | rfl | rfl | rfl <;> exact ⟨by decide +kernel, by decide +kernel, by decide +kernel⟩
/-! #### the law's links, looked at -/
theorem filter_len (c : NCh) : ∀ k, ((llkTo c k).filter fun q => decide (q.1 < q.2)).length ≤ k
  | 0 => Nat.zero_le _
  | k + 1 => by
    rw [llkTo_succ, List.filter_append, List.length_append]
    have y := filter_len c k
    have z : ((llk1 c k).filter fun q => decide (q.1 < q.2)).length ≤ 1 := by
      unfold llk1
      split
      · simp only [List.filter_cons, List.filter_nil]
        split <;> split <;> simp_all <;> omega
      · simp
    omega
theorem filter_all {n : Nat} : ∀ {cs : List NCh}, (∀ c ∈ cs, ChOk n c) → ((llks cs).filter fun q => decide (q.1 < q.2)).length ≤ cs.length * n
  | [], _ => Nat.zero_le _
  | c :: r, ok => by
    have e : llks (c :: r) = llk c ++ llks r := rfl
    have o := ok c (List.mem_cons_self ..)
    have h1 := filter_len c c.2.length
    have h2 := ch_len o
    have h3 := filter_all fun c hc => ok c (List.mem_cons_of_mem _ hc)
    rw [e, List.filter_append, List.length_append, List.length_cons, Nat.add_mul, Nat.one_mul]
    have h4 : ((llk c).filter fun q => decide (q.1 < q.2)).length ≤ c.2.length := h1
    omega
theorem any_pr {ps : List (Nat × Nat)} {a b : Nat} : ((ps.map prD).any fun z => PyData.eqv z (.tuple [.int (a : Int), .int (b : Int)])) = decide ((a, b) ∈ ps) := by
  rw [Bool.eq_iff_iff, List.any_eq_true, decide_eq_true_eq]
  constructor
  · rintro ⟨z, hz, e⟩
    obtain ⟨p, hp, rfl⟩ := List.mem_map.mp hz
    have e1 : p = (a, b) := by
      obtain ⟨x, y⟩ := p
      simp [PyData.eqv, PyData.eqvAll] at e
      rw [Prod.mk.injEq]
      omega
    rw [← e1]
    exact hp
  · intro h
    exact ⟨prD (a, b), List.mem_map_of_mem h, by simp [PyData.eqv, PyData.eqvAll]⟩
theorem llks_lt {n : Nat} {cs : List NCh} (ok : ∀ c ∈ cs, ChOk n c) : ∀ p ∈ llks cs, p.1 < n ∧ p.2 < n := by
  rintro ⟨a, b⟩ h
  rcases (llks_lk ok a b).mp h with h | h
  · have y := lks_lt ok _ h
    exact ⟨y.1, y.2.1⟩
  · have y := lks_lt ok _ h
    exact ⟨y.2.1, y.1⟩
theorem nb_nd : ∀ {L : List (Nat × Nat)} {i : Nat}, L.Nodup → (∀ p ∈ L, p.1 < p.2) → (nbL L i).Nodup
  | [], _, _, _ => List.nodup_nil
  | p :: r, i, nd, lt => by
    obtain ⟨h1, h2⟩ := List.nodup_cons.mp nd
    have ih := nb_nd (i := i) h2 fun q hq => lt q (List.mem_cons_of_mem _ hq)
    have e : nbL (p :: r) i = ((if p.1 = i then [p.2] else []) ++ (if p.2 = i then [p.1] else [])) ++ nbL r i := rfl
    have lp := lt p (List.mem_cons_self ..)
    have no : ∀ x, Lk (p :: r) i x → (p = (i, x) ∨ p = (x, i)) → x ∉ nbL r i := fun x _ hp hx => by
      rcases nb_mem.mp hx with hx | hx
      · have y := lt _ (List.mem_cons_of_mem _ hx)
        rcases hp with rfl | rfl
        · exact h1 hx
        · have z : x < i := lp
          have z2 : i < x := y
          omega
      · have y := lt _ (List.mem_cons_of_mem _ hx)
        rcases hp with rfl | rfl
        · have z : i < x := lp
          have z2 : x < i := y
          omega
        · exact h1 hx
    rw [e]
    by_cases a : p.1 = i
    · have b : ¬ p.2 = i := by omega
      rw [if_pos a, if_neg b, List.append_nil]
      refine List.nodup_cons.mpr ⟨no p.2 (.inl ?_) (.inl ?_), ih⟩
      · rw [← a]
        exact List.mem_cons_self ..
      · rw [← a]
    · rw [if_neg a, List.nil_append]
      by_cases b : p.2 = i
      · rw [if_pos b]
        refine List.nodup_cons.mpr ⟨no p.1 (.inr ?_) (.inr ?_), ih⟩
        · rw [← b]
          exact List.mem_cons_self ..
        · rw [← b]
      · rw [if_neg b, List.nil_append]
        exact ih
theorem rows_eq {n : Nat} {cs : List NCh} (ok : ∀ c ∈ cs, ChOk n c) (hn : n ≤ 64) : ((List.range n).map fun one => (List.range n).filter fun two => decide ((one, two) ∈ llks cs)) = rowsOf n (sdL (lks cs)) := by
  have b64 : ∀ p ∈ lks cs, p.1 < 64 ∧ p.2 < 64 := fun p hp => by
    have y := lks_lt ok p hp
    omega
  unfold rowsOf
  refine List.map_congr_left fun i hi => ?_
  have nd : (sdL (lks cs)).Nodup := (sd_asc _).imp fun h e => by
    subst e
    exact lt2_as _ _ h h
  refine asc_nat (List.Pairwise.filter _ List.pairwise_lt_range) (srt_nd (nb_nd nd fun p hp => (lks_lt ok p ((sd_mem b64).mp hp)).2.2)) fun x => ?_
  rw [List.mem_filter, List.mem_range, decide_eq_true_eq, srt_mem, nb_mem]
  have e : Lk (sdL (lks cs)) i x ↔ (i, x) ∈ llks cs := by
    rw [llks_lk ok]
    unfold Lk
    rw [sd_mem b64, sd_mem b64]
  rw [e]
  exact ⟨fun h => h.2, fun h => ⟨(llks_lt ok _ h).2, h⟩⟩
theorem nice_rows {n : Nat} {cs : List NCh} (ok : ∀ c ∈ cs, ChOk n c) (hn : n ≤ 64) : Nice (rwD (rowsOf n (sdL (lks cs)))) 2 1000000 := by
  rw [← rows_eq ok hn]
  refine nice_rwD (m := n) (fun r hr => ?_) (by rw [List.length_map, List.length_range]; omega) (by omega)
  obtain ⟨i, _, rfl⟩ := List.mem_map.mp hr
  refine ⟨Nat.le_trans (List.length_filter_le _ _) (by rw [List.length_range]; exact Nat.le_refl _), fun x hx => ?_⟩
  have y := List.mem_range.mp (List.mem_filter.mp hx).1
  omega
theorem nice_parts {n : Nat} {E : Nat → Nat → Prop} (hn : n ≤ 64) : Nice (rwD (partsOf n E)) 2 1000000 := by
  refine nice_rwD (m := n) (fun r hr => ?_) ?_ (by omega)
  · obtain ⟨i, _, rfl⟩ := List.mem_map.mp hr
    unfold hangOf
    refine ⟨Nat.le_trans (List.length_filter_le _ _) (by rw [List.length_range]; exact Nat.le_refl _), fun x hx => ?_⟩
    have y := List.mem_range.mp (List.mem_filter.mp hx).1
    omega
  · unfold partsOf fstOf
    rw [List.length_map]
    exact Nat.le_trans (List.length_filter_le _ _) (by rw [List.length_range]; omega)
theorem law_parts {n : Nat} {cs : List NCh} (ok : ∀ c ∈ cs, ChOk n c) (hn : n ≤ 64) : lawParts n (nrounds (sdL (lks cs)) n n) = partsOf n (Lk (lks cs)) := by
  have b64 : ∀ p ∈ lks cs, p.1 < 64 ∧ p.2 < 64 := fun p hp => by
    have y := lks_lt ok p hp
    omega
  rw [lawParts_eq fun p hp => ?_]
  · refine parts_congr fun a b => ?_
    unfold Lk
    rw [sd_mem b64, sd_mem b64]
  · have y := lks_lt ok p ((sd_mem b64).mp hp)
    exact ⟨y.1, y.2.1⟩
theorem nice_at {k : Nat} (h : k < 1000000) : Nice (atD (k : Int)) 1 100 := (nice_tup (niceA_cons (nice_of (d := .str "shelf") (dp := 0) (wt := 20) (by decide +kernel)) (niceA_cons (nice_nat h) niceA_nil))).le (Nat.le_refl _) (by decide)
theorem ext_step {H H1 H2 H' : Hp} {a : Addr} (e : ExtN H H1) (s : Same H1 H2) (n : H1 a = none) (st : Stp a H2 H') : ExtN H H' := fun b o h t =>
  st b o (fun z => by have y := e b o h t; rw [z, n] at y; cases y) (s b o (e b o h t)) t
theorem ne_str (x : PySem.Str) : (!decide (V.str x = V.str x)) = false := by simp
theorem dAll_take {K : PySem.W.Frag} {H : Hp} : ∀ {xs : List V} {ds : List PyData} (k : Nat), DpAll K H xs ds → DpAll K H (xs.take k) (ds.take k)
  | _, _, 0, _ => by rw [List.take_zero, List.take_zero]; exact .nil
  | _, _, k + 1, .nil => .nil
  | _, _, k + 1, .cons h t => .cons h (dAll_take k t)
theorem dAll_drop {K : PySem.W.Frag} {H : Hp} : ∀ {xs : List V} {ds : List PyData} (k : Nat), DpAll K H xs ds → DpAll K H (xs.drop k) (ds.drop k)
  | _, _, 0, h => h
  | _, _, k + 1, .nil => .nil
  | _, _, k + 1, .cons h t => dAll_drop k t
theorem dAll_rep {K : PySem.W.Frag} {H : Hp} {v : V} {d : PyData} (h : Dp K H v d) : ∀ k, DpAll K H (List.replicate k v) (List.replicate k d)
  | 0 => .nil
  | k + 1 => .cons h (dAll_rep h k)
theorem flat_rep {v : V} : ∀ k, (List.replicate k [v]).flatten = List.replicate k v
  | 0 => rfl
  | k + 1 => by
    rw [List.replicate_succ, List.flatten_cons, flat_rep k]
    rfl
theorem mkl_rep {K : PySem.W.Frag} {σ : L2.St} {ta : TE} {d : PyData} {j k : Nat} (h : MkL K σ ta [d]) (hσ : σ[j]? = some (some (.int (k : Int)))) (hk : k ≤ 3000) : MkL K σ (tOp rRep ta (tVar j)) (List.replicate k d) := fun H Q q =>
  h H _ fun p vs H1 s1 hp h1 d1 => by
    obtain ⟨v0, rfl⟩ : ∃ v0, vs = [v0] := by
      have y : vs.length = 1 := d1.len
      match vs, y with
      | [v0], _ => exact ⟨v0, rfl⟩
    refine ⟨_, hσ, p, (k : Int), [v0], rfl, rfl, h1, by omega, by omega, by rw [Int.toNat_natCast, sizeLine_eq]; show 1 * k ≤ _; omega, fun r hr => ?_⟩
    rw [Int.toNat_natCast, flat_rep]
    refine q r _ _ (s1.tr (same_new hr)) (none_of s1 hr) upd_same ?_
    cases d1 with
    | cons h _ => exact dAll_rep (dp_same (newer_same (same_new hr)) _ _ h) k
/-- a loop over a tuple made for it -/
theorem for_new {K : PySem.W.Frag} {xs : List V} {g : TG} {tb : TS} {D : Ends} {σ : L2.St} {H : Hp} (Pv : Addr → Nat → L2.St → Hp → Prop) (h0 : ∀ p, H p = none → Pv p 0 σ (upd H p (.tup xs))) (hk : ∀ p i σ' H', Pv p i σ' H' → SqT K H' p xs)
    (hs : ∀ p i x σ H, xs[i]? = some x → Pv p i σ H → g x σ H fun σ2 H2 => tb { D with nx := Pv p (i + 1), ct := Pv p (i + 1), bk := D.nx } σ2 H2) (hd : ∀ p σ H, Pv p xs.length σ H → D.nx σ H) (tl : TE)
    (ht : ∀ R : V → Hp → Prop, (∀ p, H p = none → R (.ref p) (upd H p (.tup xs))) → tl σ H R) : tFor (iSqW K tl) g tb D σ H := by
  refine ht _ fun p hp => ⟨p, xs, rfl, .inr ⟨hk p 0 σ _ (h0 p hp), fun i m σ H => m = xs.length - i ∧ i ≤ xs.length ∧ Pv p i σ H, ⟨xs.length, rfl, Nat.zero_le _, h0 p hp⟩, ?_⟩⟩
  rintro i m σ' H' ⟨rfl, hi, q⟩
  have gg := hk p i σ' H' q
  by_cases hlt : i < xs.length
  · refine .inr ⟨⟨gg, hlt⟩, Pv p (i + 1), fun σ2 H2 p2 => ⟨xs.length - (i + 1), by omega, rfl, hlt, p2⟩, fun x H2 y => ?_⟩
    obtain ⟨rfl, hx⟩ := y
    exact hs p i x σ' H2 hx q
  · have e : i = xs.length := by omega
    subst e
    exact .inl ⟨⟨gg, Nat.le_refl _⟩, hd p σ' H' q⟩
section
variable {K : PySem.W.Frag} {σ : L2.St} {H : Hp} {te ta tb : TE} {D : Ends}
theorem t_ifs {c : TT} {t u : TS} (h : c σ H fun b H1 => if b = true then t D σ H1 else u D σ H1) : tIfS c t u D σ H := h
theorem t_tst {Q : Bool → Hp → Prop} (h : te σ H fun x H1 => ∃ k, x = .bl k ∧ Q k H1) : tTest te σ H Q := h
theorem t_orT {c1 c2 : TT} {Q : Bool → Hp → Prop} (h : c1 σ H fun c H1 => if c = true then Q true H1 else c2 σ H1 Q) : tOr c1 c2 σ H Q := h
end
end Shf

namespace K01
open PySem PySem.Spec PyProof.Rows L2
def top (i : Nat) : Stmt := PySem.Challenge.pw_slowshelves_k01_whole_shelves_and_their.main.body.getD i (.Pass ⟨0, 0, 0, 0⟩)
abbrev s_is_integer : Stmt := top 5
abbrev s_is_within : Stmt := top 6
abbrev s_is_below : Stmt := top 7
abbrev s_is_sequence : Stmt := top 8
abbrev s_is_pair : Stmt := top 9
abbrev s_is_unlike_row : Stmt := top 10
abbrev s_need_size : Stmt := top 11
abbrev s_linked_rows : Stmt := top 12
abbrev s__met_from : Stmt := top 13
abbrev s_reached_row : Stmt := top 14
abbrev s_hanging_parts : Stmt := top 15
abbrev s_need_shelf : Stmt := top 19
abbrev s_is_chain : Stmt := top 20
abbrev s_shelf_links : Stmt := top 21
abbrev s__chain_links : Stmt := top 22
abbrev s_linked_cells : Stmt := top 23
abbrev s_cell_parts : Stmt := top 24
abbrev s_list_shelf : Stmt := top 25
abbrev s_ring_shelf : Stmt := top 26
abbrev s__law_box : Stmt := top 28
abbrev s__law_take : Stmt := top 29
abbrev s__law_pick : Stmt := top 30
abbrev s__law_mixed : Stmt := top 31
abbrev s__law_shelf : Stmt := top 32
abbrev s__law_links : Stmt := top 33
abbrev s__law_parts : Stmt := top 34
abbrev s__law_lists : Stmt := top 35
abbrev s__law_wrong_chain : Stmt := top 36
abbrev s__law_error : Stmt := top 37
abbrev s__law_whole_lists : Stmt := top 38
abbrev s_law : Stmt := top 39
def own0 : List He.DefD := [⟨("is_integer", none), "is_integer", "is_integer", defArgs s_is_integer, defBody s_is_integer, defScope s_is_integer, [], []⟩, ⟨("is_within", none), "is_within", "is_within", defArgs s_is_within, defBody s_is_within, defScope s_is_within, [], []⟩, ⟨("is_below", none), "is_below", "is_below", defArgs s_is_below, defBody s_is_below, defScope s_is_below, [], []⟩, ⟨("is_sequence", none), "is_sequence", "is_sequence", defArgs s_is_sequence, defBody s_is_sequence, defScope s_is_sequence, [], []⟩, ⟨("is_pair", none), "is_pair", "is_pair", defArgs s_is_pair, defBody s_is_pair, defScope s_is_pair, [], []⟩, ⟨("is_unlike_row", none), "is_unlike_row", "is_unlike_row", defArgs s_is_unlike_row, defBody s_is_unlike_row, defScope s_is_unlike_row, [], []⟩, ⟨("need_size", none), "need_size", "need_size", defArgs s_need_size, defBody s_need_size, defScope s_need_size, [], []⟩, ⟨("linked_rows", none), "linked_rows", "linked_rows", defArgs s_linked_rows, defBody s_linked_rows, defScope s_linked_rows, [], []⟩, ⟨("_met_from", none), "_met_from", "_met_from", defArgs s__met_from, defBody s__met_from, defScope s__met_from, [], []⟩, ⟨("reached_row", none), "reached_row", "reached_row", defArgs s_reached_row, defBody s_reached_row, defScope s_reached_row, [], []⟩, ⟨("hanging_parts", none), "hanging_parts", "hanging_parts", defArgs s_hanging_parts, defBody s_hanging_parts, defScope s_hanging_parts, [], []⟩, ⟨("need_shelf", none), "need_shelf", "need_shelf", defArgs s_need_shelf, defBody s_need_shelf, defScope s_need_shelf, [], []⟩]
def own1 : List He.DefD := [⟨("is_chain", none), "is_chain", "is_chain", defArgs s_is_chain, defBody s_is_chain, defScope s_is_chain, [], []⟩, ⟨("shelf_links", none), "shelf_links", "shelf_links", defArgs s_shelf_links, defBody s_shelf_links, defScope s_shelf_links, [], []⟩, ⟨("_chain_links", none), "_chain_links", "_chain_links", defArgs s__chain_links, defBody s__chain_links, defScope s__chain_links, [], []⟩, ⟨("linked_cells", none), "linked_cells", "linked_cells", defArgs s_linked_cells, defBody s_linked_cells, defScope s_linked_cells, [], []⟩, ⟨("cell_parts", none), "cell_parts", "cell_parts", defArgs s_cell_parts, defBody s_cell_parts, defScope s_cell_parts, [], []⟩, ⟨("list_shelf", none), "list_shelf", "list_shelf", defArgs s_list_shelf, defBody s_list_shelf, defScope s_list_shelf, [], []⟩, ⟨("ring_shelf", none), "ring_shelf", "ring_shelf", defArgs s_ring_shelf, defBody s_ring_shelf, defScope s_ring_shelf, [], []⟩, ⟨("_law_box", none), "_law_box", "_law_box", defArgs s__law_box, defBody s__law_box, defScope s__law_box, [], []⟩, ⟨("_law_take", none), "_law_take", "_law_take", defArgs s__law_take, defBody s__law_take, defScope s__law_take, [], []⟩, ⟨("_law_pick", none), "_law_pick", "_law_pick", defArgs s__law_pick, defBody s__law_pick, defScope s__law_pick, [], []⟩, ⟨("_law_mixed", none), "_law_mixed", "_law_mixed", defArgs s__law_mixed, defBody s__law_mixed, defScope s__law_mixed, [], []⟩, ⟨("_law_shelf", none), "_law_shelf", "_law_shelf", defArgs s__law_shelf, defBody s__law_shelf, defScope s__law_shelf, [], []⟩]
def own2 : List He.DefD := [⟨("_law_links", none), "_law_links", "_law_links", defArgs s__law_links, defBody s__law_links, defScope s__law_links, [], []⟩, ⟨("_law_parts", none), "_law_parts", "_law_parts", defArgs s__law_parts, defBody s__law_parts, defScope s__law_parts, [], []⟩, ⟨("_law_lists", none), "_law_lists", "_law_lists", defArgs s__law_lists, defBody s__law_lists, defScope s__law_lists, [], []⟩, ⟨("_law_wrong_chain", none), "_law_wrong_chain", "_law_wrong_chain", defArgs s__law_wrong_chain, defBody s__law_wrong_chain, defScope s__law_wrong_chain, [], []⟩, ⟨("_law_error", none), "_law_error", "_law_error", defArgs s__law_error, defBody s__law_error, defScope s__law_error, [], []⟩, ⟨("_law_whole_lists", none), "_law_whole_lists", "_law_whole_lists", defArgs s__law_whole_lists, defBody s__law_whole_lists, defScope s__law_whole_lists, [], []⟩, ⟨("law", none), "law", "law", defArgs s_law, defBody s_law, defScope s_law, [], []⟩]
def cfg : Shf.Cfg := ⟨[("InvalidShelf", 6)], [("InvalidSize", 10)], [], own0 ++ own1 ++ own2, ["abs", "all", "bool", "enumerate", "int", "isinstance", "len", "list", "max", "min", "range", "repr", "set", "sorted", "tuple", "zip"], [("MOST_CELLS", 200), ("MOST_CHAINS", 200)]⟩
def nm0 : List PySem.Str := ["ShelfError", "InvalidShelf", "InvalidSize", "is_integer", "is_within", "is_below", "is_sequence", "is_pair", "is_unlike_row", "need_size", "linked_rows", "_met_from", "reached_row", "hanging_parts", "MOST_CELLS", "MOST_CHAINS", "need_shelf", "is_chain"]
def nm1 : List PySem.Str := ["shelf_links", "_chain_links", "linked_cells", "cell_parts", "list_shelf", "ring_shelf", "_law_box", "_law_take", "_law_pick", "_law_mixed", "_law_shelf", "_law_links", "_law_parts", "_law_lists", "_law_wrong_chain", "_law_error", "_law_whole_lists"]
def loose : List PySem.Str := nm0 ++ nm1
abbrev R : PySem.W.OpenRow := PySem.W.OpenLaw.row PySem.Challenge.rw_slowshelves_k01_whole_shelves_and_their
abbrev qv : Program := PySem.W.view R.prog [39]
def tf : List He.Defn := [("_law_whole_lists", none), ("law", none)]
abbrev hk : PySem.W.Hook := Shf.hookY 6 cfg.facts cfg.fn tf
def ob (s : PySem.W.SharedT) : Shf.AlY := Shf.obsY 6 cfg.facts cfg.fn tf (HandSHeadRun.getT s)
theorem ob_eq (s : PySem.W.SharedT) : ob s = hk.obs s.abs := Shf.obsY_eq (HandSHeadRun.getT_eq s)
theorem run (w : World) : HandSHeadRun.RunEq R qv hk ob 12000 loose w := by
  intro os
  kernel_rfl
end K01

namespace K01
open PySem PySem.Spec PyProof.Rows L2 Shf
section
variable {P : Program} {w : World} {K : PySem.W.Frag} {mg : PySem.Str → Option Value} {base : Heap}
theorem sc_is_integer : FnScope ["value"] ["value"] (defScope s_is_integer) := ⟨rfl, rfl, rfl, by decide +kernel, rfl, by decide +kernel, by decide +kernel⟩
theorem fk_is_integer (c : SaysS cfg.facts cfg.fn K) (T : EnvOk cfg K mg) : Fk P w K mg base 2 "is_integer" ["value"] (spB K dInt1) := by
  obtain ⟨fd, hh⟩ := has_of c T 0 "is_integer" s_is_integer rfl
  refine Fk.of hh (hh.F.ok sc_is_integer (fun vs H Q E h => ?_) (fun cdv A outer s H vs Q E hr h => ?_)) (hh.F.bindsN fun _ _ _ _ _ _ us hl => match us, hl with | [_], _ => rfl)
  · obtain ⟨v, d, rfl, _⟩ := h
    rfl
  · obtain ⟨v, d, rfl, hd, hq⟩ := h
    have misinstance := T.free "isinstance" (by decide)
    have mint := T.free "int" (by decide)
    have mbool := T.free "bool" (by decide)
    
    refine ⟨_, pss_one (ps_ret (pe_and (pe_callB call_isi (by rfl) misinstance boot_isinstance (pa_cons (pv 0) (pa_cons (pe_bltn (v := .ty "int") (by rfl) mint PyProof.Rows.boot_int rfl) pa_nil)))
      (pe_one (pe_not (pe_callB call_isi (by rfl) misinstance boot_isinstance (pa_cons (pv 0) (pa_cons (pe_bltn (v := .ty "bool") (by rfl) mbool PyProof.Rows.boot_bool rfl) pa_nil))))))), ?_⟩
    refine t_ret (t_and (t_isi rfl (isi_int hd ⟨_, rfl, ?_⟩)))
    cases d with
    | int i => exact iteT (t_isi (i := 0) (c := .ty "bool") rfl (isi_bool hd ⟨_, rfl, hq⟩))
    | bool b => exact iteT (t_isi (i := 0) (c := .ty "bool") rfl (isi_bool hd ⟨_, rfl, hq⟩))
    | _ => exact iteF hq
theorem sc_is_within : FnScope ["value", "low", "high"] ["value", "low", "high"] (defScope s_is_within) := ⟨rfl, rfl, rfl, by decide +kernel, rfl, by decide +kernel, by decide +kernel⟩
theorem fk_is_within (c : SaysS cfg.facts cfg.fn K) (T : EnvOk cfg K mg) : Fk P w K mg base 3 "is_within" ["value", "low", "high"] (spWithin K) := by
  obtain ⟨fd, hh⟩ := has_of c T 1 "is_within" s_is_within rfl
  refine Fk.of hh (hh.F.ok sc_is_within (fun vs H Q E h => ?_) (fun cdv A outer s H vs Q E hr h => ?_)) (hh.F.bindsN fun _ _ _ _ _ _ us hl => match us, hl with | [_, _, _], _ => rfl)
  · obtain ⟨v, d, lo, hi, rfl, _⟩ := h
    rfl
  · obtain ⟨v, d, lo, hi, rfl, hd, hq⟩ := h
    refine ⟨_, pss_one (ps_ret (pe_and (pe_f (fk_is_integer c T) hr (by decide) (by rfl) passL (pa_cons (pv 0) pa_nil)) (pe_one (pe_chain op_le op_le (pv 1) (pv 0) (pv 2))))), ?_⟩
    refine ⟨_, rfl, v, d, rfl, hd, _, rfl, ?_⟩
    cases hd with
    | int i =>
      refine iteT ⟨_, rfl, _, rfl, _, _, rfl, rfl, _, rfl, ?_⟩
      have z : dIn lo hi (.int i) = (decide (lo ≤ i) && decide (i ≤ hi)) := rfl
      rw [z] at hq
      by_cases h1 : lo ≤ i
      · rw [decide_eq_true h1] at hq ⊢
        exact iteT ⟨_, rfl, _, _, rfl, rfl, hq⟩
      · rw [decide_eq_false h1] at hq ⊢
        exact iteF hq
    | _ => exact iteF hq
theorem sc_is_below : FnScope ["value", "limit"] ["value", "limit"] (defScope s_is_below) := ⟨rfl, rfl, rfl, by decide +kernel, rfl, by decide +kernel, by decide +kernel⟩
theorem fk_is_below (c : SaysS cfg.facts cfg.fn K) (T : EnvOk cfg K mg) : Fk P w K mg base 4 "is_below" ["value", "limit"] (spBelow K) := by
  obtain ⟨fd, hh⟩ := has_of c T 2 "is_below" s_is_below rfl
  refine Fk.of hh (hh.F.ok sc_is_below (fun vs H Q E h => ?_) (fun cdv A outer s H vs Q E hr h => ?_)) (hh.F.bindsN fun _ _ _ _ _ _ us hl => match us, hl with | [_, _], _ => rfl)
  · obtain ⟨v, d, hi, rfl, _⟩ := h
    rfl
  · obtain ⟨v, d, hi, rfl, hd, hq⟩ := h
    refine ⟨_, pss_one (ps_ret (pe_f (fk_is_within c T) hr (by decide) (by rfl) passL (pa_cons (pv 0) (pa_cons pe_int (pa_cons (pe_op op_sub (pv 1) pe_int) pa_nil))))), ?_⟩
    exact ⟨_, rfl, _, rfl, _, _, rfl, rfl, v, d, 0, hi - 1, rfl, hd, hq⟩
theorem sc_is_sequence : FnScope ["value"] ["value"] (defScope s_is_sequence) := ⟨rfl, rfl, rfl, by decide +kernel, rfl, by decide +kernel, by decide +kernel⟩
theorem fk_is_sequence (c : SaysS cfg.facts cfg.fn K) (T : EnvOk cfg K mg) : Fk P w K mg base 2 "is_sequence" ["value"] (spBS K dSeq) := by
  obtain ⟨fd, hh⟩ := has_of c T 3 "is_sequence" s_is_sequence rfl
  refine Fk.of hh (hh.F.ok sc_is_sequence (fun vs H Q E h => ?_) (fun cdv A outer s H vs Q E hr h => ?_)) (hh.F.bindsN fun _ _ _ _ _ _ us hl => match us, hl with | [_], _ => rfl)
  · obtain ⟨v, d, rfl, _⟩ := h
    rfl
  · obtain ⟨v, d, rfl, hd, hq⟩ := h
    have misinstance := T.free "isinstance" (by decide)
    have mlist := T.free "list" (by decide)
    have mtuple := T.free "tuple" (by decide)
    
    refine ⟨_, pss_one (ps_ret (pe_callB call_isiT (by rfl) misinstance boot_isinstance (pa_cons (pv 0) (pa_cons (pe_tup (pa_cons (pe_bltn (v := .ty "list") (by rfl) mlist (by decide +kernel) rfl) (pa_cons (pe_bltn (v := .ty "tuple") (by rfl) mtuple (by decide +kernel) rfl) pa_nil))) pa_nil)))), ?_⟩
    refine ⟨_, rfl, two_le, fun p hp => ?_⟩
    exact isi_seq (dp_same (same_new hp) _ _ hd) upd_same (hq _ (same_new hp))
theorem sc_is_pair : FnScope ["value"] ["value"] (defScope s_is_pair) := ⟨rfl, rfl, rfl, by decide +kernel, rfl, by decide +kernel, by decide +kernel⟩
theorem fk_is_pair (c : SaysS cfg.facts cfg.fn K) (T : EnvOk cfg K mg) : Fk P w K mg base 3 "is_pair" ["value"] (spBS K dPair) := by
  obtain ⟨fd, hh⟩ := has_of c T 4 "is_pair" s_is_pair rfl
  refine Fk.of hh (hh.F.ok sc_is_pair (fun vs H Q E h => ?_) (fun cdv A outer s H vs Q E hr h => ?_)) (hh.F.bindsN fun _ _ _ _ _ _ us hl => match us, hl with | [_], _ => rfl)
  · obtain ⟨v, d, rfl, _⟩ := h
    rfl
  · obtain ⟨v, d, rfl, hd, hq⟩ := h
    have mlen := T.free "len" (by decide)
    
    refine ⟨_, pss_one (ps_ret (pe_and (pe_f (fk_is_sequence c T) hr (by decide) (by rfl) passL (pa_cons (pv 0) pa_nil)) (pe_one (pe_cmpR op_eq (pe_callB call_len_seq (by rfl) mlen PySem.boot_len (pa_cons (pv 0) pa_nil)) pe_int (nomark _))))), ?_⟩
    refine ⟨_, rfl, v, d, rfl, hd, fun H1 s1 => ⟨_, rfl, ?_⟩⟩
    by_cases hs : dSeq d = true
    · obtain ⟨a, xs, rfl, hS, hA⟩ := dp_seq (dp_same s1 _ _ hd) hs
      rw [hs]
      refine iteT ⟨_, rfl, a, xs, rfl, hS, rfl, ?_⟩
      have z := hq H1 s1
      have e : dPair d = decide (V.int (xs.length : Nat) = V.int 2) := by
        unfold dPair
        rw [hs, Bool.true_and, hA.len, dec_int]
        rw [Bool.eq_iff_iff, decide_eq_true_eq, beq_iff_eq]
        omega
      rw [e] at z
      exact z
    · have hs' : dSeq d = false := Bool.eq_false_iff.mpr hs
      rw [hs']
      refine iteF ?_
      have z := hq H1 s1
      unfold dPair at z
      rw [hs', Bool.false_and] at z
      exact z
theorem sc_is_unlike_row : FnScope ["value", "limit", "item"] ["value", "limit"] (defScope s_is_unlike_row) := ⟨rfl, rfl, rfl, by decide +kernel, rfl, by decide +kernel, by decide +kernel⟩
theorem fk_is_unlike_row (c : SaysS cfg.facts cfg.fn K) (T : EnvOk cfg K mg) : Fk P w K mg base 5 "is_unlike_row" ["value", "limit"] (spRow K) := by
  obtain ⟨fd, hh⟩ := has_of c T 5 "is_unlike_row" s_is_unlike_row rfl
  refine Fk.of hh (hh.F.ok sc_is_unlike_row (fun vs H Q E h => ?_) (fun cdv A outer s H vs Q E hr h => ?_)) (hh.F.bindsN fun _ _ _ _ _ _ us hl => match us, hl with | [_, _], _ => rfl)
  · obtain ⟨v, d, m, rfl, _⟩ := h
    rfl
  · obtain ⟨v, d, m, rfl, hd, hl, hq⟩ := h
    have mlen := T.free "len" (by decide)
    have mall := T.free "all" (by decide)
    have mset := T.free "set" (by decide)
    
    refine ⟨_, PSs.nox (pss_cons (ps_if (pt_not (pt_val (pe_f (fk_is_sequence c T) hr (by decide) (by rfl) passL (pa_cons (pv 0) pa_nil)))) (pss_one (ps_ret pe_bl)) pss_nil)
      (pss_one (ps_ret (pe_and (pe_callB (cr_all rfl) (by rfl) mall PyProof.Rows.boot_all (pa_cons (pe_lc (wi := iSqW K (tVar 0)) (g := gName 2) (own := [("item", 2)]) rfl sc_is_unlike_row.nd (pi_sq (pv 0)) (blkOk_by (N := ["value", "limit", "item"]) (sc := defScope s_is_unlike_row) (by decide +kernel)) (fun s H C cl fp => pg_name (i := 2) sc_is_unlike_row.nd rfl (.inl rfl)) (fun _ _ _ _ _ => pts_nil) (fun s H C cl fp => pe_f (fk_is_below c T) hr (by decide) (by rfl) passL (pa_cons (pv 2) (pa_cons (pv 1) pa_nil)))) pa_nil))
        (pe_one (pe_cmpR op_eq (pe_lenSetSq (by rfl) mlen (by rfl) mset (pv 0)) (pe_callB call_len_seq (by rfl) mlen PySem.boot_len (pa_cons (pv 0) pa_nil)) (nomark _))))))), ?_⟩
    refine ⟨_, rfl, v, d, rfl, hd, fun H1 s1 => ⟨_, rfl, ?_⟩⟩
    by_cases hs : dSeq d = true
    · obtain ⟨a, xs, rfl, hS, hA⟩ := dp_seq (dp_same s1 _ _ hd) hs
      rw [hs]
      refine iteF (t_next (t_ret (t_and (t_cb1 ?_))))
      refine lc_sq hS (fun i acc G => Same H1 G ∧ acc = ((dItems d).take i).map fun z => V.bl (dIn 0 (m - 1) z)) ⟨Same.rfl', rfl⟩ (fun i acc G r => r.1) (fun i x acc G D hx hG r => ?_) (fun D acc G hG r => ?_) _ (fun R' h => ⟨_, rfl, h⟩)
      · obtain ⟨r1, rfl⟩ := r
        obtain ⟨dz, hdz, hpz⟩ := hA.at hx
        have hi : i < (dItems d).length := (List.getElem?_eq_some_iff.mp hdz).1
        refine ⟨rfl, t_yes (iteT ⟨_, rfl, _, rfl, x, dz, m, rfl, dp_same (r1.tr (same_upd hG)) _ _ hpz, lc_put hG ?_ ⟨r1, ?_⟩⟩)⟩
        · rw [List.length_map, List.length_take, sizeLine_eq]
          omega
        · rw [List.take_add_one, hdz, List.map_append]
          rfl
      · obtain ⟨r1, rfl⟩ := r
        have e0 : ((dItems d).take xs.length).map (fun z => V.bl (dIn 0 (m - 1) z)) = (((dItems d).map (dIn 0 (m - 1)))).map V.bl := by
          rw [List.take_of_length_le (by rw [hA.len]; exact Nat.le_refl _), List.map_map]
          rfl
        refine ⟨D, (dItems d).map (dIn 0 (m - 1)), rfl, .inl (.inl ?_), _, rfl, ?_⟩
        · rw [upd_same, e0]
        · have e1 : ((dItems d).map (dIn 0 (m - 1))).all id = (dItems d).all (dIn 0 (m - 1)) := by
            rw [List.all_map]
            rfl
          rw [e1]
          have sm : Same H1 (upd G D (HO.lst (((dItems d).take xs.length).map fun z => V.bl (dIn 0 (m - 1) z)))) := r1.tr (same_upd hG)
          have z := hq _ (s1.tr sm)
          unfold dRow at z
          rw [hs, Bool.true_and] at z
          by_cases ha : (dItems d).all (dIn 0 (m - 1)) = true
          · rw [ha] at z ⊢
            obtain ⟨q1, q2, q3⟩ := ints_of hA ha
            refine iteT ⟨_, rfl, a, dInts (dItems d), rfl, ?_, by rw [dInts_len]; exact hl, fun k hk => ?_⟩
            · rw [← q1]
              exact Sq.same sm hS
            · refine ⟨_, rfl, a, xs, rfl, Sq.same sm hS, rfl, ?_⟩
              have e2 : decide (V.int (k : Nat) = V.int (xs.length : Nat)) = decide ((dInts (dItems d)).Nodup) := by
                have e3 : xs.length = (dInts (dItems d)).length := by rw [dInts_len, hA.len]
                rw [dec_int, e3, Bool.eq_iff_iff, beq_iff_eq, decide_eq_true_eq, ← hk]
                omega
              rw [e2]
              exact z
          · have ha' : (dItems d).all (dIn 0 (m - 1)) = false := Bool.eq_false_iff.mpr ha
            rw [ha'] at z ⊢
            exact iteF z
    · have hs' : dSeq d = false := Bool.eq_false_iff.mpr hs
      rw [hs']
      refine iteT ?_
      have z := hq H1 s1
      unfold dRow at z
      rw [hs', Bool.false_and] at z
      exact z
theorem sc_need_size : FnScope ["value", "low", "high", "word"] ["value", "low", "high", "word"] (defScope s_need_size) := ⟨rfl, rfl, rfl, by decide +kernel, rfl, by decide +kernel, by decide +kernel⟩
theorem fk_need_size (c : SaysS cfg.facts cfg.fn K) (T : EnvOk cfg K mg) : Fk P w K mg base 4 "need_size" ["value", "low", "high", "word"] (spNeedSize K) := by
  obtain ⟨fd, hh⟩ := has_of c T 6 "need_size" s_need_size rfl
  refine Fk.of hh (hh.F.ok sc_need_size (fun vs H Q E h => ?_) (fun cdv A outer s H vs Q E hr h => ?_)) (hh.F.bindsN fun _ _ _ _ _ _ us hl => match us, hl with | [_, _, _, _], _ => rfl)
  · obtain ⟨v, d, lo, hi, wd, rfl, _⟩ := h
    rfl
  · obtain ⟨v, d, lo, hi, wd, rfl, hd, hq, he⟩ := h
    refine ⟨_, pss_cons (ps_if (pt_not (pt_val (pe_f (fk_is_within c T) hr (by decide) (by rfl) passL (pa_cons (pv 0) (pa_cons (pv 1) (pa_cons (pv 2) pa_nil)))))) (pss_one (ps_raise rfl (takes_of rfl rfl rfl rfl) (pmk_word (T.word "InvalidSize" (by decide)) (T.g "InvalidSize" (by decide)) hr (pa_cons (pv 3) pa_nil) (by rfl)))) pss_nil)
      (pss_one (ps_ret (pv 0))), ?_⟩
    refine ⟨_, rfl, _, rfl, _, rfl, v, d, lo, hi, rfl, hd, _, rfl, ?_⟩
    by_cases h : dIn lo hi d = true
    · rw [h]
      exact iteF ⟨_, rfl, hq h⟩
    · have h' : dIn lo hi d = false := Bool.eq_false_iff.mpr h
      rw [h']
      exact iteT ⟨_, rfl, _, rfl, fun D hD => he h' _ D (same_new hD) upd_same⟩
theorem sc_is_chain : FnScope ["cells", "value", "kind", "row"] ["cells", "value"] (defScope s_is_chain) := ⟨rfl, rfl, rfl, by decide +kernel, rfl, by decide +kernel, by decide +kernel⟩
theorem fk_is_chain (c : SaysS cfg.facts cfg.fn K) (T : EnvOk cfg K mg) : Fk P w K mg base 6 "is_chain" ["cells", "value"] (spChain K) := by
  obtain ⟨fd, hh⟩ := has_of c T 12 "is_chain" s_is_chain rfl
  refine Fk.of hh (hh.F.ok sc_is_chain (fun vs H Q E h => ?_) (fun cdv A outer s H vs Q E hr h => ?_)) (hh.F.bindsN fun _ _ _ _ _ _ us hl => match us, hl with | [_, _], _ => rfl)
  · obtain ⟨v, d, m, rfl, _⟩ := h
    rfl
  · obtain ⟨v, d, m, rfl, hd, hk, hq⟩ := h
    have mlen := T.free "len" (by decide)
    
    have hu := hr.units
    refine ⟨_, pss_cons (ps_if (pw_or (pt_not (pt_val (pe_f (fk_is_pair c T) hr (by decide) (by rfl) passL (pa_cons (pv 1) pa_nil)))) (pw_or1 (pt_not (pt_val (pe_f (fk_is_unlike_row c T) hr (by decide) (by rfl) passL (pa_cons (pe_ix ix_seq (pv 1) pe_int (fun _ _ => rfl)) (pa_cons (pv 0) pa_nil))))))).pt (pss_one (ps_ret pe_bl)) pss_nil)
      (pss_cons (ps_asg (pv 1) (pg_sq rfl (pgs_cons (pg_name (i := 2) sc_is_chain.nd rfl (.inl rfl)) (pgs_cons (pg_name (i := 3) sc_is_chain.nd rfl (.inl rfl)) pgs_nil))))
      (pss_one (ps_ret (pe_or (pe_and (pe_cmpR (op_eqD hu) (pv 2) pe_str (nomark _)) (pe_one (pe_cmpR op_ge (pe_callB call_len_seq (by rfl) mlen PySem.boot_len (pa_cons (pv 3) pa_nil)) pe_int (nomark _))))
        (pe_one (pe_and (pe_cmpR (op_eqD hu) (pv 2) pe_str (nomark _)) (pe_one (pe_cmpR op_ge (pe_callB call_len_seq (by rfl) mlen PySem.boot_len (pa_cons (pv 3) pa_nil)) pe_int (nomark _))))))))), ?_⟩
    refine ⟨_, rfl, v, d, rfl, hd, fun H1 s1 => ⟨_, rfl, ?_⟩⟩
    unfold dChain at hq
    by_cases hp : dPair d = true
    · obtain ⟨a, x, y, dx, dy, rfl, hS, hds, hx, hy⟩ := pair_of (dp_same s1 _ _ hd) hp
      have kx : dOk dx := hk.item (by rw [hds]; exact List.mem_cons_self ..)
      have ky : dOk dy := hk.item (by rw [hds]; exact List.mem_cons_of_mem _ (List.mem_cons_self ..))
      rw [hp, hds, Bool.true_and, show ([dx, dy] : List PyData).getD 1 .none = dy from rfl, show ([dx, dy] : List PyData).getD 0 .none = dx from rfl] at hq
      rw [hp]
      refine iteF ⟨_, rfl, ix_sq (j := 1) hS rfl ⟨_, rfl, y, dy, m, rfl, hy, ky.len, fun H2 s2 => ⟨_, rfl, ?_⟩⟩⟩
      by_cases hr1 : dRow m dy = true
      · rw [hr1, Bool.true_and] at hq
        rw [hr1]
        refine iteF ⟨_, rfl, a, [x, y], rfl, Sq.same s2 hS, rfl, _, _, rfl, _, _, rfl, rfl, ?_⟩
        have hsq : dSeq dy = true := by
          unfold dRow at hr1
          rw [Bool.and_eq_true] at hr1
          exact hr1.1
        obtain ⟨b, ys, rfl, hT, hA⟩ := dp_seq (dp_same s2 _ _ hy) hsq
        have hl : ys.length = (dItems dy).length := hA.len
        have z := hq H2 (s1.tr s2)
        have e1 : decide ((1 : Int) ≤ (ys.length : Nat)) = decide (1 ≤ (dItems dy).length) := by
          rw [hl, Bool.eq_iff_iff, decide_eq_true_eq, decide_eq_true_eq]
          omega
        have e3 : decide ((3 : Int) ≤ (ys.length : Nat)) = decide (3 ≤ (dItems dy).length) := by
          rw [hl, Bool.eq_iff_iff, decide_eq_true_eq, decide_eq_true_eq]
          omega
        refine ⟨_, rfl, dx, .str "list", dp_same s2 _ _ hx, .str _, kx.1, by decide +kernel, _, rfl, ?_⟩
        rw [eqv_str]
        by_cases h2 : dStr "list" dx = true
        · rw [h2, Bool.true_and] at z
          rw [h2]
          refine iteT ⟨_, rfl, b, ys, rfl, hT, _, _, rfl, rfl, _, rfl, ?_⟩
          rw [e1]
          by_cases h4 : 1 ≤ (dItems dy).length
          · rw [decide_eq_true h4, Bool.true_or] at z
            rw [decide_eq_true h4]
            exact iteT z
          · rw [decide_eq_false h4, Bool.false_or] at z
            rw [decide_eq_false h4]
            refine iteF ?_
            refine ⟨_, rfl, dx, .str "ring", dp_same s2 _ _ hx, .str _, kx.1, by decide +kernel, _, rfl, ?_⟩
            rw [eqv_str]
            by_cases h3 : dStr "ring" dx = true
            · rw [h3, Bool.true_and] at z
              rw [h3]
              refine iteT ⟨_, rfl, b, ys, rfl, hT, _, _, rfl, rfl, ?_⟩
              rw [← e3] at z
              exact z
            · have h3' : dStr "ring" dx = false := Bool.eq_false_iff.mpr h3
              rw [h3', Bool.false_and] at z
              rw [h3']
              exact iteF z
        · have h2' : dStr "list" dx = false := Bool.eq_false_iff.mpr h2
          rw [h2', Bool.false_and, Bool.false_or] at z
          rw [h2']
          refine iteF ⟨_, rfl, iteF ?_⟩
          refine ⟨_, rfl, dx, .str "ring", dp_same s2 _ _ hx, .str _, kx.1, by decide +kernel, _, rfl, ?_⟩
          rw [eqv_str]
          by_cases h3 : dStr "ring" dx = true
          · rw [h3, Bool.true_and] at z
            rw [h3]
            refine iteT ⟨_, rfl, b, ys, rfl, hT, _, _, rfl, rfl, ?_⟩
            rw [← e3] at z
            exact z
          · have h3' : dStr "ring" dx = false := Bool.eq_false_iff.mpr h3
            rw [h3', Bool.false_and] at z
            rw [h3']
            exact iteF z
      · have hr2 : dRow m dy = false := Bool.eq_false_iff.mpr hr1
        rw [hr2, Bool.false_and] at hq
        rw [hr2]
        exact iteT (hq H2 (s1.tr s2))
    · have hp' : dPair d = false := Bool.eq_false_iff.mpr hp
      rw [hp', Bool.false_and] at hq
      rw [hp']
      exact iteT (hq H1 s1)
theorem sc_need_shelf : FnScope ["value", "cells", "chains", "at", "chain", "kind", "row"] ["value"] (defScope s_need_shelf) := ⟨rfl, rfl, rfl, by decide +kernel, rfl, by decide +kernel, by decide +kernel⟩
theorem fk_need_shelf (c : SaysS cfg.facts cfg.fn K) (T : EnvOk cfg K mg) : Fk P w K mg base 7 "need_shelf" ["value"] (spNeedShelf K) := by
  obtain ⟨fd, hh⟩ := has_of c T 11 "need_shelf" s_need_shelf rfl
  refine Fk.of hh (hh.F.ok sc_need_shelf (fun vs H Q E h => ?_) (fun cdv A outer s H vs Q E hr h => ?_)) (hh.F.bindsN fun _ _ _ _ _ _ us hl => match us, hl with | [_], _ => rfl)
  · obtain ⟨v, d, rfl, _⟩ := h
    rfl
  · obtain ⟨v, d, rfl, hd, hk, h1, h2⟩ := h
    have menumerate := T.free "enumerate" (by decide)
    have mtuple := T.free "tuple" (by decide)
    obtain ⟨tMOST_CELLS, iMOST_CELLS⟩ := T.int ("MOST_CELLS", 200) (by decide)
    obtain ⟨tMOST_CHAINS, iMOST_CHAINS⟩ := T.int ("MOST_CHAINS", 200) (by decide)
    refine ⟨_, (pss_cons (ps_if (pt_not (pt_val (pe_f (fk_is_pair c T) hr (by decide) (by rfl) passL (pa_cons (pv 0) pa_nil)))) (pss_one (ps_raise rfl (takes_of rfl rfl rfl rfl) (pmk_at (T.at_ "InvalidShelf" (by decide)) (T.g "InvalidShelf" (by decide)) hr (pa_cons (pe_un un_neg pe_int) pa_nil) (by rfl)))) pss_nil)
          (pss_cons (ps_asg (pv 0) (pg_sq rfl (pgs_cons (pg_name (i := 1) sc_need_shelf.nd rfl (.inl rfl)) (pgs_cons (pg_name (i := 2) sc_need_shelf.nd rfl (.inl rfl)) pgs_nil))))
          (pss_cons (ps_if (pw_or (pt_not (pt_val (pe_f (fk_is_within c T) hr (by decide) (by rfl) passL (pa_cons (pv 1) (pa_cons pe_int (pa_cons (pe_glob (v := .int 200) (by rfl) iMOST_CELLS ⟨tMOST_CELLS, rfl⟩) pa_nil)))))) (pw_or1 (pt_not (pt_val (pe_f (fk_is_sequence c T) hr (by decide) (by rfl) passL (pa_cons (pv 2) pa_nil)))))).pt (pss_one (ps_raise rfl (takes_of rfl rfl rfl rfl) (pmk_at (T.at_ "InvalidShelf" (by decide)) (T.g "InvalidShelf" (by decide)) hr (pa_cons (pe_un un_neg pe_int) pa_nil) (by rfl)))) pss_nil)
          (pss_cons (ps_for (passes_of rfl) rfl (pi_enumSq (by rfl) menumerate (pa_cons (pv 2) pa_nil)) (pg_tup rfl (pgs_cons (pg_name (i := 3) sc_need_shelf.nd rfl (.inl rfl)) (pgs_cons (pg_name (i := 4) sc_need_shelf.nd rfl (.inl rfl)) pgs_nil)))
          (pss_one (ps_if (pw_or (pt_cmpR op_eq (pv 3) (pe_glob (v := .int 200) (by rfl) iMOST_CHAINS ⟨tMOST_CHAINS, rfl⟩) (nomark _)) (pw_or1 (pt_not (pt_val (pe_f (fk_is_chain c T) hr (by decide) (by rfl) passL (pa_cons (pv 1) (pa_cons (pv 4) pa_nil))))))).pt (pss_one (ps_raise rfl (takes_of rfl rfl rfl rfl) (pmk_at (T.at_ "InvalidShelf" (by decide)) (T.g "InvalidShelf" (by decide)) hr (pa_cons (pv 3) pa_nil) (by rfl)))) pss_nil)))
          (pss_one (ps_ret (pe_tup (pa_cons (pv 1) (pa_cons (pe_tupleOf (by rfl) mtuple (pe_lc (wi := iSqW K (tVar 2)) (g := gSq K 2 (gCons (gName 5) (gCons (gName 6) gNil))) (te := (tTup (tCons (tVar 5) (tCons (tThen (tVar 6) (kTup K)) tNil)))) (own := [("kind", 5), ("row", 6)]) rfl sc_need_shelf.nd (pi_sq (pv 2)) (blkOk_by (N := ["value", "cells", "chains", "at", "chain", "kind", "row"]) (sc := defScope s_need_shelf) (by decide +kernel)) (fun s H C cl fp => (pg_sq rfl (pgs_cons (pg_name (i := 5) sc_need_shelf.nd rfl (.inl rfl)) (pgs_cons (pg_name (i := 6) sc_need_shelf.nd rfl (.inl rfl)) pgs_nil)))) (fun s H C cl fp => pts_nil) (fun s H C cl fp => by exact (pe_tup (pa_cons (pv 5) (pa_cons (pe_tupleOf (by rfl) mtuple (pv 6)) pa_nil)))))) pa_nil))))))))), ?_⟩
    refine ⟨_, rfl, v, d, rfl, hd, fun H1 s1 => ⟨_, rfl, ?_⟩⟩
    by_cases hp : dPair d = true
    case neg =>
      have hp' : dPair d = false := Bool.eq_false_iff.mpr hp
      have hh : shHead d = false := by
        unfold shHead
        rw [hp', Bool.false_and]
      rw [hp']
      exact iteT ⟨_, rfl, _, rfl, fun D hD => wAt_new hD (wAt_same s1 (h1 hh))⟩
    obtain ⟨a, x, y, dx, dy, rfl, hS, hds, hx, hy⟩ := pair_of (dp_same s1 _ _ hd) hp
    have kx : dOk dx := hk.item (by rw [hds]; exact List.mem_cons_self ..)
    have ky : dOk dy := hk.item (by rw [hds]; exact List.mem_cons_of_mem _ (List.mem_cons_self ..))
    have e0 : d0 d = dx := by
      show (dItems d).getD 0 .none = dx
      rw [hds]
      rfl
    have e1 : d1 d = dy := by
      show (dItems d).getD 1 .none = dy
      rw [hds]
      rfl
    rw [e0, e1] at h2
    have hh : shHead d = (dIn 1 200 dx && dSeq dy) := by
      unfold shHead
      rw [hp, e0, e1, Bool.true_and]
    rw [hh] at h1 h2
    rw [hp]
    refine iteF ⟨_, rfl, a, [x, y], rfl, hS, rfl, _, _, rfl, _, _, rfl, rfl, ?_⟩
    refine ⟨_, rfl, x, dx, 1, 200, rfl, hx, _, rfl, ?_⟩
    by_cases hi : dIn 1 200 dx = true
    case neg =>
      have hi' : dIn 1 200 dx = false := Bool.eq_false_iff.mpr hi
      rw [hi'] at h1 ⊢
      exact iteT (iteT ⟨_, rfl, _, rfl, fun D hD => wAt_new hD (wAt_same s1 (h1 rfl))⟩)
    rw [hi] at h1 h2 ⊢
    refine iteF ⟨_, rfl, y, dy, rfl, hy, fun H2 s2 => ⟨_, rfl, ?_⟩⟩
    by_cases hs : dSeq dy = true
    case neg =>
      have hs' : dSeq dy = false := Bool.eq_false_iff.mpr hs
      rw [hs'] at h1 ⊢
      exact iteT ⟨_, rfl, _, rfl, fun D hD => wAt_new hD (wAt_same (s1.tr s2) (h1 rfl))⟩
    rw [hs] at h1 h2 ⊢
    obtain ⟨h2, h3⟩ := h2 rfl
    obtain ⟨m, rfl⟩ : ∃ m, dx = .int m := by
      cases dx with
      | int m => exact ⟨m, rfl⟩
      | _ => cases hi
    obtain rfl : x = .int m := by
      cases hx
      rfl
    refine iteF ?_
    obtain ⟨b, cs, rfl, hT, hA⟩ := dp_seq (dp_same s2 _ _ hy) hs
    have hl : cs.length = (dItems dy).length := hA.len
    refine t_next (t_seq ?_)
    refine for_enumSq hT (fun i σ H3 => Same H2 H3 ∧ (∀ k, k < i → ∀ z, (dItems dy)[k]? = some z → (decide (0 + k = 200) || !dChain m z) = false) ∧ ∃ z3 z4, σ = [some (.ref a), some (.int m), some (.ref b), z3, z4, none, none])
      ⟨Same.rfl', fun k hk => absurd hk (Nat.not_lt_zero k), none, none, rfl⟩ (fun i σ H3 h => h.1) ?_ ?_ _ (fun R hR => ⟨_, rfl, hR⟩)
    · rintro i z σ H3 t hz ⟨s3, ho, z3, z4, rfl⟩ ht
      refine ⟨t, _, rfl, .inl (.inl upd_same), rfl, _, _, rfl, _, _, rfl, rfl, ?_⟩
      obtain ⟨dz, hdz, hpz⟩ := hA.at hz
      have kz : dOk dz := ky.item (List.mem_of_getElem? hdz)
      refine ⟨_, rfl, rfl, _, rfl, ?_⟩
      have e2 : decide (V.int (i : Nat) = V.int 200) = decide (0 + i = 200) := by
        rw [dec_int, Bool.eq_iff_iff, beq_iff_eq, decide_eq_true_eq]
        omega
      rw [e2]
      by_cases h4 : 0 + i = 200
      · rw [decide_eq_true h4]
        refine iteT (iteT ⟨_, rfl, _, rfl, fun D hD => wAt_new hD ?_⟩)
        have q := bad_step (j := 0) hdz ho (by rw [decide_eq_true h4]; rfl)
        rw [Nat.zero_add] at q
        exact wAt_same (((s1.tr s2).tr s3).tr (same_new ht)) (h2 i q)
      · rw [decide_eq_false h4]
        refine iteF ⟨_, rfl, _, rfl, z, dz, m, rfl, dp_same (s3.tr (same_new ht)) _ _ hpz, kz, fun H4 s4 => ⟨_, rfl, ?_⟩⟩
        by_cases h5 : dChain m dz = true
        · rw [h5]
          refine iteF ⟨(s3.tr (same_new ht)).tr s4, fun j hj zz hzz => ?_, _, _, rfl⟩
          by_cases e : j = i
          · subst e
            rw [hdz] at hzz
            cases hzz
            rw [decide_eq_false h4, h5]
            rfl
          · exact ho j (by omega) zz hzz
        · have h5' : dChain m dz = false := Bool.eq_false_iff.mpr h5
          rw [h5']
          refine iteT ⟨_, rfl, _, rfl, fun D hD => wAt_new hD ?_⟩
          have q := bad_step (j := 0) hdz ho (by rw [h5', decide_eq_false h4]; rfl)
          rw [Nat.zero_add] at q
          exact wAt_same ((((s1.tr s2).tr s3).tr (same_new ht)).tr s4) (h2 i q)
    · rintro σ H3 ⟨s3, ho, z3, z4, rfl⟩
      have hb : badFrom m 0 (dItems dy) = none := bad_done (j := 0) (by rw [← hl]; exact ho)
      have hc := bad_none hb
      have hT3 := Sq.same s3 hT
      refine t_ret (t_tup2 (t_var rfl (t_thn ?_)))
      refine lc_sq hT3 (fun i acc G => Same H3 G ∧ DpAll K G acc (((dItems dy).take i).map fun z => chD (chOf z))) ⟨Same.rfl', .nil⟩ (fun _ _ _ r => r.1) ?_ ?_ _ (fun R hR => ⟨_, rfl, hR⟩)
      · intro i x acc G D hx hG r
        obtain ⟨dz, hdz, hpz⟩ := hA.at hx
        have mz := List.mem_of_getElem? hdz
        obtain ⟨c1, c2, c3, _, _⟩ := chain_kind (hc dz mz)
        obtain ⟨a', k, rr, dk, dr, rfl, hS', hds', hk', hr'⟩ := pair_of (dp_same ((s3.tr r.1).tr (same_upd (o := .lst acc) hG)) _ _ hpz) c1
        have f0 : d0 dz = dk := by
          show (dItems dz).getD 0 .none = dk
          rw [hds']
          rfl
        have f1 : d1 dz = dr := by
          show (dItems dz).getD 1 .none = dr
          rw [hds']
          rfl
        rw [f1] at c2
        rw [f0] at c3
        subst c3
        obtain rfl : k = .str (if (chOf dz).1 = true then "ring" else "list") := by
          cases hk'
          rfl
        obtain ⟨b', rs, rfl, hSr, hAr⟩ := dp_seq hr' (dRow_seq c2)
        obtain ⟨q1, q2, q3⟩ := ints_of hAr (dRow_all c2)
        have il : i < (dItems dy).length := (List.getElem?_eq_some_iff.mp hdz).1
        refine ⟨a', _, rfl, hS', rfl, _, _, rfl, _, _, rfl, rfl, rfl, t_yes (iteT (t_tup2 (t_var rfl (t_thn (t_var rfl (kTup_sq hSr fun p H5 s5 hp => ⟨two_le, fun q hq => ?_⟩))))))⟩
        obtain ⟨G2, g2, sg, rfl⟩ := core_of s5 hG
        obtain ⟨G3, g3, sg2, e⟩ := core_of (same_new (o := .tup [.str (if (chOf dz).1 = true then "ring" else "list"), .ref p]) hq) g2
        have hq3 := core_at g2 hq e
        rw [e]
        refine lc_put g3 ?_ ⟨(r.1.tr sg).tr sg2, ?_⟩
        · have z := r.2.len
          rw [List.length_map, List.length_take] at z
          have y := ky.len
          rw [sizeLine_eq]
          omega
        · rw [List.take_add_one, hdz, List.map_append]
          refine dAll_snoc ?_ (dpAll_same (sg.tr sg2) _ _ r.2)
          refine .tup (.inl (.inl hq3)) (.cons (.str _) (.cons ?_ .nil))
          refine .tup (xs := rs) (sqt_same sg2 (sqt_core hp)) ?_
          rw [q1]
          have e5 : (chOf dz).2 = dInts (dItems dr) := by
            show dInts (dItems (d1 dz)) = _
            rw [f1]
          rw [e5]
          exact dAll_ints _
      · intro D acc G hG r
        refine kTup_sq (.inl (.inl (.inl upd_same))) fun p H5 s5 hp => ⟨two_le, fun q hq => ?_⟩
        have sA : Same H3 H5 := (r.1.tr (same_upd (o := .lst acc) hG)).tr s5
        refine h3 hb (.ref q) _ (((s1.tr s2).tr s3).tr (sA.tr (same_new hq))) ?_
        refine .tup (.inl (.inl upd_same)) (.cons (.int m) (.cons (.tup (xs := acc) (sqt_same (same_new hq) hp) ?_) .nil))
        have e6 : ((dItems dy).take cs.length).map (fun z => chD (chOf z)) = ((dItems dy).map chOf).map chD := by
          rw [List.take_of_length_le (by rw [hl]; exact Nat.le_refl _), List.map_map]
          rfl
        have z := r.2
        rw [e6] at z
        exact dpAll_same (((same_upd (o := .lst acc) hG).tr s5).tr (same_new hq)) _ _ z
end
end K01

namespace K01
open PySem PySem.Spec PyProof.Rows L2 Shf
section
variable {P : Program} {w : World} {K : PySem.W.Frag} {mg : PySem.Str → Option Value} {base : Heap}
theorem sc__law_box : FnScope ["_law_script", "_law_k", "_law_cell"] ["_law_script", "_law_k"] (defScope s__law_box) := ⟨rfl, rfl, rfl, by decide +kernel, rfl, by decide +kernel, by decide +kernel⟩
theorem fk__law_box (c : SaysS cfg.facts cfg.fn K) (T : EnvOk cfg K mg) : Fk P w K mg base 2 "_law_box" ["_law_script", "_law_k"] (spBox K) := by
  obtain ⟨fd, hh⟩ := has_of c T 19 "_law_box" s__law_box rfl
  refine Fk.of hh ?_ (hh.F.bindsN fun _ _ _ _ _ _ us hl => match us, hl with | [_, _], _ => rfl)
  have F := hh.F
  have mLen := T.free "len" (by decide)
  have mAbs := T.free "abs" (by decide)
  have mInt := T.free "int" (by decide)
  refine F.ok sc__law_box (fun vs H Q E h => ?_) (fun cdv A outer s H vs Q E hr h => ?_)
  · obtain ⟨a, ns, k, rfl, _⟩ := h
    rfl
  · obtain ⟨a, ns, k, rfl, hS, hl, hk, hq⟩ := h
    refine ⟨_, pss_cons (ps_set (i := 2) sc__law_box.nd rfl (.inl rfl) (pe_op op_add (pe_op op_mul pe_int (pv 1)) pe_int))
      (pss_cons (ps_if (pt_cmpR op_lt (pv 1) (pe_callB call_len_seq (by rfl) mLen PySem.boot_len (pa_cons (pv 0) pa_nil)) (nomark _))
          (pss_one (ps_set (i := 2) sc__law_box.nd rfl (.inl rfl) (pe_callB call_abs (by rfl) mAbs PyProof.Rows.boot_abs (pa_cons (pe_ix ix_list (pv 0) (pv 1) (fun _ _ => rfl)) pa_nil))))
          (pss_one (ps_if (pt_cmpR op_gt (pe_callB call_len_seq (by rfl) mLen PySem.boot_len (pa_cons (pv 0) pa_nil)) pe_int (nomark _))
            (pss_one (ps_set (i := 2) sc__law_box.nd rfl (.inl rfl) (pe_op op_add (pv 2) (pe_op op_mul (pe_op op_mod (pe_callTy call_int1 (by rfl) mInt PyProof.Rows.boot_int (pa_cons (pe_callB call_abs (by rfl) mAbs PyProof.Rows.boot_abs (pa_cons (pe_ix ix_list (pv 0)
              (pe_op op_mod (pe_callTy call_int1 (by rfl) mInt PyProof.Rows.boot_int (pa_cons (pv 1) pa_nil)) (pe_callB call_len_seq (by rfl) mLen PySem.boot_len (pa_cons (pv 0) pa_nil))) (fun _ _ => rfl)) pa_nil)) pa_nil)) pe_int) pe_int))))
            pss_nil)))
      (pss_one (ps_ret (pe_lst (pa_cons (pe_ix ix_list (pe_lst (pa_cons pe_int (pa_cons (pv 2) pa_nil))) (pe_callTy call_int1 (by rfl) mInt PyProof.Rows.boot_int (pa_cons (pe_cmpR op_ge (pv 2) (pe_op op_pow pe_int pe_int) (nomark _)) pa_nil)) (fun _ _ => rfl))
        (pa_cons (pe_op op_add (pe_op op_mod (pe_callTy call_int1 (by rfl) mInt PyProof.Rows.boot_int (pa_cons (pe_op op_add (pe_op op_mul (pe_op op_mod (pe_callTy call_int1 (by rfl) mInt PyProof.Rows.boot_int (pa_cons (pv 2) pa_nil)) pe_int) pe_int) (pe_op op_mul pe_int (pv 1))) pa_nil)) pe_int) pe_int)
        (pa_cons pe_int pa_nil))))))), ?_⟩
    -- the last row, from any cell
    have last : ∀ (cell : Int), 0 ≤ cell → ∀ (σ : L2.St), σ = [some (.ref a), some (.int k), some (.int cell)] → tRet (tLst (tCons (tOp (rIxL K) (tLst (tCons (tC (.int 0)) (tCons (tVar 2) tNil)))
        (tCB (fun xs H Q => (∃ i, xs = [.int i] ∧ Q (.int i) H) ∨ ∃ k, xs = [.bl k] ∧ Q (.int (if k then 1 else 0)) H) (tCons (tOp (rI0 fun i j => .bl (decide (j ≤ i))) (tVar 2) (tOp (rI CPow fun i j => .int (i ^ j.toNat)) (tC (.int 10)) (tC (.int 18)))) tNil)))
        (tCons (tOp (rI0 fun i j => .int (i + j)) (tOp (rI (fun _ j => 0 < j) fun i j => .int (i % j)) (tCB (fun xs H Q => (∃ i, xs = [.int i] ∧ Q (.int i) H) ∨ ∃ k, xs = [.bl k] ∧ Q (.int (if k then 1 else 0)) H)
          (tCons (tOp (rI0 fun i j => .int (i + j)) (tOp (rI CMul fun i j => .int (i * j)) (tOp (rI (fun _ j => 0 < j) fun i j => .int (i % j)) (tCB (fun xs H Q => (∃ i, xs = [.int i] ∧ Q (.int i) H) ∨ ∃ k, xs = [.bl k] ∧ Q (.int (if k then 1 else 0)) H) (tCons (tVar 2) tNil)) (tC (.int 2147483629))) (tC (.int 44029)))
            (tOp (rI CMul fun i j => .int (i * j)) (tC (.int 51001)) (tVar 1))) tNil)) (tC (.int 2147483629))) (tC (.int 1))) (tCons (tC (.int 0)) tNil)))) { nx := fun _ H' => Q .non H', rt := Q } σ H := by
      rintro cell h0 _ rfl
      refine ⟨_, rfl, two_le, fun l hl => ⟨_, rfl, _, _, rfl, rfl, ⟨by decide, by decide, by decide⟩, _, _, rfl, rfl, .inr ⟨_, rfl, ?_⟩⟩⟩
      have same : Same H (upd H l (.lst [.int 0, .int cell])) := fun b o e => by rw [upd_ne (ne_of_none e hl)]; exact e
      have m0 := Int.emod_nonneg ((cell % 2147483629) * 44029 + 51001 * k) (show (2147483629 : Int) ≠ 0 by decide)
      have m1 := Int.emod_lt_of_pos ((cell % 2147483629) * 44029 + 51001 * k) (show (0 : Int) < 2147483629 by decide)
      have q0 := Int.emod_nonneg cell (show (2147483629 : Int) ≠ 0 by decide)
      have q1 := Int.emod_lt_of_pos cell (show (0 : Int) < 2147483629 by decide)
      have fin : ∀ c : Int, 0 ≤ c → ∀ p, (upd H l (.lst [.int 0, .int cell])) p = none → Q (.ref p) (upd (upd H l (.lst [.int 0, .int cell])) p (.lst [.int c, .int (((cell % 2147483629) * 44029 + 51001 * k) % 2147483629 + 1), .int 0])) := fun c hc p hp => by
        refine hq p _ (fun b o e => ?_) ?_ ⟨c, _, 0, ⟨upd_same, hc, by omega, by omega, by decide, by decide⟩, Int.le_refl _⟩
        · have e2 := same b o e
          rw [upd_ne (ne_of_none e2 hp)]
          exact e2
        · cases z : H p with
          | none => rfl
          | some o =>
            rw [same p o z] at hp
            cases hp
      have posM : (0 : Int) < 2147483629 := by decide
      have three : 3 ≤ sizeLine := by rw [sizeLine_eq]; decide
      by_cases big : (10 : Int) ^ (18 : Int).toNat ≤ cell
      · rw [decide_eq_true big]
        refine ⟨l, _, 1, _, rfl, rfl, .inl (.inl upd_same), atI_nat (j := 1) rfl, ?_⟩
        exact ⟨_, rfl, .inl ⟨_, rfl, _, _, rfl, rfl, posM, _, _, rfl, rfl, .inr ⟨by decide, by decide⟩, _, rfl, _, _, rfl, rfl, .inl ⟨by decide, by decide⟩, _, _, rfl, rfl, .inl ⟨_, rfl, _, _, rfl, rfl, posM, _, _, rfl, rfl, three, fin cell h0⟩⟩⟩
      · rw [decide_eq_false big]
        refine ⟨l, _, 0, _, rfl, rfl, .inl (.inl upd_same), atI_nat (j := 0) rfl, ?_⟩
        exact ⟨_, rfl, .inl ⟨_, rfl, _, _, rfl, rfl, posM, _, _, rfl, rfl, .inr ⟨by decide, by decide⟩, _, rfl, _, _, rfl, rfl, .inl ⟨by decide, by decide⟩, _, _, rfl, rfl, .inl ⟨_, rfl, _, _, rfl, rfl, posM, _, _, rfl, rfl, three, fin 0 (by decide)⟩⟩⟩
    refine ⟨_, rfl, _, _, rfl, rfl, .inl ⟨by decide, by decide⟩, _, _, rfl, rfl, ?_⟩
    refine ⟨_, rfl, _, rfl, a, _, rfl, .inl hS, _, _, rfl, rfl, _, rfl, ite2 (fun h => ?_) (fun h => ?_)⟩
    · have hk2 : k < ns.length := by
        have z := of_decide_eq_true h
        rw [List.length_map] at z
        omega
      refine ⟨_, rfl, _, rfl, a, _, _, _, rfl, rfl, hS, atI_nat (j := k) (by rw [List.getElem?_map, List.getElem?_eq_getElem hk2]; rfl), _, rfl, ?_⟩
      refine last _ ?_ _ rfl
      split <;> omega
    · refine ⟨_, rfl, a, _, rfl, .inl hS, _, _, rfl, rfl, _, rfl, ite2 (fun h2 => ?_) (fun h2 => ?_)⟩
      · have hp : 0 < ns.length := by
          have z := of_decide_eq_true h2
          rw [List.length_map] at z
          omega
        have m0 := Int.emod_nonneg (k : Int) (show (ns.length : Int) ≠ 0 by omega)
        have m1 := Int.emod_lt_of_pos (k : Int) (show (0 : Int) < ns.length by omega)
        obtain ⟨j, hj⟩ : ∃ j : Nat, (k : Int) % (ns.length : Int) = j := ⟨((k : Int) % (ns.length : Int)).toNat, by omega⟩
        have hj2 : j < ns.length := by omega
        refine ⟨_, rfl, _, rfl, _, rfl, .inl ⟨_, rfl, _, rfl, a, _, rfl, .inl hS, _, _, rfl, rfl, by rw [List.length_map]; omega, a, _, _, .int ns[j], rfl, rfl, hS, ?_, ?_⟩⟩
        · rw [List.length_map, hj]
          exact atI_nat (by rw [List.getElem?_map, List.getElem?_eq_getElem hj2]; rfl)
        · refine ⟨_, rfl, .inl ⟨_, rfl, _, _, rfl, rfl, (show (0 : Int) < 2147483629 by decide), _, _, rfl, rfl, .inr ⟨by decide, by decide⟩, _, _, rfl, rfl, ?_⟩⟩
          refine last _ ?_ _ rfl
          have z := Int.emod_nonneg (if ns[j] < 0 then -ns[j] else ns[j]) (show (2147483629 : Int) ≠ 0 by decide)
          omega
      · exact last _ (by omega) _ rfl
theorem sc__law_take : FnScope ["_law_box_here", "_law_many", "_law_digit", "_law_raw"] ["_law_box_here", "_law_many"] (defScope s__law_take) := ⟨rfl, rfl, rfl, by decide +kernel, rfl, by decide +kernel, by decide +kernel⟩
theorem fk__law_take (c : SaysS cfg.facts cfg.fn K) (T : EnvOk cfg K mg) : Fk P w K mg base 2 "_law_take" ["_law_box_here", "_law_many"] (spTake) := by
  obtain ⟨fd, hh⟩ := has_of c T 20 "_law_take" s__law_take rfl
  refine Fk.of hh ?_ (hh.F.bindsN fun _ _ _ _ _ _ us hl => match us, hl with | [_, _], _ => rfl)
  have F := hh.F
  have mInt := T.free "int" (by decide)
  refine F.ok sc__law_take (fun vs H Q E h => ?_) (fun cdv A outer s H vs Q E hr h => ?_)
  · obtain ⟨a, m, n, rfl, _⟩ := h
    rfl
  · obtain ⟨a, m, n, rfl, ⟨c, d, e, ⟨hb, hc, hd1, hd2, he1, he2⟩, hen⟩, he, hm1, hm2, hq0⟩ := h
    have hq : ∀ (r : Nat) c' d' e', (r : Int) < m → Box (upd H a (.lst [.int c', .int d', .int e'])) a c' d' e' → e' ≤ e + 1 → Q (.int r) (upd H a (.lst [.int c', .int d', .int e'])) := fun r c' d' e' h1 h2 h3 => hq0 r _ h1 but_upd ⟨c', d', e', h2, by omega⟩
    refine ⟨_, pss_cons (ps_if (pt_cmpR op_gt (pe_ix ix_list (pv 0) pe_int (fun _ _ => rfl)) pe_int (nomark _))
          (pss_cons (ps_set (i := 2) sc__law_take.nd rfl (.inl rfl) (pe_op op_mod (pe_callTy call_int1 (by rfl) mInt PyProof.Rows.boot_int (pa_cons (pe_ix ix_list (pv 0) pe_int (fun _ _ => rfl)) pa_nil)) (pv 1)))
          (pss_cons (ps_asg (pe_op op_fdiv (pe_ix ix_list (pv 0) pe_int (fun _ _ => rfl)) (pv 1)) (pg_sub (pv 0) pe_int set_list (fun _ => rfl)))
          (pss_one (ps_ret (pv 2))))) pss_nil)
      (pss_cons (ps_asg (pe_op op_add (pe_ix ix_list (pv 0) pe_int (fun _ _ => rfl)) pe_int) (pg_sub (pv 0) pe_int set_list (fun _ => rfl)))
      (pss_cons (ps_set (i := 3) sc__law_take.nd rfl (.inl rfl) (pe_op op_mod (pe_callTy call_int1 (by rfl) mInt PyProof.Rows.boot_int (pa_cons (pe_op op_add (pe_op op_mul (pe_op op_add (pe_ix ix_list (pv 0) pe_int (fun _ _ => rfl)) (pe_op op_mul pe_int (pe_ix ix_list (pv 0) pe_int (fun _ _ => rfl)))) pe_int) pe_int) pa_nil)) pe_int))
      (pss_cons (ps_asg (pe_op op_add (pe_op op_mod (pe_callTy call_int1 (by rfl) mInt PyProof.Rows.boot_int (pa_cons (pe_op op_add (pe_op op_mul (pv 3) pe_int) pe_int) pa_nil)) pe_int) pe_int) (pg_sub (pv 0) pe_int set_list (fun _ => rfl)))
      (pss_one (ps_ret (pe_op op_mod (pe_callTy call_int1 (by rfl) mInt PyProof.Rows.boot_int (pa_cons (pe_op op_fdiv (pe_op op_add (pe_op op_mul (pv 3) pe_int) (pe_ix ix_list (pv 0) pe_int (fun _ _ => rfl))) pe_int) pa_nil)) (pv 1))))))), ?_⟩
    have hS : SqL K H a [.int c, .int d, .int e] := .inl (.inl hb)
    refine ⟨_, rfl, a, _, 0, .int c, rfl, rfl, hS, rfl, _, _, rfl, rfl, _, rfl, ite2 (fun h => ?_) (fun h => ?_)⟩
    · have m0 := Int.emod_nonneg c (show m ≠ 0 by omega)
      have m1 := Int.emod_lt_of_pos c hm1
      obtain ⟨r, hr'⟩ : ∃ r : Nat, c % m = r := ⟨(c % m).toNat, by omega⟩
      have hdv : 0 ≤ c / m := Int.ediv_nonneg hc (by omega)
      have q := hq r (c / m) d e (by omega) ⟨upd_same, hdv, hd1, hd2, he1, by omega⟩ (by omega)
      rw [← hr'] at q
      exact ⟨_, rfl, a, _, 0, .int c, rfl, rfl, hS, rfl, .inl ⟨_, rfl, _, rfl, _, _, rfl, rfl, hm1, _, rfl, a, _, 0, .int c, rfl, rfl, hS, rfl, _, rfl, _, _, rfl, rfl, ⟨hm1, by omega⟩, _, rfl, a, _, 0, 0, rfl, rfl, hb, rfl, _, rfl, q⟩⟩
    · refine ⟨_, rfl, a, _, 2, .int e, rfl, rfl, hS, rfl, _, _, rfl, rfl, _, rfl, a, _, 2, 2, rfl, rfl, hb, rfl, ?_⟩
      have hS1 : SqL K (upd H a (.lst [.int c, .int d, .int (e + 1)])) a [.int c, .int d, .int (e + 1)] := .inl (.inl upd_same)
      have pos1 : (0 : Int) < 2147483563 := by decide
      have pos2 : (0 : Int) < 2147483629 := by decide
      refine ⟨_, rfl, a, _, 1, .int d, rfl, rfl, hS1, rfl, _, rfl, a, _, 2, .int (e + 1), rfl, rfl, hS1, rfl, _, _, rfl, rfl, .inl ⟨by decide, by decide⟩, _, _, rfl, rfl, _, _, rfl, rfl, .inr ⟨by decide, by decide⟩, _, _, rfl, rfl, .inl ⟨_, rfl, _, _, rfl, rfl, pos1, ?_⟩⟩
      have n0 := Int.emod_nonneg ((((d + 71011 * (e + 1)) * 62003 + 41) % 2147483563) * 39019 + 21001) (show (2147483629 : Int) ≠ 0 by decide)
      have n1 := Int.emod_lt_of_pos ((((d + 71011 * (e + 1)) * 62003 + 41) % 2147483563) * 39019 + 21001) pos2
      refine ⟨_, rfl, _, _, rfl, rfl, .inr ⟨by decide, by decide⟩, _, _, rfl, rfl, .inl ⟨_, rfl, _, _, rfl, rfl, pos2, _, _, rfl, rfl, _, rfl, a, _, 1, 1, rfl, rfl, upd_same, rfl, ?_⟩⟩
      rw [upd_upd]
      have hS2 : SqL K (upd H a (.lst [.int c, .int (((((d + 71011 * (e + 1)) * 62003 + 41) % 2147483563) * 39019 + 21001) % 2147483629 + 1), .int (e + 1)])) a [.int c, .int (((((d + 71011 * (e + 1)) * 62003 + 41) % 2147483563) * 39019 + 21001) % 2147483629 + 1), .int (e + 1)] := .inl (.inl upd_same)
      have z0 := Int.emod_nonneg (((((d + 71011 * (e + 1)) * 62003 + 41) % 2147483563) * 2147483647 + (((((d + 71011 * (e + 1)) * 62003 + 41) % 2147483563) * 39019 + 21001) % 2147483629 + 1)) / 8191) (show m ≠ 0 by omega)
      have z1 := Int.emod_lt_of_pos (((((d + 71011 * (e + 1)) * 62003 + 41) % 2147483563) * 2147483647 + (((((d + 71011 * (e + 1)) * 62003 + 41) % 2147483563) * 39019 + 21001) % 2147483629 + 1)) / 8191) hm1
      obtain ⟨r, hr'⟩ : ∃ r : Nat, (((((d + 71011 * (e + 1)) * 62003 + 41) % 2147483563) * 2147483647 + (((((d + 71011 * (e + 1)) * 62003 + 41) % 2147483563) * 39019 + 21001) % 2147483629 + 1)) / 8191) % m = r := ⟨((((((d + 71011 * (e + 1)) * 62003 + 41) % 2147483563) * 2147483647 + (((((d + 71011 * (e + 1)) * 62003 + 41) % 2147483563) * 39019 + 21001) % 2147483629 + 1)) / 8191) % m).toNat, by omega⟩
      have q := hq r c (((((d + 71011 * (e + 1)) * 62003 + 41) % 2147483563) * 39019 + 21001) % 2147483629 + 1) (e + 1) (by omega) ⟨upd_same, hc, by omega, by omega, by omega, by omega⟩ (by omega)
      rw [← hr'] at q
      exact ⟨_, rfl, _, _, rfl, rfl, .inr ⟨by decide, by decide⟩, _, rfl, a, _, 1, _, rfl, rfl, hS2, rfl, _, _, rfl, rfl, _, _, rfl, rfl, ⟨by decide, by decide⟩, .inl ⟨_, rfl, _, rfl, _, _, rfl, rfl, hm1, q⟩⟩
theorem sc__law_pick : FnScope ["_law_box_here", "_law_some"] ["_law_box_here", "_law_some"] (defScope s__law_pick) := ⟨rfl, rfl, rfl, by decide +kernel, rfl, by decide +kernel, by decide +kernel⟩
theorem fk__law_pick (c : SaysS cfg.facts cfg.fn K) (T : EnvOk cfg K mg) : Fk P w K mg base 3 "_law_pick" ["_law_box_here", "_law_some"] (spPick K) := by
  obtain ⟨fd, hh⟩ := has_of c T 21 "_law_pick" s__law_pick rfl
  refine Fk.of hh ?_ (hh.F.bindsN fun _ _ _ _ _ _ us hl => match us, hl with | [_, _], _ => rfl)
  have F := hh.F
  have mLen := T.free "len" (by decide)
  refine F.ok sc__law_pick (fun vs H Q E h => ?_) (fun cdv A outer s H vs Q E hr h => ?_)
  · obtain ⟨a, b, n, xs, rfl, _⟩ := h
    rfl
  · obtain ⟨a, b, n, xs, rfl, hB, he, hS, hab, hx0, hx1, hq⟩ := h
    refine ⟨_, pss_one (ps_ret (pe_ix ix_list (pv 1) (pe_f (fk__law_take c T) hr (by decide) (by rfl) passL (pa_cons (pv 0) (pa_cons (pe_callB call_len_seq (by rfl) mLen PySem.boot_len (pa_cons (pv 1) pa_nil)) pa_nil))) (fun _ _ => rfl))), ?_⟩
    refine ⟨_, rfl, _, rfl, _, rfl, b, xs, rfl, .inl hS, a, _, n, rfl, hB, he, by omega, by omega, fun r H' hr2 bt hB2 => ?_⟩
    have hr3 : r < xs.length := by omega
    exact ⟨b, xs, r, xs[r], rfl, rfl, bt.seq (Ne.symm hab) hS, atI_nat (List.getElem?_eq_getElem hr3), hq r _ H' (List.getElem?_eq_getElem hr3) bt hB2⟩
end
end K01

namespace K01
open PySem PySem.Spec PyProof.Rows L2 Shf LamX
section
def ecs : List EC := [⟨"InvalidShelf", "shelf", true⟩, ⟨"InvalidSize", "size", false⟩]
theorem sc__law_error : FnScope ["_law_work", "e"] ["_law_work"] (defScope s__law_error) := ⟨rfl, rfl, rfl, by decide +kernel, rfl, by decide +kernel, by decide +kernel⟩
theorem lerr_gives {X : Cx} (T : EnvOk cfg X.K X.mg) {g : Addr} {cdg : Value} {q : PySem.Str} : GivesTo X ["_law_work", "e"] "_law_error" (defScope s__law_error) g cdg (defBody s__law_error) "_law_work" q (TErr X.K ecs) := by
  intro f c' s H Q tl act hc h
  refine ⟨_, pss_cons (ps_try_cls (X := (cxOf C8.CX0 X.prog X.w X.K X.mg X.base ["_law_work", "e"] "_law_error" (defScope s__law_error) g cdg X.A X.stack s H C8.E0).nox)
      (tb := fun W D σ H => ∃ Ech : XK, (∀ cls d σ' H', Ech cls d H' → σ'.length = 2 → W cls d σ' H') ∧ σ[0]? = some (some (.ref f)) ∧ H c' = some (CodeO c' q) ∧ tl Ech H fun _ H1 => D.nx σ H1)
      rfl rfl sc__law_error.nd LamX.takes0 (fun W pn xe tk _ => ?_)
      (.as (i := 1) (ts := sAtL X.K "InvalidShelf" "shelf") rfl rfl ⟨rfl, by decide, .inl (T.g "InvalidShelf" (by decide))⟩ (fun a oe cls d pn hz hf => pss_one (ps_ret (pe_tup (pa_cons pe_str (pa_cons (pe_by_at (T.at_ "InvalidShelf" (by decide)) hz hf (pv 1)) pa_nil))))) (.as (i := 1) (ts := sWordL X.K "InvalidSize" "size") rfl rfl ⟨rfl, by decide, .inl (T.g "InvalidSize" (by decide))⟩ (fun a oe cls d pn hz hf => pss_one (ps_ret (pe_tup (pa_cons pe_str (pa_cons (pe_by_word (T.word "InvalidSize" (by decide)) hz hf (pv 1)) pa_nil))))) .nil))) (pss_one (ps_ret pe_non)), ?_⟩
  · refine ⟨fun pins s' σ H' D I h' => ?_⟩
    obtain ⟨Ech, hW, h1, h2, h3⟩ := h'
    exact (pss_one (ps_expr (act (fun cls d σ' H' => σ'.length = 2 → W cls d σ' H') pn xe Ech _ _ (takes_len tk) hW))).run pins s' σ H' D I ⟨h1, h2, h3⟩
  · refine ⟨fun cls d H' => ErrIn X.K ecs cls d H' Q, fun cls d σ' H' e hl => ?_, rfl, hc, h⟩
    obtain ⟨z, hz, rfl, a, v, rfl, ha, hq⟩ := e
    rcases List.mem_cons.mp hz with rfl | hz
    · exact yes_clause T "InvalidShelf" (by decide) fun a2 _ => sAtL_run hl ha hq
    obtain rfl := List.mem_singleton.mp hz
    exact no_clause T "InvalidSize" "InvalidShelf" (by decide) (by decide) (by decide) (yes_clause T "InvalidSize" (by decide) fun a2 _ => sWordL_run hl ha hq)
/-- _law_error(lambda: body) -/
theorem pe_lerr {X : Cx} {fd : FuncData} {k : Nat} {c Pt : Addr} {Ts : List (Addr × PySem.Str)} {params : Arguments} {body : Expr} {scope : Scope} {t : XK → TE} {p lpos pos : Pos} (T : EnvOk cfg X.K X.mg) (hh : Has X.K X.mg "_law_error" s__law_error fd) (hg : Gl X "_law_error")
    (tab : TabOk X Ts c Pt) (hr : Room (k + 2) X.A) (L : LamS X.env.scope scope)
    (hbody : ∀ (A : Around) (outer : List Env) (s : Shared) (H : Hp) (E : XK) (f c' : Addr), Room k (A.deeper (lamEnv X scope s.heap.objs.size f c')) → PE (lamCx X A outer s H E scope f c') body (t E))
    (hdef : defaultsOf params X.env = ([], []) := by rfl) (hbind : ∀ (q : PySem.Str) (cl : List (PySem.Str × Addr)) (pm cv ctv : Value), bindArgs (PySem.W.kla_fn "<lambda>" q params body scope cl pm cv ctv) ⟨[], []⟩ = pure [] := by intros; rfl) :
    PE X (.Call (.Name "_law_error" p) [.Lambda params body scope lpos] [] pos) (tLam Ts (TErr X.K ecs) t) := by
  have b := hh.F.bindsN (ps := ["_law_work"]) fun _ _ _ _ _ _ us hl => match us, hl with | [_], _ => rfl
  obtain ⟨oc, od, dV, kV, doc, pm, an, cdv, ct, osl, rfl, lk, hcd, _, _⟩ := hh.F.ex
  exact pe_lamcall (a := "_law_work") (Ng := ["_law_work", "e"]) hg hh.g hh.F.kp lk hcd b sc__law_error rfl (.inl rfl) (lerr_gives T) tab.b tab.code tab.mem tab.one hr L hdef hbind hbody
end
end K01

namespace K01
open PySem PySem.Spec PyProof.Rows L2 Shf
section
variable {P : Program} {w : World} {K : PySem.W.Frag} {mg : PySem.Str → Option Value} {base : Heap}
theorem sc__law_mixed : FnScope ["_law_box_here", "_law_row", "_law_left", "_law_found", "_law_turn"] ["_law_box_here", "_law_row"] (defScope s__law_mixed) := ⟨rfl, rfl, rfl, by decide +kernel, rfl, by decide +kernel, by decide +kernel⟩
theorem fk__law_mixed (c : SaysS cfg.facts cfg.fn K) (T : EnvOk cfg K mg) : Fk P w K mg base 3 "_law_mixed" ["_law_box_here", "_law_row"] (spMixed K) := by
  obtain ⟨fd, hh⟩ := has_of c T 22 "_law_mixed" s__law_mixed rfl
  refine Fk.of hh (hh.F.ok sc__law_mixed (fun vs H Q E h => ?_) (fun cdv A outer s H vs Q E hr h => ?_)) (hh.F.bindsN fun _ _ _ _ _ _ us hl => match us, hl with | [_, _], _ => rfl)
  · obtain ⟨a, b, n, xs, rfl, _⟩ := h
    rfl
  · obtain ⟨a, b, n, xs, rfl, hB, hS, hab, hl, hn, hq⟩ := h
    have mlist := T.free "list" (by decide)
    have mrange := T.free "range" (by decide)
    have mlen := T.free "len" (by decide)
    refine ⟨_, (pss_cons (ps_par (i := 2) (j := 3) (by rfl) sc__law_mixed.nd rfl rfl (by decide) rfl rfl (pa_cons (pe_callTy call_list_of (by rfl) mlist (by decide +kernel) (pa_cons (pv 1) pa_nil)) (pa_cons (pe_lst pa_nil) pa_nil)) (by rfl))
          (pss_cons (ps_for (passes_of rfl) rfl (pi_range1 (by rfl) mrange (pa_cons (pe_callB call_len_seq (by rfl) mlen PySem.boot_len (pa_cons (pv 1) pa_nil)) pa_nil)) (pg_name (i := 4) sc__law_mixed.nd rfl (.inl rfl))
          (pss_one (ps_expr (pe_bm PySem.F.plainAttrs_list PySem.F.slot_list_append PySem.F.type_list_append mt_append (pv 3) (pa_cons (pe_bm PySem.F.plainAttrs_list PySem.F.slot_list_pop PySem.F.type_list_pop mt_popAt (pv 2) (pa_cons (pe_f (fk__law_take c T) hr (by decide) (by rfl) passL (pa_cons (pv 0) (pa_cons (pe_callB call_len_seq (by rfl) mlen PySem.boot_len (pa_cons (pv 2) pa_nil)) pa_nil))) pa_nil)) pa_nil)))))
          (pss_one (ps_ret (pv 3))))), ?_⟩
    refine ⟨_, rfl, b, xs, rfl, hS, fun lL hL => ⟨Nat.zero_le _, fun lF hF => ⟨_, _, rfl, ?_⟩⟩⟩
    obtain ⟨c0, d0', e0, hBx, hen⟩ := hB
    have n1 : a ≠ lL := ne_of_none hBx.1 hL
    have hBx1 := (upd_ne (o := HO.lst xs) n1).trans hBx.1
    have n2 : a ≠ lF := ne_of_none hBx1 hF
    have n3 : lL ≠ lF := ne_of_none upd_same hF
    have s0 : Same H (upd (upd H lL (.lst xs)) lF (.lst [])) := (same_new hL).tr (same_new hF)
    have hF0 : H lF = none := by
      cases z : H lF with
      | none => rfl
      | some o =>
        have y := same_new (o := HO.lst xs) hL lF o z
        rw [hF] at y
        cases y
    refine ⟨_, rfl, b, xs, rfl, ?_, (xs.length : Nat), rfl, by omega, by omega, ?_⟩
    · exact Sq.same s0 hS
    rw [show ((xs.length : Nat) : Int).toNat = xs.length by omega]
    refine for_range (lo := 0) (n := xs.length) (fun i σ H' => ∃ left found x4, σ = [some (.ref a), some (.ref b), some (.ref lL), some (.ref lF), x4] ∧ H' lL = some (.lst left) ∧ H' lF = some (.lst found) ∧ (found ++ left).Perm xs ∧ left.length + i = xs.length ∧ But a H H' ∧ BoxN H' a (n + i)) ?_ ?_ ?_
    · refine ⟨xs, [], none, rfl, (upd_ne n3).trans upd_same, upd_same, List.Perm.refl _, rfl, But.of s0, c0, d0', e0, ⟨(upd_ne n2).trans hBx1, hBx.2⟩, ?_⟩
      show e0 ≤ n + 0
      omega
    · rintro i σ H' hi ⟨left, found, x4, rfl, h1, h2, hp, hlen, bt, hBi⟩
      have hl0 : 0 < left.length := by omega
      refine ⟨_, rfl, .inl ⟨rfl, _, SqL.of h2⟩, _, rfl, .inl ⟨rfl, _, SqL.of h1⟩, _, rfl, _, rfl, lL, left, rfl, .inl (SqL.of h1), a, _, n + i, rfl, hBi, by omega, by omega, by omega, fun r H2 hr2 bt2 hB2 => ?_⟩
      have hr3 : r < left.length := by omega
      have g1 := bt2 lL _ (Ne.symm n1) h1
      have g2 := bt2 lF _ (Ne.symm n2) h2
      have hgl : left.length ≤ xs.length := by omega
      have hfl : found.length ≤ xs.length := by
        have z := hp.length_eq
        rw [List.length_append] at z
        omega
      refine ⟨lL, left, r, r, left[r], rfl, rfl, g1, by omega, by omega, by unfold seqIndex?; simp; omega, List.getElem?_eq_getElem hr3, lF, found, left[r], rfl, rfl, (upd_ne (Ne.symm n3)).trans g2, by rw [sizeLine_eq]; omega, ?_⟩
      refine ⟨left.eraseIdx r, found ++ [left[r]], _, rfl, ?_, upd_same, ?_, ?_, ?_, ?_⟩
      · exact (upd_ne n3).trans upd_same
      · have z := pick_perm' left r hr3
        rw [List.append_assoc]
        exact (List.Perm.append_left found z).trans hp
      · rw [List.length_eraseIdx]
        rw [if_pos hr3]
        omega
      · intro bb o nb e
        rw [upd_ne (ne_of_none e hF0), upd_ne (ne_of_none e hL)]
        exact bt2 bb o nb (bt bb o nb e)
      · obtain ⟨c1, d1', e1, hb1, hb2⟩ := hB2
        refine ⟨c1, d1', e1, ⟨(upd_ne n2).trans ((upd_ne n1).trans hb1.1), hb1.2⟩, ?_⟩
        show e1 ≤ n + ((i + 1 : Nat) : Int)
        omega
    · rintro σ H' ⟨left, found, x4, rfl, h1, h2, hp, hlen, bt, hBi⟩
      have e : left = [] := List.length_eq_zero_iff.mp (by omega)
      subst e
      rw [List.append_nil] at hp
      exact ⟨_, rfl, hq lF found H' hp hF0 (Ne.symm n2) h2 bt hBi⟩
end
end K01

namespace K01
open PySem PySem.Spec PyProof.Rows L2 Shf
section
variable {P : Program} {w : World} {K : PySem.W.Frag} {mg : PySem.Str → Option Value} {base : Heap}
theorem sc_linked_rows : FnScope ["many", "links", "rows", "_", "one", "other", "row"] ["many", "links"] (defScope s_linked_rows) := ⟨rfl, rfl, rfl, by decide +kernel, rfl, by decide +kernel, by decide +kernel⟩
theorem fk_linked_rows (c : SaysS cfg.facts cfg.fn K) (T : EnvOk cfg K mg) : Fk P w K mg base 2 "linked_rows" ["many", "links"] (spLinkedRows K) := by
  obtain ⟨fd, hh⟩ := has_of c T 7 "linked_rows" s_linked_rows rfl
  refine Fk.of hh (hh.F.ok sc_linked_rows (fun vs H Q E h => ?_) (fun cdv A outer s H vs Q E hr h => ?_)) (hh.F.bindsN fun _ _ _ _ _ _ us hl => match us, hl with | [_, _], _ => rfl)
  · obtain ⟨m, v, L, rfl, _⟩ := h
    rfl
  · obtain ⟨m, v, L, rfl, hd, hb, hm, hL, hq⟩ := h
    have mrange := T.free "range" (by decide)
    have mtuple := T.free "tuple" (by decide)
    have msorted := T.free "sorted" (by decide)
    refine ⟨_, (pss_cons (ps_setLc (i := 2) (g := gName 3) (te := (tLst tNil)) (own := [("_", 3)]) rfl sc_linked_rows.nd rfl rfl (sw_true rfl rfl rfl (by decide +kernel)) (pi_range1 (by rfl) mrange (pa_cons (pv 0) pa_nil)) (blkOk_by (N := ["many", "links", "rows", "_", "one", "other", "row"]) (sc := defScope s_linked_rows) (by decide +kernel)) (fun s H C cl fp => (pg_name (i := 3) sc_linked_rows.nd rfl (.inl rfl))) (fun s H C cl fp => pts_nil) (fun s H C cl fp => by exact (pe_lst pa_nil)))
          (pss_cons (ps_for (passes_of rfl) rfl (pi_sq (pv 1)) (pg_sq rfl (pgs_cons (pg_name (i := 4) sc_linked_rows.nd rfl (.inl rfl)) (pgs_cons (pg_name (i := 5) sc_linked_rows.nd rfl (.inl rfl)) pgs_nil)))
          (pss_cons (ps_expr (pe_bm PySem.F.plainAttrs_list PySem.F.slot_list_append PySem.F.type_list_append mt_append (pe_ix ix_seq (pv 2) (pv 4) (fun _ _ => rfl)) (pa_cons (pv 5) pa_nil)))
          (pss_one (ps_expr (pe_bm PySem.F.plainAttrs_list PySem.F.slot_list_append PySem.F.type_list_append mt_append (pe_ix ix_seq (pv 2) (pv 5) (fun _ _ => rfl)) (pa_cons (pv 4) pa_nil))))))
          (pss_one (ps_ret (pe_tupleOf (by rfl) mtuple (pe_lc (g := gName 6) (te := (tThen (tCB (rSortedI K) (tCons (tVar 6) tNil)) (kTup K))) (own := [("row", 6)]) rfl sc_linked_rows.nd (pi_sq (pv 2)) (blkOk_by (N := ["many", "links", "rows", "_", "one", "other", "row"]) (sc := defScope s_linked_rows) (by decide +kernel)) (fun s H C cl fp => (pg_name (i := 6) sc_linked_rows.nd rfl (.inl rfl))) (fun s H C cl fp => pts_nil) (fun s H C cl fp => by exact (pe_tupleOf (by rfl) mtuple (pe_callB cr_sortedI (by rfl) msorted (by decide +kernel) (pa_cons (pv 6) pa_nil)))))))))), ?_⟩
    obtain ⟨a, xs, rfl, hS, hA⟩ := tup_of hd
    have hlen : xs.length = L.length := by rw [hA.len, List.length_map]
    refine t_seq ⟨_, rfl, (m : Nat), rfl, by omega, by omega, fun D hD => ?_⟩
    rw [show ((m : Nat) : Int).toNat = m by omega]
    refine lc_rg (lo := 0) (n := m) (fun i acc G => ∃ ps : List Addr, acc = ps.map V.ref ∧ ps.length = i ∧ ps.Nodup ∧ (∀ p ∈ ps, G p = some (.lst []) ∧ H p = none) ∧ Same H G) hD ⟨[], rfl, rfl, .nil, (fun p hp => by cases hp), Same.rfl'⟩ ?_ ?_
    · rintro i acc G hi hG ⟨ps, rfl, hl, nd, hp, sG⟩
      refine ⟨rfl, t_yes (iteT ⟨Nat.zero_le _, fun q hq => ?_⟩)⟩
      obtain ⟨G2, g2, sg, e⟩ := core_of (same_new (o := .lst []) hq) hG
      have hq3 := core_at hG hq e
      have qD : q ≠ D := fun z => by
        rw [z, upd_same] at hq
        cases hq
      have hqG : G q = none := by
        rw [← hq, upd_ne qD]
      rw [e]
      refine lc_put g2 ?_ ⟨ps ++ [q], by rw [List.map_append]; rfl, by rw [List.length_append, hl]; rfl, ?_, ?_, sG.tr sg⟩
      · rw [List.length_map, sizeLine_eq]
        omega
      · rw [List.nodup_append]
        refine ⟨nd, by simp, fun x hx y hy => ?_⟩
        rw [List.mem_singleton] at hy
        subst hy
        rintro rfl
        rw [(hp x hx).1] at hqG
        cases hqG
      · intro p hpp
        rcases List.mem_append.mp hpp with hpp | hpp
        · exact ⟨sg _ _ (hp p hpp).1, (hp p hpp).2⟩
        · rw [List.mem_singleton] at hpp
          subst hpp
          refine ⟨hq3, ?_⟩
          cases z : H p with
          | none => rfl
          | some o =>
            rw [sG _ _ z] at hqG
            cases hqG
    rintro acc G hG ⟨ps, rfl, hl, nd, hp, sG⟩
    have sH : Same H (upd G D (.lst (ps.map V.ref))) := sG.tr (same_new hG)
    have nD : ∀ p ∈ ps, p ≠ D := fun p hpp z => by
      have y := (hp p hpp).1
      rw [z, hG] at y
      cases y
    have hat : ∀ j, j < m → ∃ p, ps[j]? = some p ∧ (ps.map V.ref)[j]? = some (.ref p) := fun j hj => by
      have hj' : j < ps.length := by omega
      exact ⟨ps[j], List.getElem?_eq_getElem hj', by rw [List.getElem?_map, List.getElem?_eq_getElem hj']; rfl⟩
    refine t_next (t_seq ?_)
    refine for_sqT (a := a) (xs := xs) (fun i σ H1 => Same H H1 ∧ H1 D = some (.lst (ps.map V.ref)) ∧ RowsH H1 ps (nbL (L.take i)) ∧ ∃ z3 z4 z5, σ = [some (.int (m : Int)), some (.ref a), some (.ref D), z3, z4, z5, none])
      ⟨sH, upd_same, ?_, none, none, none, rfl⟩ (fun i σ H1 h => sqt_same h.1 hS) ?_ ?_ _ (fun R hR => ⟨_, rfl, hR⟩)
    · intro j p hj
      have hpp := List.mem_of_getElem? hj
      rw [upd_ne (nD p hpp)]
      exact (hp p hpp).1
    · rintro i x σ H1 hx ⟨s1, hD1, hR1, z3, z4, z5, rfl⟩
      obtain ⟨dz, hdz, hpz⟩ := hA.at hx
      have hi : i < L.length := by
        have y := (List.getElem?_eq_some_iff.mp hdz).1
        rw [List.length_map] at y
        exact y
      have eL : L[i]? = some L[i] := List.getElem?_eq_getElem hi
      rw [List.getElem?_map, eL] at hdz
      cases hdz
      obtain ⟨b1, b2⟩ := hb L[i] (List.getElem_mem hi)
      obtain ⟨t, rfl, hT⟩ := link_of (dp_same s1 _ _ hpz)
      obtain ⟨p1, hp1, hv1⟩ := hat _ b1
      obtain ⟨p2, hp2, hv2⟩ := hat _ b2
      have k1 := hR1 _ _ hp1
      have l1 : ∀ k, (nbL (L.take i) k).length ≤ 6000 := fun k => by
        have y := nb_len (L.take i) k
        rw [List.length_take] at y
        omega
      have nD1 : D ≠ p1 := fun z => nD p1 (List.mem_of_getElem? hp1) z.symm
      have nD2 : D ≠ p2 := fun z => nD p2 (List.mem_of_getElem? hp2) z.symm
      refine ⟨t, _, rfl, .inr hT, rfl, _, _, rfl, _, _, rfl, rfl, ?_⟩
      refine ⟨_, rfl, _, rfl, ix_sq (.inl (SqL.of hD1)) hv1 ⟨.inl ⟨rfl, _, SqL.of k1⟩, _, rfl, p1, _, _, rfl, rfl, k1, ?_, ?_⟩⟩
      · rw [List.length_map, sizeLine_eq]
        have y := l1 L[i].1
        omega
      have hR2 := hR1.put (x := L[i].2) nd hp1
      have hD2 : (upd H1 p1 (.lst (nV (nbL (L.take i) L[i].1) ++ [V.int (L[i].2 : Int)]))) D = some (.lst (ps.map V.ref)) := (upd_ne nD1).trans hD1
      have k2 := hR2 _ _ hp2
      refine ⟨_, rfl, _, rfl, ix_sq (.inl (SqL.of hD2)) hv2 ⟨.inl ⟨rfl, _, SqL.of k2⟩, _, rfl, p2, _, _, rfl, rfl, k2, ?_, ?_⟩⟩
      · rw [List.length_map, sizeLine_eq]
        have y := l1 L[i].2
        have y2 : (if L[i].2 = L[i].1 then nbL (L.take i) L[i].2 ++ [L[i].2] else nbL (L.take i) L[i].2).length ≤ 6001 := by
          split
          · rw [List.length_append, List.length_singleton]
            omega
          · omega
        dsimp only
        omega
      have hR3 := hR2.put (x := L[i].1) nd hp2
      refine ⟨fun b o e => ?_, (upd_ne nD2).trans hD2, ?_, _, _, _, rfl⟩
      · have f1 : b ≠ p1 := ne_of_none e (hp p1 (List.mem_of_getElem? hp1)).2
        have f2 : b ≠ p2 := ne_of_none e (hp p2 (List.mem_of_getElem? hp2)).2
        rw [upd_ne f2, upd_ne f1]
        exact s1 b o e
      · intro k q hq2
        have y := hR3 k q hq2
        rw [List.take_add_one, eL]
        have e := nb_two (L := L.take i) (p := L[i]) (k := k)
        show _ = some (HO.lst (nV (nbL (L.take i ++ [L[i]]) k)))
        rw [← e]
        exact y
    · rintro σ H1 ⟨s1, hD1, hR1, z3, z4, z5, rfl⟩
      rw [hlen, List.take_length] at hR1
      dsimp only
      refine t_ret (t_thn ?_)
      refine lc_sq (a := D) (xs := ps.map V.ref) (.inl (SqL.of hD1)) (fun i acc G => Same H1 G ∧ DpAll K G acc (((rowsOf m L).take i).map fun r => PyData.tuple (nI r))) ⟨Same.rfl', .nil⟩ (fun _ _ _ r => r.1) ?_ ?_ _ (fun R hR => ⟨_, rfl, hR⟩)
      · intro i x acc G D2 hx hG2 r
        have hi : i < m := by
          have y := (List.getElem?_eq_some_iff.mp hx).1
          rw [List.length_map] at y
          omega
        obtain ⟨p, hpi, hpv⟩ := hat i hi
        rw [hpv] at hx
        cases hx
        have kp := hR1 i p hpi
        have sG2 : Same H1 (upd G D2 (.lst acc)) := r.1.tr (same_upd hG2)
        refine ⟨rfl, t_yes (iteT (t_thn (t_cb1 (t_var rfl ⟨p, (nbL L i).map fun x : Nat => (x : Int), rfl, SqL.of (by rw [← nV_eq]; exact sG2 _ _ kp), fun ns' q pm ps' hq => ?_⟩))))⟩
        have e1 := sorted_nat pm ps'
        subst e1
        refine kTup_sq (.inl (SqL.of upd_same)) fun q2 H5 s5 hq2 => ?_
        have s6 : Same (upd G D2 (.lst acc)) H5 := (same_new hq).tr s5
        obtain ⟨G3, g3, sg, rfl⟩ := core_of s6 hG2
        refine lc_put g3 ?_ ⟨r.1.tr sg, ?_⟩
        · have y := r.2.len
          rw [List.length_map, List.length_take, rowsOf_len] at y
          rw [sizeLine_eq]
          omega
        · rw [List.take_add_one, rowsOf_at hi, List.map_append]
          refine dAll_snoc (.tup (sqt_core hq2) ?_) (dpAll_same sg _ _ r.2)
          rw [← nV_eq]
          exact dAll_nat _
      · intro D2 acc G hG2 r
        refine kTup_sq (.inl (SqL.of upd_same)) fun p H5 s5 hp5 => ?_
        refine hq (.ref p) H5 (s1.tr ((r.1.tr (same_upd hG2)).tr s5)) (.tup hp5 ?_)
        have y := r.2
        rw [List.length_map, hl, List.take_of_length_le (by rw [rowsOf_len]; exact Nat.le_refl _)] at y
        exact dpAll_same ((same_upd hG2).tr s5) _ _ y
end
end K01

namespace K01
open PySem PySem.Spec PyProof.Rows L2 Shf
section
variable {P : Program} {w : World} {K : PySem.W.Frag} {mg : PySem.Str → Option Value} {base : Heap}
theorem sc__met_from : FnScope ["rows", "first", "ahead", "order", "at", "here", "number"] ["rows", "first"] (defScope s__met_from) := ⟨rfl, rfl, rfl, by decide +kernel, rfl, by decide +kernel, by decide +kernel⟩
theorem fk__met_from (c : SaysS cfg.facts cfg.fn K) (T : EnvOk cfg K mg) : Fk P w K mg base 2 "_met_from" ["rows", "first"] (spMet K) := by
  obtain ⟨fd, hh⟩ := has_of c T 8 "_met_from" s__met_from rfl
  refine Fk.of hh (hh.F.ok sc__met_from (fun vs H Q E h => ?_) (fun cdv A outer s H vs Q E hr h => ?_)) (hh.F.bindsN fun _ _ _ _ _ _ us hl => match us, hl with | [_, _], _ => rfl)
  · obtain ⟨v, f, rs, rfl, _⟩ := h
    rfl
  · obtain ⟨v, f, rs, rfl, hd, hf, hb, hn, hq⟩ := h
    have mlen := T.free "len" (by decide)
    have hu := hu_of hr
    refine ⟨_, (pss_cons (ps_set (i := 2) sc__met_from.nd rfl (.inl rfl) (pe_disp (pps_cons (pv 1) (pv 1) pps_nil) rfl rfl (by simp) (by decide)))
          (pss_cons (ps_set (i := 3) sc__met_from.nd rfl (.inl rfl) (pe_lst (pa_cons (pv 1) pa_nil)))
          (pss_cons (ps_set (i := 4) sc__met_from.nd rfl (.inl rfl) pe_int)
          (pss_cons (ps_while (passes_of rfl) (pt_cmpR op_lt (pv 4) (pe_callB call_len_seq (by rfl) mlen PySem.boot_len (pa_cons (pv 3) pa_nil)) (nomark _)) (pss_cons (ps_set (i := 5) sc__met_from.nd rfl (.inl rfl) (pe_ix ix_seq (pv 3) (pv 4) (fun _ _ => rfl)))
          (pss_cons (ps_aug (i := 4) sc__met_from.nd rfl (.inl rfl) pe_int ip_add)
          (pss_one (ps_for (passes_of rfl) rfl (pi_sq (pe_ix ix_seq (pv 0) (pv 5) (fun _ _ => rfl))) (pg_name (i := 6) sc__met_from.nd rfl (.inl rfl))
          (pss_one (ps_if (pt_cmp (pc_dnotin hu (pv 6) (pv 2))) (pss_cons (ps_dput hu (pv 2) (pv 6) (pv 5) rfl)
          (pss_one (ps_expr (pe_bm PySem.F.plainAttrs_list PySem.F.slot_list_append PySem.F.type_list_append mt_append (pv 3) (pa_cons (pv 6) pa_nil))))) pss_nil)))))))
          (pss_one (ps_ret (pv 2))))))), ?_⟩
    obtain ⟨a, xs, rfl, hS, hA⟩ := tup_of hd
    have blt := rw_lt hb
    refine t_seq fun pA hpA => ⟨_, rfl, _, rfl, upd_same, [(Sum.inl (f : Int), V.int f)], rfl, (by show (1 : Nat) ≤ 15; decide), ?_⟩
    have e0 : upd (upd H pA (.dK [])) pA (.dK (mergeK [] [(Sum.inl (f : Int), V.int f)])) = upd H pA (.dK [(Sum.inl (f : Int), V.int f)]) := upd_upd
    rw [e0]
    have sA : Same H (upd H pA (.dK [(Sum.inl (f : Int), V.int f)])) := same_new hpA
    refine t_seq ⟨_, rfl, (by show (1 : Nat) ≤ sizeLine; rw [sizeLine_eq]; decide), fun pO hpO => ?_⟩
    have nAO : pA ≠ pO := fun z => by
      rw [← z, upd_same] at hpO
      cases hpO
    have hpO0 : H pO = none := by rw [← hpO, upd_ne (Ne.symm nAO)]
    have sO := sA.tr (same_new (o := .lst [V.int (f : Int)]) hpO)
    refine t_seq (t_seq ?_)
    refine while_by (fun σ H1 => ∃ (o : List Nat) (i : Nat) (kvs : List (Key × V)) (z5 z6 : Option V), σ = [some (.ref a), some (.int (f : Int)), some (.ref pA), some (.ref pO), some (.int (i : Int)), z5, z6] ∧ Same H H1 ∧ H1 pA = some (.dK kvs) ∧ H1 pO = some (.lst (nV o)) ∧ kvs.map (·.1) = keysN o ∧ Bfs rs f o i)
      (fun σ _ => match σ with
        | [_, _, _, _, some (.int i), _, _] => rs.length - i.toNat
        | _ => 0) ?_ ?_ ?_
    · refine ⟨[f], 0, _, none, none, rfl, sO, (upd_ne nAO).trans upd_same, upd_same, rfl, ⟨by simp, by simp, fun x hx => ?_, Nat.zero_le _, fun j x hj => absurd hj (Nat.not_lt_zero j)⟩⟩
      rw [List.mem_singleton] at hx
      subst hx
      exact .refl
    · rintro σ H1 ⟨o, i, kvs, z5, z6, rfl, s1, h1, h2, hk, B⟩
      refine ⟨_, rfl, _, rfl, pO, nV o, rfl, .inl (SqL.of h2), _, _, rfl, rfl, _, rfl, ?_⟩
      have el : decide ((i : Int) < ((nV o).length : Nat)) = decide (i < o.length) := by
        rw [List.length_map, Bool.eq_iff_iff, decide_eq_true_eq, decide_eq_true_eq]
        omega
      rw [el]
      by_cases hi : i < o.length
      case neg =>
        rw [decide_eq_false hi]
        refine iteF ?_
        dsimp only
        exact ⟨_, rfl, hq pA H1 kvs o s1 hpA h1 hk (B.met hi)⟩
      rw [decide_eq_true hi]
      have oi : o[i]? = some o[i] := List.getElem?_eq_getElem hi
      have om := List.getElem_mem hi
      have olt : o[i] < rs.length := Rch.lt blt hf (B.on _ om)
      have ri : rs[o[i]]? = some rs[o[i]] := List.getElem?_eq_getElem olt
      obtain ⟨t, hxt, hT⟩ := row_at hA ri
      have ovi : (nV o)[i]? = some (V.int (o[i] : Int)) := by rw [List.getElem?_map, oi]; rfl
      have hlo : ∀ o' : List Nat, o'.Nodup → (∀ x ∈ o', Rch (Rw rs) f x) → o'.length ≤ rs.length := fun o' nd on => met_len hf blt nd on
      refine iteT (t_seq ⟨_, rfl, _, rfl, ix_sq (.inl (SqL.of h2)) ovi (t_seq ⟨_, rfl, _, _, rfl, rfl, ?_⟩)⟩)
      dsimp only
      refine for_sqT (a := t) (xs := nV rs[o[i]]) (fun k σ H2 => ∃ (o' : List Nat) (kvs' : List (Key × V)) (z6 : Option V), σ = [some (.ref a), some (.int (f : Int)), some (.ref pA), some (.ref pO), some (.int ((i : Int) + 1)), some (.int (o[i] : Int)), z6] ∧ Same H H2 ∧
          H2 pA = some (.dK kvs') ∧ H2 pO = some (.lst (nV o')) ∧ kvs'.map (·.1) = keysN o' ∧ o'.Nodup ∧ (∃ t, o' = o ++ t) ∧ (∀ x ∈ o', Rch (Rw rs) f x) ∧ ∀ k' c, k' < k → rs[o[i]][k']? = some c → c ∈ o')
        ⟨o, kvs, z6, rfl, s1, h1, h2, hk, B.nd, ⟨[], (List.append_nil _).symm⟩, B.on, fun k' c hk' => absurd hk' (Nat.not_lt_zero k')⟩ (fun k σ H2 ⟨_, _, _, _, s2, _⟩ => sqt_same s2 hT) ?_ ?_ _ (fun R hR => ⟨_, rfl, _, rfl, ix_sq (.inr (sqt_same s1 hS)) hxt hR⟩)
      · rintro k x σ H2 hx ⟨o', kvs', z6, rfl, s2, g1, g2, gk, nd, ⟨tl, rfl⟩, on, dn⟩
        have hk2 : k < rs[o[i]].length := by
          have y := (List.getElem?_eq_some_iff.mp hx).1
          rw [List.length_map] at y
          exact y
        have rk : rs[o[i]][k]? = some rs[o[i]][k] := List.getElem?_eq_getElem hk2
        rw [List.getElem?_map, rk] at hx
        cases hx
        generalize ec : rs[o[i]][k] = c at rk ⊢
        have rc : Rw rs o[i] c := by
          show c ∈ rs.getD o[i] []
          rw [List.getD_eq_getElem?_getD, ri]
          exact List.mem_of_getElem? rk
        have hc : Rch (Rw rs) f c := .step (B.on _ om) rc
        have grow : ∀ o2 : List Nat, (∀ x ∈ o ++ tl, x ∈ o2) → c ∈ o2 → ∀ k' d, k' < k + 1 → rs[o[i]][k']? = some d → d ∈ o2 := fun o2 sub hc2 k' d hk' hd' => by
          by_cases e : k' = k
          · subst e
            rw [rk] at hd'
            cases hd'
            exact hc2
          · exact sub _ (dn k' d (by omega) hd')
        refine ⟨_, rfl, _, rfl, pA, _, rfl, DGet.k (k := Sum.inl (c : Int)) g1, _, rfl, ?_⟩
        by_cases hm : c ∈ o ++ tl
        · have q : (valV kvs' (Sum.inl (c : Int))).isSome = true := by
            rw [valV_isSome, gk, keysN_mem]
            exact hm
          rw [q]
          exact iteF ⟨_, _, _, rfl, s2, g1, g2, gk, nd, ⟨tl, rfl⟩, on, grow _ (fun _ h => h) hm⟩
        · have q0 : ¬ (valV kvs' (Sum.inl (c : Int))).isSome = true := by
            rw [valV_isSome, gk, keysN_mem]
            exact hm
          have qn : valV kvs' (Sum.inl (c : Int)) = none := by
            cases z : valV kvs' (Sum.inl (c : Int)) with
            | none => rfl
            | some v => rw [z] at q0; exact absurd rfl q0
          rw [qn]
          have ll := hlo _ nd on
          have kl : kvs'.length = (o ++ tl).length := by
            have y := congrArg List.length gk
            rw [List.length_map, List.length_map] at y
            exact y
          refine iteT ⟨_, rfl, _, rfl, _, rfl, pA, _, rfl, DPut.k (k := Sum.inl (c : Int)) g1 (by rw [sizeLine_eq]; omega), ?_⟩
          refine ⟨_, rfl, .inl ⟨rfl, _, SqL.of ((upd_ne (Ne.symm nAO)).trans g2)⟩, _, rfl, pO, _, _, rfl, rfl, (upd_ne (Ne.symm nAO)).trans g2, ?_, ?_⟩
          · rw [List.length_map, sizeLine_eq]
            omega
          refine ⟨(o ++ tl) ++ [c], putK kvs' (Sum.inl (c : Int)) (.int (o[i] : Int)), _, rfl, fun b u e => ?_, (upd_ne nAO).trans upd_same, ?_, ?_, ?_, ⟨tl ++ [c], by rw [List.append_assoc]⟩, ?_, ?_⟩
          · rw [upd_ne (ne_of_none e hpO0), upd_ne (ne_of_none e hpA)]
            exact s2 b u e
          · rw [upd_same]
            show some (HO.lst (nV (o ++ tl) ++ [V.int (c : Int)])) = some (HO.lst (nV ((o ++ tl) ++ [c])))
            rw [show nV ((o ++ tl) ++ [c]) = nV (o ++ tl) ++ [V.int (c : Int)] from List.map_append]
          · rw [putK_new _ qn, List.map_append, gk, show keysN ((o ++ tl) ++ [c]) = keysN (o ++ tl) ++ [Sum.inl (c : Int)] from List.map_append]
            rfl
          · rw [List.nodup_append]
            refine ⟨nd, by simp, fun x hx y hy => ?_⟩
            rw [List.mem_singleton] at hy
            subst hy
            rintro rfl
            exact hm hx
          · intro x hx
            rcases List.mem_append.mp hx with hx | hx
            · exact on x hx
            · rw [List.mem_singleton] at hx
              subst hx
              exact hc
          · exact grow _ (fun x hx => List.mem_append_left _ hx) (List.mem_append_right _ (List.mem_singleton.mpr rfl))
      · rintro σ H2 ⟨o', kvs', z6, rfl, s2, g1, g2, gk, nd, ⟨tl, rfl⟩, on, dn⟩
        have ll := hlo _ nd on
        refine ⟨⟨o ++ tl, i + 1, kvs', _, _, rfl, s2, g1, g2, gk, ⟨nd, List.mem_append_left _ B.fst, on, by rw [List.length_append]; omega, fun j x hj hx c hc => ?_⟩⟩, ?_⟩
        · have hjl : j < o.length := by omega
          rw [List.getElem?_append_left hjl] at hx
          by_cases e : j = i
          · subst e
            rw [oi] at hx
            cases hx
            have hc' : c ∈ rs.getD o[j] [] := hc
            rw [List.getD_eq_getElem?_getD, ri] at hc'
            obtain ⟨k', hk', rfl⟩ := List.mem_iff_getElem.mp (show c ∈ rs[o[j]] from hc')
            exact dn k' _ (by rw [List.length_map]; exact hk') (List.getElem?_eq_getElem hk')
          · exact List.mem_append_left _ (B.done j x (by omega) hx c hc)
        · show rs.length - ((i : Int) + 1).toNat < rs.length - (i : Int).toNat
          have : i < rs.length := by
            have y := hlo _ B.nd B.on
            omega
          omega
    · rintro σ H1 Q1 Q2 hQ ⟨x, hx, y, hy, p, ys, e, hs, i, j, ei, ej, k, ek, q⟩
      exact ⟨x, hx, y, hy, p, ys, e, hs, i, j, ei, ej, k, ek, hQ _ _ q⟩
theorem sc_reached_row : FnScope ["rows", "first"] ["rows", "first"] (defScope s_reached_row) := ⟨rfl, rfl, rfl, by decide +kernel, rfl, by decide +kernel, by decide +kernel⟩
theorem fk_reached_row (c : SaysS cfg.facts cfg.fn K) (T : EnvOk cfg K mg) : Fk P w K mg base 3 "reached_row" ["rows", "first"] (spReached K) := by
  obtain ⟨fd, hh⟩ := has_of c T 9 "reached_row" s_reached_row rfl
  refine Fk.of hh (hh.F.ok sc_reached_row (fun vs H Q E h => ?_) (fun cdv A outer s H vs Q E hr h => ?_)) (hh.F.bindsN fun _ _ _ _ _ _ us hl => match us, hl with | [_, _], _ => rfl)
  · obtain ⟨v, f, rs, rfl, _⟩ := h
    rfl
  · obtain ⟨v, f, rs, rfl, hd, hf, hb, hn, hq⟩ := h
    have mlist := T.free "list" (by decide)
    refine ⟨_, (pss_one (ps_ret (pe_callTy (call_list_dK rfl) (by rfl) mlist (by decide +kernel) (pa_cons (pe_f (fk__met_from c T) hr (by decide) (by rfl) passL (pa_cons (pv 0) (pa_cons (pv 1) pa_nil))) pa_nil)))), ?_⟩
    refine ⟨_, rfl, _, rfl, v, f, rs, rfl, hd, hf, hb, hn, fun p H1 kvs o s1 hp h1 hk hm => ⟨p, kvs, rfl, h1, fun q hq1 => ?_⟩⟩
    have hq0 : H q = none := by
      cases z : H q with
      | none => rfl
      | some u => rw [s1 _ _ z] at hq1; cases hq1
    refine hq q _ o (s1.tr (same_new hq1)) hq0 ?_ hm
    rw [upd_same]
    have e : (kvs.map fun kv => kV kv.1) = nV o := by
      have y := congrArg (List.map kV) hk
      rw [List.map_map, List.map_map] at y
      exact y
    rw [e]
theorem sc_hanging_parts : FnScope ["rows", "met", "parts", "first", "part", "number"] ["rows"] (defScope s_hanging_parts) := ⟨rfl, rfl, rfl, by decide +kernel, rfl, by decide +kernel, by decide +kernel⟩
theorem fk_hanging_parts (c : SaysS cfg.facts cfg.fn K) (T : EnvOk cfg K mg) : Fk P w K mg base 4 "hanging_parts" ["rows"] (spHanging K) := by
  obtain ⟨fd, hh⟩ := has_of c T 10 "hanging_parts" s_hanging_parts rfl
  refine Fk.of hh (hh.F.ok sc_hanging_parts (fun vs H Q E h => ?_) (fun cdv A outer s H vs Q E hr h => ?_)) (hh.F.bindsN fun _ _ _ _ _ _ us hl => match us, hl with | [_], _ => rfl)
  · obtain ⟨v, rs, rfl, _⟩ := h
    rfl
  · obtain ⟨v, rs, rfl, hd, hb, hs, hn, hq⟩ := h
    have mrange := T.free "range" (by decide)
    have mlen := T.free "len" (by decide)
    have msorted := T.free "sorted" (by decide)
    have mtuple := T.free "tuple" (by decide)
    have hu := hu_of hr
    refine ⟨_, (pss_cons (ps_set (i := 1) sc_hanging_parts.nd rfl (.inl rfl) pe_dnewK)
          (pss_cons (ps_set (i := 2) sc_hanging_parts.nd rfl (.inl rfl) (pe_lst pa_nil))
          (pss_cons (ps_for (passes_of rfl) rfl (pi_range1 (by rfl) mrange (pa_cons (pe_callB call_len_seq (by rfl) mlen PySem.boot_len (pa_cons (pv 0) pa_nil)) pa_nil)) (pg_name (i := 3) sc_hanging_parts.nd rfl (.inl rfl))
          (pss_one (ps_if (pt_cmp (pc_dnotin hu (pv 3) (pv 1))) (pss_cons (ps_set (i := 4) sc_hanging_parts.nd rfl (.inl rfl) (pe_callB cr_sortedI (by rfl) msorted (by decide +kernel) (pa_cons (pe_f (fk_reached_row c T) hr (by decide) (by rfl) passL (pa_cons (pv 0) (pa_cons (pv 3) pa_nil))) pa_nil)))
          (pss_cons (ps_expr (pe_bm PySem.F.plainAttrs_dict PySem.F.slot_dict_update PySem.F.type_dict_update mt_updateK (pv 1) (pa_cons (pe_dc (g := gName 5) (own := [("number", 5)]) rfl sc_hanging_parts.nd (pi_sq (pv 4)) (blkOk_by (N := ["rows", "met", "parts", "first", "part", "number"]) (sc := defScope s_hanging_parts) (by decide +kernel)) (fun s H C cl fp => (pg_name (i := 5) sc_hanging_parts.nd rfl (.inl rfl))) (fun s H C cl fp => pts_nil) (fun s H C cl fp => by exact (pv 5)) (fun s H C cl fp => by exact pe_bl)) pa_nil)))
          (pss_one (ps_expr (pe_bm PySem.F.plainAttrs_list PySem.F.slot_list_append PySem.F.type_list_append mt_append (pv 2) (pa_cons (pe_tupleOf (by rfl) mtuple (pv 4)) pa_nil)))))) pss_nil)))
          (pss_one (ps_ret (pe_tupleOf (by rfl) mtuple (pv 2))))))), ?_⟩
    obtain ⟨a, xs, rfl, hS, hA⟩ := tup_of hd
    have hxl : xs.length = rs.length := by rw [hA.len, List.length_map]
    have blt := rw_lt hb
    refine t_seq fun pM hpM => t_seq ⟨Nat.zero_le _, fun pP hpP => ?_⟩
    have nMP : pM ≠ pP := fun z => by
      rw [← z, upd_same] at hpP
      cases hpP
    have hpP0 : H pP = none := by rw [← hpP, upd_ne (Ne.symm nMP)]
    have s0 : Same H (upd (upd H pM (.dK [])) pP (.lst [])) := (same_new hpM).tr (same_new hpP)
    refine t_seq ⟨_, rfl, a, xs, rfl, .inr (sqt_same s0 hS), (xs.length : Nat), rfl, by omega, by omega, ?_⟩
    rw [show ((xs.length : Nat) : Int).toNat = rs.length by omega]
    refine for_range (lo := 0) (n := rs.length) (fun i σ H1 => ∃ (G : Hp) (kvs : List (Key × V)) (acc : List V) (z3 z4 : Option V), σ = [some (.ref a), some (.ref pM), some (.ref pP), z3, z4, none] ∧ G pM = none ∧ G pP = none ∧ Same H G ∧
        H1 = upd (upd G pM (.dK kvs)) pP (.lst acc) ∧ metTo i (Rw rs) (kvs.map (·.1)) ∧ kvs.length ≤ i * rs.length ∧ DpAll K G acc ((fstTo i (Rw rs)).map fun f => PyData.tuple (nI (hangOf rs.length (Rw rs) f)))) ?_ ?_ ?_
    · refine ⟨H, [], [], none, none, rfl, hpM, hpP0, Same.rfl', rfl, fun c => ⟨fun h => (by cases h), fun ⟨g, hg, _⟩ => absurd hg (Nat.not_lt_zero g)⟩, Nat.zero_le _, .nil⟩
    · rintro i σ H1 hi ⟨G, kvs, acc, z3, z4, rfl, gM, gP, sG, rfl, mt, kl, dA⟩
      have sG1 : ∀ x y, Same G (upd (upd G pM x) pP y) := fun x y => (same_new gM).tr (same_new ((upd_ne (Ne.symm nMP)).trans gP))
      have hM1 : (upd (upd G pM (.dK kvs)) pP (.lst acc)) pM = some (.dK kvs) := (upd_ne nMP).trans upd_same
      have hmul : i * rs.length ≤ 9000000 := Nat.mul_le_mul (show i ≤ 3000 by omega) hn
      refine ⟨_, rfl, _, rfl, pM, _, rfl, DGet.k (k := Sum.inl ((0 : Int) + (i : Nat))) hM1, _, rfl, ?_⟩
      rw [Int.zero_add]
      by_cases hm : ∀ g, g < i → ¬ Rch (Rw rs) g i
      case neg =>
        have q : (valV kvs (Sum.inl (i : Int))).isSome = true := by
          rw [valV_isSome, mt]
          exact Classical.byContradiction fun z => hm fun g hg hr => z ⟨g, hg, hr⟩
        rw [q]
        refine iteF ⟨G, kvs, acc, _, _, rfl, gM, gP, sG, rfl, fun c => ?_, Nat.le_trans kl (Nat.mul_le_mul_right _ (Nat.le_succ i)), ?_⟩
        · rw [mt]
          constructor
          · rintro ⟨g, hg, hr⟩
            exact ⟨g, by omega, hr⟩
          · rintro ⟨g, hg, hr⟩
            by_cases e : g = i
            · subst e
              have ⟨g2, hg2, hr2⟩ : ∃ g2, g2 < g ∧ Rch (Rw rs) g2 g := Classical.byContradiction fun z => hm fun g2 hg2 hr2 => z ⟨g2, hg2, hr2⟩
              exact ⟨g2, hg2, hr2.trans hr⟩
            · exact ⟨g, by omega, hr⟩
        · rw [fstTo_no hm]
          exact dA
      have q0 : ¬ (valV kvs (Sum.inl (i : Int))).isSome = true := by
        rw [valV_isSome, mt]
        rintro ⟨g, hg, hr⟩
        exact hm g hg hr
      have qn : valV kvs (Sum.inl (i : Int)) = none := by
        cases z : valV kvs (Sum.inl (i : Int)) with
        | none => rfl
        | some v => rw [z] at q0; exact absurd rfl q0
      rw [qn]
      refine iteT (t_seq ⟨_, rfl, _, rfl, .ref a, i, rs, rfl, .tup (sqt_same (sG.tr (sG1 _ _)) hS) (dpAll_same (sG.tr (sG1 _ _)) _ _ hA), hi, hb, hn, fun p H2 o s2 hp h2 hmo => ⟨p, o.map fun x : Nat => (x : Int), rfl, SqL.of (by rw [← nV_eq]; exact h2), fun ns' q pm ps' hq1 => ?_⟩⟩)
      have e1 := sorted_nat pm ps'
      subst e1
      have em : srt o = hangOf rs.length (Rw rs) i := hang_srt hmo.1 fun c => by
        rw [hmo.2]
        exact ⟨fun h => ⟨Rch.lt blt hi h, h⟩, fun h => h.2⟩
      rw [← nV_eq, em]
      have hol : (hangOf rs.length (Rw rs) i).length ≤ rs.length := by
        rw [← em]
        have y := met_len hi blt hmo.1 fun x hx => (hmo.2 x).mp hx
        rw [(srt_perm o).length_eq]
        exact y
      have s3 : Same (upd (upd G pM (.dK kvs)) pP (.lst acc)) (upd H2 q (.lst (nV (hangOf rs.length (Rw rs) i)))) := s2.tr (same_new hq1)
      generalize eh : hangOf rs.length (Rw rs) i = hh at s3 hol ⊢
      obtain ⟨G2, a2, b2, sg2, e2⟩ := core2 s3 nMP gM gP
      have hq3 : (upd H2 q (.lst (nV hh))) q = some (.lst (nV hh)) := upd_same
      have qM : q ≠ pM := fun z => by
        rw [z, s2 _ _ hM1] at hq1
        cases hq1
      have qP : q ≠ pP := fun z => by
        rw [z, s2 _ _ upd_same] at hq1
        cases hq1
      rw [e2] at hq3 ⊢
      have hq4 : G2 q = some (.lst (nV hh)) := by
        rw [upd_ne qP, upd_ne qM] at hq3
        exact hq3
      refine t_seq ⟨_, rfl, .inr (.inr (.inl ⟨rfl, .inl ⟨kvs, (upd_ne nMP).trans upd_same⟩⟩)), ?_⟩
      refine dc_sq (a := q) (xs := nV hh) (.inl (SqL.of hq3)) (fun k kv G3 => Same (upd (upd G2 pM (.dK kvs)) pP (.lst acc)) G3 ∧ kv.length ≤ k ∧ ∀ j, j ∈ kv.map (·.1) ↔ j ∈ keysN (hh.take k)) ⟨Same.rfl', Nat.le_refl _, fun j => Iff.rfl⟩ (fun _ _ _ r => r.1) ?_ ?_ _ (fun R hR => ⟨_, rfl, hR⟩)
      · rintro k x kv G3 D hx hG3 ⟨s4, ll, mm⟩
        have hk : k < hh.length := by
          have y := (List.getElem?_eq_some_iff.mp hx).1
          rw [List.length_map] at y
          exact y
        have hhk : hh[k]? = some hh[k] := List.getElem?_eq_getElem hk
        rw [List.getElem?_map, hhk] at hx
        cases hx
        refine ⟨rfl, t_yes (iteT ⟨_, rfl, dc_put (k := Sum.inl (hh[k] : Int)) hG3 (by rw [sizeLine_eq]; omega) ⟨s4, ?_, fun j => ?_⟩⟩)⟩
        · have y := length_putK kv (Sum.inl (hh[k] : Int)) (V.bl true)
          omega
        · rw [putK_keys, mm, List.take_add_one, hhk, show keysN (hh.take k ++ (some hh[k]).toList) = keysN (hh.take k) ++ [Sum.inl (hh[k] : Int)] from List.map_append, List.mem_append, List.mem_singleton]
      · rintro D kv G3 hG3 ⟨s4, ll, mm⟩
        rw [List.length_map] at ll mm
        rw [List.take_length] at mm
        have s5 : Same (upd (upd G2 pM (.dK kvs)) pP (.lst acc)) (upd G3 D (.dK kv)) := s4.tr (same_updD hG3)
        obtain ⟨G4, a4, b4, sg4, e4⟩ := core2 s5 nMP a2 b2
        have hD4 : (upd G3 D (.dK kv)) D = some (.dK kv) := upd_same
        have DM : D ≠ pM := fun z => by
          rw [z, s4 _ _ ((upd_ne nMP).trans upd_same)] at hG3
          cases hG3
        have DP : D ≠ pP := fun z => by
          rw [z, s4 _ _ upd_same] at hG3
          cases hG3
        rw [e4] at hD4 ⊢
        have hD5 : G4 D = some (.dK kv) := by
          rw [upd_ne DP, upd_ne DM] at hD4
          exact hD4
        have kl2 : kvs.length + kv.length ≤ sizeLine := by
          rw [sizeLine_eq]
          omega
        refine ⟨pM, D, kvs, kv, rfl, rfl, Ne.symm DM, (upd_ne nMP).trans upd_same, hD4, kl2, ?_⟩
        have eM : upd (upd (upd G4 pM (.dK kvs)) pP (.lst acc)) pM (.dK (mergeK kvs kv)) = upd (upd G4 pM (.dK (mergeK kvs kv))) pP (.lst acc) := by
          rw [upd_swap (Ne.symm nMP), upd_upd]
        rw [eM]
        have hq5 : G4 q = some (.lst (nV hh)) := sg4 _ _ hq4
        have hq6 : (upd (upd G4 pM (.dK (mergeK kvs kv))) pP (.lst acc)) q = some (.lst (nV hh)) := by
          rw [upd_ne qP, upd_ne qM]
          exact hq5
        refine ⟨_, rfl, .inl ⟨rfl, _, SqL.of upd_same⟩, _, rfl, kTup_sq (.inl (SqL.of hq6)) fun p5 H7 s7 hp5 => ?_⟩
        obtain ⟨G7, a7, b7, sg7, rfl⟩ := core2 s7 nMP a4 b4
        have al : acc.length ≤ i := by
          rw [dA.len, List.length_map]
          exact fstTo_len i _
        refine ⟨pP, acc, _, rfl, rfl, upd_same, by rw [sizeLine_eq]; omega, ?_⟩
        rw [upd_upd]
        have sAll : Same G G7 := (sg2.tr sg4).tr sg7
        refine ⟨G7, mergeK kvs kv, acc ++ [.ref p5], _, _, rfl, a7, b7, sG.tr sAll, rfl, fun c => ?_, ?_, ?_⟩
        · rw [merge_keys, mt, mm, keysN_mem, ← eh, hang_mem]
          constructor
          · rintro (⟨g, hg, hr⟩ | ⟨_, hr⟩)
            · exact ⟨g, by omega, hr⟩
            · exact ⟨i, by omega, hr⟩
          · rintro ⟨g, hg, hr⟩
            by_cases e : g = i
            · subst e
              exact .inr ⟨Rch.lt blt hi hr, hr⟩
            · exact .inl ⟨g, by omega, hr⟩
        · have y := length_mergeK kv kvs
          rw [Nat.add_mul, Nat.one_mul]
          omega
        · rw [fstTo_yes hm, List.map_append]
          refine dAll_snoc ?_ (dpAll_same sAll _ _ dA)
          show Dp K G7 (.ref p5) (.tuple (nI (hangOf rs.length (Rw rs) i)))
          rw [eh]
          exact .tup (dp_core2 hp5 (fun _ z => by cases z) (fun _ z => by cases z) (fun _ _ z => by cases z) (fun _ _ z => by cases z)) (dAll_nat hh)
    · rintro σ H1 ⟨G, kvs, acc, z3, z4, rfl, gM, gP, sG, rfl, mt, kl, dA⟩
      have sG1 : Same G (upd (upd G pM (.dK kvs)) pP (.lst acc)) := (same_new gM).tr (same_new ((upd_ne (Ne.symm nMP)).trans gP))
      dsimp only
      refine t_ret (t_thn ⟨_, rfl, kTup_sq (.inl (SqL.of upd_same)) fun p H5 s5 hp5 => ?_⟩)
      refine hq (.ref p) H5 ((sG.tr sG1).tr s5) (.tup hp5 ?_)
      have e : partsOf rs.length (Rw rs) = (fstTo rs.length (Rw rs)).map (hangOf rs.length (Rw rs)) := rfl
      rw [e, List.map_map]
      exact dpAll_same (sG1.tr s5) _ _ dA
end
end K01

namespace K01
open PySem PySem.Spec PyProof.Rows L2 Shf
section
variable {P : Program} {w : World} {K : PySem.W.Frag} {mg : PySem.Str → Option Value} {base : Heap}
theorem sc__chain_links : FnScope ["chains", "links", "kind", "row", "one", "other"] ["chains"] (defScope s__chain_links) := ⟨rfl, rfl, rfl, by decide +kernel, rfl, by decide +kernel, by decide +kernel⟩
theorem fk__chain_links (c : SaysS cfg.facts cfg.fn K) (T : EnvOk cfg K mg) : Fk P w K mg base 2 "_chain_links" ["chains"] (spCLinks K) := by
  obtain ⟨fd, hh⟩ := has_of c T 14 "_chain_links" s__chain_links rfl
  refine Fk.of hh (hh.F.ok sc__chain_links (fun vs H Q E h => ?_) (fun cdv A outer s H vs Q E hr h => ?_)) (hh.F.bindsN fun _ _ _ _ _ _ us hl => match us, hl with | [_], _ => rfl)
  · obtain ⟨v, cs, m, rfl, _⟩ := h
    rfl
  · obtain ⟨v, cs, m, rfl, hd, ok, hm, hl, hcl, hq⟩ := h
    have mzip := T.free "zip" (by decide)
    have mmax := T.free "max" (by decide)
    have mmin := T.free "min" (by decide)
    have mtuple := T.free "tuple" (by decide)
    have msorted := T.free "sorted" (by decide)
    have mset := T.free "set" (by decide)
    have hu := hr.units
    refine ⟨_, (pss_cons (ps_set (i := 1) sc__chain_links.nd rfl (.inl rfl) (pe_lst pa_nil))
          (pss_cons (ps_for (passes_of rfl) rfl (pi_sq (pv 0)) (pg_sq rfl (pgs_cons (pg_name (i := 2) sc__chain_links.nd rfl (.inl rfl)) (pgs_cons (pg_name (i := 3) sc__chain_links.nd rfl (.inl rfl)) pgs_nil)))
          (pss_cons (ps_expr (pe_bm PySem.F.plainAttrs_list PySem.F.slot_list_extend PySem.F.type_list_extend mt_extend (pv 1) (pa_cons (pe_lc (g := gSq K 2 (gCons (gName 4) (gCons (gName 5) gNil))) (te := (tTup (tCons _ (tCons _ tNil)))) (own := [("one", 4), ("other", 5)]) rfl sc__chain_links.nd (RZ.pi_zipA (by rfl) mzip (pa_cons (pv 3) (pa_cons (pe_slice sl_tup (pv 3) (po_some pe_int) po_none) pa_nil))) (blkOk_by (N := ["chains", "links", "kind", "row", "one", "other"]) (sc := defScope s__chain_links) (by decide +kernel)) (fun s H C cl fp => (pg_sq rfl (pgs_cons (pg_name (i := 4) sc__chain_links.nd rfl (.inl rfl)) (pgs_cons (pg_name (i := 5) sc__chain_links.nd rfl (.inl rfl)) pgs_nil)))) (fun s H C cl fp => pts_nil) (fun s H C cl fp => by exact (pe_tup (pa_cons (pe_callB (call_min2 rfl) (by rfl) mmin (by decide +kernel) (pa_cons (pv 4) (pa_cons (pv 5) pa_nil))) (pa_cons (pe_callB (call_max2 rfl) (by rfl) mmax (by decide +kernel) (pa_cons (pv 4) (pa_cons (pv 5) pa_nil))) pa_nil))))) pa_nil)))
          (pss_one (ps_if (pt_cmpR op_eq (pv 2) pe_str (nomark _)) (pss_one (ps_expr (pe_bm PySem.F.plainAttrs_list PySem.F.slot_list_append PySem.F.type_list_append mt_append (pv 1) (pa_cons (pe_tup (pa_cons (pe_callB (call_min2 rfl) (by rfl) mmin (by decide +kernel) (pa_cons (pe_ix ix_seq (pv 3) pe_int (fun _ _ => rfl)) (pa_cons (pe_ix ix_seq (pv 3) (pe_un un_neg pe_int) (fun _ _ => rfl)) pa_nil))) (pa_cons (pe_callB (call_max2 rfl) (by rfl) mmax (by decide +kernel) (pa_cons (pe_ix ix_seq (pv 3) pe_int (fun _ _ => rfl)) (pa_cons (pe_ix ix_seq (pv 3) (pe_un un_neg pe_int) (fun _ _ => rfl)) pa_nil))) pa_nil))) pa_nil)))) pss_nil))))
          (pss_one (ps_ret (pe_tupleOf (by rfl) mtuple (pe_callB (cr_sortedT rfl) (by rfl) msorted (by decide +kernel) (pa_cons (pe_callTy (cr_setOfT rfl hu) (by rfl) mset (by decide +kernel) (pa_cons (pv 1) pa_nil)) pa_nil))))))), ?_⟩
    obtain ⟨a, xs, rfl, hS, hA⟩ := tup_of hd
    have hxl : xs.length = cs.length := by rw [hA.len, List.length_map]
    have b64 : ∀ p ∈ lks cs, p.1 < 64 ∧ p.2 < 64 := fun p hp => by
      have y := lks_lt ok p hp
      omega
    refine t_seq ⟨Nat.zero_le _, fun pL hpL => ?_⟩
    dsimp only
    refine t_seq ?_
    refine for_sqT (a := a) (xs := xs) (fun i σ H1 => ∃ (G : Hp) (acc : List V) (z2 z3 : Option V), σ = [some (.ref a), some (.ref pL), z2, z3, none, none] ∧ G pL = none ∧ Same H G ∧ H1 = upd G pL (.lst acc) ∧ DpAll K G acc ((lks (cs.take i)).map Shf.prD))
      ⟨H, [], none, none, rfl, hpL, Same.rfl', rfl, .nil⟩ ?_ ?_ ?_ _ (fun R hR => ⟨_, rfl, hR⟩)
    · rintro i σ H1 ⟨G, acc, z2, z3, rfl, gL, sG, rfl, dA⟩
      exact sqt_same (sG.tr (same_new gL)) hS
    · rintro i x σ H1 hx ⟨G, acc, z2, z3, rfl, gL, sG, rfl, dA⟩
      obtain ⟨dz, hdz, hpz⟩ := hA.at hx
      have hi : i < cs.length := by
        have y := (List.getElem?_eq_some_iff.mp hdz).1
        rw [List.length_map] at y
        exact y
      have ci : cs[i]? = some cs[i] := List.getElem?_eq_getElem hi
      rw [List.getElem?_map, ci] at hdz
      cases hdz
      have ok1 := ok _ (List.getElem_mem hi)
      have etake : lks (cs.take (i + 1)) = lks (cs.take i) ++ clk cs[i] := by
        unfold lks
        rw [List.take_add_one, ci, List.flatMap_append]
        show _ ++ (clk cs[i] ++ []) = _
        rw [List.append_nil]
      have elen : (lks (cs.take i)).length + (clk cs[i]).length ≤ (lks cs).length := by
        rw [← List.length_append, ← etake]
        have e : lks cs = lks (cs.take (i + 1)) ++ lks (cs.drop (i + 1)) := by
          unfold lks
          rw [← List.flatMap_append, List.take_append_drop]
        rw [e, List.length_append]
        omega
      have alen : acc.length = (lks (cs.take i)).length := by rw [dA.len, List.length_map]
      have s1 : Same H (upd G pL (.lst acc)) := sG.tr (same_new gL)
      obtain ⟨t, r, rfl, hT, hR⟩ := chain_of (dp_same s1 _ _ hpz)
      generalize cs[i] = c at hT hR ok1 etake elen ⊢
      refine ⟨t, _, rfl, .inr hT, rfl, _, _, rfl, _, _, rfl, rfl, ?_⟩
      refine t_seq ⟨_, rfl, .inl ⟨rfl, _, SqL.of upd_same⟩, ?_⟩
      have row1 : 1 ≤ (nV c.2).length := by
        rw [List.length_map]
        exact ok1.ne
      refine ⟨_, rfl, _, rfl, _, rfl, r, nV c.2, rfl, hR, not_whole row1, fun q hq => ⟨r, q, nV c.2, (nV c.2).tail, rfl, .inr ⟨sqt_same (same_new hq) hR, ?_, fun D hD => ?_⟩⟩⟩
      · rw [cut_tail]
        exact SqT.of upd_same
      rw [cut_tail] at hD ⊢
      have sq : Same (upd G pL (.lst acc)) (upd (upd G pL (.lst acc)) q (.tup (nV c.2).tail)) := same_new hq
      refine lc_w (walk_zipT (n := min (nV c.2).length (nV c.2).tail.length) rfl) (fun k acc' G' => Same (upd (upd G pL (.lst acc)) q (.tup (nV c.2).tail)) G' ∧ DpAll K G' acc' ((((side c.2).map ord2).take k).map Shf.prD)) hD ⟨Same.rfl', .nil⟩ ?_ ?_ ?_
      · rintro k acc' G' _ hG' ⟨s3, _⟩
        have s4 := s3.tr (same_upd (o := .lst acc') hG')
        exact ⟨sqt_same (sq.tr s4) hR, sqt_same s4 (SqT.of upd_same)⟩
      · rintro k z acc' G' H' hk hG' ⟨s3, dA'⟩ ⟨T2, x, y, rfl, hT2, rfl, hx2, hy2⟩
        replace hx2 : (nV c.2)[k]? = some x := hx2
        replace hy2 : (nV c.2).tail[k]? = some y := hy2
        rw [List.getElem?_map] at hx2
        rw [List.getElem?_tail, List.getElem?_map] at hy2
        cases e1 : c.2[k]? with
        | none => rw [e1] at hx2; cases hx2
        | some x0 =>
        cases e2 : c.2[k + 1]? with
        | none => rw [e2] at hy2; cases hy2
        | some y0 =>
        rw [e1] at hx2
        rw [e2] at hy2
        cases hx2
        cases hy2
        refine ⟨T2, _, rfl, .inr (SqT.of upd_same), rfl, _, _, rfl, _, _, rfl, rfl, rfl, t_yes (iteT (t_tup2 (t_cb2 (t_var rfl (t_var rfl ⟨_, _, rfl, t_cb2 (t_var rfl (t_var rfl ⟨_, _, rfl, two_le, fun q5 hq5 => ?_⟩))⟩)))))⟩
        rw [min_nat, max_nat]
        have s5 := (same_new (o := HO.tup [V.int (x0 : Int), V.int (y0 : Int)]) hT2).tr (same_new (o := .tup [V.int ((min x0 y0 : Nat) : Int), V.int ((max x0 y0 : Nat) : Int)]) hq5)
        have hq6 : SqT K (upd (upd (upd G' D (.lst acc')) T2 (.tup [V.int (x0 : Int), V.int (y0 : Int)])) q5 (.tup [V.int ((min x0 y0 : Nat) : Int), V.int ((max x0 y0 : Nat) : Int)])) q5 [V.int ((min x0 y0 : Nat) : Int), V.int ((max x0 y0 : Nat) : Int)] := SqT.of upd_same
        obtain ⟨G2, g2, sg2, e⟩ := core_of s5 hG'
        rw [e] at hq6 ⊢
        have al := dA'.len
        rw [List.length_map, List.length_take, List.length_map, side_len] at al
        have hlk : (clk c).length ≤ 63 := by omega
        have hsl : (side c.2).length ≤ 63 := by
          have y := hlk
          unfold clk at y
          rw [List.length_append, List.length_map] at y
          omega
        rw [side_len] at hsl
        refine lc_put g2 (by rw [sizeLine_eq]; omega) ⟨s3.tr sg2, ?_⟩
        rw [List.take_add_one, List.getElem?_map, side_at e1 e2, List.map_append]
        exact dAll_snoc (.tup (xs := [V.int ((min x0 y0 : Nat) : Int), V.int ((max x0 y0 : Nat) : Int)]) (sqt_core hq6) (.cons (.int _) (.cons (.int _) .nil))) (dpAll_same sg2 _ _ dA')
      · rintro acc' G' hG' ⟨s3, dA'⟩
        rw [List.take_of_length_le (by rw [List.length_map, side_len]; simp)] at dA'
        have s4 : Same (upd G pL (.lst acc)) (upd G' D (.lst acc')) := sq.tr (s3.tr (same_upd hG'))
        have hD4 : (upd G' D (.lst acc')) D = some (.lst acc') := upd_same
        have dB : DpAll K (upd G' D (.lst acc')) acc' (((side c.2).map ord2).map Shf.prD) := dpAll_same (same_upd hG') _ _ dA'
        obtain ⟨G3, g3, sg3, e⟩ := core_of s4 gL
        rw [e] at hD4 dB ⊢
        have al' : acc'.length = (side c.2).length := by rw [dA'.len, List.length_map, List.length_map]
        have hcl : (side c.2).length ≤ (clk c).length := by
          unfold clk
          rw [List.length_append, List.length_map]
          omega
        refine ⟨pL, D, acc, acc', rfl, rfl, upd_same, hD4, by rw [sizeLine_eq]; omega, ?_⟩
        rw [upd_upd]
        have dC : DpAll K G3 (acc ++ acc') ((lks (cs.take i)).map Shf.prD ++ ((side c.2).map ord2).map Shf.prD) := dAll_app (dpAll_same sg3 _ _ dA) (dAll_core dB)
        have s6 : Same H G3 := sG.tr sg3
        have hR3 : SqT K (upd G3 pL (.lst (acc ++ acc'))) r (nV c.2) := by
          have y := sqt_core (sqt_same s4 hR |> fun z => (by rw [e] at z; exact z))
          exact sqt_same (same_new g3) y
        refine ⟨_, rfl, rfl, _, rfl, ?_⟩
        by_cases hc : c.1 = true
        · rw [if_pos hc]
          refine iteT ⟨_, rfl, .inl ⟨rfl, _, SqL.of upd_same⟩, ?_⟩
          refine t_tup2 (t_cb2 ⟨_, rfl, ix_sq (j := 0) (.inr hR3) (at_head ok1.ne) ⟨_, rfl, _, rfl, ix_last hR3 ok1.ne ⟨_, _, rfl, t_cb2 ⟨_, rfl, ix_sq (j := 0) (.inr hR3) (at_head ok1.ne) ⟨_, rfl, _, rfl, ix_last hR3 ok1.ne ⟨_, _, rfl, two_le, fun q5 hq5 => ?_⟩⟩⟩⟩⟩⟩)
          rw [min_nat, max_nat]
          have hq6 : SqT K (upd (upd G3 pL (.lst (acc ++ acc'))) q5 (.tup [V.int ((min (c.2.headD 0) (c.2.getLastD 0) : Nat) : Int), V.int ((max (c.2.headD 0) (c.2.getLastD 0) : Nat) : Int)])) q5 [V.int ((min (c.2.headD 0) (c.2.getLastD 0) : Nat) : Int), V.int ((max (c.2.headD 0) (c.2.getLastD 0) : Nat) : Int)] := SqT.of upd_same
          obtain ⟨G4, g4, sg4, e4⟩ := core_of (same_new hq5) g3
          rw [e4] at hq6 ⊢
          refine ⟨pL, acc ++ acc', _, rfl, rfl, upd_same, by rw [List.length_append, sizeLine_eq]; omega, ?_⟩
          rw [upd_upd]
          refine ⟨G4, _, _, _, rfl, g4, s6.tr sg4, rfl, ?_⟩
          rw [etake]
          have ec : clk c = (side c.2).map ord2 ++ [ord2 (c.2.headD 0, c.2.getLastD 0)] := by
            unfold clk
            rw [if_pos hc]
          rw [ec, List.map_append, List.map_append, ← List.append_assoc]
          exact dAll_snoc (.tup (xs := [V.int ((min (c.2.headD 0) (c.2.getLastD 0) : Nat) : Int), V.int ((max (c.2.headD 0) (c.2.getLastD 0) : Nat) : Int)]) (sqt_core hq6) (.cons (.int _) (.cons (.int _) .nil))) (dpAll_same sg4 _ _ dC)
        · rw [if_neg hc]
          refine iteF ⟨G3, _, _, _, rfl, g3, s6, rfl, ?_⟩
          rw [etake]
          have ec : clk c = (side c.2).map ord2 := by
            unfold clk
            rw [if_neg hc, List.append_nil]
          rw [ec, List.map_append]
          exact dC
    · rintro σ H1 ⟨G, acc, z2, z3, rfl, gL, sG, rfl, dA⟩
      rw [hxl, List.take_length] at dA
      dsimp only
      refine t_ret (t_thn (t_cb1 ⟨_, rfl, sorted_set (SqL.of upd_same) (dpAll_same (same_new gL) _ _ dA) b64 hl fun p vs' H' s5 hp hv dv => ?_⟩))
      refine kTup_sq (.inl (SqL.of hv)) fun q H6 s6 hq6 => ?_
      exact hq (.ref q) H6 (((sG.tr (same_new gL)).tr s5).tr s6) (.tup hq6 (dpAll_same s6 _ _ dv))
theorem sc_shelf_links : FnScope ["shelf"] ["shelf"] (defScope s_shelf_links) := ⟨rfl, rfl, rfl, by decide +kernel, rfl, by decide +kernel, by decide +kernel⟩
theorem fk_shelf_links (c : SaysS cfg.facts cfg.fn K) (T : EnvOk cfg K mg) : Fk P w K mg base 8 "shelf_links" ["shelf"] (spShR K limS fun _ cs => lkD (sdL (lks cs))) := by
  obtain ⟨fd, hh⟩ := has_of c T 13 "shelf_links" s_shelf_links rfl
  refine Fk.of hh (hh.F.ok sc_shelf_links (fun vs H Q E h => ?_) (fun cdv A outer s H vs Q E hr h => ?_)) (hh.F.bindsN fun _ _ _ _ _ _ us hl => match us, hl with | [_], _ => rfl)
  · obtain ⟨v, d, rfl, _⟩ := h
    rfl
  · obtain ⟨v, d, rfl, hd, hk, h⟩ := h
    refine ⟨_, (pss_one (ps_ret (pe_f (fk__chain_links c T) hr (by decide) (by rfl) passL (pa_cons (pe_ix ix_seq (pe_f ((fk_need_shelf c T).imp need_shelf_R) hr (by decide) (by rfl) (passes_call (takes_of rfl rfl rfl rfl) (fun _ _ _ _ h => h)) (pa_cons (pv 0) pa_nil)) pe_int (fun _ _ => rfl)) pa_nil)))), ?_⟩
    refine ⟨_, rfl, ?_⟩
    rcases h with ⟨x, hb, he⟩ | ⟨n, cs, ho, hl, hq⟩
    · exact ⟨v, d, rfl, hd, hk, .inl ⟨x, hb, he⟩⟩
    refine ⟨v, d, rfl, hd, hk, .inr ⟨n, cs, ho, trivial, fun r H1 s1 hr => ?_⟩⟩
    obtain ⟨f1, f2, f3, f4⟩ := ho.facts
    obtain ⟨a, x, y, rfl, hT, hx, hy⟩ := pair2_of hr
    refine ix_sq (j := 1) (.inr hT) rfl ⟨y, cs, n, rfl, hy, f4, hl.1, hl.2, f3, fun r H' s2 h2 => hq r H' (s1.tr s2) h2⟩
theorem sc_linked_cells : FnScope ["shelf", "cells", "chains"] ["shelf"] (defScope s_linked_cells) := ⟨rfl, rfl, rfl, by decide +kernel, rfl, by decide +kernel, by decide +kernel⟩
theorem fk_linked_cells (c : SaysS cfg.facts cfg.fn K) (T : EnvOk cfg K mg) : Fk P w K mg base 8 "linked_cells" ["shelf"] (spShR K limS fun n cs => rwD (rowsOf n (sdL (lks cs)))) := by
  obtain ⟨fd, hh⟩ := has_of c T 15 "linked_cells" s_linked_cells rfl
  refine Fk.of hh (hh.F.ok sc_linked_cells (fun vs H Q E h => ?_) (fun cdv A outer s H vs Q E hr h => ?_)) (hh.F.bindsN fun _ _ _ _ _ _ us hl => match us, hl with | [_], _ => rfl)
  · obtain ⟨v, d, rfl, _⟩ := h
    rfl
  · obtain ⟨v, d, rfl, hd, hk, h⟩ := h
    refine ⟨_, (pss_cons (ps_asg (pe_f ((fk_need_shelf c T).imp need_shelf_R) hr (by decide) (by rfl) (passes_call (takes_of rfl rfl rfl rfl) (fun _ _ _ _ h => h)) (pa_cons (pv 0) pa_nil)) (pg_sq rfl (pgs_cons (pg_name (i := 1) sc_linked_cells.nd rfl (.inl rfl)) (pgs_cons (pg_name (i := 2) sc_linked_cells.nd rfl (.inl rfl)) pgs_nil))))
          (pss_one (ps_ret (pe_f (fk_linked_rows c T) hr (by decide) (by rfl) passL (pa_cons (pv 1) (pa_cons (pe_f (fk__chain_links c T) hr (by decide) (by rfl) passL (pa_cons (pv 2) pa_nil)) pa_nil)))))), ?_⟩
    refine t_seq ⟨_, rfl, ?_⟩
    rcases h with ⟨x, hb, he⟩ | ⟨n, cs, ho, hl, hq⟩
    · exact ⟨v, d, rfl, hd, hk, .inl ⟨x, hb, he⟩⟩
    refine ⟨v, d, rfl, hd, hk, .inr ⟨n, cs, ho, trivial, fun r H1 s1 hr => ?_⟩⟩
    obtain ⟨f1, f2, f3, f4⟩ := ho.facts
    obtain ⟨a, x, y, rfl, hT, hx, hy⟩ := pair2_of hr
    obtain rfl : x = .int (n : Int) := by
      cases hx
      rfl
    have b64 : ∀ p ∈ lks cs, p.1 < 64 ∧ p.2 < 64 := fun p hp => by
      have y := lks_lt f4 p hp
      have := hl.1
      omega
    refine ⟨a, _, rfl, .inr hT, rfl, _, _, rfl, _, _, rfl, rfl, ?_⟩
    refine ⟨_, rfl, _, rfl, y, cs, n, rfl, hy, f4, hl.1, hl.2, f3, fun r2 H2 s2 h2 => ⟨n, r2, sdL (lks cs), rfl, h2, fun p hp => ?_, by omega, ?_, fun r H' s3 h3 => hq r H' ((s1.tr s2).tr s3) h3⟩⟩
    · have y := lks_lt f4 p ((sd_mem b64).mp hp)
      exact ⟨y.1, y.2.1⟩
    · have y := sd_len (lks cs)
      have := hl.2
      omega
theorem sc_cell_parts : FnScope ["shelf"] ["shelf"] (defScope s_cell_parts) := ⟨rfl, rfl, rfl, by decide +kernel, rfl, by decide +kernel, by decide +kernel⟩
theorem fk_cell_parts (c : SaysS cfg.facts cfg.fn K) (T : EnvOk cfg K mg) : Fk P w K mg base 9 "cell_parts" ["shelf"] (spShR K limS fun n cs => rwD (partsOf n (Lk (lks cs)))) := by
  obtain ⟨fd, hh⟩ := has_of c T 16 "cell_parts" s_cell_parts rfl
  refine Fk.of hh (hh.F.ok sc_cell_parts (fun vs H Q E h => ?_) (fun cdv A outer s H vs Q E hr h => ?_)) (hh.F.bindsN fun _ _ _ _ _ _ us hl => match us, hl with | [_], _ => rfl)
  · obtain ⟨v, d, rfl, _⟩ := h
    rfl
  · obtain ⟨v, d, rfl, hd, hk, h⟩ := h
    refine ⟨_, (pss_one (ps_ret (pe_f (fk_hanging_parts c T) hr (by decide) (by rfl) passL (pa_cons (pe_f (fk_linked_cells c T) hr (by decide) (by rfl) (passes_call (takes_of rfl rfl rfl rfl) (fun _ _ _ _ h => h)) (pa_cons (pv 0) pa_nil)) pa_nil)))), ?_⟩
    refine ⟨_, rfl, ?_⟩
    rcases h with ⟨x, hb, he⟩ | ⟨n, cs, ho, hl, hq⟩
    · exact ⟨v, d, rfl, hd, hk, .inl ⟨x, hb, he⟩⟩
    refine ⟨v, d, rfl, hd, hk, .inr ⟨n, cs, ho, hl, fun r H1 s1 hr => ?_⟩⟩
    obtain ⟨f1, f2, f3, f4⟩ := ho.facts
    have b64 : ∀ p ∈ lks cs, p.1 < 64 ∧ p.2 < 64 := fun p hp => by
      have y := lks_lt f4 p hp
      have := hl.1
      omega
    have bn : ∀ p ∈ sdL (lks cs), p.1 < n ∧ p.2 < n := fun p hp => by
      have y := lks_lt f4 p ((sd_mem b64).mp hp)
      exact ⟨y.1, y.2.1⟩
    have eE : ∀ a b, Rw (rowsOf n (sdL (lks cs))) a b ↔ Lk (lks cs) a b := fun a b => by
      rw [rowsOf_rw bn]
      unfold Lk
      rw [sd_mem b64, sd_mem b64]
    refine ⟨r, rowsOf n (sdL (lks cs)), rfl, hr, fun q hq x hx => ?_, fun a b h => (eE _ _).mpr (Lk.symm _ _ ((eE _ _).mp h)), by rw [rowsOf_len]; omega, fun r2 H2 s2 h2 => hq r2 H2 (s1.tr s2) ?_⟩
    · rw [rowsOf_len]
      obtain ⟨i, hi, rfl⟩ := List.mem_iff_getElem.mp hq
      have y : Rw (rowsOf n (sdL (lks cs))) i x := by
        unfold Rw
        rw [List.getD_eq_getElem?_getD, List.getElem?_eq_getElem hi]
        exact hx
      have z := (rowsOf_rw bn i x).mp y
      rcases z with z | z
      · exact (bn _ z).2
      · exact (bn _ z).1
    · rw [rowsOf_len, parts_congr eE] at h2
      exact h2
theorem sc_list_shelf : FnScope ["cells"] ["cells"] (defScope s_list_shelf) := ⟨rfl, rfl, rfl, by decide +kernel, rfl, by decide +kernel, by decide +kernel⟩
theorem fk_list_shelf (c : SaysS cfg.facts cfg.fn K) (T : EnvOk cfg K mg) : Fk P w K mg base 5 "list_shelf" ["cells"] (spWhole K 1 false) := by
  obtain ⟨fd, hh⟩ := has_of c T 17 "list_shelf" s_list_shelf rfl
  refine Fk.of hh (hh.F.ok sc_list_shelf (fun vs H Q E h => ?_) (fun cdv A outer s H vs Q E hr h => ?_)) (hh.F.bindsN fun _ _ _ _ _ _ us hl => match us, hl with | [_], _ => rfl)
  · obtain ⟨v, d, rfl, _⟩ := h
    rfl
  · obtain ⟨v, d, rfl, hd, he, hq⟩ := h
    have mrange := T.free "range" (by decide)
    have mtuple := T.free "tuple" (by decide)
    obtain ⟨tMOST_CELLS, iMOST_CELLS⟩ := T.int ("MOST_CELLS", 200) (by decide)
    refine ⟨_, (pss_cons (ps_expr (pe_f (fk_need_size c T) hr (by decide) (by rfl) (passes_call (takes_of rfl rfl rfl rfl) (fun _ _ _ _ h => h)) (pa_cons (pv 0) (pa_cons pe_int (pa_cons (pe_glob (v := .int 200) (by rfl) iMOST_CELLS ⟨tMOST_CELLS, rfl⟩) (pa_cons pe_str pa_nil))))))
          (pss_one (ps_ret (pe_tup (pa_cons (pv 0) (pa_cons (pe_tup (pa_cons (pe_tup (pa_cons pe_str (pa_cons (pe_tupRg rfl (by rfl) mtuple (prg_1 (by rfl) mrange (pv 0))) pa_nil))) pa_nil)) pa_nil)))))), ?_⟩
    refine t_seq ⟨_, rfl, v, d, _, _, _, rfl, hd, fun h => ?_, he⟩
    obtain ⟨n, rfl, h1, h2⟩ := in_nat (lo := 1) (hi := 200) h
    obtain rfl : v = .int (n : Int) := by
      cases hd
      rfl
    dsimp only
    refine ⟨_, rfl, _, rfl, n, rfl, RgOk.of_le (by omega) (by omega) (by omega) (by omega), fun p hp => ⟨two_le, fun q1 hq1 => ⟨(by show (1 : Nat) ≤ sizeLine; rw [sizeLine_eq]; decide), fun q2 hq2 => ⟨two_le, fun q3 hq3 => ?_⟩⟩⟩⟩
    have s1 := same_new (o := HO.tup (rgV 0 (n : Int))) hp
    have s2 := same_new (o := HO.tup [V.str "list", V.ref p]) hq1
    have s3 := same_new (o := HO.tup [V.ref q1]) hq2
    have s4 := same_new (o := HO.tup [V.int (n : Int), V.ref q2]) hq3
    refine hq n rfl h (.ref q3) _ (((s1.tr s2).tr s3).tr s4) ?_
    refine .tup (SqT.of upd_same) (.cons (.int _) (.cons (.tup (xs := [.ref q1]) (sqt_same s4 (SqT.of upd_same)) (.cons ?_ .nil)) .nil))
    refine .tup (xs := [.str "list", .ref p]) (sqt_same (s3.tr s4) (SqT.of upd_same)) (.cons (.str _) (.cons ?_ .nil))
    refine .tup (xs := nV (List.range n)) (sqt_same ((s2.tr s3).tr s4) ?_) (dAll_nat _)
    rw [← rgV_nat]
    exact SqT.of upd_same
theorem sc_ring_shelf : FnScope ["cells"] ["cells"] (defScope s_ring_shelf) := ⟨rfl, rfl, rfl, by decide +kernel, rfl, by decide +kernel, by decide +kernel⟩
theorem fk_ring_shelf (c : SaysS cfg.facts cfg.fn K) (T : EnvOk cfg K mg) : Fk P w K mg base 5 "ring_shelf" ["cells"] (spWhole K 3 true) := by
  obtain ⟨fd, hh⟩ := has_of c T 18 "ring_shelf" s_ring_shelf rfl
  refine Fk.of hh (hh.F.ok sc_ring_shelf (fun vs H Q E h => ?_) (fun cdv A outer s H vs Q E hr h => ?_)) (hh.F.bindsN fun _ _ _ _ _ _ us hl => match us, hl with | [_], _ => rfl)
  · obtain ⟨v, d, rfl, _⟩ := h
    rfl
  · obtain ⟨v, d, rfl, hd, he, hq⟩ := h
    have mrange := T.free "range" (by decide)
    have mtuple := T.free "tuple" (by decide)
    obtain ⟨tMOST_CELLS, iMOST_CELLS⟩ := T.int ("MOST_CELLS", 200) (by decide)
    refine ⟨_, (pss_cons (ps_expr (pe_f (fk_need_size c T) hr (by decide) (by rfl) (passes_call (takes_of rfl rfl rfl rfl) (fun _ _ _ _ h => h)) (pa_cons (pv 0) (pa_cons pe_int (pa_cons (pe_glob (v := .int 200) (by rfl) iMOST_CELLS ⟨tMOST_CELLS, rfl⟩) (pa_cons pe_str pa_nil))))))
          (pss_one (ps_ret (pe_tup (pa_cons (pv 0) (pa_cons (pe_tup (pa_cons (pe_tup (pa_cons pe_str (pa_cons (pe_tupRg rfl (by rfl) mtuple (prg_1 (by rfl) mrange (pv 0))) pa_nil))) pa_nil)) pa_nil)))))), ?_⟩
    refine t_seq ⟨_, rfl, v, d, _, _, _, rfl, hd, fun h => ?_, he⟩
    obtain ⟨n, rfl, h1, h2⟩ := in_nat (lo := 3) (hi := 200) h
    obtain rfl : v = .int (n : Int) := by
      cases hd
      rfl
    dsimp only
    refine ⟨_, rfl, _, rfl, n, rfl, RgOk.of_le (by omega) (by omega) (by omega) (by omega), fun p hp => ⟨two_le, fun q1 hq1 => ⟨(by show (1 : Nat) ≤ sizeLine; rw [sizeLine_eq]; decide), fun q2 hq2 => ⟨two_le, fun q3 hq3 => ?_⟩⟩⟩⟩
    have s1 := same_new (o := HO.tup (rgV 0 (n : Int))) hp
    have s2 := same_new (o := HO.tup [V.str "ring", V.ref p]) hq1
    have s3 := same_new (o := HO.tup [V.ref q1]) hq2
    have s4 := same_new (o := HO.tup [V.int (n : Int), V.ref q2]) hq3
    refine hq n rfl h (.ref q3) _ (((s1.tr s2).tr s3).tr s4) ?_
    refine .tup (SqT.of upd_same) (.cons (.int _) (.cons (.tup (xs := [.ref q1]) (sqt_same s4 (SqT.of upd_same)) (.cons ?_ .nil)) .nil))
    refine .tup (xs := [.str "ring", .ref p]) (sqt_same (s3.tr s4) (SqT.of upd_same)) (.cons (.str _) (.cons ?_ .nil))
    refine .tup (xs := nV (List.range n)) (sqt_same ((s2.tr s3).tr s4) ?_) (dAll_nat _)
    rw [← rgV_nat]
    exact SqT.of upd_same
end
end K01

namespace K01
open PySem PySem.Spec PyProof.Rows L2 Shf
section
variable {P : Program} {w : World} {K : PySem.W.Frag} {mg : PySem.Str → Option Value} {base : Heap}
theorem sc__law_shelf : FnScope ["_law_box_here", "_law_most", "_law_cells", "_law_chains", "_law_turn", "_law_row"] ["_law_box_here", "_law_most"] (defScope s__law_shelf) := ⟨rfl, rfl, rfl, by decide +kernel, rfl, by decide +kernel, by decide +kernel⟩
theorem fk__law_shelf (c : SaysS cfg.facts cfg.fn K) (T : EnvOk cfg K mg) : Fk P w K mg base 4 "_law_shelf" ["_law_box_here", "_law_most"] (spLawShelf K) := by
  obtain ⟨fd, hh⟩ := has_of c T 23 "_law_shelf" s__law_shelf rfl
  refine Fk.of hh (hh.F.ok sc__law_shelf (fun vs H Q E h => ?_) (fun cdv A outer s H vs Q E hr h => ?_)) (hh.F.bindsN fun _ _ _ _ _ _ us hl => match us, hl with | [_, _], _ => rfl)
  · obtain ⟨a, m, N, rfl, _⟩ := h
    rfl
  · obtain ⟨a, m, N, rfl, hB, hN, hm1, hm2, hq⟩ := h
    have mrange := T.free "range" (by decide)
    have mlist := T.free "list" (by decide)
    have mtuple := T.free "tuple" (by decide)
    have mint := T.free "int" (by decide)
    have mlen := T.free "len" (by decide)
    refine ⟨_, (pss_cons (ps_set (i := 2) sc__law_shelf.nd rfl (.inl rfl) (pe_op op_add pe_int (pe_f (fk__law_take c T) hr (by decide) (by rfl) passL (pa_cons (pv 0) (pa_cons (pv 1) pa_nil)))))
          (pss_cons (ps_set (i := 3) sc__law_shelf.nd rfl (.inl rfl) (pe_lst pa_nil))
          (pss_cons (ps_for (passes_of rfl) rfl (pi_range1 (by rfl) mrange (pa_cons (pe_f (fk__law_pick c T) hr (by decide) (by rfl) passL (pa_cons (pv 0) (pa_cons (pe_lst (pa_cons pe_int (pa_cons pe_int (pa_cons pe_int (pa_cons pe_int (pa_cons pe_int (pa_cons pe_int (pa_cons pe_int pa_nil)))))))) pa_nil))) pa_nil)) (pg_name (i := 4) sc__law_shelf.nd rfl (.inl rfl))
          (pss_cons (ps_set (i := 5) sc__law_shelf.nd rfl (.inl rfl) (pe_slice sl_list (pe_f (fk__law_mixed c T) hr (by decide) (by rfl) passL (pa_cons (pv 0) (pa_cons (pe_listRg rfl (by rfl) mlist (prg_1 (by rfl) mrange (pv 2))) pa_nil))) po_none (po_some (pe_op op_add pe_int (pe_f (fk__law_take c T) hr (by decide) (by rfl) passL (pa_cons (pv 0) (pa_cons (pv 2) pa_nil)))))))
          (pss_one (ps_expr (pe_bm PySem.F.plainAttrs_list PySem.F.slot_list_append PySem.F.type_list_append mt_append (pv 3) (pa_cons (pe_tup (pa_cons (pe_ix ix_seq (pe_lst (pa_cons pe_str (pa_cons pe_str pa_nil))) (pe_callTy call_int1 (by rfl) mint PyProof.Rows.boot_int (pa_cons (pe_and (pe_cmpR op_gt (pe_callB call_len_seq (by rfl) mlen PySem.boot_len (pa_cons (pv 5) pa_nil)) pe_int (nomark _)) (pe_one (pe_cmpR op_eq (pe_f (fk__law_take c T) hr (by decide) (by rfl) passL (pa_cons (pv 0) (pa_cons pe_int pa_nil))) pe_int (nomark _)))) pa_nil)) (fun _ _ => rfl)) (pa_cons (pe_tupleOf (by rfl) mtuple (pv 5)) pa_nil))) pa_nil))))))
          (pss_one (ps_ret (pe_tup (pa_cons (pv 2) (pa_cons (pe_tupleOf (by rfl) mtuple (pv 3)) pa_nil)))))))), ?_⟩
    refine t_seq ⟨_, rfl, _, rfl, a, (m : Int), N, rfl, hB, by omega, by omega, by omega, fun r0 H1 hr0 b1 hB1 => ⟨_, _, rfl, rfl, ?_⟩⟩
    try dsimp only
    rw [show ((1 : Int) + (r0 : Nat)) = ((1 + r0 : Nat) : Int) by omega]
    obtain ⟨n, en⟩ : ∃ n, n = 1 + r0 := ⟨_, rfl⟩
    rw [← en]
    have hn1 : 1 ≤ n := by omega
    have hnm : n ≤ m := by omega
    try dsimp only
    refine t_seq ⟨Nat.zero_le _, fun pC hpC => ?_⟩
    have hpC0 : H pC = none := none_back hB1 b1 hpC
    have sC := same_new (o := HO.lst []) hpC
    try dsimp only
    refine t_seq ⟨_, rfl, (by show (7 : Nat) ≤ sizeLine; rw [sizeLine_eq]; decide), fun pl hpl => ⟨a, pl, N + 1, _, rfl, (hB1.same sC).same (same_new hpl), by omega, SqL.of upd_same, (hB1.same sC).ne hpl, (by show (0 : Nat) < 7; decide), (by show (7 : Nat) ≤ 1000000; decide), fun rx x H3 hx b3 hB3 => ?_⟩⟩
    have hk : ∃ k : Nat, x = .int (k : Int) ∧ k ≤ 4 := by
      have y := List.mem_of_getElem? hx
      simp only [List.mem_cons, List.not_mem_nil, or_false] at y
      rcases y with rfl | rfl | rfl | rfl | rfl | rfl | rfl
      · exact ⟨0, rfl, by decide⟩
      · exact ⟨1, rfl, by decide⟩
      · exact ⟨1, rfl, by decide⟩
      · exact ⟨2, rfl, by decide⟩
      · exact ⟨2, rfl, by decide⟩
      · exact ⟨3, rfl, by decide⟩
      · exact ⟨4, rfl, by decide⟩
    obtain ⟨k, rfl, hk4⟩ := hk
    refine ⟨(k : Int), rfl, by omega, by omega, ?_⟩
    rw [show ((k : Nat) : Int).toNat = k by omega]
    have aC : a ≠ pC := hB1.ne hpC
    have hC3 : H3 pC = some (.lst []) := b3 _ _ (Ne.symm aC) (same_new hpl _ _ upd_same)
    have bH3 : But a H H3 := fun c o nc e => b3 _ _ nc (same_new hpl _ _ (sC _ _ (b1 _ _ nc e)))
    refine for_range (lo := 0) (n := k) (fun i σ H' => ∃ (acc : List V) (cs : List NCh) (z4 z5 : Option V), σ = [some (.ref a), some (.int (m : Int)), some (.int (n : Int)), some (.ref pC), z4, z5] ∧ But a H H' ∧ BoxN H' a (N + 2 + (i : Int) * 20) ∧ H' pC = some (.lst acc) ∧ DpAll K H' acc (cs.map chN) ∧ cs.length ≤ i ∧ ∀ c ∈ cs, ChOk n c)
      ⟨[], [], none, none, rfl, bH3, hB3.le (by omega), hC3, .nil, Nat.le_refl _, fun c hc => by cases hc⟩ ?_ ?_
    · rintro i σ H' hi ⟨acc, cs, z4, z5, rfl, bt, hBi, hC, dA, cl, ok⟩
      refine t_seq ⟨_, rfl, _, rfl, (n : Int), rfl, RgOk.of_le (by omega) (by omega) (by omega) (by omega), fun pr hpr => ⟨a, pr, N + 2 + (i : Int) * 20, rgV 0 (n : Int), rfl, hBi.same (same_new hpr), .inl (SqL.of upd_same), hBi.ne hpr, by rw [rgV_length]; omega, by rw [rgV_length]; omega, fun p ys H4 perm hp hpa hys b4 hB4 => ?_⟩⟩
      have hB4' := hB4.le (m := N + 2 + (i : Int) * 20 + 16) (by rw [rgV_length]; omega)
      refine ⟨_, rfl, _, rfl, a, (n : Int), N + 2 + (i : Int) * 20 + 16, rfl, hB4', by omega, by omega, by omega, fun r2 H5 hr2 b5 hB5 => ⟨_, _, rfl, rfl, _, rfl, p, ys, rfl, SqL.of (b5 _ _ hpa hys), fun q hq => ?_⟩⟩
      rw [show ((1 : Int) + (r2 : Nat)) = ((1 + r2 : Nat) : Int) by omega, cut_take]
      rw [rgV_nat] at perm
      obtain ⟨l, pl2, rfl⟩ := perm_nV perm
      have ll : l.length = n := by rw [pl2.length_eq, List.length_range]
      have etk : (nV l).take (1 + r2) = nV (l.take (1 + r2)) := (List.map_take ..).symm
      rw [etk]
      have etl : (l.take (1 + r2)).length = 1 + r2 := by rw [List.length_take]; omega
      have s5q := same_new (o := HO.lst (nV (l.take (1 + r2)))) hq
      have bt5 : But a H' H5 := fun c o nc e => b5 _ _ nc (b4 _ _ nc (same_new hpr _ _ e))
      have hC5 : H5 pC = some (.lst acc) := bt5 _ _ (Ne.symm aC) hC
      try dsimp only
      refine ⟨_, rfl, .inl ⟨rfl, _, SqL.of (s5q _ _ hC5)⟩, two_le, fun pk hpk => ?_⟩
      have s5k := s5q.tr (same_new (o := HO.lst [V.str "list", V.str "ring"]) hpk)
      have hrow : (upd (upd H5 q (.lst (nV (l.take (1 + r2))))) pk (.lst [V.str "list", V.str "ring"])) q = some (.lst (nV (l.take (1 + r2)))) := same_new hpk _ _ upd_same
      have hkk : (upd (upd H5 q (.lst (nV (l.take (1 + r2))))) pk (.lst [V.str "list", V.str "ring"])) pk = some (.lst [V.str "list", V.str "ring"]) := upd_same
      have hB5k := hB5.same s5k
      have aq : q ≠ a := Ne.symm (hB5.ne hq)
      have ak : pk ≠ a := Ne.symm ((hB5.same s5q).ne hpk)
      generalize eHk : upd (upd H5 q (.lst (nV (l.take (1 + r2))))) pk (.lst [V.str "list", V.str "ring"]) = Hk at s5k hrow hkk hB5k ⊢
      refine ⟨_, rfl, q, _, rfl, .inl (SqL.of hrow), _, _, rfl, rfl, _, rfl, ?_⟩
      rw [List.length_map, etl]
      have fin : ∀ (b : Bool) (H6 : Hp), But a Hk H6 → BoxN H6 a (N + 2 + (i : Int) * 20 + 18) → (b = true → 3 ≤ 1 + r2) → ∀ Z : V → Hp → Prop, (∀ x H7, x = .str (if b = true then "ring" else "list") → H7 = H6 → Z x H7) → rIx K (.ref pk) (.int (if b = true then 1 else 0)) H6 Z := by
        intro b H6 b6 _ _ Z hZ
        cases b with
        | false => exact ix_sq (j := 0) (.inl (SqL.of (b6 _ _ ak hkk))) rfl (hZ _ _ rfl rfl)
        | true => exact ix_sq (j := 1) (.inl (SqL.of (b6 _ _ ak hkk))) rfl (hZ _ _ rfl rfl)
      by_cases h2 : (2 : Int) < ((1 + r2 : Nat) : Int)
      case' pos =>
        rw [decide_eq_true h2]
        refine iteT ⟨_, rfl, a, 3, N + 2 + (i : Int) * 20 + 17, rfl, hB5k.le (by omega), by omega, by omega, by omega, fun r3 H6 hr3 b6 hB6 => ⟨rfl, .inr ⟨_, rfl, ?_⟩⟩⟩
        have h3 : decide (V.int (r3 : Int) = V.int 0) = true → 3 ≤ 1 + r2 := fun _ => by omega
        have hB6' := hB6.le (m := N + 2 + (i : Int) * 20 + 18) (by omega)
        generalize decide (V.int (r3 : Int) = V.int 0) = b at h3 ⊢
      case' neg =>
        rw [decide_eq_false h2]
        refine iteF (.inr ⟨_, rfl, ?_⟩)
        obtain ⟨H6, hH6⟩ : ∃ H6, H6 = Hk := ⟨_, rfl⟩
        rw [← hH6]
        have b6 : But a Hk H6 := by
          rw [hH6]
          exact But.rfl'
        have hB6' : BoxN H6 a (N + 2 + (i : Int) * 20 + 18) := by
          rw [hH6]
          exact hB5k.le (by omega)
        have h3 : false = true → 3 ≤ 1 + r2 := fun z => by cases z
        generalize false = b at h3 ⊢
      all_goals
        refine fin b H6 b6 hB6' h3 _ fun x H7 ex eH => ?_
        subst ex
        subst eH
        refine ⟨_, rfl, kTup_sq (.inl (SqL.of (b6 _ _ aq hrow))) fun q7 H8 s8 hq8 => ⟨two_le, fun q9 hq9 => ?_⟩⟩
        have hC8 : (upd H8 q9 (.tup [V.str (if b = true then "ring" else "list"), V.ref q7])) pC = some (.lst acc) := same_new hq9 _ _ (s8 _ _ (b6 _ _ (Ne.symm aC) (s5k _ _ hC5)))
        have al : acc.length ≤ 4 := by
          rw [dA.len, List.length_map]
          omega
        refine ⟨pC, acc, _, rfl, rfl, hC8, by rw [sizeLine_eq]; omega, ?_⟩
        try dsimp only
        obtain ⟨xa, ha⟩ := hBi.at
        obtain ⟨xk, hak⟩ := hB5k.at
        have kt : KeepT H' (upd (upd H8 q9 (.tup [V.str (if b = true then "ring" else "list"), V.ref q7])) pC (.lst (acc ++ [V.ref q9]))) :=
          (((((KeepT.but bt5 ha).tr (KeepT.of s5k)).tr (KeepT.but b6 hak)).tr (KeepT.of s8)).tr (KeepT.of (same_new hq9))).tr (KeepT.put hC8)
        refine ⟨acc ++ [.ref q9], cs ++ [(b, l.take (1 + r2))], _, _, rfl, fun d o nd e => ?_, ?_, upd_same, ?_, ?_, ?_⟩
        · rw [upd_ne (ne_of_none e hpC0)]
          exact same_new hq9 _ _ (s8 _ _ (b6 _ _ nd (s5k _ _ (bt5 _ _ nd (bt _ _ nd e)))))
        · refine BoxN.keep (((hB6'.same s8).same (same_new hq9)).le (by omega)) (upd_ne aC)
        · rw [List.map_append]
          refine dAll_snoc ?_ (dpAll_keep kt _ _ (noLs_map noL_ch cs) dA)
          refine .tup (xs := [V.str (if b = true then "ring" else "list"), V.ref q7]) ((KeepT.put hC8).sqt (SqT.of upd_same)) (.cons (.str _) (.cons (.tup (xs := nV (l.take (1 + r2))) ((KeepT.put hC8).sqt (sqt_same (same_new hq9) hq8)) (dAll_nat _)) .nil))
        · rw [List.length_append, List.length_singleton]
          omega
        · intro c hc
          rcases List.mem_append.mp hc with hc | hc
          · exact ok c hc
          · rw [List.mem_singleton] at hc
            subst hc
            exact take_ok pl2 b (by omega) (by omega) h3
    · rintro σ H' ⟨acc, cs, z4, z5, rfl, bt, hBi, hC, dA, cl, ok⟩
      try dsimp only
      refine ⟨_, rfl, _, rfl, kTup_sq (.inl (SqL.of hC)) fun q H6 s6 hq6 => ⟨two_le, fun q2 hq2 => ?_⟩⟩
      refine hq (.ref q2) _ n cs ((bt.same s6).same (same_new hq2)) (((hBi.same s6).same (same_new hq2)).le (by omega)) hn1 hnm (by omega) ok ?_
      refine .tup (SqT.of upd_same) (.cons (.int _) (.cons (.tup (sqt_same (same_new hq2) hq6) ?_) .nil))
      exact dpAll_same (s6.tr (same_new hq2)) _ _ dA
theorem sc__law_links : FnScope ["_law_shelf_here", "_law_links_here", "_law_kind", "_law_row", "_law_at"] ["_law_shelf_here"] (defScope s__law_links) := ⟨rfl, rfl, rfl, by decide +kernel, rfl, by decide +kernel, by decide +kernel⟩
theorem fk__law_links (c : SaysS cfg.facts cfg.fn K) (T : EnvOk cfg K mg) : Fk P w K mg base 2 "_law_links" ["_law_shelf_here"] (spLawLinks K) := by
  obtain ⟨fd, hh⟩ := has_of c T 24 "_law_links" s__law_links rfl
  refine Fk.of hh (hh.F.ok sc__law_links (fun vs H Q E h => ?_) (fun cdv A outer s H vs Q E hr h => ?_)) (hh.F.bindsN fun _ _ _ _ _ _ us hl => match us, hl with | [_], _ => rfl)
  · obtain ⟨v, n, cs, rfl, _⟩ := h
    rfl
  · obtain ⟨v, n, cs, rfl, hd, ok, hn, hcl, hq⟩ := h
    have mrange := T.free "range" (by decide)
    have mlen := T.free "len" (by decide)
    have mint := T.free "int" (by decide)
    refine ⟨_, (pss_cons (ps_set (i := 1) sc__law_links.nd rfl (.inl rfl) (pe_lst pa_nil))
          (pss_cons (ps_for (passes_of rfl) rfl (pi_sq (pe_ix ix_seq (pv 0) pe_int (fun _ _ => rfl))) (pg_sq rfl (pgs_cons (pg_name (i := 2) sc__law_links.nd rfl (.inl rfl)) (pgs_cons (pg_name (i := 3) sc__law_links.nd rfl (.inl rfl)) pgs_nil)))
          (pss_one (ps_for (passes_of rfl) rfl (pi_range1 (by rfl) mrange (pa_cons (pe_callB call_len_seq (by rfl) mlen PySem.boot_len (pa_cons (pv 3) pa_nil)) pa_nil)) (pg_name (i := 4) sc__law_links.nd rfl (.inl rfl))
          (pss_one (ps_if (pw_or (pt_cmpR op_lt (pe_op op_add (pv 4) pe_int) (pe_callB call_len_seq (by rfl) mlen PySem.boot_len (pa_cons (pv 3) pa_nil)) (nomark _)) (pw_or1 (pt_cmpR op_eq (pv 2) pe_str (nomark _)))).pt (pss_cons (ps_expr (pe_bm PySem.F.plainAttrs_list PySem.F.slot_list_append PySem.F.type_list_append mt_append (pv 1) (pa_cons (pe_tup (pa_cons (pe_ix ix_seq (pv 3) (pv 4) (fun _ _ => rfl)) (pa_cons (pe_ix ix_seq (pv 3) (pe_op op_mod (pe_callTy call_int1 (by rfl) mint PyProof.Rows.boot_int (pa_cons (pe_op op_add (pv 4) pe_int) pa_nil)) (pe_callB call_len_seq (by rfl) mlen PySem.boot_len (pa_cons (pv 3) pa_nil))) (fun _ _ => rfl)) pa_nil))) pa_nil)))
          (pss_one (ps_expr (pe_bm PySem.F.plainAttrs_list PySem.F.slot_list_append PySem.F.type_list_append mt_append (pv 1) (pa_cons (pe_tup (pa_cons (pe_ix ix_seq (pv 3) (pe_op op_mod (pe_callTy call_int1 (by rfl) mint PyProof.Rows.boot_int (pa_cons (pe_op op_add (pv 4) pe_int) pa_nil)) (pe_callB call_len_seq (by rfl) mlen PySem.boot_len (pa_cons (pv 3) pa_nil))) (fun _ _ => rfl)) (pa_cons (pe_ix ix_seq (pv 3) (pv 4) (fun _ _ => rfl)) pa_nil))) pa_nil))))) pss_nil)))))
          (pss_one (ps_ret (pv 1))))), ?_⟩
    obtain ⟨a0, x0, y0, rfl, hT0, hx0, hy0⟩ := pair2_of hd
    obtain ⟨a, xs, rfl, hS, hA⟩ := tup_of hy0
    have hxl : xs.length = cs.length := by rw [hA.len, List.length_map]
    refine t_seq ⟨Nat.zero_le _, fun pL hpL => ?_⟩
    try dsimp only
    refine t_seq ?_
    refine for_sqT (a := a) (xs := xs) (fun i σ H1 => ∃ (G : Hp) (acc : List V) (z2 z3 z4 : Option V), σ = [some (.ref a0), some (.ref pL), z2, z3, z4] ∧ G pL = none ∧ Same H G ∧ H1 = upd G pL (.lst acc) ∧ DpAll K G acc ((llks (cs.take i)).map Shf.prD))
      ⟨H, [], none, none, none, rfl, hpL, Same.rfl', rfl, .nil⟩ ?_ ?_ ?_ _ (fun R hR => ⟨_, rfl, ix_sq (j := 1) (.inr (sqt_same (same_new hpL) hT0)) rfl hR⟩)
    · rintro i σ H1 ⟨G, acc, z2, z3, z4, rfl, gL, sG, rfl, dA⟩
      exact sqt_same (sG.tr (same_new gL)) hS
    · rintro i x σ H1 hx ⟨G, acc, z2, z3, z4, rfl, gL, sG, rfl, dA⟩
      obtain ⟨dz, hdz, hpz⟩ := hA.at hx
      have hi : i < cs.length := by
        have y := (List.getElem?_eq_some_iff.mp hdz).1
        rw [List.length_map] at y
        exact y
      have ci : cs[i]? = some cs[i] := List.getElem?_eq_getElem hi
      rw [List.getElem?_map, ci] at hdz
      cases hdz
      have ok1 := ok _ (List.getElem_mem hi)
      have etake := llks_take ci
      have len0 := llks_len (n := n) (cs := cs.take i) fun c hc => ok c (List.mem_of_mem_take hc)
      have len1 : (llks (cs.take i)).length ≤ 2048 := by
        rw [List.length_take] at len0
        have y : min i cs.length * (2 * n) ≤ 16 * 128 := Nat.mul_le_mul (by omega) (by omega)
        omega
      have s1 : Same H (upd G pL (.lst acc)) := sG.tr (same_new gL)
      obtain ⟨t, r, rfl, hT, hR0⟩ := chain_of (dp_same s1 _ _ hpz)
      generalize cs[i] = c at hT hR0 ok1 etake ⊢
      have hl64 : c.2.length ≤ 64 := by
        have h2 := List.Nodup.length_le_of_subset ok1.nd (l₂ := List.range n) fun x hx => List.mem_range.mpr (ok1.lt x hx)
        rw [List.length_range] at h2
        omega
      refine ⟨t, _, rfl, .inr hT, rfl, _, _, rfl, _, _, rfl, rfl, ?_⟩
      have hRG : SqT K G r (nV c.2) := sqt_core hR0
      refine ⟨_, rfl, r, nV c.2, rfl, .inr hR0, (c.2.length : Nat), (by rw [List.length_map]), by omega, by omega, ?_⟩
      rw [show ((c.2.length : Nat) : Int).toNat = c.2.length by omega]
      refine for_range (lo := 0) (n := c.2.length) (fun j σ H2 => ∃ (G2 : Hp) (acc2 : List V) (z4 : Option V), σ = [some (.ref a0), some (.ref pL), some (.str (if c.1 = true then "ring" else "list")), some (.ref r), z4] ∧ G2 pL = none ∧ Same G G2 ∧ H2 = upd G2 pL (.lst acc2) ∧ DpAll K G2 acc2 ((llks (cs.take i) ++ llkTo c j).map Shf.prD))
        ⟨G, acc, z4, rfl, gL, Same.rfl', rfl, by rw [show llkTo c 0 = [] from rfl, List.append_nil]; exact dA⟩ ?_ ?_
      · rintro j σ H2 hj ⟨G2, acc2, z4, rfl, g2, sG2, rfl, dA2⟩
        rw [Int.zero_add]
        have hR : SqT K (upd G2 pL (.lst acc2)) r (nV c.2) := sqt_same (sG2.tr (same_new g2)) hRG
        have m2 : (j + 1) % c.2.length < c.2.length := Nat.mod_lt _ (by omega)
        have al2 : acc2.length ≤ 2048 + 128 := by
          rw [dA2.len, List.length_map, List.length_append]
          have y := llkTo_len c j
          omega
        have em : (((j : Nat) : Int) + 1) % ((nV c.2).length : Nat) = (((j + 1) % c.2.length : Nat) : Int) := by
          rw [List.length_map, Int.natCast_emod, Int.natCast_add]
          rfl
        have e1 : decide (((j : Nat) : Int) + 1 < ((nV c.2).length : Nat)) = decide (j + 1 < c.2.length) := by
          rw [List.length_map, Bool.eq_iff_iff, decide_eq_true_eq, decide_eq_true_eq]
          omega
        obtain ⟨x1, ex1⟩ : ∃ x1, x1 = c.2.getD j 0 := ⟨_, rfl⟩
        obtain ⟨x2, ex2⟩ : ∃ x2, x2 = c.2.getD ((j + 1) % c.2.length) 0 := ⟨_, rfl⟩
        have hv1 : (nV c.2)[j]? = some (.int (x1 : Int)) := by rw [ex1]; exact nat_at hj
        have hv2 : (nV c.2)[(j + 1) % c.2.length]? = some (.int (x2 : Int)) := by rw [ex2]; exact nat_at m2
        have yes : (j + 1 < c.2.length ∨ c.1 = true) → llkTo c (j + 1) = llkTo c j ++ [(x1, x2), (x2, x1)] := fun h => by
          rw [llkTo_succ]
          unfold llk1
          rw [if_pos h, ← ex1, ← ex2]
        have no : ¬ (j + 1 < c.2.length ∨ c.1 = true) → llkTo c (j + 1) = llkTo c j := fun h => by
          rw [llkTo_succ]
          unfold llk1
          rw [if_neg h, List.append_nil]
        refine ⟨_, rfl, _, _, rfl, rfl, _, rfl, r, nV c.2, rfl, .inr hR, _, _, rfl, rfl, _, rfl, ?_⟩
        rw [e1]
        by_cases h1 : j + 1 < c.2.length
        case' pos =>
          rw [decide_eq_true h1]
          have hyes : j + 1 < c.2.length ∨ c.1 = true := .inl h1
          refine iteT (iteT ?_)
        case' neg =>
          rw [decide_eq_false h1]
          refine iteF ⟨_, rfl, rfl, _, rfl, ?_⟩
          by_cases hc : c.1 = true
          case neg =>
            rw [if_neg hc]
            exact iteF ⟨G2, acc2, _, rfl, g2, sG2, rfl, by rw [no (by rintro (z | z) <;> contradiction)]; exact dA2⟩
          have hyes : j + 1 < c.2.length ∨ c.1 = true := .inr hc
          rw [if_pos hc]
          refine iteT ?_
        all_goals
          refine t_seq ⟨_, rfl, .inl ⟨rfl, _, SqL.of upd_same⟩, _, rfl, _, rfl, ix_sq (.inr hR) hv1 ⟨_, rfl, _, rfl, _, _, rfl, rfl, .inl ⟨_, rfl, _, rfl, r, nV c.2, rfl, .inr hR, _, _, rfl, rfl, by rw [List.length_map]; omega, ?_⟩⟩⟩
          try dsimp only
          rw [em]
          refine ix_sq (.inr hR) hv2 ⟨two_le, fun q1 hq1 => ?_⟩
          obtain ⟨G3, g3, sg3, e3⟩ := core_of (same_new (o := .tup [V.int (x1 : Int), V.int (x2 : Int)]) hq1) g2
          have hq1' : SqT K (upd (upd G2 pL (.lst acc2)) q1 (.tup [V.int (x1 : Int), V.int (x2 : Int)])) q1 [V.int (x1 : Int), V.int (x2 : Int)] := SqT.of upd_same
          rw [e3] at hq1' ⊢
          refine ⟨pL, acc2, _, rfl, rfl, upd_same, by rw [sizeLine_eq]; omega, ?_⟩
          try dsimp only
          rw [upd_upd]
          have hR3 : SqT K (upd G3 pL (.lst (acc2 ++ [V.ref q1]))) r (nV c.2) := sqt_same ((sG2.tr sg3).tr (same_new g3)) hRG
          refine ⟨_, rfl, .inl ⟨rfl, _, SqL.of upd_same⟩, _, rfl, _, rfl, _, _, rfl, rfl, .inl ⟨_, rfl, _, rfl, r, nV c.2, rfl, .inr hR3, _, _, rfl, rfl, by rw [List.length_map]; omega, ?_⟩⟩
          try dsimp only
          rw [em]
          refine ix_sq (.inr hR3) hv2 ⟨_, rfl, _, rfl, ix_sq (.inr hR3) hv1 ⟨two_le, fun q2 hq2 => ?_⟩⟩
          obtain ⟨G4, g4, sg4, e4⟩ := core_of (same_new (o := .tup [V.int (x2 : Int), V.int (x1 : Int)]) hq2) g3
          have hq2' : SqT K (upd (upd G3 pL (.lst (acc2 ++ [V.ref q1]))) q2 (.tup [V.int (x2 : Int), V.int (x1 : Int)])) q2 [V.int (x2 : Int), V.int (x1 : Int)] := SqT.of upd_same
          rw [e4] at hq2' ⊢
          refine ⟨pL, acc2 ++ [V.ref q1], _, rfl, rfl, upd_same, by rw [List.length_append, List.length_singleton, sizeLine_eq]; omega, ?_⟩
          try dsimp only
          rw [upd_upd]
          refine ⟨G4, _, _, rfl, g4, (sG2.tr sg3).tr sg4, rfl, ?_⟩
          rw [yes hyes, ← List.append_assoc, List.map_append, List.append_assoc acc2]
          exact dAll_app (dpAll_same (sg3.tr sg4) _ _ dA2) (.cons (.tup (sqt_same sg4 (sqt_core hq1')) (.cons (.int _) (.cons (.int _) .nil))) (.cons (.tup (sqt_core hq2') (.cons (.int _) (.cons (.int _) .nil))) .nil))
      · rintro σ H2 ⟨G2, acc2, z4, rfl, g2, sG2, rfl, dA2⟩
        try dsimp only
        exact ⟨G2, acc2, _, _, _, rfl, g2, sG.tr sG2, rfl, by rw [etake]; exact dA2⟩
    · rintro σ H1 ⟨G, acc, z2, z3, z4, rfl, gL, sG, rfl, dA⟩
      rw [hxl, List.take_length] at dA
      try dsimp only
      exact ⟨_, rfl, hq pL acc _ (sG.tr (same_new gL)) hpL upd_same (dpAll_same (same_new gL) _ _ dA)⟩
theorem sc__law_parts : FnScope ["_law_cells", "_law_links_here", "_law_names", "_law_turn", "_law_one", "_law_other", "_law_firsts", "_law_name", "_law_cell"] ["_law_cells", "_law_links_here"] (defScope s__law_parts) := ⟨rfl, rfl, rfl, by decide +kernel, rfl, by decide +kernel, by decide +kernel⟩
theorem fk__law_parts (c : SaysS cfg.facts cfg.fn K) (T : EnvOk cfg K mg) : Fk P w K mg base 2 "_law_parts" ["_law_cells", "_law_links_here"] (spLawParts K) := by
  obtain ⟨fd, hh⟩ := has_of c T 25 "_law_parts" s__law_parts rfl
  refine Fk.of hh (hh.F.ok sc__law_parts (fun vs H Q E h => ?_) (fun cdv A outer s H vs Q E hr h => ?_)) (hh.F.bindsN fun _ _ _ _ _ _ us hl => match us, hl with | [_, _], _ => rfl)
  · obtain ⟨n, v, L, rfl, _⟩ := h
    rfl
  · obtain ⟨n, v, L, rfl, hd, hb, hn, hq⟩ := h
    have mrange := T.free "range" (by decide)
    have mlist := T.free "list" (by decide)
    have mmin := T.free "min" (by decide)
    have mtuple := T.free "tuple" (by decide)
    refine ⟨_, (pss_cons (ps_set (i := 2) sc__law_parts.nd rfl (.inr rfl) (pe_listRg rfl (by rfl) mlist (prg_1 (by rfl) mrange (pv 0))))
          (pss_cons (ps_for (passes_of rfl) rfl (pi_range1 (by rfl) mrange (pa_cons (pv 0) pa_nil)) (pg_name (i := 3) sc__law_parts.nd rfl (.inl rfl))
          (pss_one (ps_for (passes_of rfl) rfl (pi_sq (pv 1)) (pg_sq rfl (pgs_cons (pg_name (i := 4) sc__law_parts.nd rfl (.inl rfl)) (pgs_cons (pg_name (i := 5) sc__law_parts.nd rfl (.inl rfl)) pgs_nil)))
          (pss_cons (ps_asg (pe_callB (call_min2 rfl) (by rfl) mmin (by decide +kernel) (pa_cons (pe_ix ix_seq (pv 2) (pv 4) (fun _ _ => rfl)) (pa_cons (pe_ix ix_seq (pv 2) (pv 5) (fun _ _ => rfl)) pa_nil))) (pg_sub (pv 2) (pv 4) set_list (fun _ => rfl)))
          (pss_one (ps_asg (pe_ix ix_seq (pv 2) (pv 4) (fun _ _ => rfl)) (pg_sub (pv 2) (pv 5) set_list (fun _ => rfl))))))))
          (pss_cons (ps_setLc (i := 6) (g := gName 7) (te := (tVar 7)) (tt := (tTest (tOp rEq (tOp (rIx K) (tVar 2) (tVar 7)) (tVar 7)))) (own := [("_law_name", 7)]) rfl sc__law_parts.nd rfl rfl (sw_true rfl rfl rfl (by decide +kernel)) (pi_range1 (by rfl) mrange (pa_cons (pv 0) pa_nil)) (blkOk_by (N := ["_law_cells", "_law_links_here", "_law_names", "_law_turn", "_law_one", "_law_other", "_law_firsts", "_law_name", "_law_cell"]) (sc := defScope s__law_parts) (by decide +kernel)) (fun s H C cl fp => (pg_name (i := 7) sc__law_parts.nd rfl (.inl rfl))) (fun s H C cl fp => (pts_one (pt_cmpR op_eq (pe_ix ix_seq (pv 2) (pv 7) (fun _ _ => rfl)) (pv 7) (nomark _)))) (fun s H C cl fp => by exact (pv 7)))
          (pss_one (ps_ret (pe_tupleOf (by rfl) mtuple (pe_lc (g := gName 7) (te := (tThen (tLc (iRng1 (tCons (tVar 0) tNil)) (gName 8) (tTest (tOp rEq (tOp (rIx K) (tVar 2) (tVar 8)) (tVar 7))) (tVar 8) (List.map (fun x : PySem.Str × Nat => x.snd) [("_law_cell", 8)])) (kTup K))) (own := [("_law_name", 7)]) rfl sc__law_parts.nd (pi_sq (pv 6)) (blkOk_by (N := ["_law_cells", "_law_links_here", "_law_names", "_law_turn", "_law_one", "_law_other", "_law_firsts", "_law_name", "_law_cell"]) (sc := defScope s__law_parts) (by decide +kernel)) (fun s H C cl fp => (pg_name (i := 7) sc__law_parts.nd rfl (.inr rfl))) (fun s H C cl fp => pts_nil) (fun s H C cl fp => by exact (pe_tupleOf (by rfl) mtuple (pe_lc (g := gName 8) (te := (tVar 8)) (tt := (tTest (tOp rEq (tOp (rIx K) (tVar 2) (tVar 8)) (tVar 7)))) (own := [("_law_cell", 8)]) rfl sc__law_parts.nd (pi_range1 (by rfl) mrange (pa_cons (pv 0) pa_nil)) (blkOk_by (N := ["_law_cells", "_law_links_here", "_law_names", "_law_turn", "_law_one", "_law_other", "_law_firsts", "_law_name", "_law_cell"]) (by kernel_rfl)) (fun s H C cl fp => (pg_name (i := 8) sc__law_parts.nd rfl (.inl rfl))) (fun s H C cl fp => (pts_one (pt_cmpR op_eq (pe_ix ix_seq (pv 2) (pv 8) (fun _ _ => rfl)) (pv 7) (nomark _)))) (fun s H C cl fp => by exact (pv 8)))))))))))), ?_⟩
    obtain ⟨a, xs, rfl, hS, hA⟩ := tup_of hd
    have hxl : xs.length = L.length := by rw [hA.len, List.length_map]
    refine t_seq ⟨_, rfl, (n : Int), rfl, RgOk.of_le (by omega) (by omega) (by omega) (by omega), fun pN hpN => ?_⟩
    rw [rgV_nat]
    try dsimp only
    refine t_seq ⟨_, rfl, (n : Int), rfl, by omega, by omega, ?_⟩
    rw [show ((n : Nat) : Int).toNat = n by omega]
    refine for_range (lo := 0) (n := n) (fun i σ H1 => ∃ (z3 z4 z5 : Option V), σ = [some (.int (n : Int)), some (.ref a), some (.ref pN), z3, z4, z5, none, none, none] ∧ H1 = upd H pN (.lst (nV (nrounds L n i)))) ⟨none, none, none, rfl, rfl⟩ ?_ ?_
    · rintro i σ H1 hi ⟨z3, z4, z5, rfl, rfl⟩
      refine for_sqT (a := a) (xs := xs) (fun j σ H1 => ∃ (z4 z5 : Option V), σ = [some (.int (n : Int)), some (.ref a), some (.ref pN), some (.int ((0 : Int) + (i : Nat))), z4, z5, none, none, none] ∧ H1 = upd H pN (.lst (nV ((L.take j).foldl nstep (nrounds L n i))))) ⟨z4, z5, rfl, rfl⟩ ?_ ?_ ?_ _ (fun R hR => ⟨_, rfl, hR⟩)
      · rintro j σ H1 ⟨z4, z5, rfl, rfl⟩
        exact sqt_same (same_new hpN) hS
      · rintro j x σ H1 hx ⟨z4, z5, rfl, rfl⟩
        obtain ⟨dz, hdz, hpz⟩ := hA.at hx
        have hj : j < L.length := by
          have y := (List.getElem?_eq_some_iff.mp hdz).1
          rw [List.length_map] at y
          exact y
        have cj : L[j]? = some L[j] := List.getElem?_eq_getElem hj
        rw [List.getElem?_map, cj] at hdz
        cases hdz
        obtain ⟨b1, b2⟩ := hb _ (List.getElem_mem hj)
        obtain ⟨t, rfl, hT⟩ := link_of (dp_same (same_new (o := .lst (nV ((L.take j).foldl nstep (nrounds L n i)))) hpN) _ _ hpz)
        have est := foldl_take_succ (nm := nrounds L n i) cj
        have enl : ((L.take j).foldl nstep (nrounds L n i)).length = n := by rw [foldl_len, nrounds_len]
        generalize L[j] = p at b1 b2 hT est ⊢
        generalize (L.take j).foldl nstep (nrounds L n i) = nm at est enl hT ⊢
        have hv1 := nat_at (l := nm) (j := p.1) (by omega)
        have hv2 := nat_at (l := nm) (j := p.2) (by omega)
        refine ⟨t, _, rfl, .inr hT, rfl, _, _, rfl, _, _, rfl, rfl, ?_⟩
        refine t_seq (t_cb2 ⟨_, rfl, _, rfl, ix_sq (.inl (SqL.of upd_same)) hv1 ⟨_, rfl, _, rfl, ix_sq (.inl (SqL.of upd_same)) hv2 ⟨_, _, rfl, ?_⟩⟩⟩)
        rw [min_nat]
        refine ⟨_, rfl, _, rfl, pN, _, _, _, rfl, rfl, upd_same, ixN_nat (by rw [List.length_map]; omega), ?_⟩
        try dsimp only
        rw [upd_upd, nV_set]
        have hv3 := nat_at (l := nm.set p.1 (min (nm.getD p.1 0) (nm.getD p.2 0))) (j := p.1) (by rw [List.length_set]; omega)
        rw [getD_set (by omega), if_pos rfl] at hv3
        refine ⟨_, rfl, _, rfl, ix_sq (.inl (SqL.of upd_same)) hv3 ⟨_, rfl, _, rfl, pN, _, _, _, rfl, rfl, upd_same, ixN_nat (by rw [List.length_map, List.length_set]; omega), ?_⟩⟩
        try dsimp only
        rw [upd_upd, nV_set, est]
        exact ⟨_, _, rfl, rfl⟩
      · rintro σ H1 ⟨z4, z5, rfl, rfl⟩
        rw [hxl, List.take_length]
        exact ⟨_, _, _, rfl, rfl⟩
    · rintro σ H1 ⟨z3, z4, z5, rfl, rfl⟩
      have lp : partsOf n (Lk L) = partsOf n (Lk L) := rfl
      have enl : (nrounds L n n).length = n := nrounds_len L n n
      generalize nrounds L n n = nm at enl hq ⊢
      have hN : (upd H pN (.lst (nV nm))) pN = some (.lst (nV nm)) := upd_same
      have sN : Same H (upd H pN (.lst (nV nm))) := same_new hpN
      generalize upd H pN (.lst (nV nm)) = Hn at hN sN ⊢
      try dsimp only
      refine t_seq ⟨_, rfl, (n : Int), rfl, by omega, by omega, fun D hD => ?_⟩
      rw [show ((n : Nat) : Int).toNat = n by omega]
      refine lc_rg (lo := 0) (n := n) (fun i acc G => Same Hn G ∧ acc = nV ((List.range i).filter fun f => decide (nm.getD f 0 = f))) hD ⟨Same.rfl', rfl⟩ ?_ ?_
      · rintro i acc G hi hG ⟨s1, rfl⟩
        rw [Int.zero_add]
        have s2 := s1.tr (same_upd (o := .lst (nV ((List.range i).filter fun f => decide (nm.getD f 0 = f)))) hG)
        refine ⟨rfl, ?_⟩
        refine ⟨_, rfl, _, rfl, ix_sq (.inl (SqL.of (s2 _ _ hN))) (nat_at (l := nm) (j := i) (by omega)) ⟨_, rfl, rfl, _, rfl, ?_⟩⟩
        rw [dec_nat]
        have al : (nV ((List.range i).filter fun f => decide (nm.getD f 0 = f))).length < sizeLine := by
          have y := List.length_filter_le (fun f => decide (nm.getD f 0 = f)) (List.range i)
          rw [List.length_range] at y
          rw [List.length_map, sizeLine_eq]
          omega
        by_cases h : nm.getD i 0 = i
        · rw [decide_eq_true h]
          refine iteT ⟨_, rfl, lc_put hG al ⟨s1, ?_⟩⟩
          rw [filter_range_succ, decide_eq_true h, if_pos rfl, show nV ((List.range i).filter (fun f => decide (nm.getD f 0 = f)) ++ [i]) = nV ((List.range i).filter (fun f => decide (nm.getD f 0 = f))) ++ [V.int (i : Int)] from List.map_append]
        · rw [decide_eq_false h]
          refine iteF ⟨_, G, hG, ⟨s1, ?_⟩, rfl⟩
          rw [filter_range_succ, decide_eq_false h, if_neg (by decide), List.append_nil]
      · rintro acc G hG ⟨s1, rfl⟩
        generalize ef : (List.range n).filter (fun f => decide (nm.getD f 0 = f)) = fs
        have fl : fs.length ≤ n := by
          rw [← ef]
          have y := List.length_filter_le (fun f => decide (nm.getD f 0 = f)) (List.range n)
          rw [List.length_range] at y
          exact y
        have s5 : Same Hn (upd G D (.lst (nV fs))) := s1.tr (same_upd hG)
        have hF : (upd G D (.lst (nV fs))) D = some (.lst (nV fs)) := upd_same
        have hN5 := s5 _ _ hN
        generalize upd G D (.lst (nV fs)) = H5 at s5 hF hN5 ⊢
        try dsimp only
        refine t_ret (t_thn ?_)
        refine lc_sq (a := D) (xs := nV fs) (.inl (SqL.of hF)) (fun i acc G => Same H5 G ∧ DpAll K G acc (((fs.take i).map fun f => (List.range n).filter fun c => decide (nm.getD c 0 = f)).map fun r => PyData.tuple (nI r))) ⟨Same.rfl', .nil⟩ (fun _ _ _ r => r.1) ?_ ?_ _ (fun R hR => ⟨_, rfl, hR⟩)
        · intro i x acc G2 D2 hx hG2 r
          have hi : i < fs.length := by
            have y := (List.getElem?_eq_some_iff.mp hx).1
            rw [List.length_map] at y
            exact y
          have fi : fs[i]? = some fs[i] := List.getElem?_eq_getElem hi
          rw [List.getElem?_map, fi] at hx
          cases hx
          have s6 : Same H5 (upd G2 D2 (.lst acc)) := r.1.tr (same_upd hG2)
          have s60 : Same G2 (upd G2 D2 (.lst acc)) := same_upd hG2
          refine ⟨rfl, t_yes (iteT (t_thn ⟨_, rfl, (n : Int), rfl, by omega, by omega, fun D3 hD3 => ?_⟩))⟩
          rw [show ((n : Nat) : Int).toNat = n by omega]
          refine lc_rg (lo := 0) (n := n) (fun j acc3 G3 => Same (upd G2 D2 (.lst acc)) G3 ∧ acc3 = nV ((List.range j).filter fun c => decide (nm.getD c 0 = fs[i]))) hD3 ⟨Same.rfl', rfl⟩ ?_ ?_
          · rintro j acc3 G3 hj hG3 ⟨s7, rfl⟩
            rw [Int.zero_add]
            have s8 := s6.tr (s7.tr (same_upd (o := .lst (nV ((List.range j).filter fun c => decide (nm.getD c 0 = fs[i])))) hG3))
            refine ⟨rfl, ?_⟩
            refine ⟨_, rfl, _, rfl, ix_sq (.inl (SqL.of (s8 _ _ hN5))) (nat_at (l := nm) (j := j) (by omega)) ⟨_, rfl, rfl, _, rfl, ?_⟩⟩
            rw [dec_nat]
            have al : (nV ((List.range j).filter fun c => decide (nm.getD c 0 = fs[i]))).length < sizeLine := by
              have y := List.length_filter_le (fun c => decide (nm.getD c 0 = fs[i])) (List.range j)
              rw [List.length_range] at y
              rw [List.length_map, sizeLine_eq]
              omega
            by_cases h : nm.getD j 0 = fs[i]
            · rw [decide_eq_true h]
              refine iteT ⟨_, rfl, lc_put hG3 al ⟨s7, ?_⟩⟩
              rw [filter_range_succ, decide_eq_true h, if_pos rfl, show nV ((List.range j).filter (fun c => decide (nm.getD c 0 = fs[i])) ++ [j]) = nV ((List.range j).filter (fun c => decide (nm.getD c 0 = fs[i]))) ++ [V.int (j : Int)] from List.map_append]
            · rw [decide_eq_false h]
              refine iteF ⟨_, G3, hG3, ⟨s7, ?_⟩, rfl⟩
              rw [filter_range_succ, decide_eq_false h, if_neg (by decide), List.append_nil]
          · rintro acc3 G3 hG3 ⟨s7, rfl⟩
            refine kTup_sq (.inl (SqL.of upd_same)) fun p H7 s8 hp => ?_
            obtain ⟨G4, g4, sg4, rfl⟩ := core_of (s7.tr ((same_upd hG3).tr s8)) hG2
            have al := r.2.len
            rw [List.length_map, List.length_map, List.length_take] at al
            refine lc_put g4 (by rw [sizeLine_eq]; omega) ⟨r.1.tr sg4, ?_⟩
            rw [List.take_add_one, fi, List.map_append, List.map_append]
            exact dAll_snoc (.tup (sqt_core hp) (dAll_nat _)) (dpAll_same sg4 _ _ r.2)
        · intro D2 acc G2 hG2 r
          rw [List.length_map, List.take_of_length_le (Nat.le_refl _)] at r
          refine kTup_sq (.inl (SqL.of upd_same)) fun p H7 s8 hp => ?_
          refine hq (.ref p) H7 ((sN.tr s5).tr ((r.1.tr (same_upd hG2)).tr s8)) (.tup hp ?_)
          unfold lawParts
          rw [ef]
          exact dpAll_same ((same_upd hG2).tr s8) _ _ r.2
theorem sc__law_lists : FnScope ["_law_shelf_here", "_law_kind", "_law_row"] ["_law_shelf_here"] (defScope s__law_lists) := ⟨rfl, rfl, rfl, by decide +kernel, rfl, by decide +kernel, by decide +kernel⟩
theorem fk__law_lists (c : SaysS cfg.facts cfg.fn K) (T : EnvOk cfg K mg) : Fk P w K mg base 2 "_law_lists" ["_law_shelf_here"] (spLawLists K) := by
  obtain ⟨fd, hh⟩ := has_of c T 26 "_law_lists" s__law_lists rfl
  refine Fk.of hh (hh.F.ok sc__law_lists (fun vs H Q E h => ?_) (fun cdv A outer s H vs Q E hr h => ?_)) (hh.F.bindsN fun _ _ _ _ _ _ us hl => match us, hl with | [_], _ => rfl)
  · obtain ⟨v, n, cs, rfl, _⟩ := h
    rfl
  · obtain ⟨v, n, cs, rfl, hd, hcl, hq⟩ := h
    have mlist := T.free "list" (by decide)
    refine ⟨_, (pss_one (ps_ret (pe_lst (pa_cons (pe_ix ix_seq (pv 0) pe_int (fun _ _ => rfl)) (pa_cons (pe_lc (g := gSq K 2 (gCons (gName 1) (gCons (gName 2) gNil))) (te := (tLst (tCons (tVar 1) (tCons (tCB (rListOf K) (tCons (tVar 2) tNil)) tNil)))) (own := [("_law_kind", 1), ("_law_row", 2)]) rfl sc__law_lists.nd (pi_sq (pe_ix ix_seq (pv 0) pe_int (fun _ _ => rfl))) (blkOk_by (N := ["_law_shelf_here", "_law_kind", "_law_row"]) (sc := defScope s__law_lists) (by decide +kernel)) (fun s H C cl fp => (pg_sq rfl (pgs_cons (pg_name (i := 1) sc__law_lists.nd rfl (.inl rfl)) (pgs_cons (pg_name (i := 2) sc__law_lists.nd rfl (.inl rfl)) pgs_nil)))) (fun s H C cl fp => pts_nil) (fun s H C cl fp => by exact (pe_lst (pa_cons (pv 1) (pa_cons (pe_callTy cr_listOf (by rfl) mlist (by decide +kernel) (pa_cons (pv 2) pa_nil)) pa_nil))))) pa_nil))))), ?_⟩
    obtain ⟨a0, x0, y0, rfl, hT0, hx0, hy0⟩ := pair2_of hd
    obtain ⟨a, xs, rfl, hS, hA⟩ := tup_of hy0
    obtain rfl : x0 = .int (n : Int) := by
      cases hx0
      rfl
    have hxl : xs.length = cs.length := by rw [hA.len, List.length_map]
    refine ⟨_, rfl, ix_sq (j := 0) (.inr hT0) rfl ?_⟩
    try dsimp only
    refine lc_sq (a := a) (xs := xs) (.inr hS) (fun i acc G => Same H G ∧ DpAll K (newer H G) acc ((cs.take i).map chL)) ⟨Same.rfl', .nil⟩ (fun _ _ _ r => r.1) ?_ ?_ _ (fun R hR => ⟨_, rfl, ix_sq (j := 1) (.inr hT0) rfl hR⟩)
    · intro i x acc G D hx hG r0
      obtain ⟨dz, hdz, hpz⟩ := hA.at hx
      have hi : i < cs.length := by
        have y := (List.getElem?_eq_some_iff.mp hdz).1
        rw [List.length_map] at y
        exact y
      have ci : cs[i]? = some cs[i] := List.getElem?_eq_getElem hi
      rw [List.getElem?_map, ci] at hdz
      cases hdz
      have s1 : Same H (upd G D (.lst acc)) := r0.1.tr (same_upd hG)
      obtain ⟨t, r, rfl, hT, hR⟩ := chain_of (dp_same s1 _ _ hpz)
      refine ⟨t, _, rfl, .inr hT, rfl, _, _, rfl, _, _, rfl, rfl, rfl, t_yes (iteT ⟨_, rfl, _, rfl, r, nV cs[i].2, rfl, .inr hR, fun q hq1 => ⟨two_le, fun q2 hq2 => ?_⟩⟩)⟩
      have s2 := same_new (o := HO.lst (nV cs[i].2)) hq1
      have s3 := same_new (o := HO.lst [V.str (if cs[i].1 = true then "ring" else "list"), V.ref q]) hq2
      have hq0 : H q = none := none_of s1 hq1
      have hq20 : H q2 = none := none_of (s1.tr s2) hq2
      have qD : q ≠ D := fun z => by rw [z, upd_same] at hq1; cases hq1
      have q2D : q2 ≠ D := fun z => by rw [z, s2 _ _ upd_same] at hq2; cases hq2
      obtain ⟨G2, g2, sg2, e⟩ := core_of (s2.tr s3) hG
      have h1 : (upd G2 D (.lst acc)) q = some (.lst (nV cs[i].2)) := by
        rw [← e]
        exact s3 _ _ upd_same
      have h2 : (upd G2 D (.lst acc)) q2 = some (.lst [V.str (if cs[i].1 = true then "ring" else "list"), V.ref q]) := by
        rw [← e]
        exact upd_same
      rw [upd_ne qD] at h1
      rw [upd_ne q2D] at h2
      rw [e]
      have al := r0.2.len
      rw [List.length_map, List.length_take] at al
      refine lc_put g2 (by rw [sizeLine_eq]; omega) ⟨r0.1.tr sg2, ?_⟩
      rw [List.take_add_one, ci, List.map_append]
      refine dAll_snoc (.lst (SqL.of ((newer_at hq20).trans h2)) (.cons (.str _) (.cons (.lst (SqL.of ((newer_at hq0).trans h1)) (dAll_nat _)) .nil))) (dpAll_same (newer_same sg2) _ _ r0.2)
    · intro D acc G hG r0
      rw [hxl, List.take_length] at r0
      refine ⟨two_le, fun p hp => hq (.ref p) _ ((r0.1.tr (same_upd hG)).tr (same_new hp)) ?_⟩
      have s1 : Same H (upd G D (.lst acc)) := r0.1.tr (same_upd hG)
      have hp0 : H p = none := none_of s1 hp
      have hD0 : H D = none := none_of r0.1 hG
      refine .lst (SqL.of ((newer_at hp0).trans upd_same)) (.cons (.int _) (.cons (.lst (SqL.of ((newer_at hD0).trans (same_new hp _ _ upd_same))) ?_) .nil))
      exact dpAll_same (newer_same ((same_upd hG).tr (same_new hp))) _ _ r0.2
end
end K01

namespace K01
open PySem PySem.Spec PyProof.Rows L2 Shf
section
variable {P : Program} {w : World} {K : PySem.W.Frag} {mg : PySem.Str → Option Value} {base : Heap}
theorem sc__law_wrong_chain : FnScope ["_law_box_here", "_law_cells", "_law_wrong"] ["_law_box_here", "_law_cells"] (defScope s__law_wrong_chain) := ⟨rfl, rfl, rfl, by decide +kernel, rfl, by decide +kernel, by decide +kernel⟩
theorem fk__law_wrong_chain (c : SaysS cfg.facts cfg.fn K) (T : EnvOk cfg K mg) : Fk P w K mg base 4 "_law_wrong_chain" ["_law_box_here", "_law_cells"] (spWrongChain K) := by
  obtain ⟨fd, hh⟩ := has_of c T 27 "_law_wrong_chain" s__law_wrong_chain rfl
  refine Fk.of hh (hh.F.ok sc__law_wrong_chain (fun vs H Q E h => ?_) (fun cdv A outer s H vs Q E hr h => ?_)) (hh.F.bindsN fun _ _ _ _ _ _ us hl => match us, hl with | [_, _], _ => rfl)
  · obtain ⟨a, n, N, rfl, _⟩ := h
    rfl
  · obtain ⟨a, n, N, rfl, hB, hN, hn1, hn2, hq⟩ := h
    have mrange := T.free "range" (by decide)
    have mmin := T.free "min" (by decide)
    have mlist := T.free "list" (by decide)
    refine ⟨_, (pss_cons (ps_set (i := 2) sc__law_wrong_chain.nd rfl (.inl rfl) (pe_lst (pa_cons pe_non (pa_cons pe_int (pa_cons pe_str (pa_cons (pe_tup (pa_cons pe_str pa_nil)) (pa_cons (pe_tup (pa_cons pe_str (pa_cons (pe_tup pa_nil) pa_nil))) (pa_cons (pe_tup (pa_cons pe_str (pa_cons (pe_lst (pa_cons (pv 1) pa_nil)) pa_nil))) (pa_cons (pe_tup (pa_cons pe_str (pa_cons (pe_lst (pa_cons (pe_un un_neg pe_int) pa_nil)) pa_nil))) (pa_cons (pe_tup (pa_cons pe_str (pa_cons (pe_lst (pa_cons pe_int (pa_cons pe_int pa_nil))) pa_nil))) (pa_cons (pe_tup (pa_cons pe_str (pa_cons (pe_lst (pa_cons pe_int pa_nil)) pa_nil))) pa_nil)))))))))))
          (pss_cons (ps_set (i := 2) sc__law_wrong_chain.nd rfl (.inl rfl) (pe_op op_cat (pv 2) (pe_lst (pa_cons (pe_tup (pa_cons pe_str (pa_cons (pe_lst (pa_cons pe_bl pa_nil)) pa_nil))) (pa_cons (pe_tup (pa_cons pe_str (pa_cons (pe_lst (pa_cons pe_int pa_nil)) pa_nil))) (pa_cons (pe_tup (pa_cons pe_int (pa_cons (pe_lst (pa_cons pe_int pa_nil)) pa_nil))) (pa_cons (pe_tup (pa_cons pe_str (pa_cons pe_str pa_nil))) (pa_cons (pe_tup (pa_cons pe_str (pa_cons (pe_lst (pa_cons pe_int pa_nil)) (pa_cons pe_int pa_nil)))) (pa_cons (pe_tup (pa_cons pe_str (pa_cons (pe_lst (pa_cons pe_int (pa_cons pe_int (pa_cons pe_int pa_nil)))) pa_nil))) pa_nil)))))))))
          (pss_one (ps_ret (pe_f (fk__law_pick c T) hr (by decide) (by rfl) passL (pa_cons (pv 0) (pa_cons (pe_op op_cat (pv 2) (pe_lst (pa_cons (pe_tup (pa_cons pe_str (pa_cons (pe_listRg rfl (by rfl) mlist (prg_1 (by rfl) mrange (pe_callB (call_min2 rfl) (by rfl) mmin (by decide +kernel) (pa_cons (pv 1) (pa_cons pe_int pa_nil))))) pa_nil))) (pa_cons (pe_tup (pa_cons (pe_lst pa_nil) (pa_cons (pe_lst (pa_cons pe_int pa_nil)) pa_nil))) (pa_cons (pe_tup (pa_cons pe_str (pa_cons (pe_lst (pa_cons pe_non pa_nil)) pa_nil))) (pa_cons (pe_tup (pa_cons pe_str (pa_cons (pe_lst (pa_cons (pe_lst (pa_cons pe_int pa_nil)) pa_nil)) pa_nil))) pa_nil)))))) pa_nil))))))), ?_⟩
    have hrange : ∀ z : Option V, Mk K [some (.ref a), some (.int (n : Int)), z] (tLstRg (tRg1 (tCB (fun xs H Q => ∃ i j, xs = [V.int i, V.int j] ∧ Q (V.int (if j < i then j else i)) H) (tCons (tVar 1) (tCons (tC (V.int 2)) tNil))))) (.list (nI (List.range (min n 2)))) := fun z H Q q => by
      unfold tLstRg tRg1
      refine ⟨_, rfl, _, _, rfl, ?_⟩
      try dsimp only
      rw [show (if (2 : Int) < (n : Int) then (2 : Int) else (n : Int)) = ((min n 2 : Nat) : Int) from min_nat n 2]
      refine ⟨_, rfl, RgOk.of_le (by omega) (by omega) (by omega) (by omega), fun p hp => q _ _ (same_new hp) (.lst (SqL.of ((newer_at hp).trans upd_same)) ?_)⟩
      rw [rgV_nat]
      exact dAll_nat _
    refine t_seq (mkl_lst (K := K) (ds := wrongA n) (mka_cons mk_non (mka_cons mk_int (mka_cons mk_str (mka_cons (mk_tup (mka_cons mk_str mka_nil)) (mka_cons (mk_tup (mka_cons mk_str (mka_cons (mk_tup mka_nil) mka_nil))) (mka_cons (mk_tup (mka_cons mk_str (mka_cons (mk_lst (mka_cons (mk_varI rfl) mka_nil)) mka_nil))) (mka_cons (mk_tup (mka_cons mk_str (mka_cons (mk_lst (mka_cons mk_neg mka_nil)) mka_nil))) (mka_cons (mk_tup (mka_cons mk_str (mka_cons (mk_lst (mka_cons mk_int (mka_cons mk_int mka_nil))) mka_nil))) (mka_cons (mk_tup (mka_cons mk_str (mka_cons (mk_lst (mka_cons mk_int mka_nil)) mka_nil))) mka_nil))))))))) (show (9 : Nat) ≤ 3000 by decide) H _ fun p1 vs1 H1 s1 hp1 h1 d1 => ?_)
    try dsimp only
    have l1 : vs1.length = 9 := d1.len
    refine t_seq (cat_var (j := 2) rfl h1 (by omega) (mkl_lst (K := K) (ds := wrongB) (mka_cons (mk_tup (mka_cons mk_str (mka_cons (mk_lst (mka_cons mk_bl mka_nil)) mka_nil))) (mka_cons (mk_tup (mka_cons mk_str (mka_cons (mk_lst (mka_cons mk_int mka_nil)) mka_nil))) (mka_cons (mk_tup (mka_cons mk_int (mka_cons (mk_lst (mka_cons mk_int mka_nil)) mka_nil))) (mka_cons (mk_tup (mka_cons mk_str (mka_cons mk_str mka_nil))) (mka_cons (mk_tup (mka_cons mk_str (mka_cons (mk_lst (mka_cons mk_int mka_nil)) (mka_cons mk_int mka_nil)))) (mka_cons (mk_tup (mka_cons mk_str (mka_cons (mk_lst (mka_cons mk_int (mka_cons mk_int (mka_cons mk_int mka_nil)))) mka_nil))) mka_nil)))))) (show (6 : Nat) ≤ 3000 by decide)) (show (6 : Nat) ≤ 3000 by decide) fun p2 vs2 H2 s2 hp2 h2 d2 => ?_)
    have l2 : vs2.length = 6 := d2.len
    try dsimp only
    refine ⟨_, rfl, cat_var (j := 2) rfl h2 (by rw [List.length_append]; omega) (mkl_lst (K := K) (ds := wrongC n) (mka_cons (mk_tup (mka_cons mk_str (mka_cons (hrange _) mka_nil))) (mka_cons (mk_tup (mka_cons (mk_lst mka_nil) (mka_cons (mk_lst (mka_cons mk_int mka_nil)) mka_nil))) (mka_cons (mk_tup (mka_cons mk_str (mka_cons (mk_lst (mka_cons mk_non mka_nil)) mka_nil))) (mka_cons (mk_tup (mka_cons mk_str (mka_cons (mk_lst (mka_cons (mk_lst (mka_cons mk_int mka_nil)) mka_nil)) mka_nil))) mka_nil)))) (show (4 : Nat) ≤ 3000 by decide)) (show (4 : Nat) ≤ 3000 by decide) fun p3 vs3 H3 s3 hp3 h3 d3 => ?_⟩
    have l3 : vs3.length = 4 := d3.len
    have sA : Same H H3 := (s1.tr s2).tr s3
    obtain ⟨xa, ha⟩ := hB.at
    have dAll : DpAll K (newer H H3) (vs1 ++ vs2 ++ vs3) (wrongs n) := dAll_app (dAll_app (dpAll_same (newer_same (s2.tr s3)) _ _ d1) (dpAll_same ((newer_same s3).tr (newer_tr s1)) _ _ d2)) (dpAll_same (newer_tr (s1.tr s2)) _ _ d3)
    refine ⟨a, p3, N, vs1 ++ vs2 ++ vs3, rfl, hB.same sA, by omega, SqL.of h3, (hB.same (s1.tr s2)).ne hp3, by rw [List.length_append, List.length_append]; omega, by rw [List.length_append, List.length_append]; omega, fun r x H4 hx b4 hB4 => ?_⟩
    obtain ⟨d, hd, hp⟩ := dAll.at hx
    obtain ⟨e1, e2⟩ := wrongs_bad hn1 d (List.mem_of_getElem? hd)
    exact hq x H4 d (fun c o nc e => b4 c o nc (sA c o e)) hB4 e1 ⟨e2, wrongs_dep d (List.mem_of_getElem? hd)⟩ (dp_same ((newer_off ha).tr (off_but b4)) _ _ hp)
end
end K01

namespace K01
open PySem PySem.Spec PyProof.Rows L2 Shf
section
variable {P : Program} {w : World} {K : PySem.W.Frag} {mg : PySem.Str → Option Value} {base : Heap}
def tbX : List PySem.Str := ["_law_whole_lists", "law"]
theorem err_size {H : Hp} {Q : VK} (h : ∀ p H2, Same H H2 → Dp K H2 (.ref p) szD → Q (.ref p) H2) : wWord K "InvalidSize" (.str "cells") H (fun cls d H' => ErrIn K ecs cls d H' Q) := fun H' d s e =>
  ⟨⟨"InvalidSize", "size", false⟩, by unfold ecs; exact List.mem_cons_of_mem _ (List.mem_cons_self ..), rfl, d, _, rfl, e, fun p H2 s2 hp => h p H2 (s.tr s2) (.tup (SqT.of hp) (.cons (.str _) (.cons (.str _) .nil)))⟩
theorem err_at {H : Hp} {Q : VK} {x : Int} (h : ∀ p H2, Same H H2 → Dp K H2 (.ref p) (atD x) → Q (.ref p) H2) : wAt K "InvalidShelf" (.int x) H (fun cls d H' => ErrIn K ecs cls d H' Q) := fun H' d s e =>
  ⟨⟨"InvalidShelf", "shelf", true⟩, by unfold ecs; exact List.mem_cons_self .., rfl, d, _, rfl, e, fun p H2 s2 hp => h p H2 (s.tr s2) (.tup (SqT.of hp) (.cons (.str _) (.cons (.int _) .nil)))⟩
theorem sc__law_whole_lists : FnScope ["_law_box_here", "_law_cells", "_law_wrong"] ["_law_box_here"] (defScope s__law_whole_lists) := ⟨rfl, rfl, rfl, by decide +kernel, rfl, by decide +kernel, by decide +kernel⟩
theorem fk__law_whole_lists (c : SaysS cfg.facts cfg.fn K) (T : EnvOk cfg K mg) (two : (tbX.map fun y => (He.cT K (y, none)).2).Nodup) (tb : ∀ y ∈ tbX, LamX.TabB base mg (He.cT K (y, none)).1 (He.cT K (y, none)).2) : Fk P w K mg base 9 "_law_whole_lists" ["_law_box_here"] (spWholeLists K (tbs K tbX)) := by
  obtain ⟨fd, hh⟩ := has_of c T 29 "_law_whole_lists" s__law_whole_lists rfl
  obtain ⟨fdE, hErr⟩ := has_of c T 28 "_law_error" s__law_error rfl
  obtain ⟨fdh_ring_shelf, hk_ring_shelf⟩ := has_of c T 18 "ring_shelf" s_ring_shelf rfl
  obtain ⟨fdk_ring_shelf, kF_ring_shelf, kB_ring_shelf⟩ := Fk.kw (P := P) (w := w) (base := base) (nm := "cells") (fk_ring_shelf c T) hk_ring_shelf (fun _ _ _ _ _ _ _ => rfl)
  have kG_ring_shelf := hk_ring_shelf.g
  have kP_ring_shelf := hk_ring_shelf.F.kp
  refine Fk.of hh (hh.F.okc sc__law_whole_lists (fun vs H Q E h => ?_) (fun cdv hcd A outer s H vs Q E hr h => ?_)) (hh.F.bindsN fun _ _ _ _ _ _ us hl => match us, hl with | [_], _ => rfl)
  · obtain ⟨a, N, rfl, _⟩ := h
    rfl
  · obtain ⟨a, N, rfl, hB, hN, hT, hq⟩ := h
    have mrange := T.free "range" (by decide)
    have mtuple := T.free "tuple" (by decide)
    have hu := hr.units
    refine ⟨_, (pss_cons (ps_set (i := 1) sc__law_whole_lists.nd rfl (.inr rfl) (pe_f (fk__law_pick c T) hr (by decide) (by rfl) passL (pa_cons (pv 0) (pa_cons (pe_lst (pa_cons pe_int (pa_cons pe_int (pa_cons pe_int (pa_cons pe_int (pa_cons (pe_op op_add pe_int (pe_f (fk__law_take c T) hr (by decide) (by rfl) passL (pa_cons (pv 0) (pa_cons pe_int pa_nil)))) pa_nil)))))) pa_nil))))
          (pss_cons (ps_if (pt_cmpR (op_neD hu) (pe_f (fk_list_shelf c T) hr (by decide) (by rfl) (passes_call (takes_of rfl rfl rfl rfl) (fun _ _ _ _ h => h)) (pa_cons (pv 1) pa_nil)) (pe_tup (pa_cons (pv 1) (pa_cons (pe_tup (pa_cons (pe_tup (pa_cons pe_str (pa_cons (pe_tupRg rfl (by rfl) mtuple (prg_1 (by rfl) mrange (pv 1))) pa_nil))) pa_nil)) pa_nil))) (nomark _)) (pss_one (ps_ret pe_bl)) pss_nil)
          (pss_cons (ps_if (pt_cmpR (op_neD hu) (pe_lerr (k := 5) T hErr (by rfl) (tabOk_of hcd (by decide) two tb rfl rfl) (hr.mono (by decide)) (LamX.lamS_by (by kernel_rfl)) (fun A outer s H E f c1 hr1 => (pe_f (fk_ring_shelf c T) hr1 (by decide) (by rfl) (passes_call (takes_of rfl rfl rfl rfl) (fun _ _ _ _ h => h)) (pa_cons (pv 1) pa_nil)))) (pe_ifExp (pt_cmpR op_gt (pv 1) pe_int (nomark _)) pe_non (pe_tup (pa_cons pe_str (pa_cons pe_str pa_nil)))) (nomark _)) (pss_one (ps_ret pe_bl)) pss_nil)
          (pss_cons (ps_set (i := 2) sc__law_whole_lists.nd rfl (.inr rfl) (pe_f (fk__law_pick c T) hr (by decide) (by rfl) passL (pa_cons (pv 0) (pa_cons (pe_lst (pa_cons pe_int (pa_cons (pe_un un_neg pe_int) (pa_cons pe_int (pa_cons pe_non (pa_cons pe_bl (pa_cons pe_str (pa_cons (pe_lst (pa_cons pe_int pa_nil)) pa_nil)))))))) pa_nil))))
          (pss_cons (ps_if (pt_cmpR (op_neD hu) (pe_lerr (k := 5) T hErr (by rfl) (tabOk_of hcd (by decide) two tb rfl rfl) (hr.mono (by decide)) (LamX.lamS_by (by kernel_rfl)) (fun A outer s H E f c1 hr1 => (pe_f (fk_list_shelf c T) hr1 (by decide) (by rfl) (passes_call (takes_of rfl rfl rfl rfl) (fun _ _ _ _ h => h)) (pa_cons (pv 2) pa_nil)))) (pe_tup (pa_cons pe_str (pa_cons pe_str pa_nil))) (nomark _)) (pss_one (ps_ret pe_bl)) pss_nil)
          (pss_cons (ps_if (pt_cmpR (op_neD hu) (pe_lerr (k := 5) T hErr (by rfl) (tabOk_of hcd (by decide) two tb rfl rfl) (hr.mono (by decide)) (LamX.lamS_by (by kernel_rfl)) (fun A outer s H E f c1 hr1 => (pe_f (fk_ring_shelf c T) hr1 (by decide) (by rfl) (passes_call (takes_of rfl rfl rfl rfl) (fun _ _ _ _ h => h)) (pa_cons (pv 2) pa_nil)))) (pe_tup (pa_cons pe_str (pa_cons pe_str pa_nil))) (nomark _)) (pss_one (ps_ret pe_bl)) pss_nil)
          (pss_one (ps_ret (pe_or (pe_cmpR op_lt (pv 1) pe_int (nomark _)) (pe_one (pe_cmpR (op_eqD hu) (pe_callK1 kF_ring_shelf (hr.mono (by decide)) (by rfl) kG_ring_shelf kP_ring_shelf kB_ring_shelf (passes_call (takes_of rfl rfl rfl rfl) (fun _ _ _ _ h => h)) (pv 1)) (pe_tup (pa_cons (pv 1) (pa_cons (pe_tup (pa_cons (pe_tup (pa_cons pe_str (pa_cons (pe_tupRg rfl (by rfl) mtuple (prg_1 (by rfl) mrange (pv 1))) pa_nil))) pa_nil)) pa_nil))) (nomark _)))))))))))), ?_⟩
    refine t_seq ⟨_, rfl, _, rfl, a, 197, N, rfl, hB, by omega, by omega, by omega, fun r0 H1 hr0 b1 hB1 => ⟨_, _, rfl, rfl, (by show (5 : Nat) ≤ sizeLine; rw [sizeLine_eq]; decide), fun pl hpl => ⟨a, pl, N + 1, _, rfl, hB1.same (same_new hpl), by omega, SqL.of upd_same, hB1.ne hpl, (by show (0 : Nat) < 5; decide), (by show (5 : Nat) ≤ 1000000; decide), fun rx x H2 hx b2 hB2 => ?_⟩⟩⟩
    obtain ⟨n, rfl, hn1, hn2⟩ : ∃ n : Nat, x = .int (n : Int) ∧ 1 ≤ n ∧ n ≤ 200 := by
      have y := List.mem_of_getElem? hx
      simp only [List.mem_cons, List.not_mem_nil, or_false] at y
      rcases y with rfl | rfl | rfl | rfl | rfl
      · exact ⟨1, rfl, by decide, by decide⟩
      · exact ⟨2, rfl, by decide, by decide⟩
      · exact ⟨3, rfl, by decide, by decide⟩
      · exact ⟨200, rfl, by decide, by decide⟩
      · exact ⟨3 + r0, by rw [show ((3 : Int) + (r0 : Nat)) = ((3 + r0 : Nat) : Int) by omega], by omega, by omega⟩
    obtain ⟨xa, ha⟩ := hB.at
    obtain ⟨xa1, ha1⟩ := hB1.at
    have hT2 : LamX.Tabs (tbs K tbX) H2 := tabs_but (tabs_same (tabs_but hT b1 ha) (same_new hpl)) b2 (same_new hpl _ _ ha1)
    have st2 : Stp a H H2 := ((Stp.but b1).tr (Stp.of (same_new hpl))).tr (Stp.but b2)
    have hB2' := hB2.le (m := N + 3) (by omega)
    try dsimp only
    have nw : ∀ r : Bool, (r = true → 3 ≤ n) → Nice (shN n [(r, List.range n)]) 4 1000000 := fun r h => nice_shN (ok_whole hn1 h) hn2 (by show (1 : Nat) ≤ 200; decide)
    refine t_seq ⟨_, rfl, .int (n : Int), .int (n : Int), rfl, .int _, fun h => ?_, fun n' e _ r H3 s3 h3 => ?_⟩
    · rw [dIn_nat, decide_eq_true hn1, decide_eq_true hn2] at h
      cases h
    obtain rfl : n = n' := by
      have y : (n : Int) = n' := PyData.int.inj e
      omega
    refine mk_whole (K := K) false rfl hn2 _ _ fun v4 H4 s4 h4 => ?_
    refine ne_same (dp_same s4 _ _ h3) (dp_same newer_all _ _ h4) (nw false (fun z => by cases z)) (by decide) ⟨_, rfl, iteF ?_⟩
    try dsimp only
    have st4 : Stp a H H4 := st2.tr (Stp.of (s3.tr s4))
    have hB4 := hB2'.same (s3.tr s4)
    have hT4 := tabs_same hT2 (s3.tr s4)
    -- the ring
    have ring : ∀ Z : VK, (∀ H5, Stp a H4 H5 → BoxN H5 a (N + 3) → LamX.Tabs (tbs K tbX) H5 → Z (.bl false) H5) → tOp (rNeD K) (LamX.tLam (tbs K tbX) (TErr K ecs) fun E => tCall (spWhole K 3 true) [] E (tCons (tVar 1) tNil)) (tIf (tTest (tOp (rI0 fun i j => V.bl (decide (j < i))) (tVar 1) (tC (V.int 2)))) (tC V.non) (tTup (tCons (tC (V.str "size")) (tCons (tC (V.str "cells")) tNil)))) [some (.ref a), some (.int (n : Int)), none] H4 Z := by
      intro Z hZ
      refine ⟨hT4, fun H5 e5 t5 => ⟨_, rfl, .int (n : Int), .int (n : Int), rfl, .int _, fun h => ?_, fun n' e h r H6 s6 h6 => ?_⟩⟩
      · have h2 : ¬ 3 ≤ n := by
          rw [dIn_nat, decide_eq_true hn2, Bool.and_true, decide_eq_false_iff_not] at h
          exact h
        refine err_size fun p H6 s6 h6 => ⟨_, rfl, _, _, rfl, rfl, _, rfl, ?_⟩
        rw [decide_eq_false (show ¬ (2 : Int) < (n : Int) by omega)]
        refine iteF (mk_tup (K := K) (ds := [.str "size", .str "cells"]) (mka_cons mk_str (mka_cons mk_str mka_nil)) (by simp) _ _ fun v7 H7 s7 h7 => ?_)
        exact ne_same (dp_same s7 _ _ h6) (dp_same newer_all _ _ h7) nice_sz (by decide) (hZ H7 ((Stp.ext e5).tr (Stp.of (s6.tr s7))) ((hB4.ext e5).same (s6.tr s7)) (tabs_same t5 (s6.tr s7)))
      · have h2 : 3 ≤ n := by
          rw [dIn_nat, decide_eq_true hn2, Bool.and_true, decide_eq_true_eq] at h
          exact h
        refine ⟨_, rfl, _, _, rfl, rfl, _, rfl, ?_⟩
        rw [decide_eq_true (show (2 : Int) < (n : Int) by omega)]
        exact iteT (ne_same .non .non (nice_of (dp := 0) (wt := 0) (by decide +kernel)) (by decide) (hZ H6 ((Stp.ext e5).tr (Stp.of s6)) ((hB4.ext e5).same s6) (tabs_same t5 s6)))
    refine t_seq (ring _ fun H5 st5' hB5 hT5 => ⟨_, rfl, iteF ?_⟩)
    have st5 := st4.tr st5'
    try dsimp only
    -- wrong numbers
    refine t_seq ⟨_, rfl, mkl_lst (K := K) (ds := sizesBad) (mka_cons mk_int (mka_cons mk_neg (mka_cons mk_int (mka_cons mk_non (mka_cons mk_bl (mka_cons mk_str (mka_cons (mk_lst (mka_cons mk_int mka_nil)) mka_nil))))))) (show (7 : Nat) ≤ 3000 by decide) _ _ fun p6 vs6 H6 s6 hp6 h6 d6 => ?_⟩
    have l6 : vs6.length = 7 := d6.len
    obtain ⟨xa5, ha5⟩ := hB5.at
    refine ⟨a, p6, N + 3, vs6, rfl, hB5.same s6, by omega, SqL.of h6, hB5.ne hp6, by omega, by omega, fun r7 x7 H7 hx7 b7 hB7 => ?_⟩
    obtain ⟨d, hd, hp⟩ := d6.at hx7
    obtain ⟨e1, e3⟩ := sizes_bad d (List.mem_of_getElem? hd)
    have h7 : Dp K (off a H7) x7 d := dp_same ((newer_off ha5).tr (off_but b7)) _ _ hp
    have st7 : Stp a H H7 := (st5.tr (Stp.of s6)).tr (Stp.but b7)
    have hT7 := tabs_but (tabs_same hT5 s6) b7 (s6 _ _ ha5)
    have hB7' := hB7.le (m := N + 4) (by omega)
    try dsimp only
    have bad : ∀ (lo : Nat) (r : Bool) (H8 : Hp), dIn lo 200 d = false → Stp a H7 H8 → BoxN H8 a (N + 4) → LamX.Tabs (tbs K tbX) H8 → ∀ Z : VK, (∀ H9, Stp a H8 H9 → BoxN H9 a (N + 4) → LamX.Tabs (tbs K tbX) H9 → Z (.bl false) H9) →
        tOp (rNeD K) (LamX.tLam (tbs K tbX) (TErr K ecs) fun E => tCall (spWhole K lo r) [] E (tCons (tVar 2) tNil)) (tTup (tCons (tC (V.str "size")) (tCons (tC (V.str "cells")) tNil))) [some (.ref a), some (.int (n : Int)), some x7] H8 Z := by
      intro lo r H8 eb st8 hB8 hT8 Z hZ
      refine ⟨hT8, fun H9 e9 t9 => ⟨_, rfl, x7, d, rfl, dp_ext ((same_ext off_same) |> fun z => LamX.ExtN.trans (LamX.ExtN.trans st8.off (off_ext e9)) z) _ _ h7, fun _ => ?_, fun n' e h r H6 s6 h6 => (by rw [eb] at h; cases h)⟩⟩
      refine err_size fun p H10 s10 h10 => ?_
      refine mk_tup (K := K) (ds := [.str "size", .str "cells"]) (mka_cons mk_str (mka_cons mk_str mka_nil)) (by simp) _ _ fun v11 H11 s11 h11 => ?_
      exact ne_same (dp_same s11 _ _ h10) (dp_same newer_all _ _ h11) nice_sz (by decide) (hZ H11 ((Stp.ext e9).tr (Stp.of (s10.tr s11))) ((hB8.ext e9).same (s10.tr s11)) (tabs_same t9 (s10.tr s11)))
    refine t_seq (bad 1 false H7 e1 Stp.rfl' hB7' hT7 _ fun H8 st8 hB8 hT8 => ⟨_, rfl, iteF ?_⟩)
    try dsimp only
    refine t_seq (bad 3 true H8 e3 st8 hB8 hT8 _ fun H9 st9 hB9 hT9 => ⟨_, rfl, iteF ?_⟩)
    have stZ : Stp a H H9 := (st7.tr st8).tr st9
    try dsimp only
    refine ⟨_, rfl, _, _, rfl, rfl, _, rfl, ?_⟩
    by_cases h3 : (n : Int) < 3
    · rw [decide_eq_true h3]
      exact iteT (hq H9 stZ (hB9.le (by omega)) hT9)
    · rw [decide_eq_false h3]
      refine iteF ⟨_, rfl, .int (n : Int), .int (n : Int), rfl, .int _, fun h => ?_, fun n' e _ r H10 s10 h10 => ?_⟩
      · rw [dIn_nat, decide_eq_true (show 3 ≤ n by omega), decide_eq_true hn2] at h
        cases h
      obtain rfl : n = n' := by
        have y : (n : Int) = n' := PyData.int.inj e
        omega
      refine mk_whole (K := K) true rfl hn2 _ _ fun v11 H11 s11 h11 => ?_
      exact eq_same (dp_same s11 _ _ h10) (dp_same newer_all _ _ h11) (nw true (fun _ => by omega)) (by decide) (hq H11 (stZ.tr (Stp.of (s10.tr s11))) ((hB9.same (s10.tr s11)).le (by omega)) (tabs_same hT9 (s10.tr s11)))
end
end K01

namespace K01
open PySem PySem.Spec PyProof.Rows L2 Shf
section
variable {P : Program} {w : World} {K : PySem.W.Frag} {mg : PySem.Str → Option Value} {base : Heap}

/-- the works that a shelf is handed to -/
def spAny (K : PySem.W.Frag) : Sp := fun vs H Q E => ∃ (v : V) (d : PyData), vs = [v] ∧ Dp K H v d ∧ dOk d ∧ ∃ x : Int, ShBad d x ∧ wAt K "InvalidShelf" (.int x) H E
theorem any_of {lim : Nat → List NCh → Prop} {res : Nat → List NCh → PyData} : ∀ vs H Q E, spAny K vs H Q E → spShR K lim res vs H Q E := by
  rintro vs H Q E ⟨v, d, rfl, hd, hk, x, hb, he⟩
  exact ⟨v, d, rfl, hd, hk, .inl ⟨x, hb, he⟩⟩
def works (K : PySem.W.Frag) : List Addr := [ea K "need_shelf", ea K "shelf_links", ea K "linked_cells", ea K "cell_parts"]
def wS (K : PySem.W.Frag) (f : Addr) : Option Sp := if f ∈ works K then some (spAny K) else none
theorem fk_work {x : PySem.Str} {nm : PySem.Str} {j : Nat} (h : Fk P w K mg base j x [nm] (spAny K)) (hj : j ≤ 9) : ∃ (fd : FuncData) (ps : List PySem.Str), FnOk P w K mg base (L2.CX P w) 9 (ea K x) fd ps (spAny K) ∧ PySem.W.keepIn K (.ref (ea K x)) = true ∧ Binds K fd ps [] := by
  obtain ⟨fd, F, b, _⟩ := h.ex
  exact ⟨fd, _, F.mono hj, h.kp, b⟩
theorem wS_ok (c : SaysS cfg.facts cfg.fn K) (T : EnvOk cfg K mg) : ∀ f sp, wS K f = some sp → ∃ (fd : FuncData) (ps : List PySem.Str), FnOk P w K mg base (L2.CX P w) 9 f fd ps sp ∧ PySem.W.keepIn K (.ref f) = true ∧ Binds K fd ps [] := by
  intro f sp h
  unfold wS at h
  by_cases e : f ∈ works K
  · rw [if_pos e] at h
    cases h
    unfold works at e
    simp only [List.mem_cons, List.not_mem_nil, or_false] at e
    rcases e with rfl | rfl | rfl | rfl
    · exact fk_work (((fk_need_shelf c T).imp need_shelf_R).imp any_of) (by decide)
    · exact fk_work ((fk_shelf_links c T).imp any_of) (by decide)
    · exact fk_work ((fk_linked_cells c T).imp any_of) (by decide)
    · exact fk_work ((fk_cell_parts c T).imp any_of) (by decide)
  · rw [if_neg e] at h
    cases h
theorem room65 {k : Nat} {A : Around} (r : Room k A) : A.units + 65 < cLine := by
  have := r.un
  omega
def spLaw (K : PySem.W.Frag) : Sp := fun vs H Q _ => ∃ (s : Addr) (ns : List Int), vs = [.ref s] ∧ SqL K H s (ns.map V.int) ∧ ns.length ≤ 63 ∧ LamX.Tabs (tbs K tbX) H ∧ ∀ H', Q (.bl true) H'
theorem sc_law : FnScope ["_law_script", "_law_k", "_law_box_here", "_law_shelf_here", "_law_told", "_law_kept", "_law_links_here", "_law_due", "_law_link", "_law_rows", "_law_two", "_law_one", "_law_chains", "_law_at", "_law_wrong", "_law_work", "_law_many", "_law_great", "_law_none"] ["_law_script"] (defScope s_law) := ⟨rfl, rfl, rfl, by decide +kernel, rfl, by decide +kernel, by decide +kernel⟩
theorem fg_law (c : SaysS cfg.facts cfg.fn K) (T : EnvOk cfg K mg) (two : (tbX.map fun y => (He.cT K (y, none)).2).Nodup) (tb : ∀ y ∈ tbX, LamX.TabB base mg (He.cT K (y, none)).1 (He.cT K (y, none)).2) {fd : FuncData} (hh : Has K mg "law" s_law fd) : FnG P w K mg base (L2.CX P w) 12 (ea K "law") fd ["_law_script"] (spLaw K) := by
  obtain ⟨fdE, hErr⟩ := has_of c T 28 "_law_error" s__law_error rfl
  obtain ⟨fdh_need_shelf, hk_need_shelf⟩ := has_of c T 11 "need_shelf" s_need_shelf rfl
  obtain ⟨fdk_need_shelf, kF_need_shelf, kB_need_shelf⟩ := Fk.kw (P := P) (w := w) (base := base) (nm := "value") ((fk_need_shelf c T).imp need_shelf_R) hk_need_shelf (fun _ _ _ _ _ _ _ => rfl)
  have kG_need_shelf := hk_need_shelf.g
  have kP_need_shelf := hk_need_shelf.F.kp
  refine hh.F.okGc sc_law (fun vs H Q E h => ?_) (fun cdv hcd A outer s H vs Q E hr hA h => ?_)
  · obtain ⟨s0, ns, rfl, _⟩ := h
    rfl
  · obtain ⟨s0, ns, rfl, hS, hns, hT, hq⟩ := h
    have mrange := T.free "range" (by decide)
    have mrepr := T.free "repr" (by decide)
    have mtuple := T.free "tuple" (by decide)
    have msorted := T.free "sorted" (by decide)
    have mset := T.free "set" (by decide)
    have mlist := T.free "list" (by decide)
    have mlen := T.free "len" (by decide)
    have hu := hr.units
    have hu65 := room65 hr
    refine ⟨_, (pss_cons (ps_for (passes_of rfl) rfl (pi_range1 (by rfl) mrange (pa_cons pe_int pa_nil)) (pg_name (i := 1) sc_law.nd rfl (.inl rfl))
          (pss_cons (ps_set (i := 2) sc_law.nd rfl (.inl rfl) (pe_f (fk__law_box c T) hr (by decide) (by rfl) passL (pa_cons (pv 0) (pa_cons (pv 1) pa_nil))))
          (pss_cons (ps_set (i := 3) sc_law.nd rfl (.inr rfl) (pe_f (fk__law_shelf c T) hr (by decide) (by rfl) passL (pa_cons (pv 2) (pa_cons pe_int pa_nil))))
          (pss_cons (ps_set (i := 4) sc_law.nd rfl (.inl rfl) (pe_f (fk__law_pick c T) hr (by decide) (by rfl) passL (pa_cons (pv 2) (pa_cons (pe_lst (pa_cons (pv 3) (pa_cons (pe_f (fk__law_lists c T) hr (by decide) (by rfl) passL (pa_cons (pv 3) pa_nil)) pa_nil))) pa_nil))))
          (pss_cons (ps_set (i := 5) sc_law.nd rfl (.inl rfl) (pe_callB (call_reprD hA hu) (by rfl) mrepr PyProof.Rows.boot_repr (pa_cons (pv 4) pa_nil)))
          (pss_cons (ps_set (i := 6) sc_law.nd rfl (.inr rfl) (pe_f (fk__law_links c T) hr (by decide) (by rfl) passL (pa_cons (pv 3) pa_nil)))
          (pss_cons (ps_if (pw_or (pt_cmpR (op_neD hu) (pe_f ((fk_need_shelf c T).imp need_shelf_R) hr (by decide) (by rfl) (passes_call (takes_of rfl rfl rfl rfl) (fun _ _ _ _ h => h)) (pa_cons (pv 4) pa_nil)) (pv 3) (nomark _)) (pw_or1 (pt_cmpR op_ne (pe_callB (call_reprD hA hu) (by rfl) mrepr PyProof.Rows.boot_repr (pa_cons (pe_callK1 kF_need_shelf (hr.mono (by decide)) (by rfl) kG_need_shelf kP_need_shelf kB_need_shelf (passes_call (takes_of rfl rfl rfl rfl) (fun _ _ _ _ h => h)) (pv 4)) pa_nil)) (pe_callB (call_reprD hA hu) (by rfl) mrepr PyProof.Rows.boot_repr (pa_cons (pv 3) pa_nil)) (nomark _)))).pt (pss_one (ps_ret pe_bl)) pss_nil)
          (pss_cons (ps_set (i := 7) sc_law.nd rfl (.inl rfl) (pe_tupleOf (by rfl) mtuple (pe_callB (cr_sortedT rfl) (by rfl) msorted (by decide +kernel) (pa_cons (pe_callTy (cr_setOfT rfl hu) (by rfl) mset (by decide +kernel) (pa_cons (pe_lc (g := gName 8) (te := (tVar 8)) (tt := (tTest (tOp (rI0 fun i j => V.bl (decide (i < j))) (tOp (rIx K) (tVar 8) (tC (V.int 0))) (tOp (rIx K) (tVar 8) (tC (V.int 1)))))) (own := [("_law_link", 8)]) rfl sc_law.nd (pi_sq (pv 6)) (blkOk_by (N := ["_law_script", "_law_k", "_law_box_here", "_law_shelf_here", "_law_told", "_law_kept", "_law_links_here", "_law_due", "_law_link", "_law_rows", "_law_two", "_law_one", "_law_chains", "_law_at", "_law_wrong", "_law_work", "_law_many", "_law_great", "_law_none"]) (sc := defScope s_law) (by decide +kernel)) (fun s H C cl fp => (pg_name (i := 8) sc_law.nd rfl (.inl rfl))) (fun s H C cl fp => (pts_one (pt_cmpR op_lt (pe_ix ix_seq (pv 8) pe_int (fun _ _ => rfl)) (pe_ix ix_seq (pv 8) pe_int (fun _ _ => rfl)) (nomark _)))) (fun s H C cl fp => by exact (pv 8))) pa_nil)) pa_nil))))
          (pss_cons (ps_if (pt_cmpR op_ne (pe_callB (call_reprD hA hu) (by rfl) mrepr PyProof.Rows.boot_repr (pa_cons (pe_f (fk_shelf_links c T) hr (by decide) (by rfl) (passes_call (takes_of rfl rfl rfl rfl) (fun _ _ _ _ h => h)) (pa_cons (pv 4) pa_nil)) pa_nil)) (pe_callB (call_reprD hA hu) (by rfl) mrepr PyProof.Rows.boot_repr (pa_cons (pv 7) pa_nil)) (nomark _)) (pss_one (ps_ret pe_bl)) pss_nil)
          (pss_cons (ps_set (i := 9) sc_law.nd rfl (.inl rfl) (pe_tupleOf (by rfl) mtuple (pe_lc (g := gName 11) (te := (tThen (tLc (iRng1 (tCons (tOp (rIx K) (tVar 3) (tC (V.int 0))) tNil)) (gName 10) (tTest (tOp (rInD K) (tTup (tCons (tVar 11) (tCons (tVar 10) tNil))) (tVar 6))) (tVar 10) (List.map (fun x : PySem.Str × Nat => x.snd) [("_law_two", 10)])) (kTup K))) (own := [("_law_one", 11)]) rfl sc_law.nd (pi_range1 (by rfl) mrange (pa_cons (pe_ix ix_seq (pv 3) pe_int (fun _ _ => rfl)) pa_nil)) (blkOk_by (N := ["_law_script", "_law_k", "_law_box_here", "_law_shelf_here", "_law_told", "_law_kept", "_law_links_here", "_law_due", "_law_link", "_law_rows", "_law_two", "_law_one", "_law_chains", "_law_at", "_law_wrong", "_law_work", "_law_many", "_law_great", "_law_none"]) (sc := defScope s_law) (by decide +kernel)) (fun s H C cl fp => (pg_name (i := 11) sc_law.nd rfl (.inr rfl))) (fun s H C cl fp => pts_nil) (fun s H C cl fp => by exact (pe_tupleOf (by rfl) mtuple (pe_lc (g := gName 10) (te := (tVar 10)) (tt := (tTest (tOp (rInD K) (tTup (tCons (tVar 11) (tCons (tVar 10) tNil))) (tVar 6)))) (own := [("_law_two", 10)]) rfl sc_law.nd (pi_range1 (by rfl) mrange (pa_cons (pe_ix ix_seq (pv 3) pe_int (fun _ _ => rfl)) pa_nil)) (blkOk_by (N := ["_law_script", "_law_k", "_law_box_here", "_law_shelf_here", "_law_told", "_law_kept", "_law_links_here", "_law_due", "_law_link", "_law_rows", "_law_two", "_law_one", "_law_chains", "_law_at", "_law_wrong", "_law_work", "_law_many", "_law_great", "_law_none"]) (by kernel_rfl)) (fun s H C cl fp => (pg_name (i := 10) sc_law.nd rfl (.inl rfl))) (fun s H C cl fp => (pts_one (pt_cmpR (op_inD hu65) (pe_tup (pa_cons (pv 11) (pa_cons (pv 10) pa_nil))) (pv 6) (by rfl)))) (fun s H C cl fp => by exact (pv 10))))))))
          (pss_cons (ps_if (pw_or (pt_cmpR op_ne (pe_callB (call_reprD hA hu) (by rfl) mrepr PyProof.Rows.boot_repr (pa_cons (pe_f (fk_linked_cells c T) hr (by decide) (by rfl) (passes_call (takes_of rfl rfl rfl rfl) (fun _ _ _ _ h => h)) (pa_cons (pv 4) pa_nil)) pa_nil)) (pe_callB (call_reprD hA hu) (by rfl) mrepr PyProof.Rows.boot_repr (pa_cons (pv 9) pa_nil)) (nomark _)) (pw_or1 (pt_cmpR op_ne (pe_callB (call_reprD hA hu) (by rfl) mrepr PyProof.Rows.boot_repr (pa_cons (pe_f (fk_cell_parts c T) hr (by decide) (by rfl) (passes_call (takes_of rfl rfl rfl rfl) (fun _ _ _ _ h => h)) (pa_cons (pv 4) pa_nil)) pa_nil)) (pe_callB (call_reprD hA hu) (by rfl) mrepr PyProof.Rows.boot_repr (pa_cons (pe_f (fk__law_parts c T) hr (by decide) (by rfl) passL (pa_cons (pe_ix ix_seq (pv 3) pe_int (fun _ _ => rfl)) (pa_cons (pv 7) pa_nil))) pa_nil)) (nomark _)))).pt (pss_one (ps_ret pe_bl)) pss_nil)
          (pss_cons (ps_set (i := 12) sc_law.nd rfl (.inl rfl) (pe_callTy cr_listOf (by rfl) mlist (by decide +kernel) (pa_cons (pe_ix ix_seq (pv 3) pe_int (fun _ _ => rfl)) pa_nil)))
          (pss_cons (ps_set (i := 13) sc_law.nd rfl (.inl rfl) (pe_f (fk__law_take c T) hr (by decide) (by rfl) passL (pa_cons (pv 2) (pa_cons (pe_op op_add (pe_callB call_len_seq (by rfl) mlen PySem.boot_len (pa_cons (pv 12) pa_nil)) pe_int) pa_nil))))
          (pss_cons (ps_set (i := 14) sc_law.nd rfl (.inr rfl) (pe_tup (pa_cons (pe_ix ix_seq (pv 3) pe_int (fun _ _ => rfl)) (pa_cons (pe_op op_cat (pe_op op_cat (pe_op op_cat (pe_slice sl_list (pv 12) po_none (po_some (pv 13))) (pe_lst (pa_cons (pe_f (fk__law_wrong_chain c T) hr (by decide) (by rfl) passL (pa_cons (pv 2) (pa_cons (pe_ix ix_seq (pv 3) pe_int (fun _ _ => rfl)) pa_nil))) pa_nil))) (pe_slice sl_list (pv 12) (po_some (pv 13)) po_none)) (pe_lst (pa_cons pe_non pa_nil))) pa_nil))))
          (pss_cons (ps_for (passes_of rfl) rfl (pi_sq (pe_tup (pa_cons (pe_glob (v := .ref (ea K "need_shelf")) (by rfl) (Fk.g (P := P) (w := w) (base := base) ((fk_need_shelf c T).imp need_shelf_R)) rfl) (pa_cons (pe_glob (v := .ref (ea K "shelf_links")) (by rfl) (Fk.g (P := P) (w := w) (base := base) (fk_shelf_links c T)) rfl) (pa_cons (pe_glob (v := .ref (ea K "linked_cells")) (by rfl) (Fk.g (P := P) (w := w) (base := base) (fk_linked_cells c T)) rfl) (pa_cons (pe_glob (v := .ref (ea K "cell_parts")) (by rfl) (Fk.g (P := P) (w := w) (base := base) (fk_cell_parts c T)) rfl) pa_nil)))))) (pg_name (i := 15) sc_law.nd rfl (.inr rfl))
          (pss_one (ps_if (pt_cmpR (op_neD hu) (pe_lerr (k := 9) T hErr (by rfl) (tabOk_of hcd (by decide) two tb rfl rfl) (hr.mono (by decide)) (LamX.lamS_by (by kernel_rfl)) (fun A outer s H E f c1 hr1 => (pe_callAX (i := 15) (S := wS K) (wS_ok c T) hr1 rfl (by first | exact .inl rfl | exact .inr (.inl rfl) | exact .inr (.inr rfl)) (passes_call (takes_of rfl rfl rfl rfl) (fun _ _ _ _ h => h)) (pa_cons (pv 14) pa_nil)))) (pe_tup (pa_cons pe_str (pa_cons (pv 13) pa_nil))) (nomark _)) (pss_one (ps_ret pe_bl)) pss_nil)))
          (pss_cons (ps_set (i := 16) sc_law.nd rfl (.inl rfl) (pe_op op_add pe_int (pe_f (fk__law_take c T) hr (by decide) (by rfl) passL (pa_cons (pv 2) (pa_cons pe_int pa_nil)))))
          (pss_cons (ps_set (i := 17) sc_law.nd rfl (.inr rfl) (pe_tup (pa_cons pe_int (pa_cons (pe_op op_rep (pe_lst (pa_cons (pe_tup (pa_cons pe_str (pa_cons (pe_lst (pa_cons pe_int pa_nil)) pa_nil))) pa_nil)) (pv 16)) pa_nil))))
          (pss_cons (ps_if (pt_cmpR (op_neD hu) (pe_lerr (k := 9) T hErr (by rfl) (tabOk_of hcd (by decide) two tb rfl rfl) (hr.mono (by decide)) (LamX.lamS_by (by kernel_rfl)) (fun A outer s H E f c1 hr1 => (pe_f ((fk_need_shelf c T).imp need_shelf_R) hr1 (by decide) (by rfl) (passes_call (takes_of rfl rfl rfl rfl) (fun _ _ _ _ h => h)) (pa_cons (pv 17) pa_nil)))) (pe_ifExp (pt_cmpR op_le (pv 16) pe_int (nomark _)) pe_non (pe_tup (pa_cons pe_str (pa_cons pe_int pa_nil)))) (nomark _)) (pss_one (ps_ret pe_bl)) pss_nil)
          (pss_cons (ps_set (i := 18) sc_law.nd rfl (.inr rfl) (pe_f (fk__law_pick c T) hr (by decide) (by rfl) passL (pa_cons (pv 2) (pa_cons (pe_lst (pa_cons pe_non (pa_cons pe_int (pa_cons (pe_tup (pa_cons pe_int pa_nil)) (pa_cons (pe_tup (pa_cons pe_int (pa_cons (pe_tup pa_nil) pa_nil))) (pa_cons (pe_tup (pa_cons pe_int (pa_cons (pe_tup pa_nil) pa_nil))) (pa_cons (pe_tup (pa_cons pe_bl (pa_cons (pe_tup pa_nil) pa_nil))) (pa_cons (pe_tup (pa_cons pe_int (pa_cons pe_non pa_nil))) (pa_cons (pe_tup (pa_cons pe_int (pa_cons pe_str pa_nil))) (pa_cons (pe_tup (pa_cons pe_int (pa_cons (pe_tup pa_nil) (pa_cons (pe_tup pa_nil) pa_nil)))) (pa_cons (pe_tup (pa_cons pe_str (pa_cons (pe_tup pa_nil) pa_nil))) pa_nil))))))))))) pa_nil))))
          (pss_cons (ps_if (pt_cmpR (op_neD hu) (pe_lerr (k := 9) T hErr (by rfl) (tabOk_of hcd (by decide) two tb rfl rfl) (hr.mono (by decide)) (LamX.lamS_by (by kernel_rfl)) (fun A outer s H E f c1 hr1 => (pe_f ((fk_need_shelf c T).imp need_shelf_R) hr1 (by decide) (by rfl) (passes_call (takes_of rfl rfl rfl rfl) (fun _ _ _ _ h => h)) (pa_cons (pv 18) pa_nil)))) (pe_tup (pa_cons pe_str (pa_cons (pe_un un_neg pe_int) pa_nil))) (nomark _)) (pss_one (ps_ret pe_bl)) pss_nil)
          (pss_cons (ps_if (pt_cmpR (op_neD hu) (pe_lerr (k := 9) T hErr (by rfl) (tabOk_of hcd (by decide) two tb rfl rfl) (hr.mono (by decide)) (LamX.lamS_by (by kernel_rfl)) (fun A outer s H E f c1 hr1 => (pe_f (fk_cell_parts c T) hr1 (by decide) (by rfl) (passes_call (takes_of rfl rfl rfl rfl) (fun _ _ _ _ h => h)) (pa_cons (pv 18) pa_nil)))) (pe_tup (pa_cons pe_str (pa_cons (pe_un un_neg pe_int) pa_nil))) (nomark _)) (pss_one (ps_ret pe_bl)) pss_nil)
          (pss_one (ps_if (pw_or (pt_cmpR op_ne (pe_callB (call_reprD hA hu) (by rfl) mrepr PyProof.Rows.boot_repr (pa_cons (pv 4) pa_nil)) (pv 5) (nomark _)) (pw_or1 (pt_not (pt_val (pe_f (fk__law_whole_lists c T two tb) hr (by decide) (by rfl) passL (pa_cons (pv 2) pa_nil)))))).pt (pss_one (ps_ret pe_bl)) pss_nil)))))))))))))))))))))))
          (pss_one (ps_ret pe_bl))), ?_⟩
    refine t_seq ⟨4, rfl, by decide, by decide, ?_⟩
    rw [show (4 : Int).toNat = 4 from rfl]
    refine for_range (lo := 0) (n := 4) (fun i σ H1 => ∃ (z1 z2 z3 z4 z5 z6 z7 z8 z9 z10 z11 z12 z13 z14 z15 z16 z17 z18 : Option V), σ = [some (.ref s0), z1, z2, z3, z4, z5, z6, z7, z8, z9, z10, z11, z12, z13, z14, z15, z16, z17, z18] ∧ LamX.ExtN H H1 ∧ LamX.Tabs (tbs K tbX) H1)
      ⟨none, none, none, none, none, none, none, none, none, none, none, none, none, none, none, none, none, none, rfl, LamX.ExtN.refl H, hT⟩ ?_ ?_
    · rintro i σ H1 hi ⟨z1, z2, z3, z4, z5, z6, z7, z8, z9, z10, z11, z12, z13, z14, z15, z16, z17, z18, rfl, eH, hT1⟩
      rw [Int.zero_add]
      refine t_seq ⟨_, rfl, _, rfl, s0, ns, i, rfl, extN_seq eH hS, hns, by omega, fun a H2 s2 hpa hB2 => ?_⟩
      have hT2 := tabs_same hT1 s2
      try dsimp only
      refine t_seq ⟨_, rfl, a, 9, 0, rfl, hB2, by omega, by omega, by omega, fun vS H3 n cs b3 hB3 hn1 hn9 hcl ok hsh => ?_⟩
      obtain ⟨xa2, ha2⟩ := hB2.at
      obtain ⟨xa3, ha3⟩ := hB3.at
      have hT3 := tabs_but hT2 b3 ha2
      have hB3' : BoxN H3 a 100 := hB3
      have fin : ∀ H', Stp a H3 H' → LamX.ExtN H H' := fun H' st => ext_step eH s2 hpa ((Stp.but b3).tr st)
      have hShA : ∀ H', Stp a H3 H' → Dp K H' vS (shN n cs) := fun H' st => dp_keep (st.keep ha3) _ _ (noL_sh n cs) hsh
      have nSh : Nice (shN n cs) 4 1000000 := nice_shN ok (by omega) (by omega)
      have hn64 : n ≤ 64 := by omega
      have lk9 : (lks cs).length < 64 := by
        have y := lks_len ok
        have z : cs.length * n ≤ 4 * 9 := Nat.mul_le_mul hcl hn9
        omega
      have b64 : ∀ p ∈ lks cs, p.1 < 64 ∧ p.2 < 64 := fun p hp => by
        have y := lks_lt ok p hp
        omega
      obtain ⟨aS, xS, yS, rfl, hTS, hxS, hyS⟩ := pair2_of hsh
      obtain rfl : xS = .int (n : Int) := by
        cases hxS
        rfl
      obtain ⟨aC, xsC, rfl, hSC, hAC⟩ := tup_of hyS
      have hTSA : ∀ H', Stp a H3 H' → SqT K H' aS [.int (n : Int), .ref aC] := fun H' st => (st.keep ha3).sqt hTS
      try dsimp only
      -- told
      refine t_seq ⟨_, rfl, _, rfl, _, rfl, .ref aS, n, cs, rfl, hsh, by omega, fun vL H4 s4 hL => ⟨two_le, fun pl hpl => ⟨a, pl, 100, _, rfl, (hB3'.same s4).same (same_new hpl), by omega, SqL.of upd_same, (hB3'.same s4).ne hpl, (by show (0 : Nat) < 2; decide), (by show (2 : Nat) ≤ 1000000; decide), fun r5 x5 H5 hx5 b5 hB5 => ?_⟩⟩⟩
      have ha4 : (upd H4 pl (.lst [V.ref aS, vL])) a = some (.lst xa3) := same_new hpl _ _ (s4 _ _ ha3)
      have st5 : Stp a H3 H5 := ((Stp.of s4).tr (Stp.of (same_new hpl))).tr (Stp.but b5)
      have hT5 := tabs_but (tabs_same (tabs_same hT3 s4) (same_new hpl)) b5 ha4
      obtain ⟨xa5, ha5⟩ := hB5.at
      obtain ⟨dT, sdT, hoT, hkT, hnT, htd5⟩ : ∃ dT, dSeq dT = true ∧ ShOk dT n cs ∧ dOk dT ∧ Nice dT 4 1000000 ∧ Dp K (off a H5) x5 dT := by
        have y := List.mem_of_getElem? hx5
        simp only [List.mem_cons, List.not_mem_nil, or_false] at y
        rcases y with rfl | rfl
        · exact ⟨shN n cs, rfl, shOk_N hn1 (by omega) (by omega) ok, dOk_N ok (by omega) (by omega), nSh, dp_keep (off_keep ha5) _ _ (noL_sh n cs) (hShA H5 st5)⟩
        · exact ⟨shL n cs, rfl, shOk_L hn1 (by omega) (by omega) ok, dOk_L ok (by omega) (by omega), nice_shL ok (by omega) (by omega), dp_same (((newer_off ha3).tr (off_of (same_new hpl))).tr (off_but b5)) _ _ hL⟩
      obtain ⟨aT, xT, rfl, _, _⟩ := dp_seq htd5 sdT
      have htd : ∀ H', Stp a H5 H' → Dp K H' (.ref aT) dT := fun H' st => dp_same off_same _ _ (dp_ext st.off _ _ htd5)
      try dsimp only
      refine t_seq (t_asg (t_cb1 (t_var rfl (hnT.repr (by decide) (by decide) (htd _ Stp.rfl') ?_))))
      try dsimp only
      -- links
      refine t_seq ⟨_, rfl, .ref aS, n, cs, rfl, hShA H5 st5, ok, hn64, by omega, fun p6 vs6 H6 s6 hp6 h6 d6 => ?_⟩
      have p6a : p6 ≠ a := Ne.symm (hB5.ne hp6)
      have ha6 := s6 _ _ ha5
      have st56 : Stp a H5 H6 := Stp.of s6
      have st6 := st5.tr st56
      have hLk : ∀ H', Stp a H6 H' → H' p6 = some (.lst vs6) ∧ DpAll K H' vs6 ((llks cs).map Shf.prD) := fun H' st =>
        ⟨st _ _ p6a h6 (fun _ z => by cases z), dpAll_keep (st.keep ha6) _ _ (noLs_map (fun _ => rfl) _) d6⟩
      have hT6 := tabs_same hT5 s6
      have hB6 : BoxN H6 a 101 := hB5.same s6
      try dsimp only
      refine t_seq (t_ifs (t_orT (t_tst (t_op (t_call1 (t_var rfl ⟨.ref aT, dT, rfl, htd H6 st56, hkT, .inr ⟨n, cs, hoT, trivial, fun r7 H7 s7 h7 => t_var rfl (ne_same h7 (hShA H7 (st6.tr (Stp.of s7))) nSh (by decide) ⟨_, rfl, iteF (t_tst (t_op (t_cb1 (t_call1 (t_var rfl ⟨.ref aT, dT, rfl, htd H7 (st56.tr (Stp.of s7)), hkT, .inr ⟨n, cs, hoT, trivial, fun r8 H8 s8 h8 => ?_⟩⟩)))))⟩)⟩⟩))))))
      have st68 : Stp a H6 H8 := (Stp.of s7).tr (Stp.of s8)
      have st8 := st6.tr st68
      have st58 := st56.tr st68
      obtain ⟨a8, _, rfl, _, _⟩ := tup_of h8
      refine nSh.repr (by decide) (by decide) h8 (t_cb1 (t_var rfl (nSh.repr (by decide) (by decide) (hShA H8 st8) ⟨rfl, _, rfl, ?_⟩)))
      rw [Shf.ne_str]
      refine iteF (t_next ?_)
      have hT8 := tabs_same hT6 (s7.tr s8)
      have hB8 := hB6.same (s7.tr s8)
      try dsimp only
      -- what is due
      refine t_seq (t_asg (t_thn (t_cb1 (t_cb1 ?_))))
      refine lc_sq (a := p6) (xs := vs6) (.inl (SqL.of (hLk H8 st68).1)) (fun j acc G => Same H8 G ∧ DpAll K G acc ((((llks cs).take j).filter fun q => decide (q.1 < q.2)).map Shf.prD)) ⟨Same.rfl', .nil⟩ (fun _ _ _ r => r.1) ?_ ?_ _ (fun R hR => ⟨_, rfl, hR⟩)
      · intro j x acc G D hx hG r
        obtain ⟨dz, hdz, hpz⟩ := (hLk H8 st68).2.at hx
        have hj : j < (llks cs).length := by
          have y := (List.getElem?_eq_some_iff.mp hdz).1
          rw [List.length_map] at y
          exact y
        have cj : (llks cs)[j]? = some (llks cs)[j] := List.getElem?_eq_getElem hj
        rw [List.getElem?_map, cj] at hdz
        cases hdz
        have hpG := dp_same r.1 _ _ hpz
        generalize (llks cs)[j] = p at cj hpz hpG
        obtain ⟨t, rfl, hTt⟩ := link_of (dp_same (same_upd (o := .lst acc) hG) _ _ hpG)
        refine ⟨rfl, ⟨_, rfl, ix_sq (j := 0) (.inr hTt) rfl ⟨_, rfl, ix_sq (j := 1) (.inr hTt) rfl ⟨_, _, rfl, rfl, _, rfl, ?_⟩⟩⟩⟩
        have e1 : decide ((p.1 : Int) < (p.2 : Int)) = decide (p.1 < p.2) := by
          rw [Bool.eq_iff_iff, decide_eq_true_eq, decide_eq_true_eq]
          omega
        rw [e1]
        have al := r.2.len
        rw [List.length_map] at al
        have al2 := List.length_filter_le (fun q : Nat × Nat => decide (q.1 < q.2)) ((llks cs).take j)
        rw [List.length_take] at al2
        have al3 := llks_len ok
        have al4 : cs.length * (2 * n) ≤ 4 * 18 := Nat.mul_le_mul hcl (by omega)
        have et : (llks cs).take (j + 1) = (llks cs).take j ++ [p] := by
          rw [List.take_add_one, cj]
          rfl
        by_cases h : p.1 < p.2
        · rw [decide_eq_true h]
          refine iteT ⟨_, rfl, lc_put hG (by rw [sizeLine_eq]; omega) ⟨r.1, ?_⟩⟩
          rw [et, List.filter_append, List.filter_cons, if_pos (by rw [decide_eq_true_eq]; exact h), List.filter_nil, List.map_append]
          exact dAll_snoc hpG r.2
        · rw [decide_eq_false h]
          refine iteF ⟨acc, G, hG, ⟨r.1, ?_⟩, rfl⟩
          rw [et, List.filter_append, List.filter_cons, if_neg (by rw [decide_eq_true_eq]; exact h), List.filter_nil, List.append_nil]
          exact r.2
      intro D acc G hG r
      have vl : vs6.length = (llks cs).length := by rw [d6.len, List.length_map]
      rw [vl, List.take_length] at r
      have fl := filter_all ok
      have fl2 : cs.length * n ≤ 4 * 9 := Nat.mul_le_mul hcl hn9
      refine sorted_set (SqL.of upd_same) (dpAll_same (same_upd hG) _ _ r.2) (fun p hp => ?_) (by omega) fun p9 vs9 H9 s9 hp9 h9 d9 => ?_
      · have y := llks_lt ok p (List.mem_filter.mp hp).1
        omega
      refine kTup_sq (.inl (SqL.of h9)) fun q10 H10 s10 hq10 => ?_
      rw [← sd_congr fun p => due_mem ok p] at d9
      have hDue0 : Dp K H10 (.ref q10) (lkD (sdL (lks cs))) := .tup hq10 (dpAll_same s10 _ _ d9)
      have sA : Same H8 H10 := ((r.1.tr (same_upd hG)).tr s9).tr s10
      have st10 := st8.tr (Stp.of sA)
      have st510 := st58.tr (Stp.of sA)
      have st610 := st68.tr (Stp.of sA)
      have hT10 := tabs_same hT8 sA
      have hB10 := hB8.same sA
      obtain ⟨xa10, ha10⟩ := hB10.at
      have hDue : ∀ H', Stp a H10 H' → Dp K H' (.ref q10) (lkD (sdL (lks cs))) := fun H' st => dp_keep (st.keep ha10) _ _ (noL_lk _) hDue0
      have sdb : ∀ p ∈ sdL (lks cs), p.1 < 64 ∧ p.2 < 64 := fun p hp => b64 p ((sd_mem b64).mp hp)
      have nDue : Nice (lkD (sdL (lks cs))) 2 1000000 := nice_lkD sdb (by have y := sd_len (lks cs); omega)
      clear hT8 hB8 sA d9 h9 s9 s10 r
      try dsimp only
      refine t_seq (t_ifs (t_tst (t_op (t_cb1 (t_call1 (t_var rfl ⟨.ref aT, dT, rfl, htd H10 st510, hkT, .inr ⟨n, cs, hoT, ⟨hn64, lk9⟩, fun r11 H11 s11 h11 => ?_⟩⟩))))))
      obtain ⟨a11, _, rfl, _, _⟩ := tup_of h11
      refine nDue.repr (by decide) (by decide) h11 (t_cb1 (t_var rfl (nDue.repr (by decide) (by decide) (hDue H11 (Stp.of s11)) ⟨rfl, _, rfl, ?_⟩)))
      rw [Shf.ne_str]
      refine iteF (t_next ?_)
      try dsimp only
      have st11 := st10.tr (Stp.of s11)
      have hT11 := tabs_same hT10 s11
      have hB11 := hB10.same s11
      -- rows
      have hLk11 := hLk H11 (st610.tr (Stp.of s11))
      have hTS11 := hTSA H11 st11
      refine t_seq (t_asg (t_thn ⟨_, rfl, ix_sq (j := 0) (.inr hTS11) rfl ⟨(n : Int), rfl, by omega, by omega, fun D hD => ?_⟩⟩))
      rw [show ((n : Nat) : Int).toNat = n by omega]
      have npr : Nice (.list ((llks cs).map Shf.prD)) 2 1000000 := by
        have y := niceA_map (f := Shf.prD) (l := llks cs) (dp := 1) (a := 20 + 1 + (20 + 1 + 0)) fun p hp => nice_tup (niceA_cons (nice_nat (by have := llks_lt ok p hp; omega)) (niceA_cons (nice_nat (by have := llks_lt ok p hp; omega)) niceA_nil))
        refine (nice_lst y).le (Nat.le_refl _) ?_
        have al3 := llks_len ok
        have al4 : cs.length * (2 * n) ≤ 4 * 18 := Nat.mul_le_mul hcl (by omega)
        omega
      refine lc_rg (lo := 0) (n := n) (fun j acc G => Same H11 G ∧ DpAll K G acc ((((List.range j).map fun one => (List.range n).filter fun two => decide ((one, two) ∈ llks cs))).map fun r => PyData.tuple (nI r))) hD ⟨Same.rfl', .nil⟩ ?_ ?_
      · intro j acc G hj hG r
        rw [Int.zero_add]
        have s60 : Same G (upd G D (.lst acc)) := same_upd hG
        refine ⟨rfl, t_yes (iteT (t_thn ⟨_, rfl, ix_sq (j := 0) (.inr (sqt_same (r.1.tr s60) hTS11)) rfl ⟨(n : Int), rfl, by omega, by omega, fun D3 hD3 => ?_⟩⟩))⟩
        rw [show ((n : Nat) : Int).toNat = n by omega]
        refine lc_rg (lo := 0) (n := n) (fun k acc3 G3 => Same (upd G D (.lst acc)) G3 ∧ acc3 = nV ((List.range k).filter fun two => decide ((j, two) ∈ llks cs))) hD3 ⟨Same.rfl', rfl⟩ ?_ ?_
        · rintro k acc3 G3 hk hG3 ⟨s7b, rfl⟩
          rw [Int.zero_add]
          refine ⟨rfl, ⟨_, rfl, _, rfl, two_le, fun q hq1 => ?_⟩⟩
          have sB : Same (upd G3 D3 (.lst (nV ((List.range k).filter fun two => decide ((j, two) ∈ llks cs))))) (upd (upd G3 D3 (.lst (nV ((List.range k).filter fun two => decide ((j, two) ∈ llks cs))))) q (.tup [V.int (j : Int), V.int (k : Int)])) := same_new hq1
          have sC := ((r.1.tr s60).tr (s7b.tr (same_upd (o := .lst (nV ((List.range k).filter fun two => decide ((j, two) ∈ llks cs)))) hG3))).tr sB
          refine ⟨_, rfl, .tuple [.int (j : Int), .int (k : Int)], (llks cs).map Shf.prD, .tup (SqT.of upd_same) (.cons (.int _) (.cons (.int _) .nil)), .lst (SqL.of (sC _ _ hLk11.1)) (dpAll_same sC _ _ hLk11.2), ?_, npr.shaped (by decide), _, rfl, ?_⟩
          · exact (nice_tup (niceA_cons (nice_nat (by omega)) (niceA_cons (nice_nat (by omega)) niceA_nil))).shaped (by decide)
          rw [Shf.any_pr]
          obtain ⟨G4, g4, sg4, e4⟩ := core_of sB hG3
          rw [e4]
          have al : (nV ((List.range k).filter fun two => decide ((j, two) ∈ llks cs))).length < sizeLine := by
            have y := List.length_filter_le (fun two => decide ((j, two) ∈ llks cs)) (List.range k)
            rw [List.length_range] at y
            rw [List.length_map, sizeLine_eq]
            omega
          by_cases h : (j, k) ∈ llks cs
          · rw [decide_eq_true h]
            refine iteT ⟨_, rfl, lc_put g4 al ⟨s7b.tr sg4, ?_⟩⟩
            rw [filter_range_succ, decide_eq_true h, if_pos rfl, show nV ((List.range k).filter (fun two => decide ((j, two) ∈ llks cs)) ++ [k]) = nV ((List.range k).filter (fun two => decide ((j, two) ∈ llks cs))) ++ [V.int (k : Int)] from List.map_append]
          · rw [decide_eq_false h]
            refine iteF ⟨_, G4, g4, ⟨s7b.tr sg4, ?_⟩, rfl⟩
            rw [filter_range_succ, decide_eq_false h, if_neg (by decide), List.append_nil]
        · rintro acc3 G3 hG3 ⟨s7b, rfl⟩
          refine kTup_sq (.inl (SqL.of upd_same)) fun p H7b s8b hp => ?_
          obtain ⟨G4, g4, sg4, rfl⟩ := core_of (s7b.tr ((same_upd hG3).tr s8b)) hG
          have al := r.2.len
          rw [List.length_map, List.length_map, List.length_range] at al
          refine lc_put g4 (by rw [sizeLine_eq]; omega) ⟨r.1.tr sg4, ?_⟩
          rw [List.range_succ, List.map_append, List.map_append]
          exact dAll_snoc (.tup (sqt_core hp) (dAll_nat _)) (dpAll_same sg4 _ _ r.2)
      intro acc G hG r
      refine kTup_sq (.inl (SqL.of upd_same)) fun q12 H12 s12 hq12 => ?_
      have hRows0 : Dp K H12 (.ref q12) (rwD (rowsOf n (sdL (lks cs)))) := by
        rw [← rows_eq ok hn64]
        exact .tup hq12 (dpAll_same ((same_upd hG).tr s12) _ _ r.2)
      have sA2 : Same H11 H12 := r.1.tr ((same_upd hG).tr s12)
      have st12 := st11.tr (Stp.of sA2)
      have st512 := (st510.tr (Stp.of s11)).tr (Stp.of sA2)
      have stD12 : Stp a H10 H12 := (Stp.of s11).tr (Stp.of sA2)
      have hT12 := tabs_same hT11 sA2
      have hB12 := hB11.same sA2
      clear r s12 hq12 sA2
      have nRows := nice_rows ok hn64
      have nParts := nice_parts (n := n) (E := Lk (lks cs)) hn64
      have lim1 : limS n cs := ⟨hn64, lk9⟩
      try dsimp only
      refine t_seq (t_ifs (t_orT (t_tst (t_op (t_cb1 (t_call1 (t_var rfl ⟨.ref aT, dT, rfl, htd H12 st512, hkT, .inr ⟨n, cs, hoT, lim1, fun r13 H13 s13 h13 => ?_⟩⟩)))))))
      obtain ⟨a13, _, rfl, _, _⟩ := tup_of h13
      refine nRows.repr (by decide) (by decide) h13 (t_cb1 (t_var rfl (nRows.repr (by decide) (by decide) (dp_same s13 _ _ hRows0) ⟨rfl, _, rfl, ?_⟩)))
      rw [Shf.ne_str]
      refine iteF (t_tst (t_op (t_cb1 (t_call1 (t_var rfl ⟨.ref aT, dT, rfl, htd H13 (st512.tr (Stp.of s13)), hkT, .inr ⟨n, cs, hoT, lim1, fun r14 H14 s14 h14 => ?_⟩⟩)))))
      obtain ⟨a14, _, rfl, _, _⟩ := tup_of h14
      have sA3 := s13.tr s14
      have st14 := st12.tr (Stp.of sA3)
      have stD14 := stD12.tr (Stp.of sA3)
      refine nParts.repr (by decide) (by decide) h14 (t_cb1 ⟨_, rfl, ix_sq (j := 0) (.inr (hTSA H14 st14)) rfl ⟨_, rfl, n, .ref q10, sdL (lks cs), rfl, hDue H14 stD14, fun p hp => ?_, hn64, fun r15 H15 s15 h15 => ?_⟩⟩)
      · have y := lks_lt ok p ((sd_mem b64).mp hp)
        exact ⟨y.1, y.2.1⟩
      rw [law_parts ok hn64] at h15
      obtain ⟨a15, _, rfl, _, _⟩ := tup_of h15
      refine nParts.repr (by decide) (by decide) h15 ⟨rfl, _, rfl, ?_⟩
      rw [Shf.ne_str]
      refine iteF (t_next ?_)
      have st15 := st14.tr (Stp.of s15)
      have st515 := (st512.tr (Stp.of sA3)).tr (Stp.of s15)
      have hT15 := tabs_same (tabs_same hT12 sA3) s15
      have hB15 : BoxN H15 a 101 := (hB12.same sA3).same s15
      try dsimp only
      -- a wrong chain
      have hAC15 : ∀ H', Stp a H3 H' → DpAll K H' xsC (cs.map chN) := fun H' st => dpAll_keep (st.keep ha3) _ _ (noLs_map noL_ch cs) hAC
      have xlC : xsC.length = cs.length := by rw [hAC.len, List.length_map]
      refine t_seq ⟨_, rfl, ix_sq (j := 1) (.inr (hTSA H15 st15)) rfl ⟨aC, xsC, rfl, .inr ((st15.keep ha3).sqt hSC), fun pC hpC => ?_⟩⟩
      have pCa : pC ≠ a := Ne.symm (hB15.ne hpC)
      have hB16 := hB15.same (same_new (o := .lst xsC) hpC)
      try dsimp only
      refine t_seq ⟨_, rfl, _, rfl, pC, xsC, rfl, .inl (SqL.of upd_same), _, _, rfl, rfl, a, (xsC.length : Int) + 1, 101, rfl, hB16, by omega, by omega, by omega, fun kk H17 hkk b17 hB17 => ?_⟩
      have st1517 : Stp a H15 H17 := (Stp.of (same_new hpC)).tr (Stp.but b17)
      have st17 := st15.tr st1517
      have hC17 : H17 pC = some (.lst xsC) := b17 _ _ pCa upd_same
      have hT17 := tabs_but (tabs_same hT15 (same_new hpC)) b17 (same_new hpC _ _ (hB15.at.choose_spec))
      have hB17' : BoxN H17 a 102 := hB17
      have hkk' : kk ≤ xsC.length := by omega
      try dsimp only
      refine t_seq ⟨_, rfl, ix_sq (j := 0) (.inr (hTSA H17 st17)) rfl ⟨_, rfl, _, rfl, kk, rfl, pC, xsC, rfl, SqL.of hC17, fun pA hpA => ?_⟩⟩
      rw [cut_take]
      have s17A : Same H17 (upd H17 pA (.lst (xsC.take kk))) := same_new hpA
      have hB17A := hB17'.same s17A
      refine ⟨_, rfl, _, rfl, ix_sq (j := 0) (.inr (hTSA _ (st17.tr (Stp.of s17A)))) rfl ⟨a, n, 102, rfl, hB17A, by omega, hn1, by omega, fun wv H18 wd b18 hB18 hwb hwk hwd => ⟨(by show (1 : Nat) ≤ sizeLine; rw [sizeLine_eq]; decide), fun pB hpB => ?_⟩⟩⟩
      have pAa : pA ≠ a := Ne.symm (hB17'.ne hpA)
      have hA18 : H18 pA = some (.lst (xsC.take kk)) := b18 _ _ pAa upd_same
      have hC18 : H18 pC = some (.lst xsC) := b18 _ _ pCa (s17A _ _ hC17)
      have st18 : Stp a H3 H18 := (st17.tr (Stp.of s17A)).tr (Stp.but b18)
      obtain ⟨xa17A, ha17A⟩ := hB17A.at
      have hT18 := tabs_but (tabs_same hT17 s17A) b18 ha17A
      have sB : Same H18 (upd H18 pB (.lst [wv])) := same_new hpB
      refine ⟨pA, pB, xsC.take kk, [wv], rfl, rfl, sB _ _ hA18, upd_same, by rw [List.length_take, sizeLine_eq, List.length_singleton]; omega, fun pAB hpAB => ?_⟩
      have sAB := sB.tr (same_new (o := .lst (xsC.take kk ++ [wv])) hpAB)
      refine ⟨_, rfl, _, rfl, kk, rfl, pC, xsC, rfl, SqL.of (sAB _ _ hC18), fun pD hpD => ?_⟩
      rw [cut_drop]
      have sD := sAB.tr (same_new (o := .lst (xsC.drop kk)) hpD)
      refine ⟨pAB, pD, xsC.take kk ++ [wv], xsC.drop kk, rfl, rfl, same_new hpD _ _ upd_same, upd_same, by rw [List.length_append, List.length_take, List.length_singleton, List.length_drop, sizeLine_eq]; omega, fun pE hpE => ⟨(by show (1 : Nat) ≤ sizeLine; rw [sizeLine_eq]; decide), fun pN hpN => ?_⟩⟩
      have sE := sD.tr (same_new (o := .lst (xsC.take kk ++ [wv] ++ xsC.drop kk)) hpE)
      have sN := sE.tr (same_new (o := .lst [V.non]) hpN)
      refine ⟨pE, pN, xsC.take kk ++ [wv] ++ xsC.drop kk, [V.non], rfl, rfl, same_new hpN _ _ upd_same, upd_same, by rw [List.length_append, List.length_append, List.length_take, List.length_singleton, List.length_singleton, List.length_drop, sizeLine_eq]; omega, fun pF hpF => ⟨two_le, fun pW hpW => ?_⟩⟩
      have sF := sN.tr (same_new (o := .lst (xsC.take kk ++ [wv] ++ xsC.drop kk ++ [V.non])) hpF)
      have sW := sF.tr (same_new (o := .tup [V.int (n : Int), V.ref pF]) hpW)
      have hB18' : BoxN H18 a 103 := hB18
      have pFa : pF ≠ a := Ne.symm ((hB18'.same sN).ne hpF)
      have pWa : pW ≠ a := Ne.symm ((hB18'.same sF).ne hpW)
      have hFW := same_new (o := HO.tup [V.int (n : Int), V.ref pF]) hpW pF _ upd_same
      have hWW : (upd (upd (upd (upd (upd (upd (upd H18 pB (.lst [wv])) pAB (.lst (xsC.take kk ++ [wv]))) pD (.lst (xsC.drop kk))) pE (.lst (xsC.take kk ++ [wv] ++ xsC.drop kk))) pN (.lst [V.non])) pF (.lst (xsC.take kk ++ [wv] ++ xsC.drop kk ++ [V.non]))) pW (.tup [V.int (n : Int), V.ref pF])) pW = some (.tup [V.int (n : Int), V.ref pF]) := upd_same
      generalize eHW : upd (upd (upd (upd (upd (upd (upd H18 pB (.lst [wv])) pAB (.lst (xsC.take kk ++ [wv]))) pD (.lst (xsC.drop kk))) pE (.lst (xsC.take kk ++ [wv] ++ xsC.drop kk))) pN (.lst [V.non])) pF (.lst (xsC.take kk ++ [wv] ++ xsC.drop kk ++ [V.non]))) pW (.tup [V.int (n : Int), V.ref pF]) = HW at sW hFW hWW ⊢
      have stW := st18.tr (Stp.of sW)
      have hTW := tabs_same hT18 sW
      have hBW := hB18'.same sW
      obtain ⟨xaW, haW⟩ := hBW.at
      have hwr : Dp K (off a HW) (.ref pW) (wrD n (cs.map chN) kk wd) := by
        have dz : DpAll K (off a HW) xsC (cs.map chN) := dpAll_keep (off_keep haW) _ _ (noLs_map noL_ch cs) (hAC15 HW stW)
        refine .tup (SqT.of ((off_at pWa).trans hWW)) (.cons (.int _) (.cons (.lst (SqL.of ((off_at pFa).trans hFW)) ?_) .nil))
        exact dAll_app (dAll_app (dAll_app (dAll_take kk dz) (.cons (dp_same (off_of sW) _ _ hwd) .nil)) (dAll_drop kk dz)) (.cons .non .nil)
      have hwb2 : ShBad (wrD n (cs.map chN) kk wd) (kk : Int) := wr_bad hn1 (by omega) (fun z hz => by
        obtain ⟨c, hc, rfl⟩ := List.mem_map.mp hz
        exact (dChain_N (ok c hc)).1) (by rw [List.length_map]; omega) (by rw [List.length_map]; omega) hwb
      have hwk2 : dOk (wrD n (cs.map chN) kk wd) := wr_ok ok (by omega) hcl hwk
      have hWr : ∀ H', Stp a HW H' → Dp K H' (.ref pW) (wrD n (cs.map chN) kk wd) := fun H' st => dp_same off_same _ _ (dp_ext st.off _ _ hwr)
      have fin2 : ∀ H', Stp a HW H' → LamX.ExtN H H' := fun H' st => fin H' (stW.tr st)
      have stTW : Stp a H5 HW := ((st515.tr st1517).tr (Stp.of s17A)).tr ((Stp.but b18).tr (Stp.of sW))
      clear hFW hWW eHW sW sF sN sE sD sAB
      try dsimp only
      refine t_seq ?_
      refine for_new (xs := [.ref (ea K "need_shelf"), .ref (ea K "shelf_links"), .ref (ea K "linked_cells"), .ref (ea K "cell_parts")]) (fun p j σ H' => ∃ z : Option V, σ = [some (.ref s0), some (.int (i : Int)), some (.ref a), some (.ref aS), some (.ref aT), some (.str dT.shown), some (.ref p6), some (.ref q10), z8, some (.ref q12), z10, z11, some (.ref pC), some (.int (kk : Int)), some (.ref pW), z, z16, z17, z18] ∧ Stp a HW H' ∧ LamX.Tabs (tbs K tbX) H' ∧ BoxN H' a 103 ∧ H' p = some (.tup [.ref (ea K "need_shelf"), .ref (ea K "shelf_links"), .ref (ea K "linked_cells"), .ref (ea K "cell_parts")]))
        (fun p hp => ⟨_, rfl, Stp.of (same_new hp), tabs_same hTW (same_new hp), hBW.same (same_new hp), upd_same⟩) (fun p j σ H' ⟨_, _, _, _, _, h⟩ => SqT.of h) ?_ ?_ _ (fun R hR => ⟨(by show (4 : Nat) ≤ sizeLine; rw [sizeLine_eq]; decide), hR⟩)
      · rintro p j x σ H' hx ⟨z, rfl, stp, hTp, hBp, hp⟩
        have pa : p ≠ a := by
          obtain ⟨xp, hap⟩ := hBp.at
          rintro rfl
          rw [hp] at hap
          cases hap
        obtain ⟨f, rfl, hf⟩ : ∃ f, x = .ref f ∧ wS K f = some (spAny K) := by
          have y := List.mem_of_getElem? hx
          simp only [List.mem_cons, List.not_mem_nil, or_false] at y
          rcases y with rfl | rfl | rfl | rfl
          · exact ⟨_, rfl, if_pos (by unfold works; simp)⟩
          · exact ⟨_, rfl, if_pos (by unfold works; simp)⟩
          · exact ⟨_, rfl, if_pos (by unfold works; simp)⟩
          · exact ⟨_, rfl, if_pos (by unfold works; simp)⟩
        unfold gName
        try dsimp only
        refine t_ifs (t_tst (t_op ⟨hTp, fun H5a e5 t5 => ⟨f, spAny K, rfl, hf, _, rfl, .ref pW, _, rfl, hWr H5a (stp.tr (Stp.ext e5)), hwk2, (kk : Int), hwb2, err_at fun p6b H6a s6a h6a => ?_⟩⟩))
        refine mk_tup (K := K) (ds := [.str "shelf", .int (kk : Int)]) (mka_cons mk_str (mka_cons (mk_varI rfl) mka_nil)) (by simp) _ _ fun v7 H7a s7a h7a => ?_
        refine ne_same (dp_same s7a _ _ h6a) (dp_same newer_all _ _ h7a) (nice_at (k := kk) (by omega)) (by decide) ⟨_, rfl, iteF (t_next ?_)⟩
        have sA4 := s6a.tr s7a
        exact ⟨_, rfl, (stp.tr (Stp.ext e5)).tr (Stp.of sA4), tabs_same t5 sA4, (hBp.ext e5).same sA4, sA4 _ _ (e5 _ _ hp (fun _ z => by cases z))⟩
      rintro p σ H19 ⟨z, rfl, st19, hT19, hB19, _⟩
      try dsimp only
      -- a great shelf
      refine t_seq ⟨_, rfl, a, 4, 103, rfl, hB19, by omega, by omega, by omega, fun mm H20 hmm b20 hB20 => ⟨_, _, rfl, rfl, ?_⟩⟩
      try dsimp only
      rw [show ((199 : Int) + (mm : Nat)) = ((199 + mm : Nat) : Int) by omega]
      obtain ⟨mn, emn⟩ : ∃ mn, mn = 199 + mm := ⟨_, rfl⟩
      rw [← emn]
      have hB20' : BoxN H20 a 104 := hB20
      obtain ⟨xa19, ha19⟩ := hB19.at
      have st20 : Stp a HW H20 := st19.tr (Stp.but b20)
      have hT20 := tabs_but hT19 b20 ha19
      have hmn : mn ≤ 3000 := by omega
      refine t_seq (t_asg (mk_tup (K := K) (ds := [.int 1, .list (List.replicate mn (.tuple [.str "list", .list [.int 0]]))]) (mka_cons mk_int (mka_cons (mkl_rep (mkl_lst (ds := [.tuple [.str "list", .list [.int 0]]]) (mka_cons (mk_tup (mka_cons mk_str (mka_cons (mk_lst (mka_cons mk_int mka_nil)) mka_nil))) mka_nil) (by simp)) rfl hmn).mk mka_nil)) (by simp) _ _ fun vG H24 s2G hGr => ?_))
      obtain ⟨xa20, ha20⟩ := hB20'.at
      have st24 := st20.tr (Stp.of s2G)
      have hT24 := tabs_same hT20 s2G
      have hB24 := hB20'.same s2G
      have hGr2 : Dp K (off a H24) vG (grD mn) := dp_same (newer_off ha20) _ _ hGr
      have hGrA : ∀ H', Stp a H24 H' → Dp K H' vG (grD mn) := fun H' st => dp_same off_same _ _ (dp_ext st.off _ _ hGr2)
      try dsimp only
      have great : ∀ Z : VK, (∀ H26, Stp a H24 H26 → LamX.Tabs (tbs K tbX) H26 → BoxN H26 a 104 → Z (.bl false) H26) →
          tOp (rNeD K) (LamX.tLam (tbs K tbX) (TErr K ecs) fun E => tCall (spShR K (fun _ _ => True) shN) [] E (tCons (tVar 17) tNil)) (tIf (tTest (tOp (rI0 fun i j => V.bl (decide (i ≤ j))) (tVar 16) (tC (V.int 200)))) (tC V.non) (tTup (tCons (tC (V.str "shelf")) (tCons (tC (V.int 200)) tNil)))) [some (.ref s0), some (.int (i : Int)), some (.ref a), some (.ref aS), some (.ref aT), some (.str dT.shown), some (.ref p6), some (.ref q10), z8, some (.ref q12), z10, z11, some (.ref pC), some (.int (kk : Int)), some (.ref pW), z, some (.int (mn : Int)), some vG, z18] H24 Z := by
        intro Z hZ
        refine ⟨hT24, fun H25 e25 t25 => ⟨_, rfl, vG, grD mn, rfl, hGrA H25 (Stp.ext e25), gr_ok hmn, ?_⟩⟩
        by_cases h2 : mn ≤ 200
        · refine .inr ⟨1, List.replicate mn (false, [0]), ⟨gr_head mn, gr_none h2, rfl, ?_⟩, trivial, fun r H26 s26 h26 => ⟨_, rfl, _, _, rfl, rfl, _, rfl, ?_⟩⟩
          · show (List.replicate mn _).map chOf = (List.replicate mn _).map chI
            rw [List.map_replicate, List.map_replicate, show chOf (PyData.tuple [PyData.str "list", PyData.list [PyData.int 0]]) = chI (false, [0]) by decide +kernel]
          · rw [decide_eq_true (show ((mn : Nat) : Int) ≤ 200 by omega)]
            exact iteT (ne_same .non .non (nice_of (dp := 0) (wt := 0) (by decide +kernel)) (by decide) (hZ H26 ((Stp.ext e25).tr (Stp.of s26)) (tabs_same t25 s26) ((hB24.ext e25).same s26)))
        · refine .inl ⟨((200 : Nat) : Int), .chain 200 (gr_head mn) (gr_some (by omega)), err_at fun p H26 s26 h26 => ⟨_, rfl, _, _, rfl, rfl, _, rfl, ?_⟩⟩
          rw [decide_eq_false (show ¬ ((mn : Nat) : Int) ≤ 200 by omega)]
          refine iteF (mk_tup (K := K) (ds := [.str "shelf", .int 200]) (mka_cons mk_str (mka_cons mk_int mka_nil)) (by simp) _ _ fun v7 H27 s27 h27 => ?_)
          exact ne_same (dp_same s27 _ _ h26) (dp_same newer_all _ _ h27) (nice_at (k := 200) (by decide)) (by decide) (hZ H27 ((Stp.ext e25).tr (Stp.of (s26.tr s27))) (tabs_same t25 (s26.tr s27)) ((hB24.ext e25).same (s26.tr s27)))
      refine t_seq (t_ifs (t_tst (great _ fun H26 st26' hT26 hB26 => ⟨_, rfl, iteF (t_next ?_)⟩)))
      have st26 := st24.tr st26'
      try dsimp only
      -- none at all
      refine t_seq ⟨_, rfl, mkl_lst (K := K) (ds := nonesBad) (mka_cons mk_non (mka_cons mk_int (mka_cons (mk_tup (mka_cons mk_int mka_nil)) (mka_cons (mk_tup (mka_cons mk_int (mka_cons (mk_tup mka_nil) mka_nil))) (mka_cons (mk_tup (mka_cons mk_int (mka_cons (mk_tup mka_nil) mka_nil))) (mka_cons (mk_tup (mka_cons mk_bl (mka_cons (mk_tup mka_nil) mka_nil))) (mka_cons (mk_tup (mka_cons mk_int (mka_cons mk_non mka_nil))) (mka_cons (mk_tup (mka_cons mk_int (mka_cons mk_str mka_nil))) (mka_cons (mk_tup (mka_cons mk_int (mka_cons (mk_tup mka_nil) (mka_cons (mk_tup mka_nil) mka_nil)))) (mka_cons (mk_tup (mka_cons mk_str (mka_cons (mk_tup mka_nil) mka_nil))) mka_nil)))))))))) (show (10 : Nat) ≤ 3000 by decide) _ _ fun pn vsn H27 s27 hpn hn27 d27 => ?_⟩
      have l27 : vsn.length = 10 := d27.len
      obtain ⟨xa26, ha26⟩ := hB26.at
      refine ⟨a, pn, 104, vsn, rfl, hB26.same s27, by omega, SqL.of hn27, hB26.ne hpn, by omega, by omega, fun r28 x28 H28 hx28 b28 hB28 => ?_⟩
      obtain ⟨dn, hdn, hpn2⟩ := d27.at hx28
      obtain ⟨nb1, nb2⟩ := nones_bad dn (List.mem_of_getElem? hdn)
      have hNo : Dp K (off a H28) x28 dn := dp_same ((newer_off ha26).tr (off_but b28)) _ _ hpn2
      have st28 : Stp a HW H28 := (st26.tr (Stp.of s27)).tr (Stp.but b28)
      have hT28 := tabs_but (tabs_same hT26 s27) b28 (s27 _ _ ha26)
      have hB28' : BoxN H28 a 105 := hB28
      have hNoA : ∀ H', Stp a H28 H' → Dp K H' x28 dn := fun H' st => dp_same off_same _ _ (dp_ext st.off _ _ hNo)
      have none_ : ∀ (lim : Nat → List NCh → Prop) (res : Nat → List NCh → PyData) (H29 : Hp), Stp a H28 H29 → LamX.Tabs (tbs K tbX) H29 → BoxN H29 a 105 → ∀ Z : VK, (∀ H30, Stp a H29 H30 → LamX.Tabs (tbs K tbX) H30 → BoxN H30 a 105 → Z (.bl false) H30) →
          tOp (rNeD K) (LamX.tLam (tbs K tbX) (TErr K ecs) fun E => tCall (spShR K lim res) [] E (tCons (tVar 18) tNil)) (tTup (tCons (tC (V.str "shelf")) (tCons (tUn (rU fun i => V.int (-i)) (tC (V.int 1))) tNil))) [some (.ref s0), some (.int (i : Int)), some (.ref a), some (.ref aS), some (.ref aT), some (.str dT.shown), some (.ref p6), some (.ref q10), z8, some (.ref q12), z10, z11, some (.ref pC), some (.int (kk : Int)), some (.ref pW), z, some (.int (mn : Int)), some vG, some x28] H29 Z := by
        intro lim res H29 st29 hT29 hB29 Z hZ
        refine ⟨hT29, fun H30 e30 t30 => ⟨_, rfl, x28, dn, rfl, hNoA H30 (st29.tr (Stp.ext e30)), nb2, .inl ⟨-1, .head nb1, err_at fun p H31 s31 h31 => ?_⟩⟩⟩
        refine mk_tup (K := K) (ds := [.str "shelf", .int (-1)]) (mka_cons mk_str (mka_cons mk_neg mka_nil)) (by simp) _ _ fun v7 H32 s32 h32 => ?_
        exact ne_same (dp_same s32 _ _ h31) (dp_same newer_all _ _ h32) (nice_of (dp := 1) (wt := 100) (by decide +kernel)) (by decide) (hZ H32 ((Stp.ext e30).tr (Stp.of (s31.tr s32))) (tabs_same t30 (s31.tr s32)) ((hB29.ext e30).same (s31.tr s32)))
      try dsimp only
      refine t_seq (t_ifs (t_tst (none_ _ _ H28 Stp.rfl' hT28 hB28' _ fun H30 st30 hT30 hB30 => ⟨_, rfl, iteF (t_next ?_)⟩)))
      try dsimp only
      refine t_seq (t_ifs (t_tst (none_ _ _ H30 st30 hT30 hB30 _ fun H31 st31 hT31 hB31 => ⟨_, rfl, iteF (t_next ?_)⟩)))
      have stZ : Stp a HW H31 := (st28.tr st30).tr st31
      try dsimp only
      refine t_ifs (t_orT (t_tst (t_op (t_cb1 (t_var rfl (hnT.repr (by decide) (by decide) (htd H31 (stTW.tr stZ)) (t_var rfl ⟨rfl, _, rfl, ?_⟩)))))))
      rw [Shf.ne_str]
      refine iteF ?_
      refine ⟨_, rfl, a, 105, rfl, hB31, by omega, hT31, fun H32 st32 hB32 hT32 => ⟨_, rfl, iteF (t_next ?_)⟩⟩
      exact ⟨_, _, _, _, _, _, _, _, _, _, _, _, _, _, _, _, _, _, rfl, fin2 H32 (stZ.tr st32), hT32⟩
    · rintro σ H1 ⟨z1, z2, z3, z4, z5, z6, z7, z8, z9, z10, z11, z12, z13, z14, z15, z16, z17, z18, rfl, eH, hT1⟩
      try dsimp only
      exact hq H1
end
end K01

namespace K01
open PySem PySem.Spec PyProof.Rows L2 Shf
def cs (K : PySem.W.Frag) : List (Addr × Addr) := tf.map (He.cT K)
theorem main {P : Program} {w : World} {K : PySem.W.Frag} {h : Heap} {mg : PySem.Str → Option Value} {f : Addr} (X : K.In h) (G : h.Ns mainGlobals mg) (hfa : mg ("law" : PySem.Str) = some (.ref f)) (c : SaysY cfg.facts cfg.fn tf h K) :
    ∃ fd : FuncData, (∀ (s : Shared) (v : Value), BindsTo s fd ⟨[v], []⟩ [("_law_script", v)]) ∧ ∀ base : Heap, K.In base → base.Ns mainGlobals mg → (∀ p ∈ cs K, LamX.TabB base mg p.1 p.2) → FnG P w K mg base (L2.CX P w) 12 f fd ["_law_script"] (spLaw K) := by
  have T := top_of X G c.s
  obtain ⟨fd, hh⟩ := has_of c.s T 30 "law" s_law rfl
  have e := hfa.symm.trans hh.g
  cases e
  have b := FunD.bindsA (ps := ["_law_script"]) hh.F fun _ _ _ _ _ _ us hl => match us, hl with | [_], _ => rfl
  refine ⟨fd, fun s v => b s [v] rfl, fun base _ _ tb => ?_⟩
  exact fg_law c.s T c.two (fun y hy => tb (He.cT K (y, none)) (List.mem_map.mpr ⟨(y, none), by
    unfold tbX at hy
    unfold tf
    simp only [List.mem_cons, List.not_mem_nil, or_false] at hy ⊢
    rcases hy with rfl | rfl <;> simp, rfl⟩)) hh
end K01
open PySem PySem.W PySem.Calls PyProof.Rows
theorem PySem.Challenge.cw_slowshelves_k01_whole_shelves_and_their_holds : PySem.Challenge.rw_slowshelves_k01_whole_shelves_and_their.Holds := by
  w_on; o_law
  refine HandSHeadRun.head_any (r := K01.R) (q := K01.qv) (H := K01.hk) (ob := K01.ob) (M := 12000) (loose := K01.loose) (d := HandSHeadRun.topDef K01.R.prog 39) (kwd := []) K01.ob_eq
    (by kernel_rfl) (fun s => by kernel_rfl) K01.run (by kernel_rfl) (by kernel_rfl) (by kernel_rfl) (by rfl) (by first | assumption | decide +kernel) (by decide +kernel) ⟨rfl, rfl, rfl, rfl, rfl, by decide +kernel⟩ ?hw ?hc
  case hw => w_witness2
  case hc =>
    refine L2.walk_ofTG (l := PySem.Challenge.rw_slowshelves_k01_whole_shelves_and_their) (n := 63) (k := 12) (x := "_law_script") (CX := fun w => L2.CX K01.R.prog w) rfl (by decide) (by kernel_rfl) ⟨rfl, by decide, by decide⟩ ?F ?X
    case X =>
      intro w H s e s' hx
      obtain ⟨_, _, _, _, _, _, _, _, _, _, _, _, z⟩ := hx
      exact z
    case F =>
      intro w mg fa h Y G hmg0
      obtain ⟨K, KX, c⟩ := Y
      have hmg : mg ("law" : PySem.Str) = some (.ref fa) := by
        have e : (HandSHeadRun.topDef K01.R.prog 39).name = ("law" : PySem.Str) := by kernel_rfl
        rw [← e]
        exact hmg0
      obtain ⟨fd, hb, hF⟩ := K01.main (P := (PySem.Challenge.rw_slowshelves_k01_whole_shelves_and_their).prog) (w := w) KX G hmg c
      have mem : ∀ p ∈ K01.cs K, ∃ q ∈ K01.tf, He.cT K q = p := fun p hp => List.mem_map.mp hp
      refine ⟨K, fd, K01.cs K, K01.spLaw K, KX, fun p hp => ?_, fun p hp => ?_, fun p hp => ?_, hb, fun H a ns hl hO hS => ⟨a, ns, rfl, hS, hl, fun p hp => ?_, fun _ => rfl⟩, hF⟩
      · obtain ⟨q, hq, rfl⟩ := mem p hp
        exact c.empty q hq
      · obtain ⟨q, hq, rfl⟩ := mem p hp
        exact c.out q hq
      · obtain ⟨q, hq, rfl⟩ := mem p hp
        exact PySem.W.codeHd_of_K KX (c.hd q hq)
      · obtain ⟨y, hy, rfl⟩ := List.mem_map.mp hp
        refine LamX.TabS.nil (hO.tabs (He.cT K (y, none)) (List.mem_map.mpr ⟨(y, none), ?_, rfl⟩))
        unfold K01.tbX at hy
        unfold K01.tf
        simp only [List.mem_cons, List.not_mem_nil, or_false] at hy ⊢
        rcases hy with rfl | rfl <;> simp

