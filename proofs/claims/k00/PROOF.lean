import PyProof.Rows.All
import Wide.All
import OpenK.AllK
import Wide.FinOn
import KE.KExcInit
import KE.KExcPX
import KE.KTryMore
import HandS.ForMost
import HandS.ForExc
import HandS.Defaults
import HandS.TryMany
import HandS.Head0
import HandS.Head1
import HandS.Head2
import HandS.HeadEnd
import HandS.HeadHook1
import HandS.HeadHook2
import HandS.More
import HandS.Small
import PySem.Challenge.RW_slowshelves_k00_whole_errors_and_what_th
set_option Elab.async false
set_option linter.all false
set_option maxRecDepth 100000
set_option maxHeartbeats 0

/-! Errors of the program: one own base class over Exception, classes right below it whose maker keeps one thing (or none). -/
namespace Shf
open PySem PySem.W PySem.Calls PyProof.Rows
abbrev exB : List Value := [.type "Exception", .type "BaseException", .type "object"]
/-- the order of the classes looked through, from C on -/
abbrev mroE (S C : Addr) : List Value := [.ref C, .ref S, .type "Exception", .type "BaseException", .type "object"]
structure ErrC (K : Frag) (S C : Addr) : Prop where
  ini : excInitIn K C exB "Exception.__new__" = true
  ovr : excOver K C exB = true
  mro : ∃ cd, clsIn K C = some cd ∧ cd.mro = mroE S C ∧ cd.hasDict = true
  typ : typeIn K (.ref C) = some (.type "type")
  kp : keepIn K (.ref C) = true
  sa : findIn K (.ref C) "__setattr__" = some (some (.builtin "object.__setattr__"))
  ga : findIn K (.ref C) "__getattribute__" = some (some (.builtin "BaseException.__getattribute__"))
  gg : findIn K (.ref C) "__getattr__" = some none
def mroB (K : Frag) (S C : Addr) : Bool := match clsIn K C with
  | some cd => decide (cd.mro = mroE S C) && cd.hasDict
  | none => false
def oo (a b : Option (Option Value)) : Bool := decide (a = b)
def errB (K : Frag) (S C : Addr) : Bool :=
  excInitIn K C exB "Exception.__new__" && (excOver K C exB && (mroB K S C && (decide (typeIn K (.ref C) = some (.type "type")) && (keepIn K (.ref C) &&
    (oo (findIn K (.ref C) "__setattr__") (some (some (.builtin "object.__setattr__"))) && (oo (findIn K (.ref C) "__getattribute__") (some (some (.builtin "BaseException.__getattribute__"))) && oo (findIn K (.ref C) "__getattr__") (some none)))))))
theorem band {a b : Bool} (h : (a && b) = true) : a = true ∧ b = true := Bool.and_eq_true_iff.mp h
theorem errB_ok {K : Frag} {S C : Addr} (h : errB K S C = true) : ErrC K S C := by
  obtain ⟨h1, h⟩ := band h
  obtain ⟨h2, h⟩ := band h
  obtain ⟨h3, h⟩ := band h
  obtain ⟨h4, h⟩ := band h
  obtain ⟨h5, h⟩ := band h
  obtain ⟨h6, h⟩ := band h
  obtain ⟨h7, h8⟩ := band h
  refine ⟨h1, h2, ?_, of_decide_eq_true h4, h5, of_decide_eq_true h6, of_decide_eq_true h7, of_decide_eq_true h8⟩
  unfold mroB at h3
  cases q : clsIn K C with
  | none => rw [q] at h3; cases h3
  | some cd =>
    rw [q] at h3
    obtain ⟨a, b⟩ := band h3
    exact ⟨cd, rfl, of_decide_eq_true a, b⟩
section
variable {K : Frag} {S C D : Addr}
theorem ErrC.sub (T : ErrC K S C) (b : Value) : subIn K (.ref C) b = some ((mroE S C).contains b) := by
  obtain ⟨cd, hc, hm, _⟩ := T.mro
  show mroIn K C b = _
  unfold mroIn
  rw [hc, Option.bind_some, hm]
  rfl
theorem ErrC.exc (T : ErrC K S C) : subIn K (.ref C) (.type "BaseException") = some true := by
  rw [T.sub]
  simp
theorem ErrC.isCls (T : ErrC K S C) : (clsIn K C).isSome = true := by
  obtain ⟨cd, hc, _⟩ := T.mro
  rw [hc]
  rfl
/-- which clause takes which error -/
theorem ErrC.takes (T : ErrC K S C) (U : ErrC K S D) (hS : D ≠ S) : exmOne K (.ref C) (.ref D) = some (decide (D = C)) := by
  unfold exmOne
  rw [U.exc, if_pos (by decide)]
  show (if ((clsIn K D).isSome && typeIn K (.ref D) == some (.type "type")) = true then subIn K (.ref C) (.ref D) else none) = _
  rw [U.isCls, U.typ]
  have e : (true && (some (Value.type "type") == some (Value.type "type"))) = true := by simp
  rw [if_pos e, T.sub]
  by_cases h : D = C
  · subst h
    simp
  · simp [h, hS]
theorem ErrC.takesBase (T : ErrC K S C) (h1 : subIn K (.ref S) (.type "BaseException") = some true) (h2 : (clsIn K S).isSome = true) (h3 : typeIn K (.ref S) = some (.type "type")) : exmOne K (.ref C) (.ref S) = some true := by
  unfold exmOne
  rw [h1, if_pos (by decide)]
  show (if ((clsIn K S).isSome && typeIn K (.ref S) == some (.type "type")) = true then subIn K (.ref C) (.ref S) else none) = _
  rw [h2, h3]
  have e : (true && (some (Value.type "type") == some (Value.type "type"))) = true := by simp
  rw [if_pos e, T.sub]
  simp
end
/-! ### a thing kept: self.f = v on a new error -/
section
variable {prog : Program} {w : World} {A : Around} {E : Value → Shared → Prop} {R : Result → Shared → Prop} {K : Frag} {S C : Addr} {name : Str} {v : Value}
/-- what the store leaves -/
structure Kept (h h' : Heap) (x C dx t0 : Addr) (name : Str) (v : Value) : Prop where
  keep : ∀ b o, b ≠ x → h.get? b = some o → h'.get? b = some o
  obj : h'.get? x = some { cls := .ref C, dict := some dx, data := .fields #[.ref t0, .none, .none, .none, .bool false, .none] }
  big : h.objs.size ≤ dx
  ne : dx ≠ x
  ns : h'.Ns1 dx (fun y => if y = name then some v else none)
theorem store_err {s : Shared} {x t0 : Addr} {Q : Unit → Shared → Prop} (T : ErrC K S C) (X : K.In s.heap) (ht : takerIn K C name = some none) (hx : s.heap.get? x = some (PX.excO C t0))
    (hq : ∀ h' tk dx, Kept s.heap h' x C dx t0 name v → Q () { s with heap := h', toks := tk }) : wpAny (model prog w) A (setAttr (.ref x) name v) Q E s := by
  obtain ⟨cd, hc, hm, hd⟩ := T.mro
  have I : InstAt s.heap x (PX.excO C t0) C none := ⟨hx, rfl, rfl, trivial⟩
  refine set_plain X I T.sa ?_
  obtain ⟨hp, g, d, t, os⟩ := s
  refine osa_openX (r := none) F.store_Exception X I T.ovr ht fun b => ?_
  have hcls : Looks (model prog w) hp (classData C) cd := looks_clsIn X hc
  have hxs : x ≠ hp.objs.size := Nat.ne_of_lt (Heap.lt_size hx)
  obtain ⟨nm, bs, mro, ns, qn, hd', sn, sb, ab, col, del⟩ := cd
  dsimp only at hd
  subst hd
  dsimp only
  unfold Builtin.ObjectAttr.storeInOwnDict Builtin.ObjectAttr.ownDictForStores
  repeat (first
    | with_reducible refine PX.store_in_new ?_ ?_
    | with_reducible refine wpAny_loadPart_at hx ?_
    | with_reducible refine hcls.at ?_
    | wp_step)
  · have e1 : (hp.push { cls := .type "dict", data := .dict #[] }).get? hp.objs.size = some { cls := .type "dict", data := .dict #[] } := Heap.get?_push_at rfl rfl
    exact ⟨_, #[], _, (Heap.get?_update_ne _ _ _ _ hxs.symm).trans e1, rfl, fun e he => absurd he (by simp), fun _ => rfl⟩
  · intro h' tk' hn' hs
    have old : ∀ b o, hp.get? b = some o → (hp.push { cls := .type "dict", data := .dict #[] }).get? b = some o := fun b o e => Heap.get?_push_of_some _ e
    refine hq h' tk' hp.objs.size ⟨fun b o hb ho => ?_, (hs.2 x hxs).trans (Heap.get?_update_self _ (old x _ hx) rfl), Nat.le_refl _, hxs.symm, hn'⟩
    exact (hs.2 b (Nat.ne_of_lt (Heap.lt_size ho))).trans ((Heap.get?_update_ne _ _ _ _ hb).trans (old b o ho))
end
/-! ### the maker, and a made error -/

section
variable {prog : Program} {w : World} {A : Around} {E : Value → Shared → Prop} {R : Result → Shared → Prop} {s : Shared} {K : Frag} {S C fI : Addr}
theorem ld_loc {M : Model} {name : Str} {scope : Scope} {L a : Addr} {cd : Value} {m : Str → Option Value} {x : Str} {pos : Pos} {v : Value} {Q : Value → Shared → Prop} (hn : s.heap.Ns L m) (hv : m x = some v) (h : Q v s)
    (hk : scope.kind = .function := by rfl) (hl : (envOfC name scope L a cd).kindOf x = some .local := by rfl) (hd : (x == ("__debug__" : Str)) = false := by decide) :
    wpAny M A (eval (.Name x pos) (envOfC name scope L a cd)) Q E s := wpAny_Name (wpAny_loadName_local hk hl hn hv h) hd
/-- a made error: its object at e, its own dict (if it keeps a thing) at d -/
structure MadeE (h h' : Heap) (e C : Addr) (od : Option Addr) : Prop where
  keep : ∀ b o, h.get? b = some o → h'.get? b = some o
  new : h.objs.size ≤ e
  obj : ∃ oe vs, h'.get? e = some oe ∧ oe.cls = .ref C ∧ oe.dict = od ∧ oe.data = .fields vs ∧ vs[1]? = some .none
/-- the class called: a new object, then the maker -/
theorem made_err {us : List Value} (T : ErrC K S C) (hi : findIn K (.ref C) "__init__" = some (some (.ref fI))) (tI : typeIn K (.ref fI) = some (.type "function")) (X : K.In s.heap) (hl : us.length ≤ sizeLine)
    (hq : ∀ h1, (∀ b o, s.heap.get? b = some o → h1.get? b = some o) → h1.get? (s.heap.objs.size + 1) = some (PX.excO C s.heap.objs.size) → h1.objs.size = s.heap.objs.size + 2 →
      codeAny (model prog w) (A.under (.builtin "type.__call__" ⟨.ref C :: us, []⟩)) (.call (.ref fI) ⟨.ref (s.heap.objs.size + 1) :: us, []⟩) (InitBack (s.heap.objs.size + 1) R) { s with heap := h1 }) :
    codeAny (model prog w) A (.call (.ref C) ⟨us, []⟩) R s := by
  obtain ⟨nm, N, qn, bs, bm, hd, sn, sb, ab, col, dd, k0, k1, k2, k3, k5, hC, hT⟩ := excInit_of X T.ini
  obtain ⟨hp, g, dr, tk, os⟩ := s
  refine PX.call_own F.excBase_Exception hT hC (looks_findIn X hi) (fun self => bind_fn X self tI) hl ?_
  refine hq _ (fun b o e => Heap.get?_push_of_some _ (Heap.get?_push_of_some _ e)) ?_ ?_
  · heap_get
  · rw [Heap.size_push, Heap.size_push]

/-! #### one thing kept in at -/
def args_at (p1 p2 : Pos) : Arguments := { posonlyargs := [], args := [{ arg := "self", annotation := none, pos := p1 }, { arg := "at", annotation := none, pos := p2 }], vararg := none, kwonlyargs := [], kw_defaults := [], kwarg := none, defaults := [] }
def body_at (q1 q2 q3 q4 : Pos) : List Stmt := [.Assign [.Attribute (.Name "self" q1) "at" q2] (.Name "at" q3) q4]
def scope_at : Scope := { kind := .function, names := [(PySem.Str.ofString "self", .local), (PySem.Str.ofString "at", .local)], isGenerator := false, isCoroutine := false, more := [] }
structure Mkr_at (K : Frag) (S C fI : Addr) : Prop where
  cls : ErrC K S C
  tk : takerIn K C "at" = some none
  no : findIn K (.ref C) "at" = some none
  ini : findIn K (.ref C) "__init__" = some (some (.ref fI))
  tI : typeIn K (.ref fI) = some (.type "function")
  fn : ∃ (q : Str) (oc : Value) (od : Option Addr) (kV doc pm : Value) (an : Option Addr) (cdv ct : Value) (osl : Array (Option Value)) (p1 p2 q1 q2 q3 q4 : Pos),
    K.lookup fI = some ⟨oc, od, .func (fnOf "__init__" q (args_at p1 p2) (body_at q1 q2 q3 q4) scope_at .none kV doc pm an cdv ct), osl⟩ ∧ codeIn K cdv q = true
theorem run_at (T : Mkr_at K S C fI) {x t0 : Addr} {v : Value} (X : K.In s.heap) (hlim : s.heap.NoLimit) (hx : s.heap.get? x = some (PX.excO C t0)) (hroom : A.depth < recursionLimit)
    (hq : ∀ h' tk dx, Kept s.heap h' x C dx t0 "at" v → R (.ok (.ret .none)) { s with heap := h', toks := tk }) :
    codeAny (model prog w) A (.call (.ref fI) ⟨[.ref x, v], []⟩) R s := by
  obtain ⟨q, oc, od, kV, doc, pm, an, cdv, ct, osl, p1, p2, q1, q2, q3, q4, ho, hcd⟩ := T.fn
  refine Att.call_fn (binds := [("self", .ref x), ("at", v)]) X hlim ho hcd hroom (BindsTo.of_eq (by first | rfl | with_unfolding_all rfl)) (by first | rfl | decide | with_unfolding_all rfl) (fun s₁ IC => ?_) rfl rfl rfl
  obtain ⟨h1, tk1, rfl⟩ := IC.toInCall.same
  have k : ∀ b o, s.heap.get? b = some o → h1.get? b = some o := IC.toInCall.keep
  have hn := IC.toInCall.ns
  have X1 : K.In h1 := X.keeps k
  have z : s.heap.objs.size < h1.objs.size := hn.lt
  show wpAny _ _ (execs _ _) _ _ _
  refine wpAny_execs_cons (plainObj_wpAny_Assign_Attribute ?_)
  refine ld_loc (v := v) hn (by first | rfl | with_unfolding_all rfl | kernel_rfl) (ld_loc (v := .ref x) hn (by first | rfl | with_unfolding_all rfl | kernel_rfl) ?_)
  refine store_err T.cls X1 T.tk (k _ _ hx) fun h3 tk3 dx m => ?_
  show wpAny _ _ (execs _ _) _ _ _
  exact wpAny_execs_nil (hq h3 tk3 dx ⟨fun b o hb e => m.keep b o hb (k b o e), m.obj, Nat.le_of_lt (Nat.lt_of_lt_of_le z m.big), m.ne, m.ns⟩)
theorem make_at (T : Mkr_at K S C fI) {v : Value} (X : K.In s.heap) (hlim : s.heap.NoLimit) (hroom : A.depth + 1 < recursionLimit)
    (hq : ∀ h' tk e d, MadeE s.heap h' e C (some d) → s.heap.objs.size ≤ d → d ≠ e → h'.Ns1 d (fun y => if y = "at" then some v else none) → R (.ok (.ret (.ref e))) { s with heap := h', toks := tk }) :
    codeAny (model prog w) A (.call (.ref C) ⟨[v], []⟩) R s := by
  refine made_err T.cls T.ini T.tI X (by rw [sizeLine_eq]; exact (by decide : 1 ≤ 16777216)) fun h1 k he hsz => ?_
  obtain ⟨hp, g, dr, tk, os⟩ := s
  refine run_at (s := ⟨h1, g, dr, tk, os⟩) T (X.keeps k) (hlim.keeps k) he (by show A.depth + 1 < recursionLimit; exact hroom) fun h' tk' dx m => ?_
  have hsz' : h1.objs.size = hp.objs.size + 2 := hsz
  have big : hp.objs.size ≤ dx := by
    have y : h1.objs.size ≤ dx := m.big
    omega
  refine ⟨rfl, hq h' tk' (hp.objs.size + 1) dx ⟨fun b o e => m.keep b o (Nat.ne_of_lt (Nat.lt_succ_of_lt (Heap.lt_size e))) (k b o e), Nat.le_succ _, ⟨_, _, m.obj, rfl, rfl, rfl, rfl⟩⟩ big m.ne m.ns⟩


/-! #### one thing kept in word -/
def args_word (p1 p2 : Pos) : Arguments := { posonlyargs := [], args := [{ arg := "self", annotation := none, pos := p1 }, { arg := "word", annotation := none, pos := p2 }], vararg := none, kwonlyargs := [], kw_defaults := [], kwarg := none, defaults := [] }
def body_word (q1 q2 q3 q4 : Pos) : List Stmt := [.Assign [.Attribute (.Name "self" q1) "word" q2] (.Name "word" q3) q4]
def scope_word : Scope := { kind := .function, names := [(PySem.Str.ofString "self", .local), (PySem.Str.ofString "word", .local)], isGenerator := false, isCoroutine := false, more := [] }
structure Mkr_word (K : Frag) (S C fI : Addr) : Prop where
  cls : ErrC K S C
  tk : takerIn K C "word" = some none
  no : findIn K (.ref C) "word" = some none
  ini : findIn K (.ref C) "__init__" = some (some (.ref fI))
  tI : typeIn K (.ref fI) = some (.type "function")
  fn : ∃ (q : Str) (oc : Value) (od : Option Addr) (kV doc pm : Value) (an : Option Addr) (cdv ct : Value) (osl : Array (Option Value)) (p1 p2 q1 q2 q3 q4 : Pos),
    K.lookup fI = some ⟨oc, od, .func (fnOf "__init__" q (args_word p1 p2) (body_word q1 q2 q3 q4) scope_word .none kV doc pm an cdv ct), osl⟩ ∧ codeIn K cdv q = true
theorem run_word (T : Mkr_word K S C fI) {x t0 : Addr} {v : Value} (X : K.In s.heap) (hlim : s.heap.NoLimit) (hx : s.heap.get? x = some (PX.excO C t0)) (hroom : A.depth < recursionLimit)
    (hq : ∀ h' tk dx, Kept s.heap h' x C dx t0 "word" v → R (.ok (.ret .none)) { s with heap := h', toks := tk }) :
    codeAny (model prog w) A (.call (.ref fI) ⟨[.ref x, v], []⟩) R s := by
  obtain ⟨q, oc, od, kV, doc, pm, an, cdv, ct, osl, p1, p2, q1, q2, q3, q4, ho, hcd⟩ := T.fn
  refine Att.call_fn (binds := [("self", .ref x), ("word", v)]) X hlim ho hcd hroom (BindsTo.of_eq (by first | rfl | with_unfolding_all rfl)) (by first | rfl | decide | with_unfolding_all rfl) (fun s₁ IC => ?_) rfl rfl rfl
  obtain ⟨h1, tk1, rfl⟩ := IC.toInCall.same
  have k : ∀ b o, s.heap.get? b = some o → h1.get? b = some o := IC.toInCall.keep
  have hn := IC.toInCall.ns
  have X1 : K.In h1 := X.keeps k
  have z : s.heap.objs.size < h1.objs.size := hn.lt
  show wpAny _ _ (execs _ _) _ _ _
  refine wpAny_execs_cons (plainObj_wpAny_Assign_Attribute ?_)
  refine ld_loc (v := v) hn (by first | rfl | with_unfolding_all rfl | kernel_rfl) (ld_loc (v := .ref x) hn (by first | rfl | with_unfolding_all rfl | kernel_rfl) ?_)
  refine store_err T.cls X1 T.tk (k _ _ hx) fun h3 tk3 dx m => ?_
  show wpAny _ _ (execs _ _) _ _ _
  exact wpAny_execs_nil (hq h3 tk3 dx ⟨fun b o hb e => m.keep b o hb (k b o e), m.obj, Nat.le_of_lt (Nat.lt_of_lt_of_le z m.big), m.ne, m.ns⟩)
theorem make_word (T : Mkr_word K S C fI) {v : Value} (X : K.In s.heap) (hlim : s.heap.NoLimit) (hroom : A.depth + 1 < recursionLimit)
    (hq : ∀ h' tk e d, MadeE s.heap h' e C (some d) → s.heap.objs.size ≤ d → d ≠ e → h'.Ns1 d (fun y => if y = "word" then some v else none) → R (.ok (.ret (.ref e))) { s with heap := h', toks := tk }) :
    codeAny (model prog w) A (.call (.ref C) ⟨[v], []⟩) R s := by
  refine made_err T.cls T.ini T.tI X (by rw [sizeLine_eq]; exact (by decide : 1 ≤ 16777216)) fun h1 k he hsz => ?_
  obtain ⟨hp, g, dr, tk, os⟩ := s
  refine run_word (s := ⟨h1, g, dr, tk, os⟩) T (X.keeps k) (hlim.keeps k) he (by show A.depth + 1 < recursionLimit; exact hroom) fun h' tk' dx m => ?_
  have hsz' : h1.objs.size = hp.objs.size + 2 := hsz
  have big : hp.objs.size ≤ dx := by
    have y : h1.objs.size ≤ dx := m.big
    omega
  refine ⟨rfl, hq h' tk' (hp.objs.size + 1) dx ⟨fun b o e => m.keep b o (Nat.ne_of_lt (Nat.lt_succ_of_lt (Heap.lt_size e))) (k b o e), Nat.le_succ _, ⟨_, _, m.obj, rfl, rfl, rfl, rfl⟩⟩ big m.ne m.ns⟩

end

end Shf


namespace Shf
open PySem PySem.W PySem.Calls PyProof.Rows
section
variable {prog : Program} {w : World} {A : Around} {E : Value → Shared → Prop} {R : Result → Shared → Prop} {s : Shared} {K : Frag} {S C fI : Addr}
/-! #### nothing kept -/
def args_0 (p1 : Pos) : Arguments := { posonlyargs := [], args := [{ arg := "self", annotation := none, pos := p1 }], vararg := none, kwonlyargs := [], kw_defaults := [], kwarg := none, defaults := [] }
def scope_0 : Scope := { kind := .function, names := [(PySem.Str.ofString "self", .local)], isGenerator := false, isCoroutine := false, more := [] }
structure Mkr_0 (K : Frag) (S C fI : Addr) : Prop where
  cls : ErrC K S C
  ini : findIn K (.ref C) "__init__" = some (some (.ref fI))
  tI : typeIn K (.ref fI) = some (.type "function")
  fn : ∃ (q : Str) (oc : Value) (od : Option Addr) (kV doc pm : Value) (an : Option Addr) (cdv ct : Value) (osl : Array (Option Value)) (p1 q1 : Pos),
    K.lookup fI = some ⟨oc, od, .func (fnOf "__init__" q (args_0 p1) [.Pass q1] scope_0 .none kV doc pm an cdv ct), osl⟩ ∧ codeIn K cdv q = true
theorem make_0 (T : Mkr_0 K S C fI) (X : K.In s.heap) (hlim : s.heap.NoLimit) (hroom : A.depth + 1 < recursionLimit)
    (hq : ∀ h' tk e, MadeE s.heap h' e C none → R (.ok (.ret (.ref e))) { s with heap := h', toks := tk }) :
    codeAny (model prog w) A (.call (.ref C) ⟨[], []⟩) R s := by
  refine made_err T.cls T.ini T.tI X (Nat.zero_le _) fun h1 k he hsz => ?_
  obtain ⟨q, oc, od, kV, doc, pm, an, cdv, ct, osl, p1, q1, ho, hcd⟩ := T.fn
  obtain ⟨hp, g, dr, tk, os⟩ := s
  refine Att.call_fn (s := ⟨h1, g, dr, tk, os⟩) (binds := [("self", .ref (hp.objs.size + 1))]) (X.keeps k) (hlim.keeps k) ho hcd (by show A.depth + 1 < recursionLimit; exact hroom) (BindsTo.of_eq (by first | rfl | with_unfolding_all rfl)) (by first | rfl | decide | with_unfolding_all rfl) (fun s₁ IC => ?_) rfl rfl rfl
  obtain ⟨h2, tk2, rfl⟩ := IC.toInCall.same
  have k2 : ∀ b o, h1.get? b = some o → h2.get? b = some o := IC.toInCall.keep
  show wpAny _ _ (execs _ _) _ _ _
  refine wpAny_execs_cons (wpAny_Pass ?_)
  show wpAny _ _ (execs _ _) _ _ _
  refine wpAny_execs_nil ?_
  exact ⟨rfl, hq h2 tk2 (hp.objs.size + 1) ⟨fun b o e => k2 b o (k b o e), Nat.le_succ _, ⟨_, _, k2 _ _ he, rfl, rfl, rfl, rfl⟩⟩⟩
end
end Shf

namespace L2
open PySem PySem.Spec PyProof.Rows
section
variable {X : Cx} {S C fI : Addr}
/-- X(): an error that keeps nothing -/
theorem pmk_0 {x : Str} {p pos : Pos} {k : Nat} (T : Shf.Mkr_0 X.K S C fI) (gC : X.mg x = some (.ref C)) (hr : Room k X.A) (hg : Gl X x) (hdb : (x == ("__debug__" : Str)) = false := by decide) :
    PMk X (.Call (.Name x p) [] [] pos) (fun _ H Q => Q (.ref C) none H) := by
  intro pins s σ H Q I q1
  refine wpAny_Call_Name_kw (ld_glob I hg gC ?_ hdb)
  refine PySem.W.callWith_K0 I.kIn T.cls.kp ?_
  have hlim := I.nolimit
  obtain ⟨hp, g, dr, tk, os⟩ := s
  refine wpAny_call (Shf.make_0 T I.kIn hlim (by have := hr.dp; omega) fun h' tk' e M => ?_)
  obtain ⟨oe, fv, hoe, hc, hd, hdat, h1⟩ := M.obj
  refine ⟨e, oe, fv, ⟨hp, g, dr, tk, os⟩, H, .ref C, none, rfl, I, M.keep, ?_, hoe, ⟨hc, hd⟩, hdat, h1, I.hok.fresh M.new, rfl, I.bare, raises_own T.cls.exc T.cls.typ, q1⟩
  cases z : hp.get? e with
  | none => rfl
  | some o => exact absurd (Heap.lt_size z) (Nat.not_lt.mpr M.new)
end
end L2

namespace L2
open PySem PySem.Spec PyProof.Rows
theorem relO_at {v : V} {u : Value} (r : RelV v u) (f : Str) : RelO (List.lookup f [(("at" : Str), v)]) (if f = "at" then some u else none) := by
  by_cases hw : f = "at"
  · subst hw
    rw [if_pos rfl, show List.lookup ("at" : Str) [(("at" : Str), v)] = some v by simp [List.lookup]]
    exact r
  · rw [if_neg hw, show List.lookup f [(("at" : Str), v)] = none by simp [List.lookup, show (f == ("at" : Str)) = false by simpa using hw]]
    trivial
/-- X(e), which keeps e in at -/
def tMk_at (C : Addr) (ta : TA) : St → Hp → XK → Prop := fun σ H Q => ta σ H fun vs H1 => ∃ v, vs = [v] ∧ ∀ d, H1 d = none → Q (.ref C) (some d) (upd H1 d (.xd [(("at" : Str), v)]))
section
variable {X : Cx} {S C fI : Addr}
theorem pmk_at {a : Expr} {ta : TA} {x : Str} {p pos : Pos} {k : Nat} (T : Shf.Mkr_at X.K S C fI) (gC : X.mg x = some (.ref C)) (hr : Room k X.A) (ha : PA X [a] ta) (hg : Gl X x) (hdb : (x == ("__debug__" : Str)) = false := by decide)
    (he : starEach (a :: []) X.env = (false, eval a X.env) :: starEach [] X.env := by rfl) (hpl : (backTo pos (starEach [] X.env)).any (·.1) = false := by rfl) :
    PMk X (.Call (.Name x p) [a] [] pos) (tMk_at C ta) := by
  intro pins s σ H Q I h
  refine wpAny_Call_Name_kw (ld_glob I hg gC ?_ hdb)
  refine PySem.W.callWith_K (h₀ := X.base) I.ok.mod.kin T.cls.kp (thn (ha.run pos pins s σ H _ I h) fun us s1 hh => ?_) he hpl
  obtain ⟨vs, H1, I1, r1, v, ev, q1⟩ := hh
  subst ev
  refine ⟨I1.kIn, ?_⟩
  obtain ⟨u, rfl, rv⟩ : ∃ u, us = [u] ∧ RelV v u := by
    cases r1 with
    | cons rv rn =>
      cases rn
      exact ⟨_, rfl, rv⟩
  show wpAny _ _ (call (.ref C) [u]) _ _ _
  have hlim := I1.nolimit
  obtain ⟨hp, g, dr, tk, os⟩ := s1
  refine wpAny_call (Shf.make_at T I1.kIn hlim (by have := hr.dp; omega) fun h' tk' e d M dbig dne hns => ?_)
  obtain ⟨oe, fv, hoe, hc, hd, hdat, h1⟩ := M.obj
  obtain ⟨G, g1, g2⟩ := restrict h' fun b => decide (b ≠ e)
  have gk : ∀ b, b ≠ e → G.get? b = h'.get? b := fun b hb => g1 b (decide_eq_true hb)
  have ge : G.get? e = none := g2 e (by simp)
  have old : ∀ b o, hp.get? b = some o → G.get? b = some o := fun b o q => (gk b (Nat.ne_of_lt (Nat.lt_of_lt_of_le (Heap.lt_size q) M.new))).trans (M.keep b o q)
  have ob : ObjOk X.prog X.w (upd H1 d (.xd [(("at" : Str), v)])) G d (.xd [(("at" : Str), v)]) := ⟨_, hns.at (fun o q => (gk d dne).trans q), fun f => relO_at rv f⟩
  have J : Inv X pins σ (upd H1 d (.xd [(("at" : Str), v)])) ⟨G, g, dr, tk', os⟩ := I1.laid (t' := tk') old dbig ob
  refine ⟨e, oe, fv, ⟨G, g, dr, tk', os⟩, _, .ref C, some d, rfl, J, fun b o q => ?_, ge, hoe, ⟨hc, hd⟩, hdat, h1, ?_, rfl, I1.bare, raises_own T.cls.exc T.cls.typ, q1 d (I1.hok.fresh dbig)⟩
  · by_cases hb : b = e
    · have q' : G.get? b = some o := q
      rw [hb, ge] at q'
      cases q'
    · exact (gk b hb).symm.trans q
  · rw [upd_ne (Ne.symm dne)]
    exact I1.hok.fresh M.new
/-- e.at, e the error that the suite holds -/
def tBy_at (a C : Addr) (cls : Value) (d : Option Addr) (te : TE) : TE := fun σ H Q => te σ H fun x H1 => x = .ref a ∧ cls = .ref C ∧ ∃ (dd : Addr) (v : V), d = some dd ∧ H1 dd = some (.xd [(("at" : Str), v)]) ∧ Q v H1
theorem pe_by_at {a : Addr} {oe : Obj} {cls : Value} {d : Option Addr} {pn : List (Addr × Obj)} {e : Expr} {te : TE} {pos : Pos} (T : Shf.Mkr_at X.K S C fI) (hz : Zc cls d oe) (hf : ∃ vs, oe.data = .fields vs) (he : PE (X.suite a ((a, oe) :: pn)) e te)
    (hb : attributeBase e "at" X.env (eval e X.env) = eval e X.env := by rfl) :
    PE (X.suite a ((a, oe) :: pn)) (.Attribute e "at" pos) (tBy_at a C cls d te) := by
  refine ⟨fun pins s σ H Q I h => ?_⟩
  refine attr_of hb (thn (he.run pins s σ H _ I h) fun u s1 hh => ?_)
  obtain ⟨x, H1, I1, rx, ex, ec, dd, v, ed, ea, q⟩ := hh
  subst ex
  obtain rfl : u = Value.ref a := rx
  subst ec
  subst ed
  obtain ⟨ha, _⟩ := I1.pin (a, oe) (List.mem_append_left _ List.mem_cons_self)
  obtain ⟨vs, hd⟩ := hf
  have hx : ObjOk X.prog X.w H1 s1.heap dd (.xd [(("at" : Str), v)]) := I1.hok dd _ ea
  obtain ⟨mA, hns, hr⟩ := hx
  obtain ⟨od, ho, hl⟩ := lookIn_ns hns
  have l : List.lookup ("at" : Str) [(("at" : Str), v)] = some v := by simp [List.lookup]
  obtain ⟨u, hu, ru⟩ := RelO.some_of (v := v) (o := mA "at") (by rw [← l]; exact hr "at")
  have J : PySem.W.InstAt s1.heap a oe C (some od) := ⟨ha, hz.1, by unfold PySem.W.notCls; rw [hd] <;> rfl, by rw [hz.2]; exact ho⟩
  obtain ⟨cd, hcd, _, hdict⟩ := T.cls.mro
  have hD : PySem.W.hasDictIn X.K C = true := by
    show (PySem.W.clsIn X.K C).any (·.hasDict) = true
    rw [hcd]
    exact hdict
  exact PySem.PX.exc_get I1.kIn J T.cls.ga T.cls.gg T.cls.exc (PySem.W.findObj_own hD T.no rfl (by rw [hl, hu])) (handed_of ru) ⟨v, H1, I1.tok _, ru, q⟩
end
end L2

namespace L2
open PySem PySem.Spec PyProof.Rows
theorem relO_word {v : V} {u : Value} (r : RelV v u) (f : Str) : RelO (List.lookup f [(("word" : Str), v)]) (if f = "word" then some u else none) := by
  by_cases hw : f = "word"
  · subst hw
    rw [if_pos rfl, show List.lookup ("word" : Str) [(("word" : Str), v)] = some v by simp [List.lookup]]
    exact r
  · rw [if_neg hw, show List.lookup f [(("word" : Str), v)] = none by simp [List.lookup, show (f == ("word" : Str)) = false by simpa using hw]]
    trivial
/-- X(e), which keeps e in word -/
def tMk_word (C : Addr) (ta : TA) : St → Hp → XK → Prop := fun σ H Q => ta σ H fun vs H1 => ∃ v, vs = [v] ∧ ∀ d, H1 d = none → Q (.ref C) (some d) (upd H1 d (.xd [(("word" : Str), v)]))
section
variable {X : Cx} {S C fI : Addr}
theorem pmk_word {a : Expr} {ta : TA} {x : Str} {p pos : Pos} {k : Nat} (T : Shf.Mkr_word X.K S C fI) (gC : X.mg x = some (.ref C)) (hr : Room k X.A) (ha : PA X [a] ta) (hg : Gl X x) (hdb : (x == ("__debug__" : Str)) = false := by decide)
    (he : starEach (a :: []) X.env = (false, eval a X.env) :: starEach [] X.env := by rfl) (hpl : (backTo pos (starEach [] X.env)).any (·.1) = false := by rfl) :
    PMk X (.Call (.Name x p) [a] [] pos) (tMk_word C ta) := by
  intro pins s σ H Q I h
  refine wpAny_Call_Name_kw (ld_glob I hg gC ?_ hdb)
  refine PySem.W.callWith_K (h₀ := X.base) I.ok.mod.kin T.cls.kp (thn (ha.run pos pins s σ H _ I h) fun us s1 hh => ?_) he hpl
  obtain ⟨vs, H1, I1, r1, v, ev, q1⟩ := hh
  subst ev
  refine ⟨I1.kIn, ?_⟩
  obtain ⟨u, rfl, rv⟩ : ∃ u, us = [u] ∧ RelV v u := by
    cases r1 with
    | cons rv rn =>
      cases rn
      exact ⟨_, rfl, rv⟩
  show wpAny _ _ (call (.ref C) [u]) _ _ _
  have hlim := I1.nolimit
  obtain ⟨hp, g, dr, tk, os⟩ := s1
  refine wpAny_call (Shf.make_word T I1.kIn hlim (by have := hr.dp; omega) fun h' tk' e d M dbig dne hns => ?_)
  obtain ⟨oe, fv, hoe, hc, hd, hdat, h1⟩ := M.obj
  obtain ⟨G, g1, g2⟩ := restrict h' fun b => decide (b ≠ e)
  have gk : ∀ b, b ≠ e → G.get? b = h'.get? b := fun b hb => g1 b (decide_eq_true hb)
  have ge : G.get? e = none := g2 e (by simp)
  have old : ∀ b o, hp.get? b = some o → G.get? b = some o := fun b o q => (gk b (Nat.ne_of_lt (Nat.lt_of_lt_of_le (Heap.lt_size q) M.new))).trans (M.keep b o q)
  have ob : ObjOk X.prog X.w (upd H1 d (.xd [(("word" : Str), v)])) G d (.xd [(("word" : Str), v)]) := ⟨_, hns.at (fun o q => (gk d dne).trans q), fun f => relO_word rv f⟩
  have J : Inv X pins σ (upd H1 d (.xd [(("word" : Str), v)])) ⟨G, g, dr, tk', os⟩ := I1.laid (t' := tk') old dbig ob
  refine ⟨e, oe, fv, ⟨G, g, dr, tk', os⟩, _, .ref C, some d, rfl, J, fun b o q => ?_, ge, hoe, ⟨hc, hd⟩, hdat, h1, ?_, rfl, I1.bare, raises_own T.cls.exc T.cls.typ, q1 d (I1.hok.fresh dbig)⟩
  · by_cases hb : b = e
    · have q' : G.get? b = some o := q
      rw [hb, ge] at q'
      cases q'
    · exact (gk b hb).symm.trans q
  · rw [upd_ne (Ne.symm dne)]
    exact I1.hok.fresh M.new
/-- e.word, e the error that the suite holds -/
def tBy_word (a C : Addr) (cls : Value) (d : Option Addr) (te : TE) : TE := fun σ H Q => te σ H fun x H1 => x = .ref a ∧ cls = .ref C ∧ ∃ (dd : Addr) (v : V), d = some dd ∧ H1 dd = some (.xd [(("word" : Str), v)]) ∧ Q v H1
theorem pe_by_word {a : Addr} {oe : Obj} {cls : Value} {d : Option Addr} {pn : List (Addr × Obj)} {e : Expr} {te : TE} {pos : Pos} (T : Shf.Mkr_word X.K S C fI) (hz : Zc cls d oe) (hf : ∃ vs, oe.data = .fields vs) (he : PE (X.suite a ((a, oe) :: pn)) e te)
    (hb : attributeBase e "word" X.env (eval e X.env) = eval e X.env := by rfl) :
    PE (X.suite a ((a, oe) :: pn)) (.Attribute e "word" pos) (tBy_word a C cls d te) := by
  refine ⟨fun pins s σ H Q I h => ?_⟩
  refine attr_of hb (thn (he.run pins s σ H _ I h) fun u s1 hh => ?_)
  obtain ⟨x, H1, I1, rx, ex, ec, dd, v, ed, ea, q⟩ := hh
  subst ex
  obtain rfl : u = Value.ref a := rx
  subst ec
  subst ed
  obtain ⟨ha, _⟩ := I1.pin (a, oe) (List.mem_append_left _ List.mem_cons_self)
  obtain ⟨vs, hd⟩ := hf
  have hx : ObjOk X.prog X.w H1 s1.heap dd (.xd [(("word" : Str), v)]) := I1.hok dd _ ea
  obtain ⟨mA, hns, hr⟩ := hx
  obtain ⟨od, ho, hl⟩ := lookIn_ns hns
  have l : List.lookup ("word" : Str) [(("word" : Str), v)] = some v := by simp [List.lookup]
  obtain ⟨u, hu, ru⟩ := RelO.some_of (v := v) (o := mA "word") (by rw [← l]; exact hr "word")
  have J : PySem.W.InstAt s1.heap a oe C (some od) := ⟨ha, hz.1, by unfold PySem.W.notCls; rw [hd] <;> rfl, by rw [hz.2]; exact ho⟩
  obtain ⟨cd, hcd, _, hdict⟩ := T.cls.mro
  have hD : PySem.W.hasDictIn X.K C = true := by
    show (PySem.W.clsIn X.K C).any (·.hasDict) = true
    rw [hcd]
    exact hdict
  exact PySem.PX.exc_get I1.kIn J T.cls.ga T.cls.gg T.cls.exc (PySem.W.findObj_own hD T.no rfl (by rw [hl, hu])) (handed_of ru) ⟨v, H1, I1.tok _, ru, q⟩
end
end L2

namespace L2
open PySem PySem.Spec PyProof.Rows
/-- one except clause: the class that it names, the slot of its name (if it has one), what its suite does -/
structure Cl where
  c : Value
  i : Option Nat
  ts : Addr → Value → Option Addr → TS
/-- what the clauses wish of an error of the body -/
def wCls (K : PySem.W.Frag) (Wout : WX) (D : Ends) : List Cl → WX
  | [] => Wout
  | q :: r => fun cls d σ H => ∃ b, PySem.W.exmOne K cls q.c = some b ∧
      (b = true → ∀ a, H a = none → match q.i with
        | some i => q.ts a cls d { nx := fun σ' H' => D.nx (σ'.set i none) H', rt := D.rt, bk := fun σ' H' => D.bk (σ'.set i none) H', ct := fun σ' H' => D.ct (σ'.set i none) H' } (σ.set i (some (.ref a))) H
        | none => q.ts a cls d D σ H) ∧
      (b = false → wCls K Wout D r cls d σ H)
inductive ClsOk (X : Cx) : List ExceptHandler → List Cl → Prop
  | nil : ClsOk X [] []
  | as {x n : Str} {c : Value} {i : Nat} {ts : Addr → Value → Option Addr → TS} {b₀ : Stmt} {suite : List Stmt} {np pos' : Pos} {hds : List ExceptHandler} {l : List Cl} (hi : X.N[i]? = some n) (hln : X.env.kindOf n = some .local) (hc : Names X x c)
      (hsu : ∀ (a : Addr) (oe : Obj) (cls : Value) (d : Option Addr) (pn : List (Addr × Obj)), Zc cls d oe → (∃ vs, oe.data = .fields vs) → PSs (X.suite a ((a, oe) :: pn)) (b₀ :: suite) (ts a cls d)) (r : ClsOk X hds l) :
      ClsOk X (.ExceptHandler (some (.Name x np)) (some n) (b₀ :: suite) pos' :: hds) (⟨c, some i, ts⟩ :: l)
  | bare {x : Str} {c : Value} {ts : Addr → Value → Option Addr → TS} {b₀ : Stmt} {suite : List Stmt} {np pos' : Pos} {hds : List ExceptHandler} {l : List Cl} (hc : Names X x c)
      (hsu : ∀ (a : Addr) (oe : Obj) (cls : Value) (d : Option Addr) (pn : List (Addr × Obj)), Zc cls d oe → (∃ vs, oe.data = .fields vs) → PSs (X.suite a ((a, oe) :: pn)) (b₀ :: suite) (ts a cls d)) (r : ClsOk X hds l) :
      ClsOk X (.ExceptHandler (some (.Name x np)) none (b₀ :: suite) pos' :: hds) (⟨c, none, ts⟩ :: l)
section
variable {X : Cx} {body : List Stmt} {h₀ : ExceptHandler} {hds : List ExceptHandler} {l : List Cl} {pos : Pos} {tb : WX → TS} {Wout : WX}
/-- try: body, except .. as ..: .., except ..: .. -/
theorem ps_try_cls (hs : X.stack = X.env :: X.outer) (hf : X.env.frame = some X.env.locals) (hN : X.N.Nodup) (tk : Takes X Wout)
    (hb : ∀ (W : WX) (pn : List (Addr × Obj)) (xe : Value → Shared → Prop), Takes (X.tr pn xe) W → PassesOwn (model X.prog X.w) X.A X.env xe → PSs (X.tr pn xe) body (tb W))
    (hh : ClsOk X (h₀ :: hds) l) : PS X (.Try body (h₀ :: hds) [] [] pos) (fun D σ H => tb (wCls X.K Wout D l) D σ H) := by
  refine ⟨fun pins s σ H D I h => ?_⟩
  have ok := I.ok
  have hfr : X.A.frames = some (X.env :: X.outer) := by rw [ok.frames, hs]
  refine wpAny_Try_except (wpAny_mono ((hb (wCls X.K Wout D l) (X.pn ++ pins) (fun e s₁ => wpAny (model X.prog X.w) X.A (noteFrame e X.env) (fun _ s₂ => wpAny (model X.prog X.w) X.A (setFlight e none) (fun _ s₃ =>
    wpAny (model X.prog X.w) X.A (handleBy e X.env (h₀ :: hds)) (SP X pins D) X.xe s₃) X.xe s₂) X.xe s₁) (fun u s' xx => ?_) PassesOwn.looking).run [] s σ H D (I.toTry _) h) (fun f s1 hsp => ?_) (fun e s1 he => he))
  · obtain ⟨a, B, sI, pins', σ', H', cls, d, rfl, J', nb, up, sky, na, os, ag, w⟩ := xx
    have J : Inv X pins σ' H' sI := J'.ofTry ok
    have sky' : Sky B (X.env :: X.outer) a (Zc cls d) X.env.locals s'.heap := by rw [← hs]; exact sky
    show wpAny (model X.prog X.w) X.A (noteFrame (.ref a) X.env) _ _ _
    refine Sky.land Zc.steady hfr hf sky' fun h3 fl3 up3 => ?_
    have J3 : Inv X pins σ' H' { s' with heap := h3 } := J.landed nb fl3.1 (up.trans up3) os ag
    have nfr : a ∉ frs (X.env :: X.outer) := fun hm => by
      obtain ⟨oe, vs, he, _, hd⟩ := fl3.there
      obtain ⟨_, o', e', hnf⟩ := fl3.2.2.1.mem hm
      rw [he] at e'
      cases e'
      exact hnf _ hd
    have nL : a ≠ X.env.locals := fun z => nfr (List.mem_filterMap.mpr ⟨X.env, List.mem_cons_self, by rw [hf, z]⟩)
    have nF : a ∉ X.fs := fun hm => by
      obtain ⟨e, he, q⟩ := List.mem_filterMap.mp hm
      exact nfr (List.mem_filterMap.mpr ⟨e, List.mem_cons_of_mem _ he, q⟩)
    obtain ⟨oe3, vs3, he3, hz3, hd3⟩ := fl3.there
    have S3 := J3.suite he3 hd3 na nL nF
    have LT : PySem.W.Looks (model X.prog X.w) h3 (typeOf (.ref a)) cls := fun A Q E s k q => wpAny_typeOf_ref (k _ _ he3) (by rw [hz3.1]; exact q)
    have test : ∀ {x : Str} {np : Pos} {c : Value} {Q : Value → Shared → Prop} {E : Value → Shared → Prop}, Names X x c → Q c { s' with heap := h3 } →
        wpAny (model X.prog X.w) (X.A.mark (some (.ref a))) (eval (.Name x np) X.env) Q E { s' with heap := h3 } := fun {x np c Q E} hc q => by
      obtain ⟨hg, hdbg, hm | ⟨hm, hv, hnn⟩⟩ := hc
      · exact ld_glob (X := X.suite a ((a, oe3) :: (X.pn ++ pins))) S3 hg hm q hdbg
      · exact ld_blt (X := X.suite a ((a, oe3) :: (X.pn ++ pins))) S3 hg hm hv q hnn hdbg
    have go : ∀ {hds' : List ExceptHandler} {l' : List Cl}, ClsOk X hds' l' → wCls X.K Wout D l' cls d σ' H' →
        wpAny (model X.prog X.w) X.A (handleBy (.ref a) X.env hds') (SP X pins D) X.xe { s' with heap := h3 } := by
      intro hds' l' hk
      induction hk with
      | nil =>
        intro w
        refine PySem.PX.no_clauseZ (prog := X.prog) (w := X.w) hf fl3 fun h4 hh4 up4 => tk _ _ ?_
        exact ⟨a, B, sI, pins, σ', H', cls, d, rfl, J, nb, (up.trans up3).trans up4, .inr (.inr (by rw [hs]; exact hh4)), na, os, ag, w⟩
      | @as x n c i ts b₀ suite np pos' hds2 l2 hi hln hc hsu r ih =>
        intro w
        obtain ⟨b, hb1, hyes, hno⟩ := w
        have LM := PySem.W.exm_one (M := model X.prog X.w) J3.kIn LT hb1
        refine wpAny_handleBy_cons (codeAny_handlers_test (test hc (LM.here ?_))) (by intro q; cases q)
        cases b with
        | false => exact ih (hno rfl)
        | true =>
          refine codeAny_handlers_suite_as (HandSPX.lands_againZ fl3 fun h4 fl4 up4 => ?_)
          have J4 : Inv X pins σ' H' { s' with heap := h4 } := J.landed nb fl4.1 ((up.trans up3).trans up4) os ag
          obtain ⟨oe4, vs4, he4, hz4, hd4⟩ := fl4.there
          refine store_ok (X := X.suite a ((a, oe4) :: (X.pn ++ pins))) (v := .ref a) (J4.suite he4 hd4 na nL nF) hN hi (.inl hln) rfl (fun s5 S5 => ?_) (.inr hln)
          have wish := hyes rfl a na
          refine wpAny_mono ((hsu a oe4 cls d (X.pn ++ pins) hz4 ⟨_, hd4⟩).run [] s5 _ H' _ S5 wish) (fun f s6 hsp => ?_) (fun _ _ z => False.elim z)
          have out : ∀ {σ6 : St} {H6 : Hp} {Q : Shared → Prop}, Inv (X.suite a ((a, oe4) :: (X.pn ++ pins))) [] σ6 H6 s6 → (∀ s7, Inv X pins (σ6.set i none) H6 s7 → Q s7) →
              wpAny (model X.prog X.w) X.A (do bindName X.env n .none; unbindBehindTheSuite X.env n pos') (fun _ s7 => Q s7) X.xe s6 := fun {σ6 H6 Q} S6 hq => gone_ok (S6.unsuite ok) hN hi hln hq
          cases f with
          | next =>
            obtain ⟨σ6, H6, S6, q6⟩ := hsp
            exact out S6 fun s7 J7 => ⟨_, _, J7, q6⟩
          | brk =>
            obtain ⟨σ6, H6, S6, q6⟩ := hsp
            exact out S6 fun s7 J7 => ⟨_, _, J7, q6⟩
          | cont =>
            obtain ⟨σ6, H6, S6, q6⟩ := hsp
            exact out S6 fun s7 J7 => ⟨_, _, J7, q6⟩
          | ret u =>
            obtain ⟨v6, σ6, H6, S6, r6, q6⟩ := hsp
            exact out S6 fun s7 J7 => ⟨_, _, _, J7, r6, q6⟩
      | @bare x c ts b₀ suite np pos' hds2 l2 hc hsu r ih =>
        intro w
        obtain ⟨b, hb1, hyes, hno⟩ := w
        have LM := PySem.W.exm_one (M := model X.prog X.w) J3.kIn LT hb1
        refine wpAny_handleBy_cons (codeAny_handlers_test (test hc (LM.here ?_))) (by intro q; cases q)
        cases b with
        | false => exact ih (hno rfl)
        | true =>
          refine codeAny_handlers_suite (HandSPX.lands_againZ fl3 fun h4 fl4 up4 => ?_)
          have J4 : Inv X pins σ' H' { s' with heap := h4 } := J.landed nb fl4.1 ((up.trans up3).trans up4) os ag
          obtain ⟨oe4, vs4, he4, hz4, hd4⟩ := fl4.there
          have wish := hyes rfl a na
          refine wpAny_mono ((hsu a oe4 cls d (X.pn ++ pins) hz4 ⟨_, hd4⟩).run [] _ _ H' _ (J4.suite he4 hd4 na nL nF) wish) (fun f s6 hsp => ?_) (fun _ _ z => False.elim z)
          cases f with
          | next =>
            obtain ⟨σ6, H6, S6, q6⟩ := hsp
            exact ⟨_, _, S6.unsuite ok, q6⟩
          | brk =>
            obtain ⟨σ6, H6, S6, q6⟩ := hsp
            exact ⟨_, _, S6.unsuite ok, q6⟩
          | cont =>
            obtain ⟨σ6, H6, S6, q6⟩ := hsp
            exact ⟨_, _, S6.unsuite ok, q6⟩
          | ret u =>
            obtain ⟨v6, σ6, H6, S6, r6, q6⟩ := hsp
            exact ⟨_, _, _, S6.unsuite ok, r6, q6⟩
    exact go hh w
  · cases f with
    | next =>
      obtain ⟨σ', H', J', q⟩ := hsp
      exact wpAny_execs_nil ⟨σ', H', J'.ofTry ok, q⟩
    | brk =>
      obtain ⟨σ', H', J', q⟩ := hsp
      exact ⟨σ', H', J'.ofTry ok, q⟩
    | cont =>
      obtain ⟨σ', H', J', q⟩ := hsp
      exact ⟨σ', H', J'.ofTry ok, q⟩
    | ret u =>
      obtain ⟨v, σ', H', J', r, q⟩ := hsp
      exact ⟨v, σ', H', J'.ofTry ok, r, q⟩
end
end L2


namespace L2
open PySem PySem.Spec PyProof.Rows
/-! ### a def's promise where no repr is under way -/
structure FnG (P : Program) (w : World) (K : PySem.W.Frag) (mg : Str → Option Value) (base : Heap) (CX : CXT) (k : Nat) (f : Addr) (fd : FuncData) (ps : List Str) (sp : Sp) : Prop where
  len : ∀ vs H Q E, sp vs H Q E → vs.length = ps.length
  run : ∀ (A : Around) (outer : List Env) (s : Shared) (H : Hp) (args : Args) (us : List Value) (vs : List V) (Q : VK) (E : XK), Room k A → A.guards = some [] → Env0 P w K mg base A outer s H → BindsTo s fd args (ps.zip us) → Vals vs us →
    sp vs H Q E → codeAny (model P w) A (.call (.ref f) args) (CR CX outer P w H s Q E) s
section
variable {P : Program} {w : World} {K : PySem.W.Frag} {mg : Str → Option Value} {base : Heap} {CX : CXT} {k : Nat} {f : Addr} {fd : FuncData} {ps : List Str} {sp : Sp}
theorem FnOk.g (F : FnOk P w K mg base CX k f fd ps sp) : FnG P w K mg base CX k f fd ps sp := ⟨F.len, fun A outer s H args us vs Q E hr _ e0 hb r h => F.run A outer s H args us vs Q E hr e0 hb r h⟩
theorem FunD.okG {x qual : Str} {params : Arguments} {body : List Stmt} {scope : Scope} {dvs : List V} {kws : List (Str × V)} {N : List Str} (F : FunD K x qual params body scope dvs kws f fd) (Sc : FnScope N ps scope) (len : ∀ vs H Q E, sp vs H Q E → vs.length = ps.length)
    (hbody : ∀ (cdv : Value) (A : Around) (outer : List Env) (s : Shared) (H : Hp) (vs : List V) (Q : VK) (E : XK), Room k (A.deeper (envOfC qual scope s.heap.objs.size f cdv)) → A.guards = some [] → sp vs H Q E →
      ∃ t, PSs (cxOf CX P w K mg base N qual scope f cdv A outer s H E) body t ∧ t { nx := fun _ H' => Q .non H', rt := Q } (start N vs) H) : FnG P w K mg base CX (k + 1) f fd ps sp := by
  obtain ⟨oc, od, dV, kV, doc, pm, an, cdv, ct, osl, rfl, lk, hcd, _, _⟩ := F.ex
  refine ⟨len, fun A outer s H args us vs Q E hr hA e0 hb r hsp => ?_⟩
  have KX : K.In s.heap := e0.mod.kin.keeps fun b o e => (e0.bs b o e).1
  have lim : s.heap.NoLimit := e0.mod.nolimit.keeps fun b o e => (e0.bs b o e).1
  refine codeAny_call_function hr.depth (KX _ _ lk) rfl Sc.co Sc.gen rfl (PySem.W.codeRec_of KX hcd) (hb _ _ _ _ ?_)
  have hk : ∀ y ∈ ps.zip us, scope.names.lookup y.1 = some .local ∨ (scope.names.lookup y.1 = some .cell ∧ ((cellsFrom (s.heap.objs.size + 1) scope.names []).lookup y.1).isSome = true) := fun ⟨n, v⟩ hy =>
    (Sc.par n (List.of_mem_zip hy).1).imp id fun q => ⟨q, PySem.W.cellsFrom_some _ _ _ (.inl q)⟩
  refine wpAny_newFunctionEnv_cells Sc.kind hk fun env he s1 x => ?_
  subst he
  refine ⟨lim.keeps x.toInCall.keep, codeAny_func ?_⟩
  obtain ⟨t, ht, hq⟩ := hbody cdv A outer s H vs Q E (hr.deeper _) hA hsp
  have I := inv_start (CX := CX) (E := E) (qual := qual) (f := f) (cd := cdv) Sc hr.hd e0 (len _ _ _ _ hsp) r x
  refine wpAny_mono (ht.run [] s1 (start N vs) H _ I hq) (fun fl s' hs => ?_) fun e s' hs => hs
  cases fl with
  | ret u =>
    obtain ⟨v, σ', H', J, rv, q⟩ := hs
    exact ⟨v, H', J.os, J.bare, J.base, J.hok, rv, q⟩
  | next =>
    obtain ⟨σ', H', J, q⟩ := hs
    exact ⟨V.non, H', J.os, J.bare, J.base, J.hok, (rfl : RelV .non Value.none), q⟩
  | brk =>
    obtain ⟨_, _, _, q⟩ := hs
    exact q.elim
  | cont =>
    obtain ⟨_, _, _, q⟩ := hs
    exact q.elim
end
section
variable {X : Cx} {CX : CXT} {k : Nat} {f : Addr} {fd : FuncData} {ps : List Str} {sp : Sp} {dvs : List V} {ds : List Value} {E : XK} {x : Str} {p pos : Pos} {e : Expr} {es : List Expr} {t : TA}
theorem pe_callG (F : FnG X.prog X.w X.K X.mg X.base CX k f fd ps sp) (hA : X.A.guards = some []) (hr : Room k X.A) (hg : Gl X x) (hm : X.mg x = some (.ref f)) (hk : PySem.W.keepIn X.K (.ref f) = true) (hb : Binds X.K fd ps ds) (hd : Vals dvs ds) (hx : Passes CX X E)
    (ha : PA X (e :: es) t) (hdb : (x == ("__debug__" : Str)) = false := by decide) (he : starEach (e :: es) X.env = (false, eval e X.env) :: starEach es X.env := by rfl) (hpl : (backTo pos (starEach es X.env)).any (·.1) = false := by rfl) :
    PE X (.Call (.Name x p) (e :: es) [] pos) (tCall sp dvs E t) := by
  refine ⟨fun pins s σ H Q I h => wpAny_Call_Name_kw (ld_glob I hg hm (PySem.W.callWith_K (h₀ := X.base) I.ok.mod.kin hk (thn (ha.run pos pins s σ H _ I h) fun us s1 hh => ?_) he hpl) hdb)⟩
  obtain ⟨vs, H1, I1, r, q⟩ := hh
  have r2 : Vals (vs ++ dvs) (us ++ ds) := r.append hd
  have hl : (us ++ ds).length = ps.length := by rw [← r2.length]; exact F.len _ _ _ _ q
  refine ⟨I1.kIn, wpAny_call (codeAny_mono (F.run X.A X.stack s1 H1 ⟨us, []⟩ (us ++ ds) (vs ++ dvs) Q E hr hA I1.env0 (hb s1 us I1.kIn hl) r2 q) fun r s' hq => ?_)⟩
  cases r with
  | error e => exact hx pins σ H1 s1 e s' I1 hq
  | ok fl =>
    cases fl with
    | ret u => exact I1.after hq
    | next => exact hq.elim
    | brk => exact hq.elim
    | cont => exact hq.elim
/-- repr of data of any depth -/
def rRepr (K : PySem.W.Frag) : List V → Hp → VK → Prop := fun xs H Q => ∃ v d, xs = [v] ∧ Dp K H v d ∧ d.showable = true ∧ d.hasDict = false ∧ d.depth ≤ 60 ∧ d.shown.length ≤ sizeLine ∧ (∃ a, v = .ref a) ∧ Q (.str d.shown) H
theorem call_reprD (hA : X.A.guards = some []) (hu : X.A.units + 64 < cLine) : CallR X (.builtin "repr") (rRepr X.K) := by
  intro pins s σ H xs us Q I r h
  obtain ⟨v, d, rfl, hd, h1, h2, h3, h4, ⟨a, rfl⟩, q⟩ := h
  obtain rfl := Vals.ref1 r
  obtain ⟨as, rd⟩ := Dp.reads I d (.ref a) (.ref a) hd rfl
  exact repr_of_reads' rd h1 (fun z => by rw [h2] at z; cases z) hA (by omega) (fun _ _ e => e) (fun h' u tk hk => ⟨.str d.shown, H, I.kept hk, ⟨u, rfl⟩, q⟩) h4
end
/-! ### the law's own call -/
section
theorem ground_get {h : Heap} {H : Hp} {b : Addr} {o : Obj} (e : h.get? b = some o) (n : H b = none) : (hidT h H).get? b = some o := hidT_get e n
theorem law_callG {P : Program} {w : World} {K : PySem.W.Frag} {mg mb : Str → Option Value} {CX : CXT} {k : Nat} {fa a : Addr} {fd : FuncData} {x : Str} {sp : Sp} {s₁ : Shared} {vs : List Value} {ns : List Int}
    (KX : K.In s₁.heap) (hns : s₁.heap.Ns mainGlobals mg) (hb : s₁.heap.Ns builtinsNs mb) (hbb : ∀ x : Str, x ≠ "__name__" → mb x = bootBuiltins x) (hlim : s₁.heap.NoLimit) (hg : s₁.gens = #[])
    (ha : s₁.heap.get? a = some { cls := .type "list", data := .seq vs.toArray }) (hi : IntsAre vs ns) (hl : ns.length ≤ sizeLine) (hr : Room k callerA)
    (F : ∀ base : Heap, K.In base → base.Ns mainGlobals mg → FnG P w K mg base CX k fa fd [x] sp) (hbind : ∀ (s : Shared) (u : Value), BindsTo s fd ⟨[u], []⟩ [(x, u)])
    (hsp : ∀ H : Hp, Only H → SqL K H a (ns.map V.int) → sp [.ref a] H (fun v _ => v = .bl true) fun _ _ _ => False)
    (hCX : ∀ H e s', CX [] H s₁ (fun _ _ _ => False) e s' → False) :
    codeAny (model P w) callerA (.call (.ref fa) ⟨[.ref a], []⟩) (fun r s' => r = .ok (.ret (.bool true)) ∧ OldK s₁.heap s'.heap ∧ s'.os = s₁.os ∧ AllBare s'.gens) s₁ := by
  have rv := vals_ints hi
  have lenV := hi.length
  have core : ∀ H : Hp, Only H → SqL K H a (ns.map V.int) → HOk P w H s₁.heap → (∀ b, H b ≠ none → b = a) → (H a ≠ none → K.lookup a = none) →
      codeAny (model P w) callerA (.call (.ref fa) ⟨[.ref a], []⟩) (fun r s' => r = .ok (.ret (.bool true)) ∧ OldK s₁.heap s'.heap ∧ s'.os = s₁.os ∧ AllBare s'.gens) s₁ := by
    intro H hO hS hok hA hK
    have free : ∀ {b : Addr}, b ≠ a → H b = none := fun {b} hb => Classical.byContradiction fun z => hb (hA b z)
    have dictFree : ∀ {b : Addr} {o : Obj} {es : Array DictEntry} {ep : Nat}, s₁.heap.get? b = some o → o.data = .dict es ep → H b = none := fun {b o es ep} e d => free fun z => by
      subst z
      rw [ha] at e
      cases e
      cases (show Data.seq vs.toArray _ = Data.dict es ep from d)
    have nsK : ∀ {b : Addr} {m : Str → Option Value}, s₁.heap.Ns b m → (hidT s₁.heap H).Ns b m := fun {b m} hm => by
      obtain ⟨o, es, ep, e, d, r⟩ := hm
      exact ⟨o, es, ep, ground_get e (dictFree e d), d, r⟩
    have hKb : K.In (hidT s₁.heap H) := fun b o e => ground_get (KX b o e) (Classical.byContradiction fun z => by
      have z' := hA b z
      subst z'
      rw [hK z] at e
      cases e)
    have hM : Mod K mg (hidT s₁.heap H) := by
      obtain ⟨mc, h1, h2⟩ := hlim
      exact ⟨hKb, nsK hns, ⟨mb, nsK hb, hbb⟩, mc, nsK h1, h2⟩
    have e0 : Env0 P w K mg (hidT s₁.heap H) callerA [] s₁ H := ⟨rfl, hM, fun b o e => of_hidT e, Nat.le_of_eq (hidT_size _ _), trivial, (fun b hb => (List.not_mem_nil (show b ∈ ([] : List Addr) from hb)).elim), hok, .of_eq hg⟩
    refine codeAny_mono ((F _ hKb (nsK hns)).run callerA [] s₁ H ⟨[.ref a], []⟩ [.ref a] [.ref a] _ _ hr rfl e0 (hbind s₁ (.ref a)) (.cons rfl .nil) (hsp H hO hS)) fun r s' h => ?_
    match r, h with
    | .error e, h => exact (hCX H e s' h).elim
    | .ok (.ret u), h =>
      obtain ⟨v, H', os, bare, un, hok', r', q⟩ := h
      obtain rfl : v = .bl true := q
      obtain rfl : u = Value.bool true := r'
      refine ⟨rfl, OldK.of_keep fun b o e => ?_, os, bare⟩
      rcases hO b with q | ⟨ob, xs, q⟩
      · exact un.keep b o e q (fun z => (List.not_mem_nil (show b ∈ ([] : List Addr) from z)).elim) (fun z => (List.not_mem_nil z).elim)
      · obtain ⟨e1, _⟩ := hok b _ q
        obtain ⟨e2, _⟩ := hok' b _ (un.frzs b ob _ q)
        rw [e] at e1
        cases e1
        exact e2
    | .ok .next, h => exact False.elim h
    | .ok .brk, h => exact False.elim h
    | .ok .cont, h => exact False.elim h
  cases hk : K.lookup a with
  | some o =>
    have e := KX a o hk
    rw [ha] at e
    cases e
    exact core (fun _ => none) (fun _ => .inl rfl) (.inr ⟨_, vs.toArray, _, hk, rfl, rfl, rfl, by rw [List.size_toArray, lenV]; exact hl, by simpa using rv⟩) (fun b u z => by cases (show (none : Option HO) = some u from z)) (fun b z => absurd rfl z) fun z => absurd rfl z
  | none =>
    let o0 : Obj := { cls := .type "list", data := .seq vs.toArray }
    have at_a : ∀ {b : Addr} {u : HO}, (if b = a then some (HO.frz o0 (.lst (ns.map V.int))) else none) = some u → b = a ∧ u = .frz o0 (.lst (ns.map V.int)) := fun {b u} z => by
      by_cases hb : b = a
      · rw [if_pos hb] at z
        exact ⟨hb, (Option.some.inj z).symm⟩
      · rw [if_neg hb] at z
        cases z
    refine core (fun b => if b = a then some (.frz o0 (.lst (ns.map V.int))) else none) (fun b => ?_) (.inl (.inr ⟨o0, if_pos rfl⟩)) (fun b u z => ?_) (fun b z => ?_) fun _ => hk
    · by_cases hb : b = a
      · exact .inr ⟨_, _, if_pos hb⟩
      · exact .inl (if_neg hb)
    · obtain ⟨rfl, rfl⟩ := at_a z
      exact ⟨ha, by rw [List.length_map]; exact hl, vs, _, rv, ha⟩
    · exact Classical.byContradiction fun hb => z (if_neg hb)
theorem walk_ofG {l : PySem.W.OpenLaw} {n k : Nat} {q : Program} {loose : List Str} {XP : (Str → Option Value) → Heap → Prop} {YP : World → Heap → Prop} {d : DefRec} {CX : World → CXT} {x : Str}
    (hn : l.most = some n) (hn2 : n ≤ sizeLine) (hdf : d.params.defaults = []) (hr : Room k callerA)
    (F : ∀ (w : World) (mg : Str → Option Value) (fa : Addr) (h : Heap), YP w h → h.Ns mainGlobals mg → mg d.name = some (.ref fa) →
      ∃ (K : PySem.W.Frag) (fd : FuncData) (sp : Sp), K.In h ∧ (∀ (s : Shared) (u : Value), BindsTo s fd ⟨[u], []⟩ [(x, u)]) ∧
        (∀ (H : Hp) (a : Addr) (ns : List Int), ns.length ≤ n → Only H → SqL K H a (ns.map V.int) → sp [.ref a] H (fun v _ => v = .bl true) fun _ _ _ => False) ∧
        ∀ base : Heap, K.In base → base.Ns mainGlobals mg → FnG l.prog w K mg base (CX w) k fa fd [x] sp)
    (hCX : ∀ (w : World) (H : Hp) (s : Shared) (e : Value) (s' : Shared), CX w [] H s (fun _ _ _ => False) e s' → False) :
    PySem.W.WalkO q loose XP YP l.row.toRowW d [] (fun f vs => PySem.call f vs) := by
  refine Att.attach_call hn hdf fun w s₀ s₁ mg mb fa o pm cd doc a vs ns G Y ho hd hcd hmg hobj hints hlen hg => ?_
  obtain ⟨K, fd, sp, KX, hb, hsp, hF⟩ := F w mg fa _ Y G.T.g hmg
  exact law_callG KX G.T.g G.T.b G.T.builtins G.T.nolimit hg hobj hints (Nat.le_trans hlen hn2) hr hF hb (fun H hO hS => hsp H a ns hlen hO hS) fun H e s' => hCX w H s₁ e s'
end
end L2

/-! ### what the head leaves, looked at once: facts (a Bool of the written part) and defs -/
namespace Shf
open PySem PySem.Spec PyProof.Rows L2
def obsS (fa : PySem.W.Frag → Bool) (fn : List He.DefD) (K : PySem.W.Frag) : He.AlD := (fa K && fn.all fun d => d.ok K, fn.map fun d => He.fnW K d.at_)
def SaysS (fa : PySem.W.Frag → Bool) (fn : List He.DefD) (K : PySem.W.Frag) : Prop := obsS fa fn K = He.valD fn
def obsSG (n : Nat) (fa : PySem.W.Frag → Bool) (fn : List He.DefD) (g : Addr → Option Obj) : He.AlD := obsS fa fn (He.frG g (He.asD g n))
def hookS (n : Nat) (fa : PySem.W.Frag → Bool) (fn : List He.DefD) : PySem.W.Hook where
  α := He.AlD
  obs := fun s => obsSG n fa fn s.heap.get?
  val := fun _ => He.valD fn
  says := fun _ h => ∃ K : PySem.W.Frag, K.In h ∧ SaysS fa fn K
  of := fun _ _ e => ⟨_, He.frG_in, e⟩
  keeps := fun _ _ _ hh k => by
    obtain ⟨K, hK, c⟩ := hh
    exact ⟨K, PySem.W.Frag.In.keeps hK k, c⟩
theorem obsSG_eq {n : Nat} {fa : PySem.W.Frag → Bool} {fn : List He.DefD} {g : Addr → Option Obj} {s : Shared} (h : ∀ a, g a = s.heap.get? a) : obsSG n fa fn g = (hookS n fa fn).obs s := by
  rw [show g = s.heap.get? from funext h]
  rfl
section
variable {fa : PySem.W.Frag → Bool} {fn : List He.DefD} {K : PySem.W.Frag}
theorem SaysS.facts (c : SaysS fa fn K) : fa K = true := (He.ba (show (fa K && fn.all fun d => d.ok K) = true from congrArg (fun z : He.AlD => z.1) c)).1
theorem SaysS.def_ (c : SaysS fa fn K) (i : Nat) {d : He.DefD} (h : fn[i]? = some d := by rfl) : ∃ fd, FunD K d.name d.qual d.params d.body d.scope (d.dvs K) (d.kws K) (He.fAd K d.at_) fd := by
  have c2 := (He.ba (show (fa K && fn.all fun d => d.ok K) = true from congrArg (fun z : He.AlD => z.1) c)).2
  have e : (fn.map fun d => He.fnW K d.at_)[i]? = (fn.map He.DefD.val)[i]? := by rw [show fn.map (fun d => He.fnW K d.at_) = fn.map He.DefD.val from congrArg (fun z : He.AlD => z.2) c]
  rw [List.getElem?_map, List.getElem?_map, h] at e
  exact He.DefD.funD (Option.some.inj e) (List.all_eq_true.mp c2 d (List.mem_of_getElem? h))
end
end Shf


namespace Shf
open PySem PySem.W PySem.Calls PyProof.Rows
/-! ### an error made by keywords alone: C(f=v) -/
section
variable {prog : Program} {w : World} {A : Around} {E : Value → Shared → Prop} {R : Result → Shared → Prop} {h : Heap} {g : Array GenState} {d : Drawn} {t : Nat} {os : OsState}
variable {nm qn : Str} {C N : Addr} {bs bm bmB : List Value} {hd : Bool} {sn : List Str} {sb : List Value} {ab : Bool} {col : Option Bool} {dd : Option Addr} {k0 k1 k2 k3 k5 : Option Value} {B newId initId : String} {kw : List (Str × Value)}
theorem check_new_kw {M : Model} (F : ExcBaseFacts B newId initId bmB) (hT : ∀ X : String, bm.contains (.type X) = bmB.contains (.type X)) {Q : Unit → Shared → Prop}
    (hC : h.get? C = some (excClassObj nm qn C N bs bm hd sn sb ab col dd k0 k1 k2 k3 k5 newId)) (hsig : Bind.checkArgs newId ⟨.any, B, B, .cls, [⟨"args", .varPos, false⟩, ⟨"kwargs", .varKw, false⟩]⟩ ⟨[.ref C], kw⟩ = pure ()) (hq : Q () ⟨h, g, d, t, os⟩) :
    wpAny M A (checkBuiltinCall newId ⟨[.ref C], kw⟩) Q E ⟨h, g, d, t, os⟩ := by
  have hB : (Value.ref C :: bm).contains (.type B) = true := by rw [List.contains_cons, hT, F.hasB, Bool.or_true]
  have star := F.noStar
  simp only [checkBuiltinCall, F.newKind, F.newSplit, F.newRow]
  repeat (first
    | refine wpAny_loadPart_at hC ?_
    | (refine wpAny_isSubtype_exc hC ?_; rw [hB])
    | refine wpAny_staticBase_exc hC ?_
    | refine wpAny_madeBy_exc hC ?_
    | rw [hsig]
    | simp only [bne_self_eq_false, Bool.false_eq_true, if_false]
    | wp_step)
  exact hq
theorem new_kw (F : ExcBaseFacts B newId initId bmB) (hT : ∀ X : String, bm.contains (.type X) = bmB.contains (.type X))
    (hC : h.get? C = some (excClassObj nm qn C N bs bm hd sn sb ab col dd k0 k1 k2 k3 k5 newId))
    (hq : R (.ok (.ret (.ref (h.objs.size + 1)))) ⟨(h.push (W.kdv_tup [])).push (PX.excO C h.objs.size), g, d, t, os⟩) :
    codeAny (model prog w) A (.builtin newId ⟨[.ref C], kw⟩) R ⟨h, g, d, t, os⟩ := by
  have ends := F.ends
  have hB : (Value.ref C :: bm).contains (.type B) = true := by rw [List.contains_cons, hT, F.hasB, Bool.or_true]
  have hA : (Value.ref C :: bm).contains (.type "AttributeError") = false := by rw [List.contains_cons, hT, F.noAttr] <;> rfl
  have hN : (Value.ref C :: bm).contains (.type "NameError") = false := by rw [List.contains_cons, hT, F.noName] <;> rfl
  have z0 : ([] : List Value).length ≤ sizeLine := Nat.zero_le _
  refine codeAny_builtinAt F.entry ?_
  unfold Builtin.«BaseException.__new__»
  refine PySem.wpAt_bind ?_
  show PySem.wpAt _ _ _ (stack >>= _) _ _ _
  refine PySem.wpAt_bind (PySem.wpAt_stack fun p below => PySem.wpAt_of_wpAny ?_)
  wp_walk
  refine PySem.wpAt_of_wpAny ?_
  rw [F.owner]
  repeat (first
    | with_reducible refine wpAny_madeHere_exc F.canon hC ?_
    | with_reducible refine wpAny_loadPart_at hC ?_
    | (with_reducible refine wpAny_isSubtype_exc hC ?_; first | rw [hB] | rw [hA] | rw [hN])
    | wp_step)
  show R _ _
  rw [Heap.size_push]
  exact hq
theorem type_call_kw {fI : Addr} {Q : Fin → Shared → Prop} (F : ExcBaseFacts B newId initId bmB) (hT : ∀ X : String, bm.contains (.type X) = bmB.contains (.type X))
    (hC : h.get? C = some (excClassObj nm qn C N bs bm hd sn sb ab col dd k0 k1 k2 k3 k5 newId)) (hsig : Bind.checkArgs newId ⟨.any, B, B, .cls, [⟨"args", .varPos, false⟩, ⟨"kwargs", .varKw, false⟩]⟩ ⟨[.ref C], kw⟩ = pure ())
    (hi : Looks (model prog w) h (typeLookup (.ref C) "__init__") (some (.ref fI))) (hb : ∀ self, Looks (model prog w) h (bindSpecial (.ref fI) self) (.ref fI, [self]))
    (hq : codeAny (model prog w) A (.call (.ref fI) ⟨[.ref (h.objs.size + 1)], kw⟩)
      (fun r s' => match r with | .ok (.ret v) => v = .none ∧ Q (.done (.ret (.ref (h.objs.size + 1)))) s' | .ok _ => False | .error e => E e s')
      ⟨(h.push (W.kdv_tup [])).push (PX.excO C h.objs.size), g, d, t, os⟩) :
    wpAny (model prog w) A (Builtin.«type.__call__» ⟨[.ref C], kw⟩) Q E ⟨h, g, d, t, os⟩ := by
  repeat (first | with_reducible refine wpAny_loadPart_at hC ?_ | with_reducible refine wpAny_madeBy_exc hC ?_ | wp_step)
  refine codeAny_call_builtin_code (Code.quiet_builtin _ F.quiet) (check_new_kw F hT hC hsig ?_)
  refine new_kw F hT hC ?_
  show wpAny _ _ _ _ _ _
  have k : ∀ b o, h.get? b = some o → ((h.push (W.kdv_tup [])).push (PX.excO C h.objs.size)).get? b = some o := fun b o e => Heap.get?_push_of_some _ (Heap.get?_push_of_some _ e)
  have hC2 := k _ _ hC
  have he : ((h.push (W.kdv_tup [])).push (PX.excO C h.objs.size)).get? (h.objs.size + 1) = some (PX.excO C h.objs.size) := by heap_get
  have self : (Value.ref C :: bm).contains (.ref C) = true := by simp
  have i1 := hi.keeps k
  have b1 := (hb (.ref (h.objs.size + 1))).keeps k
  unfold isInstance
  repeat (first | with_reducible refine wpAny_loadPart_at he ?_ | (with_reducible refine wpAny_isSubtype_exc hC2 ?_; rw [self]) | wp_step)
  show wpAny _ _ (typeLookup (.ref C) _) _ _ _
  refine i1.at ?_
  refine wpAny_holding (wpAny_bind (b1.at ?_))
  refine wpAny_bind (wpAny_call (codeAny_mono hq fun r s' z => ?_))
  match r, z with
  | .error e, z => exact z
  | .ok (.ret v), z =>
    obtain ⟨rfl, z⟩ := z
    first
      | exact wpAny_pure (wpAny_pure z)
      | (wp_walk; exact z)
  | .ok .next, z => exact z.elim
  | .ok .brk, z => exact z.elim
  | .ok .cont, z => exact z.elim
theorem check_call_kw {M : Model} {Q : Unit → Shared → Prop} (hC : h.get? C = some (excClassObj nm qn C N bs bm hd sn sb ab col dd k0 k1 k2 k3 k5 newId)) (hs : argsOk "type.__call__" ⟨[.ref C], kw⟩)
    (hq : Q () ⟨h, g, d, t, os⟩) : wpAny M A (checkBuiltinCall "type.__call__" ⟨[.ref C], kw⟩) Q E ⟨h, g, d, t, os⟩ :=
  check_slot tc_kind tc_split (.andThen (fun A Q E s k q => wpAny_typeOf_ref (k _ _ hC) q) (.of_pure tc_sub)) hs hq
theorem call_kw {fI : Addr} (F : ExcBaseFacts B newId initId bmB) (hT : ∀ X : String, bm.contains (.type X) = bmB.contains (.type X))
    (hC : h.get? C = some (excClassObj nm qn C N bs bm hd sn sb ab col dd k0 k1 k2 k3 k5 newId)) (hsig : Bind.checkArgs newId ⟨.any, B, B, .cls, [⟨"args", .varPos, false⟩, ⟨"kwargs", .varKw, false⟩]⟩ ⟨[.ref C], kw⟩ = pure ())
    (hi : Looks (model prog w) h (typeLookup (.ref C) "__init__") (some (.ref fI))) (hb : ∀ self, Looks (model prog w) h (bindSpecial (.ref fI) self) (.ref fI, [self]))
    (hq : codeAny (model prog w) (A.under (.builtin "type.__call__" ⟨[.ref C], kw⟩)) (.call (.ref fI) ⟨[.ref (h.objs.size + 1)], kw⟩) (InitBack (h.objs.size + 1) R)
      ⟨(h.push (W.kdv_tup [])).push (PX.excO C h.objs.size), g, d, t, os⟩) :
    codeAny (model prog w) A (.call (.ref C) ⟨[], kw⟩) R ⟨h, g, d, t, os⟩ := by
  have f1 := tc_lookup
  have f2 := tc_bind (.ref C)
  have ty : (⟨h, g, d, t, os⟩ : Shared).TypeIs (.ref C) "type" := ⟨_, hC, rfl⟩
  refine codeAny_of_tree ?_
  show wpAny _ _ (callAny (.ref C) _) _ _ _
  repeat (any_goals (first | assumption | with_reducible refine wpAny_loadPart_at hC ?_ | wp_step))
  refine ⟨rfl, ?_⟩
  refine codeAny_call_builtin_at (Code.quiet_builtin _ (by decide +kernel)) entry_typeCall (check_call_kw hC (tc_args _ _ _) (type_call_kw F hT hC hsig hi hb (codeAny_mono hq fun r s' z => ?_)))
  match r, z with
  | .error e, z => exact z
  | .ok (.ret v), z => exact z
  | .ok .next, z => exact z.elim
  | .ok .brk, z => exact z.elim
  | .ok .cont, z => exact z.elim

theorem sig_at {v : Value} : Bind.checkArgs "Exception.__new__" ⟨.any, "Exception", "Exception", .cls, [⟨"args", .varPos, false⟩, ⟨"kwargs", .varKw, false⟩]⟩ ⟨[.ref C], [(("at" : Str), v)]⟩ = pure () := by first | rfl | kernel_rfl
theorem runK_at {K : Frag} {S fI : Addr} {s : Shared} (T : Mkr_at K S C fI) {x t0 : Addr} {v : Value} (X : K.In s.heap) (hlim : s.heap.NoLimit) (hx : s.heap.get? x = some (PX.excO C t0)) (hroom : A.depth < recursionLimit)
    (hq : ∀ h' tk dx, Kept s.heap h' x C dx t0 "at" v → R (.ok (.ret .none)) { s with heap := h', toks := tk }) :
    codeAny (model prog w) A (.call (.ref fI) ⟨[.ref x], [(("at" : Str), v)]⟩) R s := by
  obtain ⟨q, oc, od, kV, doc, pm, an, cdv, ct, osl, p1, p2, q1, q2, q3, q4, ho, hcd⟩ := T.fn
  refine Att.call_fn (binds := [("self", .ref x), ("at", v)]) X hlim ho hcd hroom (BindsTo.of_eq (by first | rfl | with_unfolding_all rfl | kernel_rfl)) (by first | rfl | decide | with_unfolding_all rfl) (fun s₁ IC => ?_) rfl rfl rfl
  obtain ⟨h1, tk1, rfl⟩ := IC.toInCall.same
  have k : ∀ b o, s.heap.get? b = some o → h1.get? b = some o := IC.toInCall.keep
  have hn := IC.toInCall.ns
  have z : s.heap.objs.size < h1.objs.size := hn.lt
  show wpAny _ _ (execs _ _) _ _ _
  refine wpAny_execs_cons (plainObj_wpAny_Assign_Attribute ?_)
  refine ld_loc (v := v) hn (by first | rfl | with_unfolding_all rfl | kernel_rfl) (ld_loc (v := .ref x) hn (by first | rfl | with_unfolding_all rfl | kernel_rfl) ?_)
  refine store_err T.cls (X.keeps k) T.tk (k _ _ hx) fun h3 tk3 dx m => ?_
  show wpAny _ _ (execs _ _) _ _ _
  exact wpAny_execs_nil (hq h3 tk3 dx ⟨fun b o hb e => m.keep b o hb (k b o e), m.obj, Nat.le_of_lt (Nat.lt_of_lt_of_le z m.big), m.ne, m.ns⟩)
theorem makeK_at {K : Frag} {S fI : Addr} {s : Shared} (T : Mkr_at K S C fI) {v : Value} (X : K.In s.heap) (hlim : s.heap.NoLimit) (hroom : A.depth + 1 < recursionLimit)
    (hq : ∀ h' tk e d, MadeE s.heap h' e C (some d) → s.heap.objs.size ≤ d → d ≠ e → h'.Ns1 d (fun y => if y = "at" then some v else none) → R (.ok (.ret (.ref e))) { s with heap := h', toks := tk }) :
    codeAny (model prog w) A (.call (.ref C) ⟨[], [(("at" : Str), v)]⟩) R s := by
  obtain ⟨nm, N, qn, bs, bm, hd, sn, sb, ab, col, dd, k0, k1, k2, k3, k5, hC, hT⟩ := excInit_of X T.cls.ini
  obtain ⟨hp, g, dr, tk, os⟩ := s
  have k : ∀ b o, hp.get? b = some o → ((hp.push (W.kdv_tup [])).push (PX.excO C hp.objs.size)).get? b = some o := fun b o e => Heap.get?_push_of_some _ (Heap.get?_push_of_some _ e)
  have he : ((hp.push (W.kdv_tup [])).push (PX.excO C hp.objs.size)).get? (hp.objs.size + 1) = some (PX.excO C hp.objs.size) := by heap_get
  have hsz : ((hp.push (W.kdv_tup [])).push (PX.excO C hp.objs.size)).objs.size = hp.objs.size + 2 := by rw [Heap.size_push, Heap.size_push]
  refine call_kw F.excBase_Exception hT hC sig_at (looks_findIn X T.ini) (fun self => bind_fn X self T.tI) ?_
  refine runK_at (s := ⟨_, g, dr, tk, os⟩) T (X.keeps k) (hlim.keeps k) he ?_ fun h' tk' dx m => ?_
  · have e : (A.under (.builtin "type.__call__" ⟨[.ref C], [(("at" : Str), v)]⟩)).depth = A.depth + 1 := L2.make_depth (us := [])
    rw [e]
    exact hroom
  · have big : hp.objs.size ≤ dx := by
      have y := m.big
      dsimp only at y
      rw [hsz] at y
      omega
    exact ⟨rfl, hq h' tk' (hp.objs.size + 1) dx ⟨fun b o e => m.keep b o (Nat.ne_of_lt (Nat.lt_succ_of_lt (Heap.lt_size e))) (k b o e), Nat.le_succ _, ⟨_, _, m.obj, rfl, rfl, rfl, rfl⟩⟩ big m.ne m.ns⟩


theorem sig_word {v : Value} : Bind.checkArgs "Exception.__new__" ⟨.any, "Exception", "Exception", .cls, [⟨"args", .varPos, false⟩, ⟨"kwargs", .varKw, false⟩]⟩ ⟨[.ref C], [(("word" : Str), v)]⟩ = pure () := by first | rfl | kernel_rfl
theorem runK_word {K : Frag} {S fI : Addr} {s : Shared} (T : Mkr_word K S C fI) {x t0 : Addr} {v : Value} (X : K.In s.heap) (hlim : s.heap.NoLimit) (hx : s.heap.get? x = some (PX.excO C t0)) (hroom : A.depth < recursionLimit)
    (hq : ∀ h' tk dx, Kept s.heap h' x C dx t0 "word" v → R (.ok (.ret .none)) { s with heap := h', toks := tk }) :
    codeAny (model prog w) A (.call (.ref fI) ⟨[.ref x], [(("word" : Str), v)]⟩) R s := by
  obtain ⟨q, oc, od, kV, doc, pm, an, cdv, ct, osl, p1, p2, q1, q2, q3, q4, ho, hcd⟩ := T.fn
  refine Att.call_fn (binds := [("self", .ref x), ("word", v)]) X hlim ho hcd hroom (BindsTo.of_eq (by first | rfl | with_unfolding_all rfl | kernel_rfl)) (by first | rfl | decide | with_unfolding_all rfl) (fun s₁ IC => ?_) rfl rfl rfl
  obtain ⟨h1, tk1, rfl⟩ := IC.toInCall.same
  have k : ∀ b o, s.heap.get? b = some o → h1.get? b = some o := IC.toInCall.keep
  have hn := IC.toInCall.ns
  have z : s.heap.objs.size < h1.objs.size := hn.lt
  show wpAny _ _ (execs _ _) _ _ _
  refine wpAny_execs_cons (plainObj_wpAny_Assign_Attribute ?_)
  refine ld_loc (v := v) hn (by first | rfl | with_unfolding_all rfl | kernel_rfl) (ld_loc (v := .ref x) hn (by first | rfl | with_unfolding_all rfl | kernel_rfl) ?_)
  refine store_err T.cls (X.keeps k) T.tk (k _ _ hx) fun h3 tk3 dx m => ?_
  show wpAny _ _ (execs _ _) _ _ _
  exact wpAny_execs_nil (hq h3 tk3 dx ⟨fun b o hb e => m.keep b o hb (k b o e), m.obj, Nat.le_of_lt (Nat.lt_of_lt_of_le z m.big), m.ne, m.ns⟩)
theorem makeK_word {K : Frag} {S fI : Addr} {s : Shared} (T : Mkr_word K S C fI) {v : Value} (X : K.In s.heap) (hlim : s.heap.NoLimit) (hroom : A.depth + 1 < recursionLimit)
    (hq : ∀ h' tk e d, MadeE s.heap h' e C (some d) → s.heap.objs.size ≤ d → d ≠ e → h'.Ns1 d (fun y => if y = "word" then some v else none) → R (.ok (.ret (.ref e))) { s with heap := h', toks := tk }) :
    codeAny (model prog w) A (.call (.ref C) ⟨[], [(("word" : Str), v)]⟩) R s := by
  obtain ⟨nm, N, qn, bs, bm, hd, sn, sb, ab, col, dd, k0, k1, k2, k3, k5, hC, hT⟩ := excInit_of X T.cls.ini
  obtain ⟨hp, g, dr, tk, os⟩ := s
  have k : ∀ b o, hp.get? b = some o → ((hp.push (W.kdv_tup [])).push (PX.excO C hp.objs.size)).get? b = some o := fun b o e => Heap.get?_push_of_some _ (Heap.get?_push_of_some _ e)
  have he : ((hp.push (W.kdv_tup [])).push (PX.excO C hp.objs.size)).get? (hp.objs.size + 1) = some (PX.excO C hp.objs.size) := by heap_get
  have hsz : ((hp.push (W.kdv_tup [])).push (PX.excO C hp.objs.size)).objs.size = hp.objs.size + 2 := by rw [Heap.size_push, Heap.size_push]
  refine call_kw F.excBase_Exception hT hC sig_word (looks_findIn X T.ini) (fun self => bind_fn X self T.tI) ?_
  refine runK_word (s := ⟨_, g, dr, tk, os⟩) T (X.keeps k) (hlim.keeps k) he ?_ fun h' tk' dx m => ?_
  · have e : (A.under (.builtin "type.__call__" ⟨[.ref C], [(("word" : Str), v)]⟩)).depth = A.depth + 1 := L2.make_depth (us := [])
    rw [e]
    exact hroom
  · have big : hp.objs.size ≤ dx := by
      have y := m.big
      dsimp only at y
      rw [hsz] at y
      omega
    exact ⟨rfl, hq h' tk' (hp.objs.size + 1) dx ⟨fun b o e => m.keep b o (Nat.ne_of_lt (Nat.lt_succ_of_lt (Heap.lt_size e))) (k b o e), Nat.le_succ _, ⟨_, _, m.obj, rfl, rfl, rfl, rfl⟩⟩ big m.ne m.ns⟩

end
end Shf


namespace L2
open PySem PySem.Spec PyProof.Rows
section
variable {X : Cx} {S C fI : Addr}

theorem pe_made_at {x : Str} {e : Expr} {te : TE} {p pos apos kp : Pos} {k : Nat} (T : Shf.Mkr_at X.K S C fI) (gC : X.mg x = some (.ref C)) (hr : Room k X.A) (hg : Gl X x) (he : PE X e te) (hdb : (x == ("__debug__" : Str)) = false := by decide)
    (hb : attributeBase (.Call (.Name x p) [] [⟨some "at", e, kp⟩] pos) "at" X.env (eval (.Call (.Name x p) [] [⟨some "at", e, kp⟩] pos) X.env) = eval (.Call (.Name x p) [] [⟨some "at", e, kp⟩] pos) X.env := by rfl)
    (hall : (backToKw pos (keywordEach [⟨some "at", e, kp⟩] X.env)).all (·.1.isSome) = true := by rfl) (hks : (backToKw pos (keywordEach [⟨some "at", e, kp⟩] X.env)).filterMap (·.1) = [("at" : Str)] := by rfl)
    (hpl : ((backTo pos (starEach [] X.env)).any (·.1) || (backToKw pos (keywordEach [⟨some "at", e, kp⟩] X.env)).any (·.1.isNone)) = false := by rfl) :
    PE X (.Attribute (.Call (.Name x p) [] [⟨some "at", e, kp⟩] pos) "at" apos) (fun σ H Q => te σ H fun y H1 => ∃ v, [y] = [v] ∧ Q v H1) := by
  refine ⟨fun pins s σ H Q I h => attr_of hb ?_⟩
  refine wpAny_Call_Name_kw (ld_glob I hg gC ?_ hdb)
  refine PySem.W.callWith_KW0 (h₀ := X.base) I.ok.mod.kin T.cls.kp hall ?_ hpl
  refine thn ((pk_cons (nm := "at") (kpos := kp) he pk_nil).run pos pins s σ H (fun zs H1 => ∃ v, zs = [v] ∧ Q v H1) I h) fun ws s1 hh => ?_
  obtain ⟨zs, H1, I1, rz, v, rfl, q⟩ := hh
  obtain ⟨u, rfl, rv⟩ : ∃ u, ws = [u] ∧ RelV v u := by
    cases rz with
    | cons rv rn =>
      cases rn
      exact ⟨_, rfl, rv⟩
  refine ⟨I1.kIn, ?_⟩
  rw [hks]
  have lim := I1.nolimit
  obtain ⟨hp, g, dr, tk, os⟩ := s1
  refine wpAny_call (Shf.makeK_at (s := ⟨hp, g, dr, tk, os⟩) T I1.kIn lim (by have := hr.dp; omega) fun h' tk' a d M dbig dne hns => ?_)
  obtain ⟨oe, fv, hoe, hc, hd, hdat, h1⟩ := M.obj
  obtain ⟨od, ho, hl⟩ := lookIn_ns hns
  have J : PySem.W.InstAt h' a oe C (some od) := ⟨hoe, hc, by unfold PySem.W.notCls; rw [hdat] <;> rfl, by rw [hd]; exact ho⟩
  obtain ⟨cd, hcd, _, hdict⟩ := T.cls.mro
  have hD : PySem.W.hasDictIn X.K C = true := by
    show (PySem.W.clsIn X.K C).any (·.hasDict) = true
    rw [hcd]
    exact hdict
  have hl2 : PySem.W.lookIn "at" od = some (some u) := by
    rw [hl]
    exact congrArg some (if_pos rfl)
  exact PySem.PX.exc_get (s := ⟨h', g, dr, tk', os⟩) (I1.kIn.keeps M.keep) J T.cls.ga T.cls.gg T.cls.exc (PySem.W.findObj_own hD T.no rfl hl2) (handed_of rv) ⟨v, H1, (I1.kept (t' := tk') M.keep).tok _, rv, q⟩

theorem pe_made_word {x : Str} {e : Expr} {te : TE} {p pos apos kp : Pos} {k : Nat} (T : Shf.Mkr_word X.K S C fI) (gC : X.mg x = some (.ref C)) (hr : Room k X.A) (hg : Gl X x) (he : PE X e te) (hdb : (x == ("__debug__" : Str)) = false := by decide)
    (hb : attributeBase (.Call (.Name x p) [] [⟨some "word", e, kp⟩] pos) "word" X.env (eval (.Call (.Name x p) [] [⟨some "word", e, kp⟩] pos) X.env) = eval (.Call (.Name x p) [] [⟨some "word", e, kp⟩] pos) X.env := by rfl)
    (hall : (backToKw pos (keywordEach [⟨some "word", e, kp⟩] X.env)).all (·.1.isSome) = true := by rfl) (hks : (backToKw pos (keywordEach [⟨some "word", e, kp⟩] X.env)).filterMap (·.1) = [("word" : Str)] := by rfl)
    (hpl : ((backTo pos (starEach [] X.env)).any (·.1) || (backToKw pos (keywordEach [⟨some "word", e, kp⟩] X.env)).any (·.1.isNone)) = false := by rfl) :
    PE X (.Attribute (.Call (.Name x p) [] [⟨some "word", e, kp⟩] pos) "word" apos) (fun σ H Q => te σ H fun y H1 => ∃ v, [y] = [v] ∧ Q v H1) := by
  refine ⟨fun pins s σ H Q I h => attr_of hb ?_⟩
  refine wpAny_Call_Name_kw (ld_glob I hg gC ?_ hdb)
  refine PySem.W.callWith_KW0 (h₀ := X.base) I.ok.mod.kin T.cls.kp hall ?_ hpl
  refine thn ((pk_cons (nm := "word") (kpos := kp) he pk_nil).run pos pins s σ H (fun zs H1 => ∃ v, zs = [v] ∧ Q v H1) I h) fun ws s1 hh => ?_
  obtain ⟨zs, H1, I1, rz, v, rfl, q⟩ := hh
  obtain ⟨u, rfl, rv⟩ : ∃ u, ws = [u] ∧ RelV v u := by
    cases rz with
    | cons rv rn =>
      cases rn
      exact ⟨_, rfl, rv⟩
  refine ⟨I1.kIn, ?_⟩
  rw [hks]
  have lim := I1.nolimit
  obtain ⟨hp, g, dr, tk, os⟩ := s1
  refine wpAny_call (Shf.makeK_word (s := ⟨hp, g, dr, tk, os⟩) T I1.kIn lim (by have := hr.dp; omega) fun h' tk' a d M dbig dne hns => ?_)
  obtain ⟨oe, fv, hoe, hc, hd, hdat, h1⟩ := M.obj
  obtain ⟨od, ho, hl⟩ := lookIn_ns hns
  have J : PySem.W.InstAt h' a oe C (some od) := ⟨hoe, hc, by unfold PySem.W.notCls; rw [hdat] <;> rfl, by rw [hd]; exact ho⟩
  obtain ⟨cd, hcd, _, hdict⟩ := T.cls.mro
  have hD : PySem.W.hasDictIn X.K C = true := by
    show (PySem.W.clsIn X.K C).any (·.hasDict) = true
    rw [hcd]
    exact hdict
  have hl2 : PySem.W.lookIn "word" od = some (some u) := by
    rw [hl]
    exact congrArg some (if_pos rfl)
  exact PySem.PX.exc_get (s := ⟨h', g, dr, tk', os⟩) (I1.kIn.keeps M.keep) J T.cls.ga T.cls.gg T.cls.exc (PySem.W.findObj_own hD T.no rfl hl2) (handed_of rv) ⟨v, H1, (I1.kept (t' := tk') M.keep).tok _, rv, q⟩
end
end L2

namespace K00
open PySem PySem.Spec PyProof.Rows L2
def top (i : Nat) : Stmt := PySem.Challenge.pw_slowshelves_k00_whole_errors_and_what_th.main.body.getD i (.Pass ⟨0, 0, 0, 0⟩)
abbrev s_law_box : Stmt := top 37
abbrev s_law_take : Stmt := top 38
abbrev s_law_pick : Stmt := top 39
abbrev s_law_raise_a : Stmt := top 40
abbrev s_law_raise_b : Stmt := top 41
abbrev s_law_raise_c : Stmt := top 42
abbrev s_law_raise_d : Stmt := top 43
abbrev s_law_raise_e : Stmt := top 44
abbrev s_law_raise : Stmt := top 45
abbrev s_law_caught_a : Stmt := top 46
abbrev s_law_caught_b : Stmt := top 47
abbrev s_law_caught_c : Stmt := top 48
abbrev s_law_caught_d : Stmt := top 49
abbrev s_law_caught_e : Stmt := top 50
abbrev s_law_is_base : Stmt := top 51
abbrev slaw : Stmt := top 52
/-- the errors that keep one thing in at, where their makers stand -/
def errAt : List (PySem.Str × Nat) := [("InvalidText", 6), ("InvalidShelf", 10), ("InvalidRoom", 14), ("InvalidLayout", 18), ("InvalidWeb", 22), ("InvalidRooms", 26), ("InvalidWalk", 30), ("InvalidTrack", 34), ("InvalidFold", 38), ("InvalidBlock", 42), ("InvalidCell", 46), ("InvalidOut", 50), ("InvalidRun", 54), ("InvalidGaps", 58), ("InvalidPrices", 62), ("InvalidWeights", 66), ("InvalidWrites", 70), ("InvalidLot", 74), ("InvalidRule", 78), ("InvalidWeave", 82), ("InvalidDeed", 86), ("InvalidIndex", 90), ("InvalidBegins", 94), ("InvalidRows", 98), ("InvalidOrder", 102), ("InvalidLists", 106), ("InvalidLengths", 110), ("InvalidPaper", 114), ("InvalidAnswers", 118), ("InvalidHouse", 122), ("Refused", 126)]
def initAt (q : PySem.Str × Nat) : He.DefD := ⟨(q.1, some "__init__"), "__init__", q.1 ++ ".__init__", Shf.args_at ⟨q.2, 17, q.2, 21⟩ ⟨q.2, 23, q.2, 25⟩, Shf.body_at ⟨q.2 + 1, 8, q.2 + 1, 12⟩ ⟨q.2 + 1, 8, q.2 + 1, 15⟩ ⟨q.2 + 1, 18, q.2 + 1, 20⟩ ⟨q.2 + 1, 8, q.2 + 1, 20⟩, Shf.scope_at, [], []⟩
def initWord (q : PySem.Str × Nat) : He.DefD := ⟨(q.1, some "__init__"), "__init__", q.1 ++ ".__init__", Shf.args_word ⟨q.2, 17, q.2, 21⟩ ⟨q.2, 23, q.2, 27⟩, Shf.body_word ⟨q.2 + 1, 8, q.2 + 1, 12⟩ ⟨q.2 + 1, 8, q.2 + 1, 17⟩ ⟨q.2 + 1, 20, q.2 + 1, 24⟩ ⟨q.2 + 1, 8, q.2 + 1, 24⟩, Shf.scope_word, [], []⟩
def init0 (q : PySem.Str × Nat) : He.DefD := ⟨(q.1, some "__init__"), "__init__", q.1 ++ ".__init__", Shf.args_0 ⟨q.2, 17, q.2, 21⟩, [.Pass ⟨q.2 + 1, 8, q.2 + 1, 12⟩], Shf.scope_0, [], []⟩
def errWord : PySem.Str × Nat := ("InvalidSize", 130)
def err0 : List (PySem.Str × Nat) := [("InvalidCommand", 134), ("InvalidEdit", 138)]
def ownDefs : List He.DefD := [⟨("_law_box", none), "_law_box", "_law_box", defArgs s_law_box, defBody s_law_box, defScope s_law_box, [], []⟩, ⟨("_law_take", none), "_law_take", "_law_take", defArgs s_law_take, defBody s_law_take, defScope s_law_take, [], []⟩, ⟨("_law_pick", none), "_law_pick", "_law_pick", defArgs s_law_pick, defBody s_law_pick, defScope s_law_pick, [], []⟩, ⟨("_law_raise_a", none), "_law_raise_a", "_law_raise_a", defArgs s_law_raise_a, defBody s_law_raise_a, defScope s_law_raise_a, [], []⟩, ⟨("_law_raise_b", none), "_law_raise_b", "_law_raise_b", defArgs s_law_raise_b, defBody s_law_raise_b, defScope s_law_raise_b, [], []⟩, ⟨("_law_raise_c", none), "_law_raise_c", "_law_raise_c", defArgs s_law_raise_c, defBody s_law_raise_c, defScope s_law_raise_c, [], []⟩, ⟨("_law_raise_d", none), "_law_raise_d", "_law_raise_d", defArgs s_law_raise_d, defBody s_law_raise_d, defScope s_law_raise_d, [], []⟩, ⟨("_law_raise_e", none), "_law_raise_e", "_law_raise_e", defArgs s_law_raise_e, defBody s_law_raise_e, defScope s_law_raise_e, [], []⟩, ⟨("_law_raise", none), "_law_raise", "_law_raise", defArgs s_law_raise, defBody s_law_raise, defScope s_law_raise, [], []⟩, ⟨("_law_caught_a", none), "_law_caught_a", "_law_caught_a", defArgs s_law_caught_a, defBody s_law_caught_a, defScope s_law_caught_a, [], []⟩, ⟨("_law_caught_b", none), "_law_caught_b", "_law_caught_b", defArgs s_law_caught_b, defBody s_law_caught_b, defScope s_law_caught_b, [], []⟩, ⟨("_law_caught_c", none), "_law_caught_c", "_law_caught_c", defArgs s_law_caught_c, defBody s_law_caught_c, defScope s_law_caught_c, [], []⟩, ⟨("_law_caught_d", none), "_law_caught_d", "_law_caught_d", defArgs s_law_caught_d, defBody s_law_caught_d, defScope s_law_caught_d, [], []⟩, ⟨("_law_caught_e", none), "_law_caught_e", "_law_caught_e", defArgs s_law_caught_e, defBody s_law_caught_e, defScope s_law_caught_e, [], []⟩, ⟨("_law_is_base", none), "_law_is_base", "_law_is_base", defArgs s_law_is_base, defBody s_law_is_base, defScope s_law_is_base, [], []⟩, ⟨("law", none), "law", "law", defArgs slaw, defBody slaw, defScope slaw, [], []⟩]
def fn : List He.DefD := ownDefs ++ errAt.map initAt ++ [initWord errWord] ++ err0.map init0
/-- the errors' names, numbered as the law numbers them -/
def errNames : List PySem.Str := errAt.map (·.1) ++ [errWord.1] ++ err0.map (·.1)
def base (K : PySem.W.Frag) : Addr := He.ga K "ShelfError"
def ea (K : PySem.W.Frag) (x : PySem.Str) : Addr := He.ga K x
def ia (K : PySem.W.Frag) (x : PySem.Str) : Addr := He.ma K (He.ga K x) "__init__"
def errFact (K : PySem.W.Frag) (x : PySem.Str) : Bool := Shf.oo (PySem.W.nsIn K mainGlobals x) (some (some (.ref (ea K x)))) && (Shf.errB K (base K) (ea K x) && (Shf.oo (PySem.W.findIn K (.ref (ea K x)) "__init__") (some (some (.ref (ia K x)))) && decide (PySem.W.typeIn K (.ref (ia K x)) = some (.type "function"))))
def fldFact (K : PySem.W.Frag) (f x : PySem.Str) : Bool := decide (PySem.W.takerIn K (ea K x) f = some none) && Shf.oo (PySem.W.findIn K (.ref (ea K x)) f) (some none)
def baseFact (K : PySem.W.Frag) : Bool := Shf.oo (PySem.W.nsIn K mainGlobals "ShelfError") (some (some (.ref (base K)))) && (decide (PySem.W.subIn K (.ref (base K)) (.type "BaseException") = some true) && ((PySem.W.clsIn K (base K)).isSome && decide (PySem.W.typeIn K (.ref (base K)) = some (.type "type"))))
def free (K : PySem.W.Frag) (x : PySem.Str) : Bool := Shf.oo (PySem.W.nsIn K mainGlobals x) (some none)
def glo (K : PySem.W.Frag) (x : PySem.Str) : Bool := Shf.oo (PySem.W.nsIn K mainGlobals x) (some (some (.ref (ea K x))))
def nodupB : List Addr → Bool
  | [] => true
  | a :: r => !r.contains a && nodupB r
def freeNames : List PySem.Str := ["len", "abs", "int", "range", "repr"]
def facts (K : PySem.W.Frag) : Bool := (errNames.all fun x => errFact K x) && ((errAt.all fun q => fldFact K "at" q.1) && (fldFact K "word" errWord.1 && (baseFact K && (nodupB (base K :: errNames.map (ea K)) && ((freeNames.all fun x => free K x) && (ownDefs.all fun d => glo K d.at_.1))))))
abbrev R : PySem.W.OpenRow := PySem.W.OpenLaw.row PySem.Challenge.rw_slowshelves_k00_whole_errors_and_what_th
def names1 : List PySem.Str := ["ShelfError", "InvalidText", "InvalidShelf", "InvalidRoom", "InvalidLayout", "InvalidWeb", "InvalidRooms", "InvalidWalk", "InvalidTrack", "InvalidFold", "InvalidBlock", "InvalidCell", "InvalidOut", "InvalidRun", "InvalidGaps", "InvalidPrices", "InvalidWeights", "InvalidWrites"]
def names3 : List PySem.Str := ["InvalidLot", "InvalidRule", "InvalidWeave", "InvalidDeed", "InvalidIndex", "InvalidBegins", "InvalidRows", "InvalidOrder", "InvalidLists", "InvalidLengths", "InvalidPaper", "InvalidAnswers", "InvalidHouse", "Refused", "InvalidSize", "InvalidCommand", "InvalidEdit"]
def names2 : List PySem.Str := ["_law_box", "_law_take", "_law_pick", "_law_raise_a", "_law_raise_b", "_law_raise_c", "_law_raise_d", "_law_raise_e", "_law_raise", "_law_caught_a", "_law_caught_b", "_law_caught_c", "_law_caught_d", "_law_caught_e", "_law_is_base"]
abbrev qv : Program := PySem.W.view R.prog [52]
abbrev hk : PySem.W.Hook := Shf.hookS 4 facts fn
def ob (s : PySem.W.SharedT) : He.AlD := Shf.obsSG 4 facts fn (HandSHeadRun.getT s)
theorem ob_eq (s : PySem.W.SharedT) : ob s = hk.obs s.abs := Shf.obsSG_eq (HandSHeadRun.getT_eq s)
theorem map_two {α β γ : Type} {o : Option α} {f : α → β} {g : α → γ} {x : β} {y : γ} (h1 : o.map f = some x) (h2 : o.map g = some y) : o.map (fun s => (f s, g s)) = some (x, y) := by
  cases o with
  | none => cases h1
  | some v =>
    cases h1
    cases h2
    rfl
abbrev lsN : List PySem.Str := names1 ++ names3 ++ names2
open PySem.W PySem.Calls HandSHeadRun in
theorem runC (w : World) (os : OsState) : (HandSHeadRun.endF (HandSHeadRun.stepQ (HandSHeadRun.denQ HandSHeadRun.tabQ) R.prog w) 12000 R.prog w os).map (fun s => ob s) = some (hk.val w) := by
  kernel_rfl
open PySem.W PySem.Calls HandSHeadRun in
theorem runA (w : World) (os : OsState) : (HandSHeadRun.endF (HandSHeadRun.stepQ (HandSHeadRun.denQ HandSHeadRun.tabQ) R.prog w) 12000 R.prog w os).map (fun s => HandSHeadRun.looksF R.prog (boot_heap w.params) s.abs) = some true := by
  kernel_rfl
open PySem.W PySem.Calls HandSHeadRun in
theorem runB (w : World) (os : OsState) : (HandSHeadRun.endF (HandSHeadRun.stepQ (HandSHeadRun.denQ HandSHeadRun.tabQ) R.prog w) 12000 R.prog w os).map (fun s => HandSHeadRun.seenQ qv lsN (importedModules R.prog.main.body) (fun s => PySem.W.xlAt qv [] s && PySem.W.recOk R.toRowW.records s) s.abs) = some (PySem.W.openGood qv lsN) := by
  kernel_rfl
theorem run (w : World) : HandSHeadRun.RunEq R qv hk ob 12000 (names1 ++ names3 ++ names2) w := fun os => map_two (runA w os) (map_two (runB w os) (runC w os))
end K00

namespace K00
open PySem PySem.Spec PyProof.Rows L2
/-! ### what the head says, in the words of the proof -/
theorem def_mem {fa : PySem.W.Frag → Bool} {fn : List He.DefD} {K : PySem.W.Frag} (c : Shf.SaysS fa fn K) {d : He.DefD} (h : d ∈ fn) : ∃ fd, FunD K d.name d.qual d.params d.body d.scope (d.dvs K) (d.kws K) (He.fAd K d.at_) fd := by
  obtain ⟨i, hi⟩ := List.getElem?_of_mem h
  exact c.def_ i hi
/-- a plain def of the text, at f -/
abbrev Own (K : PySem.W.Frag) (x : PySem.Str) (st : Stmt) (f : Addr) (fd : FuncData) : Prop := FunD K x x (defArgs st) (defBody st) (defScope st) [] [] f fd
structure Top (K : PySem.W.Frag) (mg : PySem.Str → Option Value) : Prop where
  at_ : ∀ i, i < 31 → Shf.Mkr_at K (base K) (ea K (errNames.getD i "")) (ia K (errNames.getD i ""))
  word : Shf.Mkr_word K (base K) (ea K (errNames.getD 31 "")) (ia K (errNames.getD 31 ""))
  none32 : Shf.Mkr_0 K (base K) (ea K (errNames.getD 32 "")) (ia K (errNames.getD 32 ""))
  none33 : Shf.Mkr_0 K (base K) (ea K (errNames.getD 33 "")) (ia K (errNames.getD 33 ""))
  cls : ∀ i, i < 34 → Shf.ErrC K (base K) (ea K (errNames.getD i ""))
  g : ∀ i, i < 34 → mg (errNames.getD i "") = some (.ref (ea K (errNames.getD i "")))
  nb : ∀ i, i < 34 → ea K (errNames.getD i "") ≠ base K
  inj : ∀ i j, i < 34 → j < 34 → ea K (errNames.getD i "") = ea K (errNames.getD j "") → i = j
  gb : mg "ShelfError" = some (.ref (base K))
  b1 : PySem.W.subIn K (.ref (base K)) (.type "BaseException") = some true
  b2 : (PySem.W.clsIn K (base K)).isSome = true
  b3 : PySem.W.typeIn K (.ref (base K)) = some (.type "type")
  own : ∀ d ∈ ownDefs, mg d.at_.1 = some (.ref (ea K d.at_.1))
  free : ∀ x ∈ freeNames, mg x = none
theorem dfl0 {K : PySem.W.Frag} {dV : Value} (h : DflV K dV []) : dV = .none := by
  rcases h with h | h
  · exact h.2
  · exact absurd rfl h.1
theorem mkr_at {K : PySem.W.Frag} {S C fI : Addr} {fd : FuncData} {x q : PySem.Str} {p1 p2 q1 q2 q3 q4 : Pos} (hc : Shf.ErrC K S C) (h1 : PySem.W.takerIn K C "at" = some none) (h2 : PySem.W.findIn K (.ref C) "at" = some none)
    (h3 : PySem.W.findIn K (.ref C) "__init__" = some (some (.ref fI))) (h4 : PySem.W.typeIn K (.ref fI) = some (.type "function"))
    (F : FunD K "__init__" q (Shf.args_at p1 p2) (Shf.body_at q1 q2 q3 q4) Shf.scope_at [] [] fI fd) : Shf.Mkr_at K S C fI := by
  obtain ⟨oc, od, dV, kV, doc, pm, an, cdv, ct, osl, rfl, lk, hcd, hd, _⟩ := F.ex
  rw [dfl0 hd] at lk
  exact ⟨hc, h1, h2, h3, h4, q, oc, od, kV, doc, pm, an, cdv, ct, osl, p1, p2, q1, q2, q3, q4, lk, hcd⟩
theorem mkr_word {K : PySem.W.Frag} {S C fI : Addr} {fd : FuncData} {x q : PySem.Str} {p1 p2 q1 q2 q3 q4 : Pos} (hc : Shf.ErrC K S C) (h1 : PySem.W.takerIn K C "word" = some none) (h2 : PySem.W.findIn K (.ref C) "word" = some none)
    (h3 : PySem.W.findIn K (.ref C) "__init__" = some (some (.ref fI))) (h4 : PySem.W.typeIn K (.ref fI) = some (.type "function"))
    (F : FunD K "__init__" q (Shf.args_word p1 p2) (Shf.body_word q1 q2 q3 q4) Shf.scope_word [] [] fI fd) : Shf.Mkr_word K S C fI := by
  obtain ⟨oc, od, dV, kV, doc, pm, an, cdv, ct, osl, rfl, lk, hcd, hd, _⟩ := F.ex
  rw [dfl0 hd] at lk
  exact ⟨hc, h1, h2, h3, h4, q, oc, od, kV, doc, pm, an, cdv, ct, osl, p1, p2, q1, q2, q3, q4, lk, hcd⟩
theorem mkr_0 {K : PySem.W.Frag} {S C fI : Addr} {fd : FuncData} {x q : PySem.Str} {p1 q1 : Pos} (hc : Shf.ErrC K S C)
    (h3 : PySem.W.findIn K (.ref C) "__init__" = some (some (.ref fI))) (h4 : PySem.W.typeIn K (.ref fI) = some (.type "function"))
    (F : FunD K "__init__" q (Shf.args_0 p1) [.Pass q1] Shf.scope_0 [] [] fI fd) : Shf.Mkr_0 K S C fI := by
  obtain ⟨oc, od, dV, kV, doc, pm, an, cdv, ct, osl, rfl, lk, hcd, hd, _⟩ := F.ex
  rw [dfl0 hd] at lk
  exact ⟨hc, h3, h4, q, oc, od, kV, doc, pm, an, cdv, ct, osl, p1, q1, lk, hcd⟩
theorem nodup_inj : ∀ {l : List Addr}, nodupB l = true → l.Nodup
  | [], _ => List.nodup_nil
  | a :: r, h => by
    obtain ⟨h1, h2⟩ := Shf.band (show (!r.contains a && nodupB r) = true from h)
    refine List.nodup_cons.mpr ⟨fun hm => ?_, nodup_inj h2⟩
    rw [List.contains_iff_mem.mpr hm] at h1
    cases h1
theorem top_of {K : PySem.W.Frag} {mg : PySem.Str → Option Value} {h : Heap} (X : K.In h) (G : h.Ns mainGlobals mg) (c : Shf.SaysS facts fn K) : Top K mg := by
  have hf := c.facts
  obtain ⟨fE, hf⟩ := Shf.band hf
  obtain ⟨fA, hf⟩ := Shf.band hf
  obtain ⟨fW, hf⟩ := Shf.band hf
  obtain ⟨fB, hf⟩ := Shf.band hf
  obtain ⟨fN, hf⟩ := Shf.band hf
  obtain ⟨fF, fG⟩ := Shf.band hf
  obtain ⟨b0, fB⟩ := Shf.band fB
  obtain ⟨b1, fB⟩ := Shf.band fB
  obtain ⟨b2, b3⟩ := Shf.band fB
  have len : errNames.length = 34 := by rfl
  have mem : ∀ i, i < 34 → errNames.getD i "" ∈ errNames := fun i hi => by
    rw [List.getD_eq_getElem?_getD, List.getElem?_eq_getElem (by rw [len]; exact hi)]
    exact List.getElem_mem _
  have err : ∀ x ∈ errNames, mg x = some (.ref (ea K x)) ∧ Shf.ErrC K (base K) (ea K x) ∧ PySem.W.findIn K (.ref (ea K x)) "__init__" = some (some (.ref (ia K x))) ∧ PySem.W.typeIn K (.ref (ia K x)) = some (.type "function") := fun x hx => by
    obtain ⟨h1, h2⟩ := Shf.band (List.all_eq_true.mp fE x hx)
    obtain ⟨h2, h3⟩ := Shf.band h2
    obtain ⟨h3, h4⟩ := Shf.band h3
    exact ⟨PySem.W.mg_of X G (of_decide_eq_true h1), Shf.errB_ok h2, of_decide_eq_true h3, of_decide_eq_true h4⟩
  have nd : (base K :: errNames.map (ea K)).Nodup := nodup_inj fN
  obtain ⟨nb, nd⟩ := List.nodup_cons.mp nd
  have at31 : ∀ i, i < 31 → ∃ q ∈ errAt, errNames.getD i "" = q.1 := fun i hi => by
    have hl : i < errAt.length := hi
    refine ⟨errAt[i], List.getElem_mem _, ?_⟩
    rw [List.getD_eq_getElem?_getD]
    unfold errNames
    rw [List.append_assoc, List.getElem?_append_left (by rw [List.length_map]; exact hl), List.getElem?_map, List.getElem?_eq_getElem hl]
    rfl
  refine ⟨fun i hi => ?_, ?_, ?_, ?_, fun i hi => (err _ (mem i hi)).2.1, fun i hi => (err _ (mem i hi)).1, fun i hi e => nb ?_, fun i j hi hj e => ?_, PySem.W.mg_of X G (of_decide_eq_true b0), of_decide_eq_true b1, b2, of_decide_eq_true b3, fun d hd => ?_, fun x hx => ?_⟩
  · obtain ⟨q, hq, e⟩ := at31 i hi
    have hm := mem i (by omega)
    rw [e] at hm ⊢
    obtain ⟨_, h2, h3, h4⟩ := err _ hm
    obtain ⟨h5, h6⟩ := Shf.band (List.all_eq_true.mp fA q hq)
    obtain ⟨fd, F⟩ := def_mem c (d := initAt q) (List.mem_append_left _ (List.mem_append_left _ (List.mem_append_right _ (List.mem_map_of_mem hq))))
    exact mkr_at (x := q.1) h2 (of_decide_eq_true h5) (of_decide_eq_true h6) h3 h4 F
  · obtain ⟨_, h2, h3, h4⟩ := err _ (mem 31 (by omega))
    obtain ⟨h5, h6⟩ := Shf.band fW
    obtain ⟨fd, F⟩ := def_mem c (d := initWord errWord) (List.mem_append_left _ (List.mem_append_right _ List.mem_cons_self))
    exact mkr_word (x := errWord.1) h2 (of_decide_eq_true h5) (of_decide_eq_true h6) h3 h4 F
  · obtain ⟨_, h2, h3, h4⟩ := err _ (mem 32 (by omega))
    obtain ⟨fd, F⟩ := def_mem c (d := init0 (err0.getD 0 ("", 0))) (List.mem_append_right _ (List.mem_map_of_mem (by exact List.mem_cons_self)))
    exact mkr_0 (x := "") h2 h3 h4 F
  · obtain ⟨_, h2, h3, h4⟩ := err _ (mem 33 (by omega))
    obtain ⟨fd, F⟩ := def_mem c (d := init0 (err0.getD 1 ("", 0))) (List.mem_append_right _ (List.mem_map_of_mem (by exact List.mem_cons_of_mem _ List.mem_cons_self)))
    exact mkr_0 (x := "") h2 h3 h4 F
  · rw [← e]
    exact List.mem_map_of_mem (mem i hi)
  · have li : i < (errNames.map (ea K)).length := by rw [List.length_map, len]; exact hi
    have lj : j < (errNames.map (ea K)).length := by rw [List.length_map, len]; exact hj
    refine (List.getElem_inj nd (h₀ := li) (h₁ := lj)).mp ?_
    rw [List.getElem_map, List.getElem_map]
    have e2 : ∀ k (hk : k < errNames.length), errNames.getD k "" = errNames[k] := fun k hk => by rw [List.getD_eq_getElem?_getD, List.getElem?_eq_getElem hk]; rfl
    rw [e2 i (by rw [len]; exact hi), e2 j (by rw [len]; exact hj)] at e
    exact e
  · exact PySem.W.mg_of X G (of_decide_eq_true (List.all_eq_true.mp fG d hd))
  · exact PySem.W.mg_none_of X G (of_decide_eq_true (List.all_eq_true.mp fF x hx))
end K00

namespace K00
open PySem PySem.Spec PyProof.Rows L2
/-! ### the errors raised -/
/-- the class of the n-th error -/
abbrev eN (K : PySem.W.Frag) (i : Nat) : Addr := ea K (errNames.getD i "")
/-- what is wished for when the n-th error is raised with v -/
def wish (K : PySem.W.Frag) (n : Nat) (v : V) (H : Hp) (E : XK) : Prop :=
  if n < 31 then ∀ d, H d = none → E (.ref (eN K n)) (some d) (upd H d (.xd [(("at" : PySem.Str), v)]))
  else if n = 31 then ∀ d, H d = none → E (.ref (eN K n)) (some d) (upd H d (.xd [(("word" : PySem.Str), v)]))
  else E (.ref (eN K n)) none H
def spRaise (K : PySem.W.Frag) (lo hi : Nat) : Sp := fun vs H Q E => ∃ (n : Nat) (v : V), vs = [.int n, v] ∧ lo ≤ n ∧ n < hi ∧ wish K n v H E
theorem eqN {A B : Prop} (n m : Nat) (h1 : n = m → A) (h2 : n ≠ m → B) : if decide (V.int (n : Int) = V.int (m : Int)) = true then A else B := by
  by_cases e : n = m
  · subst e
    rw [decide_eq_true rfl]
    exact iteT (h1 rfl)
  · rw [decide_eq_false (show ¬ V.int (n : Int) = V.int (m : Int) from fun z => e (by have q := V.int.inj z; omega))]
    exact iteF (h2 e)
theorem ltN {A B : Prop} (n m : Nat) (h1 : n < m → A) (h2 : ¬ n < m → B) : if decide ((n : Int) < (m : Int)) = true then A else B := by
  by_cases e : n < m
  · rw [decide_eq_true (by omega)]
    exact iteT (h1 e)
  · rw [decide_eq_false (by omega)]
    exact iteF (h2 e)
section
variable {P : Program} {w : World} {K : PySem.W.Frag} {mg : PySem.Str → Option Value} {base : Heap}
theorem sc_law_raise_a : FnScope ["_law_number", "_law_thing"] ["_law_number", "_law_thing"] (defScope s_law_raise_a) := ⟨rfl, rfl, rfl, by decide +kernel, rfl, by decide +kernel, by decide +kernel⟩
theorem ok_law_raise_a {f : Addr} {fd : FuncData} (T : Top K mg) (F : Own K "_law_raise_a" s_law_raise_a f fd) : FnOk P w K mg base (L2.CX P w) 3 f fd ["_law_number", "_law_thing"] (spRaise K 0 8) := by
  refine F.ok sc_law_raise_a (fun vs H Q E h => ?_) (fun cdv A outer s H vs Q E hr h => ?_)
  · obtain ⟨n, v, rfl, _⟩ := h
    rfl
  · obtain ⟨n, v, rfl, h0, h1, hw⟩ := h
    refine ⟨_, (pss_one (ps_if (pt_cmpR op_eq (pv 0) pe_int (nomark _)) (pss_one (ps_raise rfl (takes_of rfl rfl rfl rfl) (pmk_at (T.at_ 0 (by decide)) (T.g 0 (by decide)) hr (pa_cons (pv 1) pa_nil) (by rfl)))) (pss_one (ps_if (pt_cmpR op_eq (pv 0) pe_int (nomark _)) (pss_one (ps_raise rfl (takes_of rfl rfl rfl rfl) (pmk_at (T.at_ 1 (by decide)) (T.g 1 (by decide)) hr (pa_cons (pv 1) pa_nil) (by rfl)))) (pss_one (ps_if (pt_cmpR op_eq (pv 0) pe_int (nomark _)) (pss_one (ps_raise rfl (takes_of rfl rfl rfl rfl) (pmk_at (T.at_ 2 (by decide)) (T.g 2 (by decide)) hr (pa_cons (pv 1) pa_nil) (by rfl)))) (pss_one (ps_if (pt_cmpR op_eq (pv 0) pe_int (nomark _)) (pss_one (ps_raise rfl (takes_of rfl rfl rfl rfl) (pmk_at (T.at_ 3 (by decide)) (T.g 3 (by decide)) hr (pa_cons (pv 1) pa_nil) (by rfl)))) (pss_one (ps_if (pt_cmpR op_eq (pv 0) pe_int (nomark _)) (pss_one (ps_raise rfl (takes_of rfl rfl rfl rfl) (pmk_at (T.at_ 4 (by decide)) (T.g 4 (by decide)) hr (pa_cons (pv 1) pa_nil) (by rfl)))) (pss_one (ps_if (pt_cmpR op_eq (pv 0) pe_int (nomark _)) (pss_one (ps_raise rfl (takes_of rfl rfl rfl rfl) (pmk_at (T.at_ 5 (by decide)) (T.g 5 (by decide)) hr (pa_cons (pv 1) pa_nil) (by rfl)))) (pss_one (ps_if (pt_cmpR op_eq (pv 0) pe_int (nomark _)) (pss_one (ps_raise rfl (takes_of rfl rfl rfl rfl) (pmk_at (T.at_ 6 (by decide)) (T.g 6 (by decide)) hr (pa_cons (pv 1) pa_nil) (by rfl)))) (pss_one (ps_if (pt_cmpR op_eq (pv 0) pe_int (nomark _)) (pss_one (ps_raise rfl (takes_of rfl rfl rfl rfl) (pmk_at (T.at_ 7 (by decide)) (T.g 7 (by decide)) hr (pa_cons (pv 1) pa_nil) (by rfl)))) pss_nil)))))))))))))))), ?_⟩
    refine ⟨_, rfl, rfl, _, rfl, eqN n 0 (fun e => ?_) (fun e0 => ?_)⟩
    · subst e
      exact ⟨_, rfl, _, rfl, hw⟩
    refine ⟨_, rfl, rfl, _, rfl, eqN n 1 (fun e => ?_) (fun e1 => ?_)⟩
    · subst e
      exact ⟨_, rfl, _, rfl, hw⟩
    refine ⟨_, rfl, rfl, _, rfl, eqN n 2 (fun e => ?_) (fun e2 => ?_)⟩
    · subst e
      exact ⟨_, rfl, _, rfl, hw⟩
    refine ⟨_, rfl, rfl, _, rfl, eqN n 3 (fun e => ?_) (fun e3 => ?_)⟩
    · subst e
      exact ⟨_, rfl, _, rfl, hw⟩
    refine ⟨_, rfl, rfl, _, rfl, eqN n 4 (fun e => ?_) (fun e4 => ?_)⟩
    · subst e
      exact ⟨_, rfl, _, rfl, hw⟩
    refine ⟨_, rfl, rfl, _, rfl, eqN n 5 (fun e => ?_) (fun e5 => ?_)⟩
    · subst e
      exact ⟨_, rfl, _, rfl, hw⟩
    refine ⟨_, rfl, rfl, _, rfl, eqN n 6 (fun e => ?_) (fun e6 => ?_)⟩
    · subst e
      exact ⟨_, rfl, _, rfl, hw⟩
    refine ⟨_, rfl, rfl, _, rfl, eqN n 7 (fun e => ?_) (fun e7 => ?_)⟩
    · subst e
      exact ⟨_, rfl, _, rfl, hw⟩
    omega
theorem sc_law_raise_b : FnScope ["_law_number", "_law_thing"] ["_law_number", "_law_thing"] (defScope s_law_raise_b) := ⟨rfl, rfl, rfl, by decide +kernel, rfl, by decide +kernel, by decide +kernel⟩
theorem ok_law_raise_b {f : Addr} {fd : FuncData} (T : Top K mg) (F : Own K "_law_raise_b" s_law_raise_b f fd) : FnOk P w K mg base (L2.CX P w) 3 f fd ["_law_number", "_law_thing"] (spRaise K 8 16) := by
  refine F.ok sc_law_raise_b (fun vs H Q E h => ?_) (fun cdv A outer s H vs Q E hr h => ?_)
  · obtain ⟨n, v, rfl, _⟩ := h
    rfl
  · obtain ⟨n, v, rfl, h0, h1, hw⟩ := h
    refine ⟨_, (pss_one (ps_if (pt_cmpR op_eq (pv 0) pe_int (nomark _)) (pss_one (ps_raise rfl (takes_of rfl rfl rfl rfl) (pmk_at (T.at_ 8 (by decide)) (T.g 8 (by decide)) hr (pa_cons (pv 1) pa_nil) (by rfl)))) (pss_one (ps_if (pt_cmpR op_eq (pv 0) pe_int (nomark _)) (pss_one (ps_raise rfl (takes_of rfl rfl rfl rfl) (pmk_at (T.at_ 9 (by decide)) (T.g 9 (by decide)) hr (pa_cons (pv 1) pa_nil) (by rfl)))) (pss_one (ps_if (pt_cmpR op_eq (pv 0) pe_int (nomark _)) (pss_one (ps_raise rfl (takes_of rfl rfl rfl rfl) (pmk_at (T.at_ 10 (by decide)) (T.g 10 (by decide)) hr (pa_cons (pv 1) pa_nil) (by rfl)))) (pss_one (ps_if (pt_cmpR op_eq (pv 0) pe_int (nomark _)) (pss_one (ps_raise rfl (takes_of rfl rfl rfl rfl) (pmk_at (T.at_ 11 (by decide)) (T.g 11 (by decide)) hr (pa_cons (pv 1) pa_nil) (by rfl)))) (pss_one (ps_if (pt_cmpR op_eq (pv 0) pe_int (nomark _)) (pss_one (ps_raise rfl (takes_of rfl rfl rfl rfl) (pmk_at (T.at_ 12 (by decide)) (T.g 12 (by decide)) hr (pa_cons (pv 1) pa_nil) (by rfl)))) (pss_one (ps_if (pt_cmpR op_eq (pv 0) pe_int (nomark _)) (pss_one (ps_raise rfl (takes_of rfl rfl rfl rfl) (pmk_at (T.at_ 13 (by decide)) (T.g 13 (by decide)) hr (pa_cons (pv 1) pa_nil) (by rfl)))) (pss_one (ps_if (pt_cmpR op_eq (pv 0) pe_int (nomark _)) (pss_one (ps_raise rfl (takes_of rfl rfl rfl rfl) (pmk_at (T.at_ 14 (by decide)) (T.g 14 (by decide)) hr (pa_cons (pv 1) pa_nil) (by rfl)))) (pss_one (ps_if (pt_cmpR op_eq (pv 0) pe_int (nomark _)) (pss_one (ps_raise rfl (takes_of rfl rfl rfl rfl) (pmk_at (T.at_ 15 (by decide)) (T.g 15 (by decide)) hr (pa_cons (pv 1) pa_nil) (by rfl)))) pss_nil)))))))))))))))), ?_⟩
    refine ⟨_, rfl, rfl, _, rfl, eqN n 8 (fun e => ?_) (fun e8 => ?_)⟩
    · subst e
      exact ⟨_, rfl, _, rfl, hw⟩
    refine ⟨_, rfl, rfl, _, rfl, eqN n 9 (fun e => ?_) (fun e9 => ?_)⟩
    · subst e
      exact ⟨_, rfl, _, rfl, hw⟩
    refine ⟨_, rfl, rfl, _, rfl, eqN n 10 (fun e => ?_) (fun e10 => ?_)⟩
    · subst e
      exact ⟨_, rfl, _, rfl, hw⟩
    refine ⟨_, rfl, rfl, _, rfl, eqN n 11 (fun e => ?_) (fun e11 => ?_)⟩
    · subst e
      exact ⟨_, rfl, _, rfl, hw⟩
    refine ⟨_, rfl, rfl, _, rfl, eqN n 12 (fun e => ?_) (fun e12 => ?_)⟩
    · subst e
      exact ⟨_, rfl, _, rfl, hw⟩
    refine ⟨_, rfl, rfl, _, rfl, eqN n 13 (fun e => ?_) (fun e13 => ?_)⟩
    · subst e
      exact ⟨_, rfl, _, rfl, hw⟩
    refine ⟨_, rfl, rfl, _, rfl, eqN n 14 (fun e => ?_) (fun e14 => ?_)⟩
    · subst e
      exact ⟨_, rfl, _, rfl, hw⟩
    refine ⟨_, rfl, rfl, _, rfl, eqN n 15 (fun e => ?_) (fun e15 => ?_)⟩
    · subst e
      exact ⟨_, rfl, _, rfl, hw⟩
    omega
theorem sc_law_raise_c : FnScope ["_law_number", "_law_thing"] ["_law_number", "_law_thing"] (defScope s_law_raise_c) := ⟨rfl, rfl, rfl, by decide +kernel, rfl, by decide +kernel, by decide +kernel⟩
theorem ok_law_raise_c {f : Addr} {fd : FuncData} (T : Top K mg) (F : Own K "_law_raise_c" s_law_raise_c f fd) : FnOk P w K mg base (L2.CX P w) 3 f fd ["_law_number", "_law_thing"] (spRaise K 16 24) := by
  refine F.ok sc_law_raise_c (fun vs H Q E h => ?_) (fun cdv A outer s H vs Q E hr h => ?_)
  · obtain ⟨n, v, rfl, _⟩ := h
    rfl
  · obtain ⟨n, v, rfl, h0, h1, hw⟩ := h
    refine ⟨_, (pss_one (ps_if (pt_cmpR op_eq (pv 0) pe_int (nomark _)) (pss_one (ps_raise rfl (takes_of rfl rfl rfl rfl) (pmk_at (T.at_ 16 (by decide)) (T.g 16 (by decide)) hr (pa_cons (pv 1) pa_nil) (by rfl)))) (pss_one (ps_if (pt_cmpR op_eq (pv 0) pe_int (nomark _)) (pss_one (ps_raise rfl (takes_of rfl rfl rfl rfl) (pmk_at (T.at_ 17 (by decide)) (T.g 17 (by decide)) hr (pa_cons (pv 1) pa_nil) (by rfl)))) (pss_one (ps_if (pt_cmpR op_eq (pv 0) pe_int (nomark _)) (pss_one (ps_raise rfl (takes_of rfl rfl rfl rfl) (pmk_at (T.at_ 18 (by decide)) (T.g 18 (by decide)) hr (pa_cons (pv 1) pa_nil) (by rfl)))) (pss_one (ps_if (pt_cmpR op_eq (pv 0) pe_int (nomark _)) (pss_one (ps_raise rfl (takes_of rfl rfl rfl rfl) (pmk_at (T.at_ 19 (by decide)) (T.g 19 (by decide)) hr (pa_cons (pv 1) pa_nil) (by rfl)))) (pss_one (ps_if (pt_cmpR op_eq (pv 0) pe_int (nomark _)) (pss_one (ps_raise rfl (takes_of rfl rfl rfl rfl) (pmk_at (T.at_ 20 (by decide)) (T.g 20 (by decide)) hr (pa_cons (pv 1) pa_nil) (by rfl)))) (pss_one (ps_if (pt_cmpR op_eq (pv 0) pe_int (nomark _)) (pss_one (ps_raise rfl (takes_of rfl rfl rfl rfl) (pmk_at (T.at_ 21 (by decide)) (T.g 21 (by decide)) hr (pa_cons (pv 1) pa_nil) (by rfl)))) (pss_one (ps_if (pt_cmpR op_eq (pv 0) pe_int (nomark _)) (pss_one (ps_raise rfl (takes_of rfl rfl rfl rfl) (pmk_at (T.at_ 22 (by decide)) (T.g 22 (by decide)) hr (pa_cons (pv 1) pa_nil) (by rfl)))) (pss_one (ps_if (pt_cmpR op_eq (pv 0) pe_int (nomark _)) (pss_one (ps_raise rfl (takes_of rfl rfl rfl rfl) (pmk_at (T.at_ 23 (by decide)) (T.g 23 (by decide)) hr (pa_cons (pv 1) pa_nil) (by rfl)))) pss_nil)))))))))))))))), ?_⟩
    refine ⟨_, rfl, rfl, _, rfl, eqN n 16 (fun e => ?_) (fun e16 => ?_)⟩
    · subst e
      exact ⟨_, rfl, _, rfl, hw⟩
    refine ⟨_, rfl, rfl, _, rfl, eqN n 17 (fun e => ?_) (fun e17 => ?_)⟩
    · subst e
      exact ⟨_, rfl, _, rfl, hw⟩
    refine ⟨_, rfl, rfl, _, rfl, eqN n 18 (fun e => ?_) (fun e18 => ?_)⟩
    · subst e
      exact ⟨_, rfl, _, rfl, hw⟩
    refine ⟨_, rfl, rfl, _, rfl, eqN n 19 (fun e => ?_) (fun e19 => ?_)⟩
    · subst e
      exact ⟨_, rfl, _, rfl, hw⟩
    refine ⟨_, rfl, rfl, _, rfl, eqN n 20 (fun e => ?_) (fun e20 => ?_)⟩
    · subst e
      exact ⟨_, rfl, _, rfl, hw⟩
    refine ⟨_, rfl, rfl, _, rfl, eqN n 21 (fun e => ?_) (fun e21 => ?_)⟩
    · subst e
      exact ⟨_, rfl, _, rfl, hw⟩
    refine ⟨_, rfl, rfl, _, rfl, eqN n 22 (fun e => ?_) (fun e22 => ?_)⟩
    · subst e
      exact ⟨_, rfl, _, rfl, hw⟩
    refine ⟨_, rfl, rfl, _, rfl, eqN n 23 (fun e => ?_) (fun e23 => ?_)⟩
    · subst e
      exact ⟨_, rfl, _, rfl, hw⟩
    omega
theorem sc_law_raise_d : FnScope ["_law_number", "_law_thing"] ["_law_number", "_law_thing"] (defScope s_law_raise_d) := ⟨rfl, rfl, rfl, by decide +kernel, rfl, by decide +kernel, by decide +kernel⟩
theorem ok_law_raise_d {f : Addr} {fd : FuncData} (T : Top K mg) (F : Own K "_law_raise_d" s_law_raise_d f fd) : FnOk P w K mg base (L2.CX P w) 3 f fd ["_law_number", "_law_thing"] (spRaise K 24 32) := by
  refine F.ok sc_law_raise_d (fun vs H Q E h => ?_) (fun cdv A outer s H vs Q E hr h => ?_)
  · obtain ⟨n, v, rfl, _⟩ := h
    rfl
  · obtain ⟨n, v, rfl, h0, h1, hw⟩ := h
    refine ⟨_, (pss_one (ps_if (pt_cmpR op_eq (pv 0) pe_int (nomark _)) (pss_one (ps_raise rfl (takes_of rfl rfl rfl rfl) (pmk_at (T.at_ 24 (by decide)) (T.g 24 (by decide)) hr (pa_cons (pv 1) pa_nil) (by rfl)))) (pss_one (ps_if (pt_cmpR op_eq (pv 0) pe_int (nomark _)) (pss_one (ps_raise rfl (takes_of rfl rfl rfl rfl) (pmk_at (T.at_ 25 (by decide)) (T.g 25 (by decide)) hr (pa_cons (pv 1) pa_nil) (by rfl)))) (pss_one (ps_if (pt_cmpR op_eq (pv 0) pe_int (nomark _)) (pss_one (ps_raise rfl (takes_of rfl rfl rfl rfl) (pmk_at (T.at_ 26 (by decide)) (T.g 26 (by decide)) hr (pa_cons (pv 1) pa_nil) (by rfl)))) (pss_one (ps_if (pt_cmpR op_eq (pv 0) pe_int (nomark _)) (pss_one (ps_raise rfl (takes_of rfl rfl rfl rfl) (pmk_at (T.at_ 27 (by decide)) (T.g 27 (by decide)) hr (pa_cons (pv 1) pa_nil) (by rfl)))) (pss_one (ps_if (pt_cmpR op_eq (pv 0) pe_int (nomark _)) (pss_one (ps_raise rfl (takes_of rfl rfl rfl rfl) (pmk_at (T.at_ 28 (by decide)) (T.g 28 (by decide)) hr (pa_cons (pv 1) pa_nil) (by rfl)))) (pss_one (ps_if (pt_cmpR op_eq (pv 0) pe_int (nomark _)) (pss_one (ps_raise rfl (takes_of rfl rfl rfl rfl) (pmk_at (T.at_ 29 (by decide)) (T.g 29 (by decide)) hr (pa_cons (pv 1) pa_nil) (by rfl)))) (pss_one (ps_if (pt_cmpR op_eq (pv 0) pe_int (nomark _)) (pss_one (ps_raise rfl (takes_of rfl rfl rfl rfl) (pmk_at (T.at_ 30 (by decide)) (T.g 30 (by decide)) hr (pa_cons (pv 1) pa_nil) (by rfl)))) (pss_one (ps_if (pt_cmpR op_eq (pv 0) pe_int (nomark _)) (pss_one (ps_raise rfl (takes_of rfl rfl rfl rfl) (pmk_word T.word (T.g 31 (by decide)) hr (pa_cons (pv 1) pa_nil) (by rfl)))) pss_nil)))))))))))))))), ?_⟩
    refine ⟨_, rfl, rfl, _, rfl, eqN n 24 (fun e => ?_) (fun e24 => ?_)⟩
    · subst e
      exact ⟨_, rfl, _, rfl, hw⟩
    refine ⟨_, rfl, rfl, _, rfl, eqN n 25 (fun e => ?_) (fun e25 => ?_)⟩
    · subst e
      exact ⟨_, rfl, _, rfl, hw⟩
    refine ⟨_, rfl, rfl, _, rfl, eqN n 26 (fun e => ?_) (fun e26 => ?_)⟩
    · subst e
      exact ⟨_, rfl, _, rfl, hw⟩
    refine ⟨_, rfl, rfl, _, rfl, eqN n 27 (fun e => ?_) (fun e27 => ?_)⟩
    · subst e
      exact ⟨_, rfl, _, rfl, hw⟩
    refine ⟨_, rfl, rfl, _, rfl, eqN n 28 (fun e => ?_) (fun e28 => ?_)⟩
    · subst e
      exact ⟨_, rfl, _, rfl, hw⟩
    refine ⟨_, rfl, rfl, _, rfl, eqN n 29 (fun e => ?_) (fun e29 => ?_)⟩
    · subst e
      exact ⟨_, rfl, _, rfl, hw⟩
    refine ⟨_, rfl, rfl, _, rfl, eqN n 30 (fun e => ?_) (fun e30 => ?_)⟩
    · subst e
      exact ⟨_, rfl, _, rfl, hw⟩
    refine ⟨_, rfl, rfl, _, rfl, eqN n 31 (fun e => ?_) (fun e31 => ?_)⟩
    · subst e
      exact ⟨_, rfl, _, rfl, hw⟩
    omega
theorem sc_law_raise_e : FnScope ["_law_number", "_law_thing"] ["_law_number", "_law_thing"] (defScope s_law_raise_e) := ⟨rfl, rfl, rfl, by decide +kernel, rfl, by decide +kernel, by decide +kernel⟩
theorem ok_law_raise_e {f : Addr} {fd : FuncData} (T : Top K mg) (F : Own K "_law_raise_e" s_law_raise_e f fd) : FnOk P w K mg base (L2.CX P w) 3 f fd ["_law_number", "_law_thing"] (spRaise K 32 34) := by
  refine F.ok sc_law_raise_e (fun vs H Q E h => ?_) (fun cdv A outer s H vs Q E hr h => ?_)
  · obtain ⟨n, v, rfl, _⟩ := h
    rfl
  · obtain ⟨n, v, rfl, h0, h1, hw⟩ := h
    refine ⟨_, (pss_one (ps_if (pt_cmpR op_eq (pv 0) pe_int (nomark _)) (pss_one (ps_raise rfl (takes_of rfl rfl rfl rfl) (pmk_0 T.none32 (T.g 32 (by decide)) hr (by rfl)))) (pss_one (ps_if (pt_cmpR op_eq (pv 0) pe_int (nomark _)) (pss_one (ps_raise rfl (takes_of rfl rfl rfl rfl) (pmk_0 T.none33 (T.g 33 (by decide)) hr (by rfl)))) pss_nil)))), ?_⟩
    refine ⟨_, rfl, rfl, _, rfl, eqN n 32 (fun e => ?_) (fun e32 => ?_)⟩
    · subst e
      exact hw
    refine ⟨_, rfl, rfl, _, rfl, eqN n 33 (fun e => ?_) (fun e33 => ?_)⟩
    · subst e
      exact hw
    omega
end
end K00

namespace K00
open PySem PySem.Spec PyProof.Rows L2
/-- a plain def of the text, where its name says -/
structure Has (K : PySem.W.Frag) (mg : PySem.Str → Option Value) (x : PySem.Str) (st : Stmt) (fd : FuncData) : Prop where
  F : Own K x st (ea K x) fd
  g : mg x = some (.ref (ea K x))
section
variable {P : Program} {w : World} {K : PySem.W.Frag} {mg : PySem.Str → Option Value} {base : Heap}
abbrev ps2 : List PySem.Str := ["_law_number", "_law_thing"]
theorem wish_imp {n : Nat} {v : V} {H : Hp} {E E' : XK} (h : wish K n v H E) (k : ∀ d H', E (.ref (eN K n)) d H' → E' (.ref (eN K n)) d H') : wish K n v H E' := by
  unfold wish at h ⊢
  by_cases h1 : n < 31
  · rw [if_pos h1] at h ⊢
    exact fun d hd => k _ _ (h d hd)
  · rw [if_neg h1] at h ⊢
    by_cases h2 : n = 31
    · rw [if_pos h2] at h ⊢
      exact fun d hd => k _ _ (h d hd)
    · rw [if_neg h2] at h ⊢
      exact k _ _ h
theorem sc_law_raise : FnScope ps2 ps2 (defScope s_law_raise) := ⟨rfl, rfl, rfl, by decide +kernel, rfl, by decide +kernel, by decide +kernel⟩
theorem ok_law_raise {f : Addr} {fd ya yb yc yd ye : FuncData} (T : Top K mg) (F : Own K "_law_raise" s_law_raise f fd)
    (ha : Has K mg "_law_raise_a" s_law_raise_a ya)
    (hb : Has K mg "_law_raise_b" s_law_raise_b yb)
    (hc : Has K mg "_law_raise_c" s_law_raise_c yc)
    (hd : Has K mg "_law_raise_d" s_law_raise_d yd)
    (he : Has K mg "_law_raise_e" s_law_raise_e ye)
    : FnOk P w K mg base (L2.CX P w) 4 f fd ps2 (spRaise K 0 34) := by
  have Ga : FnOk P w K mg base (L2.CX P w) 3 _ ya ps2 (spRaise K 0 8) := ok_law_raise_a T ha.F
  have ba : Binds K ya ps2 [] := ha.F.bindsN fun _ _ _ _ _ _ us hl => match us, hl with | [_, _], _ => rfl
  have Gb : FnOk P w K mg base (L2.CX P w) 3 _ yb ps2 (spRaise K 8 16) := ok_law_raise_b T hb.F
  have bb : Binds K yb ps2 [] := hb.F.bindsN fun _ _ _ _ _ _ us hl => match us, hl with | [_, _], _ => rfl
  have Gc : FnOk P w K mg base (L2.CX P w) 3 _ yc ps2 (spRaise K 16 24) := ok_law_raise_c T hc.F
  have bc : Binds K yc ps2 [] := hc.F.bindsN fun _ _ _ _ _ _ us hl => match us, hl with | [_, _], _ => rfl
  have Gd : FnOk P w K mg base (L2.CX P w) 3 _ yd ps2 (spRaise K 24 32) := ok_law_raise_d T hd.F
  have bd : Binds K yd ps2 [] := hd.F.bindsN fun _ _ _ _ _ _ us hl => match us, hl with | [_, _], _ => rfl
  have Ge : FnOk P w K mg base (L2.CX P w) 3 _ ye ps2 (spRaise K 32 34) := ok_law_raise_e T he.F
  have be : Binds K ye ps2 [] := he.F.bindsN fun _ _ _ _ _ _ us hl => match us, hl with | [_, _], _ => rfl
  refine F.ok sc_law_raise (fun vs H Q E h => ?_) (fun cdv A outer s H vs Q E hr h => ?_)
  · obtain ⟨n, v, rfl, _⟩ := h
    rfl
  · obtain ⟨n, v, rfl, h0, h1, hw⟩ := h
    refine ⟨_, (pss_one (ps_if (pt_cmpR op_lt (pv 0) pe_int (nomark _)) (pss_one (ps_expr (pe_call Ga hr (by rfl) ha.g ha.F.kp ba .nil (passes_call (takes_of rfl rfl rfl rfl) (fun _ _ _ _ h => h)) (pa_cons (pv 0) (pa_cons (pv 1) pa_nil))))) (pss_one (ps_if (pt_cmpR op_lt (pv 0) pe_int (nomark _)) (pss_one (ps_expr (pe_call Gb hr (by rfl) hb.g hb.F.kp bb .nil (passes_call (takes_of rfl rfl rfl rfl) (fun _ _ _ _ h => h)) (pa_cons (pv 0) (pa_cons (pv 1) pa_nil))))) (pss_one (ps_if (pt_cmpR op_lt (pv 0) pe_int (nomark _)) (pss_one (ps_expr (pe_call Gc hr (by rfl) hc.g hc.F.kp bc .nil (passes_call (takes_of rfl rfl rfl rfl) (fun _ _ _ _ h => h)) (pa_cons (pv 0) (pa_cons (pv 1) pa_nil))))) (pss_one (ps_if (pt_cmpR op_lt (pv 0) pe_int (nomark _)) (pss_one (ps_expr (pe_call Gd hr (by rfl) hd.g hd.F.kp bd .nil (passes_call (takes_of rfl rfl rfl rfl) (fun _ _ _ _ h => h)) (pa_cons (pv 0) (pa_cons (pv 1) pa_nil))))) (pss_one (ps_expr (pe_call Ge hr (by rfl) he.g he.F.kp be .nil (passes_call (takes_of rfl rfl rfl rfl) (fun _ _ _ _ h => h)) (pa_cons (pv 0) (pa_cons (pv 1) pa_nil))))))))))))), ?_⟩
    refine ⟨_, rfl, _, _, rfl, rfl, _, rfl, ltN n 8 (fun h1a => ?_) (fun h2a => ?_)⟩
    · exact ⟨_, rfl, _, rfl, n, v, rfl, by omega, by omega, hw⟩
    refine ⟨_, rfl, _, _, rfl, rfl, _, rfl, ltN n 16 (fun h1b => ?_) (fun h2b => ?_)⟩
    · exact ⟨_, rfl, _, rfl, n, v, rfl, by omega, by omega, hw⟩
    refine ⟨_, rfl, _, _, rfl, rfl, _, rfl, ltN n 24 (fun h1c => ?_) (fun h2c => ?_)⟩
    · exact ⟨_, rfl, _, rfl, n, v, rfl, by omega, by omega, hw⟩
    refine ⟨_, rfl, _, _, rfl, rfl, _, rfl, ltN n 32 (fun h1d => ?_) (fun h2d => ?_)⟩
    · exact ⟨_, rfl, _, rfl, n, v, rfl, by omega, by omega, hw⟩
    exact ⟨_, rfl, _, rfl, n, v, rfl, by omega, by omega, hw⟩
/-! ### the errors caught -/
def spCaught (K : PySem.W.Frag) (m : Nat) : Sp := fun vs H Q E => ∃ (n : Nat) (v : V), vs = [.int n, v] ∧ n < 34 ∧ (n < m → ∀ p H', Same H H' → H p = none → H' p = some (.tup [.int n, v]) → Q (.ref p) H') ∧ (m ≤ n → wish K n v H E)
theorem step_no (T : Top K mg) {D : Ends} {Wout : WX} {i : Option Nat} {ts : Addr → Value → Option Addr → TS} {r : List Cl} {d : Option Addr} {σ : L2.St} {H : Hp} (j n : Nat) (hj : j < 34) (hn : n < 34) (hne : n ≠ j)
    (h : wCls K Wout D r (.ref (eN K n)) d σ H) : wCls K Wout D (⟨.ref (eN K j), i, ts⟩ :: r) (.ref (eN K n)) d σ H := by
  refine ⟨false, ?_, fun q => Bool.noConfusion q, fun _ => h⟩
  rw [(T.cls n hn).takes (T.cls j hj) (T.nb j hj), decide_eq_false (fun e => hne (T.inj j n hj hn e).symm)]
theorem step_yes (T : Top K mg) {D : Ends} {Wout : WX} {i : Nat} {ts : Addr → Value → Option Addr → TS} {r : List Cl} {d : Option Addr} {σ : L2.St} {H : Hp} (n : Nat) (hn : n < 34)
    (h : ∀ a, H a = none → ts a (.ref (eN K n)) d { nx := fun σ' H' => D.nx (σ'.set i none) H', rt := D.rt, bk := fun σ' H' => D.bk (σ'.set i none) H', ct := fun σ' H' => D.ct (σ'.set i none) H' } (σ.set i (some (.ref a))) H) :
    wCls K Wout D (⟨.ref (eN K n), some i, ts⟩ :: r) (.ref (eN K n)) d σ H := by
  refine ⟨true, ?_, fun _ => h, fun q => Bool.noConfusion q⟩
  rw [(T.cls n hn).takes (T.cls n hn) (T.nb n hn), decide_eq_true rfl]
theorem step_yes0 (T : Top K mg) {D : Ends} {Wout : WX} {ts : Addr → Value → Option Addr → TS} {r : List Cl} {d : Option Addr} {σ : L2.St} {H : Hp} (n : Nat) (hn : n < 34)
    (h : ∀ a, H a = none → ts a (.ref (eN K n)) d D σ H) : wCls K Wout D (⟨.ref (eN K n), none, ts⟩ :: r) (.ref (eN K n)) d σ H := by
  refine ⟨true, ?_, fun _ => h, fun q => Bool.noConfusion q⟩
  rw [(T.cls n hn).takes (T.cls n hn) (T.nb n hn), decide_eq_true rfl]
/-- return (k, e.at), e in slot 2 -/
def sAt (K : PySem.W.Frag) (k : Nat) : Addr → Value → Option Addr → TS := fun a cls d => tRet (tTup (tCons (tC (.int k)) (tCons (tBy_at a (eN K k) cls d (tVar 2)) tNil)))
def sWord (K : PySem.W.Frag) (k : Nat) : Addr → Value → Option Addr → TS := fun a cls d => tRet (tTup (tCons (tC (.int k)) (tCons (tBy_word a (eN K k) cls d (tVar 2)) tNil)))
def sThing (k : Nat) : Addr → Value → Option Addr → TS := fun _ _ _ => tRet (tTup (tCons (tC (.int k)) (tCons (tVar 1) tNil)))
theorem two_le : 2 ≤ sizeLine := by rw [sizeLine_eq]; decide
theorem sAt_run {n : Nat} {v : V} {H : Hp} {D : Ends} {a d : Addr} {x0 x1 : Option V} (hd : H d = none) (hq : ∀ p H', Same H H' → H p = none → H' p = some (.tup [.int n, v]) → D.rt (.ref p) H') :
    sAt K n a (.ref (eN K n)) (some d) D [x0, x1, some (.ref a)] (upd H d (.xd [(("at" : PySem.Str), v)])) := by
  refine ⟨_, rfl, rfl, rfl, d, v, rfl, upd_same, two_le, fun p hp => ?_⟩
  have hpd : p ≠ d := fun z => by rw [z, upd_same] at hp; cases hp
  rw [upd_ne hpd] at hp
  refine hq p _ (fun b o e => ?_) hp upd_same
  rw [upd_ne (ne_of_none e hp), upd_ne (ne_of_none e hd)]
  exact e
theorem sWord_run {n : Nat} {v : V} {H : Hp} {D : Ends} {a d : Addr} {x0 x1 : Option V} (hd : H d = none) (hq : ∀ p H', Same H H' → H p = none → H' p = some (.tup [.int n, v]) → D.rt (.ref p) H') :
    sWord K n a (.ref (eN K n)) (some d) D [x0, x1, some (.ref a)] (upd H d (.xd [(("word" : PySem.Str), v)])) := by
  refine ⟨_, rfl, rfl, rfl, d, v, rfl, upd_same, two_le, fun p hp => ?_⟩
  have hpd : p ≠ d := fun z => by rw [z, upd_same] at hp; cases hp
  rw [upd_ne hpd] at hp
  refine hq p _ (fun b o e => ?_) hp upd_same
  rw [upd_ne (ne_of_none e hp), upd_ne (ne_of_none e hd)]
  exact e
theorem sThing_run {n : Nat} {v : V} {H : Hp} {D : Ends} {a : Addr} {cls : Value} {d : Option Addr} {x0 : Option V} (hq : ∀ p H', Same H H' → H p = none → H' p = some (.tup [.int n, v]) → D.rt (.ref p) H') :
    sThing n a cls d D [x0, some v] H := by
  refine ⟨_, rfl, two_le, fun p hp => hq p _ (fun b o e => ?_) hp upd_same⟩
  rw [upd_ne (ne_of_none e hp)]
  exact e
theorem wish_at {n : Nat} {v : V} {H : Hp} {E : XK} (hn : n < 31) (h : ∀ d, H d = none → E (.ref (eN K n)) (some d) (upd H d (.xd [(("at" : PySem.Str), v)]))) : wish K n v H E := by
  unfold wish
  rw [if_pos hn]
  exact h
theorem wish_word {v : V} {H : Hp} {E : XK} (h : ∀ d, H d = none → E (.ref (eN K 31)) (some d) (upd H d (.xd [(("word" : PySem.Str), v)]))) : wish K 31 v H E := by
  unfold wish
  rw [if_neg (by decide), if_pos rfl]
  exact h
theorem wish_none {n : Nat} {v : V} {H : Hp} {E : XK} (hn : 31 < n) (h : E (.ref (eN K n)) none H) : wish K n v H E := by
  unfold wish
  rw [if_neg (by omega), if_neg (by omega)]
  exact h
abbrev ps3 : List PySem.Str := ["_law_number", "_law_thing", "e"]
theorem sc_law_caught_a : FnScope ps3 ps2 (defScope s_law_caught_a) := ⟨rfl, rfl, rfl, by decide +kernel, rfl, by decide +kernel, by decide +kernel⟩
theorem ok_law_caught_a {f : Addr} {fd f1 : FuncData} (T : Top K mg) (F : Own K "_law_caught_a" s_law_caught_a f fd) (h1 : Has K mg "_law_raise" s_law_raise f1) (G : FnOk P w K mg base (L2.CX P w) 4 (ea K "_law_raise") f1 ps2 (spRaise K 0 34)) :
    FnOk P w K mg base (L2.CX P w) 5 f fd ps2 (spCaught K 8) := by
  have b1 : Binds K f1 ps2 [] := h1.F.bindsN fun _ _ _ _ _ _ us hl => match us, hl with | [_, _], _ => rfl
  refine F.ok sc_law_caught_a (fun vs H Q E h => ?_) (fun cdv A outer s H vs Q E hr h => ?_)
  · obtain ⟨n, v, rfl, _⟩ := h
    rfl
  · obtain ⟨n, v, rfl, hn, hq, hw⟩ := h
    refine ⟨_, pss_cons (ps_try_cls (tb := fun W => tDrop (tCallS (spRaise K 0 34) (WE W) (tCons (tVar 0) (tCons (tVar 1) tNil)))) rfl rfl sc_law_caught_a.nd (takes_of rfl rfl rfl rfl)
        (fun W pn xe tk _ => pss_one (ps_expr (by exact (pe_callS G hr (by rfl) h1.g h1.F.kp b1 (fun σ => passAt tk σ) (by exact (pa_cons (pv 0) (pa_cons (pv 1) pa_nil)))))))
        (.as (i := 2) (ts := sAt K 0) rfl rfl ⟨rfl, by decide, .inl (T.g 0 (by decide))⟩ (fun a oe cls d pn hz hf => pss_one (ps_ret (pe_tup (pa_cons pe_int (pa_cons (pe_by_at (T.at_ 0 (by decide)) hz hf (pv 2)) pa_nil))))) (.as (i := 2) (ts := sAt K 1) rfl rfl ⟨rfl, by decide, .inl (T.g 1 (by decide))⟩ (fun a oe cls d pn hz hf => pss_one (ps_ret (pe_tup (pa_cons pe_int (pa_cons (pe_by_at (T.at_ 1 (by decide)) hz hf (pv 2)) pa_nil))))) (.as (i := 2) (ts := sAt K 2) rfl rfl ⟨rfl, by decide, .inl (T.g 2 (by decide))⟩ (fun a oe cls d pn hz hf => pss_one (ps_ret (pe_tup (pa_cons pe_int (pa_cons (pe_by_at (T.at_ 2 (by decide)) hz hf (pv 2)) pa_nil))))) (.as (i := 2) (ts := sAt K 3) rfl rfl ⟨rfl, by decide, .inl (T.g 3 (by decide))⟩ (fun a oe cls d pn hz hf => pss_one (ps_ret (pe_tup (pa_cons pe_int (pa_cons (pe_by_at (T.at_ 3 (by decide)) hz hf (pv 2)) pa_nil))))) (.as (i := 2) (ts := sAt K 4) rfl rfl ⟨rfl, by decide, .inl (T.g 4 (by decide))⟩ (fun a oe cls d pn hz hf => pss_one (ps_ret (pe_tup (pa_cons pe_int (pa_cons (pe_by_at (T.at_ 4 (by decide)) hz hf (pv 2)) pa_nil))))) (.as (i := 2) (ts := sAt K 5) rfl rfl ⟨rfl, by decide, .inl (T.g 5 (by decide))⟩ (fun a oe cls d pn hz hf => pss_one (ps_ret (pe_tup (pa_cons pe_int (pa_cons (pe_by_at (T.at_ 5 (by decide)) hz hf (pv 2)) pa_nil))))) (.as (i := 2) (ts := sAt K 6) rfl rfl ⟨rfl, by decide, .inl (T.g 6 (by decide))⟩ (fun a oe cls d pn hz hf => pss_one (ps_ret (pe_tup (pa_cons pe_int (pa_cons (pe_by_at (T.at_ 6 (by decide)) hz hf (pv 2)) pa_nil))))) (.as (i := 2) (ts := sAt K 7) rfl rfl ⟨rfl, by decide, .inl (T.g 7 (by decide))⟩ (fun a oe cls d pn hz hf => pss_one (ps_ret (pe_tup (pa_cons pe_int (pa_cons (pe_by_at (T.at_ 7 (by decide)) hz hf (pv 2)) pa_nil))))) .nil)))))))))
      (pss_one (ps_ret pe_non)), ?_⟩
    refine ⟨_, rfl, _, rfl, n, v, rfl, by omega, hn, ?_⟩
    by_cases e0 : n = 0
    · subst e0
      exact wish_at (by decide) fun d hd => step_yes T 0 (by decide) fun a ha => sAt_run hd (hq (by decide))
    by_cases e1 : n = 1
    · subst e1
      exact wish_at (by decide) fun d hd => step_no T 0 1 (by decide) (by decide) (by decide) (step_yes T 1 (by decide) fun a ha => sAt_run hd (hq (by decide)))
    by_cases e2 : n = 2
    · subst e2
      exact wish_at (by decide) fun d hd => step_no T 0 2 (by decide) (by decide) (by decide) (step_no T 1 2 (by decide) (by decide) (by decide) (step_yes T 2 (by decide) fun a ha => sAt_run hd (hq (by decide))))
    by_cases e3 : n = 3
    · subst e3
      exact wish_at (by decide) fun d hd => step_no T 0 3 (by decide) (by decide) (by decide) (step_no T 1 3 (by decide) (by decide) (by decide) (step_no T 2 3 (by decide) (by decide) (by decide) (step_yes T 3 (by decide) fun a ha => sAt_run hd (hq (by decide)))))
    by_cases e4 : n = 4
    · subst e4
      exact wish_at (by decide) fun d hd => step_no T 0 4 (by decide) (by decide) (by decide) (step_no T 1 4 (by decide) (by decide) (by decide) (step_no T 2 4 (by decide) (by decide) (by decide) (step_no T 3 4 (by decide) (by decide) (by decide) (step_yes T 4 (by decide) fun a ha => sAt_run hd (hq (by decide))))))
    by_cases e5 : n = 5
    · subst e5
      exact wish_at (by decide) fun d hd => step_no T 0 5 (by decide) (by decide) (by decide) (step_no T 1 5 (by decide) (by decide) (by decide) (step_no T 2 5 (by decide) (by decide) (by decide) (step_no T 3 5 (by decide) (by decide) (by decide) (step_no T 4 5 (by decide) (by decide) (by decide) (step_yes T 5 (by decide) fun a ha => sAt_run hd (hq (by decide)))))))
    by_cases e6 : n = 6
    · subst e6
      exact wish_at (by decide) fun d hd => step_no T 0 6 (by decide) (by decide) (by decide) (step_no T 1 6 (by decide) (by decide) (by decide) (step_no T 2 6 (by decide) (by decide) (by decide) (step_no T 3 6 (by decide) (by decide) (by decide) (step_no T 4 6 (by decide) (by decide) (by decide) (step_no T 5 6 (by decide) (by decide) (by decide) (step_yes T 6 (by decide) fun a ha => sAt_run hd (hq (by decide))))))))
    by_cases e7 : n = 7
    · subst e7
      exact wish_at (by decide) fun d hd => step_no T 0 7 (by decide) (by decide) (by decide) (step_no T 1 7 (by decide) (by decide) (by decide) (step_no T 2 7 (by decide) (by decide) (by decide) (step_no T 3 7 (by decide) (by decide) (by decide) (step_no T 4 7 (by decide) (by decide) (by decide) (step_no T 5 7 (by decide) (by decide) (by decide) (step_no T 6 7 (by decide) (by decide) (by decide) (step_yes T 7 (by decide) fun a ha => sAt_run hd (hq (by decide)))))))))
    exact wish_imp (hw (by omega)) fun d H' hE => step_no T 0 n (by decide) hn (by omega) (step_no T 1 n (by decide) hn (by omega) (step_no T 2 n (by decide) hn (by omega) (step_no T 3 n (by decide) hn (by omega) (step_no T 4 n (by decide) hn (by omega) (step_no T 5 n (by decide) hn (by omega) (step_no T 6 n (by decide) hn (by omega) (step_no T 7 n (by decide) hn (by omega) (hE))))))))
theorem sc_law_caught_b : FnScope ps3 ps2 (defScope s_law_caught_b) := ⟨rfl, rfl, rfl, by decide +kernel, rfl, by decide +kernel, by decide +kernel⟩
theorem ok_law_caught_b {f : Addr} {fd f1 : FuncData} (T : Top K mg) (F : Own K "_law_caught_b" s_law_caught_b f fd) (h1 : Has K mg "_law_caught_a" s_law_caught_a f1) (G : FnOk P w K mg base (L2.CX P w) 5 (ea K "_law_caught_a") f1 ps2 (spCaught K 8)) :
    FnOk P w K mg base (L2.CX P w) 6 f fd ps2 (spCaught K 16) := by
  have b1 : Binds K f1 ps2 [] := h1.F.bindsN fun _ _ _ _ _ _ us hl => match us, hl with | [_, _], _ => rfl
  refine F.ok sc_law_caught_b (fun vs H Q E h => ?_) (fun cdv A outer s H vs Q E hr h => ?_)
  · obtain ⟨n, v, rfl, _⟩ := h
    rfl
  · obtain ⟨n, v, rfl, hn, hq, hw⟩ := h
    refine ⟨_, pss_cons (ps_try_cls (tb := fun W => tRet (tCallS (spCaught K 8) (WE W) (tCons (tVar 0) (tCons (tVar 1) tNil)))) rfl rfl sc_law_caught_b.nd (takes_of rfl rfl rfl rfl)
        (fun W pn xe tk _ => pss_one (ps_ret (by exact (pe_callS G hr (by rfl) h1.g h1.F.kp b1 (fun σ => passAt tk σ) (by exact (pa_cons (pv 0) (pa_cons (pv 1) pa_nil)))))))
        (.as (i := 2) (ts := sAt K 8) rfl rfl ⟨rfl, by decide, .inl (T.g 8 (by decide))⟩ (fun a oe cls d pn hz hf => pss_one (ps_ret (pe_tup (pa_cons pe_int (pa_cons (pe_by_at (T.at_ 8 (by decide)) hz hf (pv 2)) pa_nil))))) (.as (i := 2) (ts := sAt K 9) rfl rfl ⟨rfl, by decide, .inl (T.g 9 (by decide))⟩ (fun a oe cls d pn hz hf => pss_one (ps_ret (pe_tup (pa_cons pe_int (pa_cons (pe_by_at (T.at_ 9 (by decide)) hz hf (pv 2)) pa_nil))))) (.as (i := 2) (ts := sAt K 10) rfl rfl ⟨rfl, by decide, .inl (T.g 10 (by decide))⟩ (fun a oe cls d pn hz hf => pss_one (ps_ret (pe_tup (pa_cons pe_int (pa_cons (pe_by_at (T.at_ 10 (by decide)) hz hf (pv 2)) pa_nil))))) (.as (i := 2) (ts := sAt K 11) rfl rfl ⟨rfl, by decide, .inl (T.g 11 (by decide))⟩ (fun a oe cls d pn hz hf => pss_one (ps_ret (pe_tup (pa_cons pe_int (pa_cons (pe_by_at (T.at_ 11 (by decide)) hz hf (pv 2)) pa_nil))))) (.as (i := 2) (ts := sAt K 12) rfl rfl ⟨rfl, by decide, .inl (T.g 12 (by decide))⟩ (fun a oe cls d pn hz hf => pss_one (ps_ret (pe_tup (pa_cons pe_int (pa_cons (pe_by_at (T.at_ 12 (by decide)) hz hf (pv 2)) pa_nil))))) (.as (i := 2) (ts := sAt K 13) rfl rfl ⟨rfl, by decide, .inl (T.g 13 (by decide))⟩ (fun a oe cls d pn hz hf => pss_one (ps_ret (pe_tup (pa_cons pe_int (pa_cons (pe_by_at (T.at_ 13 (by decide)) hz hf (pv 2)) pa_nil))))) (.as (i := 2) (ts := sAt K 14) rfl rfl ⟨rfl, by decide, .inl (T.g 14 (by decide))⟩ (fun a oe cls d pn hz hf => pss_one (ps_ret (pe_tup (pa_cons pe_int (pa_cons (pe_by_at (T.at_ 14 (by decide)) hz hf (pv 2)) pa_nil))))) (.as (i := 2) (ts := sAt K 15) rfl rfl ⟨rfl, by decide, .inl (T.g 15 (by decide))⟩ (fun a oe cls d pn hz hf => pss_one (ps_ret (pe_tup (pa_cons pe_int (pa_cons (pe_by_at (T.at_ 15 (by decide)) hz hf (pv 2)) pa_nil))))) .nil)))))))))
      (pss_one (ps_ret pe_non)), ?_⟩
    refine ⟨_, rfl, _, rfl, n, v, rfl, hn, fun h => hq (by omega), fun hlo => ?_⟩
    by_cases e8 : n = 8
    · subst e8
      exact wish_at (by decide) fun d hd => step_yes T 8 (by decide) fun a ha => sAt_run hd (hq (by decide))
    by_cases e9 : n = 9
    · subst e9
      exact wish_at (by decide) fun d hd => step_no T 8 9 (by decide) (by decide) (by decide) (step_yes T 9 (by decide) fun a ha => sAt_run hd (hq (by decide)))
    by_cases e10 : n = 10
    · subst e10
      exact wish_at (by decide) fun d hd => step_no T 8 10 (by decide) (by decide) (by decide) (step_no T 9 10 (by decide) (by decide) (by decide) (step_yes T 10 (by decide) fun a ha => sAt_run hd (hq (by decide))))
    by_cases e11 : n = 11
    · subst e11
      exact wish_at (by decide) fun d hd => step_no T 8 11 (by decide) (by decide) (by decide) (step_no T 9 11 (by decide) (by decide) (by decide) (step_no T 10 11 (by decide) (by decide) (by decide) (step_yes T 11 (by decide) fun a ha => sAt_run hd (hq (by decide)))))
    by_cases e12 : n = 12
    · subst e12
      exact wish_at (by decide) fun d hd => step_no T 8 12 (by decide) (by decide) (by decide) (step_no T 9 12 (by decide) (by decide) (by decide) (step_no T 10 12 (by decide) (by decide) (by decide) (step_no T 11 12 (by decide) (by decide) (by decide) (step_yes T 12 (by decide) fun a ha => sAt_run hd (hq (by decide))))))
    by_cases e13 : n = 13
    · subst e13
      exact wish_at (by decide) fun d hd => step_no T 8 13 (by decide) (by decide) (by decide) (step_no T 9 13 (by decide) (by decide) (by decide) (step_no T 10 13 (by decide) (by decide) (by decide) (step_no T 11 13 (by decide) (by decide) (by decide) (step_no T 12 13 (by decide) (by decide) (by decide) (step_yes T 13 (by decide) fun a ha => sAt_run hd (hq (by decide)))))))
    by_cases e14 : n = 14
    · subst e14
      exact wish_at (by decide) fun d hd => step_no T 8 14 (by decide) (by decide) (by decide) (step_no T 9 14 (by decide) (by decide) (by decide) (step_no T 10 14 (by decide) (by decide) (by decide) (step_no T 11 14 (by decide) (by decide) (by decide) (step_no T 12 14 (by decide) (by decide) (by decide) (step_no T 13 14 (by decide) (by decide) (by decide) (step_yes T 14 (by decide) fun a ha => sAt_run hd (hq (by decide))))))))
    by_cases e15 : n = 15
    · subst e15
      exact wish_at (by decide) fun d hd => step_no T 8 15 (by decide) (by decide) (by decide) (step_no T 9 15 (by decide) (by decide) (by decide) (step_no T 10 15 (by decide) (by decide) (by decide) (step_no T 11 15 (by decide) (by decide) (by decide) (step_no T 12 15 (by decide) (by decide) (by decide) (step_no T 13 15 (by decide) (by decide) (by decide) (step_no T 14 15 (by decide) (by decide) (by decide) (step_yes T 15 (by decide) fun a ha => sAt_run hd (hq (by decide)))))))))
    exact wish_imp (hw (by omega)) fun d H' hE => step_no T 8 n (by decide) hn (by omega) (step_no T 9 n (by decide) hn (by omega) (step_no T 10 n (by decide) hn (by omega) (step_no T 11 n (by decide) hn (by omega) (step_no T 12 n (by decide) hn (by omega) (step_no T 13 n (by decide) hn (by omega) (step_no T 14 n (by decide) hn (by omega) (step_no T 15 n (by decide) hn (by omega) (hE))))))))
theorem sc_law_caught_c : FnScope ps3 ps2 (defScope s_law_caught_c) := ⟨rfl, rfl, rfl, by decide +kernel, rfl, by decide +kernel, by decide +kernel⟩
theorem ok_law_caught_c {f : Addr} {fd f1 : FuncData} (T : Top K mg) (F : Own K "_law_caught_c" s_law_caught_c f fd) (h1 : Has K mg "_law_caught_b" s_law_caught_b f1) (G : FnOk P w K mg base (L2.CX P w) 6 (ea K "_law_caught_b") f1 ps2 (spCaught K 16)) :
    FnOk P w K mg base (L2.CX P w) 7 f fd ps2 (spCaught K 24) := by
  have b1 : Binds K f1 ps2 [] := h1.F.bindsN fun _ _ _ _ _ _ us hl => match us, hl with | [_, _], _ => rfl
  refine F.ok sc_law_caught_c (fun vs H Q E h => ?_) (fun cdv A outer s H vs Q E hr h => ?_)
  · obtain ⟨n, v, rfl, _⟩ := h
    rfl
  · obtain ⟨n, v, rfl, hn, hq, hw⟩ := h
    refine ⟨_, pss_cons (ps_try_cls (tb := fun W => tRet (tCallS (spCaught K 16) (WE W) (tCons (tVar 0) (tCons (tVar 1) tNil)))) rfl rfl sc_law_caught_c.nd (takes_of rfl rfl rfl rfl)
        (fun W pn xe tk _ => pss_one (ps_ret (by exact (pe_callS G hr (by rfl) h1.g h1.F.kp b1 (fun σ => passAt tk σ) (by exact (pa_cons (pv 0) (pa_cons (pv 1) pa_nil)))))))
        (.as (i := 2) (ts := sAt K 16) rfl rfl ⟨rfl, by decide, .inl (T.g 16 (by decide))⟩ (fun a oe cls d pn hz hf => pss_one (ps_ret (pe_tup (pa_cons pe_int (pa_cons (pe_by_at (T.at_ 16 (by decide)) hz hf (pv 2)) pa_nil))))) (.as (i := 2) (ts := sAt K 17) rfl rfl ⟨rfl, by decide, .inl (T.g 17 (by decide))⟩ (fun a oe cls d pn hz hf => pss_one (ps_ret (pe_tup (pa_cons pe_int (pa_cons (pe_by_at (T.at_ 17 (by decide)) hz hf (pv 2)) pa_nil))))) (.as (i := 2) (ts := sAt K 18) rfl rfl ⟨rfl, by decide, .inl (T.g 18 (by decide))⟩ (fun a oe cls d pn hz hf => pss_one (ps_ret (pe_tup (pa_cons pe_int (pa_cons (pe_by_at (T.at_ 18 (by decide)) hz hf (pv 2)) pa_nil))))) (.as (i := 2) (ts := sAt K 19) rfl rfl ⟨rfl, by decide, .inl (T.g 19 (by decide))⟩ (fun a oe cls d pn hz hf => pss_one (ps_ret (pe_tup (pa_cons pe_int (pa_cons (pe_by_at (T.at_ 19 (by decide)) hz hf (pv 2)) pa_nil))))) (.as (i := 2) (ts := sAt K 20) rfl rfl ⟨rfl, by decide, .inl (T.g 20 (by decide))⟩ (fun a oe cls d pn hz hf => pss_one (ps_ret (pe_tup (pa_cons pe_int (pa_cons (pe_by_at (T.at_ 20 (by decide)) hz hf (pv 2)) pa_nil))))) (.as (i := 2) (ts := sAt K 21) rfl rfl ⟨rfl, by decide, .inl (T.g 21 (by decide))⟩ (fun a oe cls d pn hz hf => pss_one (ps_ret (pe_tup (pa_cons pe_int (pa_cons (pe_by_at (T.at_ 21 (by decide)) hz hf (pv 2)) pa_nil))))) (.as (i := 2) (ts := sAt K 22) rfl rfl ⟨rfl, by decide, .inl (T.g 22 (by decide))⟩ (fun a oe cls d pn hz hf => pss_one (ps_ret (pe_tup (pa_cons pe_int (pa_cons (pe_by_at (T.at_ 22 (by decide)) hz hf (pv 2)) pa_nil))))) (.as (i := 2) (ts := sAt K 23) rfl rfl ⟨rfl, by decide, .inl (T.g 23 (by decide))⟩ (fun a oe cls d pn hz hf => pss_one (ps_ret (pe_tup (pa_cons pe_int (pa_cons (pe_by_at (T.at_ 23 (by decide)) hz hf (pv 2)) pa_nil))))) .nil)))))))))
      (pss_one (ps_ret pe_non)), ?_⟩
    refine ⟨_, rfl, _, rfl, n, v, rfl, hn, fun h => hq (by omega), fun hlo => ?_⟩
    by_cases e16 : n = 16
    · subst e16
      exact wish_at (by decide) fun d hd => step_yes T 16 (by decide) fun a ha => sAt_run hd (hq (by decide))
    by_cases e17 : n = 17
    · subst e17
      exact wish_at (by decide) fun d hd => step_no T 16 17 (by decide) (by decide) (by decide) (step_yes T 17 (by decide) fun a ha => sAt_run hd (hq (by decide)))
    by_cases e18 : n = 18
    · subst e18
      exact wish_at (by decide) fun d hd => step_no T 16 18 (by decide) (by decide) (by decide) (step_no T 17 18 (by decide) (by decide) (by decide) (step_yes T 18 (by decide) fun a ha => sAt_run hd (hq (by decide))))
    by_cases e19 : n = 19
    · subst e19
      exact wish_at (by decide) fun d hd => step_no T 16 19 (by decide) (by decide) (by decide) (step_no T 17 19 (by decide) (by decide) (by decide) (step_no T 18 19 (by decide) (by decide) (by decide) (step_yes T 19 (by decide) fun a ha => sAt_run hd (hq (by decide)))))
    by_cases e20 : n = 20
    · subst e20
      exact wish_at (by decide) fun d hd => step_no T 16 20 (by decide) (by decide) (by decide) (step_no T 17 20 (by decide) (by decide) (by decide) (step_no T 18 20 (by decide) (by decide) (by decide) (step_no T 19 20 (by decide) (by decide) (by decide) (step_yes T 20 (by decide) fun a ha => sAt_run hd (hq (by decide))))))
    by_cases e21 : n = 21
    · subst e21
      exact wish_at (by decide) fun d hd => step_no T 16 21 (by decide) (by decide) (by decide) (step_no T 17 21 (by decide) (by decide) (by decide) (step_no T 18 21 (by decide) (by decide) (by decide) (step_no T 19 21 (by decide) (by decide) (by decide) (step_no T 20 21 (by decide) (by decide) (by decide) (step_yes T 21 (by decide) fun a ha => sAt_run hd (hq (by decide)))))))
    by_cases e22 : n = 22
    · subst e22
      exact wish_at (by decide) fun d hd => step_no T 16 22 (by decide) (by decide) (by decide) (step_no T 17 22 (by decide) (by decide) (by decide) (step_no T 18 22 (by decide) (by decide) (by decide) (step_no T 19 22 (by decide) (by decide) (by decide) (step_no T 20 22 (by decide) (by decide) (by decide) (step_no T 21 22 (by decide) (by decide) (by decide) (step_yes T 22 (by decide) fun a ha => sAt_run hd (hq (by decide))))))))
    by_cases e23 : n = 23
    · subst e23
      exact wish_at (by decide) fun d hd => step_no T 16 23 (by decide) (by decide) (by decide) (step_no T 17 23 (by decide) (by decide) (by decide) (step_no T 18 23 (by decide) (by decide) (by decide) (step_no T 19 23 (by decide) (by decide) (by decide) (step_no T 20 23 (by decide) (by decide) (by decide) (step_no T 21 23 (by decide) (by decide) (by decide) (step_no T 22 23 (by decide) (by decide) (by decide) (step_yes T 23 (by decide) fun a ha => sAt_run hd (hq (by decide)))))))))
    exact wish_imp (hw (by omega)) fun d H' hE => step_no T 16 n (by decide) hn (by omega) (step_no T 17 n (by decide) hn (by omega) (step_no T 18 n (by decide) hn (by omega) (step_no T 19 n (by decide) hn (by omega) (step_no T 20 n (by decide) hn (by omega) (step_no T 21 n (by decide) hn (by omega) (step_no T 22 n (by decide) hn (by omega) (step_no T 23 n (by decide) hn (by omega) (hE))))))))
theorem sc_law_caught_d : FnScope ps3 ps2 (defScope s_law_caught_d) := ⟨rfl, rfl, rfl, by decide +kernel, rfl, by decide +kernel, by decide +kernel⟩
theorem ok_law_caught_d {f : Addr} {fd f1 : FuncData} (T : Top K mg) (F : Own K "_law_caught_d" s_law_caught_d f fd) (h1 : Has K mg "_law_caught_c" s_law_caught_c f1) (G : FnOk P w K mg base (L2.CX P w) 7 (ea K "_law_caught_c") f1 ps2 (spCaught K 24)) :
    FnOk P w K mg base (L2.CX P w) 8 f fd ps2 (spCaught K 32) := by
  have b1 : Binds K f1 ps2 [] := h1.F.bindsN fun _ _ _ _ _ _ us hl => match us, hl with | [_, _], _ => rfl
  refine F.ok sc_law_caught_d (fun vs H Q E h => ?_) (fun cdv A outer s H vs Q E hr h => ?_)
  · obtain ⟨n, v, rfl, _⟩ := h
    rfl
  · obtain ⟨n, v, rfl, hn, hq, hw⟩ := h
    refine ⟨_, pss_cons (ps_try_cls (tb := fun W => tRet (tCallS (spCaught K 24) (WE W) (tCons (tVar 0) (tCons (tVar 1) tNil)))) rfl rfl sc_law_caught_d.nd (takes_of rfl rfl rfl rfl)
        (fun W pn xe tk _ => pss_one (ps_ret (by exact (pe_callS G hr (by rfl) h1.g h1.F.kp b1 (fun σ => passAt tk σ) (by exact (pa_cons (pv 0) (pa_cons (pv 1) pa_nil)))))))
        (.as (i := 2) (ts := sAt K 24) rfl rfl ⟨rfl, by decide, .inl (T.g 24 (by decide))⟩ (fun a oe cls d pn hz hf => pss_one (ps_ret (pe_tup (pa_cons pe_int (pa_cons (pe_by_at (T.at_ 24 (by decide)) hz hf (pv 2)) pa_nil))))) (.as (i := 2) (ts := sAt K 25) rfl rfl ⟨rfl, by decide, .inl (T.g 25 (by decide))⟩ (fun a oe cls d pn hz hf => pss_one (ps_ret (pe_tup (pa_cons pe_int (pa_cons (pe_by_at (T.at_ 25 (by decide)) hz hf (pv 2)) pa_nil))))) (.as (i := 2) (ts := sAt K 26) rfl rfl ⟨rfl, by decide, .inl (T.g 26 (by decide))⟩ (fun a oe cls d pn hz hf => pss_one (ps_ret (pe_tup (pa_cons pe_int (pa_cons (pe_by_at (T.at_ 26 (by decide)) hz hf (pv 2)) pa_nil))))) (.as (i := 2) (ts := sAt K 27) rfl rfl ⟨rfl, by decide, .inl (T.g 27 (by decide))⟩ (fun a oe cls d pn hz hf => pss_one (ps_ret (pe_tup (pa_cons pe_int (pa_cons (pe_by_at (T.at_ 27 (by decide)) hz hf (pv 2)) pa_nil))))) (.as (i := 2) (ts := sAt K 28) rfl rfl ⟨rfl, by decide, .inl (T.g 28 (by decide))⟩ (fun a oe cls d pn hz hf => pss_one (ps_ret (pe_tup (pa_cons pe_int (pa_cons (pe_by_at (T.at_ 28 (by decide)) hz hf (pv 2)) pa_nil))))) (.as (i := 2) (ts := sAt K 29) rfl rfl ⟨rfl, by decide, .inl (T.g 29 (by decide))⟩ (fun a oe cls d pn hz hf => pss_one (ps_ret (pe_tup (pa_cons pe_int (pa_cons (pe_by_at (T.at_ 29 (by decide)) hz hf (pv 2)) pa_nil))))) (.as (i := 2) (ts := sAt K 30) rfl rfl ⟨rfl, by decide, .inl (T.g 30 (by decide))⟩ (fun a oe cls d pn hz hf => pss_one (ps_ret (pe_tup (pa_cons pe_int (pa_cons (pe_by_at (T.at_ 30 (by decide)) hz hf (pv 2)) pa_nil))))) (.as (i := 2) (ts := sWord K 31) rfl rfl ⟨rfl, by decide, .inl (T.g 31 (by decide))⟩ (fun a oe cls d pn hz hf => pss_one (ps_ret (pe_tup (pa_cons pe_int (pa_cons (pe_by_word T.word hz hf (pv 2)) pa_nil))))) .nil)))))))))
      (pss_one (ps_ret pe_non)), ?_⟩
    refine ⟨_, rfl, _, rfl, n, v, rfl, hn, fun h => hq (by omega), fun hlo => ?_⟩
    by_cases e24 : n = 24
    · subst e24
      exact wish_at (by decide) fun d hd => step_yes T 24 (by decide) fun a ha => sAt_run hd (hq (by decide))
    by_cases e25 : n = 25
    · subst e25
      exact wish_at (by decide) fun d hd => step_no T 24 25 (by decide) (by decide) (by decide) (step_yes T 25 (by decide) fun a ha => sAt_run hd (hq (by decide)))
    by_cases e26 : n = 26
    · subst e26
      exact wish_at (by decide) fun d hd => step_no T 24 26 (by decide) (by decide) (by decide) (step_no T 25 26 (by decide) (by decide) (by decide) (step_yes T 26 (by decide) fun a ha => sAt_run hd (hq (by decide))))
    by_cases e27 : n = 27
    · subst e27
      exact wish_at (by decide) fun d hd => step_no T 24 27 (by decide) (by decide) (by decide) (step_no T 25 27 (by decide) (by decide) (by decide) (step_no T 26 27 (by decide) (by decide) (by decide) (step_yes T 27 (by decide) fun a ha => sAt_run hd (hq (by decide)))))
    by_cases e28 : n = 28
    · subst e28
      exact wish_at (by decide) fun d hd => step_no T 24 28 (by decide) (by decide) (by decide) (step_no T 25 28 (by decide) (by decide) (by decide) (step_no T 26 28 (by decide) (by decide) (by decide) (step_no T 27 28 (by decide) (by decide) (by decide) (step_yes T 28 (by decide) fun a ha => sAt_run hd (hq (by decide))))))
    by_cases e29 : n = 29
    · subst e29
      exact wish_at (by decide) fun d hd => step_no T 24 29 (by decide) (by decide) (by decide) (step_no T 25 29 (by decide) (by decide) (by decide) (step_no T 26 29 (by decide) (by decide) (by decide) (step_no T 27 29 (by decide) (by decide) (by decide) (step_no T 28 29 (by decide) (by decide) (by decide) (step_yes T 29 (by decide) fun a ha => sAt_run hd (hq (by decide)))))))
    by_cases e30 : n = 30
    · subst e30
      exact wish_at (by decide) fun d hd => step_no T 24 30 (by decide) (by decide) (by decide) (step_no T 25 30 (by decide) (by decide) (by decide) (step_no T 26 30 (by decide) (by decide) (by decide) (step_no T 27 30 (by decide) (by decide) (by decide) (step_no T 28 30 (by decide) (by decide) (by decide) (step_no T 29 30 (by decide) (by decide) (by decide) (step_yes T 30 (by decide) fun a ha => sAt_run hd (hq (by decide))))))))
    by_cases e31 : n = 31
    · subst e31
      exact wish_word fun d hd => step_no T 24 31 (by decide) (by decide) (by decide) (step_no T 25 31 (by decide) (by decide) (by decide) (step_no T 26 31 (by decide) (by decide) (by decide) (step_no T 27 31 (by decide) (by decide) (by decide) (step_no T 28 31 (by decide) (by decide) (by decide) (step_no T 29 31 (by decide) (by decide) (by decide) (step_no T 30 31 (by decide) (by decide) (by decide) (step_yes T 31 (by decide) fun a ha => sWord_run hd (hq (by decide)))))))))
    exact wish_imp (hw (by omega)) fun d H' hE => step_no T 24 n (by decide) hn (by omega) (step_no T 25 n (by decide) hn (by omega) (step_no T 26 n (by decide) hn (by omega) (step_no T 27 n (by decide) hn (by omega) (step_no T 28 n (by decide) hn (by omega) (step_no T 29 n (by decide) hn (by omega) (step_no T 30 n (by decide) hn (by omega) (step_no T 31 n (by decide) hn (by omega) (hE))))))))
theorem sc_law_caught_e : FnScope ps2 ps2 (defScope s_law_caught_e) := ⟨rfl, rfl, rfl, by decide +kernel, rfl, by decide +kernel, by decide +kernel⟩
theorem ok_law_caught_e {f : Addr} {fd f1 : FuncData} (T : Top K mg) (F : Own K "_law_caught_e" s_law_caught_e f fd) (h1 : Has K mg "_law_caught_d" s_law_caught_d f1) (G : FnOk P w K mg base (L2.CX P w) 8 (ea K "_law_caught_d") f1 ps2 (spCaught K 32)) :
    FnOk P w K mg base (L2.CX P w) 9 f fd ps2 (spCaught K 34) := by
  have b1 : Binds K f1 ps2 [] := h1.F.bindsN fun _ _ _ _ _ _ us hl => match us, hl with | [_, _], _ => rfl
  refine F.ok sc_law_caught_e (fun vs H Q E h => ?_) (fun cdv A outer s H vs Q E hr h => ?_)
  · obtain ⟨n, v, rfl, _⟩ := h
    rfl
  · obtain ⟨n, v, rfl, hn, hq, hw⟩ := h
    refine ⟨_, pss_cons (ps_try_cls (tb := fun W => tRet (tCallS (spCaught K 32) (WE W) (tCons (tVar 0) (tCons (tVar 1) tNil)))) rfl rfl sc_law_caught_e.nd (takes_of rfl rfl rfl rfl)
        (fun W pn xe tk _ => pss_one (ps_ret (by exact (pe_callS G hr (by rfl) h1.g h1.F.kp b1 (fun σ => passAt tk σ) (by exact (pa_cons (pv 0) (pa_cons (pv 1) pa_nil)))))))
        (.bare (ts := sThing 32) ⟨rfl, by decide, .inl (T.g 32 (by decide))⟩ (fun a oe cls d pn hz hf => pss_one (ps_ret (pe_tup (pa_cons pe_int (pa_cons (pv 1) pa_nil))))) (.bare (ts := sThing 33) ⟨rfl, by decide, .inl (T.g 33 (by decide))⟩ (fun a oe cls d pn hz hf => pss_one (ps_ret (pe_tup (pa_cons pe_int (pa_cons (pv 1) pa_nil))))) .nil)))
      (pss_one (ps_ret pe_non)), ?_⟩
    refine ⟨_, rfl, _, rfl, n, v, rfl, hn, fun h => hq (by omega), fun hlo => ?_⟩
    by_cases e32 : n = 32
    · subst e32
      exact wish_none (by decide) (step_yes0 T 32 (by decide) fun a ha => sThing_run (hq (by decide)))
    by_cases e33 : n = 33
    · subst e33
      exact wish_none (by decide) (step_no T 32 33 (by decide) (by decide) (by decide) (step_yes0 T 33 (by decide) fun a ha => sThing_run (hq (by decide))))
    omega
theorem sc_law_is_base : FnScope ps2 ps2 (defScope s_law_is_base) := ⟨rfl, rfl, rfl, by decide +kernel, rfl, by decide +kernel, by decide +kernel⟩
def spBase : Sp := fun vs H Q _ => ∃ (n : Nat) (v : V), vs = [.int n, v] ∧ n < 34 ∧ ∀ H', Same H H' → Q (.bl true) H'
theorem ok_law_is_base {f : Addr} {fd f1 : FuncData} (T : Top K mg) (F : Own K "_law_is_base" s_law_is_base f fd) (h1 : Has K mg "_law_raise" s_law_raise f1) (G : FnOk P w K mg base (L2.CX P w) 4 (ea K "_law_raise") f1 ps2 (spRaise K 0 34)) :
    FnOk P w K mg base (L2.CX P w) 5 f fd ps2 spBase := by
  have b1 : Binds K f1 ps2 [] := h1.F.bindsN fun _ _ _ _ _ _ us hl => match us, hl with | [_, _], _ => rfl
  refine F.ok sc_law_is_base (fun vs H Q E h => ?_) (fun cdv A outer s H vs Q E hr h => ?_)
  · obtain ⟨n, v, rfl, _⟩ := h
    rfl
  · obtain ⟨n, v, rfl, hn, hq⟩ := h
    refine ⟨_, pss_cons (ps_try_cls (tb := fun W => tDrop (tCallS (spRaise K 0 34) (WE W) (tCons (tVar 0) (tCons (tVar 1) tNil)))) rfl rfl sc_law_is_base.nd (takes_of rfl rfl rfl rfl)
        (fun W pn xe tk _ => pss_one (ps_expr (by exact (pe_callS G hr (by rfl) h1.g h1.F.kp b1 (fun σ => passAt tk σ) (by exact (pa_cons (pv 0) (pa_cons (pv 1) pa_nil)))))))
        (.bare (ts := fun _ _ _ => tRet (tC (.bl true))) ⟨rfl, by decide, .inl T.gb⟩ (fun a oe cls d pn hz hf => pss_one (ps_ret pe_bl)) .nil))
      (pss_one (ps_ret pe_bl)), ?_⟩
    refine ⟨_, rfl, _, rfl, n, v, rfl, by omega, hn, ?_⟩
    have yes : ∀ {d : Option Addr} {H' : Hp} {D : Ends} {Wout : WX} {σ : L2.St} {r : List Cl}, D.rt (.bl true) H' → wCls K Wout D (⟨.ref (K00.base K), none, fun _ _ _ => tRet (tC (.bl true))⟩ :: r) (.ref (eN K n)) d σ H' := fun {d H' D Wout σ r} q =>
      ⟨true, (T.cls n hn).takesBase T.b1 T.b2 T.b3, fun _ _ _ => q, fun q => Bool.noConfusion q⟩
    by_cases h1 : n < 31
    · refine wish_at h1 fun d hd => yes ?_
      refine hq _ fun b o e => ?_
      rw [upd_ne (ne_of_none e hd)]
      exact e
    · by_cases h2 : n = 31
      · subst h2
        refine wish_word fun d hd => yes ?_
        refine hq _ fun b o e => ?_
        rw [upd_ne (ne_of_none e hd)]
        exact e
      · refine wish_none (by omega) (yes ?_)
        exact hq _ (Same.refl _)
end
end K00

namespace K00
open PySem PySem.Spec PyProof.Rows L2
section
variable {P : Program} {w : World} {K : PySem.W.Frag} {mg : PySem.Str → Option Value} {base : Heap}
/-! ### what is drawn: a box holds three numbers -/
def Box (H : Hp) (a : Addr) (c d e : Int) : Prop := H a = some (.lst [.int c, .int d, .int e]) ∧ 0 ≤ c ∧ 1 ≤ d ∧ d ≤ 2147483629 ∧ 0 ≤ e ∧ e ≤ 1000000000000
theorem sc_law_box : FnScope ["_law_script", "_law_k", "_law_cell"] ["_law_script", "_law_k"] (defScope s_law_box) := ⟨rfl, rfl, rfl, by decide +kernel, rfl, by decide +kernel, by decide +kernel⟩
def spBox (K : PySem.W.Frag) : Sp := fun vs H Q _ => ∃ (a : Addr) (ns : List Int) (k : Nat), vs = [.ref a, .int k] ∧ SqL K H a (ns.map V.int) ∧ ns.length ≤ 63 ∧ k ≤ 100 ∧
  ∀ p H' c d, Same H H' → H p = none → Box H' p c d 0 → Q (.ref p) H'
theorem ok_law_box {f : Addr} {fd : FuncData} (T : Top K mg) (F : Own K "_law_box" s_law_box f fd) : FnOk P w K mg base (L2.CX P w) 2 f fd ["_law_script", "_law_k"] (spBox K) := by
  have mLen := T.free "len" (by decide)
  have mAbs := T.free "abs" (by decide)
  have mInt := T.free "int" (by decide)
  refine F.ok sc_law_box (fun vs H Q E h => ?_) (fun cdv A outer s H vs Q E hr h => ?_)
  · obtain ⟨a, ns, k, rfl, _⟩ := h
    rfl
  · obtain ⟨a, ns, k, rfl, hS, hl, hk, hq⟩ := h
    refine ⟨_, pss_cons (ps_set (i := 2) sc_law_box.nd rfl (.inl rfl) (pe_op op_add (pe_op op_mul pe_int (pv 1)) pe_int))
      (pss_cons (ps_if (pt_cmpR op_lt (pv 1) (pe_callB call_len_seq (by rfl) mLen PySem.boot_len (pa_cons (pv 0) pa_nil)) (nomark _))
          (pss_one (ps_set (i := 2) sc_law_box.nd rfl (.inl rfl) (pe_callB call_abs (by rfl) mAbs PyProof.Rows.boot_abs (pa_cons (pe_ix ix_list (pv 0) (pv 1) (fun _ _ => rfl)) pa_nil))))
          (pss_one (ps_if (pt_cmpR op_gt (pe_callB call_len_seq (by rfl) mLen PySem.boot_len (pa_cons (pv 0) pa_nil)) pe_int (nomark _))
            (pss_one (ps_set (i := 2) sc_law_box.nd rfl (.inl rfl) (pe_op op_add (pv 2) (pe_op op_mul (pe_op op_mod (pe_callTy call_int1 (by rfl) mInt PyProof.Rows.boot_int (pa_cons (pe_callB call_abs (by rfl) mAbs PyProof.Rows.boot_abs (pa_cons (pe_ix ix_list (pv 0)
              (pe_op op_mod (pe_callTy call_int1 (by rfl) mInt PyProof.Rows.boot_int (pa_cons (pv 1) pa_nil)) (pe_callB call_len_seq (by rfl) mLen PySem.boot_len (pa_cons (pv 0) pa_nil))) (fun _ _ => rfl)) pa_nil)) pa_nil)) pe_int) pe_int))))
            pss_nil)))
      (pss_one (ps_ret (pe_lst (pa_cons (pe_ix ix_list (pe_lst (pa_cons pe_int (pa_cons (pv 2) pa_nil))) (pe_callTy call_int1 (by rfl) mInt PyProof.Rows.boot_int (pa_cons (pe_cmpR op_ge (pv 2) (pe_op op_pow pe_int pe_int) (nomark _)) pa_nil)) (fun _ _ => rfl))
        (pa_cons (pe_op op_add (pe_op op_mod (pe_callTy call_int1 (by rfl) mInt PyProof.Rows.boot_int (pa_cons (pe_op op_add (pe_op op_mul (pe_op op_mod (pe_callTy call_int1 (by rfl) mInt PyProof.Rows.boot_int (pa_cons (pv 2) pa_nil)) pe_int) pe_int) (pe_op op_mul pe_int (pv 1))) pa_nil)) pe_int) pe_int)
        (pa_cons pe_int pa_nil))))))), ?_⟩
    -- the last row, from any cell
    have last : ∀ (cell : Int), 0 ≤ cell → ∀ (σ : L2.St), σ = [some (.ref a), some (.int k), some (.int cell)] → tRet (tLst (tCons (tOp (rIxL K) (tLst (tCons (tC (.int 0)) (tCons (tVar 2) tNil)))
        (tCB (fun xs H Q => (∃ i, xs = [.int i] ∧ Q (.int i) H) ∨ ∃ k, xs = [.bl k] ∧ Q (.int (if k then 1 else 0)) H) (tCons (tOp (rI0 fun i j => .bl (decide (j ≤ i))) (tVar 2) (tOp (rI CPow fun i j => .int (i ^ j.toNat)) (tC (.int 10)) (tC (.int 18)))) tNil)))
        (tCons (tOp (rI0 fun i j => .int (i + j)) (tOp (rI (fun _ j => 0 < j) fun i j => .int (i % j)) (tCB (fun xs H Q => (∃ i, xs = [.int i] ∧ Q (.int i) H) ∨ ∃ k, xs = [.bl k] ∧ Q (.int (if k then 1 else 0)) H)
          (tCons (tOp (rI0 fun i j => .int (i + j)) (tOp (rI CMul fun i j => .int (i * j)) (tOp (rI (fun _ j => 0 < j) fun i j => .int (i % j)) (tCB (fun xs H Q => (∃ i, xs = [.int i] ∧ Q (.int i) H) ∨ ∃ k, xs = [.bl k] ∧ Q (.int (if k then 1 else 0)) H) (tCons (tVar 2) tNil)) (tC (.int 2147483629))) (tC (.int 44159)))
            (tOp (rI CMul fun i j => .int (i * j)) (tC (.int 51287)) (tVar 1))) tNil)) (tC (.int 2147483629))) (tC (.int 1))) (tCons (tC (.int 0)) tNil)))) { nx := fun _ H' => Q .non H', rt := Q } σ H := by
      rintro cell h0 _ rfl
      refine ⟨_, rfl, two_le, fun l hl => ⟨_, rfl, _, _, rfl, rfl, ⟨by decide, by decide, by decide⟩, _, _, rfl, rfl, .inr ⟨_, rfl, ?_⟩⟩⟩
      have same : Same H (upd H l (.lst [.int 0, .int cell])) := fun b o e => by rw [upd_ne (ne_of_none e hl)]; exact e
      have m0 := Int.emod_nonneg ((cell % 2147483629) * 44159 + 51287 * k) (show (2147483629 : Int) ≠ 0 by decide)
      have m1 := Int.emod_lt_of_pos ((cell % 2147483629) * 44159 + 51287 * k) (show (0 : Int) < 2147483629 by decide)
      have q0 := Int.emod_nonneg cell (show (2147483629 : Int) ≠ 0 by decide)
      have q1 := Int.emod_lt_of_pos cell (show (0 : Int) < 2147483629 by decide)
      have fin : ∀ c : Int, 0 ≤ c → ∀ p, (upd H l (.lst [.int 0, .int cell])) p = none → Q (.ref p) (upd (upd H l (.lst [.int 0, .int cell])) p (.lst [.int c, .int (((cell % 2147483629) * 44159 + 51287 * k) % 2147483629 + 1), .int 0])) := fun c hc p hp => by
        refine hq p _ c _ (fun b o e => ?_) ?_ ⟨upd_same, hc, by omega, by omega, by decide, by decide⟩
        · have e2 := same b o e
          rw [upd_ne (ne_of_none e2 hp)]
          exact e2
        · cases z : H p with
          | none => rfl
          | some o =>
            rw [same p o z] at hp
            cases hp
      have posM : (0 : Int) < 2147483629 := by decide
      have three : 3 ≤ sizeLine := by rw [sizeLine_eq]; decide
      by_cases big : (10 : Int) ^ (18 : Int).toNat ≤ cell
      · rw [decide_eq_true big]
        refine ⟨l, _, 1, _, rfl, rfl, .inl (.inl upd_same), atI_nat (j := 1) rfl, ?_⟩
        exact ⟨_, rfl, .inl ⟨_, rfl, _, _, rfl, rfl, posM, _, _, rfl, rfl, .inr ⟨by decide, by decide⟩, _, rfl, _, _, rfl, rfl, .inl ⟨by decide, by decide⟩, _, _, rfl, rfl, .inl ⟨_, rfl, _, _, rfl, rfl, posM, _, _, rfl, rfl, three, fin cell h0⟩⟩⟩
      · rw [decide_eq_false big]
        refine ⟨l, _, 0, _, rfl, rfl, .inl (.inl upd_same), atI_nat (j := 0) rfl, ?_⟩
        exact ⟨_, rfl, .inl ⟨_, rfl, _, _, rfl, rfl, posM, _, _, rfl, rfl, .inr ⟨by decide, by decide⟩, _, rfl, _, _, rfl, rfl, .inl ⟨by decide, by decide⟩, _, _, rfl, rfl, .inl ⟨_, rfl, _, _, rfl, rfl, posM, _, _, rfl, rfl, three, fin 0 (by decide)⟩⟩⟩
    refine ⟨_, rfl, _, _, rfl, rfl, .inl ⟨by decide, by decide⟩, _, _, rfl, rfl, ?_⟩
    refine ⟨_, rfl, _, rfl, a, _, rfl, .inl hS, _, _, rfl, rfl, _, rfl, ite2 (fun h => ?_) (fun h => ?_)⟩
    · have hk2 : k < ns.length := by
        have z := of_decide_eq_true h
        rw [List.length_map] at z
        omega
      refine ⟨_, rfl, _, rfl, a, _, _, _, rfl, rfl, hS, atI_nat (j := k) (by rw [List.getElem?_map, List.getElem?_eq_getElem hk2]; rfl), _, rfl, ?_⟩
      refine last _ ?_ _ rfl
      split <;> omega
    · refine ⟨_, rfl, a, _, rfl, .inl hS, _, _, rfl, rfl, _, rfl, ite2 (fun h2 => ?_) (fun h2 => ?_)⟩
      · have hp : 0 < ns.length := by
          have z := of_decide_eq_true h2
          rw [List.length_map] at z
          omega
        have m0 := Int.emod_nonneg (k : Int) (show (ns.length : Int) ≠ 0 by omega)
        have m1 := Int.emod_lt_of_pos (k : Int) (show (0 : Int) < ns.length by omega)
        obtain ⟨j, hj⟩ : ∃ j : Nat, (k : Int) % (ns.length : Int) = j := ⟨((k : Int) % (ns.length : Int)).toNat, by omega⟩
        have hj2 : j < ns.length := by omega
        refine ⟨_, rfl, _, rfl, _, rfl, .inl ⟨_, rfl, _, rfl, a, _, rfl, .inl hS, _, _, rfl, rfl, by rw [List.length_map]; omega, a, _, _, .int ns[j], rfl, rfl, hS, ?_, ?_⟩⟩
        · rw [List.length_map, hj]
          exact atI_nat (by rw [List.getElem?_map, List.getElem?_eq_getElem hj2]; rfl)
        · refine ⟨_, rfl, .inl ⟨_, rfl, _, _, rfl, rfl, (show (0 : Int) < 2147483629 by decide), _, _, rfl, rfl, .inr ⟨by decide, by decide⟩, _, _, rfl, rfl, ?_⟩⟩
          refine last _ ?_ _ rfl
          have z := Int.emod_nonneg (if ns[j] < 0 then -ns[j] else ns[j]) (show (2147483629 : Int) ≠ 0 by decide)
          omega
      · exact last _ (by omega) _ rfl
theorem sc_law_take : FnScope ["_law_box_here", "_law_many", "_law_digit", "_law_raw"] ["_law_box_here", "_law_many"] (defScope s_law_take) := ⟨rfl, rfl, rfl, by decide +kernel, rfl, by decide +kernel, by decide +kernel⟩
def spTake : Sp := fun vs H Q _ => ∃ (a : Addr) (m c d e : Int), vs = [.ref a, .int m] ∧ Box H a c d e ∧ e < 1000000000000 ∧ 0 < m ∧ m ≤ 1000000 ∧
  ∀ (r : Nat) c' d' e', (r : Int) < m → Box (upd H a (.lst [.int c', .int d', .int e'])) a c' d' e' → e' ≤ e + 1 → Q (.int r) (upd H a (.lst [.int c', .int d', .int e']))
theorem ok_law_take {f : Addr} {fd : FuncData} (T : Top K mg) (F : Own K "_law_take" s_law_take f fd) : FnOk P w K mg base (L2.CX P w) 2 f fd ["_law_box_here", "_law_many"] spTake := by
  have mInt := T.free "int" (by decide)
  refine F.ok sc_law_take (fun vs H Q E h => ?_) (fun cdv A outer s H vs Q E hr h => ?_)
  · obtain ⟨a, m, c, d, e, rfl, _⟩ := h
    rfl
  · obtain ⟨a, m, c, d, e, rfl, ⟨hb, hc, hd1, hd2, he1, he2⟩, he, hm1, hm2, hq⟩ := h
    refine ⟨_, pss_cons (ps_if (pt_cmpR op_gt (pe_ix ix_list (pv 0) pe_int (fun _ _ => rfl)) pe_int (nomark _))
          (pss_cons (ps_set (i := 2) sc_law_take.nd rfl (.inl rfl) (pe_op op_mod (pe_callTy call_int1 (by rfl) mInt PyProof.Rows.boot_int (pa_cons (pe_ix ix_list (pv 0) pe_int (fun _ _ => rfl)) pa_nil)) (pv 1)))
          (pss_cons (ps_asg (pe_op op_fdiv (pe_ix ix_list (pv 0) pe_int (fun _ _ => rfl)) (pv 1)) (pg_sub (pv 0) pe_int set_list (fun _ => rfl)))
          (pss_one (ps_ret (pv 2))))) pss_nil)
      (pss_cons (ps_asg (pe_op op_add (pe_ix ix_list (pv 0) pe_int (fun _ _ => rfl)) pe_int) (pg_sub (pv 0) pe_int set_list (fun _ => rfl)))
      (pss_cons (ps_set (i := 3) sc_law_take.nd rfl (.inl rfl) (pe_op op_mod (pe_callTy call_int1 (by rfl) mInt PyProof.Rows.boot_int (pa_cons (pe_op op_add (pe_op op_mul (pe_op op_add (pe_ix ix_list (pv 0) pe_int (fun _ _ => rfl)) (pe_op op_mul pe_int (pe_ix ix_list (pv 0) pe_int (fun _ _ => rfl)))) pe_int) pe_int) pa_nil)) pe_int))
      (pss_cons (ps_asg (pe_op op_add (pe_op op_mod (pe_callTy call_int1 (by rfl) mInt PyProof.Rows.boot_int (pa_cons (pe_op op_add (pe_op op_mul (pv 3) pe_int) pe_int) pa_nil)) pe_int) pe_int) (pg_sub (pv 0) pe_int set_list (fun _ => rfl)))
      (pss_one (ps_ret (pe_op op_mod (pe_callTy call_int1 (by rfl) mInt PyProof.Rows.boot_int (pa_cons (pe_op op_fdiv (pe_op op_add (pe_op op_mul (pv 3) pe_int) (pe_ix ix_list (pv 0) pe_int (fun _ _ => rfl))) pe_int) pa_nil)) (pv 1))))))), ?_⟩
    have hS : SqL K H a [.int c, .int d, .int e] := .inl (.inl hb)
    refine ⟨_, rfl, a, _, 0, .int c, rfl, rfl, hS, rfl, _, _, rfl, rfl, _, rfl, ite2 (fun h => ?_) (fun h => ?_)⟩
    · have m0 := Int.emod_nonneg c (show m ≠ 0 by omega)
      have m1 := Int.emod_lt_of_pos c hm1
      obtain ⟨r, hr'⟩ : ∃ r : Nat, c % m = r := ⟨(c % m).toNat, by omega⟩
      have hdv : 0 ≤ c / m := Int.ediv_nonneg hc (by omega)
      have q := hq r (c / m) d e (by omega) ⟨upd_same, hdv, hd1, hd2, he1, by omega⟩ (by omega)
      rw [← hr'] at q
      exact ⟨_, rfl, a, _, 0, .int c, rfl, rfl, hS, rfl, .inl ⟨_, rfl, _, rfl, _, _, rfl, rfl, hm1, _, rfl, a, _, 0, .int c, rfl, rfl, hS, rfl, _, rfl, _, _, rfl, rfl, ⟨hm1, by omega⟩, _, rfl, a, _, 0, 0, rfl, rfl, hb, rfl, _, rfl, q⟩⟩
    · refine ⟨_, rfl, a, _, 2, .int e, rfl, rfl, hS, rfl, _, _, rfl, rfl, _, rfl, a, _, 2, 2, rfl, rfl, hb, rfl, ?_⟩
      have hS1 : SqL K (upd H a (.lst [.int c, .int d, .int (e + 1)])) a [.int c, .int d, .int (e + 1)] := .inl (.inl upd_same)
      have pos1 : (0 : Int) < 2147483563 := by decide
      have pos2 : (0 : Int) < 2147483629 := by decide
      refine ⟨_, rfl, a, _, 1, .int d, rfl, rfl, hS1, rfl, _, rfl, a, _, 2, .int (e + 1), rfl, rfl, hS1, rfl, _, _, rfl, rfl, .inl ⟨by decide, by decide⟩, _, _, rfl, rfl, _, _, rfl, rfl, .inr ⟨by decide, by decide⟩, _, _, rfl, rfl, .inl ⟨_, rfl, _, _, rfl, rfl, pos1, ?_⟩⟩
      have n0 := Int.emod_nonneg ((((d + 71453 * (e + 1)) * 62211 + 67) % 2147483563) * 39175 + 21235) (show (2147483629 : Int) ≠ 0 by decide)
      have n1 := Int.emod_lt_of_pos ((((d + 71453 * (e + 1)) * 62211 + 67) % 2147483563) * 39175 + 21235) pos2
      refine ⟨_, rfl, _, _, rfl, rfl, .inr ⟨by decide, by decide⟩, _, _, rfl, rfl, .inl ⟨_, rfl, _, _, rfl, rfl, pos2, _, _, rfl, rfl, _, rfl, a, _, 1, 1, rfl, rfl, upd_same, rfl, ?_⟩⟩
      rw [upd_upd]
      have hS2 : SqL K (upd H a (.lst [.int c, .int (((((d + 71453 * (e + 1)) * 62211 + 67) % 2147483563) * 39175 + 21235) % 2147483629 + 1), .int (e + 1)])) a [.int c, .int (((((d + 71453 * (e + 1)) * 62211 + 67) % 2147483563) * 39175 + 21235) % 2147483629 + 1), .int (e + 1)] := .inl (.inl upd_same)
      have z0 := Int.emod_nonneg (((((d + 71453 * (e + 1)) * 62211 + 67) % 2147483563) * 2147483647 + (((((d + 71453 * (e + 1)) * 62211 + 67) % 2147483563) * 39175 + 21235) % 2147483629 + 1)) / 8191) (show m ≠ 0 by omega)
      have z1 := Int.emod_lt_of_pos (((((d + 71453 * (e + 1)) * 62211 + 67) % 2147483563) * 2147483647 + (((((d + 71453 * (e + 1)) * 62211 + 67) % 2147483563) * 39175 + 21235) % 2147483629 + 1)) / 8191) hm1
      obtain ⟨r, hr'⟩ : ∃ r : Nat, (((((d + 71453 * (e + 1)) * 62211 + 67) % 2147483563) * 2147483647 + (((((d + 71453 * (e + 1)) * 62211 + 67) % 2147483563) * 39175 + 21235) % 2147483629 + 1)) / 8191) % m = r := ⟨((((((d + 71453 * (e + 1)) * 62211 + 67) % 2147483563) * 2147483647 + (((((d + 71453 * (e + 1)) * 62211 + 67) % 2147483563) * 39175 + 21235) % 2147483629 + 1)) / 8191) % m).toNat, by omega⟩
      have q := hq r c (((((d + 71453 * (e + 1)) * 62211 + 67) % 2147483563) * 39175 + 21235) % 2147483629 + 1) (e + 1) (by omega) ⟨upd_same, hc, by omega, by omega, by omega, by omega⟩ (by omega)
      rw [← hr'] at q
      exact ⟨_, rfl, _, _, rfl, rfl, .inr ⟨by decide, by decide⟩, _, rfl, a, _, 1, _, rfl, rfl, hS2, rfl, _, _, rfl, rfl, _, _, rfl, rfl, ⟨by decide, by decide⟩, .inl ⟨_, rfl, _, rfl, _, _, rfl, rfl, hm1, q⟩⟩
theorem sc_law_pick : FnScope ["_law_box_here", "_law_some"] ["_law_box_here", "_law_some"] (defScope s_law_pick) := ⟨rfl, rfl, rfl, by decide +kernel, rfl, by decide +kernel, by decide +kernel⟩
def spPick (K : PySem.W.Frag) : Sp := fun vs H Q _ => ∃ (a b : Addr) (c d e : Int) (xs : List V), vs = [.ref a, .ref b] ∧ Box H a c d e ∧ e < 1000000000000 ∧ SqL K H b xs ∧ a ≠ b ∧ 0 < xs.length ∧ xs.length ≤ 1000000 ∧
  ∀ (r : Nat) x c' d' e', xs[r]? = some x → Box (upd H a (.lst [.int c', .int d', .int e'])) a c' d' e' → e' ≤ e + 1 → Q x (upd H a (.lst [.int c', .int d', .int e']))
theorem seq_upd {H : Hp} {a b : Addr} {xs : List V} {o : HO} (h : SqL K H b xs) (n : a ≠ b) : SqL K (upd H a o) b xs := by
  rcases h with (h | ⟨ob, h⟩) | h
  · exact .inl (.inl ((upd_ne n.symm).trans h))
  · exact .inl (.inr ⟨ob, (upd_ne n.symm).trans h⟩)
  · exact .inr h
theorem ok_law_pick {f : Addr} {fd fT : FuncData} (T : Top K mg) (F : Own K "_law_pick" s_law_pick f fd) (hT : Has K mg "_law_take" s_law_take fT) : FnOk P w K mg base (L2.CX P w) 3 f fd ["_law_box_here", "_law_some"] (spPick K) := by
  have mLen := T.free "len" (by decide)
  have GT : FnOk P w K mg base (L2.CX P w) 2 _ fT ["_law_box_here", "_law_many"] spTake := ok_law_take T hT.F
  have bT : Binds K fT ["_law_box_here", "_law_many"] [] := hT.F.bindsN fun _ _ _ _ _ _ us hl => match us, hl with | [_, _], _ => rfl
  refine F.ok sc_law_pick (fun vs H Q E h => ?_) (fun cdv A outer s H vs Q E hr h => ?_)
  · obtain ⟨a, b, c, d, e, xs, rfl, _⟩ := h
    rfl
  · obtain ⟨a, b, c, d, e, xs, rfl, hB, he, hS, hab, hx0, hx1, hq⟩ := h
    refine ⟨_, pss_one (ps_ret (pe_ix ix_list (pv 1) (pe_call GT hr (by rfl) hT.g hT.F.kp bT .nil passL (pa_cons (pv 0) (pa_cons (pe_callB call_len_seq (by rfl) mLen PySem.boot_len (pa_cons (pv 1) pa_nil)) pa_nil))) (fun _ _ => rfl))), ?_⟩
    refine ⟨_, rfl, _, rfl, _, rfl, b, xs, rfl, .inl hS, a, _, c, d, e, rfl, hB, he, by omega, by omega, fun r c' d' e' hr2 hB2 he2 => ?_⟩
    have hr3 : r < xs.length := by omega
    exact ⟨b, xs, r, xs[r], rfl, rfl, seq_upd hS hab, atI_nat (List.getElem?_eq_getElem hr3), hq r _ c' d' e' (List.getElem?_eq_getElem hr3) hB2 he2⟩
end
end K00

namespace K00
open PySem PySem.Spec PyProof.Rows L2
/-! ### data under growth -/
theorem sqt_same {K : PySem.W.Frag} {H H' : Hp} {a : Addr} {xs : List V} (e : Same H H') (h : SqT K H a xs) : SqT K H' a xs := by
  rcases h with (h | ⟨o, h⟩) | h
  · exact .inl (.inl (e _ _ h))
  · exact .inl (.inr ⟨o, e _ _ h⟩)
  · exact .inr h
mutual
theorem dp_same {K : PySem.W.Frag} {H H' : Hp} (e : Same H H') : ∀ (d : PyData) (v : V), Dp K H v d → Dp K H' v d
  | .none, _, h => by cases h; exact .non
  | .bool b, _, h => by cases h; exact .bl b
  | .int i, _, h => by cases h; exact .int i
  | .str x, _, h => by cases h; exact .str x
  | .list ds, _, h => by
    cases h with
    | lst h1 h2 => exact .lst (e.seq h1) (dpAll_same e ds _ h2)
  | .tuple ds, _, h => by
    cases h with
    | tup h1 h2 => exact .tup (sqt_same e h1) (dpAll_same e ds _ h2)
  | .dict _, _, h => by cases h
theorem dpAll_same {K : PySem.W.Frag} {H H' : Hp} (e : Same H H') : ∀ (ds : List PyData) (vs : List V), DpAll K H vs ds → DpAll K H' vs ds
  | [], _, h => by cases h; exact .nil
  | d :: ds, _, h => by
    cases h with
    | cons h1 h2 => exact .cons (dp_same e d _ h1) (dpAll_same e ds _ h2)
end
/-- the eight things -/
def things : List PyData := [.int 0, .int (-1), .none, .str "words", .tuple [.int 1, .int 2], .list [.int 3], .bool true, .int 7]
def pairOk (n : Nat) (i : Nat) : Bool := ((PyData.tuple [.int n, things.getD i .none]).shown.length ≤ 1000) && ((PyData.tuple [.int n, things.getD i .none]).showable && (!(PyData.tuple [.int n, things.getD i .none]).hasDict && decide ((PyData.tuple [.int n, things.getD i .none]).depth ≤ 60)))
theorem pairs_ok : (List.range 34).all (fun n => (List.range 8).all fun i => pairOk n i) = true := by decide +kernel
theorem pair_ok {n i : Nat} (hn : n < 34) (hi : i < 8) : pairOk n i = true := List.all_eq_true.mp (List.all_eq_true.mp pairs_ok n (List.mem_range.mpr hn)) i (List.mem_range.mpr hi)
section
variable {P : Program} {w : World} {K : PySem.W.Frag} {mg : PySem.Str → Option Value} {base : Heap}
theorem sc_law : FnScope ["_law_script", "_law_box_here", "_law_number", "_law_thing", "_law_kept"] ["_law_script"] (defScope slaw) := ⟨rfl, rfl, rfl, by decide +kernel, rfl, by decide +kernel, by decide +kernel⟩
def spLaw (K : PySem.W.Frag) : Sp := fun vs H Q _ => ∃ (a : Addr) (ns : List Int), vs = [.ref a] ∧ SqL K H a (ns.map V.int) ∧ ns.length ≤ 63 ∧ ∀ H', Q (.bl true) H'
theorem ok_law {f : Addr} {fd fB fP fC fI : FuncData} (T : Top K mg) (F : Own K "law" slaw f fd) (hB : Has K mg "_law_box" s_law_box fB) (hP : Has K mg "_law_pick" s_law_pick fP) (hC : Has K mg "_law_caught_e" s_law_caught_e fC) (hI : Has K mg "_law_is_base" s_law_is_base fI)
    (GB : FnOk P w K mg base (L2.CX P w) 9 (ea K "_law_box") fB ["_law_script", "_law_k"] (spBox K)) (GP : FnOk P w K mg base (L2.CX P w) 9 (ea K "_law_pick") fP ["_law_box_here", "_law_some"] (spPick K))
    (GC : FnOk P w K mg base (L2.CX P w) 9 (ea K "_law_caught_e") fC ps2 (spCaught K 34)) (GI : FnOk P w K mg base (L2.CX P w) 9 (ea K "_law_is_base") fI ps2 spBase) :
    FnG P w K mg base (L2.CX P w) 10 f fd ["_law_script"] (spLaw K) := by
  have mRange := T.free "range" (by decide)
  have mRepr := T.free "repr" (by decide)
  have bB : Binds K fB ["_law_script", "_law_k"] [] := hB.F.bindsN fun _ _ _ _ _ _ us hl => match us, hl with | [_, _], _ => rfl
  have bP : Binds K fP ["_law_box_here", "_law_some"] [] := hP.F.bindsN fun _ _ _ _ _ _ us hl => match us, hl with | [_, _], _ => rfl
  have bC : Binds K fC ps2 [] := hC.F.bindsN fun _ _ _ _ _ _ us hl => match us, hl with | [_, _], _ => rfl
  have bI : Binds K fI ps2 [] := hI.F.bindsN fun _ _ _ _ _ _ us hl => match us, hl with | [_, _], _ => rfl
  refine F.okG sc_law (fun vs H Q E h => ?_) (fun cdv A outer s H vs Q E hr hA h => ?_)
  · obtain ⟨a, ns, rfl, _⟩ := h
    rfl
  · obtain ⟨a, ns, rfl, hS, hl, hq⟩ := h
    have hu := hr.units
    refine ⟨_, PSs.nox (pss_cons (ps_set (i := 1) sc_law.nd rfl (.inl rfl) (pe_call GB hr (by rfl) hB.g hB.F.kp bB .nil passL (pa_cons (pv 0) (pa_cons pe_int pa_nil))))
      (pss_cons (ps_for PassesOwn.never rfl (pi_range1 rfl mRange (pa_cons pe_int pa_nil)) (pg_name (i := 2) sc_law.nd rfl (.inl rfl))
        (pss_cons (ps_set (i := 3) sc_law.nd rfl (.inl rfl) (pe_call GP hr (by rfl) hP.g hP.F.kp bP .nil passL (pa_cons (pv 1) (pa_cons (pe_lst (pa_cons pe_int (pa_cons (pe_un un_neg pe_int) (pa_cons pe_non (pa_cons pe_str
            (pa_cons (pe_tup (pa_cons pe_int (pa_cons pe_int pa_nil))) (pa_cons (pe_lst (pa_cons pe_int pa_nil)) (pa_cons pe_bl (pa_cons pe_int pa_nil))))))))) pa_nil))))
          (pss_one (ps_if (pw_or (pt_cmpR op_ne (pe_callB (call_reprD hA hu) (by rfl) mRepr PyProof.Rows.boot_repr (pa_cons (pe_call GC hr (by rfl) hC.g hC.F.kp bC .nil passL (pa_cons (pv 2) (pa_cons (pv 3) pa_nil))) pa_nil))
                (pe_callB (call_reprD hA hu) (by rfl) mRepr PyProof.Rows.boot_repr (pa_cons (pe_tup (pa_cons (pv 2) (pa_cons (pv 3) pa_nil))) pa_nil)) (nomark _))
              (pw_or1 (pt_not (pt_val (pe_call GI hr (by rfl) hI.g hI.F.kp bI .nil passL (pa_cons (pv 2) (pa_cons (pv 3) pa_nil))))))).pt
            (pss_one (ps_ret pe_bl)) pss_nil))))
      (pss_cons (ps_set (i := 4) sc_law.nd rfl (.inl rfl) (pe_tup (pa_cons (pe_made_at (T.at_ 0 (by decide)) (T.g 0 (by decide)) hr (by rfl) (pe_un un_neg pe_int)) (pa_cons (pe_made_at (T.at_ 20 (by decide)) (T.g 20 (by decide)) hr (by rfl) pe_int)
          (pa_cons (pe_made_word T.word (T.g 31 (by decide)) hr (by rfl) pe_str) (pa_cons (pe_made_at (T.at_ 30 (by decide)) (T.g 30 (by decide)) hr (by rfl) pe_str) pa_nil))))))
      (pss_one (ps_ret (pe_cmpR (op_eqD hu) (pv 4) (pe_tup (pa_cons (pe_un un_neg pe_int) (pa_cons pe_int (pa_cons pe_str (pa_cons pe_str pa_nil))))) (nomark _))))))), ?_⟩
    have le1 : 1 ≤ sizeLine := by rw [sizeLine_eq]; decide
    have le4 : 4 ≤ sizeLine := by rw [sizeLine_eq]; decide
    have le8 : 8 ≤ sizeLine := by rw [sizeLine_eq]; decide
    refine ⟨_, rfl, a, ns, 0, rfl, hS, hl, by decide, fun bx H1 c d sm nb hB1 => ?_⟩
    refine ⟨34, rfl, by decide, by decide, for_range (lo := 0) (n := 34) (fun i σ H => ∃ x2 x3 c d e, σ = [some (.ref a), some (.ref bx), x2, x3, none] ∧ Box H bx c d e ∧ e ≤ i)
      ⟨none, none, c, d, 0, rfl, hB1, by omega⟩ ?_ ?_⟩
    · rintro i σ H2 hi ⟨x2, x3, c, d, e, rfl, hBx, he⟩
      refine ⟨_, rfl, _, rfl, two_le, fun t ht => ⟨le1, fun l hl => ⟨le8, fun L hL => ?_⟩⟩⟩
      have n1 : bx ≠ t := ne_of_none hBx.1 ht
      have hb1 := (upd_ne (o := HO.tup [V.int 1, V.int 2]) n1).trans hBx.1
      have n2 : bx ≠ l := ne_of_none hb1 hl
      have hb2 := (upd_ne (o := HO.lst [V.int 3]) n2).trans hb1
      have n3 : bx ≠ L := ne_of_none hb2 hL
      have t1 : (upd H2 t (HO.tup [V.int 1, V.int 2])) t = some (HO.tup [V.int 1, V.int 2]) := upd_same
      have tl : t ≠ l := ne_of_none t1 hl
      have t2 := (upd_ne (o := HO.lst [V.int 3]) tl).trans t1
      have tL : t ≠ L := ne_of_none t2 hL
      have l2 : (upd (upd H2 t (HO.tup [V.int 1, V.int 2])) l (HO.lst [V.int 3])) l = some (HO.lst [V.int 3]) := upd_same
      have lL : l ≠ L := ne_of_none l2 hL
      refine ⟨bx, L, c, d, e, _, rfl, ⟨(upd_ne n3).trans hb2, hBx.2⟩, by omega, .inl (.inl upd_same), n3, (by show 0 < 8; decide), (by show 8 ≤ 1000000; decide), fun r x c' d' e' hx hB2 he2 => ?_⟩
      generalize hH3 : upd (upd (upd (upd H2 t (HO.tup [V.int 1, V.int 2])) l (HO.lst [V.int 3])) L _) bx (HO.lst [V.int c', V.int d', V.int e']) = H3 at hB2 ⊢
      have t3 : H3 t = some (HO.tup [V.int 1, V.int 2]) := by rw [← hH3, upd_ne n1.symm, upd_ne tL]; exact t2
      have l3 : H3 l = some (HO.lst [V.int 3]) := by rw [← hH3, upd_ne n2.symm, upd_ne lL]; exact l2
      obtain ⟨j, hj, hD⟩ : ∃ j, j < 8 ∧ Dp K H3 x (things.getD j .none) := by
        match r, hx with
        | 0, hx => cases hx; exact ⟨0, by decide, .int 0⟩
        | 1, hx => cases hx; exact ⟨1, by decide, .int (-1)⟩
        | 2, hx => cases hx; exact ⟨2, by decide, .non⟩
        | 3, hx => cases hx; exact ⟨3, by decide, .str _⟩
        | 4, hx => cases hx; exact ⟨4, by decide, .tup (.inl (.inl t3)) (.cons (.int 1) (.cons (.int 2) .nil))⟩
        | 5, hx => cases hx; exact ⟨5, by decide, .lst (.inl (.inl l3)) (.cons (.int 3) .nil)⟩
        | 6, hx => cases hx; exact ⟨6, by decide, .bl true⟩
        | 7, hx => cases hx; exact ⟨7, by decide, .int 7⟩
        | r + 8, hx => cases hx
      have args : ([.int (0 + (i : Int)), x] : List V) = [.int i, x] := by rw [Int.zero_add]
      obtain ⟨k1, k2⟩ := Shf.band (pair_ok hi hj)
      obtain ⟨k2, k3⟩ := Shf.band k2
      obtain ⟨k3, k4⟩ := Shf.band k3
      have k1' : (PyData.tuple [.int i, things.getD j .none]).shown.length ≤ sizeLine := Nat.le_trans (of_decide_eq_true k1) (by rw [sizeLine_eq]; decide)
      have k3' : (PyData.tuple [.int i, things.getD j .none]).hasDict = false := by
        cases z : (PyData.tuple [.int i, things.getD j .none]).hasDict with
        | false => rfl
        | true => rw [z] at k3; cases k3
      refine ⟨_, rfl, _, rfl, i, x, args, hi, fun _ p H4 s4 np hp => ?_, fun h => absurd h (by omega)⟩
      refine ⟨.ref p, .tuple [.int i, things.getD j .none], rfl, .tup (.inl (.inl hp)) (.cons (.int i) (.cons (dp_same s4 _ _ hD) .nil)), k2, k3', of_decide_eq_true k4, k1', ⟨p, rfl⟩, ?_⟩
      refine ⟨_, rfl, _, rfl, two_le, fun q nq => ?_⟩
      have s5 : Same H4 (upd H4 q (.tup [.int (0 + (i : Int)), x])) := fun b o z => by rw [upd_ne (ne_of_none z nq)]; exact z
      refine ⟨.ref q, .tuple [.int i, things.getD j .none], rfl, .tup (.inl (.inl upd_same)) ?_, k2, k3', of_decide_eq_true k4, k1', ⟨q, rfl⟩, rfl, _, rfl, iteNS rfl ?_⟩
      · have hD5 := dp_same s5 _ _ (dp_same s4 _ _ hD)
        rw [args] at hD5 ⊢
        exact .cons (.int i) (.cons hD5 .nil)
      · refine ⟨_, rfl, _, rfl, i, x, args, hi, fun H6 s6 => ⟨true, rfl, ?_⟩⟩
        refine iteF ⟨_, _, c', d', e', rfl, ⟨s6 _ _ (s5 _ _ (s4 _ _ hB2.1)), hB2.2⟩, by omega⟩
    · rintro σ H2 ⟨x2, x3, c, d, e, rfl, _, _⟩
      refine ⟨_, rfl, _, rfl, _, rfl, _, rfl, _, rfl, le4, fun p np => ?_⟩
      refine ⟨_, rfl, _, rfl, le4, fun q nq => ?_⟩
      have hp : (upd (upd H2 p (.tup [.int (-1), .int 3, .str "x", .str "right"])) q (.tup [.int (-1), .int 3, .str "x", .str "right"])) p = some (.tup [.int (-1), .int 3, .str "x", .str "right"]) := by
        rw [upd_ne (ne_of_none upd_same nq), upd_same]
      have ev : PyData.eqv (.tuple [.int (-1), .int 3, .str "x", .str "right"]) (.tuple [.int (-1), .int 3, .str "x", .str "right"]) = true := by decide +kernel
      refine ⟨.tuple [.int (-1), .int 3, .str "x", .str "right"], .tuple [.int (-1), .int 3, .str "x", .str "right"], .tup (.inl (.inl hp)) (.cons (.int _) (.cons (.int _) (.cons (.str _) (.cons (.str _) .nil)))),
        .tup (.inl (.inl upd_same)) (.cons (.int _) (.cons (.int _) (.cons (.str _) (.cons (.str _) .nil)))), by decide +kernel, by decide +kernel, ?_⟩
      rw [ev]
      exact hq _
end
end K00

namespace K00
open PySem PySem.Spec PyProof.Rows L2
theorem has_of {K : PySem.W.Frag} {mg : PySem.Str → Option Value} (c : Shf.SaysS facts fn K) (T : Top K mg) (i : Nat) (x : PySem.Str) (st : Stmt) (h : ownDefs[i]? = some ⟨(x, none), x, x, defArgs st, defBody st, defScope st, [], []⟩) : ∃ fd, Has K mg x st fd := by
  have hm := List.mem_of_getElem? h
  obtain ⟨fd, F⟩ := def_mem c (List.mem_append_left _ (List.mem_append_left _ (List.mem_append_left _ hm)))
  exact ⟨fd, F, T.own _ hm⟩
theorem main {P : Program} {w : World} {K : PySem.W.Frag} {h : Heap} {mg : PySem.Str → Option Value} {f : Addr} (X : K.In h) (G : h.Ns mainGlobals mg) (hfa : mg ("law" : PySem.Str) = some (.ref f)) (c : Shf.SaysS facts fn K) :
    ∃ fd : FuncData, (∀ (s : Shared) (v : Value), BindsTo s fd ⟨[v], []⟩ [("_law_script", v)]) ∧ ∀ base : Heap, K.In base → base.Ns mainGlobals mg → FnG P w K mg base (L2.CX P w) 10 f fd ["_law_script"] (spLaw K) := by
  have T := top_of X G c
  obtain ⟨f0, h0⟩ := has_of c T 0 "_law_box" s_law_box rfl
  obtain ⟨f1, h1⟩ := has_of c T 1 "_law_take" s_law_take rfl
  obtain ⟨f2, h2⟩ := has_of c T 2 "_law_pick" s_law_pick rfl
  obtain ⟨f3, h3⟩ := has_of c T 3 "_law_raise_a" s_law_raise_a rfl
  obtain ⟨f4, h4⟩ := has_of c T 4 "_law_raise_b" s_law_raise_b rfl
  obtain ⟨f5, h5⟩ := has_of c T 5 "_law_raise_c" s_law_raise_c rfl
  obtain ⟨f6, h6⟩ := has_of c T 6 "_law_raise_d" s_law_raise_d rfl
  obtain ⟨f7, h7⟩ := has_of c T 7 "_law_raise_e" s_law_raise_e rfl
  obtain ⟨f8, h8⟩ := has_of c T 8 "_law_raise" s_law_raise rfl
  obtain ⟨f9, h9⟩ := has_of c T 9 "_law_caught_a" s_law_caught_a rfl
  obtain ⟨f10, h10⟩ := has_of c T 10 "_law_caught_b" s_law_caught_b rfl
  obtain ⟨f11, h11⟩ := has_of c T 11 "_law_caught_c" s_law_caught_c rfl
  obtain ⟨f12, h12⟩ := has_of c T 12 "_law_caught_d" s_law_caught_d rfl
  obtain ⟨f13, h13⟩ := has_of c T 13 "_law_caught_e" s_law_caught_e rfl
  obtain ⟨f14, h14⟩ := has_of c T 14 "_law_is_base" s_law_is_base rfl
  obtain ⟨f15, h15⟩ := has_of c T 15 "law" slaw rfl
  have e := hfa.symm.trans h15.g
  cases e
  have b := FunD.bindsA (ps := ["_law_script"]) h15.F fun _ _ _ _ _ _ us hl => match us, hl with | [_], _ => rfl
  refine ⟨f15, fun s v => b s [v] rfl, fun base _ _ => ?_⟩
  have gR : FnOk P w K mg base (L2.CX P w) 4 _ f8 ps2 (spRaise K 0 34) := ok_law_raise T h8.F h3 h4 h5 h6 h7
  have ga := ok_law_caught_a T h9.F h8 gR
  have gb := ok_law_caught_b T h10.F h9 ga
  have gc := ok_law_caught_c T h11.F h10 gb
  have gd := ok_law_caught_d T h12.F h11 gc
  have ge := ok_law_caught_e T h13.F h12 gd
  exact ok_law T h15.F h0 h2 h13 h14 ((ok_law_box T h0.F).mono (by decide)) ((ok_law_pick T h2.F h1).mono (by decide)) ge ((ok_law_is_base T h14.F h8 gR).mono (by decide))
end K00
open PySem PySem.W PySem.Calls PyProof.Rows
theorem PySem.Challenge.cw_slowshelves_k00_whole_errors_and_what_th_holds : PySem.Challenge.rw_slowshelves_k00_whole_errors_and_what_th.Holds := by
  w_on; o_law
  refine HandSHeadRun.head_any (r := K00.R) (q := K00.qv) (H := K00.hk) (ob := K00.ob) (M := 12000) (loose := K00.names1 ++ K00.names3 ++ K00.names2) (d := HandSHeadRun.topDef K00.R.prog 52) (kwd := []) K00.ob_eq
    (by kernel_rfl) (fun s => by kernel_rfl) K00.run (by kernel_rfl) (by kernel_rfl) (by kernel_rfl) (by rfl) (by first | assumption | decide +kernel) (by decide +kernel) ⟨rfl, rfl, rfl, rfl, rfl, by decide +kernel⟩ ?hw ?hc
  case hw => w_witness2
  case hc =>
    refine L2.walk_ofG (l := PySem.Challenge.rw_slowshelves_k00_whole_errors_and_what_th) (n := 63) (k := 10) (x := "_law_script") (CX := fun w => L2.CX K00.R.prog w) rfl (by decide) (by kernel_rfl) ⟨rfl, by decide, by decide⟩ ?F ?X
    case X =>
      intro w H s e s' hx
      obtain ⟨_, _, _, _, _, _, _, _, _, _, _, _, z⟩ := hx
      exact z
    case F =>
      intro w mg fa h Y G hmg0
      obtain ⟨K, KX, c⟩ := Y
      have hmg : mg ("law" : PySem.Str) = some (.ref fa) := by
        have e : (HandSHeadRun.topDef K00.R.prog 52).name = ("law" : PySem.Str) := by kernel_rfl
        rw [← e]
        exact hmg0
      obtain ⟨fd, hb, hF⟩ := K00.main (P := (PySem.Challenge.rw_slowshelves_k00_whole_errors_and_what_th).prog) (w := w) KX G hmg c
      exact ⟨K, fd, K00.spLaw K, KX, hb, fun H a ns hl _ hS => ⟨a, ns, rfl, hS, hl, fun _ => rfl⟩, hF⟩

