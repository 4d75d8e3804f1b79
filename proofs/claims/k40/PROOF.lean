import PyProof.Rows.All
import Wide.All
import OpenK.AllK
import Wide.FinOn
import PyProof.EqAt
import PyProof.EqKinds
import PyProof.NeKinds
import KE.KIsAll
import KE.KExcIs
import KE.KTryMore
import HandS.ForMost
import HandS.ForExc
import HandS.ExcInit
import HandS.ExcField
import HandS.ExcIs
import HandS.HotCalls
import HandS.DeepEq
import HandS.Wide
import HandS.Style
import HandS.EndBits
import HandS.Codes
import PyProof.TypeEq
import HandS.Strs
import HandS.SortRule
import HandS.DictComp
import HandS.CallLocal
import KE.DataMinMax
import HandS.SortKw
import KE.GoesMore
import HandS.Iter
import HandS.Walk
import PyProof.InstEq
import HandS.SortOrd
import PyProof.TupleOfSeq
import HandS.TupSets
import HandS.ExcOwn
import KE.KEqNest
import KE.KEqDict
import HandS.More
import PySem.Challenge.RW_nextcode_k40_told_trees
set_option Elab.async false
set_option linter.all false
set_option maxRecDepth 100000
set_option maxHeartbeats 4000000
/-! Own rules over the hand layer: errors with fields (made with or without fields, several clauses with names, isinstance of a caught one, also in a def that is called while it is handled), != of lists. -/
namespace Xc
open PySem PySem.Spec PyProof.Rows L2

/-! ### 1. classes of errors -/
/-- the built-in part of the line of forebears -/
abbrev tailV : List Value := [.type "ValueError", .type "Exception", .type "BaseException", .type "object"]
/-- an own class over own classes us over ValueError, at C, as the written part has it -/
structure EC (K : PySem.W.Frag) (us : List Addr) (C : Addr) : Prop where
  cls : ∃ nm q N bs sn sub ab col dd k0 k1 k2 k3 k5, K.lookup C = some (excClassObj nm q C N bs (us.map Value.ref ++ tailV) true sn sub ab col dd k0 k1 k2 k3 k5 "ValueError.__new__")
  sa : PySem.W.findIn K (.ref C) "__setattr__" = some (some (.builtin "object.__setattr__"))
  ga : PySem.W.findIn K (.ref C) "__getattribute__" = some (some (.builtin "BaseException.__getattribute__"))
  gg : PySem.W.findIn K (.ref C) "__getattr__" = some none
  gc : PySem.W.findIn K (.ref C) "__class__" = some (some (.builtin "object.__class__"))
  ty : PySem.W.typeIn K (.ref C) = some (.type "type")
  kp : PySem.W.keepIn K (.ref C) = true

section
variable {K : PySem.W.Frag} {us : List Addr} {C : Addr}
theorem refs_tail : ∀ us : List Addr, HandSPX.refsVE (us.map Value.ref ++ tailV) = true
  | [] => by decide +kernel
  | u :: r => by
    show HandSPX.refsVE (Value.ref u :: (r.map Value.ref ++ tailV)) = true
    exact refs_tail r
theorem EC.oex (T : EC K us C) : OexC K C where
  cls := by
    obtain ⟨nm, q, N, bs, sn, sub, ab, col, dd, k0, k1, k2, k3, k5, h⟩ := T.cls
    exact ⟨nm, q, N, bs, _, sn, sub, ab, col, dd, k0, k1, k2, k3, k5, h, refs_tail us⟩
  sa := T.sa
  exC := by
    obtain ⟨nm, q, N, bs, sn, sub, ab, col, dd, k0, k1, k2, k3, k5, h⟩ := T.cls
    show PySem.W.mroIn K C _ = _
    unfold PySem.W.mroIn PySem.W.clsIn
    rw [h]
    simp [tailV]
  tyC := T.ty
  kC := T.kp
theorem EC.sub (T : EC K us C) (v : Value) : PySem.W.subIn K (.ref C) v = some ((Value.ref C :: (us.map Value.ref ++ tailV)).contains v) := by
  obtain ⟨nm, q, N, bs, sn, sub, ab, col, dd, k0, k1, k2, k3, k5, h⟩ := T.cls
  show PySem.W.mroIn K C _ = _
  unfold PySem.W.mroIn PySem.W.clsIn
  rw [h]
  rfl
theorem EC.hd (T : EC K us C) : PySem.W.hasDictIn K C = true := by
  obtain ⟨nm, q, N, bs, sn, sub, ab, col, dd, k0, k1, k2, k3, k5, h⟩ := T.cls
  unfold PySem.W.hasDictIn PySem.W.clsIn
  rw [h] <;> rfl
theorem EC.isC (T : EC K us C) : (PySem.W.clsIn K C).isSome = true := by
  obtain ⟨nm, q, N, bs, sn, sub, ab, col, dd, k0, k1, k2, k3, k5, h⟩ := T.cls
  unfold PySem.W.clsIn
  rw [h] <;> rfl
theorem EC.base (T : EC K us C) : PySem.W.subIn K (.ref C) (.type "BaseException") = some true := T.oex.exC
theorem EC.obj (T : EC K us C) : PySem.W.mroIn K C (.type "object") = some true := by
  have e := T.sub (.type "object")
  have e2 : (Value.ref C :: (us.map Value.ref ++ tailV)).contains (.type "object") = true := by simp [tailV]
  rw [e2] at e
  exact e
/-- what an except clause with the own class D says of an error of the class C -/
theorem EC.exm {vs : List Addr} {D : Addr} (T : EC K us C) (S : EC K vs D) : PySem.W.exmOne K (.ref C) (.ref D) = some (decide (D = C) || decide (D ∈ us)) := by
  have e := PySem.W.exm_ref (b := decide (D = C) || decide (D ∈ us)) S.base S.hd S.ty ?_ (cls := .ref C)
  · exact e
  · rw [T.sub]
    congr 1
    by_cases h : D = C
    · subst h
      simp
    · have h2 : ¬ (Value.ref D == Value.ref C) = true := by simpa using h
      simp [h, tailV, List.contains_iff_mem]
/-- isinstance of an error of the class C with an own class D -/
theorem EC.kit {vs : List Addr} {D : Addr} (T : EC K us C) (S : EC K vs D) : PySem.W.kitOne K (.ref C) (.ref D) = some (decide (D = C) || decide (D ∈ us)) := by
  unfold PySem.W.kitOne
  by_cases h : D = C
  · subst h
    simp
  · have h1 : ¬ (Value.ref C == Value.ref D) = true := by simpa using fun e => h e.symm
    rw [if_neg h1]
    unfold PySem.W.kitCls
    have z : ((PySem.W.clsIn K D).isSome && PySem.W.typeIn K (.ref D) == some (.type "type")) = true := by rw [S.isC, S.ty] <;> rfl
    show (if ((PySem.W.clsIn K D).isSome && PySem.W.typeIn K (.ref D) == some (.type "type")) = true then PySem.W.subIn K (.ref C) (.ref D) else none) = _
    rw [if_pos z, T.sub]
    simp [h, tailV, List.contains_iff_mem]
theorem EC.kitV (T : EC K us C) : PySem.W.kitOne K (.ref C) (.type "ValueError") = some true := by
  unfold PySem.W.kitOne
  rw [if_neg (by simp)]
  unfold PySem.W.kitCls
  show (if PySem.W.kitMeta "ValueError" = true then PySem.W.subIn K (.ref C) (.type "ValueError") else none) = _
  rw [if_pos (by decide +kernel), T.sub]
  simp [tailV]
end
/-! ### 2. isinstance of an error that is handled (pinned at a), with or without a dict of its own -/
/-- its own dict stands, if it has one -/
def HasD (H : Hp) : Option Addr → Prop
  | none => True
  | some dd => ∃ fs, H dd = some (.xd fs)
def rIsX (K : PySem.W.Frag) (a : Addr) (cls : Value) (d : Option Addr) : List V → Hp → VK → Prop := fun xs H Q => ∃ (us : List Addr) (D : Addr) (c : V) (cv : Value) (b : Bool), xs = [.ref a, c] ∧ cls = .ref D ∧ EC K us D ∧ HasD H d ∧ (∀ u, RelV c u → u = cv) ∧
  PySem.W.kitOne K (.ref D) cv = some b ∧ Q (.bl b) H
theorem call_isX {X : Cx} {a : Addr} {oe : Obj} {cls : Value} {d : Option Addr} (hn : PySem.W.specialIn X.K (.builtin "object.__class__") "__get__" = some (some (.builtin "getset_descriptor.__get__"))) (ht : PySem.W.takesIn X.K (.builtin "object.__class__") = some true)
    (hp : (a, oe) ∈ X.pn) (hz : Zc cls d oe) (hf : ∃ vs, oe.data = .fields vs) : CallR X (.builtin "isinstance") (rIsX X.K a cls d) := by
  intro pins s σ H xs ws Q I r h
  obtain ⟨us, D, c, cv, b, rfl, rfl, T, hd, hcv, e, q⟩ := h
  obtain ⟨u, u', rfl, r1, r2⟩ := vals2 r
  cases r1
  obtain rfl := hcv _ r2
  obtain ⟨hget, _⟩ := I.pin (a, oe) (List.mem_append.mpr (.inl hp))
  obtain ⟨vs, hv⟩ := hf
  have hno : PySem.W.notCls oe = true := by unfold PySem.W.notCls; rw [hv] <;> rfl
  have J : ∃ od, PySem.W.InstAt s.heap a oe D od := by
    cases d with
    | none => exact ⟨none, hget, hz.1, hno, by rw [hz.2]; trivial⟩
    | some dd =>
      obtain ⟨fs, hfs⟩ := hd
      obtain ⟨mA, ⟨o, es, ep, ho, _⟩, _⟩ := (show ObjOk X.prog X.w H s.heap dd (.xd fs) from I.hok dd _ hfs)
      exact ⟨some o, hget, hz.1, hno, by rw [hz.2]; exact ho⟩
  obtain ⟨od, J⟩ := J
  exact PySem.W.kia_one (PySem.W.kitx_exc (od := od) T.isC T.ga T.gg T.base T.gc hn ht T.obj) I.kIn J e (fun z => nomatch z) fun tk => ⟨.bl b, H, I.kept (t' := tk) fun _ _ z => z, rfl, q⟩

/-! ### 3. a def that is called while p is handled, and neither raises nor walks -/
structure FnQ (P : Program) (w : World) (K : PySem.W.Frag) (mg : Str → Option Value) (base : Heap) (k : Nat) (f : Addr) (fd : FuncData) (ps : List Str) (p : Addr × Obj) (sp : Sp) : Prop where
  len : ∀ vs H Q E, sp vs H Q E → vs.length = ps.length
  run : ∀ (A : Around) (outer : List Env) (s : Shared) (H : Hp) (args : Args) (us : List Value) (vs : List V) (Q : VK), L2H.RoomH k A → L2H.PinOk outer H s p → Env0 P w K mg base A outer s H → BindsTo s fd args (ps.zip us) → Vals vs us → sp vs H Q E0 →
    codeAny (model P w) A (.call (.ref f) args) (CR CX0 outer P w H s Q E0) s
theorem fn_ofQ {P : Program} {w : World} {K : PySem.W.Frag} {mg : Str → Option Value} {base : Heap} {k : Nat} {f : Addr} {x qual : Str} {st : Stmt} {fd : FuncData} {N ps : List Str} {p : Addr × Obj} {sp : Sp} (F : Fun K x qual st f fd) (S : FnScope N ps (defScope st))
    (len : ∀ vs H Q E, sp vs H Q E → vs.length = ps.length)
    (body : ∀ (cdv : Value) (A : Around) (outer : List Env) (s : Shared) (H : Hp) (vs : List V) (Q : VK), L2H.RoomH k (A.deeper (envOfC qual (defScope st) s.heap.objs.size f cdv)) → sp vs H Q E0 →
      ∃ t, PSs (L2H.cxH CX0 P w K mg base N qual (defScope st) f cdv A outer s H E0 p) (defBody st) t ∧ t { nx := fun _ H' => Q .non H', rt := Q } (L2.start N vs) H) :
    FnQ P w K mg base (k + 1) f fd ps p sp := by
  obtain ⟨oc, od, kV, doc, pm, an, cdv, ct, osl, rfl, lk, hcd⟩ := F.ex
  refine ⟨len, fun A outer s H args us vs Q hr hpin e0 hb r hsp => ?_⟩
  have kx : K.In s.heap := e0.mod.kin.keeps fun b o e => (e0.bs b o e).1
  have lim : s.heap.NoLimit := e0.mod.nolimit.keeps fun b o e => (e0.bs b o e).1
  have kinds : ∀ y ∈ ps.zip us, (defScope st).names.lookup y.1 = some .local ∨ ((defScope st).names.lookup y.1 = some .cell ∧ ((cellsFrom (s.heap.objs.size + 1) (defScope st).names []).lookup y.1).isSome = true) := by
    rintro ⟨n, v⟩ hy
    rcases S.par n (List.of_mem_zip hy).1 with q | q
    · exact .inl q
    · exact .inr ⟨q, PySem.W.cellsFrom_some _ _ _ (.inl q)⟩
  refine codeAny_call_function hr.depth (kx _ _ lk) rfl S.co S.gen rfl (PySem.W.codeRec_of kx hcd) (hb _ _ _ _ ?_)
  refine wpAny_newFunctionEnv_cells S.kind kinds fun env he s1 y => ?_
  subst he
  refine ⟨lim.keeps y.toInCall.keep, codeAny_func ?_⟩
  obtain ⟨t, ht, hq⟩ := body cdv A outer s H vs Q (hr.deeper _) hsp
  refine wpAny_mono (ht.run [] s1 _ H _ (L2H.inv_startH S hpin e0 (len _ _ _ _ hsp) r y) hq) (fun fl s' hs => ?_) fun _ _ hs => hs
  cases fl with
  | ret u =>
    obtain ⟨v, σ', H', J, rv, q⟩ := hs
    exact ⟨v, H', J.os, J.bare, J.base, J.hok, rv, q⟩
  | next =>
    obtain ⟨σ', H', J, q⟩ := hs
    exact ⟨.non, H', J.os, J.bare, J.base, J.hok, rfl, q⟩
  | brk =>
    obtain ⟨_, _, _, q⟩ := hs
    exact q.elim
  | cont =>
    obtain ⟨_, _, _, q⟩ := hs
    exact q.elim
/-- f(e, ..) within the suite that handles p -/
theorem pe_callQ {X : Cx} {k : Nat} {f : Addr} {fd : FuncData} {ps : List Str} {sp : Sp} {x : Str} {q pos : Pos} {e : Expr} {es : List Expr} {t : TA} {p : Addr × Obj} (F : FnQ X.prog X.w X.K X.mg X.base k f fd ps p sp) (hr : L2H.RoomH k X.A) (hp : p ∈ X.pn)
    (hg : Gl X x) (hm : X.mg x = some (.ref f)) (hk : PySem.W.keepIn X.K (.ref f) = true) (hb : Binds X.K fd ps []) (ha : PA X (e :: es) t)
    (hdb : (x == ("__debug__" : Str)) = false := by decide) (he : starEach (e :: es) X.env = (false, eval e X.env) :: starEach es X.env := by rfl) (hpl : (backTo pos (starEach es X.env)).any (·.1) = false := by rfl) :
    PE X (.Call (.Name x q) (e :: es) [] pos) (tCall sp [] E0 t) := by
  refine ⟨fun pins s σ H Q I h => ?_⟩
  refine wpAny_Call_Name_kw (ld_glob I hg hm ?_ hdb)
  refine PySem.W.callWith_K (h₀ := X.base) I.ok.mod.kin hk (thn (ha.run pos pins s σ H _ I h) fun us s1 ⟨vs, H1, I1, r, q1⟩ => ⟨I1.kIn, ?_⟩) he hpl
  have q1 : sp vs H1 Q E0 := by
    have z : sp (vs ++ []) H1 Q E0 := q1
    rwa [List.append_nil] at z
  show wpAny _ _ (call (.ref f) us) _ _ _
  have hl : (us ++ []).length = ps.length := by rw [List.append_nil, ← r.length]; exact F.len _ _ _ _ q1
  have b := hb s1 us I1.kIn hl
  rw [List.append_nil] at b
  have pk := I1.pin p (List.mem_append_left _ hp)
  have pin : L2H.PinOk X.stack H1 s1 p := ⟨pk.1, pk.2.1, fun hm => (List.mem_cons.mp (I1.stkSub p.1 hm)).elim pk.2.2.1 pk.2.2.2.1, pk.2.2.2.2⟩
  refine wpAny_call (codeAny_mono (F.run X.A X.stack s1 H1 ⟨us, []⟩ us vs Q hr pin I1.env0 b r q1) fun z s' hq => ?_)
  cases z with
  | error _ => exact hq.elim
  | ok fl =>
    cases fl with
    | ret u => exact I1.after hq
    | next => exact hq.elim
    | brk => exact hq.elim
    | cont => exact hq.elim
/-! ### 4. several clauses, each with a name or without -/
/-- one clause: the class that it names, the slot of its name, its suite -/
abbrev Cl := Value × Option Nat × (Addr → Value → Option Addr → TS)
/-- the ends of a suite whose name stands in slot i: it is empty behind the suite -/
def Wiped (i : Nat) (D : Ends) : Ends := { nx := fun σ H => D.nx (σ.set i none) H, rt := D.rt, bk := fun σ H => D.bk (σ.set i none) H, ct := fun σ H => D.ct (σ.set i none) H }
def suiteW (D : Ends) (cls : Value) (d : Option Addr) (σ : L2.St) (H : Hp) (a : Addr) : Option Nat → (Addr → Value → Option Addr → TS) → Prop
  | none, ts => ts a cls d D σ H
  | some i, ts => ts a cls d (Wiped i D) (σ.set i (some (.ref a))) H
def wCl (K : PySem.W.Frag) (out : WX) (D : Ends) : List Cl → WX
  | [] => out
  | (c, n, ts) :: r => fun cls d σ H => ∃ b, PySem.W.exmOne K cls c = some b ∧ (b = true → ∀ a, H a = none → suiteW D cls d σ H a n ts) ∧ (b = false → wCl K out D r cls d σ H)
def SuiteOk (X : Cx) (body : List Stmt) (ts : Addr → Value → Option Addr → TS) : Prop := ∀ (a : Addr) (oe : Obj) (cls : Value) (d : Option Addr) (pn : List (Addr × Obj)), Zc cls d oe → (∃ vs, oe.data = .fields vs) → PSs (X.suite a ((a, oe) :: pn)) body (ts a cls d)
inductive Clauses (X : Cx) : List ExceptHandler → List Cl → Prop
  | nil : Clauses X [] []
  | bare {x : Str} {c : Value} {ts : Addr → Value → Option Addr → TS} {b₀ : Stmt} {suite : List Stmt} {np pos : Pos} {hs : List ExceptHandler} {l : List Cl} (hc : Names X x c) (hsu : SuiteOk X (b₀ :: suite) ts) (r : Clauses X hs l) :
      Clauses X (.ExceptHandler (some (.Name x np)) none (b₀ :: suite) pos :: hs) ((c, none, ts) :: l)
  | named {x n : Str} {i : Nat} {c : Value} {ts : Addr → Value → Option Addr → TS} {b₀ : Stmt} {suite : List Stmt} {np pos : Pos} {hs : List ExceptHandler} {l : List Cl} (hc : Names X x c) (hi : X.N[i]? = some n) (hl : X.env.kindOf n = some .local) (hsu : SuiteOk X (b₀ :: suite) ts)
      (r : Clauses X hs l) : Clauses X (.ExceptHandler (some (.Name x np)) (some n) (b₀ :: suite) pos :: hs) ((c, some i, ts) :: l)
section
variable {X : Cx} {body : List Stmt} {h₀ : ExceptHandler} {hds : List ExceptHandler} {l : List Cl} {pos : Pos} {tb : WX → TS} {out : WX}
/-- an exception that has landed here goes through the clauses -/
theorem clauses_run {pins : List (Addr × Obj)} {σ : L2.St} {H : Hp} {D : Ends} {a : Addr} {B : Heap} {sI s1 : Shared} {cls : Value} {d : Option Addr} {h3 : Heap} (hs : X.stack = X.env :: X.outer) (hf : X.env.frame = some X.env.locals) (hN : X.N.Nodup) (tk : Takes X out)
    (J : Inv X pins σ H sI) (nb : ∀ b o, sI.heap.get? b = some o → b ∉ frs X.stack → B.get? b = some o) (up : sI.heap.UpToSlots h3) (na : H a = none) (os : s1.os = sI.os) (ag : AllBare s1.gens)
    (fl : HandSPX.FlyingZ B (X.env :: X.outer) a (Zc cls d) h3) : ∀ {hds : List ExceptHandler} {l : List Cl}, Clauses X hds l → wCl X.K out D l cls d σ H →
      wpAny (model X.prog X.w) X.A (handleBy (.ref a) X.env hds) (SP X pins D) X.xe { s1 with heap := h3 } := by
  have ok := J.ok
  -- a stands apart from the frames
  have apart : ∀ {h : Heap}, HandSPX.FlyingZ B (X.env :: X.outer) a (Zc cls d) h → a ∉ frs (X.env :: X.outer) := by
    intro h f hm
    obtain ⟨oe, vs, he, _, hd⟩ := f.there
    obtain ⟨_, o', e', hnf⟩ := f.2.2.1.mem hm
    rw [he] at e'
    cases e'
    exact hnf _ hd
  have nL : a ≠ X.env.locals := fun z => apart fl (List.mem_filterMap.mpr ⟨X.env, List.mem_cons_self, by rw [hf, z]⟩)
  have nF : a ∉ X.fs := fun hm => by
    obtain ⟨e, he, q⟩ := List.mem_filterMap.mp hm
    exact apart fl (List.mem_filterMap.mpr ⟨e, List.mem_cons_of_mem _ he, q⟩)
  -- the state of a suite, at any landing
  have landed : ∀ {h : Heap}, HandSPX.FlyingZ B (X.env :: X.outer) a (Zc cls d) h → sI.heap.UpToSlots h → ∃ oe, Zc cls d oe ∧ (∃ vs, oe.data = .fields vs) ∧ h.get? a = some oe ∧ Inv (X.suite a ((a, oe) :: (X.pn ++ pins))) [] σ H { s1 with heap := h } := by
    intro h f u
    obtain ⟨oe, vs, he, hz, hd⟩ := f.there
    have Jh : Inv X pins σ H { s1 with heap := h } := J.landed nb f.1 u os ag
    exact ⟨oe, hz, ⟨vs, hd⟩, he, Jh.suite he hd na nL nF⟩
  obtain ⟨oe3, hz3, hd3, he3, S3⟩ := landed fl up
  have J3 : Inv X pins σ H { s1 with heap := h3 } := J.landed nb fl.1 up os ag
  have look : PySem.W.Looks (model X.prog X.w) h3 (typeOf (.ref a)) cls := fun A Q E s k q => wpAny_typeOf_ref (k _ _ he3) (by rw [hz3.1]; exact q)
  have name : ∀ {x : Str} {c : Value} {np : Pos} {Q : Value → Shared → Prop} {E : Value → Shared → Prop}, Names X x c → Q c { s1 with heap := h3 } → wpAny (model X.prog X.w) (X.A.mark (some (.ref a))) (eval (.Name x np) X.env) Q E { s1 with heap := h3 } := by
    rintro x c np Q E ⟨hg, hdbg, hm | ⟨hm, hv, hnn⟩⟩ q
    · exact ld_glob (X := X.suite a ((a, oe3) :: (X.pn ++ pins))) S3 hg hm q hdbg
    · exact ld_blt (X := X.suite a ((a, oe3) :: (X.pn ++ pins))) S3 hg hm hv q hnn hdbg
  intro hds l hk
  induction hk with
  | nil =>
    intro w
    refine wpAny_handleBy_nil ?_
    obtain ⟨k1, k2, k3, oe, vs, T, oT, ts', he, hz, hd, h1, hr⟩ := id fl
    unfold PySem.passOn
    refine wpAny_bind (wpAny_field he hd h1 ?_)
    rw [if_neg (show ¬ ((Value.ref T == Value.none) = true) from by simp)]
    have onward : wpAny (model X.prog X.w) X.A (setFlight (.ref a) X.env.frame) (fun _ s4 => wpAny (model X.prog X.w) X.A (throw (.ref a) : Sem Flow) (SP X pins D) X.xe s4) X.xe { s1 with heap := h3 } := by
      rw [hf]
      exact HandSPX.setFlight_upZ fl fun h4 hh4 up4 => wpAny_throw (tk _ _ ⟨a, B, sI, pins, σ, H, cls, d, rfl, J, nb, up.trans up4, .inr (.inr (by rw [hs]; exact hh4)), na, os, ag, w⟩)
    first
      | exact wpAny_bind (wpAny_pure (wpAny_bind onward))
      | exact wpAny_bind onward
  | @bare x c ts b₀ suite np pos' hs' l' hc hsu r ih =>
    rintro ⟨b, hb, hyes, hno⟩
    refine wpAny_handleBy_cons (codeAny_handlers_test ?_) (by intro q; cases q)
    refine name hc ((PySem.W.exm_one (M := model X.prog X.w) J3.kIn look hb).here ?_)
    cases b with
    | false => exact ih (hno rfl)
    | true =>
      refine codeAny_handlers_suite (HandSPX.lands_againZ fl fun h4 fl4 up4 => ?_)
      obtain ⟨oe4, hz4, hd4, _, S4⟩ := landed fl4 (up.trans up4)
      have q : ts a cls d D σ H := hyes rfl a na
      refine wpAny_mono ((hsu a oe4 cls d (X.pn ++ pins) hz4 hd4).run [] _ σ H D S4 q) (fun f s6 z => ?_) (fun _ _ z => False.elim z)
      cases f with
      | next => obtain ⟨σ6, H6, S6, q6⟩ := z; exact ⟨_, _, S6.unsuite ok, q6⟩
      | brk => obtain ⟨σ6, H6, S6, q6⟩ := z; exact ⟨_, _, S6.unsuite ok, q6⟩
      | cont => obtain ⟨σ6, H6, S6, q6⟩ := z; exact ⟨_, _, S6.unsuite ok, q6⟩
      | ret u => obtain ⟨v6, σ6, H6, S6, r6, q6⟩ := z; exact ⟨_, _, _, S6.unsuite ok, r6, q6⟩
  | @named x n i c ts b₀ suite np pos' hs' l' hc hi hl hsu r ih =>
    rintro ⟨b, hb, hyes, hno⟩
    refine wpAny_handleBy_cons (codeAny_handlers_test ?_) (by intro q; cases q)
    refine name hc ((PySem.W.exm_one (M := model X.prog X.w) J3.kIn look hb).here ?_)
    cases b with
    | false => exact ih (hno rfl)
    | true =>
      refine codeAny_handlers_suite_as (HandSPX.lands_againZ fl fun h4 fl4 up4 => ?_)
      obtain ⟨oe4, hz4, hd4, _, S4⟩ := landed fl4 (up.trans up4)
      have q : ts a cls d (Wiped i D) (σ.set i (some (.ref a))) H := hyes rfl a na
      refine store_ok (X := X.suite a ((a, oe4) :: (X.pn ++ pins))) (v := .ref a) S4 hN hi (.inl hl) rfl (fun s5 S5 => ?_) (.inr hl)
      refine wpAny_mono ((hsu a oe4 cls d (X.pn ++ pins) hz4 hd4).run [] s5 _ H (Wiped i D) S5 q) (fun f s6 z => ?_) (fun _ _ z => False.elim z)
      have away : ∀ {σ6 : L2.St} {H6 : Hp} {R : Shared → Prop}, Inv (X.suite a ((a, oe4) :: (X.pn ++ pins))) [] σ6 H6 s6 → (∀ s7, Inv X pins (σ6.set i none) H6 s7 → R s7) →
          wpAny (model X.prog X.w) X.A (do bindName X.env n .none; unbindBehindTheSuite X.env n pos') (fun _ s7 => R s7) X.xe s6 := fun S6 hq => gone_ok (S6.unsuite ok) hN hi hl hq
      cases f with
      | next => obtain ⟨σ6, H6, S6, q6⟩ := z; exact away S6 fun s7 J7 => ⟨_, _, J7, q6⟩
      | brk => obtain ⟨σ6, H6, S6, q6⟩ := z; exact away S6 fun s7 J7 => ⟨_, _, J7, q6⟩
      | cont => obtain ⟨σ6, H6, S6, q6⟩ := z; exact away S6 fun s7 J7 => ⟨_, _, J7, q6⟩
      | ret u => obtain ⟨v6, σ6, H6, S6, r6, q6⟩ := z; exact away S6 fun s7 J7 => ⟨_, _, _, J7, r6, q6⟩
theorem ps_try_cl (hs : X.stack = X.env :: X.outer) (hf : X.env.frame = some X.env.locals) (hN : X.N.Nodup) (tk : Takes X out)
    (hb : ∀ (W : WX) (pn : List (Addr × Obj)) (xe : Value → Shared → Prop), Takes (X.tr pn xe) W → PassesOwn (model X.prog X.w) X.A X.env xe → PSs (X.tr pn xe) body (tb W))
    (hh : Clauses X (h₀ :: hds) l) : PS X (.Try body (h₀ :: hds) [] [] pos) (fun D σ H => tb (wCl X.K out D l) D σ H) := by
  refine ⟨fun pins s σ H D I h => ?_⟩
  have ok := I.ok
  have hfr : X.A.frames = some (X.env :: X.outer) := by rw [ok.frames, hs]
  let xe : Value → Shared → Prop := fun e s₁ => wpAny (model X.prog X.w) X.A (noteFrame e X.env) (fun _ s₂ => wpAny (model X.prog X.w) X.A (setFlight e none) (fun _ s₃ => wpAny (model X.prog X.w) X.A (handleBy e X.env (h₀ :: hds)) (SP X pins D) X.xe s₃) X.xe s₂) X.xe s₁
  have takes : Takes (X.tr (X.pn ++ pins) xe) (wCl X.K out D l) := by
    rintro u s' ⟨a, B, sI, pins', σ', H', cls, d, rfl, J', nb, up, sky, na, os, ag, w⟩
    have J : Inv X pins σ' H' sI := J'.ofTry ok
    have sky' : Sky B (X.env :: X.outer) a (Zc cls d) X.env.locals s'.heap := by rw [← hs]; exact sky
    show wpAny _ X.A (noteFrame (.ref a) X.env) _ _ _
    exact Sky.land Zc.steady hfr hf sky' fun h3 fl3 up3 => clauses_run hs hf hN tk J nb (up.trans up3) na os ag fl3 hh w
  refine wpAny_Try_except (wpAny_mono ((hb _ (X.pn ++ pins) xe takes PassesOwn.looking).run [] s σ H D (I.toTry _) h) (fun f s1 hsp => ?_) fun e s1 he => he)
  cases f with
  | next => obtain ⟨σ', H', J', q⟩ := hsp; exact wpAny_execs_nil ⟨σ', H', J'.ofTry ok, q⟩
  | brk => obtain ⟨σ', H', J', q⟩ := hsp; exact ⟨σ', H', J'.ofTry ok, q⟩
  | cont => obtain ⟨σ', H', J', q⟩ := hsp; exact ⟨σ', H', J'.ofTry ok, q⟩
  | ret u => obtain ⟨v, σ', H', J', r, q⟩ := hsp; exact ⟨v, σ', H', J'.ofTry ok, r, q⟩
end
/-! ### 5. == and != of two lists of the same items, whatever these are -/
def Flat (v : V) : Prop := flatB v = true ∨ ∃ c, v = .ref c
theorem items_same {A : Around} {s : Shared} : ∀ {xs : List V} {us ws : List Value}, (∀ v ∈ xs, Flat v) → Vals xs us → Vals xs ws → ∀ j (h1 : j < us.length) (h2 : j < ws.length), SeqAt.EqAt A s us[j] ws[j] true
  | [], _, _, _, .nil, .nil, j, h1, _ => absurd h1 (Nat.not_lt_zero j)
  | x :: xs, _, _, hf, .cons r1 t1, .cons r2 t2, j, h1, h2 => by
    cases j with
    | succ j => exact items_same (fun v hv => hf v (List.mem_cons_of_mem _ hv)) t1 t2 j (Nat.lt_of_succ_lt_succ h1) (Nat.lt_of_succ_lt_succ h2)
    | zero =>
      rcases hf x List.mem_cons_self with f | ⟨c, rfl⟩
      · exact eqAt_same r1 r2 f
      · cases r1
        cases r2
        exact SeqAt.EqAt.same _
def rNeS (K : PySem.W.Frag) : R2 := fun x y H Q => ∃ a b xs, x = .ref a ∧ y = .ref b ∧ SqL K H a xs ∧ SqL K H b xs ∧ (∀ v ∈ xs, Flat v) ∧ Q (.bl false) H
theorem op_neS {X : Cx} (hu : X.A.units + 64 < cLine) : OpR X (compareOp .NotEq) (rNeS X.K) := by
  intro pins s σ H x y v u Q I rx ry h
  obtain ⟨a, b, xs, rfl, rfl, ha, hb, hf, q⟩ := h
  cases rx
  cases ry
  obtain ⟨us, r1, p1, _⟩ := I.list ha
  obtain ⟨ws, r2, p2, _⟩ := I.list hb
  have hsz : us.toArray.size = ws.toArray.size := by rw [List.size_toArray, List.size_toArray, ← r1.length, ← r2.length]
  refine SeqAt.RcNeAt.lists (e := fun _ => true) p1.isList p2.isList hsz (show X.A.units < cLine by omega) (fun j h1 h2 => ?_) _ _ _ _ ?_
  · have k := items_same (A := X.A.in1) (s := s) hf r1 r2 j (by simpa using h1) (by simpa using h2)
    simpa using k
  · rw [show ((List.range us.toArray.size).all fun _ => true) = true from List.all_eq_true.mpr fun _ _ => rfl]
    exact ⟨.bl false, H, I, rfl, q⟩
/-! ### 6. C(): an own error whose __init__ stores nothing -/
section
variable {X : Cx} {p pos : Pos}
theorem made_bare {pins : List (Addr × Obj)} {σ : L2.St} {H1 : Hp} {Q : XK} {hp hp2 h2 : Heap} {g1 g2 : Array GenState} {d1 d2 : Drawn} {t1 t2 : Nat} {os1 os2 : OsState} {a C : Addr} (T : Raises X (.ref C)) (I1 : Inv X pins σ H1 ⟨hp, g1, d1, t1, os1⟩) (ha : hp.objs.size ≤ a)
    (k : ∀ b o, hp.get? b = some o → hp2.get? b = some o) (un : Un (frs X.stack) [] (upd H1 a (exo a C none)) (upd H1 a (exo a C none)) hp2 h2) (hok : HOk X.prog X.w (upd H1 a (exo a C none)) h2) (ho : os2 = os1) (hb : AllBare g2) (q : Q (.ref C) none H1) :
    MkP X pins σ Q (.ref a) ⟨h2, g2, d2, t2, os2⟩ := by
  have na : H1 a = none := I1.hok.fresh ha
  have ea : upd H1 a (exo a C none) a = some (exo a C none) := upd_same
  obtain ⟨t0, hoe⟩ := exo_at hok ea
  obtain ⟨G, gin, gout⟩ := restrict h2 fun b => decide (b ≠ a)
  have same : ∀ b, b ≠ a → G.get? b = h2.get? b := fun b hb => gin b (decide_eq_true hb)
  have gone : G.get? a = none := gout a (by simp)
  have old : ∀ {b : Addr} {o : Obj}, hp.get? b = some o → b ≠ a := fun z => Nat.ne_of_lt (Nat.lt_of_lt_of_le (Heap.lt_size z) ha)
  have untracked : ∀ {b : Addr}, b ≠ a → H1 b = none → upd H1 a (exo a C none) b = none := fun hb n => by rw [upd_ne hb]; exact n
  have U : Un (frs X.stack) [] H1 H1 hp G := {
    keep := fun b o z n hf hx => by rw [same b (old z)]; exact un.keep b o (k b o z) (untracked (old z) n) hf hx
    slot := fun b o z n hf hx => by rw [same b (old z)]; exact un.slot b o (k b o z) (untracked (old z) n) hf hx
    free := fun b o z n hx => n
    there := fun b o z hx => by rw [same b (old z)]; exact un.there b o (k b o z) hx
    tups := fun b xs z => z
    frzs := fun b o v z => z
    tbls := fun b ps z => ⟨#[], by rw [z]; simp⟩ }
  have hokG : HOk X.prog X.w H1 G := fun b o z => by
    have hba : b ≠ a := ne_of_none z na
    have own : ∀ {c y : Addr}, H1 c = some (.own y) → c ≠ a := fun hc => ne_of_none hc na
    refine (hok b o (by rw [upd_ne hba]; exact z)).stay (fun c v hc y => ?_) (fun c hc => ?_) (fun c xs hc => ?_)
    · have hca : c ≠ a := by
        rcases hc with hc | hc
        · rw [hc]; exact hba
        · exact at_ne ea hc exo_own
      rw [same c hca]
      exact y
    · rwa [upd_ne (at_ne ea hc exo_own)] at hc
    · rwa [upd_ne (at_ne ea hc exo_tup)] at hc
  have J : Inv X pins σ H1 ⟨G, g2, d2, t2, os2⟩ := I1.call' (ch := []) ho U hokG hb (fun b z => absurd z (by simp))
  refine ⟨a, _, _, ⟨G, g2, d2, t2, os2⟩, H1, .ref C, none, rfl, J, fun b o z => ?_, gone, hoe, ⟨rfl, rfl⟩, rfl, rfl, na, rfl, hb, T, q⟩
  by_cases hba : b = a
  · rw [hba, gone] at z
    cases z
  · exact (same b hba).symm.trans z
/-- C()'s reading: __init__ is asked at the new error, and leaves all as it was -/
def tMk0 (C : Addr) (sp : Sp) : L2.St → Hp → XK → Prop := fun _ H Q => ∀ a, H a = none → sp [.ref a] (upd H a (exo a C none)) (fun v H2 => v = .non ∧ H2 = upd H a (exo a C none) ∧ Q (.ref C) none H) (fun _ _ _ => False)
theorem pmk_bare {CX : CXT} {x : Str} {C fI : Addr} {k : Nat} {fd : FuncData} {ps : List Str} {sp : Sp} (T : OexC X.K C) (iC : PySem.W.findIn X.K (.ref C) "__init__" = some (some (.ref fI))) (tI : PySem.W.typeIn X.K (.ref fI) = some (.type "function"))
    (F1 : FnOk X.prog X.w X.K X.mg X.base CX k fI fd ps sp) (hr : Room (k + 1) X.A) (hb : Binds X.K fd ps []) (hx : Passes CX X (fun _ _ _ => False)) (hg : Gl X x) (hm : X.mg x = some (.ref C)) (hdb : (x == ("__debug__" : Str)) = false := by decide) :
    PMk X (.Call (.Name x p) [] [] pos) (tMk0 C sp) := by
  intro pins s σ H Q I h
  obtain ⟨nm, q, N, bs, bm, sn, sub, ab, col, dd, k0, k1, k2, k3, k5, hC, hbm⟩ := T.cls
  refine wpAny_Call_Name_kw (ld_glob I hg hm ?_ hdb)
  refine PySem.W.callWith_K0 I.kIn T.kC ?_
  obtain ⟨hp, g, dr, tk, os⟩ := s
  have hsz : hp.objs.size ≤ hp.objs.size + 1 := Nat.le_succ _
  have hn : H (hp.objs.size + 1) = none := I.hok.fresh hsz
  have hq := h (hp.objs.size + 1) hn
  have kk : ∀ b o, hp.get? b = some o → ((hp.push (PySem.W.kdv_tup [])).push (PySem.HandSPX.excO C hp.objs.size)).get? b = some o := fun b o e => Heap.get?_push_of_some _ (Heap.get?_push_of_some _ e)
  have hget : ((hp.push (PySem.W.kdv_tup [])).push (PySem.HandSPX.excO C hp.objs.size)).get? (hp.objs.size + 1) = some (PySem.HandSPX.excO C hp.objs.size) := by heap_get
  have I2 : Inv X pins σ (upd H (hp.objs.size + 1) (exo (hp.objs.size + 1) C none)) ⟨(hp.push (PySem.W.kdv_tup [])).push (PySem.HandSPX.excO C hp.objs.size), g, dr, tk, os⟩ :=
    I.laid (t' := tk) (a := hp.objs.size + 1) (o := exo (hp.objs.size + 1) C none) (h' := (hp.push (PySem.W.kdv_tup [])).push (PySem.HandSPX.excO C hp.objs.size)) kk hsz (exo_ok hget)
  have r2 : Vals [V.ref (hp.objs.size + 1)] [Value.ref (hp.objs.size + 1)] := .cons rfl .nil
  have hl : ([Value.ref (hp.objs.size + 1)] ++ []).length = ps.length := (F1.len _ _ _ _ hq)
  refine wpAny_call (PySem.HandSPX.call_own F.excBase_ValueError (fun Y => PySem.HandSPX.refsVE_contains Y bm hbm) (I.kIn _ _ hC) (PySem.W.looks_findIn I.kIn iC) (fun self => PySem.W.bind_fn I.kIn self tI) (Nat.zero_le _)
    (codeAny_mono (F1.run _ X.stack _ _ ⟨[Value.ref (hp.objs.size + 1)], []⟩ [Value.ref (hp.objs.size + 1)] _ _ (fun _ _ _ => False) (hr.make C [] []) (I2.env0.make C [] []) (hb _ [Value.ref (hp.objs.size + 1)] I2.kIn hl) r2 hq) fun r s' hq' => ?_))
  cases r with
  | error er => exact hx pins σ _ _ er s' I2 hq'
  | ok fl =>
    cases fl with
    | ret u =>
      obtain ⟨v, H2, os2, bare2, un2, hok2, rv, ev, eH, q2⟩ := hq'
      subst ev eH
      obtain ⟨h2, g2, d2, t2, os'⟩ := s'
      exact ⟨rv, made_bare (raises_own T.exC T.tyC) I hsz kk un2 hok2 os2 bare2 q2⟩
    | next => exact False.elim hq'
    | brk => exact False.elim hq'
    | cont => exact False.elim hq'
end
end Xc
/-! Data of Python, nested, over the tracked heap; types compared. -/
namespace Dt
open PySem PySem.Spec PyProof.Rows L2 Xc
theorem same_new {H : Hp} {p : Addr} (h : H p = none) (o : HO) : Same H (upd H p o) := fun b u q => by rw [upd_ne (ne_of_none q h)]; exact q
theorem ifT {c : Bool} {A B : Prop} (h : c = true) (a : A) : if c = true then A else B := by rw [if_pos h]; exact a
theorem ifF {c : Bool} {A B : Prop} (h : c = false) (b : B) : if c = true then A else B := by rw [if_neg (by rw [h]; exact Bool.false_ne_true)]; exact b
theorem if2 {c : Bool} {A B : Prop} (a : c = true → A) (b : c = false → B) : if c = true then A else B := by
  cases c with
  | true => exact ifT rfl (a rfl)
  | false => exact ifF rfl (b rfl)
inductive D where
  | non | bl (b : Bool) | int (i : Int) | str (s : Str) | tup (ds : List D) | lst (ds : List D) | dct
mutual
/-- v is the datum, as the heap holds it -/
def Is (H : Hp) : D → V → Prop
  | .non, v => v = .non
  | .bl b, v => v = .bl b
  | .int i, v => v = .int i
  | .str s, v => v = .str s
  | .tup ds, v => ∃ a xs, v = .ref a ∧ H a = some (.tup xs) ∧ Are H ds xs
  | .lst ds, v => ∃ a xs, v = .ref a ∧ H a = some (.lst xs) ∧ Are H ds xs
  | .dct, v => ∃ a, v = .ref a ∧ H a = some (.dK [])
def Are (H : Hp) : List D → List V → Prop
  | [], xs => xs = []
  | d :: ds, xs => ∃ x r, xs = x :: r ∧ Is H d x ∧ Are H ds r
end
mutual
theorem Is.same {H H' : Hp} (s : Same H H') : ∀ {d : D} {v : V}, Is H d v → Is H' d v
  | .non, _, h => h
  | .bl _, _, h => h
  | .int _, _, h => h
  | .str _, _, h => h
  | .tup _, _, h => by
    obtain ⟨a, xs, e, q, r⟩ := h
    exact ⟨a, xs, e, s _ _ q, Are.same s r⟩
  | .lst _, _, h => by
    obtain ⟨a, xs, e, q, r⟩ := h
    exact ⟨a, xs, e, s _ _ q, Are.same s r⟩
  | .dct, _, h => by
    obtain ⟨a, e, q⟩ := h
    exact ⟨a, e, s _ _ q⟩
theorem Are.same {H H' : Hp} (s : Same H H') : ∀ {ds : List D} {xs : List V}, Are H ds xs → Are H' ds xs
  | [], _, h => h
  | _ :: _, _, h => by
    obtain ⟨x, r, e, q, t⟩ := h
    exact ⟨x, r, e, Is.same s q, Are.same s t⟩
end
theorem Are.len {H : Hp} : ∀ {ds : List D} {xs : List V}, Are H ds xs → xs.length = ds.length
  | [], _, h => by rw [show _ = [] from h]; rfl
  | _ :: ds, _, h => by
    obtain ⟨x, r, rfl, _, t⟩ := h
    rw [List.length_cons, List.length_cons, Are.len t]
theorem Are.at {H : Hp} : ∀ {ds : List D} {xs : List V} {i : Nat} {d : D}, Are H ds xs → ds[i]? = some d → ∃ x, xs[i]? = some x ∧ Is H d x
  | [], _, _, _, _, e => by cases e
  | _ :: _, _, 0, _, h, e => by
    obtain ⟨x, r, rfl, q, _⟩ := h
    cases e
    exact ⟨x, rfl, q⟩
  | _ :: tl, _, i + 1, d, h, e => by
    obtain ⟨x, r, rfl, _, t⟩ := h
    have e' : tl[i]? = some d := e
    exact Are.at (xs := r) t e'
theorem Are.append {H : Hp} : ∀ {ds es : List D} {xs ys : List V}, Are H ds xs → Are H es ys → Are H (ds ++ es) (xs ++ ys)
  | [], _, _, _, h, k => by rw [show _ = [] from h]; exact k
  | _ :: _, _, _, _, h, k => by
    obtain ⟨x, r, rfl, q, t⟩ := h
    exact ⟨x, r ++ _, rfl, q, Are.append t k⟩
theorem are1 {H : Hp} {d : D} {x : V} (h : Is H d x) : Are H [d] [x] := ⟨x, [], rfl, h, rfl⟩
theorem are2 {H : Hp} {d e : D} {x y : V} (h : Is H d x) (k : Is H e y) : Are H [d, e] [x, y] := ⟨x, [y], rfl, h, are1 k⟩
theorem are3 {H : Hp} {d e f : D} {x y z : V} (h : Is H d x) (k : Is H e y) (l : Is H f z) : Are H [d, e, f] [x, y, z] := ⟨x, [y, z], rfl, h, are2 k l⟩
/-- its type's name -/
def D.ty : D → String
  | .non => "NoneType" | .bl _ => "bool" | .int _ => "int" | .str _ => "str" | .tup _ => "tuple" | .lst _ => "list" | .dct => "dict"
theorem Is.ty {K : PySem.W.Frag} {H : Hp} : ∀ {d : D} {v : V}, Is H d v → TyB K H v d.ty
  | .non, _, h => by cases (show _ = V.non from h); exact .non
  | .bl b, _, h => by cases (show _ = V.bl b from h); exact .bl b
  | .int i, _, h => by cases (show _ = V.int i from h); exact .int i
  | .str s, _, h => by cases (show _ = V.str s from h); exact .str s
  | .tup _, _, h => by obtain ⟨a, xs, rfl, q, _⟩ := h; exact .tup (SqT.of q)
  | .lst _, _, h => by obtain ⟨a, xs, rfl, q, _⟩ := h; exact .lst (SqL.of q)
  | .dct, _, h => by obtain ⟨a, rfl, q⟩ := h; exact .dK q
theorem Is.non {H : Hp} : ∀ {d : D} {v : V}, Is H d v → (decide (v = V.non) = true ↔ d = D.non)
  | .non, _, h => by cases (show _ = V.non from h); simp
  | .bl b, _, h => by cases (show _ = V.bl b from h); simp
  | .int i, _, h => by cases (show _ = V.int i from h); simp
  | .str s, _, h => by cases (show _ = V.str s from h); simp
  | .tup _, _, h => by obtain ⟨a, xs, rfl, q, _⟩ := h; simp
  | .lst _, _, h => by obtain ⟨a, xs, rfl, q, _⟩ := h; simp
  | .dct, _, h => by obtain ⟨a, rfl, q⟩ := h; simp
section
variable {X : Cx}
/-- x == y, two types of these -/
def rEqTy : R2 := fun x y H Q => ∃ a b, x = .ty a ∧ y = .ty b ∧ (a ∈ ["NoneType", "bool", "int", "str", "tuple", "list", "dict"]) ∧ (b ∈ ["NoneType", "bool", "int", "str", "tuple", "list", "dict"]) ∧ Q (.bl (decide (a = b))) H
theorem meta_of {a : String} (h : a ∈ ["NoneType", "bool", "int", "str", "tuple", "list", "dict"]) (s : Shared) : s.TypeIs (.type a) "type" := by
  simp only [List.mem_cons, List.not_mem_nil, or_false] at h
  rcases h with rfl | rfl | rfl | rfl | rfl | rfl | rfl
  · exact TypeEq.meta_NoneType s
  · exact TypeEq.meta_bool s
  · exact TypeEq.meta_int s
  · exact TypeEq.meta_str s
  · exact TypeEq.meta_tuple s
  · exact TypeEq.meta_list s
  · exact TypeEq.meta_dict s
theorem op_eqTy : OpR X (compareOp .Eq) rEqTy := by
  intro pins s σ H x y v u Q I rx ry h
  obtain ⟨a, b, rfl, rfl, ha, hb, q⟩ := h
  cases (show v = Value.type a from rx)
  cases (show u = Value.type b from ry)
  by_cases e : a = b
  · subst e
    exact TypeEq.eq_type_same (meta_of ha) ⟨.bl true, H, I, rfl, by simpa using q⟩
  · exact TypeEq.eq_type_other (meta_of ha) (meta_of hb) (by simpa using e) ⟨.bl false, H, I, rfl, by simpa [e] using q⟩
theorem D.ty_in (d : D) : d.ty ∈ ["NoneType", "bool", "int", "str", "tuple", "list", "dict"] := by cases d <;> simp [D.ty]
end
/-- a while whose measure is told beside -/
theorem while_w {c : TT} {tb : TS} {E : Ends} {σ : L2.St} {H : Hp} (W : Nat → L2.St → Hp → Prop) {m : Nat} (h0 : W m σ H)
    (hs : ∀ m σ H, W m σ H → c σ H fun b H1 => if b = true then tb { E with nx := fun σ' H' => ∃ m', m' < m ∧ W m' σ' H', ct := fun σ' H' => ∃ m', m' < m ∧ W m' σ' H', bk := E.nx } σ H1 else E.nx σ H1)
    (mono : ∀ σ H Q Q', (∀ b H1, Q b H1 → Q' b H1) → c σ H Q → c σ H Q') : tWhile c tb E σ H := by
  refine ⟨W, ⟨m, h0⟩, fun m σ H w => mono σ H _ _ (fun b H1 q => ?_) (hs m σ H w)⟩
  cases b with
  | true => exact ⟨_, fun σ' H' n => n, q⟩
  | false => exact q
end Dt
namespace K40
open PySem PySem.Spec PyProof.Rows L2 Xc Dt
def top (i : Nat) : Stmt := PySem.Challenge.pw_nextcode_k40_told_trees.main.body.getD i (.Pass ⟨0, 0, 0, 0⟩)
/-! ### what is asked of a datum -/
def D.isI : D → Bool
  | .int _ => true
  | _ => false
/-- the key and the mark of an item -/
def D.item : D → Option (Int × Int)
  | .tup [a, b] => match a, b with
    | .int k, .int m => some (k, m)
    | _, _ => none
  | _ => none
/-- left, item, right of what may be a node -/
def D.node : D → Option (D × (Int × Int) × D)
  | .tup [l, i, r] => (D.item i).map fun p => (l, p, r)
  | _ => none
theorem D.item_some {d : D} {k m : Int} (h : D.item d = some (k, m)) : d = .tup [.int k, .int m] := by
  unfold D.item at h
  split at h
  · split at h
    · cases h
      rfl
    · cases h
  · cases h
theorem D.node_some {d l r : D} {k m : Int} (h : D.node d = some (l, (k, m), r)) : d = .tup [l, .tup [.int k, .int m], r] := by
  unfold D.node at h
  split at h
  · rename_i l' i' r'
    cases e : D.item i' with
    | none => rw [e] at h; cases h
    | some p =>
      rw [e] at h
      cases h
      rw [D.item_some e]
  · cases h
/-- the built-in names -/
structure Nm (mg : Str → Option Value) : Prop where
  type : mg "type" = none
  int : mg "int" = none
  tuple : mg "tuple" = none
  list : mg "list" = none
  len : mg "len" = none
  set : mg "set" = none
section
variable {P : Program} {w : World} {K : PySem.W.Frag} {mg : Str → Option Value} {base : Heap} {f : Addr} {fd : FuncData}
/-- a def that answers a question about one datum -/
def spAsk (p : D → Bool) : Sp := fun vs H Q _ => ∃ (d : D) (v : V), vs = [v] ∧ Is H d v ∧ Q (.bl (p d)) H
theorem sc4 : FnScope ["value"] ["value"] (defScope (top 4)) := ⟨rfl, rfl, rfl, by decide +kernel, rfl, by decide +kernel, by decide +kernel⟩
theorem ok_isInt (F : Fun K "is_integer" "is_integer" (top 4) f fd) (N : Nm mg) : FnOk P w K mg base CX0 1 f fd ["value"] (spAsk D.isI) := by
  refine F.ok sc4 (fun vs H Q E h => ?_) (fun cdv A outer s H vs Q E hr h => ?_)
  · obtain ⟨d, v, rfl, _⟩ := h
    rfl
  obtain ⟨d, v, rfl, hd, q⟩ := h
  refine ⟨_, pss_one (ps_ret (pe_cmpR op_eqTy (pe_callTy call_type1 (by rfl) N.type (by decide +kernel) (pa_cons (pv 0) pa_nil)) (pe_bltn (v := .ty "int") (by rfl) N.int (by decide +kernel) rfl) (nomark _))), ?_⟩
  refine ⟨_, rfl, _, _, rfl, hd.ty, _, _, rfl, rfl, d.ty_in, by decide, ?_⟩
  have e : decide (d.ty = "int") = D.isI d := by cases d <;> rfl
  rw [e]
  exact q
theorem sc5 : FnScope ["value"] ["value"] (defScope (top 5)) := ⟨rfl, rfl, rfl, by decide +kernel, rfl, by decide +kernel, by decide +kernel⟩
theorem ok_isItem {g : Addr} {gd : FuncData} (F : Fun K "is_item" "is_item" (top 5) f fd) (N : Nm mg) (G : FnOk P w K mg base CX0 1 g gd ["value"] (spAsk D.isI)) (bG : Binds K gd ["value"] []) (kG : PySem.W.keepIn K (.ref g) = true) (mG : mg "is_integer" = some (.ref g)) :
    FnOk P w K mg base CX0 2 f fd ["value"] (spAsk fun d => (D.item d).isSome) := by
  refine F.ok sc5 (fun vs H Q E h => ?_) (fun cdv A outer s H vs Q E hr h => ?_)
  · obtain ⟨d, v, rfl, _⟩ := h
    rfl
  obtain ⟨d, v, rfl, hd, q⟩ := h
  refine ⟨_, pss_one (ps_ret (pe_and (pe_cmpR op_eqTy (pe_callTy call_type1 (by rfl) N.type (by decide +kernel) (pa_cons (pv 0) pa_nil)) (pe_bltn (v := .ty "tuple") (by rfl) N.tuple (by decide +kernel) rfl) (nomark _))
    (pe_and (pe_cmpR op_eq (pe_callB call_len_seq (by rfl) N.len PySem.boot_len (pa_cons (pv 0) pa_nil)) pe_int (nomark _))
    (pe_and (pe_call G hr rfl mG kG bG .nil pass0 (pa_cons (pe_ix ix_tup (pv 0) pe_int (fun _ _ => rfl)) pa_nil)) (pe_one (pe_call G hr rfl mG kG bG .nil pass0 (pa_cons (pe_ix ix_tup (pv 0) pe_int (fun _ _ => rfl)) pa_nil))))))), ?_⟩
  refine ⟨_, rfl, _, _, rfl, hd.ty, _, _, rfl, rfl, d.ty_in, by decide, _, rfl, ?_⟩
  cases d with
  | tup ds =>
    obtain ⟨a, xs, rfl, e, r⟩ := hd
    refine ifT rfl ?_
    refine ⟨_, rfl, a, xs, rfl, .inr (SqT.of e), rfl, _, rfl, ?_⟩
    have el := r.len
    refine if2 (fun c => ?_) (fun c => ?_)
    · have c2 : xs.length = 2 := by
        have z : V.int ((xs.length : Nat) : Int) = V.int 2 := of_decide_eq_true c
        have := V.int.inj z
        omega
      rw [el] at c2
      obtain ⟨d0, d1, rfl⟩ : ∃ d0 d1, ds = [d0, d1] := by
        match ds, c2 with
        | [d0, d1], _ => exact ⟨d0, d1, rfl⟩
      obtain ⟨x0, r0, rfl, i0, x1, r1, rfl, i1, hn⟩ := r
      cases (show r1 = [] from hn)
      refine ⟨_, rfl, a, _, _, _, rfl, rfl, SqT.of e, atI_nat (j := 0) rfl, d0, x0, rfl, i0, _, rfl, ?_⟩
      refine if2 (fun c0 => ?_) (fun c0 => ?_)
      · refine ⟨_, rfl, a, _, _, _, rfl, rfl, SqT.of e, atI_nat (j := 1) rfl, d1, x1, rfl, i1, ?_⟩
        have e2 : (D.item (.tup [d0, d1])).isSome = D.isI d1 := by
          cases d0 <;> first | (cases c0; done) | (cases d1 <;> rfl)
        rw [← e2]
        exact q
      · have e2 : (D.item (.tup [d0, d1])).isSome = false := by
          cases d0 <;> first | (cases c0; done) | rfl
        rw [← e2]
        exact q
    · have c2 : ¬ xs.length = 2 := fun z => by
        rw [z] at c
        exact absurd c (by decide)
      have e2 : (D.item (.tup ds)).isSome = false := by
        match ds, el with
        | [], _ => rfl
        | [_], _ => rfl
        | [x, y], el => exact absurd el c2
        | _ :: _ :: _ :: _, _ => rfl
      rw [← e2]
      exact q
  | _ => exact ifF rfl q
theorem sc6 : FnScope ["value"] ["value"] (defScope (top 6)) := ⟨rfl, rfl, rfl, by decide +kernel, rfl, by decide +kernel, by decide +kernel⟩
theorem ok_isNode {g : Addr} {gd : FuncData} (F : Fun K "is_node" "is_node" (top 6) f fd) (N : Nm mg) (G : FnOk P w K mg base CX0 2 g gd ["value"] (spAsk fun d => (D.item d).isSome)) (bG : Binds K gd ["value"] []) (kG : PySem.W.keepIn K (.ref g) = true) (mG : mg "is_item" = some (.ref g)) :
    FnOk P w K mg base CX0 3 f fd ["value"] (spAsk fun d => (D.node d).isSome) := by
  refine F.ok sc6 (fun vs H Q E h => ?_) (fun cdv A outer s H vs Q E hr h => ?_)
  · obtain ⟨d, v, rfl, _⟩ := h
    rfl
  obtain ⟨d, v, rfl, hd, q⟩ := h
  refine ⟨_, pss_one (ps_ret (pe_and (pe_cmpR op_eqTy (pe_callTy call_type1 (by rfl) N.type (by decide +kernel) (pa_cons (pv 0) pa_nil)) (pe_bltn (v := .ty "tuple") (by rfl) N.tuple (by decide +kernel) rfl) (nomark _))
    (pe_and (pe_cmpR op_eq (pe_callB call_len_seq (by rfl) N.len PySem.boot_len (pa_cons (pv 0) pa_nil)) pe_int (nomark _))
    (pe_one (pe_call G hr rfl mG kG bG .nil pass0 (pa_cons (pe_ix ix_tup (pv 0) pe_int (fun _ _ => rfl)) pa_nil)))))), ?_⟩
  refine ⟨_, rfl, _, _, rfl, hd.ty, _, _, rfl, rfl, d.ty_in, by decide, _, rfl, ?_⟩
  cases d with
  | tup ds =>
    obtain ⟨a, xs, rfl, e, r⟩ := hd
    refine ifT rfl ?_
    refine ⟨_, rfl, a, xs, rfl, .inr (SqT.of e), rfl, _, rfl, ?_⟩
    have el := r.len
    refine if2 (fun c => ?_) (fun c => ?_)
    · have c2 : xs.length = 3 := by
        have z : V.int ((xs.length : Nat) : Int) = V.int 3 := of_decide_eq_true c
        have := V.int.inj z
        omega
      rw [el] at c2
      obtain ⟨d0, d1, d2, rfl⟩ : ∃ d0 d1 d2, ds = [d0, d1, d2] := by
        match ds, c2 with
        | [d0, d1, d2], _ => exact ⟨d0, d1, d2, rfl⟩
      obtain ⟨x0, r0, rfl, i0, x1, r1, rfl, i1, x2, r2, rfl, i2, hn⟩ := r
      refine ⟨_, rfl, a, _, _, _, rfl, rfl, SqT.of e, atI_nat (j := 1) rfl, d1, x1, rfl, i1, ?_⟩
      have e2 : (D.node (.tup [d0, d1, d2])).isSome = (D.item d1).isSome := by
        show ((D.item d1).map _).isSome = _
        cases D.item d1 <;> rfl
      have q2 : Q (.bl (D.node (.tup [d0, d1, d2])).isSome) H := q
      rw [e2] at q2
      exact q2
    · have c2 : ¬ xs.length = 3 := fun z => by
        rw [z] at c
        exact absurd c (by decide)
      have e2 : (D.node (.tup ds)).isSome = false := by
        match ds, el with
        | [], _ => rfl
        | [_], _ => rfl
        | [_, _], _ => rfl
        | [x, y, z], el => exact absurd el c2
        | _ :: _ :: _ :: _ :: _, _ => rfl
      rw [← e2]
      exact q
  | _ => exact ifF rfl q
/-! ### lies_between -/
def vO : Option Int → V
  | none => .non
  | some i => .int i
def loOk (k : Int) : Option Int → Bool
  | none => true
  | some l => decide (l < k)
def hiOk (k : Int) : Option Int → Bool
  | none => true
  | some h => decide (k < h)
def spBtw : Sp := fun vs H Q _ => ∃ (k : Int) (lo hi : Option Int), vs = [.int k, vO lo, vO hi] ∧ Q (.bl (loOk k lo && hiOk k hi)) H
theorem sc7 : FnScope ["key", "low", "high"] ["key", "low", "high"] (defScope (top 7)) := ⟨rfl, rfl, rfl, by decide +kernel, rfl, by decide +kernel, by decide +kernel⟩
theorem ok_btw (F : Fun K "lies_between" "lies_between" (top 7) f fd) : FnOk P w K mg base CX0 1 f fd ["key", "low", "high"] spBtw := by
  refine F.ok sc7 (fun vs H Q E h => ?_) (fun cdv A outer s H vs Q E hr h => ?_)
  · obtain ⟨k, lo, hi, rfl, _⟩ := h
    rfl
  obtain ⟨k, lo, hi, rfl, q⟩ := h
  refine ⟨_, pss_one (ps_ret (pe_and (pe_or (pe_cmpR op_isN (pv 1) pe_non (nomark _)) (pe_one (pe_cmpR op_lt (pv 1) (pv 0) (nomark _)))) (pe_one (pe_or (pe_cmpR op_isN (pv 2) pe_non (nomark _)) (pe_one (pe_cmpR op_lt (pv 0) (pv 2) (nomark _))))))), ?_⟩
  -- the second half
  have snd : ∀ {Q2 : VK}, (hiOk k hi = true → Q2 (.bl true) H) → (hiOk k hi = false → Q2 (.bl false) H) → tOrV (tOp (fun x y H Q => y = V.non ∧ Q (.bl (decide (x = .non))) H) (tVar 2) (tC .non)) (tOp (rI0 fun i j => .bl (decide (i < j))) (tVar 0) (tVar 2)) (L2.start ["key", "low", "high"] [.int k, vO lo, vO hi]) H Q2 := by
    intro Q2 h1 h0
    cases hi with
    | none => exact ⟨_, rfl, rfl, _, rfl, ifT rfl (h1 rfl)⟩
    | some h =>
      refine ⟨_, rfl, rfl, _, rfl, ifF rfl ⟨_, rfl, _, rfl, _, _, rfl, rfl, ?_⟩⟩
      show Q2 (.bl (decide (k < h))) H
      by_cases c : k < h
      · rw [decide_eq_true c]
        exact h1 (decide_eq_true c)
      · rw [decide_eq_false c]
        exact h0 (decide_eq_false c)
  cases lo with
  | none =>
    refine ⟨_, rfl, rfl, _, rfl, ifT rfl ⟨_, rfl, ifT rfl ?_⟩⟩
    exact snd (fun e => by rw [e] at q; exact q) (fun e => by rw [e] at q; exact q)
  | some l =>
    refine ⟨_, rfl, rfl, _, rfl, ifF rfl ⟨_, rfl, _, rfl, _, _, rfl, rfl, _, rfl, ?_⟩⟩
    by_cases c : l < k
    · rw [decide_eq_true c]
      refine ifT rfl ?_
      have e1 : loOk k (some l) = true := decide_eq_true c
      rw [e1] at q
      exact snd (fun e => by rw [e] at q; exact q) (fun e => by rw [e] at q; exact q)
    · rw [decide_eq_false c]
      refine ifF rfl ?_
      have e1 : loOk k (some l) = false := decide_eq_false c
      rw [e1] at q
      exact q
end
end K40
namespace K40
open PySem PySem.Spec PyProof.Rows L2 Xc Dt
/-! ### told trees -/
/-- shape, items, and keys between bounds -/
def D.ok : D → Option Int → Option Int → Bool
  | .non, _, _ => true
  | .tup [l, i, r], lo, hi => match D.item i with
    | some (k, _) => (loOk k lo && hiOk k hi) && (D.ok l lo (some k) && D.ok r (some k) hi)
    | none => false
  | _, _, _ => false
def D.marks : D → List Int
  | .tup [l, i, r] => match D.item i with
    | some (_, m) => m :: (D.marks l ++ D.marks r)
    | none => []
  | _ => []
/-- how many parts are looked at, at most -/
def D.wt : D → Nat
  | .tup [l, _, r] => 1 + D.wt l + D.wt r
  | _ => 1
theorem D.wt_pos (d : D) : 1 ≤ D.wt d := by
  unfold D.wt
  split <;> omega
def Valid (d : D) : Prop := D.ok d none none = true ∧ (D.marks d).Nodup
theorem D.ok_not {p : D} (h : D.node p = none) (n : p ≠ .non) (lo hi : Option Int) : D.ok p lo hi = false := by
  match p, h, n with
  | .non, _, n => exact absurd rfl n
  | .tup [l, i, r], h, _ =>
    have e : D.item i = none := by
      cases e : D.item i with
      | none => rfl
      | some z =>
        have z2 : D.node (.tup [l, i, r]) = (D.item i).map fun p => (l, p, r) := rfl
        rw [z2, e] at h
        cases h
    rw [D.ok, e]
  | .tup [], _, _ => rw [D.ok] <;> intros <;> simp_all
  | .tup [_], _, _ => rw [D.ok] <;> intros <;> simp_all
  | .tup [_, _], _, _ => rw [D.ok] <;> intros <;> simp_all
  | .tup (_ :: _ :: _ :: _ :: _), _, _ => rw [D.ok] <;> intros <;> simp_all
  | .bl _, _, _ => rw [D.ok] <;> intros <;> simp_all
  | .int _, _, _ => rw [D.ok] <;> intros <;> simp_all
  | .str _, _, _ => rw [D.ok] <;> intros <;> simp_all
  | .lst _, _, _ => rw [D.ok] <;> intros <;> simp_all
  | .dct, _, _ => rw [D.ok] <;> intros <;> simp_all
abbrev E3 := D × Option Int × Option Int
/-- what a loop's list of parts still owes -/
def Owes (st : List E3) (seen : List Int) : Prop := (∀ e ∈ st, D.ok e.1 e.2.1 e.2.2 = true) ∧ (seen ++ st.flatMap fun e => D.marks e.1).Nodup
def stW (st : List E3) : Nat := (st.map fun e => D.wt e.1).sum
theorem stW_snoc (st : List E3) (e : E3) : stW (st ++ [e]) = stW st + D.wt e.1 := by simp [stW]
theorem stW_len : ∀ st : List E3, st.length ≤ stW st
  | [] => Nat.zero_le _
  | e :: r => by
    have h := stW_len r
    have h2 := D.wt_pos e.1
    show r.length + 1 ≤ D.wt e.1 + stW r
    omega
theorem owes_non {st : List E3} {lo hi : Option Int} {seen : List Int} : Owes (st ++ [(.non, lo, hi)]) seen ↔ Owes st seen := by
  constructor
  · rintro ⟨h1, h2⟩
    exact ⟨fun e he => h1 e (List.mem_append_left _ he), by simpa [D.marks] using h2⟩
  · rintro ⟨h1, h2⟩
    refine ⟨fun e he => ?_, by simpa [D.marks] using h2⟩
    rcases List.mem_append.mp he with z | z
    · exact h1 e z
    · rw [List.mem_singleton] at z
      subst z
      show D.ok .non lo hi = true
      rw [D.ok]
theorem owes_not {st : List E3} {p : D} {lo hi : Option Int} {seen : List Int} (h : D.ok p lo hi = false) : ¬ Owes (st ++ [(p, lo, hi)]) seen := fun x => by
  have := x.1 (p, lo, hi) (by simp)
  rw [h] at this
  cases this
theorem owes_mark {st : List E3} {l r : D} {k m : Int} {lo hi : Option Int} {seen : List Int} (h : m ∈ seen) : ¬ Owes (st ++ [(.tup [l, .tup [.int k, .int m], r], lo, hi)]) seen := fun x => by
  have y := x.2
  rw [List.nodup_append] at y
  exact y.2.2 m h m (by simp [D.marks, D.item]) rfl
theorem owes_node {st : List E3} {l r : D} {k m : Int} {lo hi : Option Int} {seen : List Int} (h : (loOk k lo && hiOk k hi) = true) :
    Owes (st ++ [(.tup [l, .tup [.int k, .int m], r], lo, hi)]) seen ↔ Owes (st ++ [(l, lo, some k), (r, some k, hi)]) (m :: seen) := by
  unfold Owes
  have e : D.ok (.tup [l, .tup [.int k, .int m], r]) lo hi = (D.ok l lo (some k) && D.ok r (some k) hi) := by
    rw [D.ok]
    show ((loOk k lo && hiOk k hi) && _) = _
    rw [h, Bool.true_and]
  have e2 : D.marks (.tup [l, .tup [.int k, .int m], r]) = m :: (D.marks l ++ D.marks r) := by
    rw [D.marks]
    rfl
  constructor
  · rintro ⟨h1, h2⟩
    refine ⟨fun e' he => ?_, ?_⟩
    · have hx := h1 (.tup [l, .tup [.int k, .int m], r], lo, hi) (by simp)
      rw [e, Bool.and_eq_true] at hx
      rcases List.mem_append.mp he with z | z
      · exact h1 e' (List.mem_append_left _ z)
      · simp only [List.mem_cons, List.not_mem_nil, or_false] at z
        rcases z with rfl | rfl
        · exact hx.1
        · exact hx.2
    · simp only [List.flatMap_append, List.flatMap_cons, List.flatMap_nil, List.append_nil] at h2 ⊢
      rw [e2] at h2
      refine (List.Perm.nodup_iff ?_).mp h2
      rw [← List.append_assoc, List.cons_append, ← List.append_assoc]
      exact List.perm_middle
  · rintro ⟨h1, h2⟩
    refine ⟨fun e' he => ?_, ?_⟩
    · rcases List.mem_append.mp he with z | z
      · exact h1 e' (List.mem_append_left _ z)
      · rw [List.mem_singleton] at z
        subst z
        rw [e, Bool.and_eq_true]
        exact ⟨h1 (l, lo, some k) (by simp), h1 (r, some k, hi) (by simp)⟩
    · simp only [List.flatMap_append, List.flatMap_cons, List.flatMap_nil, List.append_nil] at h2 ⊢
      rw [e2]
      refine (List.Perm.nodup_iff ?_).mpr h2
      rw [← List.append_assoc, List.cons_append, ← List.append_assoc]
      exact List.perm_middle
theorem owes_nil {seen : List Int} (h : seen.Nodup) : Owes [] seen := ⟨fun _ h => (by cases h), by simpa using h⟩
theorem owes_all (d : D) : Owes [(d, none, none)] [] ↔ Valid d := by
  unfold Owes Valid
  simp
theorem owes_seen {st : List E3} {seen : List Int} (h : Owes st seen) : seen.Nodup := (List.nodup_append.mp h.2).1
/-- an entry of the list of parts, as the heap holds it: the part as it stood in H -/
def Ent (H H' : Hp) (e : E3) (v : V) : Prop := ∃ a x, v = .ref a ∧ H' a = some (.tup [x, vO e.2.1, vO e.2.2]) ∧ Is H e.1 x
/-- the tuples stay -/
def Tups (H H' : Hp) : Prop := ∀ a xs, H a = some (.tup xs) → H' a = some (.tup xs)
theorem Tups.of {H H' : Hp} (s : Same H H') : Tups H H' := fun a xs h => s _ _ h
theorem Tups.trans {H H1 H2 : Hp} (s : Tups H H1) (t : Tups H1 H2) : Tups H H2 := fun a xs h => t _ _ (s _ _ h)
theorem tups_upd {H : Hp} {p : Addr} {o u : HO} (h : H p = some o) (n : ∀ xs, o ≠ .tup xs) : Tups H (upd H p u) := fun a xs e => by
  rw [upd_ne (ne_of e h fun z => n xs z.symm)]
  exact e
theorem ents_tups {H H1 H2 : Hp} {st : List E3} {xs : List V} (h : Paired (Ent H H1) st xs) (t : Tups H1 H2) : Paired (Ent H H2) st xs := Paired.mapP h fun e v k => by
  obtain ⟨a, x, rfl, q, i⟩ := k
  exact ⟨a, x, rfl, t _ _ q, i⟩
theorem paired_snoc {α β : Type} {R : α → β → Prop} : ∀ {l : List α} {e : α} {xs : List β}, Paired R (l ++ [e]) xs → ∃ ys y, xs = ys ++ [y] ∧ Paired R l ys ∧ R e y
  | [], e, xs, h => by
    cases h with
    | cons r t =>
      cases t
      exact ⟨[], _, rfl, .nil, r⟩
  | a :: l, e, xs, h => by
    cases h with
    | @cons _ b _ bs r t =>
      obtain ⟨ys, y, rfl, p, q⟩ := paired_snoc t
      exact ⟨b :: ys, y, rfl, .cons r p, q⟩
theorem paired_app {α β : Type} {R : α → β → Prop} : ∀ {l m : List α} {xs ys : List β}, Paired R l xs → Paired R m ys → Paired R (l ++ m) (xs ++ ys)
  | _, _, _, _, .nil, k => k
  | _, _, _, _, .cons r t, k => .cons r (paired_app t k)
theorem paired_nil {α β : Type} {R : α → β → Prop} {xs : List β} (h : Paired R ([] : List α) xs) : xs = [] := by
  cases h
  rfl
theorem small1000' {n : Nat} (h : n ≤ 4000) : n < sizeLine := by rw [sizeLine_eq]; omega
/-! ### is_told -/
section
variable {P : Program} {w : World} {K : PySem.W.Frag} {mg : Str → Option Value} {base : Heap} {f : Addr} {fd : FuncData}
def spTold : Sp := fun vs H Q _ => ∃ (d : D) (v : V), vs = [v] ∧ Is H d v ∧ D.wt d ≤ 3000 ∧ ∀ (b : Bool) (H' : Hp), (b = true ↔ Valid d) → Same H H' → Q (.bl b) H'
theorem sc8 : FnScope ["value", "marks", "waiting", "part", "low", "high", "key", "mark"] ["value"] (defScope (top 8)) := ⟨rfl, rfl, rfl, by decide +kernel, rfl, by decide +kernel, by decide +kernel⟩
theorem setO_ne_lst {w : World} {a : Addr} {S : Int → Bool} {n : Nat} {xs : List V} : SetO w a S n ≠ .lst xs := fun z => by
  have z' : HO.ext _ = HO.lst xs := z
  cases z'
theorem setO_ne_tup {w : World} {a : Addr} {S : Int → Bool} {n : Nat} {xs : List V} : SetO w a S n ≠ .tup xs := fun z => by
  have z' : HO.ext _ = HO.tup xs := z
  cases z'
theorem pe_w {X : Cx} {e : Expr} {w : World} {to : TE} {ta : TA} (hw : X.w = w) (h : PE X e (tSAdd X.w to ta)) : PE X e (tSAdd w to ta) := by
  rw [← hw]
  exact h
/-- between two turns of is_told's loop -/
def ToldInv (w : World) (H : Hp) (d : D) (v : V) (mk wt : Addr) (m : Nat) (σ : L2.St) (H' : Hp) : Prop :=
  ∃ (st : List E3) (seen : List Int) (xs : List V) (S : Int → Bool) (o3 o4 o5 o6 o7 : Option V), σ = [some v, some (.ref mk), some (.ref wt), o3, o4, o5, o6, o7] ∧ m = stW st ∧ H' wt = some (.lst xs) ∧ Paired (Ent H H') st xs ∧
    H' mk = some (SetO w mk S seen.length) ∧ (∀ j, S j = true ↔ j ∈ seen) ∧ Same H H' ∧ seen.length + stW st ≤ D.wt d ∧ (Valid d ↔ Owes st seen) ∧ seen.Nodup
theorem ok_told {gN gB : Addr} {dN dB : FuncData} (F : Fun K "is_told" "is_told" (top 8) f fd) (N : Nm mg)
    (GN : FnOk P w K mg base CX0 3 gN dN ["value"] (spAsk fun d => (D.node d).isSome)) (bN : Binds K dN ["value"] []) (kN : PySem.W.keepIn K (.ref gN) = true) (mN : mg "is_node" = some (.ref gN))
    (GB : FnOk P w K mg base CX0 1 gB dB ["key", "low", "high"] spBtw) (bB : Binds K dB ["key", "low", "high"] []) (kB : PySem.W.keepIn K (.ref gB) = true) (mB : mg "lies_between" = some (.ref gB)) :
    FnOk P w K mg base CX0 4 f fd ["value"] spTold := by
  refine F.ok sc8 (fun vs H Q E h => ?_) (fun cdv A outer s H vs Q E hr h => ?_)
  · obtain ⟨d, v, rfl, _⟩ := h
    rfl
  obtain ⟨d, v, rfl, hd, hw, q⟩ := h
  have r1 : Room 1 (A.deeper (envOfC "is_told" (defScope (top 8)) s.heap.objs.size f cdv)) := hr.mono (by decide)
  refine ⟨_, pss_cons (ps_set (i := 1) sc8.nd rfl (.inl rfl) (pe_callTy0 (show CallR _ (.type "set") (rSet0 w) from cr_set0) (by rfl) N.set (by decide +kernel)))
    (pss_cons (ps_set (i := 2) sc8.nd rfl (.inl rfl) (pe_lst (pa_cons (pe_tup (pa_cons (pv 0) (pa_cons pe_non (pa_cons pe_non pa_nil)))) pa_nil)))
    (pss_cons (ps_while PassesOwn.never (pt_truth (pv 2) (by intro _; rfl))
      (pss_cons (ps_asg (pe_bm0 PySem.F.plainAttrs_list PySem.F.slot_list_pop PySem.F.type_list_pop mt_pop (pv 2)) (pg_tup rfl (pgs_cons (pg_name (i := 3) sc8.nd rfl (.inl rfl)) (pgs_cons (pg_name (i := 4) sc8.nd rfl (.inl rfl)) (pgs_cons (pg_name (i := 5) sc8.nd rfl (.inl rfl)) pgs_nil)))))
      (pss_cons (ps_if (pt_cmpR op_isN (pv 3) pe_non (nomark _)) (pss_one ps_continue) pss_nil)
      (pss_cons (ps_if (PW.pt (pw_or (pt_not (pt_val (pe_call GN hr rfl mN kN bN .nil pass0 (pa_cons (pv 3) pa_nil))))
          (pw_or (pt_not (pt_val (pe_call GB r1 rfl mB kB bB .nil pass0 (pa_cons (pe_ix ix_tup (pe_ix ix_tup (pv 3) pe_int (fun _ _ => rfl)) pe_int (fun _ _ => rfl)) (pa_cons (pv 4) (pa_cons (pv 5) pa_nil))))))
          (pw_or1 (pt_cmpR or_sin (pe_ix ix_tup (pe_ix ix_tup (pv 3) pe_int (fun _ _ => rfl)) pe_int (fun _ _ => rfl)) (pv 1) (by rfl)))))) (pss_one (ps_ret pe_bl)) pss_nil)
      (pss_cons (ps_asg (pe_ix ix_tup (pv 3) pe_int (fun _ _ => rfl)) (pg_tup rfl (pgs_cons (pg_name (i := 6) sc8.nd rfl (.inl rfl)) (pgs_cons (pg_name (i := 7) sc8.nd rfl (.inl rfl)) pgs_nil))))
      (pss_cons (ps_expr (pe_w (w := w) rfl (pe_sadd (pv 1) (pa_cons (pv 7) pa_nil))))
      (pss_cons (ps_expr (pe_bm PySem.F.plainAttrs_list PySem.F.slot_list_append PySem.F.type_list_append mt_append (pv 2) (pa_cons (pe_tup (pa_cons (pe_ix ix_tup (pv 3) pe_int (fun _ _ => rfl)) (pa_cons (pv 4) (pa_cons (pv 6) pa_nil)))) pa_nil)))
      (pss_one (ps_expr (pe_bm PySem.F.plainAttrs_list PySem.F.slot_list_append PySem.F.type_list_append mt_append (pv 2) (pa_cons (pe_tup (pa_cons (pe_ix ix_tup (pv 3) pe_int (fun _ _ => rfl)) (pa_cons (pv 6) (pa_cons (pv 5) pa_nil)))) pa_nil)))))))))))
    (pss_one (ps_ret pe_bl)))), ?_⟩
  refine ⟨rfl, fun mk nmk => ?_⟩
  have u1 := same_new nmk (SetO w mk (fun _ => false) 0)
  have m1 : (upd H mk (SetO w mk (fun _ => false) 0)) mk = some (SetO w mk (fun _ => false) 0) := upd_same
  generalize upd H mk (SetO w mk (fun _ => false) 0) = H1 at u1 m1 ⊢
  refine ⟨_, rfl, (by show 3 ≤ sizeLine; decide), fun e0 ne0 => ⟨(by show 1 ≤ sizeLine; decide), fun wt nwt => ?_⟩⟩
  have u2 := same_new ne0 (.tup [v, .non, .non])
  have m2 : (upd H1 e0 (.tup [v, .non, .non])) e0 = some (.tup [v, .non, .non]) := upd_same
  generalize upd H1 e0 (.tup [v, .non, .non]) = H2 at u2 m2 nwt ⊢
  have u3 := same_new nwt (.lst [.ref e0])
  have m3 : (upd H2 wt (.lst [.ref e0])) wt = some (.lst [.ref e0]) := upd_same
  generalize upd H2 wt (.lst [.ref e0]) = H3 at u3 m3 ⊢
  have nmk' : H mk = none := nmk
  have nwt' : H wt = none := u1.free (u2.free nwt)
  have nmw : mk ≠ wt := fun z => by
    have := u2 _ _ m1
    rw [z, nwt] at this
    cases this
  refine ⟨ToldInv w H d v mk wt, ⟨D.wt d, ?_⟩, ?_⟩
  · refine ⟨[(d, none, none)], [], _, _, none, none, none, none, none, rfl, ?_, m3, .cons ⟨e0, v, rfl, u3 _ _ m2, hd⟩ .nil, u3 _ _ (u2 _ _ m1), fun j => by simp, (u1.trans u2).trans u3, ?_, (owes_all d).symm, List.nodup_nil⟩
    · simp [stW]
    · simp [stW]
  · rintro m σ H' ⟨st, seen, xs, S, o3, o4, o5, o6, o7, rfl, rfl, hwt, hent, hmk, hS, sm, hsz, hv, hnd⟩
    refine ⟨_, rfl, _, .inl ⟨xs, SqL.of hwt, rfl⟩, ?_⟩
    refine if2 (fun c => ⟨fun σ' H'' => ∃ m', m' < stW st ∧ ToldInv w H d v mk wt m' σ' H'', fun _ _ n => n, ?_⟩) (fun c => ?_)
    · obtain rfl | ⟨st, e, he⟩ := List.eq_nil_or_concat st
      · rw [paired_nil hent] at c
        cases c
      rw [List.concat_eq_append] at he
      subst he
      obtain ⟨p, lo, hi⟩ := e
      obtain ⟨ys, y, rfl, hys, a, x, rfl, ha, hx⟩ := paired_snoc hent
      refine ⟨_, rfl, .inl ⟨rfl, _, SqL.of hwt⟩, wt, _, .ref a, rfl, rfl, hwt, by simp, ?_⟩
      rw [List.dropLast_concat]
      have tu : Tups H' (upd H' wt (.lst ys)) := tups_upd hwt (fun _ z => by cases z)
      have sm4 : Same H (upd H' wt (.lst ys)) := fun z o k => by rw [upd_ne (ne_of_none k nwt')]; exact sm z o k
      have hmk4 : (upd H' wt (.lst ys)) mk = some (SetO w mk S seen.length) := by rw [upd_ne nmw]; exact hmk
      have hwt4 : (upd H' wt (.lst ys)) wt = some (.lst ys) := upd_same
      have hys4 := ents_tups hys tu
      have ha4 := tu _ _ ha
      generalize upd H' wt (.lst ys) = H4 at tu sm4 hmk4 hwt4 hys4 ha4 ⊢
      refine ⟨a, _, rfl, SqT.of ha4, rfl, _, _, rfl, _, _, rfl, _, _, rfl, rfl, ?_⟩
      refine ⟨_, rfl, rfl, _, rfl, ?_⟩
      rw [stW_snoc] at hsz
      have hsz : seen.length + (stW st + D.wt p) ≤ D.wt d := hsz
      have hx : Is H p x := hx
      have hwp := D.wt_pos p
      have hst := stW_len st
      have hyl : ys.length = st.length := (Paired.length hys4).symm
      refine if2 (fun c0 => ?_) (fun c0 => ?_)
      · -- nothing hangs here
        have e0 : p = .non := (hx.non).mp c0
        subst e0
        exact ⟨stW st, by rw [stW_snoc]; exact Nat.lt_add_of_pos_right hwp, st, seen, ys, S, _, _, _, _, _, rfl, rfl, hwt4, hys4, hmk4, hS, sm4, by omega, hv.trans owes_non, hnd⟩
      · have np : p ≠ .non := fun z => by
          rw [(hx.non).mpr z] at c0
          cases c0
        refine ⟨_, rfl, p, x, rfl, hx.same sm4, _, rfl, ?_⟩
        refine if2 (fun c1 => ifT rfl ?_) (fun c1 => ?_)
        · -- no node
          have c1 : (!(D.node p).isSome) = true := c1
          have e1 : D.node p = none := by
            cases e : D.node p with
            | none => rfl
            | some z => rw [e] at c1; cases c1
          have e2 := D.ok_not e1 np lo hi
          exact q false H4 ⟨fun z => (by cases z), fun z => absurd (hv.mp z) (owes_not e2)⟩ sm4
        · have c1 : (!(D.node p).isSome) = false := c1
          obtain ⟨l, ⟨k, mm⟩, r, e1⟩ : ∃ l p0 r, D.node p = some (l, p0, r) := by
            cases e : D.node p with
            | none => rw [e] at c1; cases c1
            | some z => exact ⟨z.1, z.2.1, z.2.2, rfl⟩
          obtain rfl := D.node_some e1
          obtain ⟨ax, xs0, rfl, hax, xl, r0, rfl, il, xi, r1', rfl, ii, xr, r2', rfl, ir, hn⟩ := hx
          cases (show r2' = [] from hn)
          obtain ⟨ai, xs1, rfl, hai, xk, r3, rfl, ik, xm, r4, rfl, im, hn2⟩ := ii
          cases (show r4 = [] from hn2)
          cases (show xk = V.int k from ik)
          cases (show xm = V.int mm from im)
          have hax4 := sm4 _ _ hax
          have hai4 := sm4 _ _ hai
          refine ⟨_, rfl, ax, _, _, _, rfl, rfl, SqT.of hax4, atI_nat (j := 1) rfl, ai, _, _, _, rfl, rfl, SqT.of hai4, atI_nat (j := 0) rfl, _, rfl, _, rfl, k, lo, hi, rfl, _, rfl, ?_⟩
          refine if2 (fun c2 => ifT rfl ?_) (fun c2 => ?_)
          · -- not between
            have e2 : D.ok (.tup [l, .tup [.int k, .int mm], r]) lo hi = false := by
              rw [D.ok]
              show ((loOk k lo && hiOk k hi) && _) = false
              have : (loOk k lo && hiOk k hi) = false := by
                cases e : (loOk k lo && hiOk k hi) with
                | false => rfl
                | true => rw [e] at c2; cases c2
              rw [this, Bool.false_and]
            exact q false H4 ⟨fun z => (by cases z), fun z => absurd (hv.mp z) (owes_not e2)⟩ sm4
          · have e2 : (loOk k lo && hiOk k hi) = true := by
              cases e : (loOk k lo && hiOk k hi) with
              | true => rfl
              | false => rw [e] at c2; cases c2
            refine ⟨_, rfl, ax, _, _, _, rfl, rfl, SqT.of hax4, atI_nat (j := 1) rfl, ai, _, _, _, rfl, rfl, SqT.of hai4, atI_nat (j := 1) rfl, _, rfl, mm, mk, S, _, rfl, rfl, hmk4, _, rfl, ?_⟩
            refine if2 (fun c3 => ?_) (fun c3 => ?_)
            · exact q false H4 ⟨fun z => (by cases z), fun z => absurd (hv.mp z) (owes_mark ((hS mm).mp c3))⟩ sm4
            · have nseen : mm ∉ seen := fun z => by
                rw [(hS mm).mpr z] at c3
                cases c3
              have hSf : S mm = false := by
                cases e : S mm with
                | false => rfl
                | true => rw [e] at c3; cases c3
              have hw3 : 1 + D.wt l + D.wt r = D.wt (.tup [l, .tup [.int k, .int mm], r]) := by rw [D.wt]
              refine ⟨_, rfl, ax, _, _, _, rfl, rfl, SqT.of hax4, atI_nat (j := 1) rfl, ai, _, rfl, SqT.of hai4, rfl, _, _, rfl, _, _, rfl, rfl, ?_⟩
              refine ⟨_, rfl, ⟨mk, S, _, rfl, hmk4⟩, _, rfl, mk, mm, S, _, rfl, rfl, hmk4, (by show seen.length + 1 < 4096; omega), ?_⟩
              rw [hSf, if_neg Bool.false_ne_true]
              have tu5 : Tups H4 (upd H4 mk (SetO w mk (fun j => S j || decide (j = mm)) (seen.length + 1))) := tups_upd hmk4 (fun _ => setO_ne_tup)
              have sm5 : Same H (upd H4 mk (SetO w mk (fun j => S j || decide (j = mm)) (seen.length + 1))) := fun z o kz => by rw [upd_ne (ne_of_none kz nmk')]; exact sm4 z o kz
              have hwt5 : (upd H4 mk (SetO w mk (fun j => S j || decide (j = mm)) (seen.length + 1))) wt = some (.lst ys) := by rw [upd_ne nmw.symm]; exact hwt4
              have hmk5 : (upd H4 mk (SetO w mk (fun j => S j || decide (j = mm)) (seen.length + 1))) mk = some (SetO w mk (fun j => S j || decide (j = mm)) (seen.length + 1)) := upd_same
              generalize upd H4 mk (SetO w mk (fun j => S j || decide (j = mm)) (seen.length + 1)) = H5 at tu5 sm5 hwt5 hmk5 ⊢
              -- the left part
              refine ⟨_, rfl, .inl ⟨rfl, _, SqL.of hwt5⟩, _, rfl, ax, _, _, _, rfl, rfl, SqT.of (sm5 _ _ hax), atI_nat (j := 0) rfl, _, rfl, _, rfl, (by show 3 ≤ sizeLine; decide), fun t1 nt1 => ?_⟩
              have u6 := same_new nt1 (.tup [xl, vO lo, .int k])
              have m6 : (upd H5 t1 (.tup [xl, vO lo, .int k])) t1 = some (.tup [xl, vO lo, .int k]) := upd_same
              generalize upd H5 t1 (.tup [xl, vO lo, .int k]) = H6 at u6 m6 ⊢
              refine ⟨wt, ys, _, rfl, rfl, u6 _ _ hwt5, (by rw [hyl]; exact small1000' (by omega)), ?_⟩
              have tu7 : Tups H6 (upd H6 wt (.lst (ys ++ [.ref t1]))) := tups_upd (u6 _ _ hwt5) (fun _ z => by cases z)
              have sm7 : Same H (upd H6 wt (.lst (ys ++ [.ref t1]))) := fun z o kz => by rw [upd_ne (ne_of_none kz nwt')]; exact u6 _ _ (sm5 z o kz)
              have hwt7 : (upd H6 wt (.lst (ys ++ [.ref t1]))) wt = some (.lst (ys ++ [.ref t1])) := upd_same
              have hmk7 : (upd H6 wt (.lst (ys ++ [.ref t1]))) mk = some (SetO w mk (fun j => S j || decide (j = mm)) (seen.length + 1)) := by rw [upd_ne nmw]; exact u6 _ _ hmk5
              have m7 := tu7 _ _ m6
              have T7 := ((tu5.trans (Tups.of u6)).trans tu7)
              generalize upd H6 wt (.lst (ys ++ [.ref t1])) = H7 at tu7 sm7 hwt7 hmk7 m7 T7 ⊢
              -- the right part
              refine ⟨_, rfl, .inl ⟨rfl, _, SqL.of hwt7⟩, _, rfl, ax, _, _, _, rfl, rfl, SqT.of (sm7 _ _ hax), atI_nat (j := 2) rfl, _, rfl, _, rfl, (by show 3 ≤ sizeLine; decide), fun t2 nt2 => ?_⟩
              have u8 := same_new nt2 (.tup [xr, .int k, vO hi])
              have m8 : (upd H7 t2 (.tup [xr, .int k, vO hi])) t2 = some (.tup [xr, .int k, vO hi]) := upd_same
              generalize upd H7 t2 (.tup [xr, .int k, vO hi]) = H8 at u8 m8 ⊢
              refine ⟨wt, ys ++ [.ref t1], _, rfl, rfl, u8 _ _ hwt7, (by rw [List.length_append, hyl]; exact small1000' (by show st.length + 1 ≤ 4000; omega)), ?_⟩
              have tu9 : Tups H8 (upd H8 wt (.lst ((ys ++ [.ref t1]) ++ [.ref t2]))) := tups_upd (u8 _ _ hwt7) (fun _ z => by cases z)
              have T9 := (T7.trans (Tups.of u8)).trans tu9
              refine ⟨stW (st ++ [(l, lo, some k), (r, some k, hi)]), ?_, st ++ [(l, lo, some k), (r, some k, hi)], mm :: seen, _, fun j => S j || decide (j = mm), _, _, _, _, _, rfl, rfl, upd_same, ?_, ?_, ?_, ?_, ?_, hv.trans (owes_node e2), List.nodup_cons.mpr ⟨nseen, hnd⟩⟩
              · rw [stW_snoc]
                show stW (st ++ [(l, lo, some k), (r, some k, hi)]) < stW st + D.wt (.tup [l, .tup [.int k, .int mm], r])
                rw [← hw3]
                simp only [stW, List.map_append, List.sum_append, List.map_cons, List.map_nil, List.sum_cons, List.sum_nil]
                omega
              · have e9 : ys ++ [V.ref t1, V.ref t2] = (ys ++ [V.ref t1]) ++ [V.ref t2] := by rw [List.append_assoc]; rfl
                refine Eq.mp (congrArg (Paired _ _) e9) ?_
                exact paired_app (ents_tups hys4 T9) (.cons ⟨t1, xl, rfl, tu9 _ _ (u8 _ _ m7), il⟩ (.cons ⟨t2, xr, rfl, tu9 _ _ m8, ir⟩ .nil))
              · rw [upd_ne nmw]
                exact u8 _ _ hmk7
              · intro j
                rw [Bool.or_eq_true, hS j, decide_eq_true_eq, List.mem_cons]
                exact or_comm
              · exact fun z o kz => by rw [upd_ne (ne_of_none kz nwt')]; exact u8 _ _ (sm7 z o kz)
              · rw [← hw3] at hsz
                simp only [stW, List.map_append, List.sum_append, List.map_cons, List.map_nil, List.sum_cons, List.sum_nil, List.length_cons] at hsz ⊢
                omega
    · have e : st = [] := by
        cases st with
        | nil => rfl
        | cons z zs =>
          cases hent with
          | cons _ _ => cases c
      subst e
      exact q true H' ⟨fun _ => hv.mpr (owes_nil hnd), fun _ => rfl⟩ sm
end
end K40
namespace K40
open PySem PySem.Spec PyProof.Rows L2 Xc Dt
/-! ### trees -/
inductive T where
  | nil
  | node (l : T) (k m : Int) (r : T)
  deriving DecidableEq
def itemD (p : Int × Int) : D := .tup [.int p.1, .int p.2]
def T.d : T → D
  | .nil => .non
  | .node l k m r => .tup [l.d, .tup [.int k, .int m], r.d]
def T.items : T → List (Int × Int)
  | .nil => []
  | .node l k m r => l.items ++ (k, m) :: r.items
def T.ht : T → Nat
  | .nil => 0
  | .node l _ _ r => 1 + max l.ht r.ht
/-- all nodes, the right part ahead of the left one: the part, its depth, what it hangs on -/
def T.nodes : T → Nat → Option T → List (T × Nat × Option T)
  | .nil, _, _ => []
  | .node l k m r, n, ab => (.node l k m r, n, ab) :: (r.nodes (n + 1) (some (.node l k m r)) ++ l.nodes (n + 1) (some (.node l k m r)))
theorem T.d_wt : ∀ t : T, D.wt t.d = 2 * t.items.length + 1
  | .nil => rfl
  | .node l k m r => by
    show D.wt (.tup [l.d, .tup [.int k, .int m], r.d]) = _
    rw [D.wt, T.d_wt l, T.d_wt r]
    show _ = 2 * (l.items ++ (k, m) :: r.items).length + 1
    rw [List.length_append, List.length_cons]
    omega
theorem d_of_ok : ∀ (d : D) (lo hi : Option Int), D.ok d lo hi = true → ∃ t : T, d = t.d
  | .non, _, _, _ => ⟨.nil, rfl⟩
  | .tup [l, i, r], lo, hi, h => by
    rw [D.ok] at h
    cases e : D.item i with
    | none => rw [e] at h; cases h
    | some p =>
      obtain ⟨k, m⟩ := p
      rw [e] at h
      have h : ((loOk k lo && hiOk k hi) && (D.ok l lo (some k) && D.ok r (some k) hi)) = true := h
      rw [Bool.and_eq_true, Bool.and_eq_true, Bool.and_eq_true] at h
      obtain ⟨tl, hl⟩ := d_of_ok l lo (some k) h.2.1
      obtain ⟨tr, hr⟩ := d_of_ok r (some k) hi h.2.2
      exact ⟨.node tl k m tr, by rw [hl, hr, D.item_some e]; rfl⟩
  | .tup [], _, _, h => by rw [D.ok] at h <;> first | (cases h; done) | (intros; simp_all)
  | .tup [_], _, _, h => by rw [D.ok] at h <;> first | (cases h; done) | (intros; simp_all)
  | .tup [_, _], _, _, h => by rw [D.ok] at h <;> first | (cases h; done) | (intros; simp_all)
  | .tup (_ :: _ :: _ :: _ :: _), _, _, h => by rw [D.ok] at h <;> first | (cases h; done) | (intros; simp_all)
  | .bl _, _, _, h => by rw [D.ok] at h <;> first | (cases h; done) | (intros; simp_all)
  | .int _, _, _, h => by rw [D.ok] at h <;> first | (cases h; done) | (intros; simp_all)
  | .str _, _, _, h => by rw [D.ok] at h <;> first | (cases h; done) | (intros; simp_all)
  | .lst _, _, _, h => by rw [D.ok] at h <;> first | (cases h; done) | (intros; simp_all)
  | .dct, _, _, h => by rw [D.ok] at h <;> first | (cases h; done) | (intros; simp_all)
/-- keys ascend, between bounds -/
def Asc (l : List (Int × Int)) : Prop := l.Pairwise fun p q => p.1 < q.1
theorem ok_asc : ∀ (t : T) (lo hi : Option Int), D.ok t.d lo hi = true ↔ Asc t.items ∧ ∀ p ∈ t.items, loOk p.1 lo = true ∧ hiOk p.1 hi = true
  | .nil, lo, hi => by
    show D.ok .non lo hi = true ↔ _
    rw [D.ok]
    simp [T.items, Asc]
  | .node l k m r, lo, hi => by
    show D.ok (.tup [l.d, .tup [.int k, .int m], r.d]) lo hi = true ↔ _
    rw [D.ok]
    show ((loOk k lo && hiOk k hi) && (D.ok l.d lo (some k) && D.ok r.d (some k) hi)) = true ↔ _
    rw [Bool.and_eq_true, Bool.and_eq_true, Bool.and_eq_true, ok_asc l, ok_asc r]
    show _ ↔ Asc (l.items ++ (k, m) :: r.items) ∧ ∀ p ∈ l.items ++ (k, m) :: r.items, _
    unfold Asc
    rw [List.pairwise_append, List.pairwise_cons]
    constructor
    · rintro ⟨⟨h1, h2⟩, ⟨a1, a2⟩, b1, b2⟩
      have lok : ∀ p ∈ l.items, p.1 < k := fun p hp => of_decide_eq_true (a2 p hp).2
      have rok : ∀ p ∈ r.items, k < p.1 := fun p hp => of_decide_eq_true (b2 p hp).1
      refine ⟨⟨a1, ⟨fun p hp => rok p hp, b1⟩, fun p hp q hq => ?_⟩, fun p hp => ?_⟩
      · rcases List.mem_cons.mp hq with rfl | hq
        · exact lok p hp
        · exact Int.lt_trans (lok p hp) (rok q hq)
      · rcases List.mem_append.mp hp with hp | hp
        · refine ⟨(a2 p hp).1, ?_⟩
          cases hi with
          | none => rfl
          | some h => exact decide_eq_true (Int.lt_trans (lok p hp) (of_decide_eq_true h2))
        · rcases List.mem_cons.mp hp with rfl | hp
          · exact ⟨h1, h2⟩
          · refine ⟨?_, (b2 p hp).2⟩
            cases lo with
            | none => rfl
            | some h => exact decide_eq_true (Int.lt_trans (of_decide_eq_true h1) (rok p hp))
    · rintro ⟨⟨a1, ⟨a2, a3⟩, a4⟩, b⟩
      refine ⟨b (k, m) (by simp), ⟨a1, fun p hp => ⟨(b p (by simp [hp])).1, decide_eq_true (a4 p hp (k, m) (by simp))⟩⟩, a3, fun p hp => ⟨decide_eq_true (a2 p hp), (b p (by simp [hp])).2⟩⟩
theorem marks_perm : ∀ t : T, (D.marks t.d).Perm (t.items.map (·.2))
  | .nil => by
    show (D.marks .non).Perm _
    rw [D.marks]
    · exact List.Perm.refl _
    · intros; simp_all
  | .node l k m r => by
    show (D.marks (.tup [l.d, .tup [.int k, .int m], r.d])).Perm _
    rw [D.marks]
    show (m :: (D.marks l.d ++ D.marks r.d)).Perm ((l.items ++ (k, m) :: r.items).map (·.2))
    rw [List.map_append, List.map_cons]
    exact (List.Perm.cons m ((marks_perm l).append (marks_perm r))).trans List.perm_middle.symm
/-- a told tree: keys ascend, no mark stands twice -/
def Told (t : T) : Prop := Asc t.items ∧ (t.items.map (·.2)).Nodup
theorem valid_told (t : T) : Valid t.d ↔ Told t := by
  unfold Valid Told
  rw [ok_asc, (marks_perm t).nodup_iff]
  constructor
  · rintro ⟨⟨h1, _⟩, h2⟩
    exact ⟨h1, h2⟩
  · rintro ⟨h1, h2⟩
    exact ⟨⟨h1, fun p _ => ⟨rfl, rfl⟩⟩, h2⟩
theorem told_of {d : D} (h : Valid d) : ∃ t : T, d = t.d ∧ Told t := by
  obtain ⟨t, rfl⟩ := d_of_ok d none none h.1
  exact ⟨t, rfl, (valid_told t).mp h⟩
end K40
namespace K40
open PySem PySem.Spec PyProof.Rows L2 Xc Dt
/-! ### the error -/
def spI1 (C : Addr) (f : Str) : Sp := fun vs H Q _ => ∃ a x, vs = [.ref a, x] ∧ H a = some (exo a C none) ∧ ∀ dx, H dx = none → dx ≠ a → Q .non (upd (upd H dx (exd dx [(f, x)])) a (exo a C (some dx)))
def Makes (P : Program) (w : World) (K : PySem.W.Frag) (mg : Str → Option Value) (base : Heap) (C : Addr) (ps : List Str) (sp : Sp) : Prop := ∃ fI fd, PySem.W.findIn K (.ref C) "__init__" = some (some (.ref fI)) ∧ PySem.W.typeIn K (.ref fI) = some (.type "function") ∧
  FnOk P w K mg base CX0 1 fI fd ps sp ∧ Binds K fd ps []
theorem mk1 {C : Addr} {f : Str} {H : Hp} {x : V} {W : XK} (h : ∀ d H', H' d = some (.xd [(f, x)]) → Same H H' → W (.ref C) (some d) H') (a : Addr) (na : H a = none) :
    spI1 C f (.ref a :: ([x] ++ [])) (upd H a (exo a C none)) (fun v H2 => v = .non ∧ ∃ (d : Addr) (fs : List (Str × V)), H2 a = some (exo a C (some d)) ∧ H2 d = some (exd d fs) ∧ H d = none ∧ W (.ref C) (some d) (upd (del H2 a) d (.xd fs))) (fun _ _ _ => False) := by
  refine ⟨a, x, rfl, upd_same, fun dx nd nda => ⟨rfl, dx, [(f, x)], upd_same, by rw [upd_ne nda, upd_same], ?_, h dx _ upd_same fun b o e => ?_⟩⟩
  · rwa [upd_ne nda] at nd
  · rw [upd_ne nda] at nd
    rw [upd_ne (ne_of_none e nd), del_ne (ne_of_none e na), upd_ne (ne_of_none e na), upd_ne (ne_of_none e nd), upd_ne (ne_of_none e na)]
    exact e
section
variable {P : Program} {w : World} {K : PySem.W.Frag} {mg : Str → Option Value} {base : Heap} {f : Addr} {fd : FuncData}
theorem scI : FnScope ["self", "tree"] ["self", "tree"] (defScope (inClass (top 2) 0)) := ⟨rfl, rfl, rfl, by decide +kernel, rfl, by decide +kernel, by decide +kernel⟩
theorem ok_init {C f : Addr} {fd : FuncData} (F : Fun K "__init__" "BadTree.__init__" (inClass (top 2) 0) f fd) (o : OexC K C) (n0 : PySem.W.findIn K (.ref C) "tree" = some none) : FnOk P w K mg base CX0 1 f fd ["self", "tree"] (spI1 C "tree") := by
  refine F.ok scI (fun vs H Q E h => ?_) (fun cdv A outer s H vs Q E hr h => ?_)
  · obtain ⟨a, x, rfl, _⟩ := h
    rfl
  obtain ⟨a, x, rfl, e, q⟩ := h
  refine ⟨_, pss_one (ps_ost (pv 0) (pv 1)), ?_⟩
  exact ⟨_, rfl, _, rfl, a, C, rfl, o, n0, .inl ⟨e, fun dx h1 h2 => q dx h1 h2⟩⟩
/-- what the top has made of the errors: BadTree at C, over the base at U -/
structure Er (P : Program) (w : World) (K : PySem.W.Frag) (mg : Str → Option Value) (base : Heap) (U C : Addr) : Prop where
  eb : EC K [U] C
  mB : mg "BadTree" = some (.ref C)
  iB : Makes P w K mg base C ["self", "tree"] (spI1 C "tree")
  fB : PySem.W.findIn K (.ref C) "tree" = some none
/-! ### nodes_of -/
abbrev N3 := T × Nat × Option T
def oD : Option T → D
  | none => .non
  | some t => t.d
/-- a node's entry, as the heap holds it: the parts as they stood in H -/
def NEnt (H H' : Hp) (e : N3) (v : V) : Prop := ∃ a x y, v = .ref a ∧ H' a = some (.tup [x, .int (e.2.1 : Nat), y]) ∧ Is H e.1.d x ∧ Is H (oD e.2.2) y
theorem nents_tups {H H1 H2 : Hp} {st : List N3} {xs : List V} (h : Paired (NEnt H H1) st xs) (t : Tups H1 H2) : Paired (NEnt H H2) st xs := Paired.mapP h fun e v k => by
  obtain ⟨a, x, y, rfl, q, i⟩ := k
  exact ⟨a, x, y, rfl, t _ _ q, i⟩
/-- what a function of trees does with what is none -/
def Bad (C : Addr) (v : V) (H : Hp) (E : XK) : Prop := ∀ dd H', H' dd = some (.xd [("tree", v)]) → Same H H' → E (.ref C) (some dd) H'
def spNodes (C : Addr) : Sp := fun vs H Q E => ∃ (d : D) (v : V), vs = [v] ∧ Is H d v ∧ D.wt d ≤ 3000 ∧
  (∀ t : T, d = t.d → Told t → ∀ p xs H', H p = none → H' p = some (.lst xs) → Paired (NEnt H H') (t.nodes 1 none) xs → Same H H' → Q (.ref p) H') ∧ (¬ Valid d → Bad C v H E)
def nsW (st : List N3) : Nat := (st.map fun e => 2 * e.1.items.length + 1).sum
def below (st : List N3) : List N3 := st.reverse.flatMap fun e => e.1.nodes e.2.1 e.2.2
theorem below_snoc (st : List N3) (e : N3) : below (st ++ [e]) = e.1.nodes e.2.1 e.2.2 ++ below st := by simp [below]
theorem nsW_snoc (st : List N3) (e : N3) : nsW (st ++ [e]) = nsW st + (2 * e.1.items.length + 1) := by simp [nsW]
theorem nsW_len : ∀ st : List N3, st.length ≤ nsW st
  | [] => Nat.zero_le _
  | e :: r => by
    have h := nsW_len r
    show r.length + 1 ≤ (2 * e.1.items.length + 1) + nsW r
    omega
theorem nodes_len : ∀ (t : T) (n : Nat) (ab : Option T), (t.nodes n ab).length = t.items.length
  | .nil, _, _ => rfl
  | .node l k m r, n, ab => by
    show ((r.nodes (n + 1) _ ++ l.nodes (n + 1) _).length + 1) = (l.items ++ (k, m) :: r.items).length
    rw [List.length_append, nodes_len r, nodes_len l, List.length_append, List.length_cons]
    omega
def NodesInv (H : Hp) (t : T) (v : V) (fo wt : Addr) (m : Nat) (σ : L2.St) (H' : Hp) : Prop :=
  ∃ (st acc : List N3) (xs ys : List V) (o3 o4 o5 : Option V), σ = [some v, some (.ref fo), some (.ref wt), o3, o4, o5] ∧ m = nsW st ∧ H' wt = some (.lst xs) ∧ Paired (NEnt H H') st xs ∧ H' fo = some (.lst ys) ∧ Paired (NEnt H H') acc ys ∧ Same H H' ∧
    acc.length + nsW st ≤ 4000 ∧ t.nodes 1 none = acc ++ below st
theorem sc9 : FnScope ["tree", "found", "waiting", "part", "depth", "above"] ["tree"] (defScope (top 9)) := ⟨rfl, rfl, rfl, by decide +kernel, rfl, by decide +kernel, by decide +kernel⟩
theorem ok_nodes {g U C : Addr} {gd : FuncData} (F : Fun K "nodes_of" "nodes_of" (top 9) f fd) (R : Er P w K mg base U C) (G : FnOk P w K mg base CX0 4 g gd ["value"] spTold) (bG : Binds K gd ["value"] []) (kG : PySem.W.keepIn K (.ref g) = true) (mG : mg "is_told" = some (.ref g)) :
    FnOk P w K mg base (L2.CX P w) 5 f fd ["tree"] (spNodes C) := by
  refine F.okX sc9 (fun vs H Q E h => ?_) (fun cdv A outer s H vs Q E hr h => ?_)
  · obtain ⟨d, v, rfl, _⟩ := h
    rfl
  obtain ⟨d, v, rfl, hd, hw, q, bad⟩ := h
  obtain ⟨gI, dI, aI, tI, FI, bI⟩ := R.iB
  have r2 : Room 2 (A.deeper (envOfC "nodes_of" (defScope (top 9)) s.heap.objs.size f cdv)) := hr.mono (by decide)
  refine ⟨_, pss_cons (ps_if (pt_not (pt_val (pe_call G hr rfl mG kG bG .nil pass0 (pa_cons (pv 0) pa_nil)))) (pss_one (ps_raise rfl (takes_of rfl rfl rfl rfl) (pmk_oex R.eb.oex aI tI FI r2 bI .nil pass0 rfl R.mB (pa_cons (pv 0) pa_nil)))) pss_nil)
    (pss_cons (ps_set (i := 1) sc9.nd rfl (.inl rfl) (pe_lst pa_nil))
    (pss_cons (ps_set (i := 2) sc9.nd rfl (.inl rfl) (pe_lst (pa_cons (pe_tup (pa_cons (pv 0) (pa_cons pe_int (pa_cons pe_non pa_nil)))) pa_nil)))
    (pss_cons (ps_while (passes_of rfl) (pt_truth (pv 2) (by intro _; rfl))
      (pss_cons (ps_asg (pe_bm0 PySem.F.plainAttrs_list PySem.F.slot_list_pop PySem.F.type_list_pop mt_pop (pv 2)) (pg_tup rfl (pgs_cons (pg_name (i := 3) sc9.nd rfl (.inl rfl)) (pgs_cons (pg_name (i := 4) sc9.nd rfl (.inl rfl)) (pgs_cons (pg_name (i := 5) sc9.nd rfl (.inl rfl)) pgs_nil)))))
      (pss_one (ps_if (pt_cmpR op_notN (pv 3) pe_non (nomark _))
        (pss_cons (ps_expr (pe_bm PySem.F.plainAttrs_list PySem.F.slot_list_append PySem.F.type_list_append mt_append (pv 1) (pa_cons (pe_tup (pa_cons (pv 3) (pa_cons (pv 4) (pa_cons (pv 5) pa_nil)))) pa_nil)))
        (pss_cons (ps_expr (pe_bm PySem.F.plainAttrs_list PySem.F.slot_list_append PySem.F.type_list_append mt_append (pv 2) (pa_cons (pe_tup (pa_cons (pe_ix ix_tup (pv 3) pe_int (fun _ _ => rfl)) (pa_cons (pe_op op_add (pv 4) pe_int) (pa_cons (pv 3) pa_nil)))) pa_nil)))
        (pss_one (ps_expr (pe_bm PySem.F.plainAttrs_list PySem.F.slot_list_append PySem.F.type_list_append mt_append (pv 2) (pa_cons (pe_tup (pa_cons (pe_ix ix_tup (pv 3) pe_int (fun _ _ => rfl)) (pa_cons (pe_op op_add (pv 4) pe_int) (pa_cons (pv 3) pa_nil)))) pa_nil)))))) pss_nil))))
    (pss_one (ps_ret (pv 1)))))), ?_⟩
  refine ⟨_, rfl, d, v, rfl, hd, hw, fun b H1 hb s1 => ⟨_, rfl, ?_⟩⟩
  cases b with
  | false =>
    refine ifT rfl ?_
    have nv : ¬ Valid d := fun z => by cases hb.mpr z
    exact ⟨_, rfl, (by show 1 ≤ 1000; decide), mk1 (fun dd H2 h2 h3 => bad nv dd H2 h2 (s1.trans h3))⟩
  | true =>
    refine ifF rfl ?_
    obtain ⟨t, rfl, ht⟩ := told_of (hb.mp rfl)
    have hitems : 2 * t.items.length + 1 ≤ 3000 := by rw [← T.d_wt]; exact hw
    refine ⟨(by show 0 ≤ sizeLine; decide), fun fo nfo => ?_⟩
    have u2 := same_new nfo (.lst [])
    have m2 : (upd H1 fo (.lst [])) fo = some (.lst []) := upd_same
    have nfo' : H fo = none := s1.free nfo
    generalize upd H1 fo (.lst []) = H2 at u2 m2 ⊢
    refine ⟨_, rfl, (by show 3 ≤ sizeLine; decide), fun e0 ne0 => ⟨(by show 1 ≤ sizeLine; decide), fun wt nwt => ?_⟩⟩
    have u3 := same_new ne0 (.tup [v, .int 1, .non])
    have m3 : (upd H2 e0 (.tup [v, .int 1, .non])) e0 = some (.tup [v, .int 1, .non]) := upd_same
    generalize upd H2 e0 (.tup [v, .int 1, .non]) = H3 at u3 m3 nwt ⊢
    have u4 := same_new nwt (.lst [.ref e0])
    have m4 : (upd H3 wt (.lst [.ref e0])) wt = some (.lst [.ref e0]) := upd_same
    generalize upd H3 wt (.lst [.ref e0]) = H4 at u4 m4 ⊢
    have nwt' : H wt = none := s1.free (u2.free (u3.free nwt))
    have nfw : fo ≠ wt := fun z => by
      have := u3 _ _ m2
      rw [z, nwt] at this
      cases this
    have S4 : Same H H4 := ((s1.trans u2).trans u3).trans u4
    refine ⟨NodesInv H t v fo wt, ⟨nsW [(t, 1, none)], ?_⟩, ?_⟩
    · refine ⟨[(t, 1, none)], [], _, _, none, none, none, rfl, rfl, m4, .cons ⟨e0, v, .non, rfl, u4 _ _ m3, hd, rfl⟩ .nil, u4 _ _ (u3 _ _ m2), .nil, S4, ?_, ?_⟩
      · simp [nsW]
        omega
      · simp [below]
    · rintro m σ H' ⟨st, acc, xs, ys, o3, o4, o5, rfl, rfl, hwt, hst, hfo, hacc, sm, hsz, hv⟩
      refine ⟨_, rfl, _, .inl ⟨xs, SqL.of hwt, rfl⟩, ?_⟩
      refine if2 (fun c => ⟨fun σ' H'' => ∃ m', m' < nsW st ∧ NodesInv H t v fo wt m' σ' H'', fun _ _ n => n, ?_⟩) (fun c => ?_)
      · obtain rfl | ⟨st, e, he⟩ := List.eq_nil_or_concat st
        · rw [paired_nil hst] at c
          cases c
        rw [List.concat_eq_append] at he
        subst he
        obtain ⟨p, n, ab⟩ := e
        obtain ⟨zs, y, rfl, hzs, a, x, y2, rfl, ha, hx, hy⟩ := paired_snoc hst
        refine ⟨_, rfl, .inl ⟨rfl, _, SqL.of hwt⟩, wt, _, .ref a, rfl, rfl, hwt, by simp, ?_⟩
        rw [List.dropLast_concat]
        have tu : Tups H' (upd H' wt (.lst zs)) := tups_upd hwt (fun _ z => by cases z)
        have sm5 : Same H (upd H' wt (.lst zs)) := fun z o k => by rw [upd_ne (ne_of_none k nwt')]; exact sm z o k
        have hfo5 : (upd H' wt (.lst zs)) fo = some (.lst ys) := by rw [upd_ne nfw]; exact hfo
        have hwt5 : (upd H' wt (.lst zs)) wt = some (.lst zs) := upd_same
        have hzs5 := nents_tups hzs tu
        have hacc5 := nents_tups hacc tu
        have ha5 := tu _ _ ha
        generalize upd H' wt (.lst zs) = H5 at tu sm5 hfo5 hwt5 hzs5 hacc5 ha5 ⊢
        refine ⟨a, _, rfl, SqT.of ha5, rfl, _, _, rfl, _, _, rfl, _, _, rfl, rfl, ?_⟩
        rw [nsW_snoc] at hsz
        rw [below_snoc] at hv
        have hsz : acc.length + (nsW st + (2 * p.items.length + 1)) ≤ 4000 := hsz
        have hv : t.nodes 1 none = acc ++ (p.nodes n ab ++ below st) := hv
        have hx : Is H p.d x := hx
        have hzl : zs.length = st.length := (Paired.length hzs5).symm
        have hyl : ys.length = acc.length := (Paired.length hacc5).symm
        have hstl := nsW_len st
        refine ⟨_, rfl, rfl, _, rfl, ?_⟩
        cases p with
        | nil =>
          cases (show x = V.non from hx)
          refine ifF rfl ?_
          refine ⟨nsW st, by rw [nsW_snoc]; exact Nat.lt_succ_self _, st, acc, zs, ys, _, _, _, rfl, rfl, hwt5, hzs5, hfo5, hacc5, sm5, ?_, hv⟩
          have : (T.nil).items.length = 0 := rfl
          omega
        | node l k mm r =>
          obtain ⟨ax, xs0, rfl, hax, xl, r0, rfl, il, xi, r1', rfl, ii, xr, r2', rfl, ir, hn⟩ := id hx
          cases (show r2' = [] from hn)
          refine ifT rfl ?_
          have hil : (T.node l k mm r).items.length = l.items.length + r.items.length + 1 := by
            show (l.items ++ (k, mm) :: r.items).length = _
            rw [List.length_append, List.length_cons]
            omega
          rw [hil] at hsz
          -- found.append((part, depth, above))
          refine ⟨_, rfl, .inl ⟨rfl, _, SqL.of hfo5⟩, _, rfl, _, rfl, _, rfl, (by show 3 ≤ sizeLine; decide), fun t1 nt1 => ?_⟩
          have u6 := same_new nt1 (.tup [.ref ax, .int (n : Nat), y2])
          have m6 : (upd H5 t1 (.tup [.ref ax, .int (n : Nat), y2])) t1 = some (.tup [.ref ax, .int (n : Nat), y2]) := upd_same
          generalize upd H5 t1 (.tup [.ref ax, .int (n : Nat), y2]) = H6 at u6 m6 ⊢
          refine ⟨fo, ys, _, rfl, rfl, u6 _ _ hfo5, (by rw [hyl]; exact small1000' (by omega)), ?_⟩
          have tu7 : Tups H6 (upd H6 fo (.lst (ys ++ [.ref t1]))) := tups_upd (u6 _ _ hfo5) (fun _ z => by cases z)
          have sm7 : Same H (upd H6 fo (.lst (ys ++ [.ref t1]))) := fun z o kz => by rw [upd_ne (ne_of_none kz nfo')]; exact u6 _ _ (sm5 z o kz)
          have hfo7 : (upd H6 fo (.lst (ys ++ [.ref t1]))) fo = some (.lst (ys ++ [.ref t1])) := upd_same
          have hwt7 : (upd H6 fo (.lst (ys ++ [.ref t1]))) wt = some (.lst zs) := by rw [upd_ne nfw.symm]; exact u6 _ _ hwt5
          have m7 := tu7 _ _ m6
          have T7 := (Tups.of u6).trans tu7
          generalize upd H6 fo (.lst (ys ++ [.ref t1])) = H7 at tu7 sm7 hfo7 hwt7 m7 T7 ⊢
          -- waiting.append((part[0], depth + 1, part))
          refine ⟨_, rfl, .inl ⟨rfl, _, SqL.of hwt7⟩, _, rfl, ax, _, _, _, rfl, rfl, SqT.of (sm7 _ _ hax), atI_nat (j := 0) rfl, _, rfl, _, _, rfl, rfl, _, rfl, (by show 3 ≤ sizeLine; decide), fun t2 nt2 => ?_⟩
          have u8 := same_new nt2 (.tup [xl, .int ((n : Nat) + 1), .ref ax])
          have m8 : (upd H7 t2 (.tup [xl, .int ((n : Nat) + 1), .ref ax])) t2 = some (.tup [xl, .int ((n : Nat) + 1), .ref ax]) := upd_same
          generalize upd H7 t2 (.tup [xl, .int ((n : Nat) + 1), .ref ax]) = H8 at u8 m8 ⊢
          refine ⟨wt, zs, _, rfl, rfl, u8 _ _ hwt7, (by rw [hzl]; exact small1000' (by omega)), ?_⟩
          have tu9 : Tups H8 (upd H8 wt (.lst (zs ++ [.ref t2]))) := tups_upd (u8 _ _ hwt7) (fun _ z => by cases z)
          have sm9 : Same H (upd H8 wt (.lst (zs ++ [.ref t2]))) := fun z o kz => by rw [upd_ne (ne_of_none kz nwt')]; exact u8 _ _ (sm7 z o kz)
          have hwt9 : (upd H8 wt (.lst (zs ++ [.ref t2]))) wt = some (.lst (zs ++ [.ref t2])) := upd_same
          have hfo9 : (upd H8 wt (.lst (zs ++ [.ref t2]))) fo = some (.lst (ys ++ [.ref t1])) := by rw [upd_ne nfw]; exact u8 _ _ hfo7
          have m9 := tu9 _ _ m8
          have T9 := (T7.trans (Tups.of u8)).trans tu9
          have m79 := tu9 _ _ (u8 _ _ m7)
          generalize upd H8 wt (.lst (zs ++ [.ref t2])) = H9 at tu9 sm9 hwt9 hfo9 m9 T9 m79 ⊢
          -- waiting.append((part[2], depth + 1, part))
          refine ⟨_, rfl, .inl ⟨rfl, _, SqL.of hwt9⟩, _, rfl, ax, _, _, _, rfl, rfl, SqT.of (sm9 _ _ hax), atI_nat (j := 2) rfl, _, rfl, _, _, rfl, rfl, _, rfl, (by show 3 ≤ sizeLine; decide), fun t3 nt3 => ?_⟩
          have ua := same_new nt3 (.tup [xr, .int ((n : Nat) + 1), .ref ax])
          have ma : (upd H9 t3 (.tup [xr, .int ((n : Nat) + 1), .ref ax])) t3 = some (.tup [xr, .int ((n : Nat) + 1), .ref ax]) := upd_same
          generalize upd H9 t3 (.tup [xr, .int ((n : Nat) + 1), .ref ax]) = Ha at ua ma ⊢
          refine ⟨wt, zs ++ [.ref t2], _, rfl, rfl, ua _ _ hwt9, (by rw [List.length_append, hzl]; exact small1000' (by show st.length + 1 ≤ 4000; omega)), ?_⟩
          have tub : Tups Ha (upd Ha wt (.lst ((zs ++ [.ref t2]) ++ [.ref t3]))) := tups_upd (ua _ _ hwt9) (fun _ z => by cases z)
          have Tb := (T9.trans (Tups.of ua)).trans tub
          have smb : Same H (upd Ha wt (.lst ((zs ++ [.ref t2]) ++ [.ref t3]))) := fun z o kz => by rw [upd_ne (ne_of_none kz nwt')]; exact ua _ _ (sm9 z o kz)
          refine ⟨nsW (st ++ [(l, n + 1, some (.node l k mm r)), (r, n + 1, some (.node l k mm r))]), ?_, st ++ [(l, n + 1, some (.node l k mm r)), (r, n + 1, some (.node l k mm r))], acc ++ [(.node l k mm r, n, ab)], _, ys ++ [.ref t1], _, _, _, rfl, rfl, upd_same, ?_, ?_, ?_, smb, ?_, ?_⟩
          · rw [nsW_snoc]
            show _ < nsW st + (2 * (T.node l k mm r).items.length + 1)
            rw [hil]
            simp only [nsW, List.map_append, List.sum_append, List.map_cons, List.map_nil, List.sum_cons, List.sum_nil]
            omega
          · have e9 : zs ++ [V.ref t2, V.ref t3] = (zs ++ [V.ref t2]) ++ [V.ref t3] := by rw [List.append_assoc]; rfl
            refine Eq.mp (congrArg (Paired _ _) e9) ?_
            exact paired_app (nents_tups hzs5 Tb) (.cons ⟨t2, xl, _, rfl, tub _ _ (ua _ _ m9), il, hx⟩ (.cons ⟨t3, xr, _, rfl, tub _ _ ma, ir, hx⟩ .nil))
          · rw [upd_ne nfw]
            exact ua _ _ hfo9
          · exact paired_app (nents_tups hacc5 Tb) (.cons ⟨t1, _, _, rfl, tub _ _ (ua _ _ m79), hx, hy⟩ .nil)
          · simp only [nsW, List.map_append, List.sum_append, List.map_cons, List.map_nil, List.sum_cons, List.sum_nil, List.length_append, List.length_cons, List.length_nil] at hsz ⊢
            omega
          · rw [hv]
            simp [below, T.nodes]
      · have e : st = [] := by
          cases st with
          | nil => rfl
          | cons z zs =>
            cases hst with
            | cons _ _ => cases c
        subst e
        have hv : t.nodes 1 none = acc ++ [] := hv
        rw [List.append_nil] at hv
        refine ⟨_, rfl, q t rfl ht fo ys H' nfo' hfo ?_ sm⟩
        rw [hv]
        exact hacc
end
end K40
namespace K40
open PySem PySem.Spec PyProof.Rows L2 Xc Dt
/-! ### the items -/
def T.kv : T → Int × Int
  | .nil => (0, 0)
  | .node _ k m _ => (k, m)
theorem nodes_perm : ∀ (t : T) (n : Nat) (ab : Option T), ((t.nodes n ab).map fun e => e.1.kv).Perm t.items
  | .nil, _, _ => List.Perm.refl _
  | .node l k m r, n, ab => by
    show ((k, m) :: ((r.nodes (n + 1) _ ++ l.nodes (n + 1) _).map fun e => e.1.kv)).Perm (l.items ++ (k, m) :: r.items)
    rw [List.map_append]
    refine (List.Perm.cons _ ((nodes_perm r _ _).append (nodes_perm l _ _))).trans ?_
    exact (List.Perm.cons _ List.perm_append_comm).trans List.perm_middle.symm
theorem nodes_node : ∀ (t : T) (n : Nat) (ab : Option T), ∀ e ∈ t.nodes n ab, ∃ l k m r, e.1 = .node l k m r
  | .nil, _, _, e, h => by cases h
  | .node l k m r, n, ab, e, h => by
    rcases List.mem_cons.mp h with rfl | h
    · exact ⟨l, k, m, r, rfl⟩
    · rcases List.mem_append.mp h with h | h
      · exact nodes_node r _ _ e h
      · exact nodes_node l _ _ e h
/-- the pair of ints that stands at v -/
def pairAt (H : Hp) : V → Int × Int
  | .ref t => match H t with
    | some (.tup [.int a, .int b]) => (a, b)
    | _ => (0, 0)
  | _ => (0, 0)
theorem pairAt_is {H : Hp} {p : Int × Int} {v : V} (h : Is H (itemD p) v) : pairAt H v = p ∧ ∃ t, v = .ref t ∧ H t = some (.tup [.int p.1, .int p.2]) := by
  obtain ⟨a, xs, rfl, e, x, r, rfl, i1, y, r2, rfl, i2, hn⟩ := h
  cases (show r2 = [] from hn)
  cases (show x = V.int p.1 from i1)
  cases (show y = V.int p.2 from i2)
  refine ⟨?_, a, rfl, e⟩
  show (match H a with
    | some (.tup [.int a, .int b]) => (a, b)
    | _ => (0, 0)) = p
  rw [e]
theorem is_pair {H : Hp} {p : Int × Int} {t : Addr} (e : H t = some (.tup [.int p.1, .int p.2])) : Is H (itemD p) (.ref t) := ⟨t, _, rfl, e, _, _, rfl, rfl, _, _, rfl, rfl, rfl⟩
theorem sorted_items {l m : List (Int × Int)} (hl : l.Pairwise fun x y => SrtO.lexB y x = false) (hm : Asc m) (p : l.Perm m) : l = m := by
  refine List.Perm.eq_of_pairwise (le := fun x y => SrtO.lexB y x = false) (fun a b _ _ h1 h2 => ?_) hl (hm.imp fun {a b} h => SrtO.lexB_no.mpr (by omega)) p
  have e1 := SrtO.lexB_no.mp h1
  have e2 := SrtO.lexB_no.mp h2
  exact Prod.ext (by omega) (by omega)
theorem are_map {H : Hp} {f : V → D} : ∀ {ys : List V}, (∀ y ∈ ys, Is H (f y) y) → Are H (ys.map f) ys
  | [], _ => rfl
  | y :: ys, h => ⟨y, ys, rfl, h y List.mem_cons_self, are_map fun z hz => h z (List.mem_cons_of_mem _ hz)⟩
section
variable {P : Program} {w : World} {K : PySem.W.Frag} {mg : Str → Option Value} {base : Heap} {f : Addr} {fd : FuncData}
def spAll (C : Addr) : Sp := fun vs H Q E => ∃ (d : D) (v : V), vs = [v] ∧ Is H d v ∧ D.wt d ≤ 3000 ∧
  (∀ t : T, d = t.d → Told t → ∀ p xs H', H p = none → H' p = some (.tup xs) → Are H' (t.items.map itemD) xs → Same H H' → Q (.ref p) H') ∧ (¬ Valid d → Bad C v H E)
theorem sc10 : FnScope ["tree", "part", "depth", "above"] ["tree"] (defScope (top 10)) := ⟨rfl, rfl, rfl, by decide +kernel, rfl, by decide +kernel, by decide +kernel⟩
theorem take_snoc {α : Type} {l : List α} {i : Nat} {x : α} (h : l[i]? = some x) : l.take (i + 1) = l.take i ++ [x] := by
  rw [List.take_add_one, h]
  rfl
theorem paired_at {α β : Type} {R : α → β → Prop} : ∀ {l : List α} {xs : List β} {i : Nat} {x : β}, Paired R l xs → xs[i]? = some x → ∃ a, l[i]? = some a ∧ R a x
  | _, _, i, x, .nil, h => by cases i <;> cases h
  | _, _, 0, x, .cons r _, h => by cases h; exact ⟨_, rfl, r⟩
  | _, _, i + 1, x, .cons _ t, h => by
    obtain ⟨a, e, r⟩ := paired_at (i := i) t (by simpa using h)
    exact ⟨a, by simpa using e, r⟩
theorem ok_all {g U C : Addr} {gd : FuncData} (F : Fun K "all_items" "all_items" (top 10) f fd) (N : Nm mg) (mS : mg "sorted" = none) (G : FnOk P w K mg base (L2.CX P w) 5 g gd ["tree"] (spNodes C)) (bG : Binds K gd ["tree"] []) (kG : PySem.W.keepIn K (.ref g) = true) (mG : mg "nodes_of" = some (.ref g)) :
    FnOk P w K mg base (L2.CX P w) 6 f fd ["tree"] (spAll C) := by
  refine F.okX sc10 (fun vs H Q E h => ?_) (fun cdv A outer s H vs Q E hr h => ?_)
  · obtain ⟨d, v, rfl, _⟩ := h
    rfl
  obtain ⟨d, v, rfl, hd, hw, q, bad⟩ := h
  refine ⟨_, pss_one (ps_ret (pe_callTy call_tuple_of (by rfl) N.tuple (by decide +kernel) (pa_cons (pe_callB cr_sortedPO (by rfl) mS (by decide +kernel) (pa_cons
    (pe_lc (own := [("part", 1), ("depth", 2), ("above", 3)]) (g := gTup K 3 (gCons (gName 1) (gCons (gName 2) (gCons (gName 3) gNil)))) (tt := tYes) rfl sc10.nd
      (pi_list (pe_call G hr rfl mG kG bG .nil (passes_call (takes_of rfl rfl rfl rfl) (fun _ _ _ _ z => z)) (pa_cons (pv 0) pa_nil))) (blkOk_by (N := ["tree", "part", "depth", "above"]) (sc := defScope (top 10)) (by decide +kernel))
      (fun _ _ _ _ _ => pg_tup rfl (pgs_cons (pg_name (i := 1) sc10.nd rfl (.inl rfl)) (pgs_cons (pg_name (i := 2) sc10.nd rfl (.inl rfl)) (pgs_cons (pg_name (i := 3) sc10.nd rfl (.inl rfl)) pgs_nil))))
      (fun _ _ _ _ _ => pts_nil) (fun _ _ _ _ _ => pe_ix (show IxR _ (rIxT K) from ix_tup) (pv 1) pe_int (fun _ _ => rfl))) pa_nil)) pa_nil))), ?_⟩
  refine ⟨_, rfl, d, v, rfl, hd, hw, fun t e ht p xs H1 np hp hx s1 => ?_, fun nv => bad nv⟩
  subst e
  have hlen : (t.nodes 1 none).length = t.items.length := nodes_len t 1 none
  have hitems : 2 * t.items.length + 1 ≤ 3000 := by rw [← T.d_wt]; exact hw
  have hxl : xs.length = t.items.length := by rw [← hlen]; exact (Paired.length hx).symm
  refine ⟨p, rfl, ⟨_, SqL.of hp⟩, fun Da nD => lc_list (K := K) (a := p) (xs := xs) (fun i Hc => (∃ zs, Hc Da = some (.lst zs) ∧ Paired (fun (n : N3) z => Is H (itemD n.1.kv) z) ((t.nodes 1 none).take i) zs) ∧ Same H1 Hc)
    ⟨⟨[], upd_same, .nil⟩, same_new nD _⟩ (fun i Hc _ h => h.2.seq (SqL.of hp)) ?_ ?_⟩
  · rintro i x Hc hi ⟨⟨zs, hz, hzs⟩, sc⟩
    obtain ⟨e, he, a, x0, y0, rfl, ha, hx0, hy0⟩ := paired_at hx hi
    obtain ⟨l, k, m, r, e1⟩ := nodes_node t 1 none e (List.mem_of_getElem? he)
    obtain ⟨p0, n0, ab⟩ := e
    cases (show p0 = _ from e1)
    obtain ⟨ax, xs0, rfl, hax, xl, r0, rfl, il, xi, r1', rfl, ii, xr, r2', rfl, ir, hn⟩ := id hx0
    have hil : i < t.items.length := by
      have := (List.getElem?_eq_some_iff.mp he).1
      omega
    have hzl : zs.length ≤ i := by
      rw [← Paired.length hzs, List.length_take]
      exact Nat.min_le_left _ _
    refine ⟨a, _, rfl, SqT.of (sc _ _ ha), rfl, _, _, rfl, _, _, rfl, _, _, rfl, rfl, rfl, ?_⟩
    refine ⟨_, rfl, ax, _, _, _, rfl, rfl, SqT.of (sc _ _ (s1 _ _ hax)), atI_nat (j := 1) rfl, zs, hz, small1000' (by omega), ⟨_, upd_same, ?_⟩, fun b o eb => ?_⟩
    · rw [take_snoc he]
      exact paired_app hzs (.cons ii .nil)
    · rw [upd_ne (ne_of_none eb nD)]
      exact sc b o eb
  · rintro Hd ⟨⟨zs, hz, hzs⟩, sd⟩
    rw [hxl, ← hlen, List.take_length] at hzs
    have SH := s1.trans sd
    have hmem : ∀ z ∈ zs, Is Hd (itemD (pairAt Hd z)) z := fun z hz2 => by
      obtain ⟨i, hi, e⟩ := List.mem_iff_getElem.mp hz2
      obtain ⟨n, _, hn⟩ := paired_at hzs (List.getElem?_eq_some_iff.mpr ⟨hi, e⟩)
      have hn2 := hn.same SH
      rw [(pairAt_is hn2).1]
      exact hn2
    have hmap : zs.map (pairAt Hd) = (t.nodes 1 none).map fun e => e.1.kv := by
      clear hz hmem hx hxl
      revert hzs
      generalize t.nodes 1 none = ns
      intro hzs
      induction hzs with
      | nil => rfl
      | cons h _ ih => rw [List.map_cons, List.map_cons, ih, (pairAt_is (h.same SH)).1]
    refine ⟨Da, zs, pairAt Hd, rfl, SqL.of hz, fun z hz2 => ?_, fun ys r srt stb nr => ?_⟩
    · obtain ⟨t2, e1, e2⟩ := (pairAt_is (hmem z hz2)).2
      exact ⟨t2, e1, e2⟩
    · have u5 := same_new nr (.lst ys)
      refine ⟨r, ys, rfl, .inl ⟨SqL.of upd_same, fun o no => ?_⟩⟩
      have u6 := same_new no (.tup ys)
      have eq : ys.map (pairAt Hd) = t.items := by
        refine sorted_items ?_ ht.1 ?_
        · exact List.pairwise_map.mpr srt
        · refine (stb.perm.map (pairAt Hd)).trans ?_
          rw [hmap]
          exact nodes_perm t 1 none
      refine q t rfl ht o ys _ (s1.free (sd.free (u5.free no))) upd_same ?_ (((s1.trans sd).trans u5).trans u6)
      rw [← eq, List.map_map]
      exact Are.same (u5.trans u6) (are_map fun y hy => hmem y (stb.perm.mem_iff.mp hy))
/-! ### number_in -/
end
end K40
namespace Dt
open PySem PySem.Spec PyProof.Rows L2 Xc
theorem depth_ints : ∀ ns : List Int, PyData.depthAll (ns.map PyData.int) ≤ 1 := by
  intro ns
  induction ns with
  | nil => decide
  | cons n r ih =>
    rw [List.map_cons, PyData.depthAll]
    rw [PyData.depth]
    omega
theorem reads_ints {h : Heap} : ∀ {ns : List Int} {us : List Value}, Vals (ns.map V.int) us → ReadsAll h us (ns.map PyData.int) ((ns.map fun _ => ([] : List Addr)).flatten)
  | [], _, r => by cases r; exact .nil
  | n :: ns, _, r => by
    cases r with
    | cons r1 r2 =>
      obtain ⟨t, rfl⟩ := r1
      exact .cons (.int n t) (reads_ints r2)
/-- max(xs, default=d), xs a list of ints -/
def rMaxD (K : PySem.W.Frag) : List V → List V → Hp → VK → Prop := fun vs zs H Q => ∃ (p : Addr) (ns : List Int) (d : Int), vs = [.ref p] ∧ zs = [.int d] ∧ SqL K H p (ns.map V.int) ∧ Q (.int (match ns with | [] => d | n :: r => r.foldl max n)) H
theorem call_maxD {X : Cx} (hc : X.calm = true) (hu : X.A.units + 64 < cLine) : CallRK X (.builtin "max") ["default"] (rMaxD X.K) := by
  intro pins s σ H vs zs us ws Q I r1 r2 h
  obtain ⟨p, ns, d, rfl, rfl, hs, q⟩ := h
  obtain ⟨u, rfl, ru⟩ := vals1 r1
  cases ru
  obtain ⟨z, rfl, rz⟩ := vals1 r2
  obtain ⟨its, rv, hl, _⟩ := I.list hs
  have hd := depth_ints ns
  refine PySem.W.max_list_default (I.ok.hd hc) hl.isList (xs := ns.map PyData.int) (by simpa using reads_ints rv) ?_ (by omega) (fun e h' tk k => ?_) fun y ys i v h' tk bs e hv hr k => ?_
  · refine ⟨fun x hx y hy => ?_, fun x hx => ?_⟩
    · obtain ⟨a, _, rfl⟩ := List.mem_map.mp hx
      obtain ⟨b, _, rfl⟩ := List.mem_map.mp hy
      rfl
    · obtain ⟨a, _, rfl⟩ := List.mem_map.mp hx
      intro z
      cases z
  · cases ns with
    | nil => exact ⟨.int d, H, I.kept k, rz, q⟩
    | cons _ _ => cases e
  · cases ns with
    | nil => cases e
    | cons n r =>
      obtain ⟨rfl, rfl⟩ := List.cons.inj e
      rw [PySem.W.maxD_ints] at hr
      cases hr with
      | int i t => exact ⟨.int _, H, I.kept k, ⟨_, rfl⟩, q⟩
end Dt
/-! for i, x in enumerate(t), t a tuple. -/
namespace Dt
open PySem PySem.Spec PyProof.Rows L2 Xc
section
variable {prog : Program} {w : World} {A : Around} {E : Value → Shared → Prop} {s : Shared}
set_option maxHeartbeats 1000000 in
theorem new_enumT (t : Addr) (items : Array Value) : Meets (Builtin.«enumerate.__new__» ⟨[.type "enumerate", .ref t], []⟩) (fun _ R s => s.heap.IsTuple t items ∧
    R (.ok (.ret (.ref (s.heap.push { cls := .type "tuple_iterator", data := .fields #[.ref t, .int 0 0] }).objs.size)))
      { s with heap := (s.heap.push { cls := .type "tuple_iterator", data := .fields #[.ref t, .int 0 0] }).push { cls := .type "enumerate", data := .fields #[.none, .bool false, .ref s.heap.objs.size, rawInt 0, .none, .none] } }) :=
  .of_wp fun prog w A R s h => by
    obtain ⟨hp, g, d, tk, os⟩ := s
    obtain ⟨ht, h⟩ := h
    have hsub := sub_enumerate
    have q1 : ∀ {A' : Around} {E : Value → Shared → Prop} {Q : Value → Shared → Prop}, Q (.ref hp.objs.size) ⟨hp.push { cls := .type "tuple_iterator", data := .fields #[.ref t, .int 0 0] }, g, d, tk, os⟩ → wpAny (model prog w) A' (pyIter (.ref t)) Q E ⟨hp, g, d, tk, os⟩ := fun q => wpAny_pyIter_tuple ht q
    wp_walk using q1
    refine wpAny_stack_any fun st => wpAny_pure ?_
    split
    · rename_i c _ _ _ _ _
      cases (c == Value.type "enumerate")
      · wp_walk using q1
        exact ⟨_, rfl, h⟩
      · wp_walk using q1
        exact ⟨_, rfl, h⟩
    · wp_walk using q1
      exact ⟨_, rfl, h⟩
theorem call_enumT {t : Addr} {items : Array Value} {Q : Value → Shared → Prop} (ht : s.heap.IsTuple t items)
    (h : ∀ h', IsEnum h' (s.heap.objs.size + 1) s.heap.objs.size 0 .none → h'.IsTupleIter s.heap.objs.size t 0 → (∀ b o, s.heap.get? b = some o → h'.get? b = some o) → Q (.ref (s.heap.objs.size + 1)) { s with heap := h' }) :
    wpAny (model prog w) A (call (.type "enumerate") [.ref t]) Q E s := by
  refine callType_new F.called_enumerate (by decide) (F.typeCall_enumerate_1 _) (F.newCall_enumerate_1 _) (fun obj => F.args_object_init_2 obj _) F.entry_enumerate_new (new_enumT t items) ⟨ht, ?_⟩
  have hz : (s.heap.push { cls := .type "tuple_iterator", data := .fields #[.ref t, .int 0 0] }).objs.size = s.heap.objs.size + 1 := Heap.size_push ..
  show _ ∧ _
  rw [hz]
  have he : IsEnum ((s.heap.push { cls := .type "tuple_iterator", data := .fields #[.ref t, .int 0 0] }).push { cls := .type "enumerate", data := .fields #[.none, .bool false, .ref s.heap.objs.size, rawInt 0, .none, .none] }) (s.heap.objs.size + 1) s.heap.objs.size 0 .none := by
    have z := Heap.get?_push_size (s.heap.push { cls := .type "tuple_iterator", data := .fields #[.ref t, .int 0 0] }) (o := { cls := .type "enumerate", data := .fields #[.none, .bool false, .ref s.heap.objs.size, rawInt 0, .none, .none] }) rfl
    rw [hz] at z
    exact z
  exact ⟨⟨_, he, rfl⟩, h _ he ⟨_, Heap.get?_push_of_some _ (Heap.get?_push_size _ rfl), rfl, rfl⟩ fun b o x => Heap.get?_push_of_some _ (Heap.get?_push_of_some _ x)⟩
end
/-- the items of the tuple at a, each in a new pair with its place -/
def IteT (K : PySem.W.Frag) (a : Addr) (xs : List V) : It :=
  ⟨fun i H => i < xs.length ∧ SqT K H a xs, fun i H v H' => ∃ T x, v = .ref T ∧ H T = none ∧ H' = upd H T (.tup [.int (i : Nat), x]) ∧ xs[i]? = some x, fun i H => i = xs.length ∧ SqT K H a xs⟩
theorem turn_enumT {P : Program} {w : World} {K : PySem.W.Frag} {elts : List Expr} {kk : Nat} {tpos : Pos} (a e it : Addr) (xs : List V) :
    Turn P w K (.Tuple elts kk tpos) (IteT K a xs) [e, it] e (fun i h => (∃ old, IsEnum h e it ((i : Nat) : Int) old) ∧ h.IsTupleIter it a i ∧ e ≠ it ∧ a ≠ it ∧ a ≠ e) where
  mem := by simp
  obj := fun i h st b hb => by
    obtain ⟨⟨old, he⟩, ⟨o, ho, hc, hd⟩, _⟩ := st
    have e' : b = e ∨ b = it := by simpa using hb
    rcases e' with z | z
    · rw [z]; exact ⟨_, he, fun v q => nomatch q⟩
    · rw [z]; exact ⟨o, ho, fun v q => by rw [hd] at q; cases q⟩
  keep := fun i h h' st k => let ⟨⟨old, he⟩, hi, hne⟩ := st; ⟨⟨old, k e (by simp) _ he⟩, hi.at fun o q => k it (by simp) o q, hne⟩
  item := by
    intro X hP hw hK hc i pins s σ H E I hf st hg
    subst hP hw hK
    obtain ⟨⟨old, he⟩, hit, hne, hai, hae⟩ := st
    obtain ⟨hlt, hq⟩ := hg
    obtain ⟨its, rv, p, hz⟩ := I.tuple hq
    have hlen := rv.length
    have hel : e < s.heap.objs.size := Heap.lt_size he
    have hil : it < s.heap.objs.size := by obtain ⟨_, q, _⟩ := hit; exact Heap.lt_size q
    refine wpAny_pyNext_enum_itemD (Draws.tuple (A := X.A.in1) (I.ok.hd hc) it a hai its.toArray) he ⟨hit, p⟩ (by simpa [← hlen] using hlt) hne (by simp [hne, hae.symm]) fun u h' tk hu ho hit' hT hsz hk => ?_
    have hu : its[i]? = some u := by simpa using hu
    obtain ⟨x, hx, ru⟩ : ∃ x, xs[i]? = some x ∧ RelV x u := by
      obtain ⟨u2, h2, r2⟩ := rv.get (List.getElem?_eq_getElem hlt)
      rw [hu] at h2
      cases h2
      exact ⟨_, List.getElem?_eq_getElem hlt, r2⟩
    refine ⟨_, rfl, wpAny_letOwnedTupleGo_enum (s := { s with heap := h', toks := tk + 1 }) ho fun h'' he' sb => ?_⟩
    have hT2 : h''.get? s.heap.objs.size = some { cls := .type "tuple", data := .seq #[.int i tk, u] } := (sb.2 _ (Nat.ne_of_gt hel)).trans hT
    have new : ObjOk X.prog X.w (upd H s.heap.objs.size (.tup [.int (i : Nat), x])) h'' s.heap.objs.size (.tup [.int (i : Nat), x]) :=
      ⟨by show 2 ≤ sizeLine; decide, [.int i tk, u], .cons ⟨_, rfl⟩ (.cons ru .nil), ⟨_, hT2, rfl, _, rfl⟩⟩
    have I1 : Inv X pins σ (upd H s.heap.objs.size (.tup [.int (i : Nat), x])) { s with heap := h'', toks := tk + 1 } :=
      I.turnedNew (ch := [e, it]) (fun b ob hb q => (sb.2 b (fun z => hb (by simp [z]))).trans (hk b ob (fun z => hb (by simp [z])) (fun z => hb (by simp [z])) q)) hf (Nat.le_refl _) new
    refine ⟨.ref s.heap.objs.size, _, I1, rfl, ⟨_, x, rfl, I.hok.fresh (Nat.le_refl _), rfl, hx⟩, ⟨⟨u, ?_⟩, hit'.1.at fun o q => (sb.2 it (Ne.symm hne)).trans q, hne, hai, hae⟩, fun b hb => ?_⟩
    · have e1 : ((i + 1 : Nat) : Int) = (i : Int) + 1 := by omega
      rw [e1]; exact he'
    · have hb' : b < s.heap.objs.size := by
        have e' : b = e ∨ b = it := by simpa using hb
        rcases e' with z | z
        · rw [z]; exact hel
        · rw [z]; exact hil
      rw [upd_ne (Nat.ne_of_lt hb')]
      exact (hf b hb).1
  done := by
    intro X hP hw hK hc i pins s σ H E I hf st hg
    subst hP hw hK
    obtain ⟨⟨old, he⟩, hit, hne, hai, hae⟩ := st
    obtain ⟨rfl, hq⟩ := hg
    obtain ⟨its, rv, p, hz⟩ := I.tuple hq
    obtain ⟨f0, f1, f2, f3, f4, f5⟩ := hf it (by simp)
    have hl := rv.length
    exact wpAny_pyNext_enum_endD (Draws.tuple (A := X.A.in1) (I.ok.hd hc) it a hai its.toArray) he ⟨by simpa [← hl] using hit, p⟩ fun h' eb => ⟨rfl, I.turned (t' := s.toks) (fun b o hb q => eb b o hb q) f0 f1 f3 f4 f5⟩
  self := fun A i s Q E st h => let ⟨⟨_, he⟩, _⟩ := st; wpAny_pyIter_enum he h
def iEnumT (K : PySem.W.Frag) (ta : TA) : TI := fun σ H R => ta σ H fun vs H1 => ∃ a xs, vs = [.ref a] ∧ SqT K H1 a xs ∧ R (IteT K a xs) H1
theorem pi_enumT {X : Cx} {e : Expr} {ta : TA} {p pos tpos : Pos} {elts : List Expr} {kk : Nat} (hg : Gl X "enumerate") (hm : X.mg "enumerate" = none) (ha : PA X [e] ta) (hs : starEach [e] X.env = [(false, eval e X.env)] := by rfl) :
    PI X (.Tuple elts kk tpos) (.Call (.Name "enumerate" p) [e] [] pos) (iEnumT X.K ta) := by
  refine ⟨fun pins s σ H R I h => ?_⟩
  refine Call_ (ld_blt I hg hm boot_enumerate (PyProof.Rows.callWith_type1 (thn (ha.run pos pins s σ H _ I h) fun us s1 ⟨vs, H1, I1, r1, q1⟩ => ?_) hs rfl))
  obtain ⟨a, xs, ex, hq, q⟩ := q1
  subst ex
  obtain ⟨u, rfl, ru⟩ := vals1 r1
  cases ru
  obtain ⟨its, rv, p', hz⟩ := I1.tuple hq
  have hal : a < s1.heap.objs.size := p'.lt
  refine call_enumT p' fun h' he hit hk => wpAny_pyIter_enum he ?_
  have I2 : Inv X pins σ H1 { s1 with heap := h' } := I1.kept (t' := s1.toks) hk
  refine ⟨s1.heap.objs.size + 1, [s1.heap.objs.size + 1, s1.heap.objs.size], _, _, H1, rfl, I2, turn_enumT a (s1.heap.objs.size + 1) s1.heap.objs.size xs, ⟨⟨.none, he⟩, hit, Nat.succ_ne_self _, Nat.ne_of_lt hal, Nat.ne_of_lt (Nat.lt_succ_of_lt hal)⟩, fun b hb => ?_, q⟩
  have e' : b = s1.heap.objs.size + 1 ∨ b = s1.heap.objs.size := by simpa using hb
  have hle : s1.heap.objs.size ≤ b := by
    rcases e' with z | z
    · rw [z]; exact Nat.le_succ _
    · rw [z]; exact Nat.le_refl _
  exact I1.fpOk hle (I1.hok.fresh hle)
end Dt
namespace K40
open PySem PySem.Spec PyProof.Rows L2 Xc Dt
/-! ### the height -/
theorem nodes_max : ∀ (t : T) (n : Nat) (ab : Option T) (x : Int), ((t.nodes n ab).map fun e => (e.2.1 : Int)).foldl max x = if t = .nil then x else max x ((n + t.ht : Nat) - 1 : Int)
  | .nil, _, _, _ => by rw [if_pos rfl]; rfl
  | .node l k m r, n, ab, x => by
    rw [if_neg (by intro h; cases h)]
    show (((r.nodes (n + 1) _ ++ l.nodes (n + 1) _).map fun e => (e.2.1 : Int))).foldl max (max x (n : Nat)) = max x ((n + (1 + max l.ht r.ht) : Nat) - 1 : Int)
    rw [List.map_append, List.foldl_append, nodes_max r, nodes_max l]
    have hl : l = .nil → l.ht = 0 := fun h => by rw [h]; rfl
    have hr : r = .nil → r.ht = 0 := fun h => by rw [h]; rfl
    have pl : l ≠ .nil → 1 ≤ l.ht := fun h => by
      cases l with
      | nil => exact absurd rfl h
      | node _ _ _ _ => show 1 ≤ 1 + _; omega
    have pr : r ≠ .nil → 1 ≤ r.ht := fun h => by
      cases r with
      | nil => exact absurd rfl h
      | node _ _ _ _ => show 1 ≤ 1 + _; omega
    by_cases c1 : l = .nil
    · by_cases c2 : r = .nil
      · rw [if_pos c1, if_pos c2, hl c1, hr c2]
        omega
      · rw [if_pos c1, if_neg c2, hl c1]
        have := pr c2
        omega
    · by_cases c2 : r = .nil
      · rw [if_neg c1, if_pos c2, hr c2]
        have := pl c1
        omega
      · rw [if_neg c1, if_neg c2]
        have := pl c1
        have := pr c2
        omega
theorem height_max (t : T) : (match (t.nodes 1 none).map (fun e => (e.2.1 : Int)) with | [] => 0 | n :: r => r.foldl max n) = ((t.ht : Nat) : Int) := by
  cases t with
  | nil => rfl
  | node l k m r =>
    have h := nodes_max (.node l k m r) 1 none 1
    rw [if_neg (by intro h; cases h)] at h
    have e : (T.node l k m r).nodes 1 none = (T.node l k m r, 1, none) :: (r.nodes (1 + 1) (some (T.node l k m r)) ++ l.nodes (1 + 1) (some (T.node l k m r))) := rfl
    rw [e] at h ⊢
    show ((r.nodes (1 + 1) (some (T.node l k m r)) ++ l.nodes (1 + 1) (some (T.node l k m r))).map fun e => (e.2.1 : Int)).foldl max ((1 : Nat) : Int) = _
    have h2 : ((r.nodes (1 + 1) (some (T.node l k m r)) ++ l.nodes (1 + 1) (some (T.node l k m r))).map fun e => (e.2.1 : Int)).foldl max (max 1 ((1 : Nat) : Int)) = max 1 ((1 + (T.node l k m r).ht : Nat) - 1 : Int) := h
    have e1 : max (1 : Int) ((1 : Nat) : Int) = ((1 : Nat) : Int) := by omega
    rw [e1] at h2
    rw [h2]
    have : 1 ≤ (T.node l k m r).ht := by show 1 ≤ 1 + _; omega
    omega
section
variable {P : Program} {w : World} {K : PySem.W.Frag} {mg : Str → Option Value} {base : Heap} {f : Addr} {fd : FuncData}
def spHeight (C : Addr) : Sp := fun vs H Q E => ∃ (d : D) (v : V), vs = [v] ∧ Is H d v ∧ D.wt d ≤ 3000 ∧
  (∀ t : T, d = t.d → Told t → ∀ H', Same H H' → Q (.int (t.ht : Nat)) H') ∧ (¬ Valid d → Bad C v H E)
theorem sc11 : FnScope ["tree", "part", "depth", "above"] ["tree"] (defScope (top 11)) := ⟨rfl, rfl, rfl, by decide +kernel, rfl, by decide +kernel, by decide +kernel⟩
theorem ok_height {g U C : Addr} {gd : FuncData} (F : Fun K "height" "height" (top 11) f fd) (mX : mg "max" = none) (G : FnOk P w K mg base (L2.CX P w) 5 g gd ["tree"] (spNodes C)) (bG : Binds K gd ["tree"] []) (kG : PySem.W.keepIn K (.ref g) = true) (mG : mg "nodes_of" = some (.ref g)) :
    FnOk P w K mg base (L2.CX P w) 6 f fd ["tree"] (spHeight C) := by
  refine F.okX sc11 (fun vs H Q E h => ?_) (fun cdv A outer s H vs Q E hr h => ?_)
  · obtain ⟨d, v, rfl, _⟩ := h
    rfl
  obtain ⟨d, v, rfl, hd, hw, q, bad⟩ := h
  have hu : (A.deeper (envOfC "height" (defScope (top 11)) s.heap.objs.size f cdv)).units + 64 < cLine := by have := hr.un; omega
  refine ⟨_, pss_one (ps_ret (pe_callBK (call_maxD rfl hu) (by rfl) mX (by decide +kernel) (pa_cons
    (pe_lc (own := [("part", 1), ("depth", 2), ("above", 3)]) (g := gTup K 3 (gCons (gName 1) (gCons (gName 2) (gCons (gName 3) gNil)))) (tt := tYes) rfl sc11.nd
      (pi_list (pe_call G hr rfl mG kG bG .nil (passes_call (takes_of rfl rfl rfl rfl) (fun _ _ _ _ z => z)) (pa_cons (pv 0) pa_nil))) (blkOk_by (N := ["tree", "part", "depth", "above"]) (sc := defScope (top 11)) (by decide +kernel))
      (fun _ _ _ _ _ => pg_tup rfl (pgs_cons (pg_name (i := 1) sc11.nd rfl (.inl rfl)) (pgs_cons (pg_name (i := 2) sc11.nd rfl (.inl rfl)) (pgs_cons (pg_name (i := 3) sc11.nd rfl (.inl rfl)) pgs_nil))))
      (fun _ _ _ _ _ => pts_nil) (fun _ _ _ _ _ => pv 2)) pa_nil) (pk_cons pe_int pk_nil))), ?_⟩
  refine ⟨_, rfl, d, v, rfl, hd, hw, fun t e ht p xs H1 np hp hx s1 => ?_, fun nv => bad nv⟩
  subst e
  have hlen : (t.nodes 1 none).length = t.items.length := nodes_len t 1 none
  have hitems : 2 * t.items.length + 1 ≤ 3000 := by rw [← T.d_wt]; exact hw
  have hxl : xs.length = t.items.length := by rw [← hlen]; exact (Paired.length hx).symm
  refine ⟨p, rfl, ⟨_, SqL.of hp⟩, fun Da nD => lc_list (K := K) (a := p) (xs := xs) (fun i Hc => Hc Da = some (.lst ((((t.nodes 1 none).take i).map fun e => (e.2.1 : Int)).map V.int)) ∧ Same H1 Hc)
    ⟨upd_same, same_new nD _⟩ (fun i Hc _ h => h.2.seq (SqL.of hp)) ?_ ?_⟩
  · rintro i x Hc hi ⟨hz, sc⟩
    obtain ⟨e, he, a, x0, y0, rfl, ha, hx0, hy0⟩ := paired_at hx hi
    have hil : i < t.items.length := by
      have := (List.getElem?_eq_some_iff.mp he).1
      omega
    refine ⟨a, _, rfl, SqT.of (sc _ _ ha), rfl, _, _, rfl, _, _, rfl, _, _, rfl, rfl, rfl, ?_⟩
    refine ⟨_, rfl, _, hz, (by rw [List.length_map, List.length_map, List.length_take]; exact small1000' (Nat.le_trans (Nat.min_le_left _ _) (by omega))), ?_, fun b o eb => ?_⟩
    · rw [upd_same, take_snoc he, List.map_append, List.map_append]
      rfl
    · rw [upd_ne (ne_of_none eb nD)]
      exact sc b o eb
  · rintro Hd ⟨hz, sd⟩
    rw [hxl, ← hlen, List.take_length] at hz
    refine ⟨Da, _, 0, rfl, rfl, SqL.of hz, ?_⟩
    have e0 := height_max t
    exact cast (congrArg (fun z => Q (.int z) Hd) e0.symm) (q t rfl ht Hd (s1.trans sd))
end
end K40
namespace Dt
open PySem PySem.Spec PyProof.Rows L2 Xc
/-- {.. for i, x in enumerate(t)}, t a tuple that stays -/
theorem dc_enumT {K : PySem.W.Frag} {a : Addr} {xs : List V} {g : TG} {tt : TT} {tk tv : TE} {vs : List Nat} {σ : L2.St} {H1 : Hp} {D : Addr} {Qd : Hp → Prop} (Pv : Nat → Hp → Prop) (h0 : Pv 0 (upd H1 D (.dK []))) (hl : ∀ i H, i ≤ xs.length → Pv i H → SqT K H a xs)
    (hs : ∀ i x H T, xs[i]? = some x → Pv i H → H T = none → g (.ref T) (wipe σ vs) (upd H T (.tup [.int (i : Nat), x])) fun σ2 H2 => wipe σ2 vs = wipe σ vs ∧ tt σ2 H2 fun b H3 =>
      if b = true then tk σ2 H3 fun y H4 => tv σ2 H4 fun z H5 => ∃ kvs k, y = kV k ∧ H5 D = some (.dK kvs) ∧ kvs.length < sizeLine ∧ Pv (i + 1) (upd H5 D (.dK (putK kvs k z))) else Pv (i + 1) H3) (hd : ∀ H, Pv xs.length H → Qd H) :
    ∃ W : Nat → Nat → Hp → Prop, (∃ m, W 0 m (upd H1 D (.dK []))) ∧ ∀ i m H, W i m H →
      ((IteT K a xs).stop i H ∧ Qd H) ∨ ((IteT K a xs).go i H ∧ ∃ Nx : Hp → Prop, (∀ H', Nx H' → ∃ m', m' < m ∧ W (i + 1) m' H') ∧ ∀ x H', (IteT K a xs).yld i H x H' → g x (wipe σ vs) H' fun σ2 H2 => wipe σ2 vs = wipe σ vs ∧ tt σ2 H2 fun b H3 =>
        if b = true then tk σ2 H3 fun y H4 => tv σ2 H4 fun z H5 => ∃ kvs k, y = kV k ∧ H5 D = some (.dK kvs) ∧ kvs.length < sizeLine ∧ Nx (upd H5 D (.dK (putK kvs k z))) else Nx H3) := by
  refine ⟨fun i m H => m = xs.length - i ∧ i ≤ xs.length ∧ Pv i H, ⟨xs.length, by simp, Nat.zero_le _, h0⟩, ?_⟩
  rintro i m H ⟨rfl, hi, p⟩
  have q := hl i H hi p
  by_cases hlt : i < xs.length
  · refine .inr ⟨⟨hlt, q⟩, Pv (i + 1), fun H' p' => ⟨xs.length - (i + 1), by omega, rfl, hlt, p'⟩, fun x H' y => ?_⟩
    obtain ⟨T, x, rfl, nT, rfl, hx⟩ := y
    exact hs i x _ T hx p nT
  · have e : i = xs.length := by omega
    subst e
    exact .inl ⟨⟨rfl, q⟩, hd H p⟩
end Dt
namespace K40
open PySem PySem.Spec PyProof.Rows L2 Xc Dt
/-! ### the numbers of nodes -/
def numL (l : List (Int × Int)) : List (Key × V) := l.mapIdx fun i p => ((.inl p.1 : Key), V.int (i : Nat))
theorem numL_len (l : List (Int × Int)) : (numL l).length = l.length := by simp [numL]
theorem numL_snoc (l : List (Int × Int)) (p : Int × Int) : numL (l ++ [p]) = numL l ++ [(.inl p.1, .int (l.length : Nat))] := by simp [numL, List.mapIdx_append]
theorem numL_none {l : List (Int × Int)} {k : Int} (h : ∀ p ∈ l, p.1 ≠ k) : valV (numL l) (.inl k) = none := by
  unfold valV
  rw [Option.map_eq_none_iff, List.find?_eq_none]
  intro e he
  obtain ⟨i, hi, rfl⟩ := List.mem_mapIdx.mp he
  have := h _ (List.getElem_mem hi)
  simpa using this
theorem numL_put {l : List (Int × Int)} {p : Int × Int} (h : ∀ q ∈ l, q.1 ≠ p.1) : putK (numL l) (.inl p.1) (.int (l.length : Nat)) = numL (l ++ [p]) := by
  rw [putK_new _ (numL_none h), numL_snoc]
theorem numL_at : ∀ (l m : List (Int × Int)) (p : Int × Int), (∀ q ∈ l, q.1 ≠ p.1) → valV (numL (l ++ p :: m)) (.inl p.1) = some (.int (l.length : Nat)) := by
  intro l m p h
  unfold numL
  rw [List.mapIdx_append]
  have e := numL_none h
  unfold numL at e
  unfold valV at e ⊢
  rw [Option.map_eq_none_iff] at e
  rw [List.find?_append, e, Option.none_or, List.mapIdx_cons, List.find?_cons_of_pos (by simp)]
  simp
/-- the number of the node at which t begins -/
def NumAt (kvs : List (Key × V)) (t : T) (r : V) : Prop := match t with
  | .nil => r = .non
  | .node _ k _ _ => valV kvs (.inl k) = some r
section
variable {P : Program} {w : World} {K : PySem.W.Frag} {mg : Str → Option Value} {base : Heap} {f : Addr} {fd : FuncData}
def spNums (C : Addr) : Sp := fun vs H Q E => ∃ (d : D) (v : V), vs = [v] ∧ Is H d v ∧ D.wt d ≤ 3000 ∧
  (∀ t : T, d = t.d → Told t → ∀ p H', H p = none → H' p = some (.dK (numL t.items)) → Same H H' → Q (.ref p) H') ∧ (¬ Valid d → Bad C v H E)
theorem sc12 : FnScope ["tree", "number", "item"] ["tree"] (defScope (top 12)) := ⟨rfl, rfl, rfl, by decide +kernel, rfl, by decide +kernel, by decide +kernel⟩
theorem ok_nums {g U C : Addr} {gd : FuncData} (F : Fun K "numbers_of" "numbers_of" (top 12) f fd) (mE : mg "enumerate" = none) (G : FnOk P w K mg base (L2.CX P w) 6 g gd ["tree"] (spAll C)) (bG : Binds K gd ["tree"] []) (kG : PySem.W.keepIn K (.ref g) = true) (mG : mg "all_items" = some (.ref g)) :
    FnOk P w K mg base (L2.CX P w) 7 f fd ["tree"] (spNums C) := by
  refine F.okX sc12 (fun vs H Q E h => ?_) (fun cdv A outer s H vs Q E hr h => ?_)
  · obtain ⟨d, v, rfl, _⟩ := h
    rfl
  obtain ⟨d, v, rfl, hd, hw, q, bad⟩ := h
  refine ⟨_, pss_one (ps_ret (pe_dc (own := [("number", 1), ("item", 2)]) (g := gTup K 2 (gCons (gName 1) (gCons (gName 2) gNil))) (tt := tYes) rfl sc12.nd
    (pi_enumT (by rfl) mE (pa_cons (pe_call G hr rfl mG kG bG .nil (passes_call (takes_of rfl rfl rfl rfl) (fun _ _ _ _ z => z)) (pa_cons (pv 0) pa_nil)) pa_nil)) (blkOk_by (N := ["tree", "number", "item"]) (sc := defScope (top 12)) (by decide +kernel))
      (fun _ _ _ _ _ => pg_tup rfl (pgs_cons (pg_name (i := 1) sc12.nd rfl (.inl rfl)) (pgs_cons (pg_name (i := 2) sc12.nd rfl (.inl rfl)) pgs_nil)))
      (fun _ _ _ _ _ => pts_nil) (fun _ _ _ _ _ => pe_ix (show IxR _ (rIxT K) from ix_tup) (pv 2) pe_int (fun _ _ => rfl)) (fun _ _ _ _ _ => pv 1))), ?_⟩
  refine ⟨_, rfl, d, v, rfl, hd, hw, fun t e ht p xs H1 np hp hx s1 => ?_, fun nv => bad nv⟩
  subst e
  have hxl : xs.length = t.items.length := by rw [hx.len, List.length_map]
  have hitems : 2 * t.items.length + 1 ≤ 3000 := by rw [← T.d_wt]; exact hw
  refine ⟨p, xs, rfl, SqT.of hp, fun Da nD => dc_enumT (K := K) (a := p) (xs := xs) (fun i Hc => Hc Da = some (.dK (numL (t.items.take i))) ∧ Same H1 Hc) ⟨upd_same, same_new nD _⟩ (fun i Hc _ h => SqT.of (h.2 _ _ hp)) ?_ ?_⟩
  · rintro i x Hc Ta hi ⟨hz, sc⟩ nT
    obtain ⟨hil, _⟩ := List.getElem?_eq_some_iff.mp hi
    rw [hxl] at hil
    have hit : t.items[i]? = some t.items[i] := List.getElem?_eq_getElem hil
    obtain ⟨x', hx', ix⟩ := hx.at (i := i) (d := itemD t.items[i]) (by rw [List.getElem?_map, hit]; rfl)
    rw [hi] at hx'
    cases hx'
    have u1 := same_new nT (.tup [.int (i : Nat), x])
    have m1 : (upd Hc Ta (.tup [.int (i : Nat), x])) Ta = some (.tup [.int (i : Nat), x]) := upd_same
    generalize upd Hc Ta (.tup [.int (i : Nat), x]) = Hd at u1 m1 ⊢
    obtain ⟨ax, rx, hax⟩ := (pairAt_is (ix.same (sc.trans u1))).2
    subst rx
    refine ⟨Ta, _, rfl, SqT.of m1, rfl, _, _, rfl, _, _, rfl, rfl, rfl, ?_⟩
    have hfresh : ∀ q ∈ t.items.take i, q.1 ≠ t.items[i].1 := fun q hq => by
      obtain ⟨j, hj, e⟩ := List.mem_iff_getElem.mp hq
      rw [List.length_take] at hj
      rw [List.getElem_take] at e
      have := List.pairwise_iff_getElem.mp ht.1 j i (by omega) hil (by omega)
      rw [← e]
      omega
    refine ⟨_, rfl, ax, _, _, _, rfl, rfl, SqT.of hax, atI_nat (j := 0) rfl, _, rfl, _, .inl t.items[i].1, rfl, u1 _ _ hz, (by rw [numL_len, List.length_take]; exact small1000' (by omega)), ?_, fun b o eb => ?_⟩
    · rw [upd_same, take_snoc hit]
      have e := numL_put (l := t.items.take i) (p := t.items[i]) hfresh
      rw [List.length_take, Nat.min_eq_left (by omega)] at e
      rw [e]
    · rw [upd_ne (ne_of_none eb nD)]
      exact u1 _ _ (sc b o eb)
  · rintro Hd ⟨hz, sd⟩
    rw [hxl, List.take_length] at hz
    exact q t rfl ht Da Hd (s1.free nD) hz (s1.trans sd)
def spNin : Sp := fun vs H Q _ => ∃ (p : Addr) (kvs : List (Key × V)) (t : T) (v r : V), vs = [.ref p, v] ∧ H p = some (.dK kvs) ∧ Is H t.d v ∧ NumAt kvs t r ∧ Q r H
theorem sc13 : FnScope ["numbers", "part"] ["numbers", "part"] (defScope (top 13)) := ⟨rfl, rfl, rfl, by decide +kernel, rfl, by decide +kernel, by decide +kernel⟩
theorem ok_nin (F : Fun K "number_in" "number_in" (top 13) f fd) : FnOk P w K mg base CX0 1 f fd ["numbers", "part"] spNin := by
  refine F.ok sc13 (fun vs H Q E h => ?_) (fun cdv A outer s H vs Q E hr h => ?_)
  · obtain ⟨p, kvs, t, v, r, rfl, _⟩ := h
    rfl
  obtain ⟨p, kvs, t, v, r, rfl, hp, hv, hn, q⟩ := h
  have hu := hu_of hr
  refine ⟨_, pss_one (ps_ret (pe_ifExp (pt_cmpR op_isN (pv 1) pe_non (nomark _)) pe_non (pe_dget hu (pv 0) (pe_ix ix_tup (pe_ix ix_tup (pv 1) pe_int (fun _ _ => rfl)) pe_int (fun _ _ => rfl)) (fun _ _ => rfl)))), ?_⟩
  refine ⟨_, rfl, rfl, _, rfl, ?_⟩
  cases t with
  | nil =>
    cases (show v = V.non from hv)
    cases (show r = V.non from hn)
    exact ifT rfl q
  | node l k m rr =>
    obtain ⟨ax, xs0, rfl, hax, xl, r0, rfl, il, xi, r1', rfl, ii, xr, r2', rfl, ir, hz⟩ := id hv
    cases (show r2' = [] from hz)
    obtain ⟨ai, ri, hai⟩ := (pairAt_is (p := (k, m)) ii).2
    subst ri
    refine ifF rfl ?_
    have g := DGet.k (k := Sum.inl k) hp
    rw [show valV kvs (Sum.inl k) = some r from hn] at g
    exact ⟨_, rfl, _, rfl, ax, _, _, _, rfl, rfl, SqT.of hax, atI_nat (j := 1) rfl, ai, _, _, _, rfl, rfl, SqT.of hai, atI_nat (j := 0) rfl, p, r, rfl, g, q⟩
def spRoot (C : Addr) : Sp := fun vs H Q E => ∃ (d : D) (v : V), vs = [v] ∧ Is H d v ∧ D.wt d ≤ 3000 ∧
  (∀ t : T, d = t.d → Told t → ∀ H' r, Same H H' → NumAt (numL t.items) t r → Q r H') ∧ (¬ Valid d → Bad C v H E)
theorem numAt_of {t : T} (h : Told t) : ∃ r, NumAt (numL t.items) t r := by
  cases t with
  | nil => exact ⟨.non, rfl⟩
  | node l k m r =>
    have e : valV (numL (l.items ++ (k, m) :: r.items)) (.inl k) = some (.int (l.items.length : Nat)) := numL_at l.items r.items (k, m) fun q hq => by
      have := (List.pairwise_append.mp h.1).2.2 q hq (k, m) List.mem_cons_self
      have : q.1 < k := this
      show q.1 ≠ k
      omega
    exact ⟨_, e⟩
theorem sc14 : FnScope ["tree"] ["tree"] (defScope (top 14)) := ⟨rfl, rfl, rfl, by decide +kernel, rfl, by decide +kernel, by decide +kernel⟩
theorem ok_root {g n C : Addr} {gd nd : FuncData} (F : Fun K "root_of" "root_of" (top 14) f fd)
    (G : FnOk P w K mg base (L2.CX P w) 7 g gd ["tree"] (spNums C)) (bG : Binds K gd ["tree"] []) (kG : PySem.W.keepIn K (.ref g) = true) (mG : mg "numbers_of" = some (.ref g))
    (N : FnOk P w K mg base CX0 1 n nd ["numbers", "part"] spNin) (bN : Binds K nd ["numbers", "part"] []) (kN : PySem.W.keepIn K (.ref n) = true) (mN : mg "number_in" = some (.ref n)) :
    FnOk P w K mg base (L2.CX P w) 8 f fd ["tree"] (spRoot C) := by
  refine F.okX sc14 (fun vs H Q E h => ?_) (fun cdv A outer s H vs Q E hr h => ?_)
  · obtain ⟨d, v, rfl, _⟩ := h
    rfl
  obtain ⟨d, v, rfl, hd, hw, q, bad⟩ := h
  refine ⟨_, pss_one (ps_ret (pe_call N (hr.mono (by decide)) rfl mN kN bN .nil pass0 (pa_cons (pe_call G hr rfl mG kG bG .nil (passes_call (takes_of rfl rfl rfl rfl) (fun _ _ _ _ z => z)) (pa_cons (pv 0) pa_nil)) (pa_cons (pv 0) pa_nil)))), ?_⟩
  refine ⟨_, rfl, d, v, rfl, hd, hw, fun t e ht p H1 np hp s1 => ?_, fun nv => bad nv⟩
  subst e
  obtain ⟨r, hr2⟩ := numAt_of ht
  exact ⟨_, rfl, p, _, t, v, r, rfl, hp, hd.same s1, hr2, q t rfl ht H1 r s1 hr2⟩
end
end K40
namespace K40
open PySem PySem.Spec PyProof.Rows L2 Xc Dt
/-! ### the rows of links -/
def numI (L : List (Int × Int)) (k : Int) : Int := match valV (numL L) (.inl k) with
  | some (.int i) => i
  | _ => 0
def num (L : List (Int × Int)) : T → V
  | .nil => .non
  | .node _ k _ _ => .int (numI L k)
def oNum (L : List (Int × Int)) : Option T → V
  | none => .non
  | some t => num L t
theorem asc_left {l m : List (Int × Int)} {p : Int × Int} (h : Asc (l ++ p :: m)) : ∀ q ∈ l, q.1 ≠ p.1 := fun q hq => by
  have : q.1 < p.1 := (List.pairwise_append.mp h).2.2 q hq p List.mem_cons_self
  omega
theorem numI_at {l m : List (Int × Int)} {k i : Int} (h : Asc (l ++ (k, i) :: m)) : numI (l ++ (k, i) :: m) k = (l.length : Nat) := by
  have e := numL_at l m (k, i) (asc_left h)
  unfold numI
  rw [show valV (numL (l ++ (k, i) :: m)) (Sum.inl k) = some (.int (l.length : Nat)) from e]
theorem numI_in {L : List (Int × Int)} {k i : Int} (h : Asc L) (hm : (k, i) ∈ L) : valV (numL L) (.inl k) = some (.int (numI L k)) := by
  obtain ⟨l, m, rfl⟩ := List.append_of_mem hm
  rw [numI_at h]
  exact numL_at l m (k, i) (asc_left h)
theorem numAt_num {L : List (Int × Int)} (h : Asc L) : ∀ {t : T}, (∀ p ∈ t.items, p ∈ L) → NumAt (numL L) t (num L t)
  | .nil, _ => rfl
  | .node l k m r, hs => numI_in h (hs (k, m) (List.mem_append_right _ List.mem_cons_self))
def lroot : T → Nat → V
  | .nil, _ => .non
  | .node l _ _ _, low => .int ((low + l.items.length : Nat))
abbrev Row := Int × List V
def lawRows : T → Nat → V → List Row
  | .nil, _, _ => []
  | .node l k m r, low, up => lawRows l low (.int ((low + l.items.length : Nat))) ++ (lawRows r (low + l.items.length + 1) (.int ((low + l.items.length : Nat))) ++ [(((low + l.items.length : Nat) : Int), [lroot l low, lroot r (low + l.items.length + 1), up])])
def linkRow (L : List (Int × Int)) (e : N3) : Row := match e.1 with
  | .nil => (0, [])
  | .node l k _ r => (numI L k, [num L l, num L r, oNum L e.2.2])
theorem num_root {L : List (Int × Int)} (h : Asc L) : ∀ (t : T) (pre post : List (Int × Int)), L = pre ++ (t.items ++ post) → num L t = lroot t pre.length
  | .nil, _, _, _ => rfl
  | .node l k m r, pre, post, e => by
    have e2 : L = (pre ++ l.items) ++ (k, m) :: (r.items ++ post) := by
      rw [e]
      show pre ++ ((l.items ++ (k, m) :: r.items) ++ post) = _
      simp
    show V.int (numI L k) = V.int _
    rw [e2] at h ⊢
    rw [numI_at h, List.length_append]
theorem rows_perm {L : List (Int × Int)} (h : Asc L) : ∀ (t : T) (pre post : List (Int × Int)) (n : Nat) (ab : Option T), L = pre ++ (t.items ++ post) → ((t.nodes n ab).map (linkRow L)).Perm (lawRows t pre.length (oNum L ab))
  | .nil, _, _, _, _, _ => List.Perm.refl _
  | .node l k m r, pre, post, n, ab, e => by
    have e1 : L = pre ++ (l.items ++ ((k, m) :: (r.items ++ post))) := by
      rw [e]
      show pre ++ ((l.items ++ (k, m) :: r.items) ++ post) = _
      simp
    have e2 : L = (pre ++ l.items ++ [(k, m)]) ++ (r.items ++ post) := by rw [e1]; simp
    have e3 : numI L k = ((pre.length + l.items.length : Nat) : Int) := by
      have e4 : L = (pre ++ l.items) ++ (k, m) :: (r.items ++ post) := by rw [e1]; simp
      rw [e4] at h ⊢
      rw [numI_at h, List.length_append]
    have hl := rows_perm h l pre _ (n + 1) (some (.node l k m r)) e1
    have hr := rows_perm h r _ post (n + 1) (some (.node l k m r)) e2
    have hu : oNum L (some (.node l k m r)) = .int ((pre.length + l.items.length : Nat)) := by
      show V.int (numI L k) = _
      rw [e3]
    have len : (pre ++ l.items ++ [(k, m)]).length = pre.length + l.items.length + 1 := by
      simp only [List.length_append, List.length_cons, List.length_nil]
    rw [hu] at hl hr
    rw [len] at hr
    have e5 : linkRow L (.node l k m r, n, ab) = (((pre.length + l.items.length : Nat) : Int), [lroot l pre.length, lroot r (pre.length + l.items.length + 1), oNum L ab]) := by
      show (numI L k, [num L l, num L r, oNum L ab]) = _
      have q1 := num_root h l pre _ e1
      have q2 := num_root h r _ post e2
      rw [len] at q2
      rw [e3, q1, q2]
    show ((linkRow L (.node l k m r, n, ab)) :: ((r.nodes (n + 1) _ ++ l.nodes (n + 1) _).map (linkRow L))).Perm (lawRows l _ _ ++ (lawRows r _ _ ++ [_]))
    rw [e5, List.map_append, ← List.append_assoc]
    refine (List.Perm.cons _ ((hr.append hl).trans List.perm_append_comm)).trans ?_
    exact (List.perm_append_comm (l₁ := [_])).trans (List.Perm.refl _)
theorem lawRows_key : ∀ (t : T) (low : Nat) (up : V), (∀ q ∈ (lawRows t low up).map (·.1), ∃ j : Nat, q = (j : Int) ∧ low ≤ j ∧ j < low + t.items.length) ∧ ((lawRows t low up).map (·.1)).Nodup
  | .nil, _, _ => ⟨fun q h => (by cases h), List.nodup_nil⟩
  | .node l k m r, low, up => by
    obtain ⟨l1, l2⟩ := lawRows_key l low (.int ((low + l.items.length : Nat)))
    obtain ⟨r1, r2⟩ := lawRows_key r (low + l.items.length + 1) (.int ((low + l.items.length : Nat)))
    have e : (lawRows (.node l k m r) low up).map (·.1) = (lawRows l low (.int ((low + l.items.length : Nat)))).map (·.1) ++ ((lawRows r (low + l.items.length + 1) (.int ((low + l.items.length : Nat)))).map (·.1) ++ [((low + l.items.length : Nat) : Int)]) := by
      show List.map _ (_ ++ (_ ++ [_])) = _
      rw [List.map_append, List.map_append]
      rfl
    have len : (T.node l k m r).items.length = l.items.length + r.items.length + 1 := by
      show (l.items ++ (k, m) :: r.items).length = _
      rw [List.length_append, List.length_cons]
      omega
    rw [e, len]
    refine ⟨fun q hq => ?_, ?_⟩
    · rcases List.mem_append.mp hq with h | h
      · obtain ⟨j, a, b, c⟩ := l1 q h
        exact ⟨j, a, b, by omega⟩
      · rcases List.mem_append.mp h with h | h
        · obtain ⟨j, a, b, c⟩ := r1 q h
          exact ⟨j, a, by omega, by omega⟩
        · rw [List.mem_singleton] at h
          exact ⟨_, h, by omega, by omega⟩
    · rw [List.nodup_append, List.nodup_append]
      refine ⟨l2, ⟨r2, by simp, fun x hx y hy z => ?_⟩, fun x hx y hy z => ?_⟩
      · rw [List.mem_singleton] at hy
        obtain ⟨j, a, b, c⟩ := r1 x hx
        omega
      · obtain ⟨j, a, b, c⟩ := l1 x hx
        rcases List.mem_append.mp hy with h | h
        · obtain ⟨j2, a2, b2, c2⟩ := r1 y h
          omega
        · rw [List.mem_singleton] at h
          omega
theorem links_nodup {t : T} (h : Asc t.items) : (((t.nodes 1 none).map (linkRow t.items)).map (·.1)).Nodup := by
  have p := rows_perm h t [] [] 1 none (by simp)
  exact (p.map (·.1)).nodup_iff.mpr (lawRows_key t 0 _).2
/-- a dict of such rows, as the heap holds it -/
def Rows (H : Hp) (rows : List Row) (kvs : List (Key × V)) : Prop := Paired (fun (r : Row) (kv : Key × V) => kv.1 = .inl r.1 ∧ ∃ a, kv.2 = .ref a ∧ H a = some (.tup r.2)) rows kvs
theorem rows_none {H : Hp} {rows : List Row} {kvs : List (Key × V)} (h : Rows H rows kvs) {k : Int} (n : k ∉ rows.map (·.1)) : valV kvs (.inl k) = none := by
  unfold Rows at h
  induction h with
  | nil => rfl
  | @cons r kv rs kvs hr _ ih =>
    rw [List.map_cons, List.mem_cons] at n
    rw [valV_neg (by rw [hr.1]; intro z; exact n (.inl (Sum.inl.inj z).symm))]
    exact ih fun z => n (.inr z)
theorem rows_put {H : Hp} {rows : List Row} {kvs : List (Key × V)} (h : Rows H rows kvs) {k : Int} {vs : List V} {a : Addr} (n : k ∉ rows.map (·.1)) (e : H a = some (.tup vs)) : Rows H (rows ++ [(k, vs)]) (putK kvs (.inl k) (.ref a)) := by
  rw [putK_new _ (rows_none h n)]
  exact paired_app h (.cons ⟨rfl, a, rfl, e⟩ .nil)
theorem rows_val {H : Hp} {rows : List Row} {kvs : List (Key × V)} (h : Rows H rows kvs) (nd : (rows.map (·.1)).Nodup) {r : Row} (hr : r ∈ rows) : ∃ a, valV kvs (.inl r.1) = some (.ref a) ∧ H a = some (.tup r.2) := by
  unfold Rows at h
  induction h with
  | nil => cases hr
  | @cons r1 kv rs kvs h1 _ ih =>
    rw [List.map_cons, List.nodup_cons] at nd
    obtain ⟨e1, a, e2, e3⟩ := h1
    rcases List.mem_cons.mp hr with rfl | hr
    · exact ⟨a, by rw [valV_pos e1, e2], e3⟩
    · rw [valV_neg (by rw [e1]; intro z; exact nd.1 (by rw [Sum.inl.inj z]; exact List.mem_map_of_mem hr))]
      exact ih nd.2 hr
theorem Rows.tups {H H' : Hp} {rows : List Row} {kvs : List (Key × V)} (h : Rows H rows kvs) (t : Tups H H') : Rows H' rows kvs := Paired.mapP h fun r kv k => by
  obtain ⟨e, a, e2, e3⟩ := k
  exact ⟨e, a, e2, t _ _ e3⟩
theorem Rows.len {H : Hp} {rows : List Row} {kvs : List (Key × V)} (h : Rows H rows kvs) : rows.length = kvs.length := Paired.length h
theorem nodes_sub : ∀ (t : T) (n : Nat) (ab : Option T), ∀ e ∈ t.nodes n ab, (∀ p ∈ e.1.items, p ∈ t.items) ∧ (e.2.2 = ab ∨ ∃ u, e.2.2 = some u ∧ ∀ p ∈ u.items, p ∈ t.items)
  | .nil, _, _, e, h => by cases h
  | .node l k m r, n, ab, e, h => by
    rcases List.mem_cons.mp h with rfl | h
    · exact ⟨fun p hp => hp, .inl rfl⟩
    · rcases List.mem_append.mp h with h | h
      · obtain ⟨h1, h2⟩ := nodes_sub r _ _ e h
        refine ⟨fun p hp => List.mem_append_right _ (List.mem_cons_of_mem _ (h1 p hp)), .inr ?_⟩
        rcases h2 with h2 | ⟨u, h2, h3⟩
        · exact ⟨_, h2, fun p hp => hp⟩
        · exact ⟨u, h2, fun p hp => List.mem_append_right _ (List.mem_cons_of_mem _ (h3 p hp))⟩
      · obtain ⟨h1, h2⟩ := nodes_sub l _ _ e h
        refine ⟨fun p hp => List.mem_append_left _ (h1 p hp), .inr ?_⟩
        rcases h2 with h2 | ⟨u, h2, h3⟩
        · exact ⟨_, h2, fun p hp => hp⟩
        · exact ⟨u, h2, fun p hp => List.mem_append_left _ (h3 p hp)⟩
end K40
namespace K40
open PySem PySem.Spec PyProof.Rows L2 Xc Dt
theorem T.d_inj : ∀ {t u : T}, t.d = u.d → t = u
  | .nil, .nil, _ => rfl
  | .nil, .node _ _ _ _, h => by cases h
  | .node _ _ _ _, .nil, h => by cases h
  | .node l k m r, .node l' k' m' r', h => by
    have h : D.tup [l.d, .tup [.int k, .int m], r.d] = D.tup [l'.d, .tup [.int k', .int m'], r'.d] := h
    injection h with h
    injection h with h1 h
    injection h with h2 h
    injection h with h3 _
    injection h2 with h2
    injection h2 with hk h2
    injection h2 with hm _
    injection hk with hk
    injection hm with hm
    rw [T.d_inj h1, T.d_inj h3, hk, hm]
theorem is_tups {H H' : Hp} (s : Tups H H') : ∀ {t : T} {v : V}, Is H t.d v → Is H' t.d v
  | .nil, _, h => h
  | .node l k m r, _, h => by
    obtain ⟨a, xs, rfl, e, xl, r0, rfl, il, xi, r1', rfl, ⟨b, ys, rfl, e2, j⟩, xr, r2', rfl, ir, hz⟩ := h
    obtain ⟨y0, ys0, rfl, j0, y1, ys1, rfl, j1, hz2⟩ := j
    exact ⟨a, _, rfl, s _ _ e, xl, _, rfl, is_tups s il, _, _, rfl, ⟨b, _, rfl, s _ _ e2, y0, _, rfl, j0, y1, _, rfl, j1, hz2⟩, xr, _, rfl, is_tups s ir, hz⟩
theorem is_oD {H H' : Hp} (s : Tups H H') {o : Option T} {v : V} (h : Is H (oD o) v) : Is H' (oD o) v := by
  cases o with
  | none => exact h
  | some t => exact is_tups s h
section
variable {P : Program} {w : World} {K : PySem.W.Frag} {mg : Str → Option Value} {base : Heap} {f : Addr} {fd : FuncData}
def spLinks (C : Addr) : Sp := fun vs H Q E => ∃ (d : D) (v : V), vs = [v] ∧ Is H d v ∧ D.wt d ≤ 3000 ∧
  (∀ t : T, d = t.d → Told t → ∀ p kvs H', H p = none → H' p = some (.dK kvs) → Rows H' ((t.nodes 1 none).map (linkRow t.items)) kvs → Same H H' → Q (.ref p) H') ∧ (¬ Valid d → Bad C v H E)
theorem sc15 : FnScope ["tree", "numbers", "found", "part", "depth", "above", "beside"] ["tree"] (defScope (top 15)) := ⟨rfl, rfl, rfl, by decide +kernel, rfl, by decide +kernel, by decide +kernel⟩
theorem ok_links {g n o C : Addr} {gd nd od : FuncData} (F : Fun K "links" "links" (top 15) f fd)
    (G : FnOk P w K mg base (L2.CX P w) 7 g gd ["tree"] (spNums C)) (bG : Binds K gd ["tree"] []) (kG : PySem.W.keepIn K (.ref g) = true) (mG : mg "numbers_of" = some (.ref g))
    (N : FnOk P w K mg base CX0 1 n nd ["numbers", "part"] spNin) (bN : Binds K nd ["numbers", "part"] []) (kN : PySem.W.keepIn K (.ref n) = true) (mN : mg "number_in" = some (.ref n))
    (O : FnOk P w K mg base (L2.CX P w) 5 o od ["tree"] (spNodes C)) (bO : Binds K od ["tree"] []) (kO : PySem.W.keepIn K (.ref o) = true) (mO : mg "nodes_of" = some (.ref o)) :
    FnOk P w K mg base (L2.CX P w) 8 f fd ["tree"] (spLinks C) := by
  refine F.okX sc15 (fun vs H Q E h => ?_) (fun cdv A outer s H vs Q E hr h => ?_)
  · obtain ⟨d, v, rfl, _⟩ := h
    rfl
  obtain ⟨d, v, rfl, hd, hw, q, bad⟩ := h
  have hu := hu_of hr
  have r1 : Room 1 (A.deeper (envOfC "links" (defScope (top 15)) s.heap.objs.size f cdv)) := hr.mono (by decide)
  have r5 : Room 5 (A.deeper (envOfC "links" (defScope (top 15)) s.heap.objs.size f cdv)) := hr.mono (by decide)
  refine ⟨_, pss_cons (ps_set (i := 1) sc15.nd rfl (.inl rfl) (pe_call G hr rfl mG kG bG .nil (passes_call (takes_of rfl rfl rfl rfl) (fun _ _ _ _ z => z)) (pa_cons (pv 0) pa_nil)))
    (pss_cons (ps_set (i := 2) sc15.nd rfl (.inl rfl) pe_dnewK)
    (pss_cons (ps_for (passes_of rfl) rfl (pi_list (pe_call O r5 rfl mO kO bO .nil (passes_call (takes_of rfl rfl rfl rfl) (fun _ _ _ _ z => z)) (pa_cons (pv 0) pa_nil)))
        (pg_tup rfl (pgs_cons (pg_name (i := 3) sc15.nd rfl (.inl rfl)) (pgs_cons (pg_name (i := 4) sc15.nd rfl (.inl rfl)) (pgs_cons (pg_name (i := 5) sc15.nd rfl (.inl rfl)) pgs_nil))))
        (pss_cons (ps_set (i := 6) sc15.nd rfl (.inl rfl) (pe_tup (pa_cons (pe_call N r1 rfl mN kN bN .nil pass0 (pa_cons (pv 1) (pa_cons (pe_ix (show IxR _ (rIxT K) from ix_tup) (pv 3) pe_int (fun _ _ => rfl)) pa_nil)))
            (pa_cons (pe_call N r1 rfl mN kN bN .nil pass0 (pa_cons (pv 1) (pa_cons (pe_ix (show IxR _ (rIxT K) from ix_tup) (pv 3) pe_int (fun _ _ => rfl)) pa_nil)))
            (pa_cons (pe_call N r1 rfl mN kN bN .nil pass0 (pa_cons (pv 1) (pa_cons (pv 5) pa_nil))) pa_nil)))))
        (pss_one (ps_dput hu (pv 2) (pe_call N r1 rfl mN kN bN .nil pass0 (pa_cons (pv 1) (pa_cons (pv 3) pa_nil))) (pv 6) rfl))))
    (pss_one (ps_ret (pv 2))))), ?_⟩
  refine ⟨_, rfl, d, v, rfl, hd, hw, fun t e ht p H1 np hp s1 => ?_, fun nv => bad nv⟩
  subst e
  refine fun fo nfo => ?_
  have u2 := same_new nfo (.dK [])
  have m2 : (upd H1 fo (.dK [])) fo = some (.dK []) := upd_same
  have nfo' : H fo = none := s1.free nfo
  generalize upd H1 fo (.dK []) = H2 at u2 m2 ⊢
  have s2 := s1.trans u2
  have hitems : 2 * t.items.length + 1 ≤ 3000 := by rw [← T.d_wt]; exact hw
  have hlen : (t.nodes 1 none).length = t.items.length := nodes_len t 1 none
  have hnd := links_nodup ht.1
  refine ⟨_, rfl, t.d, v, rfl, hd.same s2, hw, fun t' e' ht' l xs H3 nl hl hx s3 => ?_, fun nv => absurd ((valid_told t).mpr ht) nv⟩
  have et : t' = t := T.d_inj e'.symm
  subst et
  have hxl : xs.length = t'.items.length := by rw [← hlen]; exact (Paired.length hx).symm
  have nfp : p ≠ fo := fun z => by
    rw [z, nfo] at hp
    cases hp
  have nfl : l ≠ fo := fun z => by
    have := m2
    rw [← z, nl] at this
    cases this
  refine ⟨l, rfl, ⟨_, SqL.of hl⟩, for_list (K := K) (a := l) (xs := xs) (fun i σ H' => ∃ (o3 o4 o5 o6 : Option V) (kvs : List (Key × V)), σ = [some v, some (.ref p), some (.ref fo), o3, o4, o5, o6] ∧ H' fo = some (.dK kvs) ∧ Rows H' (((t'.nodes 1 none).take i).map (linkRow t'.items)) kvs ∧ Same H H' ∧ Tups H3 H' ∧ H' p = some (.dK (numL t'.items)) ∧ H' l = some (.lst xs))
    ⟨none, none, none, none, [], rfl, s3 _ _ m2, .nil, s2.trans s3, Tups.of (Same.refl _), s3 _ _ (u2 _ _ hp), hl⟩ (fun i σ H' _ h => ?_) ?_ ?_⟩
  · obtain ⟨_, _, _, _, _, _, _, _, _, _, _, h⟩ := h
    exact SqL.of h
  · rintro i x σ H' hi ⟨o3, o4, o5, o6, kvs, rfl, hfo, hro, sm, tu, hpk, hlk⟩
    obtain ⟨e, he, a, x0, y0, rfl, ha, hx0, hy0⟩ := paired_at hx hi
    have hmem : e ∈ t'.nodes 1 none := List.mem_of_getElem? he
    obtain ⟨ll, k, m, r, e1⟩ := nodes_node t' 1 none e hmem
    obtain ⟨hsub, hab⟩ := nodes_sub t' 1 none e hmem
    obtain ⟨p0, n0, ab⟩ := e
    cases (show p0 = _ from e1)
    have T2 : Tups H2 H' := (Tups.of s3).trans tu
    have hx1 : Is H' (T.node ll k m r).d x0 := is_tups T2 hx0
    have hy1 : Is H' (oD ab) y0 := is_oD T2 hy0
    have hil : i < t'.items.length := by
      have := (List.getElem?_eq_some_iff.mp he).1
      omega
    obtain ⟨u, hu1, hu2⟩ : ∃ u : T, Is H' u.d y0 ∧ NumAt (numL t'.items) u (oNum t'.items ab) := by
      cases ab with
      | none => exact ⟨.nil, hy1, rfl⟩
      | some u =>
        rcases hab with hab | ⟨u', hab, hsu⟩
        · cases hab
        · cases hab
          exact ⟨u, hy1, numAt_num ht.1 hsu⟩
    have nL : NumAt (numL t'.items) ll (num t'.items ll) := numAt_num ht.1 fun p hp => hsub p (List.mem_append_left _ hp)
    have nR : NumAt (numL t'.items) r (num t'.items r) := numAt_num ht.1 fun p hp => hsub p (List.mem_append_right _ (List.mem_cons_of_mem _ hp))
    have nS : NumAt (numL t'.items) (.node ll k m r) (num t'.items (.node ll k m r)) := numAt_num ht.1 hsub
    obtain ⟨ax, xs0, rfl, hax, xl, r0, rfl, il, xi, r1', rfl, ii, xr, r2', rfl, ir, hz⟩ := id hx1
    cases (show r2' = [] from hz)
    refine ⟨a, _, rfl, SqT.of (tu _ _ ha), rfl, _, _, rfl, _, _, rfl, _, _, rfl, rfl, ?_⟩
    refine ⟨_, rfl, _, rfl, ax, _, _, _, rfl, rfl, SqT.of hax, atI_nat (j := 0) rfl, p, _, ll, xl, _, rfl, hpk, il, nL, ?_⟩
    refine ⟨_, rfl, _, rfl, ax, _, _, _, rfl, rfl, SqT.of hax, atI_nat (j := 2) rfl, p, _, r, xr, _, rfl, hpk, ir, nR, ?_⟩
    refine ⟨_, rfl, _, rfl, p, _, u, y0, _, rfl, hpk, hu1, hu2, ?_⟩
    refine ⟨(by show 3 ≤ sizeLine; decide), fun tb ntb => ?_⟩
    have u4 := same_new ntb (.tup [num t'.items ll, num t'.items r, oNum t'.items ab])
    have m4 : (upd H' tb (.tup [num t'.items ll, num t'.items r, oNum t'.items ab])) tb = some (.tup [num t'.items ll, num t'.items r, oNum t'.items ab]) := upd_same
    generalize upd H' tb (.tup [num t'.items ll, num t'.items r, oNum t'.items ab]) = H4 at u4 m4 ⊢
    have hro4 := hro.tups (Tups.of u4)
    have hkl : kvs.length < sizeLine := by
      rw [← hro.len, List.length_map, List.length_take]
      exact small1000' (by omega)
    have hfresh : numI t'.items k ∉ (((t'.nodes 1 none).take i).map (linkRow t'.items)).map (·.1) := fun hm => by
      rw [← List.take_append_drop (i + 1) (t'.nodes 1 none), take_snoc he, List.map_append, List.map_append, List.map_append, List.map_append] at hnd
      exact (List.nodup_append.mp (List.nodup_append.mp hnd).1).2.2 _ hm _ (List.mem_singleton.mpr rfl) rfl
    refine ⟨_, rfl, _, rfl, _, rfl, _, rfl, p, _, .node ll k m r, _, _, rfl, u4 _ _ hpk, hx1.same u4, nS, fo, _, rfl, DPut.k (k := .inl (numI t'.items k)) (u4 _ _ hfo) hkl, ?_⟩
    refine ⟨_, _, _, _, _, rfl, upd_same, ?_, fun b o eb => ?_, ?_, ?_, ?_⟩
    · rw [take_snoc he, List.map_append]
      exact (rows_put hro4 hfresh m4).tups (tups_upd (u4 _ _ hfo) (fun _ z => by cases z))
    · rw [upd_ne (ne_of_none eb nfo')]
      exact u4 _ _ (sm b o eb)
    · exact (tu.trans (Tups.of u4)).trans (tups_upd (u4 _ _ hfo) (fun _ z => by cases z))
    · rw [upd_ne nfp]
      exact u4 _ _ hpk
    · rw [upd_ne nfl]
      exact u4 _ _ hlk
  · rintro σ H' ⟨o3, o4, o5, o6, kvs, rfl, hfo, hro, sm, tu, hpk, hlk⟩
    rw [hxl, ← hlen, List.take_length] at hro
    exact ⟨_, rfl, q t' rfl ht fo kvs H' nfo' hfo hro sm⟩
end
end K40
/-! types compared by != -/
namespace Dt
open PySem PySem.Spec PyProof.Rows L2 Xc
theorem slot_type_ne : Slot "type" (cmpInfo .NotEq).2.1 "object.__ne__" :=
  .of (owner := "object") (n := "__ne__") (by rw [typeLookup_type, builtinLookup_eq_fast]; kernel_rfl) (by decide +kernel) (by decide +kernel) (by decide +kernel)
    (by first | exact .inl (by decide +kernel) | exact .inr (by decide +kernel)) (by rw [isSubtype_type]; kernel_rfl)
theorem slot_type_ne_refl : Slot "type" (cmpInfo .NotEq).2.2 "object.__ne__" :=
  .of (owner := "object") (n := "__ne__") (by rw [typeLookup_type, builtinLookup_eq_fast]; kernel_rfl) (by decide +kernel) (by decide +kernel) (by decide +kernel)
    (by first | exact .inl (by decide +kernel) | exact .inr (by decide +kernel)) (by rw [isSubtype_type]; kernel_rfl)
section
variable {prog : Program} {w : World} {A : Around} {E : Value → Shared → Prop} {s : Shared}
theorem objNe_same {X : String} (hX : ∀ s' : Shared, s'.TypeIs (.type X) "type") {Q : Fin → Shared → Prop} (h : Q (.done (.ret (.bool false))) s) : wpAny (model prog w) A (Builtin.«object.__ne__» ⟨[.type X, .type X], []⟩) Q E s := by
  unfold Builtin.«object.__ne__»
  repeat (first
    | with_reducible refine wpAny_cRoomFor_or (.inl rfl) ?_
    | refine wpAny_bind (wpAny_callSpecialIfBound?_slot (name := Str.ofString "__eq__") (hX s) TypeEq.slot_type_eq (call_gives TypeEq.slot_type_eq (hX s) F.entry_object_eq (F.args_object_eq_2 _ _) (TypeEq.object_eq_same rfl (by simp)) ?_))
    | wp_step)
  show wpAny (model prog w) A (truthy (.bool true) >>= fun x => ret (.bool !x)) Q E s
  exact wpAny_bind (wpAny_truthy_bool (wpAny_pure h))
theorem objNe_other {X Y : String} (hX : ∀ s' : Shared, s'.TypeIs (.type X) "type") (hne : (Value.type X == Value.type Y) = false) {Q : Fin → Shared → Prop} (h : Q (.done (.ret .notImplemented)) s) : wpAny (model prog w) A (Builtin.«object.__ne__» ⟨[.type X, .type Y], []⟩) Q E s := by
  unfold Builtin.«object.__ne__»
  repeat (first
    | with_reducible refine wpAny_cRoomFor_or (.inl rfl) ?_
    | refine wpAny_bind (wpAny_callSpecialIfBound?_slot (name := Str.ofString "__eq__") (hX s) TypeEq.slot_type_eq (call_gives TypeEq.slot_type_eq (hX s) F.entry_object_eq (F.args_object_eq_2 _ _) (TypeEq.object_eq_other rfl hne) ?_))
    | wp_step)
  exact wpAny_pure h
theorem ne_type_same {X : String} {Q : Value → Shared → Prop} (hX : ∀ s' : Shared, s'.TypeIs (.type X) "type") (h : Q (.bool false) s) : wpAny (model prog w) A (compareOp .NotEq (.type X) (.type X)) Q E s := by
  show wpAny _ A (richCompare .NotEq _ _) Q E s
  refine wpAny_richCompare_same (T := "type") (hX s) (hX s) slot_type_ne (wpAny_call_entry slot_type_ne (hX s) F.cmpEntry_ne (objNe_same hX ?_) (F.cmpArgs_ne _ _))
  exact ⟨_, rfl, (by intro e; cases e), h⟩
theorem wpAny_richCompare_ne_same_decline {M : Model} {a b : Value} {T id : String} {k : Bool} {Q : Value → Shared → Prop} (ha : ∀ s' : Shared, s'.TypeIs a T) (hb : ∀ s' : Shared, s'.TypeIs b T)
    (h1 : Slot T (cmpInfo .NotEq).2.1 id) (h2 : Slot T (cmpInfo .NotEq).2.2 id) (hv : [a, b].any Value.onHeap = false) (hk : isSame a b = pure k)
    (hc : wpAny M A (call (.builtin id) [a, b]) (fun v s₁ => v = .notImplemented ∧ wpAny M A (call (.builtin id) [b, a]) (fun v s₂ => v = .notImplemented ∧ Q (.bool (!k)) s₂) E s₁) E s) :
    wpAny M A (richCompare .NotEq a b) Q E s := by
  rcases hi : cmpInfo CmpOp.NotEq with ⟨sym, f, r⟩
  rw [hi] at h1 h2
  simp only [richCompare, hi, (ha s).oneThing_none]
  try with_reducible refine wpAny_holding ?_
  refine wpAny_bind (wpAny_cRoomFor_or (.inl hv) ?_)
  refine wpAny_bind (wpAny_typeOf (ha s) (wpAny_bind (wpAny_typeOf (hb s) ?_)))
  simp only [bne_self_eq_false, Bool.false_eq_true, if_false, pure_bind, Bool.not_false, if_true]
  refine wpAny_bind (m := tryCompare a _ b) (wpAny_tryCompare_declines (ha s) h1 (wpAny_mono hc (fun v s₁ h₁ => ⟨h₁.1, ?_⟩) fun _ _ x => x))
  refine wpAny_bind (m := tryCompare b _ a) (wpAny_tryCompare_declines (hb s₁) h2 (wpAny_mono h₁.2 (fun v s₂ h₂ => ⟨h₂.1, ?_⟩) fun _ _ x => x))
  refine wpAny_bind (wpAny_rule (wpAny_bind (wpAny_of_eq hk (wpAny_pure h₂.2))))
theorem ne_type_other {X Y : String} {Q : Value → Shared → Prop} (hX : ∀ s' : Shared, s'.TypeIs (.type X) "type") (hY : ∀ s' : Shared, s'.TypeIs (.type Y) "type") (hne : (Value.type X == Value.type Y) = false) (h : Q (.bool true) s) : wpAny (model prog w) A (compareOp .NotEq (.type X) (.type Y)) Q E s := by
  have hne' : (Value.type Y == Value.type X) = false := by
    rw [Bool.eq_false_iff] at hne ⊢
    intro e
    exact hne (by rw [beq_iff_eq] at e ⊢; exact e.symm)
  show wpAny _ A (richCompare .NotEq _ _) Q E s
  refine wpAny_richCompare_ne_same_decline (T := "type") (k := false) hX hY slot_type_ne slot_type_ne_refl rfl (by rw [isSame_plain rfl, hne]) ?_
  refine wpAny_call_entry slot_type_ne (hX s) F.cmpEntry_ne (objNe_other hX hne ⟨_, rfl, rfl, ?_⟩) (F.cmpArgs_ne _ _)
  exact wpAny_call_entry slot_type_ne_refl (hY s) F.cmpEntry_ne (objNe_other hY hne' ⟨_, rfl, rfl, h⟩) (F.cmpArgs_ne _ _)
end
section
variable {X : Cx}
def rNeTy : R2 := fun x y H Q => ∃ a b, x = .ty a ∧ y = .ty b ∧ (a ∈ ["NoneType", "bool", "int", "str", "tuple", "list", "dict"]) ∧ (b ∈ ["NoneType", "bool", "int", "str", "tuple", "list", "dict"]) ∧ Q (.bl (!decide (a = b))) H
theorem op_neTy : OpR X (compareOp .NotEq) rNeTy := by
  intro pins s σ H x y v u Q I rx ry h
  obtain ⟨a, b, rfl, rfl, ha, hb, q⟩ := h
  cases (show v = Value.type a from rx)
  cases (show u = Value.type b from ry)
  by_cases e : a = b
  · subst e
    exact ne_type_same (meta_of ha) ⟨.bl false, H, I, rfl, by simpa using q⟩
  · exact ne_type_other (meta_of ha) (meta_of hb) (by simpa using e) ⟨.bl true, H, I, rfl, by simpa [e] using q⟩
end
end Dt
/-! sorted(xs), xs a list or a tuple of pairs of ints. -/
namespace SrtO
open PySem PyProof.Rows Srt
section
variable {prog : Program} {w : World} {A : Around} {E : Value → Shared → Prop} {s : Shared}
theorem sorted_ordT {l : Addr} {vs : List Value} {ltv : Value → Value → Bool} {Q : Value → Shared → Prop} (O : Swo ltv) (hl : s.heap.IsTuple l vs.toArray) (hz : vs.length ≤ sizeLine)
    (hS : 2 ≤ vs.length → ∀ (h₁ : Heap) (a : Addr), h₁.get? a = some (seqObj "list" vs.toArray 0) → (∀ b o, s.heap.get? b = some o → b ≠ a ∧ h₁.get? b = some o) → SortableO prog w A.in1.in1 { s with heap := h₁ } a vs ltv)
    (h : ∀ (out : List Value) (h1 h' : Heap), Srtd ltv out → Stb ltv out vs → (∀ b o, s.heap.get? b = some o → h1.get? b = some o) → (∀ b o, h1.get? b = some o → h'.get? b = some o) → (∃ n, h'.get? h1.objs.size = some (seqObj "list" out.toArray n)) →
      Q (.ref h1.objs.size) { s with heap := h' }) :
    wpAny (model prog w) A (call (.builtin "sorted") [.ref l]) Q E s := by
  refine Calls.call_function_entry kind_sorted plain_sorted entry_sorted (args_sorted1 _) ?_
  unfold Builtin.«sorted»
  refine wpAny_bind (m := checkCount "sorted" 1 1 _) (wpAny_pure ?_)
  obtain ⟨o, ho, hc, n, hd⟩ := id hl
  refine wpAny_bind (wpAny_collect_seq l (.inr rfl) ho hc hd (fun h1 keep1 => ?_) (by simpa using hz))
  have et : vs.toArray.toList = vs := by simp
  rw [et]
  refine wpAny_bind (wpAny_newList ?_ hz)
  have hoL : (h1.push (seqObj "list" vs.toArray 0)).get? h1.objs.size = some (seqObj "list" vs.toArray 0) := Heap.get?_push_size _ rfl
  have keep : ∀ b o, s.heap.get? b = some o → b ≠ h1.objs.size ∧ (h1.push (seqObj "list" vs.toArray 0)).get? b = some o := fun b o q => by
    have q1 := keep1 b o q
    exact ⟨Nat.ne_of_lt (Heap.lt_size q1), Heap.get?_push_of_some _ q1⟩
  show wpAny _ _ _ _ _ { s with heap := h1.push (seqObj "list" vs.toArray 0) }
  refine wpAny_bind (wpAny_holding (wpAny_call_entry slot_list_sort ⟨_, hoL, rfl⟩ entry_list_sort (list_sort_ord O hoL hz (fun h2 => hS h2 _ _ hoL keep) fun out hs hb => ⟨_, rfl, ?_⟩) (args_list_sort _)))
  refine wpAny_pure ⟨_, rfl, h out h1 _ hs hb keep1 (fun b o q => ?_) (sortedHeap_at hoL)⟩
  have hlt := Heap.lt_size q
  rw [sortedHeap_old (Nat.ne_of_lt hlt) (by rw [size_push']; exact Nat.lt_succ_of_lt hlt)]
  exact Heap.get?_push_of_some _ q
theorem sorted_pairsT {l : Addr} {vs : List Value} {k : Value → Int × Int} {Q : Value → Shared → Prop} (hl : s.heap.IsTuple l vs.toArray) (hz : vs.length ≤ sizeLine) (hp : ∀ v ∈ vs, IsPair s.heap v (k v).1 (k v).2)
    (h : ∀ (out : List Value) (h1 h' : Heap), Srtd (fun v u => lexB (k v) (k u)) out → Stb (fun v u => lexB (k v) (k u)) out vs → (∀ b o, s.heap.get? b = some o → h1.get? b = some o) → (∀ b o, h1.get? b = some o → h'.get? b = some o) → (∃ n, h'.get? h1.objs.size = some (seqObj "list" out.toArray n)) →
      Q (.ref h1.objs.size) { s with heap := h' }) :
    wpAny (model prog w) A (call (.builtin "sorted") [.ref l]) Q E s := by
  refine sorted_ordT (swo_lex k) hl hz (fun h2 h₁ a ha kk => ?_) h
  refine pairs_sortableO (s := { s with heap := h₁ }) (by omega) (fun v hm => (hp v hm).keeps fun b o e _ => (kk b o e).2) fun o e => ?_
  have e' : some o = some (seqObj "list" vs.toArray 0) := e.symm.trans ha
  cases e'
  intro c
  exact absurd (Value.type.inj c) (by decide)
end
end SrtO
namespace Dt
open PySem PySem.Spec PyProof.Rows L2 Xc
def rSortedPX (K : PySem.W.Frag) : List V → Hp → VK → Prop := fun vs H Q => ∃ (a : Addr) (xs : List V) (k : V → Int × Int), vs = [V.ref a] ∧ (SqL K H a xs ∨ SqT K H a xs) ∧ (∀ x ∈ xs, ∃ t, x = V.ref t ∧ H t = some (.tup [.int (k x).1, .int (k x).2])) ∧
  ∀ ys p, SrtO.Srtd (ltP k) ys → SrtO.Stb (ltP k) ys xs → H p = none → Q (.ref p) (upd H p (.lst ys))
theorem cr_sortedPX {X : Cx} : CallR X (.builtin "sorted") (rSortedPX X.K) := by
  intro pins s σ H vs us Q I r h
  obtain ⟨a, xs, k, rfl, hs | hs, hx, q⟩ := h
  · exact cr_sortedPO pins s σ H _ us Q I r ⟨a, xs, k, rfl, hs, hx, q⟩
  obtain ⟨its, rv, hl, hz⟩ := I.tuple hs
  obtain ⟨u, rfl, ru⟩ := vals1 r
  obtain rfl : u = Value.ref a := ru
  obtain ⟨e1, e2⟩ := refs_back rv fun x m => by
    obtain ⟨t, e, _⟩ := hx x m
    exact ⟨t, e⟩
  refine SrtO.sorted_pairsT (k := fun u => k (backV u)) hl (by rw [← rv.length]; exact hz) (fun v hv => ?_) fun out h1 h' s1 s2 k1 k2 hn => ?_
  · obtain ⟨t, rfl⟩ := e2 v hv
    have hm : V.ref t ∈ xs := by rw [e1]; exact List.mem_map.mpr ⟨_, hv, rfl⟩
    obtain ⟨t', e, ht⟩ := hx _ hm
    cases e
    obtain ⟨_, its2, r2, o, ho, hc, n, hd⟩ := I.hok _ _ ht
    obtain ⟨u1, u2, rfl, ri, rj⟩ := vals2 r2
    obtain ⟨t1, rfl⟩ := ri
    obtain ⟨t2, rfl⟩ := rj
    exact ⟨t, o, t1, t2, n, rfl, ho, hc, hd⟩
  · have h3 : ∀ u ∈ out, ∃ a, u = Value.ref a := fun u hu => e2 u (s2.perm.mem_iff.mp hu)
    obtain ⟨n, hn⟩ := hn
    have hb : SrtO.Stb (ltP k) (out.map backV) xs := by
      rw [e1]
      exact SrtO.Stb.map (ltP_swo k) backV s2
    have I1 : Inv X pins σ H { s with heap := h1 } := I.kept (t' := s.toks) k1
    refine ⟨.ref h1.objs.size, upd H h1.objs.size (.lst (out.map backV)), I1.laid (t' := s.toks) k2 (Nat.le_refl _) ⟨?_, out, n, vals_back h3, hn⟩, rfl, q _ _ (SrtO.srtd_map s1) hb (I1.hok.fresh (Nat.le_refl _))⟩
    rw [hb.len]
    exact hz
/-! ### len(set(xs)), xs any ints -/
theorem met_len (ns : List Int) : ∀ i, i ≤ ns.length → (firstMet (fun i => ns.getD i 0) i).length ≤ i ∧ ((firstMet (fun i => ns.getD i 0) i).length = i → (ns.take i).Nodup ∧ firstMet (fun i => ns.getD i 0) i = ns.take i)
  | 0, _ => ⟨Nat.le_refl _, fun _ => ⟨List.nodup_nil, rfl⟩⟩
  | i + 1, hi => by
    have hlt : i < ns.length := hi
    obtain ⟨h1, h2⟩ := met_len ns i (Nat.le_of_lt hlt)
    have e1 : ns.getD i 0 = ns[i] := by
      rw [List.getD_eq_getElem?_getD, List.getElem?_eq_getElem hlt] <;> rfl
    have e2 : ns.take (i + 1) = ns.take i ++ [ns[i]] := by
      rw [List.take_add_one, List.getElem?_eq_getElem hlt] <;> rfl
    rw [firstMet_succ]
    show (if (firstMet (fun i => ns.getD i 0) i).any (· == ns.getD i 0) then _ else _ : List Int).length ≤ _ ∧ ((if (firstMet (fun i => ns.getD i 0) i).any (· == ns.getD i 0) then _ else _ : List Int).length = _ → _ ∧ (if (firstMet (fun i => ns.getD i 0) i).any (· == ns.getD i 0) then _ else _ : List Int) = _)
    rw [e1]
    cases c : (firstMet (fun i => ns.getD i 0) i).any (· == ns[i]) with
    | true =>
      rw [if_pos rfl]
      exact ⟨Nat.le_succ_of_le h1, fun z => absurd h1 (by rw [z]; exact Nat.not_succ_le_self i)⟩
    | false =>
      rw [if_neg Bool.false_ne_true, List.length_append]
      refine ⟨Nat.succ_le_succ h1, fun z => ?_⟩
      obtain ⟨h3, h4⟩ := h2 (Nat.succ.inj z)
      rw [e2, h4]
      refine ⟨?_, rfl⟩
      rw [List.nodup_append]
      refine ⟨h3, List.nodup_cons.mpr ⟨List.not_mem_nil, List.nodup_nil⟩, fun a ha b hb e => ?_⟩
      rw [List.mem_singleton] at hb
      rw [h4] at c
      have c' : (ns.take i).any (· == ns[i]) = true := List.any_eq_true.mpr ⟨a, ha, by rw [e, hb]; exact beq_self_eq_true _⟩
      rw [c'] at c
      cases c
theorem met_nodup (ns : List Int) : (firstMet (fun i => ns.getD i 0) ns.length).length = ns.length ↔ ns.Nodup := by
  obtain ⟨h1, h2⟩ := met_len ns ns.length (Nat.le_refl _)
  constructor
  · intro h
    have h3 := (h2 h).1
    rwa [List.take_length] at h3
  · intro h
    rw [L2.firstMet_nodup ns h ns.length (Nat.le_refl _), List.take_length]
def tLenSetM (K : PySem.W.Frag) (ta : TE) : TE := fun σ H Q => ta σ H fun x H1 => ∃ (l : Addr) (ns : List Int), x = .ref l ∧ SqL K H1 l (ns.map V.int) ∧ ns.length ≤ 4000 ∧ ∀ m : Nat, (m = ns.length ↔ ns.Nodup) → Q (.int (m : Nat)) H1
theorem pe_lenSetM {X : Cx} {a : Expr} {ta : TE} {p p2 q pos : Pos} (hg : Gl X "len") (hm : X.mg "len" = none) (hg2 : Gl X "set") (hm2 : X.mg "set" = none) (ha : PE X a ta) (hc : X.calm = true := by rfl)
    (na : starEach [a] X.env = (false, eval a X.env) :: starEach [] X.env := by rfl) : PE X (.Call (.Name "len" p) [.Call (.Name "set" p2) [a] [] q] [] pos) (tLenSetM X.K ta) := by
  refine ⟨fun pins s σ H Q I h => ?_⟩
  refine Call_ (ld_blt I hg hm boot_len ?_)
  refine PyProof.Rows.callWith_builtin1 (PyProof.Rows.args_cons ?_ rfl) rfl rfl
  refine Call_ (ld_blt I hg2 hm2 boot_set ?_)
  refine PyProof.Rows.callWith_type1 (PyProof.Rows.args_cons (thn (ha.run pins s σ H _ I h) fun v s1 ⟨x, H1, I1, r1, q1⟩ => PyProof.Rows.args_nil ?_) na) na rfl
  obtain ⟨l, ns, rfl, hq, hl, q1⟩ := q1
  cases r1
  obtain ⟨its, r, pl, hz⟩ := I1.list hq
  have hlen : its.toArray.size = ns.length := by rw [List.size_toArray, ← r.length, List.length_map]
  refine call_set_list (I1.ok.hd hc) pl.isList (ns := ns) (by simpa using r.ints) (by rw [hlen]; unfold scanBound; omega) fun h' tk hS hk => ?_
  refine PyProof.Rows.args_nil ?_
  rw [hlen] at hS
  have hle := (met_len ns ns.length (Nat.le_refl _)).1
  have hm := met_nodup ns
  generalize firstMet (fun i => ns.getD i 0) ns.length = ms at hS hle hm
  obtain ⟨o, es, ep, t, ho, hex, hd, _, _, _, hf, hn⟩ := hS
  have I2 : Inv X pins σ H1 { s1 with heap := h', toks := tk } := I1.kept fun b o e => hk b o (Heap.lt_size e) e
  exact call_len_set ho hex hd hf (by rw [hn] <;> omega) ⟨.int (ms.length : Nat), H1, I2.tok _, ⟨_, by rw [hn]⟩, q1 _ hm⟩
end Dt
namespace K40
open PySem PySem.Spec PyProof.Rows L2 Xc Dt
/-! ### lists of items -/
def D.its : D → Option (List D)
  | .lst ds => some ds
  | .tup ds => some ds
  | _ => none
/-- a list or tuple of items whose keys and marks differ -/
def AreI (d : D) : Prop := ∃ ps : List (Int × Int), D.its d = some (ps.map itemD) ∧ (ps.map (·.1)).Nodup ∧ (ps.map (·.2)).Nodup
theorem all_items_of : ∀ {ds : List D}, ((ds.map fun d => (D.item d).isSome).all id) = true ↔ ∃ ps : List (Int × Int), ds = ps.map itemD
  | [] => ⟨fun _ => ⟨[], rfl⟩, fun _ => rfl⟩
  | d :: ds => by
    rw [List.map_cons, List.all_cons, Bool.and_eq_true, all_items_of (ds := ds)]
    constructor
    · rintro ⟨h1, ps, h2⟩
      obtain ⟨⟨k, m⟩, e⟩ := Option.isSome_iff_exists.mp h1
      exact ⟨(k, m) :: ps, by rw [List.map_cons, h2, D.item_some e]; rfl⟩
    · rintro ⟨ps, h⟩
      cases ps with
      | nil => cases h
      | cons p ps =>
        obtain ⟨h1, h2⟩ := List.cons.inj h
        exact ⟨by rw [h1]; rfl, ps, h2⟩
theorem itemD_inj {p q : Int × Int} (h : itemD p = itemD q) : p = q := by
  have h : D.tup [.int p.1, .int p.2] = D.tup [.int q.1, .int q.2] := h
  injection h with h
  injection h with h1 h
  injection h with h2 _
  injection h1 with h1
  injection h2 with h2
  exact Prod.ext h1 h2
theorem map_itemD_inj : ∀ {ps qs : List (Int × Int)}, ps.map itemD = qs.map itemD → ps = qs
  | [], [], _ => rfl
  | [], _ :: _, h => by cases h
  | _ :: _, [], h => by cases h
  | p :: ps, q :: qs, h => by
    obtain ⟨h1, h2⟩ := List.cons.inj h
    rw [itemD_inj h1, map_itemD_inj h2]
structure Nm2 (mg : Str → Option Value) : Prop extends Nm mg where
  all : mg "all" = none
  sorted : mg "sorted" = none
section
variable {P : Program} {w : World} {K : PySem.W.Frag} {mg : Str → Option Value} {base : Heap} {f : Addr} {fd : FuncData}
def spAre : Sp := fun vs H Q _ => ∃ (d : D) (v : V), vs = [v] ∧ Is H d v ∧ (∀ ds, D.its d = some ds → ds.length ≤ 100) ∧ ∀ (b : Bool) (H' : Hp), (b = true ↔ AreI d) → Same H H' → Q (.bl b) H'
theorem sc16 : FnScope ["value", "many", "one"] ["value"] (defScope (top 16)) := ⟨rfl, rfl, rfl, by decide +kernel, rfl, by decide +kernel, by decide +kernel⟩
theorem ok_are {g : Addr} {gd : FuncData} (F : Fun K "are_items" "are_items" (top 16) f fd) (N : Nm2 mg) (G : FnOk P w K mg base CX0 2 g gd ["value"] (spAsk fun d => (D.item d).isSome)) (bG : Binds K gd ["value"] []) (kG : PySem.W.keepIn K (.ref g) = true) (mG : mg "is_item" = some (.ref g)) :
    FnOk P w K mg base CX0 3 f fd ["value"] spAre := by
  refine F.ok sc16 (fun vs H Q E h => ?_) (fun cdv A outer s H vs Q E hr h => ?_)
  · obtain ⟨d, v, rfl, _⟩ := h
    rfl
  obtain ⟨d, v, rfl, hd, hw, q⟩ := h
  have hu := hu_of hr
  cases d with
  | lst ds =>
    refine ⟨_, pss_cons (ps_if (PW.pt (pw_and (pt_cmpR op_neTy (pe_callTy call_type1 (by rfl) N.type (by decide +kernel) (pa_cons (pv 0) pa_nil)) (pe_bltn (v := .ty "list") (by rfl) N.list (by decide +kernel) rfl) (nomark _))
        (pw_and1 (pt_cmpR op_neTy (pe_callTy call_type1 (by rfl) N.type (by decide +kernel) (pa_cons (pv 0) pa_nil)) (pe_bltn (v := .ty "tuple") (by rfl) N.tuple (by decide +kernel) rfl) (nomark _))))) (pss_one (ps_ret pe_bl)) pss_nil)
      (pss_cons (ps_if (pt_not (pt_val (pe_callB (show CallR _ (.builtin "all") (rAll K) from cr_all rfl) (by rfl) N.all (by decide +kernel) (pa_cons
          (pe_lc (own := [("one", 2)]) (g := gName 2) (tt := tYes) rfl sc16.nd (pi_list (pv 0)) (blkOk_by (N := ["value", "many", "one"]) (sc := defScope (top 16)) (by decide +kernel))
            (fun _ _ _ _ _ => pg_name (i := 2) sc16.nd rfl (.inl rfl)) (fun _ _ _ _ _ => pts_nil) (fun _ _ _ _ _ => pe_call G hr rfl mG kG bG .nil pass0 (pa_cons (pv 2) pa_nil))) pa_nil)))) (pss_one (ps_ret pe_bl)) pss_nil)
      (pss_cons (ps_set (i := 1) sc16.nd rfl (.inl rfl) (pe_callB call_len_seq (by rfl) N.len PySem.boot_len (pa_cons (pv 0) pa_nil)))
      (pss_one (ps_ret (pe_and (pe_cmpR op_eq (pe_lenSetM (by rfl) N.len (by rfl) N.set
            (pe_lc (own := [("one", 2)]) (g := gName 2) (tt := tYes) rfl sc16.nd (pi_list (pv 0)) (blkOk_by (N := ["value", "many", "one"]) (sc := defScope (top 16)) (by decide +kernel))
              (fun _ _ _ _ _ => pg_name (i := 2) sc16.nd rfl (.inl rfl)) (fun _ _ _ _ _ => pts_nil) (fun _ _ _ _ _ => pe_ix (show IxR _ (rIxT K) from ix_tup) (pv 2) pe_int (fun _ _ => rfl)))) (pv 1) (nomark _))
          (pe_one (pe_cmpR op_eq (pe_lenSetM (by rfl) N.len (by rfl) N.set
            (pe_lc (own := [("one", 2)]) (g := gName 2) (tt := tYes) rfl sc16.nd (pi_list (pv 0)) (blkOk_by (N := ["value", "many", "one"]) (sc := defScope (top 16)) (by decide +kernel))
              (fun _ _ _ _ _ => pg_name (i := 2) sc16.nd rfl (.inl rfl)) (fun _ _ _ _ _ => pts_nil) (fun _ _ _ _ _ => pe_ix (show IxR _ (rIxT K) from ix_tup) (pv 2) pe_int (fun _ _ => rfl)))) (pv 1) (nomark _)))))))), ?_⟩
    obtain ⟨a, xs, rfl, ha, hx⟩ := id hd
    have hl : ds.length ≤ 100 := hw ds rfl
    have hxl : xs.length = ds.length := hx.len
    refine ⟨_, rfl, _, _, rfl, hd.ty, _, _, rfl, rfl, D.ty_in _, by decide, ?_⟩
    refine ⟨_, rfl, ifF rfl ?_⟩
    refine ifF rfl ?_
    refine ⟨_, rfl, a, rfl, ⟨_, SqL.of ha⟩, fun Da nD => lc_list (K := K) (a := a) (xs := xs) (fun i Hc => Hc Da = some (.lst (((ds.take i).map fun d => (D.item d).isSome).map V.bl)) ∧ Same H Hc) ⟨upd_same, same_new nD _⟩ (fun i Hc _ h => SqL.of (h.2 _ _ ha)) ?_ ?_⟩
    · rintro i x Hc hi ⟨hz, sc⟩
      obtain ⟨hil, _⟩ := List.getElem?_eq_some_iff.mp hi
      have hit : ds[i]? = some ds[i] := List.getElem?_eq_getElem (by omega)
      obtain ⟨x', hx', ix⟩ := hx.at hit
      rw [hi] at hx'
      cases hx'
      refine ⟨rfl, ?_⟩
      refine ⟨_, rfl, ds[i], x, rfl, ix.same sc, _, hz, (by rw [List.length_map, List.length_map, List.length_take]; exact small1000' (by omega)), ?_, fun b o eb => ?_⟩
      · rw [upd_same, take_snoc hit, List.map_append, List.map_append]
        rfl
      · rw [upd_ne (ne_of_none eb nD)]
        exact sc b o eb
    rintro Hd ⟨hz, sd⟩
    rw [hxl, List.take_length] at hz
    refine ⟨Da, _, rfl, SqL.of hz, _, rfl, ?_⟩
    refine if2 (fun c => ?_) (fun c => ?_)
    · have c' : ((ds.map fun d => (D.item d).isSome).all id) = false := by
        cases e : (ds.map fun d => (D.item d).isSome).all id with
        | false => rfl
        | true => rw [e] at c; cases c
      refine q false Hd ⟨fun z => (by cases z), fun ⟨ps, e1, _⟩ => ?_⟩ sd
      cases e1
      rw [all_items_of.mpr ⟨ps, rfl⟩] at c'
      cases c'
    · have c' : ((ds.map fun d => (D.item d).isSome).all id) = true := by
        cases e : (ds.map fun d => (D.item d).isSome).all id with
        | true => rfl
        | false => rw [e] at c; cases c
      obtain ⟨ps, rfl⟩ := all_items_of.mp c'
      rw [List.length_map] at hxl hl
      refine ⟨_, rfl, a, xs, rfl, .inl (SqL.of (sd _ _ ha)), ?_⟩
      -- the keys
      refine ⟨_, rfl, a, rfl, ⟨_, SqL.of (sd _ _ ha)⟩, fun Db nB => lc_list (K := K) (a := a) (xs := xs) (fun i Hc => Hc Db = some (.lst (((ps.take i).map (·.1)).map V.int)) ∧ Same H Hc) ⟨upd_same, sd.trans (same_new nB _)⟩ (fun i Hc _ h => SqL.of (h.2 _ _ ha)) ?_ ?_⟩
      · rintro i x Hc hi ⟨hz2, sc⟩
        obtain ⟨hil, _⟩ := List.getElem?_eq_some_iff.mp hi
        have hit : ps[i]? = some ps[i] := List.getElem?_eq_getElem (by omega)
        obtain ⟨x', hx', ix⟩ := hx.at (i := i) (d := itemD ps[i]) (by rw [List.getElem?_map, hit]; rfl)
        rw [hi] at hx'
        cases hx'
        obtain ⟨t, rfl, ht⟩ := (pairAt_is (ix.same sc)).2
        refine ⟨rfl, ?_⟩
        refine ⟨_, rfl, t, _, _, _, rfl, rfl, SqT.of ht, atI_nat (j := 0) rfl, _, hz2, (by rw [List.length_map, List.length_map, List.length_take]; exact small1000' (by omega)), ?_, fun b o eb => ?_⟩
        · rw [upd_same, take_snoc hit, List.map_append, List.map_append]
          rfl
        · rw [upd_ne (ne_of_none eb (sd.free nB))]
          exact sc b o eb
      rintro He ⟨hz2, se⟩
      rw [hxl, List.take_length] at hz2
      refine ⟨Db, ps.map (·.1), rfl, SqL.of hz2, (by rw [List.length_map]; omega), fun m1 hm1 => ?_⟩
      rw [List.length_map] at hm1
      refine ⟨_, rfl, rfl, _, rfl, ?_⟩
      have d1 : (decide (V.int ((m1 : Nat) : Int) = V.int ((xs.length : Nat) : Int)) = true) ↔ (ps.map (·.1)).Nodup := by
        rw [decide_eq_true_eq, ← hm1, hxl]
        constructor
        · intro z
          have := V.int.inj z
          omega
        · rintro rfl
          rfl
      refine if2 (fun c1 => ?_) (fun c1 => ?_)
      · have k1 := d1.mp c1
        -- the marks
        refine ⟨_, rfl, a, rfl, ⟨_, SqL.of (se _ _ ha)⟩, fun Dc nC => lc_list (K := K) (a := a) (xs := xs) (fun i Hc => Hc Dc = some (.lst (((ps.take i).map (·.2)).map V.int)) ∧ Same H Hc) ⟨upd_same, se.trans (same_new nC _)⟩ (fun i Hc _ h => SqL.of (h.2 _ _ ha)) ?_ ?_⟩
        · rintro i x Hc hi ⟨hz3, sc⟩
          obtain ⟨hil, _⟩ := List.getElem?_eq_some_iff.mp hi
          have hit : ps[i]? = some ps[i] := List.getElem?_eq_getElem (by omega)
          obtain ⟨x', hx', ix⟩ := hx.at (i := i) (d := itemD ps[i]) (by rw [List.getElem?_map, hit]; rfl)
          rw [hi] at hx'
          cases hx'
          obtain ⟨t, rfl, ht⟩ := (pairAt_is (ix.same sc)).2
          refine ⟨rfl, ?_⟩
          refine ⟨_, rfl, t, _, _, _, rfl, rfl, SqT.of ht, atI_nat (j := 1) rfl, _, hz3, (by rw [List.length_map, List.length_map, List.length_take]; exact small1000' (by omega)), ?_, fun b o eb => ?_⟩
          · rw [upd_same, take_snoc hit, List.map_append, List.map_append]
            rfl
          · rw [upd_ne (ne_of_none eb (se.free nC))]
            exact sc b o eb
        rintro Hf ⟨hz3, sf⟩
        rw [hxl, List.take_length] at hz3
        refine ⟨Dc, ps.map (·.2), rfl, SqL.of hz3, (by rw [List.length_map]; omega), fun m2 hm2 => ?_⟩
        rw [List.length_map] at hm2
        refine ⟨_, rfl, rfl, q _ Hf ?_ sf⟩
        have d2 : (decide (V.int ((m2 : Nat) : Int) = V.int ((xs.length : Nat) : Int)) = true) ↔ (ps.map (·.2)).Nodup := by
          rw [decide_eq_true_eq, ← hm2, hxl]
          constructor
          · intro z
            have := V.int.inj z
            omega
          · rintro rfl
            rfl
        refine d2.trans ⟨fun z => ⟨ps, rfl, k1, z⟩, fun ⟨ps', e, _, z⟩ => ?_⟩
        have e := map_itemD_inj (Option.some.inj e)
        rw [e]
        exact z
      · refine q false He ?_ se
        refine ⟨fun z => (by cases z), fun ⟨ps', e, z, _⟩ => ?_⟩
        have e := map_itemD_inj (Option.some.inj e)
        rw [← e] at z
        rw [d1.mpr z] at c1
        cases c1
  | tup ds =>
    refine ⟨_, pss_cons (ps_if (PW.pt (pw_and (pt_cmpR op_neTy (pe_callTy call_type1 (by rfl) N.type (by decide +kernel) (pa_cons (pv 0) pa_nil)) (pe_bltn (v := .ty "list") (by rfl) N.list (by decide +kernel) rfl) (nomark _))
        (pw_and1 (pt_cmpR op_neTy (pe_callTy call_type1 (by rfl) N.type (by decide +kernel) (pa_cons (pv 0) pa_nil)) (pe_bltn (v := .ty "tuple") (by rfl) N.tuple (by decide +kernel) rfl) (nomark _))))) (pss_one (ps_ret pe_bl)) pss_nil)
      (pss_cons (ps_if (pt_not (pt_val (pe_callB (show CallR _ (.builtin "all") (rAll K) from cr_all rfl) (by rfl) N.all (by decide +kernel) (pa_cons
          (pe_lc (own := [("one", 2)]) (g := gName 2) (tt := tYes) rfl sc16.nd (pi_tup (pv 0)) (blkOk_by (N := ["value", "many", "one"]) (sc := defScope (top 16)) (by decide +kernel))
            (fun _ _ _ _ _ => pg_name (i := 2) sc16.nd rfl (.inl rfl)) (fun _ _ _ _ _ => pts_nil) (fun _ _ _ _ _ => pe_call G hr rfl mG kG bG .nil pass0 (pa_cons (pv 2) pa_nil))) pa_nil)))) (pss_one (ps_ret pe_bl)) pss_nil)
      (pss_cons (ps_set (i := 1) sc16.nd rfl (.inl rfl) (pe_callB call_len_seq (by rfl) N.len PySem.boot_len (pa_cons (pv 0) pa_nil)))
      (pss_one (ps_ret (pe_and (pe_cmpR op_eq (pe_lenSetM (by rfl) N.len (by rfl) N.set
            (pe_lc (own := [("one", 2)]) (g := gName 2) (tt := tYes) rfl sc16.nd (pi_tup (pv 0)) (blkOk_by (N := ["value", "many", "one"]) (sc := defScope (top 16)) (by decide +kernel))
              (fun _ _ _ _ _ => pg_name (i := 2) sc16.nd rfl (.inl rfl)) (fun _ _ _ _ _ => pts_nil) (fun _ _ _ _ _ => pe_ix (show IxR _ (rIxT K) from ix_tup) (pv 2) pe_int (fun _ _ => rfl)))) (pv 1) (nomark _))
          (pe_one (pe_cmpR op_eq (pe_lenSetM (by rfl) N.len (by rfl) N.set
            (pe_lc (own := [("one", 2)]) (g := gName 2) (tt := tYes) rfl sc16.nd (pi_tup (pv 0)) (blkOk_by (N := ["value", "many", "one"]) (sc := defScope (top 16)) (by decide +kernel))
              (fun _ _ _ _ _ => pg_name (i := 2) sc16.nd rfl (.inl rfl)) (fun _ _ _ _ _ => pts_nil) (fun _ _ _ _ _ => pe_ix (show IxR _ (rIxT K) from ix_tup) (pv 2) pe_int (fun _ _ => rfl)))) (pv 1) (nomark _)))))))), ?_⟩
    obtain ⟨a, xs, rfl, ha, hx⟩ := id hd
    have hl : ds.length ≤ 100 := hw ds rfl
    have hxl : xs.length = ds.length := hx.len
    refine ⟨_, rfl, _, _, rfl, hd.ty, _, _, rfl, rfl, D.ty_in _, by decide, ?_⟩
    refine ⟨_, rfl, ifT rfl ?_⟩
    refine ⟨_, rfl, _, _, rfl, hd.ty, _, _, rfl, rfl, D.ty_in _, by decide, ?_⟩
    refine ⟨_, rfl, ?_⟩
    refine ifF rfl ?_
    refine ⟨_, rfl, a, rfl, ⟨_, SqT.of ha⟩, fun Da nD => lc_tup (K := K) (a := a) (xs := xs) (fun i Hc => Hc Da = some (.lst (((ds.take i).map fun d => (D.item d).isSome).map V.bl)) ∧ Same H Hc) ⟨upd_same, same_new nD _⟩ (fun i Hc _ h => SqT.of (h.2 _ _ ha)) ?_ ?_⟩
    · rintro i x Hc hi ⟨hz, sc⟩
      obtain ⟨hil, _⟩ := List.getElem?_eq_some_iff.mp hi
      have hit : ds[i]? = some ds[i] := List.getElem?_eq_getElem (by omega)
      obtain ⟨x', hx', ix⟩ := hx.at hit
      rw [hi] at hx'
      cases hx'
      refine ⟨rfl, ?_⟩
      refine ⟨_, rfl, ds[i], x, rfl, ix.same sc, _, hz, (by rw [List.length_map, List.length_map, List.length_take]; exact small1000' (by omega)), ?_, fun b o eb => ?_⟩
      · rw [upd_same, take_snoc hit, List.map_append, List.map_append]
        rfl
      · rw [upd_ne (ne_of_none eb nD)]
        exact sc b o eb
    rintro Hd ⟨hz, sd⟩
    rw [hxl, List.take_length] at hz
    refine ⟨Da, _, rfl, SqL.of hz, _, rfl, ?_⟩
    refine if2 (fun c => ?_) (fun c => ?_)
    · have c' : ((ds.map fun d => (D.item d).isSome).all id) = false := by
        cases e : (ds.map fun d => (D.item d).isSome).all id with
        | false => rfl
        | true => rw [e] at c; cases c
      refine q false Hd ⟨fun z => (by cases z), fun ⟨ps, e1, _⟩ => ?_⟩ sd
      cases e1
      rw [all_items_of.mpr ⟨ps, rfl⟩] at c'
      cases c'
    · have c' : ((ds.map fun d => (D.item d).isSome).all id) = true := by
        cases e : (ds.map fun d => (D.item d).isSome).all id with
        | true => rfl
        | false => rw [e] at c; cases c
      obtain ⟨ps, rfl⟩ := all_items_of.mp c'
      rw [List.length_map] at hxl hl
      refine ⟨_, rfl, a, xs, rfl, .inr (SqT.of (sd _ _ ha)), ?_⟩
      -- the keys
      refine ⟨_, rfl, a, rfl, ⟨_, SqT.of (sd _ _ ha)⟩, fun Db nB => lc_tup (K := K) (a := a) (xs := xs) (fun i Hc => Hc Db = some (.lst (((ps.take i).map (·.1)).map V.int)) ∧ Same H Hc) ⟨upd_same, sd.trans (same_new nB _)⟩ (fun i Hc _ h => SqT.of (h.2 _ _ ha)) ?_ ?_⟩
      · rintro i x Hc hi ⟨hz2, sc⟩
        obtain ⟨hil, _⟩ := List.getElem?_eq_some_iff.mp hi
        have hit : ps[i]? = some ps[i] := List.getElem?_eq_getElem (by omega)
        obtain ⟨x', hx', ix⟩ := hx.at (i := i) (d := itemD ps[i]) (by rw [List.getElem?_map, hit]; rfl)
        rw [hi] at hx'
        cases hx'
        obtain ⟨t, rfl, ht⟩ := (pairAt_is (ix.same sc)).2
        refine ⟨rfl, ?_⟩
        refine ⟨_, rfl, t, _, _, _, rfl, rfl, SqT.of ht, atI_nat (j := 0) rfl, _, hz2, (by rw [List.length_map, List.length_map, List.length_take]; exact small1000' (by omega)), ?_, fun b o eb => ?_⟩
        · rw [upd_same, take_snoc hit, List.map_append, List.map_append]
          rfl
        · rw [upd_ne (ne_of_none eb (sd.free nB))]
          exact sc b o eb
      rintro He ⟨hz2, se⟩
      rw [hxl, List.take_length] at hz2
      refine ⟨Db, ps.map (·.1), rfl, SqL.of hz2, (by rw [List.length_map]; omega), fun m1 hm1 => ?_⟩
      rw [List.length_map] at hm1
      refine ⟨_, rfl, rfl, _, rfl, ?_⟩
      have d1 : (decide (V.int ((m1 : Nat) : Int) = V.int ((xs.length : Nat) : Int)) = true) ↔ (ps.map (·.1)).Nodup := by
        rw [decide_eq_true_eq, ← hm1, hxl]
        constructor
        · intro z
          have := V.int.inj z
          omega
        · rintro rfl
          rfl
      refine if2 (fun c1 => ?_) (fun c1 => ?_)
      · have k1 := d1.mp c1
        -- the marks
        refine ⟨_, rfl, a, rfl, ⟨_, SqT.of (se _ _ ha)⟩, fun Dc nC => lc_tup (K := K) (a := a) (xs := xs) (fun i Hc => Hc Dc = some (.lst (((ps.take i).map (·.2)).map V.int)) ∧ Same H Hc) ⟨upd_same, se.trans (same_new nC _)⟩ (fun i Hc _ h => SqT.of (h.2 _ _ ha)) ?_ ?_⟩
        · rintro i x Hc hi ⟨hz3, sc⟩
          obtain ⟨hil, _⟩ := List.getElem?_eq_some_iff.mp hi
          have hit : ps[i]? = some ps[i] := List.getElem?_eq_getElem (by omega)
          obtain ⟨x', hx', ix⟩ := hx.at (i := i) (d := itemD ps[i]) (by rw [List.getElem?_map, hit]; rfl)
          rw [hi] at hx'
          cases hx'
          obtain ⟨t, rfl, ht⟩ := (pairAt_is (ix.same sc)).2
          refine ⟨rfl, ?_⟩
          refine ⟨_, rfl, t, _, _, _, rfl, rfl, SqT.of ht, atI_nat (j := 1) rfl, _, hz3, (by rw [List.length_map, List.length_map, List.length_take]; exact small1000' (by omega)), ?_, fun b o eb => ?_⟩
          · rw [upd_same, take_snoc hit, List.map_append, List.map_append]
            rfl
          · rw [upd_ne (ne_of_none eb (se.free nC))]
            exact sc b o eb
        rintro Hf ⟨hz3, sf⟩
        rw [hxl, List.take_length] at hz3
        refine ⟨Dc, ps.map (·.2), rfl, SqL.of hz3, (by rw [List.length_map]; omega), fun m2 hm2 => ?_⟩
        rw [List.length_map] at hm2
        refine ⟨_, rfl, rfl, q _ Hf ?_ sf⟩
        have d2 : (decide (V.int ((m2 : Nat) : Int) = V.int ((xs.length : Nat) : Int)) = true) ↔ (ps.map (·.2)).Nodup := by
          rw [decide_eq_true_eq, ← hm2, hxl]
          constructor
          · intro z
            have := V.int.inj z
            omega
          · rintro rfl
            rfl
        refine d2.trans ⟨fun z => ⟨ps, rfl, k1, z⟩, fun ⟨ps', e, _, z⟩ => ?_⟩
        have e := map_itemD_inj (Option.some.inj e)
        rw [e]
        exact z
      · refine q false He ?_ se
        refine ⟨fun z => (by cases z), fun ⟨ps', e, z, _⟩ => ?_⟩
        have e := map_itemD_inj (Option.some.inj e)
        rw [← e] at z
        rw [d1.mpr z] at c1
        cases c1
  | non =>
    refine ⟨_, pss_cons (ps_if (PW.pt (pw_and (pt_cmpR op_neTy (pe_callTy call_type1 (by rfl) N.type (by decide +kernel) (pa_cons (pv 0) pa_nil)) (pe_bltn (v := .ty "list") (by rfl) N.list (by decide +kernel) rfl) (nomark _))
        (pw_and1 (pt_cmpR op_neTy (pe_callTy call_type1 (by rfl) N.type (by decide +kernel) (pa_cons (pv 0) pa_nil)) (pe_bltn (v := .ty "tuple") (by rfl) N.tuple (by decide +kernel) rfl) (nomark _))))) (pss_one (ps_ret pe_bl)) pss_nil)
      (pss_cons (ps_if (pt_not (pt_val (pe_callB (show CallR _ (.builtin "all") (rAll K) from cr_all rfl) (by rfl) N.all (by decide +kernel) (pa_cons
          (pe_lc (own := [("one", 2)]) (g := gName 2) (tt := tYes) rfl sc16.nd (pi_list (pv 0)) (blkOk_by (N := ["value", "many", "one"]) (sc := defScope (top 16)) (by decide +kernel))
            (fun _ _ _ _ _ => pg_name (i := 2) sc16.nd rfl (.inl rfl)) (fun _ _ _ _ _ => pts_nil) (fun _ _ _ _ _ => pe_call G hr rfl mG kG bG .nil pass0 (pa_cons (pv 2) pa_nil))) pa_nil)))) (pss_one (ps_ret pe_bl)) pss_nil)
      (pss_cons (ps_set (i := 1) sc16.nd rfl (.inl rfl) (pe_callB call_len_seq (by rfl) N.len PySem.boot_len (pa_cons (pv 0) pa_nil)))
      (pss_one (ps_ret (pe_and (pe_cmpR op_eq (pe_lenSetM (by rfl) N.len (by rfl) N.set
            (pe_lc (own := [("one", 2)]) (g := gName 2) (tt := tYes) rfl sc16.nd (pi_list (pv 0)) (blkOk_by (N := ["value", "many", "one"]) (sc := defScope (top 16)) (by decide +kernel))
              (fun _ _ _ _ _ => pg_name (i := 2) sc16.nd rfl (.inl rfl)) (fun _ _ _ _ _ => pts_nil) (fun _ _ _ _ _ => pe_ix (show IxR _ (rIxT K) from ix_tup) (pv 2) pe_int (fun _ _ => rfl)))) (pv 1) (nomark _))
          (pe_one (pe_cmpR op_eq (pe_lenSetM (by rfl) N.len (by rfl) N.set
            (pe_lc (own := [("one", 2)]) (g := gName 2) (tt := tYes) rfl sc16.nd (pi_list (pv 0)) (blkOk_by (N := ["value", "many", "one"]) (sc := defScope (top 16)) (by decide +kernel))
              (fun _ _ _ _ _ => pg_name (i := 2) sc16.nd rfl (.inl rfl)) (fun _ _ _ _ _ => pts_nil) (fun _ _ _ _ _ => pe_ix (show IxR _ (rIxT K) from ix_tup) (pv 2) pe_int (fun _ _ => rfl)))) (pv 1) (nomark _)))))))), ?_⟩
    have e : ¬ AreI (.non) := fun ⟨_, z, _⟩ => by cases z
    exact ⟨_, rfl, _, _, rfl, hd.ty, _, _, rfl, rfl, D.ty_in _, by decide, ⟨_, rfl, ifT rfl ⟨_, rfl, _, _, rfl, hd.ty, _, _, rfl, rfl, D.ty_in _, by decide, ⟨_, rfl, ifT rfl (q false H ⟨fun z => (by cases z), fun z => absurd z e⟩ (Same.refl H))⟩⟩⟩⟩
  | bl b =>
    refine ⟨_, pss_cons (ps_if (PW.pt (pw_and (pt_cmpR op_neTy (pe_callTy call_type1 (by rfl) N.type (by decide +kernel) (pa_cons (pv 0) pa_nil)) (pe_bltn (v := .ty "list") (by rfl) N.list (by decide +kernel) rfl) (nomark _))
        (pw_and1 (pt_cmpR op_neTy (pe_callTy call_type1 (by rfl) N.type (by decide +kernel) (pa_cons (pv 0) pa_nil)) (pe_bltn (v := .ty "tuple") (by rfl) N.tuple (by decide +kernel) rfl) (nomark _))))) (pss_one (ps_ret pe_bl)) pss_nil)
      (pss_cons (ps_if (pt_not (pt_val (pe_callB (show CallR _ (.builtin "all") (rAll K) from cr_all rfl) (by rfl) N.all (by decide +kernel) (pa_cons
          (pe_lc (own := [("one", 2)]) (g := gName 2) (tt := tYes) rfl sc16.nd (pi_list (pv 0)) (blkOk_by (N := ["value", "many", "one"]) (sc := defScope (top 16)) (by decide +kernel))
            (fun _ _ _ _ _ => pg_name (i := 2) sc16.nd rfl (.inl rfl)) (fun _ _ _ _ _ => pts_nil) (fun _ _ _ _ _ => pe_call G hr rfl mG kG bG .nil pass0 (pa_cons (pv 2) pa_nil))) pa_nil)))) (pss_one (ps_ret pe_bl)) pss_nil)
      (pss_cons (ps_set (i := 1) sc16.nd rfl (.inl rfl) (pe_callB call_len_seq (by rfl) N.len PySem.boot_len (pa_cons (pv 0) pa_nil)))
      (pss_one (ps_ret (pe_and (pe_cmpR op_eq (pe_lenSetM (by rfl) N.len (by rfl) N.set
            (pe_lc (own := [("one", 2)]) (g := gName 2) (tt := tYes) rfl sc16.nd (pi_list (pv 0)) (blkOk_by (N := ["value", "many", "one"]) (sc := defScope (top 16)) (by decide +kernel))
              (fun _ _ _ _ _ => pg_name (i := 2) sc16.nd rfl (.inl rfl)) (fun _ _ _ _ _ => pts_nil) (fun _ _ _ _ _ => pe_ix (show IxR _ (rIxT K) from ix_tup) (pv 2) pe_int (fun _ _ => rfl)))) (pv 1) (nomark _))
          (pe_one (pe_cmpR op_eq (pe_lenSetM (by rfl) N.len (by rfl) N.set
            (pe_lc (own := [("one", 2)]) (g := gName 2) (tt := tYes) rfl sc16.nd (pi_list (pv 0)) (blkOk_by (N := ["value", "many", "one"]) (sc := defScope (top 16)) (by decide +kernel))
              (fun _ _ _ _ _ => pg_name (i := 2) sc16.nd rfl (.inl rfl)) (fun _ _ _ _ _ => pts_nil) (fun _ _ _ _ _ => pe_ix (show IxR _ (rIxT K) from ix_tup) (pv 2) pe_int (fun _ _ => rfl)))) (pv 1) (nomark _)))))))), ?_⟩
    have e : ¬ AreI (.bl b) := fun ⟨_, z, _⟩ => by cases z
    exact ⟨_, rfl, _, _, rfl, hd.ty, _, _, rfl, rfl, D.ty_in _, by decide, ⟨_, rfl, ifT rfl ⟨_, rfl, _, _, rfl, hd.ty, _, _, rfl, rfl, D.ty_in _, by decide, ⟨_, rfl, ifT rfl (q false H ⟨fun z => (by cases z), fun z => absurd z e⟩ (Same.refl H))⟩⟩⟩⟩
  | int i =>
    refine ⟨_, pss_cons (ps_if (PW.pt (pw_and (pt_cmpR op_neTy (pe_callTy call_type1 (by rfl) N.type (by decide +kernel) (pa_cons (pv 0) pa_nil)) (pe_bltn (v := .ty "list") (by rfl) N.list (by decide +kernel) rfl) (nomark _))
        (pw_and1 (pt_cmpR op_neTy (pe_callTy call_type1 (by rfl) N.type (by decide +kernel) (pa_cons (pv 0) pa_nil)) (pe_bltn (v := .ty "tuple") (by rfl) N.tuple (by decide +kernel) rfl) (nomark _))))) (pss_one (ps_ret pe_bl)) pss_nil)
      (pss_cons (ps_if (pt_not (pt_val (pe_callB (show CallR _ (.builtin "all") (rAll K) from cr_all rfl) (by rfl) N.all (by decide +kernel) (pa_cons
          (pe_lc (own := [("one", 2)]) (g := gName 2) (tt := tYes) rfl sc16.nd (pi_list (pv 0)) (blkOk_by (N := ["value", "many", "one"]) (sc := defScope (top 16)) (by decide +kernel))
            (fun _ _ _ _ _ => pg_name (i := 2) sc16.nd rfl (.inl rfl)) (fun _ _ _ _ _ => pts_nil) (fun _ _ _ _ _ => pe_call G hr rfl mG kG bG .nil pass0 (pa_cons (pv 2) pa_nil))) pa_nil)))) (pss_one (ps_ret pe_bl)) pss_nil)
      (pss_cons (ps_set (i := 1) sc16.nd rfl (.inl rfl) (pe_callB call_len_seq (by rfl) N.len PySem.boot_len (pa_cons (pv 0) pa_nil)))
      (pss_one (ps_ret (pe_and (pe_cmpR op_eq (pe_lenSetM (by rfl) N.len (by rfl) N.set
            (pe_lc (own := [("one", 2)]) (g := gName 2) (tt := tYes) rfl sc16.nd (pi_list (pv 0)) (blkOk_by (N := ["value", "many", "one"]) (sc := defScope (top 16)) (by decide +kernel))
              (fun _ _ _ _ _ => pg_name (i := 2) sc16.nd rfl (.inl rfl)) (fun _ _ _ _ _ => pts_nil) (fun _ _ _ _ _ => pe_ix (show IxR _ (rIxT K) from ix_tup) (pv 2) pe_int (fun _ _ => rfl)))) (pv 1) (nomark _))
          (pe_one (pe_cmpR op_eq (pe_lenSetM (by rfl) N.len (by rfl) N.set
            (pe_lc (own := [("one", 2)]) (g := gName 2) (tt := tYes) rfl sc16.nd (pi_list (pv 0)) (blkOk_by (N := ["value", "many", "one"]) (sc := defScope (top 16)) (by decide +kernel))
              (fun _ _ _ _ _ => pg_name (i := 2) sc16.nd rfl (.inl rfl)) (fun _ _ _ _ _ => pts_nil) (fun _ _ _ _ _ => pe_ix (show IxR _ (rIxT K) from ix_tup) (pv 2) pe_int (fun _ _ => rfl)))) (pv 1) (nomark _)))))))), ?_⟩
    have e : ¬ AreI (.int i) := fun ⟨_, z, _⟩ => by cases z
    exact ⟨_, rfl, _, _, rfl, hd.ty, _, _, rfl, rfl, D.ty_in _, by decide, ⟨_, rfl, ifT rfl ⟨_, rfl, _, _, rfl, hd.ty, _, _, rfl, rfl, D.ty_in _, by decide, ⟨_, rfl, ifT rfl (q false H ⟨fun z => (by cases z), fun z => absurd z e⟩ (Same.refl H))⟩⟩⟩⟩
  | str s =>
    refine ⟨_, pss_cons (ps_if (PW.pt (pw_and (pt_cmpR op_neTy (pe_callTy call_type1 (by rfl) N.type (by decide +kernel) (pa_cons (pv 0) pa_nil)) (pe_bltn (v := .ty "list") (by rfl) N.list (by decide +kernel) rfl) (nomark _))
        (pw_and1 (pt_cmpR op_neTy (pe_callTy call_type1 (by rfl) N.type (by decide +kernel) (pa_cons (pv 0) pa_nil)) (pe_bltn (v := .ty "tuple") (by rfl) N.tuple (by decide +kernel) rfl) (nomark _))))) (pss_one (ps_ret pe_bl)) pss_nil)
      (pss_cons (ps_if (pt_not (pt_val (pe_callB (show CallR _ (.builtin "all") (rAll K) from cr_all rfl) (by rfl) N.all (by decide +kernel) (pa_cons
          (pe_lc (own := [("one", 2)]) (g := gName 2) (tt := tYes) rfl sc16.nd (pi_list (pv 0)) (blkOk_by (N := ["value", "many", "one"]) (sc := defScope (top 16)) (by decide +kernel))
            (fun _ _ _ _ _ => pg_name (i := 2) sc16.nd rfl (.inl rfl)) (fun _ _ _ _ _ => pts_nil) (fun _ _ _ _ _ => pe_call G hr rfl mG kG bG .nil pass0 (pa_cons (pv 2) pa_nil))) pa_nil)))) (pss_one (ps_ret pe_bl)) pss_nil)
      (pss_cons (ps_set (i := 1) sc16.nd rfl (.inl rfl) (pe_callB call_len_seq (by rfl) N.len PySem.boot_len (pa_cons (pv 0) pa_nil)))
      (pss_one (ps_ret (pe_and (pe_cmpR op_eq (pe_lenSetM (by rfl) N.len (by rfl) N.set
            (pe_lc (own := [("one", 2)]) (g := gName 2) (tt := tYes) rfl sc16.nd (pi_list (pv 0)) (blkOk_by (N := ["value", "many", "one"]) (sc := defScope (top 16)) (by decide +kernel))
              (fun _ _ _ _ _ => pg_name (i := 2) sc16.nd rfl (.inl rfl)) (fun _ _ _ _ _ => pts_nil) (fun _ _ _ _ _ => pe_ix (show IxR _ (rIxT K) from ix_tup) (pv 2) pe_int (fun _ _ => rfl)))) (pv 1) (nomark _))
          (pe_one (pe_cmpR op_eq (pe_lenSetM (by rfl) N.len (by rfl) N.set
            (pe_lc (own := [("one", 2)]) (g := gName 2) (tt := tYes) rfl sc16.nd (pi_list (pv 0)) (blkOk_by (N := ["value", "many", "one"]) (sc := defScope (top 16)) (by decide +kernel))
              (fun _ _ _ _ _ => pg_name (i := 2) sc16.nd rfl (.inl rfl)) (fun _ _ _ _ _ => pts_nil) (fun _ _ _ _ _ => pe_ix (show IxR _ (rIxT K) from ix_tup) (pv 2) pe_int (fun _ _ => rfl)))) (pv 1) (nomark _)))))))), ?_⟩
    have e : ¬ AreI (.str s) := fun ⟨_, z, _⟩ => by cases z
    exact ⟨_, rfl, _, _, rfl, hd.ty, _, _, rfl, rfl, D.ty_in _, by decide, ⟨_, rfl, ifT rfl ⟨_, rfl, _, _, rfl, hd.ty, _, _, rfl, rfl, D.ty_in _, by decide, ⟨_, rfl, ifT rfl (q false H ⟨fun z => (by cases z), fun z => absurd z e⟩ (Same.refl H))⟩⟩⟩⟩
  | dct =>
    refine ⟨_, pss_cons (ps_if (PW.pt (pw_and (pt_cmpR op_neTy (pe_callTy call_type1 (by rfl) N.type (by decide +kernel) (pa_cons (pv 0) pa_nil)) (pe_bltn (v := .ty "list") (by rfl) N.list (by decide +kernel) rfl) (nomark _))
        (pw_and1 (pt_cmpR op_neTy (pe_callTy call_type1 (by rfl) N.type (by decide +kernel) (pa_cons (pv 0) pa_nil)) (pe_bltn (v := .ty "tuple") (by rfl) N.tuple (by decide +kernel) rfl) (nomark _))))) (pss_one (ps_ret pe_bl)) pss_nil)
      (pss_cons (ps_if (pt_not (pt_val (pe_callB (show CallR _ (.builtin "all") (rAll K) from cr_all rfl) (by rfl) N.all (by decide +kernel) (pa_cons
          (pe_lc (own := [("one", 2)]) (g := gName 2) (tt := tYes) rfl sc16.nd (pi_list (pv 0)) (blkOk_by (N := ["value", "many", "one"]) (sc := defScope (top 16)) (by decide +kernel))
            (fun _ _ _ _ _ => pg_name (i := 2) sc16.nd rfl (.inl rfl)) (fun _ _ _ _ _ => pts_nil) (fun _ _ _ _ _ => pe_call G hr rfl mG kG bG .nil pass0 (pa_cons (pv 2) pa_nil))) pa_nil)))) (pss_one (ps_ret pe_bl)) pss_nil)
      (pss_cons (ps_set (i := 1) sc16.nd rfl (.inl rfl) (pe_callB call_len_seq (by rfl) N.len PySem.boot_len (pa_cons (pv 0) pa_nil)))
      (pss_one (ps_ret (pe_and (pe_cmpR op_eq (pe_lenSetM (by rfl) N.len (by rfl) N.set
            (pe_lc (own := [("one", 2)]) (g := gName 2) (tt := tYes) rfl sc16.nd (pi_list (pv 0)) (blkOk_by (N := ["value", "many", "one"]) (sc := defScope (top 16)) (by decide +kernel))
              (fun _ _ _ _ _ => pg_name (i := 2) sc16.nd rfl (.inl rfl)) (fun _ _ _ _ _ => pts_nil) (fun _ _ _ _ _ => pe_ix (show IxR _ (rIxT K) from ix_tup) (pv 2) pe_int (fun _ _ => rfl)))) (pv 1) (nomark _))
          (pe_one (pe_cmpR op_eq (pe_lenSetM (by rfl) N.len (by rfl) N.set
            (pe_lc (own := [("one", 2)]) (g := gName 2) (tt := tYes) rfl sc16.nd (pi_list (pv 0)) (blkOk_by (N := ["value", "many", "one"]) (sc := defScope (top 16)) (by decide +kernel))
              (fun _ _ _ _ _ => pg_name (i := 2) sc16.nd rfl (.inl rfl)) (fun _ _ _ _ _ => pts_nil) (fun _ _ _ _ _ => pe_ix (show IxR _ (rIxT K) from ix_tup) (pv 2) pe_int (fun _ _ => rfl)))) (pv 1) (nomark _)))))))), ?_⟩
    have e : ¬ AreI (.dct) := fun ⟨_, z, _⟩ => by cases z
    exact ⟨_, rfl, _, _, rfl, hd.ty, _, _, rfl, rfl, D.ty_in _, by decide, ⟨_, rfl, ifT rfl ⟨_, rfl, _, _, rfl, hd.ty, _, _, rfl, rfl, D.ty_in _, by decide, ⟨_, rfl, ifT rfl (q false H ⟨fun z => (by cases z), fun z => absurd z e⟩ (Same.refl H))⟩⟩⟩⟩
end
end K40
namespace K40
open PySem PySem.Spec PyProof.Rows L2 Xc Dt
/-! ### least trees -/
def bits : Nat → Nat
  | 0 => 0
  | n + 1 => 1 + bits ((n + 1) / 2)
decreasing_by omega
theorem bits_pos {n : Nat} (h : 0 < n) : bits n = 1 + bits (n / 2) := by
  cases n with
  | zero => exact absurd h (Nat.lt_irrefl _)
  | succ n => rw [bits]
theorem bits_mono : ∀ (b a : Nat), a ≤ b → bits a ≤ bits b := by
  intro b
  induction b using Nat.strongRecOn with
  | ind b ih =>
    intro a h
    cases a with
    | zero => rw [bits]; exact Nat.zero_le _
    | succ a =>
      rw [bits_pos (n := b) (by omega), bits]
      have := ih (b / 2) (by omega) ((a + 1) / 2) (by omega)
      omega
theorem cut_lo (xs : List V) (m : Nat) (h : m ≤ xs.length) : cutV xs none (some ((m : Nat) : Int)) = xs.take m := by
  unfold cutV
  rw [HT.sIx_none, HT.sIx_nat, List.drop_zero, Nat.min_eq_left h, Nat.sub_zero]
theorem cut_hi (xs : List V) (m : Nat) (h : m ≤ xs.length) : cutV xs (some ((m : Nat) : Int)) none = xs.drop m := by
  unfold cutV
  rw [HT.sIx_none, HT.sIx_nat, Nat.min_eq_left h, ← List.length_drop, List.take_length]
theorem are_take {H : Hp} : ∀ {ds : List D} {xs : List V} (n : Nat), Are H ds xs → Are H (ds.take n) (xs.take n)
  | _, _, 0, _ => rfl
  | [], _, n + 1, h => by rw [show _ = [] from h]; rfl
  | d :: ds, _, n + 1, h => by
    obtain ⟨x, r, rfl, q, t⟩ := h
    exact ⟨x, _, rfl, q, are_take n t⟩
theorem are_drop {H : Hp} : ∀ {ds : List D} {xs : List V} (n : Nat), Are H ds xs → Are H (ds.drop n) (xs.drop n)
  | _, _, 0, h => h
  | [], _, n + 1, h => by rw [show _ = [] from h]; rfl
  | d :: ds, _, n + 1, h => by
    obtain ⟨x, r, rfl, q, t⟩ := h
    exact are_drop n t
section
variable {P : Program} {w : World} {K : PySem.W.Frag} {mg : Str → Option Value} {base : Heap} {f : Addr} {fd : FuncData}
def spHalf (n : Nat) : Sp := fun vs H Q _ => ∃ (a : Addr) (xs : List V) (ps : List (Int × Int)), vs = [.ref a] ∧ H a = some (.lst xs) ∧ Are H (ps.map itemD) xs ∧ ps.length < n ∧ ps.length ≤ 100 ∧
  ∀ (t : T) (v : V) (H' : Hp), t.items = ps → t.ht = bits ps.length → Is H' t.d v → Same H H' → Q v H'
theorem sc18 : FnScope ["items", "middle"] ["items"] (defScope (top 18)) := ⟨rfl, rfl, rfl, by decide +kernel, rfl, by decide +kernel, by decide +kernel⟩
theorem half_none : FnOk P w K mg base CX0 0 f fd ["items"] (spHalf 0) := by
  have no : ∀ vs H Q E, ¬ spHalf 0 vs H Q E := fun vs H Q E h => by
    obtain ⟨a, xs, ps, _, _, _, h1, _⟩ := h
    omega
  exact ⟨fun vs H Q E h => absurd h (no vs H Q E), fun A outer s H args us vs Q E _ _ _ _ h => absurd h (no vs H Q E)⟩
theorem half_step {n : Nat} (F : Fun K "halved" "halved" (top 18) f fd) (G : FnOk P w K mg base CX0 n f fd ["items"] (spHalf n)) (b : Binds K fd ["items"] []) (m : mg "halved" = some (.ref f)) (ml : mg "len" = none) :
    FnOk P w K mg base CX0 (n + 1) f fd ["items"] (spHalf (n + 1)) := by
  refine F.ok sc18 (fun vs H Q E h => ?_) (fun cdv A outer s H vs Q E hr h => ?_)
  · obtain ⟨a, xs, ps, rfl, _⟩ := h
    rfl
  obtain ⟨a, xs, ps, rfl, ha, hx, hn, hz, q⟩ := h
  refine ⟨_, pss_cons (ps_if (pt_not (pt_truth (pv 0) (by intro _; rfl))) (pss_one (ps_ret pe_non)) pss_nil)
    (pss_cons (ps_set (i := 1) sc18.nd rfl (.inl rfl) (pe_op op_fdiv (pe_callB call_len_seq (by rfl) ml PySem.boot_len (pa_cons (pv 0) pa_nil)) pe_int))
    (pss_one (ps_ret (pe_tup (pa_cons (pe_call G hr rfl m F.kp b .nil pass0 (pa_cons (pe_slice (show SlR _ (rSlL K) from sl_list) (pv 0) po_none (po_some (pv 1))) pa_nil))
      (pa_cons (pe_ix (show IxR _ (rIxL K) from ix_list) (pv 0) (pv 1) (fun _ _ => rfl))
      (pa_cons (pe_call G hr rfl m F.kp b .nil pass0 (pa_cons (pe_slice (show SlR _ (rSlL K) from sl_list) (pv 0) (po_some (pe_op op_add (pv 1) pe_int)) po_none) pa_nil)) pa_nil))))))), ?_⟩
  have hxl : xs.length = ps.length := by rw [hx.len, List.length_map]
  refine ⟨_, rfl, _, .inl ⟨xs, SqL.of ha, rfl⟩, ?_⟩
  refine if2 (fun c => ?_) (fun c => ?_)
  · have e : ps = [] := by
      cases xs with
      | nil => exact List.eq_nil_of_length_eq_zero hxl.symm
      | cons _ _ => cases c
    subst e
    exact q .nil .non H rfl (by rw [List.length_nil, bits]; rfl) rfl (Same.refl H)
  · have hp : 0 < ps.length := by
      cases xs with
      | nil => cases c
      | cons _ _ =>
        rw [← hxl]
        exact Nat.succ_pos _
    refine ⟨_, rfl, a, xs, rfl, .inl (SqL.of ha), _, _, rfl, rfl, ⟨by decide, by decide⟩, ?_⟩
    have em : (((xs.length : Nat) : Int) / 2) = ((ps.length / 2 : Nat) : Int) := by rw [hxl]; omega
    dsimp only
    rw [em]
    generalize hmid : ps.length / 2 = mid
    have hmid2 : mid < ps.length := by omega
    refine ⟨_, rfl, _, rfl, _, rfl, a, xs, rfl, SqL.of ha, fun p1 n1 => ?_⟩
    rw [cut_lo xs mid (by omega)]
    have u1 := same_new n1 (.lst (xs.take mid))
    have m1 : (upd H p1 (.lst (xs.take mid))) p1 = some (.lst (xs.take mid)) := upd_same
    generalize upd H p1 (.lst (xs.take mid)) = H1 at u1 m1 ⊢
    have len1 : (ps.take mid).length = mid := by rw [List.length_take]; omega
    have len2 : (ps.drop (mid + 1)).length = ps.length - (mid + 1) := List.length_drop
    refine ⟨p1, _, ps.take mid, rfl, m1, (by rw [List.map_take]; exact are_take mid (hx.same u1)), (by omega), (by omega), fun t1 v1 H2 e1 h1 i1 s1 => ?_⟩
    have s2 := u1.trans s1
    have hat : ps[mid]? = some ps[mid] := List.getElem?_eq_getElem hmid2
    obtain ⟨x, hxm, ix⟩ := hx.at (i := mid) (d := itemD ps[mid]) (by rw [List.getElem?_map, hat]; rfl)
    refine ⟨_, rfl, _, rfl, a, xs, _, _, rfl, rfl, SqL.of (s2 _ _ ha), atI_nat hxm, ?_⟩
    refine ⟨_, rfl, _, rfl, _, _, rfl, rfl, _, rfl, a, xs, rfl, SqL.of (s2 _ _ ha), fun p2 n2 => ?_⟩
    have e3 : ((mid : Nat) : Int) + 1 = ((mid + 1 : Nat) : Int) := by omega
    rw [e3, cut_hi xs (mid + 1) (by omega)]
    have u3 := same_new n2 (.lst (xs.drop (mid + 1)))
    have m3 : (upd H2 p2 (.lst (xs.drop (mid + 1)))) p2 = some (.lst (xs.drop (mid + 1))) := upd_same
    generalize upd H2 p2 (.lst (xs.drop (mid + 1))) = H3 at u3 m3 ⊢
    have s3 := s2.trans u3
    refine ⟨p2, _, ps.drop (mid + 1), rfl, m3, (by rw [List.map_drop]; exact are_drop (mid + 1) (hx.same s3)), (by omega), (by omega), fun t2 v2 H4 e2 h2 i2 s4 => ?_⟩
    have s5 := s3.trans s4
    refine ⟨(by show 3 ≤ sizeLine; decide), fun r nr => ?_⟩
    have s6 := same_new nr (.tup [v1, x, v2])
    refine q (.node t1 ps[mid].1 ps[mid].2 t2) (.ref r) _ ?_ ?_ ?_ (s5.trans s6)
    · show t1.items ++ ps[mid] :: t2.items = ps
      rw [e1, e2, List.getElem_cons_drop, List.take_append_drop]
    · show 1 + max t1.ht t2.ht = bits ps.length
      rw [bits_pos hp, hmid, h1, h2, len1, len2]
      have := bits_mono mid (ps.length - (mid + 1)) (by omega)
      omega
    · exact ⟨r, _, rfl, upd_same, are3 (i1.same ((u3.trans s4).trans s6)) (ix.same (s5.trans s6)) (i2.same s6)⟩
theorem half_all (F : Fun K "halved" "halved" (top 18) f fd) (b : Binds K fd ["items"] []) (m : mg "halved" = some (.ref f)) (ml : mg "len" = none) : ∀ n : Nat, FnOk P w K mg base CX0 n f fd ["items"] (spHalf n)
  | 0 => half_none
  | n + 1 => half_step F (half_all F b m ml n) b m ml
def spOf (C : Addr) : Sp := fun vs H Q E => ∃ (d : D) (v : V), vs = [v] ∧ Is H d v ∧ (∀ ds, D.its d = some ds → ds.length ≤ 20) ∧
  (∀ (ps : List (Int × Int)) (t : T) (r : V) (H' : Hp), D.its d = some (ps.map itemD) → t.items.Perm ps → Told t → t.ht = bits ps.length → Is H' t.d r → Same H H' → Q r H') ∧ (¬ AreI d → Bad C v H E)
theorem sc17 : FnScope ["items"] ["items"] (defScope (top 17)) := ⟨rfl, rfl, rfl, by decide +kernel, rfl, by decide +kernel, by decide +kernel⟩
theorem strict_of {l : List (Int × Int)} (h : l.Pairwise fun x y => SrtO.lexB y x = false) (nd : (l.map (·.1)).Nodup) : Asc l := by
  have nd2 : l.Pairwise fun x y => x.1 ≠ y.1 := List.pairwise_map.mp nd
  exact (h.and nd2).imp fun {x y} k => by
    have := SrtO.lexB_no.mp k.1
    have := k.2
    omega
theorem ok_of {g hf U C : Addr} {gd hd : FuncData} (F : Fun K "of_items" "of_items" (top 17) f fd) (N : Nm2 mg) (R : Er P w K mg base U C) (G : FnOk P w K mg base CX0 3 g gd ["value"] spAre) (bG : Binds K gd ["value"] []) (kG : PySem.W.keepIn K (.ref g) = true) (mG : mg "are_items" = some (.ref g))
    (O : FnOk P w K mg base CX0 24 hf hd ["items"] (spHalf 24)) (bO : Binds K hd ["items"] []) (kO : PySem.W.keepIn K (.ref hf) = true) (mO : mg "halved" = some (.ref hf)) :
    FnOk P w K mg base (L2.CX P w) 25 f fd ["items"] (spOf C) := by
  refine F.okX sc17 (fun vs H Q E h => ?_) (fun cdv A outer s H vs Q E hr h => ?_)
  · obtain ⟨d, v, rfl, _⟩ := h
    rfl
  obtain ⟨d, v, rfl, hd, hw, q, bad⟩ := h
  obtain ⟨gI, dI, aI, tI, FI, bI⟩ := R.iB
  have r2 : Room 2 (A.deeper (envOfC "of_items" (defScope (top 17)) s.heap.objs.size f cdv)) := hr.mono (by decide)
  have r3 : Room 3 (A.deeper (envOfC "of_items" (defScope (top 17)) s.heap.objs.size f cdv)) := hr.mono (by decide)
  refine ⟨_, pss_cons (ps_if (pt_not (pt_val (pe_call G r3 rfl mG kG bG .nil pass0 (pa_cons (pv 0) pa_nil)))) (pss_one (ps_raise rfl (takes_of rfl rfl rfl rfl) (pmk_oex R.eb.oex aI tI FI r2 bI .nil pass0 rfl R.mB (pa_cons (pv 0) pa_nil)))) pss_nil)
    (pss_one (ps_ret (pe_call O hr rfl mO kO bO .nil pass0 (pa_cons (pe_callB (show CallR _ (.builtin "sorted") (rSortedPX K) from cr_sortedPX) (by rfl) N.sorted (by decide +kernel) (pa_cons (pv 0) pa_nil)) pa_nil)))), ?_⟩
  refine ⟨_, rfl, d, v, rfl, hd, (fun ds e => by have := hw ds e; omega), fun b H1 hb s1 => ⟨_, rfl, ?_⟩⟩
  cases b with
  | false =>
    refine ifT rfl ?_
    have nv : ¬ AreI d := fun z => by cases hb.mpr z
    exact ⟨_, rfl, (by show 1 ≤ 1000; decide), mk1 (fun dd H2 h2 h3 => bad nv dd H2 h2 (s1.trans h3))⟩
  | true =>
    refine ifF rfl ?_
    obtain ⟨ps, e, k1, k2⟩ := hb.mp rfl
    have hl : ps.length ≤ 20 := by
      have := hw _ e
      rwa [List.length_map] at this
    obtain ⟨a, xs, rfl, hs, hx⟩ : ∃ a xs, v = .ref a ∧ (SqL K H1 a xs ∨ SqT K H1 a xs) ∧ Are H1 (ps.map itemD) xs := by
      cases d with
      | lst ds =>
        cases e
        obtain ⟨a, xs, rfl, ha, hx⟩ := hd
        exact ⟨a, xs, rfl, .inl (SqL.of (s1 _ _ ha)), hx.same s1⟩
      | tup ds =>
        cases e
        obtain ⟨a, xs, rfl, ha, hx⟩ := hd
        exact ⟨a, xs, rfl, .inr (SqT.of (s1 _ _ ha)), hx.same s1⟩
      | _ => cases e
    have hmap : xs.map (pairAt H1) = ps ∧ ∀ z ∈ xs, Is H1 (itemD (pairAt H1 z)) z := by
      clear hs q bad hl k1 k2 e hb hd hw
      induction ps generalizing xs with
      | nil =>
        cases (show xs = [] from hx)
        exact ⟨rfl, fun z h => (by cases h)⟩
      | cons p ps ih =>
        obtain ⟨x, r, rfl, i, t⟩ := hx
        obtain ⟨h1, h2⟩ := ih r t
        have h3 := (pairAt_is i).1
        refine ⟨by rw [List.map_cons, h1, h3], fun z hz => ?_⟩
        rcases List.mem_cons.mp hz with rfl | hz
        · rw [h3]
          exact i
        · exact h2 z hz
    obtain ⟨hm1, hm2⟩ := hmap
    refine ⟨_, rfl, a, xs, pairAt H1, rfl, hs, fun z hz => ?_, fun ys r srt stb nr => ?_⟩
    · obtain ⟨t2, e1, e2⟩ := (pairAt_is (hm2 z hz)).2
      exact ⟨t2, e1, e2⟩
    have u2 := same_new nr (.lst ys)
    have m2 : (upd H1 r (.lst ys)) r = some (.lst ys) := upd_same
    generalize upd H1 r (.lst ys) = H2 at u2 m2 ⊢
    have pm : (ys.map (pairAt H1)).Perm ps := by
      rw [← hm1]
      exact stb.perm.map _
    have lp : (ys.map (pairAt H1)).length = ps.length := pm.length_eq
    refine ⟨r, ys, ys.map (pairAt H1), rfl, m2, ?_, (by omega), (by omega), fun t r2 H3 et ht it s3 => ?_⟩
    · rw [List.map_map]
      exact Are.same u2 (are_map fun y hy => hm2 y (stb.perm.mem_iff.mp hy))
    · refine q ps t r2 H3 e (by rw [et]; exact pm) ⟨?_, ?_⟩ (by rw [ht, lp]) it ((s1.trans u2).trans s3)
      · rw [et]
        refine strict_of (List.pairwise_map.mpr srt) ((pm.map (·.1)).nodup_iff.mpr k1)
      · rw [et]
        exact (pm.map (·.2)).nodup_iff.mpr k2
end
end K40
namespace K40
open PySem PySem.Spec PyProof.Rows L2 Xc Dt
abbrev sBag : Stmt := top 20
abbrev sDraw : Stmt := top 21
/-! ### the bag of a script: what is drawn from -/
def bagK (c : Addr) (i : Nat) (dg ct fo : Int) : List (Key × V) := [(.inr "cells", .ref c), (.inr "at", .int (i : Nat)), (.inr "digits", .int dg), (.inr "count", .int ct), (.inr "fold", .int fo)]
structure BagAt (H : Hp) (b c : Addr) (ns : List Int) (i : Nat) (dg fo : Int) (ct : Nat) : Prop where
  hb : H b = some (.dK (bagK c i dg (ct : Nat) fo))
  hc : H c = some (.lst (ns.map V.int))
  dg0 : 0 ≤ dg
  fo0 : 0 ≤ fo
  fo1 : fo < 2147483587
/-- at b stands a bag from which ct times was drawn -/
def Bag (H : Hp) (b : Addr) (ct : Nat) : Prop := ∃ c ns i dg fo, BagAt H b c ns i dg fo ct
/-- all but the bag at b stands as it stood -/
def Kept (b : Addr) (H H' : Hp) : Prop := ∀ x o, H x = some o → x ≠ b → H' x = some o
theorem Bag.same {H H' : Hp} {b : Addr} {ct : Nat} (g : Bag H b ct) (s : ∀ x o, H x = some o → H' x = some o) : Bag H' b ct := by
  obtain ⟨c, ns, i, dg, fo, g⟩ := g
  exact ⟨c, ns, i, dg, fo, s _ _ g.hb, s _ _ g.hc, g.dg0, g.fo0, g.fo1⟩
theorem BagAt.ne {H : Hp} {b c : Addr} {ns : List Int} {i : Nat} {dg fo : Int} {ct : Nat} (g : BagAt H b c ns i dg fo ct) : b ≠ c := ne_of g.hb g.hc (by intro z; cases z)
def spBag (K : PySem.W.Frag) : Sp := fun vs H Q _ => ∃ (a : Addr) (ns : List Int), vs = [.ref a] ∧ SqL K H a (ns.map V.int) ∧ ∀ (b : Addr) (H' : Hp), H b = none → Bag H' b 0 → (∀ x o, H x = some o → H' x = some o) → Q (.ref b) H'
/-- the bag's cells stand where they stood -/
def Cells (b : Addr) (H H' : Hp) : Prop := ∀ c, (∃ ns i dg fo ct, BagAt H b c ns i dg fo ct) → ∃ ns i dg fo ct, BagAt H' b c ns i dg fo ct
theorem bag_uniq {H : Hp} {b c c' : Addr} {ns ns' : List Int} {i i' : Nat} {dg fo dg' fo' : Int} {ct ct' : Nat} (g : BagAt H b c ns i dg fo ct) (g' : BagAt H b c' ns' i' dg' fo' ct') : c = c' := by
  have e := g.hb.symm.trans g'.hb
  simp only [bagK, Option.some.injEq, HO.dK.injEq, List.cons.injEq, Prod.mk.injEq, V.ref.injEq, true_and] at e
  exact e.1
theorem cells_of {H H' : Hp} {b c : Addr} {ns ns' : List Int} {i i' : Nat} {dg fo dg' fo' : Int} {ct ct' : Nat} (g : BagAt H b c ns i dg fo ct) (g' : BagAt H' b c ns' i' dg' fo' ct') : Cells b H H' := fun c2 ⟨_, _, _, _, _, h⟩ => by
  rw [← bag_uniq g h]
  exact ⟨_, _, _, _, _, g'⟩
def spDraw : Sp := fun vs H Q _ => ∃ (b : Addr) (ct : Nat) (lim : Int), vs = [.ref b, .int lim] ∧ Bag H b ct ∧ ct < 1000000 ∧ 0 < lim ∧ lim.natAbs.log2 < 9000 ∧
  ∀ (v : Int) (H' : Hp), 0 ≤ v → v < lim → Bag H' b (ct + 1) → Kept b H H' → Cells b H H' → Q (.int v) H'
section
variable {P : Program} {w : World} {K : PySem.W.Frag} {mg : Str → Option Value} {base : Heap} {f : Addr} {fd : FuncData}
theorem scBag : FnScope ["script", "fold", "cell"] ["script"] (defScope sBag) := ⟨rfl, rfl, rfl, by decide +kernel, rfl, by decide +kernel, by decide +kernel⟩
theorem at_int {ns : List Int} {i : Nat} {y : V} (h : (ns.map V.int)[i]? = some y) : ∃ z, ns[i]? = some z ∧ y = V.int z := by
  rw [List.getElem?_map] at h
  cases e : ns[i]? with
  | none =>
    rw [e] at h
    cases h
  | some z =>
    rw [e] at h
    exact ⟨z, rfl, (Option.some.inj h).symm⟩
theorem ok_bag (F : Fun K "_law_bag" "_law_bag" sBag f fd) (N : Nm mg) : FnOk P w K mg base CX0 1 f fd ["script"] (spBag K) := by
  refine F.ok scBag (fun vs H Q E h => ?_) (fun cdv A outer s H vs Q E hr h => ?_)
  · obtain ⟨a, ns, rfl, _⟩ := h
    rfl
  obtain ⟨a, ns, rfl, hS, k⟩ := h
  refine ⟨_, pss_cons (ps_set (i := 1) scBag.nd rfl (.inl rfl) pe_int)
    (pss_cons (ps_for PassesOwn.never rfl (pi_list (pv 0)) (pg_name (i := 2) scBag.nd rfl (.inl rfl))
      (pss_one (ps_set (i := 1) scBag.nd rfl (.inl rfl) (pe_op op_mod (pe_callTy call_int1 (by rfl) N.int (by decide +kernel) (pa_cons (pe_op op_add (pe_op op_mul (pv 1) pe_int) (pv 2)) pa_nil)) pe_int))))
    (pss_one (ps_ret (pe_disp (pps_cons pe_str (pe_callTy call_list_of (by rfl) N.list (by decide +kernel) (pa_cons (pv 0) pa_nil)) (pps_cons pe_str pe_int (pps_cons pe_str pe_int (pps_cons pe_str pe_int (pps_cons pe_str (pv 1) pps_nil))))) (by rfl) (by rfl) (fun z => by cases z) (by decide))))), ?_⟩
  refine ⟨_, rfl, a, rfl, ⟨_, hS⟩, for_list (K := K) (a := a) (xs := ns.map V.int) (fun i σ H' => H' = H ∧ ∃ (fo : Int) (v : Option V), σ = [some (.ref a), some (.int fo), v] ∧ 0 ≤ fo ∧ fo < 1000000009)
    ⟨rfl, 0, none, rfl, by decide, by decide⟩ (fun i σ H' _ h => by rw [h.1]; exact hS) ?_ ?_⟩
  · rintro i y σ H' hi ⟨rfl, fo, v, rfl, h0, h1⟩
    obtain ⟨z, _, rfl⟩ := at_int hi
    refine ⟨_, rfl, _, _, rfl, rfl, .inl ⟨by omega, by omega⟩, _, rfl, _, _, rfl, rfl, .inl ⟨_, rfl, _, _, rfl, rfl, (by show (0 : Int) < 1000000009; decide), ?_⟩⟩
    exact ⟨rfl, _, _, rfl, Int.emod_nonneg _ (by decide), Int.emod_lt_of_pos _ (by decide)⟩
  · rintro σ H' ⟨rfl, fo, v, rfl, h0, h1⟩
    intro p np
    have s1 : Same H' (upd H' p (.dK [])) := fun x o e => by rw [upd_ne (ne_of_none e np)]; exact e
    refine ⟨_, rfl, a, _, rfl, .inl (s1.seq hS), fun l nl => ?_⟩
    have nl' : H' l = none := s1.free nl
    have npl : p ≠ l := fun z => by rw [← z, upd_same] at nl; cases nl
    have sL : ∀ o, Same H' (upd (upd (upd H' p (.dK [])) l (.lst (ns.map V.int))) p o) := fun o x u e => by
      rw [upd_ne (ne_of_none e np), upd_ne (ne_of_none e nl'), upd_ne (ne_of_none e np)]
      exact e
    refine ⟨_, rfl, (by rw [upd_ne npl, upd_same]), [(.inr "cells", .ref l), (.inr "at", .int 0), (.inr "digits", .int 0), (.inr "count", .int 0), (.inr "fold", .int fo)], rfl, (by show 5 ≤ 15; decide), ?_⟩
    refine k p _ np ⟨l, ns, 0, 0, fo, ?_, ?_, by decide, h0, by omega⟩ (sL _)
    · rw [upd_same]
      exact congrArg (fun z => some (HO.dK z)) (by rfl)
    · rw [upd_ne npl.symm, upd_same]
/-! the entries by their names -/
variable {c : Addr} {i : Nat} {dg ct fo : Int}
theorem g_cells : valV (bagK c i dg ct fo) (.inr "cells") = some (.ref c) := by rfl
theorem g_at : valV (bagK c i dg ct fo) (.inr "at") = some (.int (i : Nat)) := by rfl
theorem g_digits : valV (bagK c i dg ct fo) (.inr "digits") = some (.int dg) := by rfl
theorem g_count : valV (bagK c i dg ct fo) (.inr "count") = some (.int ct) := by rfl
theorem g_fold : valV (bagK c i dg ct fo) (.inr "fold") = some (.int fo) := by rfl
theorem p_at {j : Nat} : putK (bagK c i dg ct fo) (.inr "at") (.int (j : Nat)) = bagK c j dg ct fo := by rfl
theorem p_digits {x : Int} : putK (bagK c i dg ct fo) (.inr "digits") (.int x) = bagK c i x ct fo := by rfl
theorem p_count {x : Int} : putK (bagK c i dg ct fo) (.inr "count") (.int x) = bagK c i dg x fo := by rfl
theorem p_fold {x : Int} : putK (bagK c i dg ct fo) (.inr "fold") (.int x) = bagK c i dg ct x := by rfl
/-- d["name"] of a bag -/
theorem bag_get {H : Hp} {b : Addr} {x : Str} {v : V} (h : H b = some (.dK (bagK c i dg ct fo))) (e : valV (bagK c i dg ct fo) (.inr x) = some v) : DGet H b (.str x) (some v) := by
  have q := DGet.k (k := Sum.inr x) h
  rw [e] at q
  exact q
theorem bag_put {H : Hp} {b : Addr} {x : Str} {v : V} {l : List (Key × V)} (h : H b = some (.dK (bagK c i dg ct fo))) (e : putK (bagK c i dg ct fo) (.inr x) v = l) : DPut H b (.str x) v (upd H b (.dK l)) := by
  have q := DPut.k (k := Sum.inr x) (v := v) h (small1000 (by show 5 ≤ 1000; decide))
  rw [e] at q
  exact q
theorem scDraw : FnScope ["bag", "limit", "cell", "digit", "base"] ["bag", "limit"] (defScope sDraw) := ⟨rfl, rfl, rfl, by decide +kernel, rfl, by decide +kernel, by decide +kernel⟩
theorem ok_draw (F : Fun K "_law_draw" "_law_draw" sDraw f fd) (N : Nm mg) : FnOk P w K mg base CX0 1 f fd ["bag", "limit"] spDraw := by
  refine F.ok scDraw (fun vs H Q E h => ?_) (fun cdv A outer s H vs Q E hr h => ?_)
  · obtain ⟨b, ct, lim, rfl, _⟩ := h
    rfl
  obtain ⟨b, ct, lim, rfl, ⟨c, ns, i, dg, fo, g⟩, hct, hlim, hlog, k⟩ := h
  have hu := hu_of hr
  refine ⟨_, pss_cons (ps_dput hu (pv 0) pe_str (pe_op op_add (pe_dget hu (pv 0) pe_str (fun _ _ => rfl)) pe_int) rfl)
    (C8.pss_cut (ps_if (PW.pt (pw_and (pt_cmpR op_eq (pe_dget hu (pv 0) pe_str (fun _ _ => rfl)) pe_int (nomark _)) (pw_and1 (pt_cmpR op_lt (pe_dget hu (pv 0) pe_str (fun _ _ => rfl)) (pe_callB call_len_seq (by rfl) N.len PySem.boot_len (pa_cons (pe_dget hu (pv 0) pe_str (fun _ _ => rfl)) pa_nil)) (nomark _)))))
      (pss_cons (ps_set (i := 2) scDraw.nd rfl (.inl rfl) (pe_ix ix_list (pe_dget hu (pv 0) pe_str (fun _ _ => rfl)) (pe_dget hu (pv 0) pe_str (fun _ _ => rfl)) (fun _ _ => rfl)))
      (pss_cons (ps_dput hu (pv 0) pe_str (pe_op op_add (pe_dget hu (pv 0) pe_str (fun _ _ => rfl)) pe_int) rfl)
      (pss_one (ps_if (pt_cmpR op_ge (pv 2) (pe_op op_pow pe_int pe_int) (nomark _))
        (pss_one (ps_dput hu (pv 0) pe_str (pe_op op_sub (pv 2) (pe_op op_pow pe_int pe_int)) rfl))
        (pss_one (ps_dput hu (pv 0) pe_str (pe_op op_mod (pe_callTy call_int1 (by rfl) N.int (by decide +kernel) (pa_cons (pe_op op_add (pe_op op_mul (pe_dget hu (pv 0) pe_str (fun _ _ => rfl)) pe_int) (pv 2)) pa_nil)) pe_int) rfl)))))) pss_nil)
    (pss_cons (ps_if (pt_cmpR op_gt (pe_dget hu (pv 0) pe_str (fun _ _ => rfl)) pe_int (nomark _))
      (pss_cons (ps_set (i := 3) scDraw.nd rfl (.inl rfl) (pe_op op_modN (pe_callTy call_int1 (by rfl) N.int (by decide +kernel) (pa_cons (pe_dget hu (pv 0) pe_str (fun _ _ => rfl)) pa_nil)) (pv 1)))
      (pss_cons (ps_dput hu (pv 0) pe_str (pe_op op_fdivW (pe_dget hu (pv 0) pe_str (fun _ _ => rfl)) (pv 1)) rfl)
      (pss_one (ps_ret (pv 3))))) pss_nil)
    (pss_cons (ps_set (i := 4) scDraw.nd rfl (.inl rfl) (pe_op op_add (pe_op op_add (pe_dget hu (pv 0) pe_str (fun _ _ => rfl)) (pe_op op_mul (pe_dget hu (pv 0) pe_str (fun _ _ => rfl)) pe_int)) pe_int))
    (pss_one (ps_ret (pe_op op_modN (pe_op op_fdiv (pe_callTy call_int1 (by rfl) N.int (by decide +kernel) (pa_cons (pe_op op_mod (pe_op op_pow (pv 4) pe_int) pe_int) pa_nil)) pe_int) (pv 1))))))), ?_⟩
  -- bag["count"] = bag["count"] + 1
  refine ⟨_, rfl, b, _, rfl, bag_get g.hb g_count, _, _, rfl, rfl, _, rfl, b, _, rfl, bag_put g.hb p_count, ?_⟩
  have kept1 : Kept b H (upd H b (.dK (bagK c i dg ((ct : Int) + 1) fo))) := fun x o e hx => by rw [upd_ne hx]; exact e
  have g1 : BagAt (upd H b (.dK (bagK c i dg ((ct : Int) + 1) fo))) b c ns i dg fo (ct + 1) := ⟨by rw [upd_same]; rfl, kept1 _ _ g.hc g.ne.symm, g.dg0, g.fo0, g.fo1⟩
  generalize upd H b (.dK (bagK c i dg ((ct : Int) + 1) fo)) = H1 at kept1 g1
  -- a store into the bag
  have store : ∀ {H2 : Hp} {i2 j2 : Nat} {dg2 fo2 x y : Int} {l : List (Key × V)}, BagAt H2 b c ns i2 dg2 fo2 (ct + 1) → Kept b H H2 → l = bagK c j2 x (((ct + 1 : Nat) : Int)) y → 0 ≤ x → 0 ≤ y → y < 2147483587 → BagAt (upd H2 b (.dK l)) b c ns j2 x y (ct + 1) ∧ Kept b H (upd H2 b (.dK l)) := by
    intro H2 i2 j2 dg2 fo2 x y l g2 k2 e h1 h2 h3
    refine ⟨⟨by rw [upd_same, e], ?_, h1, h2, h3⟩, fun z o q hz => by rw [upd_ne hz]; exact k2 z o q hz⟩
    rw [upd_ne g2.ne.symm]
    exact g2.hc
  refine ⟨fun σ H2 => ∃ (v2 : Option V) (i2 : Nat) (dg2 fo2 : Int), σ = [some (.ref b), some (.int lim), v2, none, none] ∧ BagAt H2 b c ns i2 dg2 fo2 (ct + 1) ∧ Kept b H H2, ?_, ?_⟩
  · refine ⟨_, rfl, b, _, rfl, bag_get g1.hb g_digits, rfl, _, rfl, ?_⟩
    refine ite2 (fun c1 => ?_) (fun c1 => ?_)
    · refine ⟨_, rfl, b, _, rfl, bag_get g1.hb g_at, _, rfl, b, _, rfl, bag_get g1.hb g_cells, c, _, rfl, .inl (SqL.of g1.hc), _, _, rfl, rfl, _, rfl, ?_⟩
      refine ite2 (fun c2 => ?_) (fun c2 => ?_)
      · have hi : i < ns.length := by
          have z : ((i : Nat) : Int) < (((ns.map V.int).length : Nat) : Int) := of_decide_eq_true c2
          rw [List.length_map] at z
          omega
        refine ⟨_, rfl, b, _, rfl, bag_get g1.hb g_cells, _, rfl, b, _, rfl, bag_get g1.hb g_at, c, _, _, _, rfl, rfl, SqL.of g1.hc, atI_nat (by rw [List.getElem?_map, List.getElem?_eq_getElem hi] <;> rfl), ?_⟩
        refine ⟨_, rfl, b, _, rfl, bag_get g1.hb g_at, _, _, rfl, rfl, _, rfl, b, _, rfl, bag_put (l := bagK c (i + 1) dg ((ct + 1 : Nat) : Int) fo) g1.hb (by exact p_at (j := i + 1)), ?_⟩
        obtain ⟨g2, k2⟩ := store (j2 := i + 1) g1 kept1 rfl g1.dg0 g1.fo0 g1.fo1
        generalize upd H1 b _ = H2 at g2 k2
        refine ⟨_, rfl, _, _, rfl, rfl, ⟨by decide, by decide, by decide⟩, _, _, rfl, rfl, _, rfl, ?_⟩
        refine ite2 (fun c3 => ?_) (fun c3 => ?_)
        · have z : (10 : Int) ^ ((18 : Int)).toNat ≤ ns[i] := of_decide_eq_true c3
          refine ⟨_, rfl, _, _, rfl, rfl, ⟨by decide, by decide, by decide⟩, _, _, rfl, rfl, _, rfl, b, _, rfl, bag_put (l := bagK c (i + 1) (ns[i] - (10 : Int) ^ ((18 : Int)).toNat) ((ct + 1 : Nat) : Int) fo) g2.hb (by exact p_digits), ?_⟩
          obtain ⟨g3, k3⟩ := store g2 k2 rfl (Int.sub_nonneg_of_le z) g1.fo0 g1.fo1
          exact ⟨_, _, _, _, rfl, g3, k3⟩
        · have hf0 := g2.fo0
          have hf1 := g2.fo1
          refine ⟨_, rfl, b, _, rfl, bag_get g2.hb g_fold, _, _, rfl, rfl, .inl ⟨by omega, by omega⟩, _, rfl, _, _, rfl, rfl, .inl ⟨_, rfl, _, _, rfl, rfl, (by show (0 : Int) < 2147483587; decide), ?_⟩⟩
          refine ⟨_, rfl, b, _, rfl, bag_put (l := bagK c (i + 1) dg ((ct + 1 : Nat) : Int) ((fo * 69069 + ns[i]) % 2147483587)) g2.hb (by exact p_fold), ?_⟩
          obtain ⟨g3, k3⟩ := store g2 k2 rfl g1.dg0 (Int.emod_nonneg _ (by decide)) (Int.emod_lt_of_pos _ (by decide))
          exact ⟨_, _, _, _, rfl, g3, k3⟩
      · exact ⟨none, i, dg, fo, rfl, g1, kept1⟩
    · exact ⟨none, i, dg, fo, rfl, g1, kept1⟩
  · rintro σ H2 ⟨v2, i2, dg2, fo2, rfl, g2, k2⟩
    refine ⟨_, rfl, b, _, rfl, bag_get g2.hb g_digits, _, _, rfl, rfl, _, rfl, ?_⟩
    refine ite2 (fun c1 => ?_) (fun c1 => ?_)
    · refine ⟨_, rfl, b, _, rfl, bag_get g2.hb g_digits, .inl ⟨_, rfl, _, rfl, _, _, rfl, rfl, (by omega), ?_⟩⟩
      refine ⟨_, rfl, b, _, rfl, bag_get g2.hb g_digits, _, rfl, _, _, rfl, rfl, ⟨hlim, hlog⟩, _, rfl, b, _, rfl, bag_put (l := bagK c i2 (dg2 / lim) ((ct + 1 : Nat) : Int) fo2) g2.hb (by exact p_digits), ?_⟩
      obtain ⟨g3, k3⟩ := store g2 k2 rfl (Int.ediv_nonneg g2.dg0 (Int.le_of_lt hlim)) g2.fo0 g2.fo1
      refine ⟨_, rfl, k _ _ ?_ ?_ ⟨_, _, _, _, _, g3⟩ k3 (cells_of g g3)⟩
      · rw [Int.fmod_eq_emod_of_nonneg _ (Int.le_of_lt hlim)]
        exact Int.emod_nonneg _ (by omega)
      · rw [Int.fmod_eq_emod_of_nonneg _ (Int.le_of_lt hlim)]
        exact Int.emod_lt_of_pos _ hlim
    · have hf0 := g2.fo0
      have hf1 := g2.fo1
      refine ⟨_, rfl, b, _, rfl, bag_get g2.hb g_fold, _, rfl, b, _, rfl, bag_get g2.hb g_count, _, _, rfl, rfl, .inl ⟨by omega, by omega⟩, _, _, rfl, rfl, _, _, rfl, rfl, ?_⟩
      refine ⟨_, rfl, _, _, rfl, rfl, ⟨by decide, by decide, by omega⟩, _, _, rfl, rfl, (by show (0 : Int) < 2305843009213693951; decide), .inl ⟨_, rfl, _, _, rfl, rfl, ⟨by decide, by decide⟩, _, rfl, _, _, rfl, rfl, (by omega), ?_⟩⟩
      refine k _ _ ?_ ?_ ⟨_, _, _, _, _, g2⟩ k2 (cells_of g g2)
      · rw [Int.fmod_eq_emod_of_nonneg _ (Int.le_of_lt hlim)]
        exact Int.emod_nonneg _ (by omega)
      · rw [Int.fmod_eq_emod_of_nonneg _ (Int.le_of_lt hlim)]
        exact Int.emod_lt_of_pos _ hlim
end
end K40
/-! a local name that holds a def, called in a try; a datum compared with itself. -/
namespace Dt
open PySem PySem.Spec PyProof.Rows L2 Xc
section
variable {X : Cx} {CX : CXT} {k i : Nat} {f : Addr} {fd : FuncData} {ps : List Str} {sp : Sp} {E : L2.St → XK} {x : Str} {p pos : Pos} {e : Expr} {es : List Expr} {t : TA}
/-- the i-th slot holds the def at f, which may raise -/
def tCallLS (i : Nat) (f : Addr) (sp : Sp) (E : L2.St → XK) (t : TA) : TE := fun σ H Q => σ[i]? = some (some (.ref f)) ∧ t σ H fun vs H1 => sp vs H1 Q (E σ)
theorem pe_callLS (F : FnOk X.prog X.w X.K X.mg X.base CX k f fd ps sp) (hr : Room k X.A) (hN : X.N[i]? = some x) (hv : Vis X.env.scope x) (hk : PySem.W.keepIn X.K (.ref f) = true) (hb : Binds X.K fd ps []) (hx : ∀ σ, PassesAt CX X σ (E σ)) (ha : PA X (e :: es) t)
    (hdb : (x == ("__debug__" : Str)) = false := by decide) (hcd : (x == ("__classdict__" : Str)) = false := by decide)
    (he : starEach (e :: es) X.env = (false, eval e X.env) :: starEach es X.env := by rfl) (hpl : (backTo pos (starEach es X.env)).any (·.1) = false := by rfl) : PE X (.Call (.Name x p) (e :: es) [] pos) (tCallLS i f sp E t) := by
  refine ⟨fun pins s σ H Q I h => ?_⟩
  obtain ⟨hs, ht⟩ := h
  refine wpAny_Call_Name_kw (thn ((pe_var (pos := p) hN hv hdb hcd).run pins s σ H (fun v H1 => v = .ref f ∧ H1 = H) I ⟨.ref f, hs, rfl, rfl⟩) fun u s1 ⟨v, H1, I1, r1, q1⟩ => ?_)
  obtain ⟨rfl, rfl⟩ := q1
  cases r1
  refine PySem.W.callWith_K (h₀ := X.base) I.ok.mod.kin hk (thn (ha.run pos pins s1 σ _ _ I1 ht) fun us s2 ⟨vs, H2, I2, r, q⟩ => ⟨I2.kIn, ?_⟩) he hpl
  exact run_fnS F hr hb (hx σ) I2 r q
end
theorem is_flat {H : Hp} : ∀ {d : D} {v : V}, Is H d v → Flat v
  | .non, _, h => by cases (show _ = V.non from h); exact .inl rfl
  | .bl b, _, h => by cases (show _ = V.bl b from h); exact .inl rfl
  | .int i, _, h => by cases (show _ = V.int i from h); exact .inl rfl
  | .str s, _, h => by cases (show _ = V.str s from h); exact .inl rfl
  | .tup _, _, h => by obtain ⟨a, xs, rfl, q, _⟩ := h; exact .inr ⟨a, rfl⟩
  | .lst _, _, h => by obtain ⟨a, xs, rfl, q, _⟩ := h; exact .inr ⟨a, rfl⟩
  | .dct, _, h => by obtain ⟨a, rfl, q⟩ := h; exact .inr ⟨a, rfl⟩
theorem are_flat {H : Hp} : ∀ {ds : List D} {xs : List V}, Are H ds xs → ∀ v ∈ xs, Flat v
  | [], _, h, v, hv => by cases (show _ = [] from h); cases hv
  | d :: ds, _, h, v, hv => by
    obtain ⟨x, r, rfl, q, t⟩ := h
    rcases List.mem_cons.mp hv with rfl | hv
    · exact is_flat q
    · exact are_flat t v hv
/-- x == y, both the same datum -/
def rEqSelf : R2 := fun x y H Q => y = x ∧ (∃ d : D, Is H d x) ∧ Q (.bl true) H
theorem op_eqSelf {X : Cx} (hu : X.A.units + 64 < cLine) : OpR X (compareOp .Eq) rEqSelf := by
  intro pins s σ H x y v u Q I rx ry h
  obtain ⟨rfl, ⟨d, hd⟩, q⟩ := h
  have all : ∀ n : Nat, ((List.range n).all fun _ => true) = true := fun n => List.all_eq_true.mpr fun _ _ => rfl
  cases d with
  | tup ds =>
    obtain ⟨a, xs, rfl, e, t⟩ := hd
    obtain ⟨us, r1, p1, _⟩ := I.tuple (SqT.of (K := X.K) e)
    cases rx
    cases ry
    refine SeqAt.rcIn_tuples (e := fun _ => true) p1 p1 (show X.A.units < cLine by omega) (fun j h1 h2 => ?_) ?_
    · have k := items_same (A := X.A.in1) (s := s) (are_flat t) r1 r1 j (by simpa using h1) (by simpa using h2)
      exact (by simpa using k : SeqAt.EqAt X.A.in1 s us.toArray[j] us.toArray[j] true).inModel _ _
    · rw [all, Bool.true_and, beq_self_eq_true]
      exact ⟨.bl true, H, I, rfl, q⟩
  | lst ds =>
    obtain ⟨a, xs, rfl, e, t⟩ := hd
    obtain ⟨us, r1, p1, _⟩ := I.list (SqL.of (K := X.K) e)
    cases rx
    cases ry
    refine SeqAt.rcIn_lists (e := fun _ => true) p1.isList p1.isList rfl (show X.A.units < cLine by omega) (fun j h1 h2 => ?_) ?_
    · have k := items_same (A := X.A.in1) (s := s) (are_flat t) r1 r1 j (by simpa using h1) (by simpa using h2)
      exact (by simpa using k : SeqAt.EqAt X.A.in1 s us.toArray[j] us.toArray[j] true).inModel _ _
    · rw [all]
      exact ⟨.bl true, H, I, rfl, q⟩
  | dct =>
    obtain ⟨a, rfl, e⟩ := hd
    exact op_eq_dict (X := X) (by omega) pins s σ H _ _ v u Q I rx ry ⟨a, a, [], rfl, rfl, e, e, List.nodup_nil, fun p hp => (by cases hp), q⟩
  | non =>
    cases (show y = V.non from hd)
    exact op_eq (X := X) pins s σ H _ _ v u Q I rx ry ⟨rfl, (by rw [decide_eq_true rfl]; exact q)⟩
  | bl b =>
    cases (show y = V.bl b from hd)
    exact op_eq (X := X) pins s σ H _ _ v u Q I rx ry ⟨rfl, (by rw [decide_eq_true rfl]; exact q)⟩
  | int i =>
    cases (show y = V.int i from hd)
    exact op_eq (X := X) pins s σ H _ _ v u Q I rx ry ⟨rfl, (by rw [decide_eq_true rfl]; exact q)⟩
  | str z =>
    cases (show y = V.str z from hd)
    exact op_eq (X := X) pins s σ H _ _ v u Q I rx ry ⟨rfl, (by rw [decide_eq_true rfl]; exact q)⟩
end Dt
namespace K40
open PySem PySem.Spec PyProof.Rows L2 Xc Dt
theorem kept_tups {b : Addr} {H H' : Hp} {kvs : List (Key × V)} (k : Kept b H H') (e : H b = some (.dK kvs)) : Tups H H' := fun x xs h => k x _ h (fun z => by
  rw [z, e] at h
  cases h)
theorem Kept.trans {b : Addr} {H H1 H2 : Hp} (k : Kept b H H1) (l : Kept b H1 H2) : Kept b H H2 := fun x o e h => l x o (k x o e h) h
theorem Kept.of {b : Addr} {H H' : Hp} (s : Same H H') : Kept b H H' := fun x o e _ => s x o e
theorem Kept.free {b : Addr} {H H' : Hp} (k : Kept b H H') {x : Addr} (n : H' x = none) (h : x ≠ b) : H x = none := by
  cases e : H x with
  | none => rfl
  | some o => rw [k x o e h] at n; cases n
theorem Bag.dict {H : Hp} {b : Addr} {ct : Nat} (g : Bag H b ct) : ∃ kvs, H b = some (.dK kvs) := by
  obtain ⟨c, ns, i, dg, fo, g⟩ := g
  exact ⟨_, g.hb⟩
theorem are_tups {H H' : Hp} (s : Tups H H') : ∀ {ps : List (Int × Int)} {xs : List V}, Are H (ps.map itemD) xs → Are H' (ps.map itemD) xs
  | [], _, h => h
  | p :: ps, _, h => by
    obtain ⟨x, r, rfl, i, t⟩ := h
    obtain ⟨a, rfl, e⟩ := (pairAt_is i).2
    exact ⟨_, _, rfl, is_pair (s _ _ e), are_tups s t⟩
section
variable {P : Program} {w : World} {K : PySem.W.Frag} {mg : Str → Option Value} {base : Heap} {f : Addr} {fd : FuncData}
/-! ### _law_row -/
def spRow (n : Nat) : Sp := fun vs H Q _ => ∃ (t : T) (v : V), vs = [v] ∧ Is H t.d v ∧ t.ht < n ∧ t.items.length ≤ 100 ∧ ∀ p xs H', H p = none → H' p = some (.lst xs) → Are H' (t.items.map itemD) xs → Same H H' → Q (.ref p) H'
theorem sc23 : FnScope ["tree", "left", "item", "right"] ["tree"] (defScope (top 23)) := ⟨rfl, rfl, rfl, by decide +kernel, rfl, by decide +kernel, by decide +kernel⟩
theorem row_none : FnOk P w K mg base CX0 0 f fd ["tree"] (spRow 0) := by
  have no : ∀ vs H Q E, ¬ spRow 0 vs H Q E := fun vs H Q E h => by
    obtain ⟨t, v, _, _, h1, _⟩ := h
    omega
  exact ⟨fun vs H Q E h => absurd h (no vs H Q E), fun A outer s H args us vs Q E _ _ _ _ h => absurd h (no vs H Q E)⟩
theorem row_step {n : Nat} (F : Fun K "_law_row" "_law_row" (top 23) f fd) (G : FnOk P w K mg base CX0 n f fd ["tree"] (spRow n)) (b : Binds K fd ["tree"] []) (m : mg "_law_row" = some (.ref f)) :
    FnOk P w K mg base CX0 (n + 1) f fd ["tree"] (spRow (n + 1)) := by
  refine F.ok sc23 (fun vs H Q E h => ?_) (fun cdv A outer s H vs Q E hr h => ?_)
  · obtain ⟨t, v, rfl, _⟩ := h
    rfl
  obtain ⟨t, v, rfl, hv, hn, hl, q⟩ := h
  refine ⟨_, pss_cons (ps_if (pt_cmpR op_isN (pv 0) pe_non (nomark _)) (pss_one (ps_ret (pe_lst pa_nil))) pss_nil)
    (pss_cons (ps_asg (pv 0) (pg_tup rfl (pgs_cons (pg_name (i := 1) sc23.nd rfl (.inl rfl)) (pgs_cons (pg_name (i := 2) sc23.nd rfl (.inl rfl)) (pgs_cons (pg_name (i := 3) sc23.nd rfl (.inl rfl)) pgs_nil)))))
    (pss_one (ps_ret (pe_op op_cat (pe_op op_cat (pe_call G hr rfl m F.kp b .nil pass0 (pa_cons (pv 1) pa_nil)) (pe_lst (pa_cons (pv 2) pa_nil))) (pe_call G hr rfl m F.kp b .nil pass0 (pa_cons (pv 3) pa_nil)))))), ?_⟩
  refine ⟨_, rfl, rfl, _, rfl, ?_⟩
  cases t with
  | nil =>
    cases (show v = V.non from hv)
    refine ifT rfl ⟨(by show 0 ≤ sizeLine; decide), fun p np => ?_⟩
    exact q p [] _ np upd_same rfl (same_new np _)
  | node l k mm r =>
    obtain ⟨ax, xs0, rfl, hax, xl, r0, rfl, il, xi, r1', rfl, ii, xr, r2', rfl, ir, hz⟩ := id hv
    cases (show r2' = [] from hz)
    have hil : (T.node l k mm r).items.length = l.items.length + r.items.length + 1 := by
      show (l.items ++ (k, mm) :: r.items).length = _
      rw [List.length_append, List.length_cons]
      omega
    have hht : (T.node l k mm r).ht = 1 + max l.ht r.ht := rfl
    rw [hil] at hl
    rw [hht] at hn
    refine ifF rfl ?_
    refine ⟨_, rfl, ax, _, rfl, SqT.of hax, rfl, _, _, rfl, _, _, rfl, _, _, rfl, rfl, ?_⟩
    refine ⟨_, rfl, l, xl, rfl, il, (by omega), (by omega), fun p1 xs1 H1 n1 h1 x1 s1 => ?_⟩
    refine ⟨_, rfl, (by show 1 ≤ sizeLine; decide), fun p2 n2 => ?_⟩
    have u2 := same_new n2 (.lst [xi])
    have m2 : (upd H1 p2 (.lst [xi])) p2 = some (.lst [xi]) := upd_same
    generalize upd H1 p2 (.lst [xi]) = H2 at u2 m2 ⊢
    have e1 : xs1.length = l.items.length := by rw [x1.len, List.length_map]
    refine ⟨p1, p2, xs1, [xi], rfl, rfl, u2 _ _ h1, m2, (by show xs1.length + 1 ≤ sizeLine; rw [e1]; exact Nat.le_of_lt (small1000' (by omega))), fun p3 n3 => ?_⟩
    have u3 := same_new n3 (.lst (xs1 ++ [xi]))
    have m3 : (upd H2 p3 (.lst (xs1 ++ [xi]))) p3 = some (.lst (xs1 ++ [xi])) := upd_same
    generalize upd H2 p3 (.lst (xs1 ++ [xi])) = H3 at u3 m3 ⊢
    have s3 := (s1.trans u2).trans u3
    refine ⟨_, rfl, r, xr, rfl, ir.same s3, (by omega), (by omega), fun p4 xs4 H4 n4 h4 x4 s4 => ?_⟩
    have e4 : xs4.length = r.items.length := by rw [x4.len, List.length_map]
    refine ⟨p3, p4, _, _, rfl, rfl, s4 _ _ m3, h4, (by rw [List.length_append, e1, e4]; exact Nat.le_of_lt (small1000' (by show l.items.length + 1 + r.items.length ≤ 4000; omega))), fun p5 n5 => ?_⟩
    have u5 := same_new n5 (.lst ((xs1 ++ [xi]) ++ xs4))
    refine q p5 ((xs1 ++ [xi]) ++ xs4) _ ((s3.trans s4).free n5) upd_same ?_ ((s3.trans s4).trans u5)
    show Are _ ((l.items ++ (k, mm) :: r.items).map itemD) _
    rw [List.map_append, List.map_cons]
    have ea : xs1 ++ (xi :: xs4) = (xs1 ++ [xi]) ++ xs4 := by simp
    refine Eq.mp (congrArg (Are _ _) ea) ?_
    refine (x1.same (((u2.trans u3).trans s4).trans u5)).append ?_
    exact ⟨xi, xs4, rfl, ii.same ((s3.trans s4).trans u5), x4.same u5⟩
theorem row_all (F : Fun K "_law_row" "_law_row" (top 23) f fd) (b : Binds K fd ["tree"] []) (m : mg "_law_row" = some (.ref f)) : ∀ n : Nat, FnOk P w K mg base CX0 n f fd ["tree"] (spRow n)
  | 0 => row_none
  | n + 1 => row_step F (row_all F b m n) b m
/-! ### _law_height -/
def spHt (n : Nat) : Sp := fun vs H Q _ => ∃ (t : T) (v : V), vs = [v] ∧ Is H t.d v ∧ t.ht < n ∧ Q (.int (t.ht : Nat)) H
theorem sc25 : FnScope ["tree"] ["tree"] (defScope (top 25)) := ⟨rfl, rfl, rfl, by decide +kernel, rfl, by decide +kernel, by decide +kernel⟩
theorem ht_none : FnOk P w K mg base CX0 0 f fd ["tree"] (spHt 0) := by
  have no : ∀ vs H Q E, ¬ spHt 0 vs H Q E := fun vs H Q E h => by
    obtain ⟨t, v, _, _, h1, _⟩ := h
    omega
  exact ⟨fun vs H Q E h => absurd h (no vs H Q E), fun A outer s H args us vs Q E _ _ _ _ h => absurd h (no vs H Q E)⟩
theorem ht_step {n : Nat} (F : Fun K "_law_height" "_law_height" (top 25) f fd) (G : FnOk P w K mg base CX0 n f fd ["tree"] (spHt n)) (b : Binds K fd ["tree"] []) (m : mg "_law_height" = some (.ref f)) (mX : mg "max" = none) :
    FnOk P w K mg base CX0 (n + 1) f fd ["tree"] (spHt (n + 1)) := by
  refine F.ok sc25 (fun vs H Q E h => ?_) (fun cdv A outer s H vs Q E hr h => ?_)
  · obtain ⟨t, v, rfl, _⟩ := h
    rfl
  obtain ⟨t, v, rfl, hv, hn, q⟩ := h
  refine ⟨_, pss_one (ps_ret (pe_ifExp (pt_cmpR op_isN (pv 0) pe_non (nomark _)) pe_int (pe_op op_add pe_int (pe_callB (call_max2 rfl) (by rfl) mX (by decide +kernel)
    (pa_cons (pe_call G hr rfl m F.kp b .nil pass0 (pa_cons (pe_ix (show IxR _ (rIxT K) from ix_tup) (pv 0) pe_int (fun _ _ => rfl)) pa_nil)) (pa_cons (pe_call G hr rfl m F.kp b .nil pass0 (pa_cons (pe_ix (show IxR _ (rIxT K) from ix_tup) (pv 0) pe_int (fun _ _ => rfl)) pa_nil)) pa_nil)))))), ?_⟩
  refine ⟨_, rfl, rfl, _, rfl, ?_⟩
  cases t with
  | nil =>
    cases (show v = V.non from hv)
    exact ifT rfl q
  | node l k mm r =>
    obtain ⟨ax, xs0, rfl, hax, xl, r0, rfl, il, xi, r1', rfl, ii, xr, r2', rfl, ir, hz⟩ := id hv
    cases (show r2' = [] from hz)
    have hht : (T.node l k mm r).ht = 1 + max l.ht r.ht := rfl
    rw [hht] at hn q
    refine ifF rfl ?_
    refine ⟨_, rfl, ax, _, _, _, rfl, rfl, SqT.of hax, atI_nat (j := 0) rfl, l, xl, rfl, il, (by omega), ?_⟩
    refine ⟨_, rfl, ax, _, _, _, rfl, rfl, SqT.of hax, atI_nat (j := 2) rfl, r, xr, rfl, ir, (by omega), ?_⟩
    refine ⟨_, _, rfl, _, _, rfl, rfl, ?_⟩
    have e : (1 : Int) + (if ((r.ht : Nat) : Int) > ((l.ht : Nat) : Int) then ((r.ht : Nat) : Int) else ((l.ht : Nat) : Int)) = ((1 + max l.ht r.ht : Nat) : Int) := by
      split <;> omega
    exact cast (congrArg (fun z => Q (.int z) H) e.symm) q
theorem ht_all (F : Fun K "_law_height" "_law_height" (top 25) f fd) (b : Binds K fd ["tree"] []) (m : mg "_law_height" = some (.ref f)) (mX : mg "max" = none) : ∀ n : Nat, FnOk P w K mg base CX0 n f fd ["tree"] (spHt n)
  | 0 => ht_none
  | n + 1 => ht_step F (ht_all F b m mX n) b m mX
/-! ### _law_least -/
def spLeast : Sp := fun vs H Q _ => ∃ n : Nat, vs = [.int (n : Nat)] ∧ n ≤ 100 ∧ Q (.int (bits n : Nat)) H
theorem sc30 : FnScope ["many", "found"] ["many"] (defScope (top 30)) := ⟨rfl, rfl, rfl, by decide +kernel, rfl, by decide +kernel, by decide +kernel⟩
theorem ok_least (F : Fun K "_law_least" "_law_least" (top 30) f fd) : FnOk P w K mg base CX0 1 f fd ["many"] spLeast := by
  refine F.ok sc30 (fun vs H Q E h => ?_) (fun cdv A outer s H vs Q E hr h => ?_)
  · obtain ⟨n, rfl, _⟩ := h
    rfl
  obtain ⟨n, rfl, hn, q⟩ := h
  refine ⟨_, pss_cons (ps_set (i := 1) sc30.nd rfl (.inl rfl) pe_int)
    (pss_cons (ps_while PassesOwn.never (pt_cmpR op_gt (pv 0) pe_int (nomark _))
      (pss_cons (ps_set (i := 0) sc30.nd rfl (.inl rfl) (pe_op op_fdiv (pv 0) pe_int)) (pss_one (ps_set (i := 1) sc30.nd rfl (.inl rfl) (pe_op op_add (pv 1) pe_int)))))
    (pss_one (ps_ret (pv 1)))), ?_⟩
  refine ⟨fun m σ H' => ∃ (j c : Nat), σ = [some (.int (j : Nat)), some (.int (c : Nat))] ∧ m = j ∧ H' = H ∧ j ≤ 100 ∧ c + bits j = bits n, ⟨n, n, 0, rfl, rfl, rfl, hn, Nat.zero_add _⟩, ?_⟩
  rintro m σ H' ⟨j, c, rfl, rfl, rfl, hj, hc⟩
  refine ⟨_, rfl, _, _, rfl, rfl, _, rfl, ?_⟩
  refine if2 (fun d => ⟨fun σ' H'' => ∃ m', m' < m ∧ ∃ (j c : Nat), σ' = [some (.int (j : Nat)), some (.int (c : Nat))] ∧ m' = j ∧ H'' = H' ∧ j ≤ 100 ∧ c + bits j = bits n, fun _ _ n => n, ?_⟩) (fun d => ?_)
  · have d' : ((m : Nat) : Int) > 0 := of_decide_eq_true d
    refine ⟨_, rfl, _, _, rfl, rfl, ⟨by decide, by decide⟩, ?_⟩
    refine ⟨_, rfl, _, _, rfl, rfl, ?_⟩
    have e1 : ((m : Nat) : Int) / 2 = ((m / 2 : Nat) : Int) := by omega
    have e2 : ((c : Nat) : Int) + 1 = ((c + 1 : Nat) : Int) := by omega
    refine ⟨m / 2, by omega, m / 2, c + 1, ?_, rfl, rfl, by omega, ?_⟩
    · show [some (V.int (((m : Nat) : Int) / 2)), some (V.int (((c : Nat) : Int) + 1))] = _
      rw [e1, e2]
    · rw [← hc, bits_pos (n := m) (by omega)]
      omega
  · have d' : ¬ ((m : Nat) : Int) > 0 := of_decide_eq_false d
    have e : m = 0 := by omega
    subst e
    have e2 : c = bits n := by
      rw [← hc, bits]
      rfl
    refine ⟨_, rfl, ?_⟩
    rw [e2]
    exact q
end
end K40
namespace K40
open PySem PySem.Spec PyProof.Rows L2 Xc Dt
theorem ht_le : ∀ t : T, t.ht ≤ t.items.length
  | .nil => Nat.le_refl _
  | .node l k m r => by
    show 1 + max l.ht r.ht ≤ (l.items ++ (k, m) :: r.items).length
    rw [List.length_append, List.length_cons]
    have := ht_le l
    have := ht_le r
    omega
theorem items_node (l r : T) (k m : Int) : (T.node l k m r).items.length = l.items.length + r.items.length + 1 := by
  show (l.items ++ (k, m) :: r.items).length = _
  rw [List.length_append, List.length_cons]
  omega
theorem lawRows_len : ∀ (t : T) (low : Nat) (up : V), (lawRows t low up).length = t.items.length
  | .nil, _, _ => rfl
  | .node l k m r, low, up => by
    show (lawRows l _ _ ++ (lawRows r _ _ ++ [_])).length = _
    rw [List.length_append, List.length_append, lawRows_len l, lawRows_len r, items_node]
    rfl
section
variable {P : Program} {w : World} {K : PySem.W.Frag} {mg : Str → Option Value} {base : Heap} {f : Addr} {fd : FuncData}
/-! ### _law_links -/
def spLL (n : Nat) : Sp := fun vs H Q _ => ∃ (t : T) (v up : V) (low : Nat) (p : Addr) (rows : List Row) (kvs : List (Key × V)), vs = [v, .int (low : Nat), up, .ref p] ∧ Is H t.d v ∧ t.ht < n ∧ t.items.length ≤ 13 ∧ low + t.items.length ≤ 100 ∧ H p = some (.dK kvs) ∧ Rows H rows kvs ∧ rows.length + t.items.length ≤ 100 ∧
  (∀ j : Nat, ((j : Nat) : Int) ∈ rows.map (·.1) → ¬ (low ≤ j ∧ j < low + t.items.length)) ∧
  ∀ (kvs' : List (Key × V)) (H' : Hp), H' p = some (.dK kvs') → Rows H' (rows ++ lawRows t low up) kvs' → Kept p H H' → Q (lroot t low) H'
theorem sc26 : FnScope ["tree", "low", "up", "found", "here", "left"] ["tree", "low", "up", "found"] (defScope (top 26)) := ⟨rfl, rfl, rfl, by decide +kernel, rfl, by decide +kernel, by decide +kernel⟩
theorem ll_none {k : Nat} : FnOk P w K mg base CX0 k f fd ["tree", "low", "up", "found"] (spLL 0) := by
  have no : ∀ vs H Q E, ¬ spLL 0 vs H Q E := fun vs H Q E h => by
    obtain ⟨t, v, up, low, p, rows, kvs, _, _, h1, _⟩ := h
    omega
  exact ⟨fun vs H Q E h => absurd h (no vs H Q E), fun A outer s H args us vs Q E _ _ _ _ h => absurd h (no vs H Q E)⟩
theorem ll_step {n : Nat} {g : Addr} {gd : FuncData} (F : Fun K "_law_links" "_law_links" (top 26) f fd) (G : FnOk P w K mg base CX0 (n + 14) f fd ["tree", "low", "up", "found"] (spLL n)) (b : Binds K fd ["tree", "low", "up", "found"] []) (m : mg "_law_links" = some (.ref f)) (ml : mg "len" = none)
    (R : FnOk P w K mg base CX0 14 g gd ["tree"] (spRow 14)) (bR : Binds K gd ["tree"] []) (kR : PySem.W.keepIn K (.ref g) = true) (mR : mg "_law_row" = some (.ref g)) :
    FnOk P w K mg base CX0 (n + 1 + 14) f fd ["tree", "low", "up", "found"] (spLL (n + 1)) := by
  have e15 : n + 1 + 14 = (n + 14) + 1 := by omega
  rw [e15]
  refine F.ok sc26 (fun vs H Q E h => ?_) (fun cdv A outer s H vs Q E hr h => ?_)
  · obtain ⟨t, v, up, low, p, rows, kvs, rfl, _⟩ := h
    rfl
  obtain ⟨t, v, up, low, p, rows, kvs, rfl, hv, hn, hl, hlow, hp, hro, hrl, hfr, q⟩ := h
  have hu := hu_of hr
  have r14 : Room 14 (A.deeper (envOfC "_law_links" (defScope (top 26)) s.heap.objs.size f cdv)) := hr.mono (by omega)
  refine ⟨_, pss_cons (ps_if (pt_cmpR op_isN (pv 0) pe_non (nomark _)) (pss_one (ps_ret pe_non)) pss_nil)
    (pss_cons (ps_set (i := 4) sc26.nd rfl (.inl rfl) (pe_op op_add (pv 1) (pe_callB call_len_seq (by rfl) ml PySem.boot_len (pa_cons (pe_call R r14 rfl mR kR bR .nil pass0 (pa_cons (pe_ix (show IxR _ (rIxT K) from ix_tup) (pv 0) pe_int (fun _ _ => rfl)) pa_nil)) pa_nil))))
    (pss_cons (ps_set (i := 5) sc26.nd rfl (.inl rfl) (pe_call G hr rfl m F.kp b .nil pass0 (pa_cons (pe_ix (show IxR _ (rIxT K) from ix_tup) (pv 0) pe_int (fun _ _ => rfl)) (pa_cons (pv 1) (pa_cons (pv 4) (pa_cons (pv 3) pa_nil))))))
    (pss_cons (ps_dput hu (pv 3) (pv 4) (pe_tup (pa_cons (pv 5) (pa_cons (pe_call G hr rfl m F.kp b .nil pass0 (pa_cons (pe_ix (show IxR _ (rIxT K) from ix_tup) (pv 0) pe_int (fun _ _ => rfl)) (pa_cons (pe_op op_add (pv 4) pe_int) (pa_cons (pv 4) (pa_cons (pv 3) pa_nil))))) (pa_cons (pv 2) pa_nil)))) rfl)
    (pss_one (ps_ret (pv 4)))))), ?_⟩
  refine ⟨_, rfl, rfl, _, rfl, ?_⟩
  cases t with
  | nil =>
    cases (show v = V.non from hv)
    exact ifT rfl (q kvs H hp (by rw [show lawRows .nil low up = [] from rfl, List.append_nil]; exact hro) (fun x o e _ => e))
  | node l k mm r =>
    obtain ⟨ax, xs0, rfl, hax, xl, r0, rfl, il, xi, r1', rfl, ii, xr, r2', rfl, ir, hz⟩ := id hv
    cases (show r2' = [] from hz)
    rw [items_node] at hl hfr hlow hrl
    have hht : (T.node l k mm r).ht = 1 + max l.ht r.ht := rfl
    rw [hht] at hn
    have hl1 := ht_le l
    refine ifF rfl ?_
    refine ⟨_, rfl, _, rfl, ax, _, _, _, rfl, rfl, SqT.of hax, atI_nat (j := 0) rfl, l, xl, rfl, il, (by omega), (by omega), fun p1 xs1 H1 n1 h1 x1 s1 => ?_⟩
    have e1 : xs1.length = l.items.length := by rw [x1.len, List.length_map]
    refine ⟨p1, xs1, rfl, .inl (SqL.of h1), _, _, rfl, rfl, ?_⟩
    have eh : ((low : Nat) : Int) + ((xs1.length : Nat) : Int) = ((low + l.items.length : Nat) : Int) := by rw [e1]; omega
    dsimp only
    rw [eh]
    have hp1 := s1 _ _ hp
    have hro1 := hro.tups (Tups.of s1)
    -- the left part
    refine ⟨_, rfl, ax, _, _, _, rfl, rfl, SqT.of (s1 _ _ hax), atI_nat (j := 0) rfl, _, rfl, _, rfl, _, rfl, l, xl, _, low, p, rows, kvs, rfl, il.same s1, (by omega), (by omega), (by omega), hp1, hro1, (by omega), (fun j hj hz => hfr j hj (by omega)), fun kv2 H2 hp2 hro2 kp2 => ?_⟩
    have t2 := kept_tups kp2 hp1
    have hax2 := t2 _ _ (s1 _ _ hax)
    refine ⟨_, rfl, _, rfl, ax, _, _, _, rfl, rfl, SqT.of hax2, atI_nat (j := 2) rfl, _, rfl, _, _, rfl, rfl, _, rfl, _, rfl, r, xr, .int ((low + l.items.length : Nat)), low + l.items.length + 1, p, rows ++ lawRows l low (.int ((low + l.items.length : Nat))), kv2, ?_⟩
    refine ⟨by rfl, is_tups t2 (ir.same s1), (by omega), (by omega), (by omega), hp2, hro2, (by rw [List.length_append, lawRows_len]; omega), (fun j hj hz => ?_), fun kv3 H3 hp3 hro3 kp3 => ?_⟩
    · rw [List.map_append] at hj
      rcases List.mem_append.mp hj with h | h
      · exact hfr j h (by omega)
      · obtain ⟨j', a1, a2, a3⟩ := (lawRows_key l low _).1 _ h
        omega
    have t3 := kept_tups kp3 hp2
    refine ⟨_, rfl, (by show 3 ≤ sizeLine; decide), fun tb ntb => ?_⟩
    have u4 := same_new ntb (.tup [lroot l low, lroot r (low + l.items.length + 1), up])
    have m4 : (upd H3 tb (.tup [lroot l low, lroot r (low + l.items.length + 1), up])) tb = some (.tup [lroot l low, lroot r (low + l.items.length + 1), up]) := upd_same
    generalize upd H3 tb (.tup [lroot l low, lroot r (low + l.items.length + 1), up]) = H4 at u4 m4 ⊢
    have hp4 := u4 _ _ hp3
    have hro4 := hro3.tups (Tups.of u4)
    have hkl : kv3.length < sizeLine := by
      rw [← hro3.len, List.length_append, List.length_append, lawRows_len, lawRows_len]
      exact small1000' (by omega)
    refine ⟨_, rfl, _, rfl, p, _, rfl, DPut.k (k := .inl ((low + l.items.length : Nat) : Int)) hp4 hkl, ?_⟩
    refine ⟨_, rfl, q _ _ upd_same ?_ ?_⟩
    · have e5 : rows ++ lawRows (.node l k mm r) low up = ((rows ++ lawRows l low (.int ((low + l.items.length : Nat)))) ++ lawRows r (low + l.items.length + 1) (.int ((low + l.items.length : Nat)))) ++ [(((low + l.items.length : Nat) : Int), [lroot l low, lroot r (low + l.items.length + 1), up])] := by
        show rows ++ (lawRows l _ _ ++ (lawRows r _ _ ++ [_])) = _
        rw [List.append_assoc, List.append_assoc]
      rw [e5]
      refine (rows_put hro4 (fun hm => ?_) m4).tups (tups_upd hp4 (fun _ z => by cases z))
      rw [List.map_append, List.map_append] at hm
      rcases List.mem_append.mp hm with h | h
      · rcases List.mem_append.mp h with h | h
        · exact hfr _ h (by omega)
        · obtain ⟨j', a1, a2, a3⟩ := (lawRows_key l low _).1 _ h
          omega
      · obtain ⟨j', a1, a2, a3⟩ := (lawRows_key r (low + l.items.length + 1) _).1 _ h
        omega
    · exact fun x o e hx => by
        rw [upd_ne hx]
        exact u4 _ _ (kp3 _ _ (kp2 _ _ (s1 _ _ e) hx) hx)
theorem ll_all {g : Addr} {gd : FuncData} (F : Fun K "_law_links" "_law_links" (top 26) f fd) (b : Binds K fd ["tree", "low", "up", "found"] []) (m : mg "_law_links" = some (.ref f)) (ml : mg "len" = none)
    (R : FnOk P w K mg base CX0 14 g gd ["tree"] (spRow 14)) (bR : Binds K gd ["tree"] []) (kR : PySem.W.keepIn K (.ref g) = true) (mR : mg "_law_row" = some (.ref g)) : ∀ n : Nat, FnOk P w K mg base CX0 (n + 14) f fd ["tree", "low", "up", "found"] (spLL n)
  | 0 => ll_none
  | n + 1 => ll_step F (ll_all F b m ml R bR kR mR n) b m ml R bR kR mR
/-! ### _law_filled -/
def spFill (n : Nat) : Sp := fun vs H Q _ => ∃ (t : T) (v : V) (a : Addr) (xs : List V) (ps : List (Int × Int)), vs = [v, .ref a] ∧ Is H t.d v ∧ t.ht < n ∧ t.items.length ≤ 13 ∧ H a = some (.lst xs) ∧ Are H (ps.map itemD) xs ∧ ps.length = t.items.length ∧
  ∀ (t' : T) (v' : V) (H' : Hp), t'.items = ps → Is H' t'.d v' → Same H H' → Q v' H'
theorem sc28 : FnScope ["tree", "items", "at"] ["tree", "items"] (defScope (top 28)) := ⟨rfl, rfl, rfl, by decide +kernel, rfl, by decide +kernel, by decide +kernel⟩
theorem fill_none {k : Nat} : FnOk P w K mg base CX0 k f fd ["tree", "items"] (spFill 0) := by
  have no : ∀ vs H Q E, ¬ spFill 0 vs H Q E := fun vs H Q E h => by
    obtain ⟨t, v, a, xs, ps, _, _, h1, _⟩ := h
    omega
  exact ⟨fun vs H Q E h => absurd h (no vs H Q E), fun A outer s H args us vs Q E _ _ _ _ h => absurd h (no vs H Q E)⟩
theorem fill_step {n : Nat} {g : Addr} {gd : FuncData} (F : Fun K "_law_filled" "_law_filled" (top 28) f fd) (G : FnOk P w K mg base CX0 (n + 14) f fd ["tree", "items"] (spFill n)) (b : Binds K fd ["tree", "items"] []) (m : mg "_law_filled" = some (.ref f)) (ml : mg "len" = none)
    (R : FnOk P w K mg base CX0 14 g gd ["tree"] (spRow 14)) (bR : Binds K gd ["tree"] []) (kR : PySem.W.keepIn K (.ref g) = true) (mR : mg "_law_row" = some (.ref g)) :
    FnOk P w K mg base CX0 (n + 1 + 14) f fd ["tree", "items"] (spFill (n + 1)) := by
  have e15 : n + 1 + 14 = (n + 14) + 1 := by omega
  rw [e15]
  refine F.ok sc28 (fun vs H Q E h => ?_) (fun cdv A outer s H vs Q E hr h => ?_)
  · obtain ⟨t, v, a, xs, ps, rfl, _⟩ := h
    rfl
  obtain ⟨t, v, a, xs, ps, rfl, hv, hn, hl, ha, hx, hpl, q⟩ := h
  have r14 : Room 14 (A.deeper (envOfC "_law_filled" (defScope (top 28)) s.heap.objs.size f cdv)) := hr.mono (by omega)
  refine ⟨_, pss_cons (ps_if (pt_cmpR op_isN (pv 0) pe_non (nomark _)) (pss_one (ps_ret pe_non)) pss_nil)
    (pss_cons (ps_set (i := 2) sc28.nd rfl (.inl rfl) (pe_callB call_len_seq (by rfl) ml PySem.boot_len (pa_cons (pe_call R r14 rfl mR kR bR .nil pass0 (pa_cons (pe_ix (show IxR _ (rIxT K) from ix_tup) (pv 0) pe_int (fun _ _ => rfl)) pa_nil)) pa_nil)))
    (pss_one (ps_ret (pe_tup (pa_cons (pe_call G hr rfl m F.kp b .nil pass0 (pa_cons (pe_ix (show IxR _ (rIxT K) from ix_tup) (pv 0) pe_int (fun _ _ => rfl)) (pa_cons (pe_slice (show SlR _ (rSlL K) from sl_list) (pv 1) po_none (po_some (pv 2))) pa_nil)))
      (pa_cons (pe_ix (show IxR _ (rIxL K) from ix_list) (pv 1) (pv 2) (fun _ _ => rfl))
      (pa_cons (pe_call G hr rfl m F.kp b .nil pass0 (pa_cons (pe_ix (show IxR _ (rIxT K) from ix_tup) (pv 0) pe_int (fun _ _ => rfl)) (pa_cons (pe_slice (show SlR _ (rSlL K) from sl_list) (pv 1) (po_some (pe_op op_add (pv 2) pe_int)) po_none) pa_nil))) pa_nil))))))), ?_⟩
  have hxl : xs.length = ps.length := by rw [hx.len, List.length_map]
  refine ⟨_, rfl, rfl, _, rfl, ?_⟩
  cases t with
  | nil =>
    cases (show v = V.non from hv)
    exact ifT rfl (q .nil .non H (List.eq_nil_of_length_eq_zero hpl).symm rfl (Same.refl H))
  | node l k mm r =>
    obtain ⟨ax, xs0, rfl, hax, xl, r0, rfl, il, xi, r1', rfl, ii, xr, r2', rfl, ir, hz⟩ := id hv
    cases (show r2' = [] from hz)
    rw [items_node] at hl hpl
    have hht : (T.node l k mm r).ht = 1 + max l.ht r.ht := rfl
    rw [hht] at hn
    have hl1 := ht_le l
    refine ifF rfl ?_
    refine ⟨_, rfl, ax, _, _, _, rfl, rfl, SqT.of hax, atI_nat (j := 0) rfl, l, xl, rfl, il, (by omega), (by omega), fun p1 xs1 H1 n1 h1 x1 s1 => ?_⟩
    have e1 : xs1.length = l.items.length := by rw [x1.len, List.length_map]
    refine ⟨p1, xs1, rfl, .inl (SqL.of h1), ?_⟩
    rw [e1]
    generalize hmid : l.items.length = mid at *
    refine ⟨_, rfl, ax, _, _, _, rfl, rfl, SqT.of (s1 _ _ hax), atI_nat (j := 0) rfl, _, rfl, _, rfl, _, rfl, a, xs, rfl, SqL.of (s1 _ _ ha), fun p2 n2 => ?_⟩
    rw [cut_lo xs mid (by omega)]
    have u2 := same_new n2 (.lst (xs.take mid))
    have m2 : (upd H1 p2 (.lst (xs.take mid))) p2 = some (.lst (xs.take mid)) := upd_same
    generalize upd H1 p2 (.lst (xs.take mid)) = H2 at u2 m2 ⊢
    have s2 := s1.trans u2
    have len1 : (ps.take mid).length = mid := by rw [List.length_take]; omega
    have len2 : (ps.drop (mid + 1)).length = ps.length - (mid + 1) := List.length_drop
    refine ⟨l, xl, p2, _, ps.take mid, rfl, il.same s2, (by omega), (by omega), m2, (by rw [List.map_take]; exact are_take mid (hx.same s2)), (by omega), fun t1 v1 H3 et1 i1 s3 => ?_⟩
    have s4 := s2.trans s3
    have hat : ps[mid]? = some ps[mid] := List.getElem?_eq_getElem (by omega)
    obtain ⟨x, hxm, ix⟩ := hx.at (i := mid) (d := itemD ps[mid]) (by rw [List.getElem?_map, hat]; rfl)
    refine ⟨_, rfl, _, rfl, a, xs, _, _, rfl, rfl, SqL.of (s4 _ _ ha), atI_nat hxm, ?_⟩
    refine ⟨_, rfl, ax, _, _, _, rfl, rfl, SqT.of (s4 _ _ hax), atI_nat (j := 2) rfl, _, rfl, _, rfl, _, _, rfl, rfl, _, rfl, a, xs, rfl, SqL.of (s4 _ _ ha), fun p5 n5 => ?_⟩
    have e3 : ((mid : Nat) : Int) + 1 = ((mid + 1 : Nat) : Int) := by omega
    rw [e3, cut_hi xs (mid + 1) (by omega)]
    have u5 := same_new n5 (.lst (xs.drop (mid + 1)))
    have m5 : (upd H3 p5 (.lst (xs.drop (mid + 1)))) p5 = some (.lst (xs.drop (mid + 1))) := upd_same
    generalize upd H3 p5 (.lst (xs.drop (mid + 1))) = H5 at u5 m5 ⊢
    have s5 := s4.trans u5
    refine ⟨r, xr, p5, _, ps.drop (mid + 1), rfl, ir.same s5, (by omega), (by omega), m5, (by rw [List.map_drop]; exact are_drop (mid + 1) (hx.same s5)), (by omega), fun t2 v2 H6 et2 i2 s6 => ?_⟩
    have s7 := s5.trans s6
    refine ⟨(by show 3 ≤ sizeLine; decide), fun rr nr => ?_⟩
    have s8 := same_new nr (.tup [v1, x, v2])
    refine q (.node t1 ps[mid].1 ps[mid].2 t2) (.ref rr) _ ?_ ?_ (s7.trans s8)
    · show t1.items ++ ps[mid] :: t2.items = ps
      rw [et1, et2, List.getElem_cons_drop, List.take_append_drop]
    · exact ⟨rr, _, rfl, upd_same, are3 (i1.same ((u5.trans s6).trans s8)) (ix.same (s7.trans s8)) (i2.same s8)⟩
theorem fill_all {g : Addr} {gd : FuncData} (F : Fun K "_law_filled" "_law_filled" (top 28) f fd) (b : Binds K fd ["tree", "items"] []) (m : mg "_law_filled" = some (.ref f)) (ml : mg "len" = none)
    (R : FnOk P w K mg base CX0 14 g gd ["tree"] (spRow 14)) (bR : Binds K gd ["tree"] []) (kR : PySem.W.keepIn K (.ref g) = true) (mR : mg "_law_row" = some (.ref g)) : ∀ n : Nat, FnOk P w K mg base CX0 (n + 14) f fd ["tree", "items"] (spFill n)
  | 0 => fill_none
  | n + 1 => fill_step F (fill_all F b m ml R bR kR mR n) b m ml R bR kR mR
end
end K40
namespace Dt
open PySem PySem.Spec PyProof.Rows L2 Xc
/-- xs == [] -/
def rEqNil (K : PySem.W.Frag) : R2 := fun x y H Q => ∃ a b xs, x = .ref a ∧ y = .ref b ∧ SqL K H a xs ∧ SqL K H b [] ∧ Q (.bl xs.isEmpty) H
theorem op_eqNil {X : Cx} (hu : X.A.units + 64 < cLine) : OpR X (compareOp .Eq) (rEqNil X.K) := by
  intro pins s σ H x y v u Q I rx ry h
  obtain ⟨a, b, xs, rfl, rfl, ha, hb, q⟩ := h
  cases rx
  cases ry
  obtain ⟨us, r1, p1, _⟩ := I.list ha
  obtain ⟨ws, r2, p2, _⟩ := I.list hb
  cases r2
  cases xs with
  | nil =>
    cases r1
    refine SeqAt.rcIn_lists (e := fun _ => true) p1.isList p2.isList rfl (show X.A.units < cLine by omega) (fun j h1 h2 => absurd h1 (Nat.not_lt_zero j)) ?_
    exact ⟨.bl true, H, I, rfl, q⟩
  | cons x xs =>
    cases r1 with
    | cons r t =>
      exact SeqAt.RcAt.lists_lengths p1.isList p2.isList (by rfl) (show X.A.units < cLine by omega) _ _ _ _ ⟨.bl false, H, I, rfl, q⟩
theorem log_small {x : Int} (h0 : 0 ≤ x) (h1 : x ≤ 1000) : x.natAbs.log2 < 9000 := by
  have h : x.natAbs.log2 ≤ x.natAbs := Nat.log2_le_self _
  omega
end Dt
namespace K40
open PySem PySem.Spec PyProof.Rows L2 Xc Dt
section
variable {P : Program} {w : World} {K : PySem.W.Frag} {mg : Str → Option Value} {base : Heap} {f : Addr} {fd : FuncData}
/-! ### _law_tree -/
def spTree (n : Nat) : Sp := fun vs H Q _ => ∃ (b : Addr) (ct : Nat) (a : Addr) (xs : List V) (ps : List (Int × Int)), vs = [.ref b, .ref a] ∧ Bag H b ct ∧ ct + 2 * ps.length ≤ 1000 ∧ H a = some (.lst xs) ∧ Are H (ps.map itemD) xs ∧ ps.length < n ∧ ps.length ≤ 13 ∧
  ∀ (t : T) (v : V) (H' : Hp), t.items = ps → Is H' t.d v → Bag H' b (ct + 2 * ps.length) → Kept b H H' → Q v H'
theorem sc22 : FnScope ["bag", "items", "many", "at", "low"] ["bag", "items"] (defScope (top 22)) := ⟨rfl, rfl, rfl, by decide +kernel, rfl, by decide +kernel, by decide +kernel⟩
theorem tree_none {k : Nat} : FnOk P w K mg base CX0 k f fd ["bag", "items"] (spTree 0) := by
  have no : ∀ vs H Q E, ¬ spTree 0 vs H Q E := fun vs H Q E h => by
    obtain ⟨b, ct, a, xs, ps, _, _, _, _, _, h1, _⟩ := h
    omega
  exact ⟨fun vs H Q E h => absurd h (no vs H Q E), fun A outer s H args us vs Q E _ _ _ _ h => absurd h (no vs H Q E)⟩
theorem tree_step {n : Nat} {g : Addr} {gd : FuncData} (F : Fun K "_law_tree" "_law_tree" (top 22) f fd) (G : FnOk P w K mg base CX0 (n + 1) f fd ["bag", "items"] (spTree n)) (b : Binds K fd ["bag", "items"] []) (m : mg "_law_tree" = some (.ref f)) (ml : mg "len" = none)
    (R : FnOk P w K mg base CX0 1 g gd ["bag", "limit"] spDraw) (bR : Binds K gd ["bag", "limit"] []) (kR : PySem.W.keepIn K (.ref g) = true) (mR : mg "_law_draw" = some (.ref g)) :
    FnOk P w K mg base CX0 (n + 1 + 1) f fd ["bag", "items"] (spTree (n + 1)) := by
  refine F.ok sc22 (fun vs H Q E h => ?_) (fun cdv A outer s H vs Q E hr h => ?_)
  · obtain ⟨b, ct, a, xs, ps, rfl, _⟩ := h
    rfl
  obtain ⟨bg, ct, a, xs, ps, rfl, g0, hct, ha, hx, hn, hl, q⟩ := h
  have r1 : Room 1 (A.deeper (envOfC "_law_tree" (defScope (top 22)) s.heap.objs.size f cdv)) := hr.mono (by omega)
  have hu64 : (A.deeper (envOfC "_law_tree" (defScope (top 22)) s.heap.objs.size f cdv)).units + 64 < cLine := by have := hr.un; omega
  refine ⟨_, pss_cons (ps_if (pt_cmpR (op_eqNil hu64) (pv 1) (pe_lst pa_nil) (nomark _)) (pss_one (ps_ret pe_non)) pss_nil)
    (pss_cons (ps_set (i := 2) sc22.nd rfl (.inl rfl) (pe_callB call_len_seq (by rfl) ml PySem.boot_len (pa_cons (pv 1) pa_nil)))
    (pss_cons (ps_set (i := 3) sc22.nd rfl (.inl rfl) (pe_ix (show IxR _ (rIxL K) from ix_list) (pe_lst (pa_cons pe_int (pa_cons (pe_op op_sub (pv 2) pe_int) (pa_cons (pe_op op_fdiv (pv 2) pe_int) (pa_cons (pe_call R r1 rfl mR kR bR .nil pass0 (pa_cons (pv 0) (pa_cons (pv 2) pa_nil))) pa_nil)))))
        (pe_call R r1 rfl mR kR bR .nil pass0 (pa_cons (pv 0) (pa_cons pe_int pa_nil))) (fun _ _ => rfl)))
    (pss_cons (ps_set (i := 4) sc22.nd rfl (.inl rfl) (pe_call G hr rfl m F.kp b .nil pass0 (pa_cons (pv 0) (pa_cons (pe_slice (show SlR _ (rSlL K) from sl_list) (pv 1) po_none (po_some (pv 3))) pa_nil))))
    (pss_one (ps_ret (pe_tup (pa_cons (pv 4) (pa_cons (pe_ix (show IxR _ (rIxL K) from ix_list) (pv 1) (pv 3) (fun _ _ => rfl))
      (pa_cons (pe_call G hr rfl m F.kp b .nil pass0 (pa_cons (pv 0) (pa_cons (pe_slice (show SlR _ (rSlL K) from sl_list) (pv 1) (po_some (pe_op op_add (pv 3) pe_int)) po_none) pa_nil))) pa_nil))))))))), ?_⟩
  have hxl : xs.length = ps.length := by rw [hx.len, List.length_map]
  refine ⟨_, rfl, (by show 0 ≤ sizeLine; decide), fun l0 n0 => ?_⟩
  have s0 := same_new n0 (.lst [])
  have m0 : (upd H l0 (.lst [])) l0 = some (.lst []) := upd_same
  generalize upd H l0 (.lst []) = H0 at s0 m0 ⊢
  refine ⟨a, l0, xs, rfl, rfl, SqL.of (s0 _ _ ha), SqL.of m0, _, rfl, ?_⟩
  refine if2 (fun c => ?_) (fun c => ?_)
  · have e : ps = [] := by
      cases xs with
      | nil => exact List.eq_nil_of_length_eq_zero hxl.symm
      | cons _ _ => cases c
    subst e
    exact q .nil .non H0 rfl rfl (g0.same s0) (Kept.of s0)
  · have hp : 0 < ps.length := by
      cases xs with
      | nil => cases c
      | cons _ _ =>
        rw [← hxl]
        exact Nat.succ_pos _
    refine ⟨_, rfl, a, xs, rfl, .inl (SqL.of (s0 _ _ ha)), ?_⟩
    rw [hxl]
    have g1 := g0.same s0
    refine ⟨_, rfl, _, _, rfl, rfl, _, rfl, _, _, rfl, rfl, ⟨by decide, by decide⟩, _, rfl, _, rfl, bg, ct, ((ps.length : Nat) : Int), rfl, g1, (by omega), (by omega), log_small (by omega) (by omega), fun v1 H1 v0 v2 g2 k1 _ => ?_⟩
    refine ⟨(by show 4 ≤ sizeLine; decide), fun l1 n1 => ?_⟩
    have u1 := same_new n1 (.lst [.int 0, .int ((ps.length : Nat) - 1), .int ((ps.length : Nat) / 2), .int v1])
    have m1 : (upd H1 l1 (.lst [.int 0, .int ((ps.length : Nat) - 1), .int ((ps.length : Nat) / 2), .int v1])) l1 = some (.lst [.int 0, .int ((ps.length : Nat) - 1), .int ((ps.length : Nat) / 2), .int v1]) := upd_same
    have k2 : Kept bg H (upd H1 l1 (.lst [.int 0, .int ((ps.length : Nat) - 1), .int ((ps.length : Nat) / 2), .int v1])) := (Kept.of s0).trans (k1.trans (Kept.of u1))
    have g3 := g2.same u1
    generalize upd H1 l1 (.lst [.int 0, .int ((ps.length : Nat) - 1), .int ((ps.length : Nat) / 2), .int v1]) = H2 at u1 m1 k2 g3 ⊢
    have hlb : ∀ {x : Addr} {H : Hp} {xs : List V} {c : Nat}, H x = some (.lst xs) → Bag H bg c → x ≠ bg := fun h g z => by
      obtain ⟨kvs, e⟩ := Bag.dict g
      rw [z, e] at h
      cases h
    have hab : a ≠ bg := hlb ha g0
    refine ⟨_, rfl, bg, ct + 1, 4, rfl, g3, (by omega), (by decide), log_small (by decide) (by decide), fun v3 H3 w0 w1 g4 k3 _ => ?_⟩
    have m3 := k3 _ _ m1 (hlb m1 g3)
    have k4 := k2.trans k3
    -- the place
    obtain ⟨at', hat, h1, h2⟩ : ∃ at' : Nat, atI [V.int 0, .int ((ps.length : Nat) - 1), .int ((ps.length : Nat) / 2), .int v1] v3 = some (.int (at' : Nat)) ∧ 0 ≤ at' ∧ at' < ps.length := by
      obtain ⟨j, rfl⟩ := Int.eq_ofNat_of_zero_le w0
      have w1 : j < 4 := by omega
      obtain ⟨y, rfl⟩ := Int.eq_ofNat_of_zero_le v0
      have e1 : ((ps.length : Nat) : Int) - 1 = ((ps.length - 1 : Nat) : Int) := by omega
      have e2 : ((ps.length : Nat) : Int) / 2 = ((ps.length / 2 : Nat) : Int) := by omega
      rw [e1, e2]
      obtain rfl | rfl | rfl | rfl := (by omega : j = 0 ∨ j = 1 ∨ j = 2 ∨ j = 3)
      · exact ⟨0, atI_nat (j := 0) rfl, by omega, by omega⟩
      · exact ⟨ps.length - 1, atI_nat (j := 1) rfl, by omega, by omega⟩
      · exact ⟨ps.length / 2, atI_nat (j := 2) rfl, by omega, by omega⟩
      · exact ⟨y, atI_nat (j := 3) rfl, by omega, by omega⟩
    clear h1
    refine ⟨l1, _, _, _, rfl, rfl, SqL.of m3, hat, ?_⟩
    have ha3 := k4 _ _ ha hab
    have t3 : Tups H H3 := by
      obtain ⟨kvs, e⟩ := Bag.dict g0
      exact kept_tups k4 e
    refine ⟨_, rfl, _, rfl, _, rfl, _, rfl, a, xs, rfl, SqL.of ha3, fun p2 n2 => ?_⟩
    rw [cut_lo xs at' (by omega)]
    have u5 := same_new n2 (.lst (xs.take at'))
    have m5 : (upd H3 p2 (.lst (xs.take at'))) p2 = some (.lst (xs.take at')) := upd_same
    generalize upd H3 p2 (.lst (xs.take at')) = H5 at u5 m5 ⊢
    have len1 : (ps.take at').length = at' := by rw [List.length_take]; omega
    have len2 : (ps.drop (at' + 1)).length = ps.length - (at' + 1) := List.length_drop
    have g5 := g4.same u5
    have t5 := t3.trans (Tups.of u5)
    refine ⟨bg, ct + 1 + 1, p2, _, ps.take at', rfl, g5, (by omega), m5, (by rw [List.map_take]; exact are_take at' (are_tups t5 hx)), (by omega), (by omega), fun t1 v5 H6 et1 i1 g6 k6 => ?_⟩
    have t6 : Tups H H6 := by
      obtain ⟨kvs, e⟩ := Bag.dict g5
      exact t5.trans (kept_tups k6 e)
    have k7 := (k4.trans (Kept.of u5)).trans k6
    have ha6 := k7 _ _ ha hab
    have hat2 : ps[at']? = some ps[at'] := List.getElem?_eq_getElem h2
    obtain ⟨x, hxm, ix⟩ := (are_tups t6 hx).at (i := at') (d := itemD ps[at']) (by rw [List.getElem?_map, hat2]; rfl)
    refine ⟨_, rfl, _, rfl, _, rfl, a, xs, _, _, rfl, rfl, SqL.of ha6, atI_nat hxm, ?_⟩
    refine ⟨_, rfl, _, rfl, _, rfl, _, _, rfl, rfl, _, rfl, a, xs, rfl, SqL.of ha6, fun p7 n7 => ?_⟩
    have e3 : ((at' : Nat) : Int) + 1 = ((at' + 1 : Nat) : Int) := by omega
    rw [e3, cut_hi xs (at' + 1) (by omega)]
    have u8 := same_new n7 (.lst (xs.drop (at' + 1)))
    have m8 : (upd H6 p7 (.lst (xs.drop (at' + 1)))) p7 = some (.lst (xs.drop (at' + 1))) := upd_same
    generalize upd H6 p7 (.lst (xs.drop (at' + 1))) = H8 at u8 m8 ⊢
    have g8 := g6.same u8
    have t8 := t6.trans (Tups.of u8)
    refine ⟨bg, ct + 1 + 1 + 2 * (ps.take at').length, p7, _, ps.drop (at' + 1), rfl, g8, (by omega), m8, (by rw [List.map_drop]; exact are_drop (at' + 1) (are_tups t8 hx)), (by omega), (by omega), fun t2 v9 H9 et2 i2 g9 k9 => ?_⟩
    refine ⟨(by show 3 ≤ sizeLine; decide), fun rr nr => ?_⟩
    have s9 := same_new nr (.tup [v5, x, v9])
    have k10 : Kept bg H8 (upd H9 rr (.tup [v5, x, v9])) := k9.trans (Kept.of s9)
    have t10 : Tups H8 (upd H9 rr (.tup [v5, x, v9])) := by
      obtain ⟨kvs, e⟩ := Bag.dict g8
      exact kept_tups k10 e
    have t11 := (Tups.of u8).trans t10
    refine q (.node t1 ps[at'].1 ps[at'].2 t2) (.ref rr) _ ?_ ?_ ?_ ((k7.trans (Kept.of u8)).trans k10)
    · show t1.items ++ ps[at'] :: t2.items = ps
      rw [et1, et2, List.getElem_cons_drop, List.take_append_drop]
    · obtain ⟨ai, ri, hai⟩ := (pairAt_is ix).2
      subst ri
      exact ⟨rr, _, rfl, upd_same, are3 (is_tups t11 i1) (is_pair (t11 _ _ hai)) (i2.same s9)⟩
    · have e : ct + 2 * ps.length = ct + 1 + 1 + 2 * (ps.take at').length + 2 * (ps.drop (at' + 1)).length := by omega
      rw [e]
      exact g9.same s9
theorem tree_all {g : Addr} {gd : FuncData} (F : Fun K "_law_tree" "_law_tree" (top 22) f fd) (b : Binds K fd ["bag", "items"] []) (m : mg "_law_tree" = some (.ref f)) (ml : mg "len" = none)
    (R : FnOk P w K mg base CX0 1 g gd ["bag", "limit"] spDraw) (bR : Binds K gd ["bag", "limit"] []) (kR : PySem.W.keepIn K (.ref g) = true) (mR : mg "_law_draw" = some (.ref g)) : ∀ n : Nat, FnOk P w K mg base CX0 (n + 1) f fd ["bag", "items"] (spTree n)
  | 0 => tree_none
  | n + 1 => tree_step F (tree_all F b m ml R bR kR mR n) b m ml R bR kR mR
end
end K40
namespace Dt
theorem log_big {x : Int} (h0 : 0 ≤ x) (h1 : x ≤ 2 * 10 ^ 30 + 1) : x.natAbs.log2 < 9000 := by
  by_cases z : x.natAbs = 0
  · rw [z]; decide
  · have h : x.natAbs < 2 ^ 200 := by
      have : (2 : Nat) ^ 200 > 2 * 10 ^ 30 + 1 := by decide
      omega
    have := (Nat.log2_lt z).mpr h
    omega
end Dt
namespace K40
open PySem PySem.Spec PyProof.Rows L2 Xc Dt
/-- the mark of the k-th item -/
def mk (k : Nat) : Int := (60 * (k : Int) + 70) % 101 + 1000 * ((k : Int) / 101)
theorem mk_nodup {n : Nat} (h : n ≤ 12) : ((List.range n).map mk).Nodup := by
  have e : List.range n = (List.range 12).take n := by rw [List.take_range, Nat.min_eq_left h]
  rw [e, List.map_take]
  exact List.Sublist.nodup (List.take_sublist _ _) (by decide)
section
variable {P : Program} {w : World} {K : PySem.W.Frag} {mg : Str → Option Value} {base : Heap} {f : Addr} {fd : FuncData}
/-! ### _law_items -/
def spItems : Sp := fun vs H Q _ => ∃ (b : Addr) (ct n : Nat) (keys : Int), vs = [.ref b, .int (n : Nat), .int keys] ∧ Bag H b ct ∧ ct ≤ 1000 ∧ n ≤ 12 ∧ 0 < keys ∧ keys ≤ 10 ^ 30 ∧
  ∀ (a : Addr) (xs : List V) (ps : List (Int × Int)) (H' : Hp), H a = none → H' a = some (.lst xs) → Are H' (ps.map itemD) xs → ps.length = n → Asc ps → (ps.map (·.2)).Nodup → Bag H' b (ct + 1 + n) → Kept b H H' → Q (.ref a) H'
theorem sc24 : FnScope ["bag", "many", "keys", "key", "found", "k"] ["bag", "many", "keys"] (defScope (top 24)) := ⟨rfl, rfl, rfl, by decide +kernel, rfl, by decide +kernel, by decide +kernel⟩
theorem ok_lawItems {g : Addr} {gd : FuncData} (F : Fun K "_law_items" "_law_items" (top 24) f fd) (mI : mg "int" = none) (mR : mg "range" = none)
    (R : FnOk P w K mg base CX0 1 g gd ["bag", "limit"] spDraw) (bR : Binds K gd ["bag", "limit"] []) (kR : PySem.W.keepIn K (.ref g) = true) (mD : mg "_law_draw" = some (.ref g)) :
    FnOk P w K mg base CX0 2 f fd ["bag", "many", "keys"] spItems := by
  refine F.ok sc24 (fun vs H Q E h => ?_) (fun cdv A outer s H vs Q E hr h => ?_)
  · obtain ⟨b, ct, n, keys, rfl, _⟩ := h
    rfl
  obtain ⟨bg, ct, n, keys, rfl, g0, hct, hn, k0, k1, q⟩ := h
  refine ⟨_, pss_cons (ps_par (i := 3) (j := 4) rfl sc24.nd rfl rfl (by decide) rfl rfl (pa_cons (pe_op op_sub (pe_call R hr rfl mD kR bR .nil pass0 (pa_cons (pv 0) (pa_cons (pe_op op_add (pe_op op_mul pe_int (pv 2)) pe_int) pa_nil))) (pv 2)) (pa_cons (pe_lst pa_nil) pa_nil)) (by rfl))
    (pss_cons (ps_for PassesOwn.never rfl (pi_range1 rfl mR (pa_cons (pv 1) pa_nil)) (pg_name (i := 5) sc24.nd rfl (.inl rfl))
      (pss_cons (ps_set (i := 3) sc24.nd rfl (.inl rfl) (pe_op op_add (pe_op op_add (pv 3) pe_int) (pe_call R hr rfl mD kR bR .nil pass0 (pa_cons (pv 0) (pa_cons (pv 2) pa_nil)))))
      (pss_one (ps_expr (pe_bm PySem.F.plainAttrs_list PySem.F.slot_list_append PySem.F.type_list_append mt_append (pv 4) (pa_cons (pe_tup (pa_cons (pv 3) (pa_cons (pe_op op_add (pe_op op_mod (pe_callTy call_int1 (by rfl) mI (by decide +kernel) (pa_cons (pe_op op_add (pe_op op_mul pe_int (pv 5)) pe_int) pa_nil)) pe_int)
        (pe_op op_mul pe_int (pe_op op_fdiv (pv 5) pe_int))) pa_nil))) pa_nil))))))
    (pss_one (ps_ret (pv 4)))), ?_⟩
  refine ⟨_, rfl, _, rfl, _, _, rfl, rfl, .inl ⟨by decide, by decide⟩, _, _, rfl, rfl, bg, ct, _, rfl, g0, (by omega), (by omega), log_big (by omega) (by omega), fun v1 H1 v0 v2 g1 kp1 _ => ?_⟩
  refine ⟨_, rfl, _, _, rfl, rfl, (by show 0 ≤ sizeLine; decide), fun l nl => ?_⟩
  have hlb : l ≠ bg := fun z => by
    obtain ⟨kvs, e⟩ := Bag.dict g1
    rw [z, e] at nl
    cases nl
  have u2 := same_new nl (.lst [])
  have m2 : (upd H1 l (.lst [])) l = some (.lst []) := upd_same
  have g2 := g1.same u2
  have k2 : Kept bg H (upd H1 l (.lst [])) := kp1.trans (Kept.of u2)
  have nl0 : H l = none := Kept.free kp1 nl hlb
  have hc2 : ∃ c, c ≠ l ∧ ∃ ns i dg fo ct, BagAt (upd H1 l (.lst [])) bg c ns i dg fo ct := by
    obtain ⟨c, ns, j, dg, fo, gg⟩ := g1
    have e : c ≠ l := fun z => by
      have h1 := gg.hc
      rw [z, nl] at h1
      cases h1
    exact ⟨c, e, ns, j, dg, fo, _, u2 _ _ gg.hb, u2 _ _ gg.hc, gg.dg0, gg.fo0, gg.fo1⟩
  generalize upd H1 l (.lst []) = H2 at u2 m2 g2 k2 hc2 ⊢
  refine ⟨_, _, rfl, ?_⟩
  refine ⟨_, rfl, ((n : Nat) : Int), rfl, (by omega), (by omega), for_range (n := n) (fun i σ H' => ∃ (key : Int) (o5 : Option V) (xs : List V) (ps : List (Int × Int)), σ = [some (.ref bg), some (.int (n : Nat)), some (.int keys), some (.int key), some (.ref l), o5] ∧
      H' l = some (.lst xs) ∧ Are H' (ps.map itemD) xs ∧ ps.length = i ∧ Asc ps ∧ (∀ p ∈ ps, p.1 ≤ key) ∧ ps.map (·.2) = (List.range i).map mk ∧ Bag H' bg (ct + 1 + i) ∧ Kept bg H H' ∧ ∃ c, c ≠ l ∧ ∃ ns i dg fo ct, BagAt H' bg c ns i dg fo ct)
    ⟨v1 - keys, none, [], [], rfl, m2, rfl, rfl, List.Pairwise.nil, fun p hp => (by cases hp), rfl, g2, k2, hc2⟩ ?_ ?_⟩
  · rintro i σ H' hi ⟨key, o5, xs, ps, rfl, hl, hx, hpl, hasc, hle, hmk, g3, k3, hc3⟩
    refine ⟨_, rfl, _, _, rfl, rfl, _, rfl, _, rfl, bg, ct + 1 + i, keys, rfl, g3, (by omega), k0, log_big (by omega) (by omega), fun v4 H4 w0 w1 g4 k4 cl4 => ?_⟩
    have hl4 := k4 _ _ hl hlb
    have t4 : Tups H' H4 := by
      obtain ⟨kvs, e⟩ := Bag.dict g3
      exact kept_tups k4 e
    refine ⟨_, _, rfl, rfl, ?_⟩
    refine ⟨_, rfl, .inl ⟨rfl, _, SqL.of hl4⟩, _, rfl, _, rfl, _, _, rfl, rfl, .inl ⟨by decide, by decide⟩, _, _, rfl, rfl, .inl ⟨_, rfl, _, _, rfl, rfl, (by show (0 : Int) < 101; decide), _, rfl, _, _, rfl, rfl, ⟨by decide, by decide⟩, _, _, rfl, rfl, .inl ⟨by decide, by decide⟩, _, _, rfl, rfl, (by show 2 ≤ sizeLine; decide), fun t nt => ?_⟩⟩
    have e0 : (0 : Int) + (i : Nat) = ((i : Nat) : Int) := by omega
    rw [e0]
    have u5 := same_new nt (.tup [.int (key + 1 + v4), .int ((60 * ((i : Nat) : Int) + 70) % 101 + 1000 * (((i : Nat) : Int) / 101))])
    have m5 : (upd H4 t (.tup [.int (key + 1 + v4), .int ((60 * ((i : Nat) : Int) + 70) % 101 + 1000 * (((i : Nat) : Int) / 101))])) t = some (.tup [.int (key + 1 + v4), .int (mk i)]) := upd_same
    generalize upd H4 t (.tup [.int (key + 1 + v4), .int ((60 * ((i : Nat) : Int) + 70) % 101 + 1000 * (((i : Nat) : Int) / 101))]) = H5 at u5 m5 ⊢
    have hl5 := u5 _ _ hl4
    have hxl : xs.length = ps.length := by rw [hx.len, List.length_map]
    refine ⟨l, xs, _, rfl, rfl, hl5, (by rw [hxl]; exact small1000' (by omega)), ?_⟩
    have t6 : Tups H5 (upd H5 l (.lst (xs ++ [.ref t]))) := tups_upd hl5 (fun _ z => by cases z)
    have t7 := (t4.trans (Tups.of u5)).trans t6
    have kk : Kept bg H (upd H5 l (.lst (xs ++ [.ref t]))) := fun x o e hx => by
      rw [upd_ne (ne_of_none e nl0)]
      exact u5 _ _ (k4 _ _ (k3 _ _ e hx) hx)
    refine ⟨key + 1 + v4, some (.int (i : Nat)), xs ++ [.ref t], ps ++ [(key + 1 + v4, mk i)], rfl, upd_same, ?_, ?_, ?_, ?_, ?_, ?_, kk, ?_⟩
    · rw [List.map_append]
      exact (are_tups t7 hx).append (are1 (is_pair (p := (key + 1 + v4, mk i)) (t6 _ _ m5)))
    · rw [List.length_append, hpl]
      rfl
    · unfold Asc
      rw [List.pairwise_append]
      refine ⟨hasc, List.pairwise_singleton _ _, fun p hp q hq => ?_⟩
      rw [List.mem_singleton] at hq
      subst hq
      have := hle p hp
      show p.1 < key + 1 + v4
      omega
    · intro p hp
      rcases List.mem_append.mp hp with h | h
      · have := hle p h
        omega
      · rw [List.mem_singleton] at h
        subst h
        exact Int.le_refl _
    · rw [List.map_append, hmk, List.range_succ, List.map_append]
      rfl
    · obtain ⟨c, ns, j, dg, fo, gg⟩ := g4
      obtain ⟨c3, nc, hc3⟩ := hc3
      obtain ⟨_, _, _, _, _, gg2⟩ := cl4 c3 hc3
      have gc : c ≠ l := by
        rw [bag_uniq gg gg2]
        exact nc
      exact ⟨c, ns, j, dg, fo, by rw [upd_ne hlb.symm]; exact u5 _ _ gg.hb, by rw [upd_ne gc]; exact u5 _ _ gg.hc, gg.dg0, gg.fo0, gg.fo1⟩
    · obtain ⟨c3, nc, hc3⟩ := hc3
      obtain ⟨ns, j, dg, fo, ct', gg⟩ := cl4 c3 hc3
      exact ⟨c3, nc, ns, j, dg, fo, ct', by rw [upd_ne hlb.symm]; exact u5 _ _ gg.hb, by rw [upd_ne nc]; exact u5 _ _ gg.hc, gg.dg0, gg.fo0, gg.fo1⟩
  · rintro σ H' ⟨key, o5, xs, ps, rfl, hl, hx, hpl, hasc, hle, hmk, g3, k3, hc3⟩
    exact ⟨_, rfl, q l xs ps H' nl0 hl hx hpl hasc (by rw [hmk]; exact mk_nodup hn) g3 k3⟩
end
end K40
namespace K40
open PySem PySem.Spec PyProof.Rows L2 Xc Dt
/-! ### _law_spoiled -/
/-- no told tree, wherever it stands in one -/
def BadD (d : D) : Prop := (∀ lo hi, D.ok d lo hi = false) ∨ ¬ (D.marks d).Nodup
theorem bad_valid {d : D} (h : BadD d) : ¬ Valid d := fun v => by
  rcases h with h | h
  · have e := h none none
    rw [v.1] at e
    cases e
  · exact h v.2
theorem ok_node (l r : D) (k m : Int) (lo hi : Option Int) : D.ok (.tup [l, itemD (k, m), r]) lo hi = ((loOk k lo && hiOk k hi) && (D.ok l lo (some k) && D.ok r (some k) hi)) := by
  rw [D.ok]
  rfl
theorem marks_node (l r : D) (k m : Int) : D.marks (.tup [l, itemD (k, m), r]) = m :: (D.marks l ++ D.marks r) := by
  rw [D.marks]
  rfl
theorem wt_node (l r i : D) : D.wt (.tup [l, i, r]) = 1 + D.wt l + D.wt r := by rw [D.wt]
theorem bad_left {l r : D} {k m : Int} (h : BadD l) : BadD (.tup [l, itemD (k, m), r]) := by
  rcases h with h | h
  · exact .inl fun lo hi => by rw [ok_node, h, Bool.false_and, Bool.and_false]
  · refine .inr fun n => h ?_
    rw [marks_node] at n
    exact (List.nodup_append.mp (List.nodup_cons.mp n).2).1
theorem bad_right {l r : D} {k m : Int} (h : BadD r) : BadD (.tup [l, itemD (k, m), r]) := by
  rcases h with h | h
  · exact .inl fun lo hi => by rw [ok_node, h, Bool.and_false, Bool.and_false]
  · refine .inr fun n => h ?_
    rw [marks_node] at n
    exact (List.nodup_append.mp (List.nodup_cons.mp n).2).2.1
theorem bad_form {d : D} (h : D.node d = none) (n : d ≠ .non) : BadD d := .inl fun lo hi => D.ok_not h n lo hi
theorem bad_key {l : D} {k m m2 : Int} : BadD (.tup [l, itemD (k, m), .tup [.non, itemD (k, m2), .non]]) := .inl fun lo hi => by
  rw [ok_node, ok_node]
  have e : loOk k (some k) = false := decide_eq_false (Int.lt_irrefl k)
  rw [e, Bool.false_and, Bool.false_and, Bool.and_false, Bool.and_false]
theorem bad_mark {l : D} {k m k2 : Int} : BadD (.tup [l, itemD (k, m), .tup [.non, itemD (k2, m), .non]]) := .inr fun n => by
  rw [marks_node, marks_node] at n
  exact (List.nodup_cons.mp n).1 (List.mem_append_right _ List.mem_cons_self)
theorem wt_one {d : D} (h : ∀ l i r, d ≠ .tup [l, i, r]) : D.wt d = 1 := by
  unfold D.wt
  split
  · rename_i l i r
    exact absurd rfl (h l i r)
  · rfl
mutual
theorem is_kept {b : Addr} {H H' : Hp} {ct : Nat} (k : Kept b H H') (g : Bag H b ct) : ∀ {d : D} {v : V}, Is H d v → Is H' d v
  | .non, _, h => h
  | .bl _, _, h => h
  | .int _, _, h => h
  | .str _, _, h => h
  | .tup _, _, h => by
    obtain ⟨a, xs, e, q, r⟩ := h
    obtain ⟨kvs, eb⟩ := Bag.dict g
    exact ⟨a, xs, e, k _ _ q (fun z => by rw [z, eb] at q; cases q), are_kept k g r⟩
  | .lst _, _, h => by
    obtain ⟨a, xs, e, q, r⟩ := h
    obtain ⟨kvs, eb⟩ := Bag.dict g
    exact ⟨a, xs, e, k _ _ q (fun z => by rw [z, eb] at q; cases q), are_kept k g r⟩
  | .dct, _, h => by
    obtain ⟨a, e, q⟩ := h
    obtain ⟨c, ns, i, dg, fo, gg⟩ := g
    refine ⟨a, e, k _ _ q (fun z => ?_)⟩
    rw [z, gg.hb] at q
    cases q
theorem are_kept {b : Addr} {H H' : Hp} {ct : Nat} (k : Kept b H H') (g : Bag H b ct) : ∀ {ds : List D} {xs : List V}, Are H ds xs → Are H' ds xs
  | [], _, h => h
  | _ :: _, _, h => by
    obtain ⟨x, r, e, q, t⟩ := h
    exact ⟨x, r, e, is_kept k g q, are_kept k g t⟩
end
theorem are4 {H : Hp} {d e f g : D} {x y z u : V} (h : Is H d x) (k : Is H e y) (l : Is H f z) (m : Is H g u) : Are H [d, e, f, g] [x, y, z, u] := ⟨x, [y, z, u], rfl, h, are3 k l m⟩
/-- the spoiled ones, by their number -/
def oddD (l r : D) (k m k2 m2 : Int) : List D := ([.lst [l, itemD (k, m), r], .tup [l, itemD (k, m)], .tup [l, itemD (k, m), r, .non], .tup [l, .lst [.int k, .int m], r]] ++ [.tup [l, .tup [.int k, .non], r], .tup [l, .tup [.bl true, .int m], r]]) ++
  [.tup [l, itemD (k, m), .tup []], .tup [itemD (k, m), itemD (k, m), r]] ++ [.tup [l, itemD (k, m), .tup [.non, itemD (k2, m2), .non]]]
theorem odd_bad {l r : D} {k m k2 m2 : Int} (h : k2 = k ∨ m2 = m) : ∀ d ∈ oddD l r k m k2 m2, BadD d ∧ D.wt d ≤ D.wt l + D.wt r + 6 := by
  intro d hd
  have wl := D.wt_pos l
  have wr := D.wt_pos r
  have one : ∀ {d : D}, (∀ l i r, d ≠ .tup [l, i, r]) → D.wt d ≤ D.wt l + D.wt r + 6 := fun h => by rw [wt_one h]; omega
  have w0 : D.wt .non = 1 := wt_one fun l i r z => by cases z
  simp only [oddD, List.cons_append, List.nil_append, List.mem_cons, List.not_mem_nil, or_false] at hd
  rcases hd with rfl | rfl | rfl | rfl | rfl | rfl | rfl | rfl | rfl
  · exact ⟨bad_form rfl (by intro z; cases z), one fun l i r z => by cases z⟩
  · exact ⟨bad_form rfl (by intro z; cases z), one fun l i r z => by cases z⟩
  · exact ⟨bad_form rfl (by intro z; cases z), one fun l i r z => by cases z⟩
  · exact ⟨bad_form rfl (by intro z; cases z), by rw [wt_node]; omega⟩
  · exact ⟨bad_form rfl (by intro z; cases z), by rw [wt_node]; omega⟩
  · exact ⟨bad_form rfl (by intro z; cases z), by rw [wt_node]; omega⟩
  · refine ⟨bad_right (bad_form rfl (by intro z; cases z)), ?_⟩
    rw [wt_node, wt_one (d := .tup []) (by intro l i r z; cases z)]
    omega
  · refine ⟨bad_left (bad_form rfl (by intro z; cases z)), ?_⟩
    rw [wt_node, wt_one (d := itemD (k, m)) (by intro l i r z; cases z)]
    omega
  · refine ⟨?_, by rw [wt_node, wt_node, w0]; omega⟩
    rcases h with rfl | rfl
    · exact bad_key
    · exact bad_mark
end K40
namespace K40
open PySem PySem.Spec PyProof.Rows L2 Xc Dt
section
variable {P : Program} {w : World} {K : PySem.W.Frag} {mg : Str → Option Value} {base : Heap} {f : Addr} {fd : FuncData}
def spSpoil (n : Nat) : Sp := fun vs H Q _ => ∃ (b : Addr) (ct : Nat) (t : T) (v : V), vs = [.ref b, v] ∧ t ≠ .nil ∧ Is H t.d v ∧ t.ht < n ∧ t.items.length ≤ 13 ∧ Bag H b ct ∧ ct + 2 * t.ht + 2 ≤ 2000 ∧
  ∀ (d : D) (v' : V) (H' : Hp) (ct' : Nat), Is H' d v' → BadD d → D.wt d ≤ 2 * t.items.length + 10 → Bag H' b ct' → ct' ≤ ct + 2 * t.ht + 2 → Kept b H H' → Q v' H'
theorem sc27 : FnScope ["bag", "tree", "left", "item", "right", "odd", "same"] ["bag", "tree"] (defScope (top 27)) := ⟨rfl, rfl, rfl, by decide +kernel, rfl, by decide +kernel, by decide +kernel⟩
theorem spoil_none {k : Nat} : FnOk P w K mg base CX0 k f fd ["bag", "tree"] (spSpoil 0) := by
  have no : ∀ vs H Q E, ¬ spSpoil 0 vs H Q E := fun vs H Q E h => by
    obtain ⟨b, ct, t, v, _, _, _, h1, _⟩ := h
    omega
  exact ⟨fun vs H Q E h => absurd h (no vs H Q E), fun A outer s H args us vs Q E _ _ _ _ h => absurd h (no vs H Q E)⟩
theorem spoil_step {n : Nat} {g : Addr} {gd : FuncData} (F : Fun K "_law_spoiled" "_law_spoiled" (top 27) f fd) (G : FnOk P w K mg base CX0 (n + 1) f fd ["bag", "tree"] (spSpoil n)) (b : Binds K fd ["bag", "tree"] []) (m : mg "_law_spoiled" = some (.ref f)) (mL : mg "list" = none)
    (R : FnOk P w K mg base CX0 1 g gd ["bag", "limit"] spDraw) (bR : Binds K gd ["bag", "limit"] []) (kR : PySem.W.keepIn K (.ref g) = true) (mR : mg "_law_draw" = some (.ref g)) :
    FnOk P w K mg base CX0 (n + 1 + 1) f fd ["bag", "tree"] (spSpoil (n + 1)) := by
  refine F.ok sc27 (fun vs H Q E h => ?_) (fun cdv A outer s H vs Q E hr h => ?_)
  · obtain ⟨b, ct, t, v, rfl, _⟩ := h
    rfl
  obtain ⟨bg, ct, t, v, rfl, hnil, hv, hn, hl, g0, hct, q⟩ := h
  have r1 : Room 1 (A.deeper (envOfC "_law_spoiled" (defScope (top 27)) s.heap.objs.size f cdv)) := hr.mono (by omega)
  refine ⟨_, pss_cons (ps_asg (pv 1) (pg_tup rfl (pgs_cons (pg_name (i := 2) sc27.nd rfl (.inl rfl)) (pgs_cons (pg_name (i := 3) sc27.nd rfl (.inl rfl)) (pgs_cons (pg_name (i := 4) sc27.nd rfl (.inl rfl)) pgs_nil)))))
    (C8.pss_cut (ps_if (PW.pt (pw_and (pt_cmpR op_notN (pv 2) pe_non (nomark _)) (pw_and1 (pt_cmpR op_eq (pe_call R r1 rfl mR kR bR .nil pass0 (pa_cons (pv 0) (pa_cons pe_int pa_nil))) pe_int (nomark _)))))
      (pss_one (ps_ret (pe_tup (pa_cons (pe_call G hr rfl m F.kp b .nil pass0 (pa_cons (pv 0) (pa_cons (pv 2) pa_nil))) (pa_cons (pv 3) (pa_cons (pv 4) pa_nil)))))) pss_nil)
    (C8.pss_cut (ps_if (PW.pt (pw_and (pt_cmpR op_notN (pv 4) pe_non (nomark _)) (pw_and1 (pt_cmpR op_eq (pe_call R r1 rfl mR kR bR .nil pass0 (pa_cons (pv 0) (pa_cons pe_int pa_nil))) pe_int (nomark _)))))
      (pss_one (ps_ret (pe_tup (pa_cons (pv 2) (pa_cons (pv 3) (pa_cons (pe_call G hr rfl m F.kp b .nil pass0 (pa_cons (pv 0) (pa_cons (pv 4) pa_nil))) pa_nil)))))) pss_nil)
    (pss_cons (ps_set (i := 5) sc27.nd rfl (.inl rfl) (pe_lst (pa_cons (pe_lst (pa_cons (pv 2) (pa_cons (pv 3) (pa_cons (pv 4) pa_nil)))) (pa_cons (pe_tup (pa_cons (pv 2) (pa_cons (pv 3) pa_nil))) (pa_cons (pe_tup (pa_cons (pv 2) (pa_cons (pv 3) (pa_cons (pv 4) (pa_cons pe_non pa_nil)))))
        (pa_cons (pe_tup (pa_cons (pv 2) (pa_cons (pe_callTy call_list_of (by rfl) mL (by decide +kernel) (pa_cons (pv 3) pa_nil)) (pa_cons (pv 4) pa_nil)))) pa_nil))))))
    (pss_cons (ps_set (i := 5) sc27.nd rfl (.inl rfl) (pe_op op_cat (pv 5) (pe_lst (pa_cons (pe_tup (pa_cons (pv 2) (pa_cons (pe_tup (pa_cons (pe_ix (show IxR _ (rIxT K) from ix_tup) (pv 3) pe_int (fun _ _ => rfl)) (pa_cons pe_non pa_nil))) (pa_cons (pv 4) pa_nil))))
        (pa_cons (pe_tup (pa_cons (pv 2) (pa_cons (pe_tup (pa_cons pe_bl (pa_cons (pe_ix (show IxR _ (rIxT K) from ix_tup) (pv 3) pe_int (fun _ _ => rfl)) pa_nil))) (pa_cons (pv 4) pa_nil)))) pa_nil)))))
    (pss_cons (ps_set (i := 5) sc27.nd rfl (.inl rfl) (pe_op op_cat (pv 5) (pe_lst (pa_cons (pe_tup (pa_cons (pv 2) (pa_cons (pv 3) (pa_cons (pe_tup pa_nil) pa_nil)))) (pa_cons (pe_tup (pa_cons (pv 3) (pa_cons (pv 3) (pa_cons (pv 4) pa_nil)))) pa_nil)))))
    (pss_cons (ps_set (i := 6) sc27.nd rfl (.inl rfl) (pe_ix (show IxR _ (rIxL K) from ix_list) (pe_lst (pa_cons (pe_tup (pa_cons (pe_ix (show IxR _ (rIxT K) from ix_tup) (pv 3) pe_int (fun _ _ => rfl)) (pa_cons (pe_op op_add (pe_ix (show IxR _ (rIxT K) from ix_tup) (pv 3) pe_int (fun _ _ => rfl)) pe_int) pa_nil)))
        (pa_cons (pe_tup (pa_cons (pe_op op_add (pe_ix (show IxR _ (rIxT K) from ix_tup) (pv 3) pe_int (fun _ _ => rfl)) (pe_op op_pow pe_int pe_int)) (pa_cons (pe_ix (show IxR _ (rIxT K) from ix_tup) (pv 3) pe_int (fun _ _ => rfl)) pa_nil))) pa_nil)))
        (pe_call R r1 rfl mR kR bR .nil pass0 (pa_cons (pv 0) (pa_cons pe_int pa_nil))) (fun _ _ => rfl)))
    (pss_one (ps_ret (pe_ix (show IxR _ (rIxL K) from ix_list) (pe_op op_cat (pv 5) (pe_lst (pa_cons (pe_tup (pa_cons (pv 2) (pa_cons (pv 3) (pa_cons (pe_tup (pa_cons pe_non (pa_cons (pv 6) (pa_cons pe_non pa_nil)))) pa_nil)))) pa_nil)))
        (pe_call R r1 rfl mR kR bR .nil pass0 (pa_cons (pv 0) (pa_cons pe_int pa_nil))) (fun _ _ => rfl)))))))))), ?_⟩
  cases t with
  | nil => exact absurd rfl hnil
  | node l k mm r =>
    obtain ⟨ax, xs0, rfl, hax, xl, r0, rfl, il, xi, r1', rfl, ii, xr, r2', rfl, ir, hz⟩ := id hv
    cases (show r2' = [] from hz)
    have hht : (T.node l k mm r).ht = 1 + max l.ht r.ht := rfl
    rw [items_node] at hl q
    rw [hht] at hn hct q
    have wl := T.d_wt l
    have wr := T.d_wt r
    refine ⟨_, rfl, ax, _, rfl, SqT.of hax, rfl, _, _, rfl, _, _, rfl, _, _, rfl, rfl, ?_⟩
    have st : ∀ {ct2 : Nat} {H2 : Hp}, Bag H2 bg ct2 → Kept bg H H2 → Is H2 l.d xl ∧ Is H2 (itemD (k, mm)) xi ∧ Is H2 r.d xr := fun g2 k2 => ⟨is_kept k2 g0 il, is_kept k2 g0 ii, is_kept k2 g0 ir⟩
    refine ⟨fun σ H2 => ∃ ct2, σ = [some (.ref bg), some (.ref ax), some xl, some xi, some xr, none, none] ∧ Bag H2 bg ct2 ∧ ct2 ≤ ct + 1 ∧ Kept bg H H2, ?_, ?_⟩
    · refine ⟨_, rfl, rfl, _, rfl, ?_⟩
      cases l with
      | nil =>
        cases (show xl = V.non from il)
        refine ifF rfl ?_
        exact ifF rfl ⟨ct, rfl, g0, by omega, fun x o e _ => e⟩
      | node l1 l2 l3 l4 =>
        have hxl : decide (xl ≠ V.non) = true := by
          obtain ⟨a, xs, rfl, _⟩ := il
          rfl
        have hb : (!decide (xl = V.non)) = true := by
          obtain ⟨a, xs, rfl, _⟩ := il
          rfl
        refine ifT hb ?_
        refine ⟨_, rfl, bg, ct, 2, rfl, g0, (by omega), (by decide), log_small (by decide) (by decide), fun v1 H1 v0 v2 g1 k1 _ => ?_⟩
        refine ⟨rfl, _, rfl, ?_⟩
        refine if2 (fun c => ?_) (fun c => ?_)
        · obtain ⟨i1, i2, i3⟩ := st g1 k1
          refine ⟨_, rfl, _, rfl, bg, ct + 1, .node l1 l2 l3 l4, xl, rfl, (by intro z; cases z), i1, (by omega), (by omega), g1, (by omega), fun d v' H3 ct' di bd wd g3 hc k3 => ?_⟩
          refine ⟨_, rfl, _, rfl, (by show 3 ≤ sizeLine; decide), fun p np => ?_⟩
          have u4 := same_new np (.tup [v', xi, xr])
          have k4 := k3.trans (Kept.of u4)
          refine q (.tup [d, itemD (k, mm), r.d]) (.ref p) _ ct' ⟨p, _, rfl, upd_same, are3 (di.same u4) (is_kept k4 g1 i2) (is_kept k4 g1 i3)⟩ (bad_left bd) ?_ (g3.same u4) (by omega) (k1.trans k4)
          rw [wt_node, wr]
          omega
        · exact ⟨ct + 1, rfl, g1, by omega, k1⟩
    rintro σ H2 ⟨ct2, rfl, g2, hc2, k2⟩
    obtain ⟨il2, ii2, ir2⟩ := st g2 k2
    refine ⟨fun σ H3 => ∃ ct3, σ = [some (.ref bg), some (.ref ax), some xl, some xi, some xr, none, none] ∧ Bag H3 bg ct3 ∧ ct3 ≤ ct + 2 ∧ Kept bg H H3, ?_, ?_⟩
    · refine ⟨_, rfl, rfl, _, rfl, ?_⟩
      cases r with
      | nil =>
        cases (show xr = V.non from ir)
        refine ifF rfl ?_
        exact ifF rfl ⟨ct2, rfl, g2, by omega, k2⟩
      | node l1 l2 l3 l4 =>
        have hb : (!decide (xr = V.non)) = true := by
          obtain ⟨a, xs, rfl, _⟩ := ir
          rfl
        refine ifT hb ?_
        refine ⟨_, rfl, bg, ct2, 2, rfl, g2, (by omega), (by decide), log_small (by decide) (by decide), fun v1 H1 v0 v2 g1 k1 _ => ?_⟩
        refine ⟨rfl, _, rfl, ?_⟩
        refine if2 (fun c => ?_) (fun c => ?_)
        · obtain ⟨i1, i2, i3⟩ := st g1 (k2.trans k1)
          refine ⟨_, rfl, _, rfl, _, rfl, _, rfl, bg, ct2 + 1, .node l1 l2 l3 l4, xr, rfl, (by intro z; cases z), i3, (by omega), (by omega), g1, (by omega), fun d v' H3 ct' di bd wd g3 hc k3 => ?_⟩
          refine ⟨(by show 3 ≤ sizeLine; decide), fun p np => ?_⟩
          have u4 := same_new np (.tup [xl, xi, v'])
          have k4 := k3.trans (Kept.of u4)
          refine q (.tup [l.d, itemD (k, mm), d]) (.ref p) _ ct' ⟨p, _, rfl, upd_same, are3 (is_kept k4 g1 i1) (is_kept k4 g1 i2) (di.same u4)⟩ (bad_right bd) ?_ (g3.same u4) (by omega) ((k2.trans k1).trans k4)
          rw [wt_node, wl]
          omega
        · exact ⟨ct2 + 1, rfl, g1, by omega, k2.trans k1⟩
    rintro σ H3 ⟨ct3, rfl, g3, hc3, k3⟩
    obtain ⟨jl, ji, jr⟩ := st g3 k3
    -- the list of the spoiled ones
    have wl' := T.d_wt l
    obtain ⟨ai, rfl, hai⟩ := (pairAt_is ji).2
    have sz3 : 3 ≤ sizeLine := by decide
    have sz4 : 4 ≤ sizeLine := by decide
    have sz2 : 2 ≤ sizeLine := by decide
    have sz1 : 1 ≤ sizeLine := by decide
    have sz0 : 0 ≤ sizeLine := by decide
    have S0 : Same H3 H3 := Same.refl H3
    refine ⟨_, rfl, _, rfl, _, rfl, sz3, fun p0 n0 => ?_⟩
    have u0 := same_new n0 (.lst [xl, .ref ai, xr])
    have m0 : (upd H3 p0 (.lst [xl, .ref ai, xr])) p0 = some (.lst [xl, .ref ai, xr]) := upd_same
    generalize upd H3 p0 (.lst [xl, .ref ai, xr]) = G0 at u0 m0 ⊢
    have d0 : Is G0 (.lst [l.d, itemD (k, mm), r.d]) (.ref p0) := ⟨p0, _, rfl, m0, are3 (jl.same u0) (ji.same u0) (jr.same u0)⟩
    have S1 := S0.trans u0
    refine ⟨_, rfl, _, rfl, sz2, fun p1 n1 => ?_⟩
    have u1 := same_new n1 (.tup [xl, .ref ai])
    have m1 : (upd G0 p1 (.tup [xl, .ref ai])) p1 = some (.tup [xl, .ref ai]) := upd_same
    generalize upd G0 p1 (.tup [xl, .ref ai]) = G1 at u1 m1 ⊢
    have S2 := S1.trans u1
    have d1 : Is G1 (.tup [l.d, itemD (k, mm)]) (.ref p1) := ⟨p1, _, rfl, m1, are2 (jl.same S2) (ji.same S2)⟩
    refine ⟨_, rfl, _, rfl, _, rfl, sz4, fun p2 n2 => ?_⟩
    have u2 := same_new n2 (.tup [xl, .ref ai, xr, .non])
    have m2 : (upd G1 p2 (.tup [xl, .ref ai, xr, .non])) p2 = some (.tup [xl, .ref ai, xr, .non]) := upd_same
    generalize upd G1 p2 (.tup [xl, .ref ai, xr, .non]) = G2 at u2 m2 ⊢
    have S3 := S2.trans u2
    have d2 : Is G2 (.tup [l.d, itemD (k, mm), r.d, .non]) (.ref p2) := ⟨p2, _, rfl, m2, are4 (jl.same S3) (ji.same S3) (jr.same S3) rfl⟩
    refine ⟨_, rfl, _, rfl, ai, _, rfl, .inr (SqT.of (S3 _ _ hai)), fun p3 n3 => ?_⟩
    have u3 := same_new n3 (.lst [.int k, .int mm])
    have m3 : (upd G2 p3 (.lst [.int k, .int mm])) p3 = some (.lst [.int k, .int mm]) := upd_same
    have d3' : Is (upd G2 p3 (.lst [.int k, .int mm])) (.lst [.int k, .int mm]) (.ref p3) := ⟨p3, _, rfl, m3, are2 rfl rfl⟩
    refine ⟨_, rfl, sz3, fun p4 n4 => ?_⟩
    generalize upd G2 p3 (.lst [.int k, .int mm]) = G3 at u3 d3' n4 ⊢
    have S4 := S3.trans u3
    have u4 := same_new n4 (.tup [xl, .ref p3, xr])
    have m4 : (upd G3 p4 (.tup [xl, .ref p3, xr])) p4 = some (.tup [xl, .ref p3, xr]) := upd_same
    generalize upd G3 p4 (.tup [xl, .ref p3, xr]) = G4 at u4 m4 ⊢
    have S5 := S4.trans u4
    have d3 : Is G4 (.tup [l.d, .lst [.int k, .int mm], r.d]) (.ref p4) := ⟨p4, _, rfl, m4, are3 (jl.same S5) (d3'.same u4) (jr.same S5)⟩
    refine ⟨sz4, fun q1 nq1 => ?_⟩
    have v1 := same_new nq1 (.lst [.ref p0, .ref p1, .ref p2, .ref p4])
    have mq1 : (upd G4 q1 (.lst [.ref p0, .ref p1, .ref p2, .ref p4])) q1 = some (.lst [.ref p0, .ref p1, .ref p2, .ref p4]) := upd_same
    generalize upd G4 q1 (.lst [.ref p0, .ref p1, .ref p2, .ref p4]) = G5 at v1 mq1 ⊢
    have S6 := S5.trans v1
    have ds1 : Are G5 [.lst [l.d, itemD (k, mm), r.d], .tup [l.d, itemD (k, mm)], .tup [l.d, itemD (k, mm), r.d, .non], .tup [l.d, .lst [.int k, .int mm], r.d]] [.ref p0, .ref p1, .ref p2, .ref p4] :=
      are4 (d0.same (u1.trans (u2.trans (u3.trans (u4.trans v1))))) (d1.same (u2.trans (u3.trans (u4.trans v1)))) (d2.same (u3.trans (u4.trans v1))) (d3.same v1)
    -- the next two
    refine ⟨_, rfl, _, rfl, _, rfl, ai, _, _, _, rfl, rfl, SqT.of (S6 _ _ hai), atI_nat (j := 0) rfl, sz2, fun p5 n5 => ?_⟩
    have u5 := same_new n5 (.tup [.int k, .non])
    have d5' : Is (upd G5 p5 (.tup [.int k, .non])) (.tup [.int k, .non]) (.ref p5) := ⟨p5, _, rfl, upd_same, are2 rfl rfl⟩
    refine ⟨_, rfl, sz3, fun p6 n6 => ?_⟩
    generalize upd G5 p5 (.tup [.int k, .non]) = G6 at u5 d5' n6 ⊢
    have S7 := S6.trans u5
    have u6 := same_new n6 (.tup [xl, .ref p5, xr])
    have m6 : (upd G6 p6 (.tup [xl, .ref p5, xr])) p6 = some (.tup [xl, .ref p5, xr]) := upd_same
    generalize upd G6 p6 (.tup [xl, .ref p5, xr]) = G7 at u6 m6 ⊢
    have S8 := S7.trans u6
    have d4 : Is G7 (.tup [l.d, .tup [.int k, .non], r.d]) (.ref p6) := ⟨p6, _, rfl, m6, are3 (jl.same S8) (d5'.same u6) (jr.same S8)⟩
    refine ⟨_, rfl, _, rfl, ai, _, _, _, rfl, rfl, SqT.of (S8 _ _ hai), atI_nat (j := 1) rfl, sz2, fun p7 n7 => ?_⟩
    have u7 := same_new n7 (.tup [.bl true, .int mm])
    have d7' : Is (upd G7 p7 (.tup [.bl true, .int mm])) (.tup [.bl true, .int mm]) (.ref p7) := ⟨p7, _, rfl, upd_same, are2 rfl rfl⟩
    refine ⟨_, rfl, sz3, fun p8 n8 => ?_⟩
    generalize upd G7 p7 (.tup [.bl true, .int mm]) = G8 at u7 d7' n8 ⊢
    have S9 := S8.trans u7
    have u8 := same_new n8 (.tup [xl, .ref p7, xr])
    have m8 : (upd G8 p8 (.tup [xl, .ref p7, xr])) p8 = some (.tup [xl, .ref p7, xr]) := upd_same
    generalize upd G8 p8 (.tup [xl, .ref p7, xr]) = G9 at u8 m8 ⊢
    have S10 := S9.trans u8
    have d5 : Is G9 (.tup [l.d, .tup [.bl true, .int mm], r.d]) (.ref p8) := ⟨p8, _, rfl, m8, are3 (jl.same S10) (d7'.same u8) (jr.same S10)⟩
    refine ⟨sz2, fun q2 nq2 => ?_⟩
    have v2 := same_new nq2 (.lst [.ref p6, .ref p8])
    have mq2 : (upd G9 q2 (.lst [.ref p6, .ref p8])) q2 = some (.lst [.ref p6, .ref p8]) := upd_same
    have keepA := (((u5.trans u6).trans u7).trans u8).trans v2
    have mq1' := keepA _ _ mq1
    generalize upd G9 q2 (.lst [.ref p6, .ref p8]) = G10 at v2 mq2 keepA mq1' ⊢
    have S11 := S10.trans v2
    refine ⟨q1, q2, _, _, rfl, rfl, mq1', mq2, (by show 6 ≤ sizeLine; decide), fun q3 nq3 => ?_⟩
    have v3 := same_new nq3 (.lst ([.ref p0, .ref p1, .ref p2, .ref p4] ++ [.ref p6, .ref p8]))
    have mq3 : (upd G10 q3 (.lst ([.ref p0, .ref p1, .ref p2, .ref p4] ++ [.ref p6, .ref p8]))) q3 = some (.lst ([.ref p0, .ref p1, .ref p2, .ref p4] ++ [.ref p6, .ref p8])) := upd_same
    generalize upd G10 q3 (.lst ([.ref p0, .ref p1, .ref p2, .ref p4] ++ [.ref p6, .ref p8])) = G11 at v3 mq3 ⊢
    have S12 := S11.trans v3
    have ds2 := (ds1.same (keepA.trans v3)).append (are2 (d4.same ((u7.trans u8).trans (v2.trans v3))) (d5.same (v2.trans v3)))
    -- the next two
    refine ⟨_, rfl, _, rfl, _, rfl, sz0, fun p9 n9 => ?_⟩
    have u9 := same_new n9 (.tup [])
    have d9' : Is (upd G11 p9 (.tup [])) (.tup []) (.ref p9) := ⟨p9, _, rfl, upd_same, rfl⟩
    refine ⟨sz3, fun p10 n10 => ?_⟩
    generalize upd G11 p9 (.tup []) = G12 at u9 d9' n10 ⊢
    have S13 := S12.trans u9
    have u10 := same_new n10 (.tup [xl, .ref ai, .ref p9])
    have m10 : (upd G12 p10 (.tup [xl, .ref ai, .ref p9])) p10 = some (.tup [xl, .ref ai, .ref p9]) := upd_same
    generalize upd G12 p10 (.tup [xl, .ref ai, .ref p9]) = G13 at u10 m10 ⊢
    have S14 := S13.trans u10
    have d6 : Is G13 (.tup [l.d, itemD (k, mm), .tup []]) (.ref p10) := ⟨p10, _, rfl, m10, are3 (jl.same S14) (ji.same S14) (d9'.same u10)⟩
    refine ⟨_, rfl, _, rfl, _, rfl, sz3, fun p11 n11 => ?_⟩
    have u11 := same_new n11 (.tup [.ref ai, .ref ai, xr])
    have m11 : (upd G13 p11 (.tup [.ref ai, .ref ai, xr])) p11 = some (.tup [.ref ai, .ref ai, xr]) := upd_same
    generalize upd G13 p11 (.tup [.ref ai, .ref ai, xr]) = G14 at u11 m11 ⊢
    have S15 := S14.trans u11
    have d7 : Is G14 (.tup [itemD (k, mm), itemD (k, mm), r.d]) (.ref p11) := ⟨p11, _, rfl, m11, are3 (ji.same S15) (ji.same S15) (jr.same S15)⟩
    refine ⟨sz2, fun q4 nq4 => ?_⟩
    have v4 := same_new nq4 (.lst [.ref p10, .ref p11])
    have mq4 : (upd G14 q4 (.lst [.ref p10, .ref p11])) q4 = some (.lst [.ref p10, .ref p11]) := upd_same
    have keepB := ((u9.trans u10).trans u11).trans v4
    have mq3' := keepB _ _ mq3
    generalize upd G14 q4 (.lst [.ref p10, .ref p11]) = G15 at v4 mq4 keepB mq3' ⊢
    have S16 := S15.trans v4
    refine ⟨q3, q4, _, _, rfl, rfl, mq3', mq4, (by show 8 ≤ sizeLine; decide), fun q5 nq5 => ?_⟩
    have v5 := same_new nq5 (.lst (([.ref p0, .ref p1, .ref p2, .ref p4] ++ [.ref p6, .ref p8]) ++ [.ref p10, .ref p11]))
    have mq5 : (upd G15 q5 (.lst (([.ref p0, .ref p1, .ref p2, .ref p4] ++ [.ref p6, .ref p8]) ++ [.ref p10, .ref p11]))) q5 = some (.lst (([.ref p0, .ref p1, .ref p2, .ref p4] ++ [.ref p6, .ref p8]) ++ [.ref p10, .ref p11])) := upd_same
    generalize upd G15 q5 (.lst (([.ref p0, .ref p1, .ref p2, .ref p4] ++ [.ref p6, .ref p8]) ++ [.ref p10, .ref p11])) = G16 at v5 mq5 ⊢
    have S17 := S16.trans v5
    have ds3 := (ds2.same (keepB.trans v5)).append (are2 (d6.same (u11.trans (v4.trans v5))) (d7.same (v4.trans v5)))
    -- the item that is told twice
    refine ⟨_, rfl, ai, _, _, _, rfl, rfl, SqT.of (S17 _ _ hai), atI_nat (j := 0) rfl, _, rfl, ai, _, _, _, rfl, rfl, SqT.of (S17 _ _ hai), atI_nat (j := 1) rfl, _, _, rfl, rfl, sz2, fun p12 n12 => ?_⟩
    have u12 := same_new n12 (.tup [.int k, .int (mm + 5000)])
    have m12 : (upd G16 p12 (.tup [.int k, .int (mm + 5000)])) p12 = some (.tup [.int k, .int (mm + 5000)]) := upd_same
    generalize upd G16 p12 (.tup [.int k, .int (mm + 5000)]) = G17 at u12 m12 ⊢
    have S18 := S17.trans u12
    refine ⟨_, rfl, ai, _, _, _, rfl, rfl, SqT.of (S18 _ _ hai), atI_nat (j := 0) rfl, _, _, rfl, rfl, ⟨by decide, by decide, by decide⟩, _, _, rfl, rfl, _, rfl, ai, _, _, _, rfl, rfl, SqT.of (S18 _ _ hai), atI_nat (j := 1) rfl, sz2, fun p13 n13 => ?_⟩
    have u13 := same_new n13 (.tup [.int (k + (10 : Int) ^ ((40 : Int)).toNat), .int mm])
    have m13 : (upd G17 p13 (.tup [.int (k + (10 : Int) ^ ((40 : Int)).toNat), .int mm])) p13 = some (.tup [.int (k + (10 : Int) ^ ((40 : Int)).toNat), .int mm]) := upd_same
    generalize hbig : (10 : Int) ^ ((40 : Int)).toNat = big at u13 m13 ⊢
    generalize upd G17 p13 (.tup [.int (k + big), .int mm]) = G18 at u13 m13 ⊢
    have S19 := S18.trans u13
    refine ⟨sz2, fun q6 nq6 => ?_⟩
    have v6 := same_new nq6 (.lst [.ref p12, .ref p13])
    have mq6 : (upd G18 q6 (.lst [.ref p12, .ref p13])) q6 = some (.lst [.ref p12, .ref p13]) := upd_same
    generalize upd G18 q6 (.lst [.ref p12, .ref p13]) = G19 at v6 mq6 ⊢
    have S20 := S19.trans v6
    have i12 : Is G19 (itemD (k, mm + 5000)) (.ref p12) := is_pair (p := (k, mm + 5000)) (v6 _ _ (u13 _ _ m12))
    have i13 : Is G19 (itemD (k + big, mm)) (.ref p13) := is_pair (p := (k + big, mm)) (v6 _ _ m13)
    have g19 : Bag G19 bg ct3 := g3.same S20
    have hlb : ∀ {x : Addr} {H : Hp} {xs : List V} {c : Nat}, H x = some (.lst xs) → Bag H bg c → x ≠ bg := fun h g z => by
      obtain ⟨kvs, e⟩ := Bag.dict g
      rw [z, e] at h
      cases h
    refine ⟨_, rfl, bg, ct3, 2, rfl, g19, (by omega), (by decide), log_small (by decide) (by decide), fun w1 G20 w0 w2 g20 k20 _ => ?_⟩
    have mq6' := k20 _ _ mq6 (hlb mq6 g19)
    obtain ⟨ps, k2, m2', hat, isame, hor⟩ : ∃ (ps : Addr) (k2 m2' : Int), atI [V.ref p12, .ref p13] w1 = some (.ref ps) ∧ Is G20 (itemD (k2, m2')) (.ref ps) ∧ (k2 = k ∨ m2' = mm) := by
      obtain ⟨j, rfl⟩ := Int.eq_ofNat_of_zero_le w0
      obtain rfl | rfl := (by omega : j = 0 ∨ j = 1)
      · exact ⟨p12, k, mm + 5000, atI_nat (j := 0) rfl, is_kept k20 g19 i12, .inl rfl⟩
      · exact ⟨p13, k + big, mm, atI_nat (j := 1) rfl, is_kept k20 g19 i13, .inr rfl⟩
    refine ⟨q6, _, _, _, rfl, rfl, SqL.of mq6', hat, ?_⟩
    have k21 : Kept bg G16 G20 := (Kept.of ((u12.trans u13).trans v6)).trans k20
    have g16 : Bag G16 bg ct3 := g3.same S17
    have mq5' := k21 _ _ mq5 (hlb mq5 g16)
    have ds4 := are_kept k21 g16 ds3
    have jl4 := is_kept k21 g16 (jl.same S17)
    have ji4 := is_kept k21 g16 (ji.same S17)
    refine ⟨_, rfl, _, rfl, _, rfl, _, rfl, sz3, fun p14 n14 => ?_⟩
    have u14 := same_new n14 (.tup [.non, .ref ps, .non])
    have d14' : Is (upd G20 p14 (.tup [.non, .ref ps, .non])) (.tup [.non, itemD (k2, m2'), .non]) (.ref p14) := ⟨p14, _, rfl, upd_same, are3 rfl (isame.same u14) rfl⟩
    refine ⟨sz3, fun p15 n15 => ?_⟩
    generalize upd G20 p14 (.tup [.non, .ref ps, .non]) = G21 at u14 d14' n15 ⊢
    have u15 := same_new n15 (.tup [xl, .ref ai, .ref p14])
    have m15 : (upd G21 p15 (.tup [xl, .ref ai, .ref p14])) p15 = some (.tup [xl, .ref ai, .ref p14]) := upd_same
    generalize upd G21 p15 (.tup [xl, .ref ai, .ref p14]) = G22 at u15 m15 ⊢
    have S22 := u14.trans u15
    have d8 : Is G22 (.tup [l.d, itemD (k, mm), .tup [.non, itemD (k2, m2'), .non]]) (.ref p15) := ⟨p15, _, rfl, m15, are3 (jl4.same S22) (ji4.same S22) (d14'.same u15)⟩
    refine ⟨sz1, fun q7 nq7 => ?_⟩
    have v7 := same_new nq7 (.lst [.ref p15])
    have mq7 : (upd G22 q7 (.lst [.ref p15])) q7 = some (.lst [.ref p15]) := upd_same
    have mq5'' := v7 _ _ (S22 _ _ mq5')
    generalize upd G22 q7 (.lst [.ref p15]) = G23 at v7 mq7 mq5'' ⊢
    refine ⟨q5, q7, _, _, rfl, rfl, mq5'', mq7, (by show 9 ≤ sizeLine; decide), fun q8 nq8 => ?_⟩
    have v8 := same_new nq8 (.lst ((([.ref p0, .ref p1, .ref p2, .ref p4] ++ [.ref p6, .ref p8]) ++ [.ref p10, .ref p11]) ++ [.ref p15]))
    have mq8 : (upd G23 q8 (.lst ((([.ref p0, .ref p1, .ref p2, .ref p4] ++ [.ref p6, .ref p8]) ++ [.ref p10, .ref p11]) ++ [.ref p15]))) q8 = some (.lst ((([.ref p0, .ref p1, .ref p2, .ref p4] ++ [.ref p6, .ref p8]) ++ [.ref p10, .ref p11]) ++ [.ref p15])) := upd_same
    generalize upd G23 q8 (.lst ((([.ref p0, .ref p1, .ref p2, .ref p4] ++ [.ref p6, .ref p8]) ++ [.ref p10, .ref p11]) ++ [.ref p15])) = G24 at v8 mq8 ⊢
    have S24 := S22.trans (v7.trans v8)
    have ds5 : Are G24 (oddD l.d r.d k mm k2 m2') _ := (ds4.same S24).append (are1 (d8.same (v7.trans v8)))
    have g24 := g20.same S24
    refine ⟨_, rfl, bg, ct3 + 1, 9, rfl, g24, (by omega), (by decide), log_small (by decide) (by decide), fun w3 G25 y0 y1 g25 k25 _ => ?_⟩
    have mq8' := k25 _ _ mq8 (hlb mq8 g24)
    have ds6 := are_kept k25 g24 ds5
    obtain ⟨j, rfl⟩ := Int.eq_ofNat_of_zero_le y0
    have hj : j < (oddD l.d r.d k mm k2 m2').length := by show j < 9; omega
    obtain ⟨vj, hvj, ij⟩ := ds6.at (List.getElem?_eq_getElem hj)
    obtain ⟨bd, wd⟩ := odd_bad (l := l.d) (r := r.d) (k := k) (m := mm) hor _ (List.getElem_mem hj)
    refine ⟨q8, _, _, vj, rfl, rfl, SqL.of mq8', atI_nat hvj, ?_⟩
    refine q _ vj G25 (ct3 + 1 + 1) ij bd (by rw [wl, wr] at wd; omega) g25 (by omega) ?_
    exact (k3.trans (Kept.of S17)).trans (k21.trans ((Kept.of S24).trans k25))
theorem spoil_all {g : Addr} {gd : FuncData} (F : Fun K "_law_spoiled" "_law_spoiled" (top 27) f fd) (b : Binds K fd ["bag", "tree"] []) (m : mg "_law_spoiled" = some (.ref f)) (mL : mg "list" = none)
    (R : FnOk P w K mg base CX0 1 g gd ["bag", "limit"] spDraw) (bR : Binds K gd ["bag", "limit"] []) (kR : PySem.W.keepIn K (.ref g) = true) (mR : mg "_law_draw" = some (.ref g)) : ∀ n : Nat, FnOk P w K mg base CX0 (n + 1) f fd ["bag", "tree"] (spSpoil n)
  | 0 => spoil_none
  | n + 1 => spoil_step F (spoil_all F b m mL R bR kR mR n) b m mL R bR kR mR
end
end K40
namespace K40
open PySem PySem.Spec PyProof.Rows L2 Xc Dt
section
variable {P : Program} {w : World} {K : PySem.W.Frag} {mg : Str → Option Value} {base : Heap} {f : Addr} {fd : FuncData}
/-! ### _law_refused -/
/-- what stands at g refuses v -/
def Act (P : Program) (w : World) (K : PySem.W.Frag) (mg : Str → Option Value) (base : Heap) (C g : Addr) (v : V) (H : Hp) : Prop :=
  ∃ (k : Nat) (gd : FuncData) (ps : List Str) (sp : Sp), k ≤ 25 ∧ FnOk P w K mg base (L2.CX P w) k g gd ps sp ∧ Binds K gd ps [] ∧ PySem.W.keepIn K (.ref g) = true ∧ ∀ Q E, Bad C v H E → sp [v] H Q E
def spRef (P : Program) (w : World) (K : PySem.W.Frag) (mg : Str → Option Value) (base : Heap) (C : Addr) : Sp := fun vs H Q _ => ∃ (g : Addr) (d : D) (v : V), vs = [.ref g, v] ∧ Is H d v ∧ Act P w K mg base C g v H ∧ ∀ H', Same H H' → Q (.bl true) H'
theorem Er.xf {U C : Addr} (R : Er P w K mg base U C) : XfC K C := ⟨R.eb.ga, R.eb.gg, R.eb.base, R.eb.hd⟩
theorem Er.ex {U C : Addr} (R : Er P w K mg base U C) : PySem.W.exmOne K (.ref C) (.ref C) = some true := by
  rw [R.eb.exm R.eb]
  simp
theorem sc29 : FnScope ["action", "value", "e"] ["action", "value"] (defScope (top 29)) := ⟨rfl, rfl, rfl, by decide +kernel, rfl, by decide +kernel, by decide +kernel⟩
theorem ok_refused {U C : Addr} (F : Fun K "_law_refused" "_law_refused" (top 29) f fd) (R : Er P w K mg base U C) : FnOk P w K mg base CX0 26 f fd ["action", "value"] (spRef P w K mg base C) := by
  refine F.ok sc29 (fun vs H Q E h => ?_) (fun cdv A outer s H vs Q E hr h => ?_)
  · obtain ⟨g, d, v, rfl, _⟩ := h
    rfl
  obtain ⟨g, d, v, rfl, hv, ⟨k, gd, ps, sp, hk, G, bG, kG, hsp⟩, q⟩ := h
  have rk : Room k (A.deeper (envOfC "_law_refused" (defScope (top 29)) s.heap.objs.size f cdv)) := hr.mono hk
  have hu64 : (A.deeper (envOfC "_law_refused" (defScope (top 29)) s.heap.objs.size f cdv)).units + 64 < cLine := by have := hr.un; omega
  refine ⟨_, pss_cons (ps_try_cl (out := fun _ _ _ _ => False) rfl rfl sc29.nd takes0 (fun W pn xe tk _ => pss_one (ps_expr (pe_callLS (i := 0) G rk rfl (by exact .inl rfl) kG bG (fun σ => passAt tk σ) (by exact (pa_cons (pv 1) pa_nil)))))
      (.named (i := 2) ⟨rfl, by decide, .inl R.mB⟩ rfl rfl (fun a oe cls d pn hz hf => pss_one (ps_ret (by exact (pe_cmpR (op_eqSelf hu64) (pe_xf R.xf R.fB hz hf (pv 2)) (pv 1) (nomark _))))) .nil)) (pss_one (ps_ret pe_bl)), ?_⟩
  refine ⟨rfl, _, rfl, hsp _ _ fun dd H' hdd s1 => ?_⟩
  refine ⟨true, R.ex, fun _ a na => ?_, fun z => Bool.noConfusion z⟩
  exact ⟨_, rfl, rfl, rfl, dd, _, v, rfl, hdd, rfl, _, rfl, rfl, ⟨d, hv.same s1⟩, q H' s1⟩
end
end K40
/-! != of lists, tuples and dicts whose values are tuples of flat items, both sides alike. -/
namespace Dt
open PySem PySem.Spec PyProof.Rows L2 Xc
/-- two tuples of the same flat items -/
def TwT (H : Hp) (x y : V) : Prop := ∃ (c c' : Addr) (zs : List V), x = .ref c ∧ y = .ref c' ∧ H c = some (.tup zs) ∧ H c' = some (.tup zs) ∧ ∀ v ∈ zs, Flat v
theorem twt_eqAt {X : Cx} {pins : List (Addr × Obj)} {σ : L2.St} {H : Hp} {s : Shared} {A : Around} (I : Inv X pins σ H s) (hu : A.units < cLine) {x y : V} {u v : Value} (rx : RelV x u) (ry : RelV y v) (t : TwT H x y) : SeqAt.EqAt A s u v true := by
  obtain ⟨c, c', zs, rfl, rfl, ec, ec', fl⟩ := t
  cases rx
  cases ry
  by_cases h : c = c'
  · subst h
    exact SeqAt.EqAt.same _
  · obtain ⟨us, r1, p1, _⟩ := I.tuple (SqT.of (K := X.K) ec)
    obtain ⟨ws, r2, p2, _⟩ := I.tuple (SqT.of (K := X.K) ec')
    have hsz : us.toArray.size = ws.toArray.size := by rw [List.size_toArray, List.size_toArray, ← r1.length, ← r2.length]
    have k := SeqAt.RcAt.tuples (e := fun _ => true) p1 p2 hu (fun j h1 h2 => by
      have k := items_same (A := A.in1) (s := s) fl r1 r2 j (by simpa using h1) (by simpa using h2)
      simpa using k)
    rw [show ((List.range (min us.toArray.size ws.toArray.size)).all fun _ => true) = true from List.all_eq_true.mpr fun _ _ => rfl, hsz, Bool.true_and, beq_self_eq_true] at k
    exact SeqAt.EqAt.of_refs h k
theorem twts_eqAt {X : Cx} {pins : List (Addr × Obj)} {σ : L2.St} {H : Hp} {s : Shared} {A : Around} (I : Inv X pins σ H s) (hu : A.units < cLine) : ∀ {xs ys : List V} {us ws : List Value}, Paired (TwT H) xs ys → Vals xs us → Vals ys ws → ∀ j (h1 : j < us.length) (h2 : j < ws.length), SeqAt.EqAt A s us[j] ws[j] true
  | _, _, _, _, .nil, .nil, .nil, j, h1, _ => absurd h1 (Nat.not_lt_zero j)
  | _, _, _, _, .cons t ts, .cons r1 t1, .cons r2 t2, j, h1, h2 => by
    cases j with
    | zero => exact twt_eqAt I hu r1 r2 t
    | succ j => exact twts_eqAt I hu ts t1 t2 j (Nat.lt_of_succ_lt_succ h1) (Nat.lt_of_succ_lt_succ h2)
def rNePr (K : PySem.W.Frag) : R2 := fun x y H Q => ∃ (a b : Addr) (xs ys : List V), x = .ref a ∧ y = .ref b ∧ ((SqL K H a xs ∧ SqL K H b ys) ∨ (SqT K H a xs ∧ SqT K H b ys)) ∧ Paired (TwT H) xs ys ∧ Q (.bl false) H
theorem op_nePr {X : Cx} (hu : X.A.units + 64 < cLine) : OpR X (compareOp .NotEq) (rNePr X.K) := by
  intro pins s σ H x y v u Q I rx ry h
  obtain ⟨a, b, xs, ys, rfl, rfl, hs, hp, q⟩ := h
  cases rx
  cases ry
  have hlen := Paired.length hp
  have all : ∀ n : Nat, ((List.range n).all fun _ => true) = true := fun n => List.all_eq_true.mpr fun _ _ => rfl
  have hu1 : X.A.in1.units < cLine := by show X.A.units + 1 < cLine; omega
  rcases hs with ⟨ha, hb⟩ | ⟨ha, hb⟩
  · obtain ⟨us, r1, p1, _⟩ := I.list ha
    obtain ⟨ws, r2, p2, _⟩ := I.list hb
    have hsz : us.toArray.size = ws.toArray.size := by rw [List.size_toArray, List.size_toArray, ← r1.length, ← r2.length, hlen]
    refine SeqAt.RcNeAt.lists (e := fun _ => true) p1.isList p2.isList hsz (show X.A.units < cLine by omega) (fun j h1 h2 => ?_) _ _ _ _ ?_
    · have k := twts_eqAt I hu1 hp r1 r2 j (by simpa using h1) (by simpa using h2)
      simpa using k
    · rw [all]
      exact ⟨.bl false, H, I, rfl, q⟩
  · obtain ⟨us, r1, p1, _⟩ := I.tuple ha
    obtain ⟨ws, r2, p2, _⟩ := I.tuple hb
    have hsz : us.toArray.size = ws.toArray.size := by rw [List.size_toArray, List.size_toArray, ← r1.length, ← r2.length, hlen]
    refine SeqAt.RcNeAt.tuples (e := fun _ => true) p1 p2 (show X.A.units < cLine by omega) (fun j h1 h2 => ?_) _ _ _ _ ?_
    · have k := twts_eqAt I hu1 hp r1 r2 j (by simpa using h1) (by simpa using h2)
      simpa using k
    · rw [all, hsz, Bool.true_and, beq_self_eq_true]
      exact ⟨.bl false, H, I, rfl, q⟩
/-- dicts whose values are such tuples -/
def rNeDr : R2 := fun x y H Q => ∃ (a b : Addr) (ks ls : List (Key × V)), x = .ref a ∧ y = .ref b ∧ H a = some (.dK ks) ∧ H b = some (.dK ls) ∧ ks.length = ls.length ∧ (∀ p ∈ ks, ∃ z, valV ls p.1 = some z ∧ TwT H p.2 z) ∧ Q (.bl false) H
theorem hits_tw {X : Cx} {pins : List (Addr × Obj)} {σ : L2.St} {H : Hp} {s : Shared} {A : Around} (I : Inv X pins σ H s) (hu : A.units < cLine) {ls : List (Key × V)} {vb : List (Key × Value)} (rb : KV ls vb) {ks : List (Key × V)} {va : List (Key × Value)} (ra : KV ks va) :
    (∀ p ∈ ks, ∃ z, valV ls p.1 = some z ∧ TwT H p.2 z) → PySem.W.KeqHits A s vb va true := by
  unfold KV at ra
  induction ra with
  | nil => intro _; exact .nil
  | @cons p q ps qs h t ih =>
    intro hp
    obtain ⟨h1, h2⟩ := h
    obtain ⟨z, e, f⟩ := hp p List.mem_cons_self
    have rr : RelO (some z) (valueAt vb p.1) := by rw [← e]; exact rb.val p.1
    obtain ⟨y, hy, ry⟩ := rr.some_of
    obtain ⟨k, v⟩ := q
    have h1' : p.1 = k := h1
    rw [h1'] at hy
    show PySem.W.KeqHits A s vb ((k, v) :: qs) (true && true)
    exact .hit hy (twt_eqAt I hu h2 ry f) (ih fun p' hm => hp p' (List.mem_cons_of_mem _ hm))
theorem op_neDr {X : Cx} (hu : X.A.units + 64 < cLine) : OpR X (compareOp .NotEq) rNeDr := by
  intro pins s σ H x y v u Q I rx ry h
  obtain ⟨a, b, ks, ls, rfl, rfl, ea, eb, hlen, hp, q⟩ := h
  obtain rfl : v = Value.ref a := rx
  obtain rfl : u = Value.ref b := ry
  obtain ⟨_, ya, va, ra, da⟩ := (show ObjOk X.prog X.w H s.heap a (.dK ks) from I.hok a _ ea)
  obtain ⟨_, yb, vb, rb, db⟩ := (show ObjOk X.prog X.w H s.heap b (.dK ls) from I.hok b _ eb)
  have hl : va.length = vb.length := by rw [← ra.length, ← rb.length]; exact hlen
  refine PySem.W.keq_ne (knd := mixKind X.prog X.w) (r := true) ya yb da db (show X.A.units < cLine by omega) (fun _ => hits_tw I (show X.A.in1.units < cLine by show X.A.units + 1 < cLine; omega) rb ra hp) ?_
  rw [hl, beq_self_eq_true, Bool.true_and]
  exact ⟨.bl false, H, I, rfl, q⟩
end Dt
namespace K40
open PySem PySem.Spec PyProof.Rows L2 Xc Dt
/-! ### what law needs to know -/
theorem asc_uniq {l m : List (Int × Int)} (hl : Asc l) (hm : Asc m) (p : l.Perm m) : l = m :=
  sorted_items (hl.imp fun {a b} h => SrtO.lexB_no.mpr (by omega)) hm p
theorem asc_keys {l : List (Int × Int)} (h : Asc l) : (l.map (·.1)).Nodup := by
  rw [List.Nodup, List.pairwise_map]
  exact h.imp fun {a b} h => by omega
theorem areI_of {ps qs : List (Int × Int)} (h : Asc ps) (m : (ps.map (·.2)).Nodup) (p : qs.Perm ps) {d : D} (e : D.its d = some (qs.map itemD)) : AreI d :=
  ⟨qs, e, (p.map _).nodup_iff.mpr (asc_keys h), (p.map _).nodup_iff.mpr m⟩
theorem ixN_nat {n j : Nat} (h : j < n) : ixN n ((j : Nat) : Int) = some j := by
  unfold ixN
  rw [if_pos (by omega), if_pos (by omega)]
  rfl
theorem are_set {H : Hp} : ∀ {ds : List D} {xs : List V} {i : Nat} {d : D} {x : V}, Are H ds xs → Is H d x → Are H (ds.set i d) (xs.set i x)
  | [], _, _, _, _, h, _ => by rw [show _ = [] from h]; rfl
  | d :: ds, _, 0, _, _, h, k => by
    obtain ⟨y, r, rfl, q, t⟩ := h
    exact ⟨_, r, rfl, k, t⟩
  | d :: ds, _, i + 1, _, _, h, k => by
    obtain ⟨y, r, rfl, q, t⟩ := h
    exact ⟨y, _, rfl, q, are_set t k⟩
theorem not_asc {ps : List (Int × Int)} (h : Asc ps) {i j : Nat} (hi : i < ps.length) (hj : j < ps.length) (ne : i ≠ j) : ¬ Asc ((ps.set i ps[j]).set j ps[i]) := fun a => by
  have a' := List.pairwise_iff_getElem.mp a
  have h' := List.pairwise_iff_getElem.mp h
  have ei : ((ps.set i ps[j]).set j ps[i])[i]'(by simpa using hi) = ps[j] := by
    rw [List.getElem_set_ne (by omega), List.getElem_set_self]
  have ej : ((ps.set i ps[j]).set j ps[i])[j]'(by simpa using hj) = ps[i] := by
    rw [List.getElem_set_self]
  rcases Nat.lt_or_gt_of_ne ne with l | l
  · have x := a' i j (by simpa using hi) (by simpa using hj) l
    rw [ei, ej] at x
    have y := h' i j hi hj l
    omega
  · have x := a' j i (by simpa using hj) (by simpa using hi) l
    rw [ei, ej] at x
    have y := h' j i hj hi l
    omega
/-- what of_items has to refuse -/
def NoI (d : D) : Prop := ¬ AreI d ∧ ∀ ds, D.its d = some ds → ds.length ≤ 20
theorem noI_scal {d : D} (h : D.its d = none) : NoI d := ⟨fun ⟨_, e, _⟩ => (by rw [h] at e; cases e), fun ds e => (by rw [h] at e; cases e)⟩
theorem noI_lst {ds : List D} (hl : ds.length ≤ 20) (h : ∀ ps : List (Int × Int), ds = ps.map itemD → (ps.map (·.1)).Nodup → ¬ (ps.map (·.2)).Nodup) : NoI (.lst ds) :=
  ⟨fun ⟨ps, e, a, b⟩ => h ps (Option.some.inj e) a b, fun ds' e => by cases e; exact hl⟩
theorem noI_key {ps : List (Int × Int)} {p q : Int × Int} (hl : ps.length ≤ 13) (hp : p ∈ ps) (e : q.1 = p.1) : NoI (.lst (ps.map itemD ++ [itemD q])) := by
  refine noI_lst (by rw [List.length_append, List.length_map]; show ps.length + 1 ≤ 20; omega) fun ps' h a _ => ?_
  have h' : (ps ++ [q]).map itemD = ps'.map itemD := by rw [List.map_append]; exact h
  rw [← map_itemD_inj h', List.map_append, List.nodup_append] at a
  exact a.2.2 p.1 (List.mem_map_of_mem hp) q.1 (by simp) e.symm
theorem noI_mark {ps : List (Int × Int)} {p q : Int × Int} (hl : ps.length ≤ 13) (hp : p ∈ ps) (e : q.2 = p.2) : NoI (.lst (ps.map itemD ++ [itemD q])) := by
  refine noI_lst (by rw [List.length_append, List.length_map]; show ps.length + 1 ≤ 20; omega) fun ps' h _ a => ?_
  have h' : (ps ++ [q]).map itemD = ps'.map itemD := by rw [List.map_append]; exact h
  rw [← map_itemD_inj h', List.map_append, List.nodup_append] at a
  exact a.2.2 p.2 (List.mem_map_of_mem hp) q.2 (by simp) e.symm
theorem noI_non {ps : List (Int × Int)} (hl : ps.length ≤ 13) : NoI (.lst (ps.map itemD ++ [.non])) := by
  refine noI_lst (by rw [List.length_append, List.length_map]; show ps.length + 1 ≤ 20; omega) fun ps' h _ _ => ?_
  have hm : D.non ∈ ps'.map itemD := by rw [← h]; exact List.mem_append_right _ List.mem_cons_self
  obtain ⟨p, _, e⟩ := List.mem_map.mp hm
  cases e
/-- two from one and a draw -/
theorem two_of {n one v : Nat} (h1 : one < n) (hv : v + 1 < n) : ∃ two : Nat, (((one : Nat) : Int) + 1 + ((v : Nat) : Int)) % ((n : Nat) : Int) = ((two : Nat) : Int) ∧ two < n ∧ two ≠ one := by
  have e : (((one : Nat) : Int) + 1 + ((v : Nat) : Int)) % ((n : Nat) : Int) = (((one + 1 + v) % n : Nat) : Int) := by
    rw [Int.natCast_emod]
    rfl
  refine ⟨(one + 1 + v) % n, e, Nat.mod_lt _ (by omega), ?_⟩
  by_cases c : one + 1 + v < n
  · rw [Nat.mod_eq_of_lt c]
    omega
  · rw [Nat.mod_eq_sub_mod (by omega), Nat.mod_eq_of_lt (by omega)]
    omega
end K40
namespace K40
open PySem PySem.Spec PyProof.Rows L2 Xc Dt
theorem row_flat : ∀ (t : T) (low : Nat) (up : V), Flat up → ∀ r ∈ lawRows t low up, ∀ v ∈ r.2, Flat v
  | .nil, _, _, _, r, h, _, _ => by cases h
  | .node l k m rr, low, up, hu, r, h, v, hv => by
    have fl : ∀ (t : T) (n : Nat), Flat (lroot t n) := fun t n => by cases t <;> exact .inl rfl
    rcases List.mem_append.mp h with h | h
    · exact row_flat l _ _ (.inl rfl) r h v hv
    · rcases List.mem_append.mp h with h | h
      · exact row_flat rr _ _ (.inl rfl) r h v hv
      · rw [List.mem_singleton] at h
        subst h
        simp only [List.mem_cons, List.not_mem_nil, or_false] at hv
        rcases hv with rfl | rfl | rfl
        · exact fl _ _
        · exact fl _ _
        · exact hu
end K40
namespace K40
open PySem PySem.Spec PyProof.Rows L2 Xc Dt
/-! ### law -/
theorem pgc {X : Cx} {x : Str} {a : Addr} {pos : Pos} (hg : Gl X x) (hm : X.mg x = some (.ref a)) (hd : (x == ("__debug__" : Str)) = false := by decide) : PE X (.Name x pos) (tC (.ref a)) := pe_glob hg hm rfl hd
/-- items, tree, as they stand all through the law -/
structure Mn (H : Hp) (ia : Addr) (ixs : List V) (ps : List (Int × Int)) (t : T) (tv : V) : Prop where
  hi : H ia = some (.lst ixs)
  hx : Are H (ps.map itemD) ixs
  ht : Is H t.d tv
section
variable {H H' : Hp} {bg ia : Addr} {ixs : List V} {ps : List (Int × Int)} {t : T} {tv : V} {ct : Nat}
theorem lst_ne {x : Addr} {xs : List V} (h : H x = some (.lst xs)) (g : Bag H bg ct) : x ≠ bg := fun z => by
  obtain ⟨kvs, e⟩ := Bag.dict g
  rw [z, e] at h
  cases h
theorem Mn.same (m : Mn H ia ixs ps t tv) (s : Same H H') : Mn H' ia ixs ps t tv := ⟨s _ _ m.hi, m.hx.same s, m.ht.same s⟩
theorem Mn.kept (m : Mn H ia ixs ps t tv) (g : Bag H bg ct) (k : Kept bg H H') : Mn H' ia ixs ps t tv := ⟨k _ _ m.hi (lst_ne m.hi g), are_kept k g m.hx, is_kept k g m.ht⟩
theorem twt_items : ∀ {ps : List (Int × Int)} {xs ys : List V}, Are H (ps.map itemD) xs → Are H (ps.map itemD) ys → Paired (TwT H) xs ys
  | [], _, _, h, k => by rw [show _ = [] from h, show _ = [] from k]; exact .nil
  | p :: ps, _, _, h, k => by
    obtain ⟨x, r, rfl, i, t⟩ := h
    obtain ⟨y, r', rfl, i', t'⟩ := k
    obtain ⟨c, rfl, e⟩ := (pairAt_is i).2
    obtain ⟨c', rfl, e'⟩ := (pairAt_is i').2
    exact .cons ⟨c, c', _, rfl, rfl, e, e', fun v hv => by
      simp only [List.mem_cons, List.not_mem_nil, or_false] at hv
      rcases hv with rfl | rfl <;> exact .inl rfl⟩ (twt_items t t')
end
/-- what stands behind a name of the top -/
def Has (P : Program) (w : World) (K : PySem.W.Frag) (mg : Str → Option Value) (base : Heap) (CX : CXT) (k : Nat) (x : Str) (ps : List Str) (sp : Sp) (g : Addr) (gd : FuncData) : Prop :=
  FnOk P w K mg base CX k g gd ps sp ∧ Binds K gd ps [] ∧ PySem.W.keepIn K (.ref g) = true ∧ mg x = some (.ref g)
section
variable {P : Program} {w : World} {K : PySem.W.Frag} {mg : Str → Option Value} {base : Heap} {f : Addr} {fd : FuncData}
def spLaw (K : PySem.W.Frag) : Sp := fun vs H Q _ => ∃ (a : Addr) (ns : List Int), vs = [.ref a] ∧ SqL K H a (ns.map V.int) ∧ ∀ H', Q (.bl true) H'
abbrev lawNs : List Str := ["script", "bag", "items", "tree", "found", "root", "mixed", "item", "at", "made", "odd", "action", "again", "key", "mark", "rows", "one", "two", "other", "strange"]
theorem sc31 : FnScope lawNs ["script"] (defScope (top 31)) := ⟨rfl, rfl, rfl, by decide +kernel, rfl, by decide +kernel, by decide +kernel⟩
/-- all that law calls -/
structure Fs (P : Program) (w : World) (K : PySem.W.Frag) (mg : Str → Option Value) (base : Heap) (U C gT gA gH gR gK gO gBg gDr gTr gRw gIt gLh gLl gSp gFi gRf gLs : Addr) (dT dA dH dR dK dO dBg dDr dTr dRw dIt dLh dLl dSp dFi dRf dLs : FuncData) : Prop where
  er : Er P w K mg base U C
  nm : Nm2 mg
  told : Has P w K mg base CX0 4 "is_told" ["value"] spTold gT dT
  all : Has P w K mg base (L2.CX P w) 6 "all_items" ["tree"] (spAll C) gA dA
  height : Has P w K mg base (L2.CX P w) 6 "height" ["tree"] (spHeight C) gH dH
  root : Has P w K mg base (L2.CX P w) 8 "root_of" ["tree"] (spRoot C) gR dR
  links : Has P w K mg base (L2.CX P w) 8 "links" ["tree"] (spLinks C) gK dK
  ofi : Has P w K mg base (L2.CX P w) 25 "of_items" ["items"] (spOf C) gO dO
  bag : Has P w K mg base CX0 1 "_law_bag" ["script"] (spBag K) gBg dBg
  draw : Has P w K mg base CX0 1 "_law_draw" ["bag", "limit"] spDraw gDr dDr
  tree : Has P w K mg base CX0 14 "_law_tree" ["bag", "items"] (spTree 13) gTr dTr
  row : Has P w K mg base CX0 14 "_law_row" ["tree"] (spRow 14) gRw dRw
  items : Has P w K mg base CX0 2 "_law_items" ["bag", "many", "keys"] spItems gIt dIt
  lht : Has P w K mg base CX0 14 "_law_height" ["tree"] (spHt 14) gLh dLh
  ll : Has P w K mg base CX0 28 "_law_links" ["tree", "low", "up", "found"] (spLL 14) gLl dLl
  spoil : Has P w K mg base CX0 15 "_law_spoiled" ["bag", "tree"] (spSpoil 14) gSp dSp
  fill : Has P w K mg base CX0 28 "_law_filled" ["tree", "items"] (spFill 14) gFi dFi
  ref : Has P w K mg base CX0 26 "_law_refused" ["action", "value"] (spRef P w K mg base C) gRf dRf
  least : Has P w K mg base CX0 1 "_law_least" ["many"] spLeast gLs dLs
  mInt : mg "int" = none
theorem ok_law {U C gT gA gH gR gK gO gBg gDr gTr gRw gIt gLh gLl gSp gFi gRf gLs : Addr} {dT dA dH dR dK dO dBg dDr dTr dRw dIt dLh dLl dSp dFi dRf dLs : FuncData} (F : Fun K "law" "law" (top 31) f fd)
    (Z : Fs P w K mg base U C gT gA gH gR gK gO gBg gDr gTr gRw gIt gLh gLl gSp gFi gRf gLs dT dA dH dR dK dO dBg dDr dTr dRw dIt dLh dLl dSp dFi dRf dLs) : FnOk P w K mg base CX0 29 f fd ["script"] (spLaw K) := by
  refine F.ok sc31 (fun vs H Q E h => ?_) (fun cdv A outer s H vs Q E hr h => ?_)
  · obtain ⟨a, ns, rfl, _⟩ := h
    rfl
  obtain ⟨a, ns, rfl, hS, q⟩ := h
  have hu := hu_of hr
  have hu64 : (A.deeper (envOfC "law" (defScope (top 31)) s.heap.objs.size f cdv)).units + 64 < cLine := by have := hr.un; omega
  have rm : ∀ {k : Nat}, k ≤ 28 → Room k (A.deeper (envOfC "law" (defScope (top 31)) s.heap.objs.size f cdv)) := fun h => hr.mono h
  have N := Z.nm
  obtain ⟨FT, bT, kT, mT⟩ := Z.told
  obtain ⟨FA, bA, kA, mA⟩ := Z.all
  obtain ⟨FH, bH, kH, mH⟩ := Z.height
  obtain ⟨FR, bR, kR, mR⟩ := Z.root
  obtain ⟨FK, bK, kK, mK⟩ := Z.links
  obtain ⟨FO, bO, kO, mO⟩ := Z.ofi
  obtain ⟨FBg, bBg, kBg, mBg⟩ := Z.bag
  obtain ⟨FDr, bDr, kDr, mDr⟩ := Z.draw
  obtain ⟨FTr, bTr, kTr, mTr⟩ := Z.tree
  obtain ⟨FRw, bRw, kRw, mRw⟩ := Z.row
  obtain ⟨FIt, bIt, kIt, mIt⟩ := Z.items
  obtain ⟨FLh, bLh, kLh, mLh⟩ := Z.lht
  obtain ⟨FLl, bLl, kLl, mLl⟩ := Z.ll
  obtain ⟨FSp, bSp, kSp, mSp⟩ := Z.spoil
  obtain ⟨FFi, bFi, kFi, mFi⟩ := Z.fill
  obtain ⟨FRf, bRf, kRf, mRf⟩ := Z.ref
  obtain ⟨FLs, bLs, kLs, mLs⟩ := Z.least
  refine ⟨_, (pss_cons (ps_set (i := 1) sc31.nd rfl (.inl rfl) (pe_call FBg (rm (k := 1) (by decide)) rfl mBg kBg bBg .nil pass0 (pa_cons (pv 0) pa_nil)))
      (pss_cons (ps_set (i := 2) sc31.nd rfl (.inl rfl) (pe_call FIt (rm (k := 2) (by decide)) rfl mIt kIt bIt .nil pass0 (pa_cons (pv 1) (pa_cons (pe_call FDr (rm (k := 1) (by decide)) rfl mDr kDr bDr .nil pass0 (pa_cons (pv 1) (pa_cons pe_int pa_nil))) (pa_cons (pe_ix (show IxR _ (rIxL K) from ix_list) (pe_lst (pa_cons pe_int (pa_cons pe_int (pa_cons (pe_op op_pow pe_int pe_int) pa_nil)))) (pe_call FDr (rm (k := 1) (by decide)) rfl mDr kDr bDr .nil pass0 (pa_cons (pv 1) (pa_cons pe_int pa_nil))) (fun _ _ => rfl)) pa_nil)))))
      (pss_cons (ps_set (i := 3) sc31.nd rfl (.inl rfl) (pe_call FTr (rm (k := 14) (by decide)) rfl mTr kTr bTr .nil pass0 (pa_cons (pv 1) (pa_cons (pv 2) pa_nil))))
      (pss_cons (ps_set (i := 4) sc31.nd rfl (.inl rfl) pe_dnewK)
      (pss_cons (ps_set (i := 5) sc31.nd rfl (.inl rfl) (pe_call FLl (rm (k := 28) (by decide)) rfl mLl kLl bLl .nil pass0 (pa_cons (pv 3) (pa_cons pe_int (pa_cons pe_non (pa_cons (pv 4) pa_nil))))))
      (C8.pss_cut (ps_if (PW.pt (pw_or (pt_not (pt_val (pe_call FT (rm (k := 4) (by decide)) rfl mT kT bT .nil pass0 (pa_cons (pv 3) pa_nil)))) (pw_or (pt_cmpR (op_nePr hu64) (pe_call FA (rm (k := 6) (by decide)) rfl mA kA bA .nil (passes_call takes0 (fun _ _ _ _ z => z)) (pa_cons (pv 3) pa_nil)) (pe_callTy call_tuple_of (by rfl) N.tuple (by decide +kernel) (pa_cons (pv 2) pa_nil)) (nomark _)) (pw_or1 (pt_cmpR op_ne (pe_call FH (rm (k := 6) (by decide)) rfl mH kH bH .nil (passes_call takes0 (fun _ _ _ _ z => z)) (pa_cons (pv 3) pa_nil)) (pe_call FLh (rm (k := 14) (by decide)) rfl mLh kLh bLh .nil pass0 (pa_cons (pv 3) pa_nil)) (nomark _)))))) (pss_one (ps_ret pe_bl)) pss_nil)
      (C8.pss_cut (ps_if (PW.pt (pw_or (pt_cmpR op_ne (pe_call FR (rm (k := 8) (by decide)) rfl mR kR bR .nil (passes_call takes0 (fun _ _ _ _ z => z)) (pa_cons (pv 3) pa_nil)) (pv 5) (nomark _)) (pw_or1 (pt_cmpR (op_neDr hu64) (pe_call FK (rm (k := 8) (by decide)) rfl mK kK bK .nil (passes_call takes0 (fun _ _ _ _ z => z)) (pa_cons (pv 3) pa_nil)) (pv 4) (nomark _))))) (pss_one (ps_ret pe_bl)) pss_nil)
      (pss_cons (ps_set (i := 6) sc31.nd rfl (.inl rfl) (pe_lst pa_nil))
      (C8.pss_cut (ps_for PassesOwn.never rfl (pi_list (pv 2)) (pg_name (i := 7) sc31.nd rfl (.inl rfl)) (pss_cons (ps_set (i := 8) sc31.nd rfl (.inl rfl) (pe_call FDr (rm (k := 1) (by decide)) rfl mDr kDr bDr .nil pass0 (pa_cons (pv 1) (pa_cons (pe_op op_add (pe_callB call_len_seq (by rfl) N.len PySem.boot_len (pa_cons (pv 6) pa_nil)) pe_int) pa_nil))))
      (pss_one (ps_set (i := 6) sc31.nd rfl (.inl rfl) (pe_op op_cat (pe_op op_cat (pe_slice (show SlR _ (rSlL K) from sl_list) (pv 6) po_none (po_some (pv 8))) (pe_lst (pa_cons (pv 7) pa_nil))) (pe_slice (show SlR _ (rSlL K) from sl_list) (pv 6) (po_some (pv 8)) po_none))))))
      (pss_cons (ps_set (i := 9) sc31.nd rfl (.inl rfl) (pe_call FO (rm (k := 25) (by decide)) rfl mO kO bO .nil (passes_call takes0 (fun _ _ _ _ z => z)) (pa_cons (pv 6) pa_nil)))
      (C8.pss_cut (ps_if (PW.pt (pw_or (pt_not (pt_val (pe_call FT (rm (k := 4) (by decide)) rfl mT kT bT .nil pass0 (pa_cons (pv 9) pa_nil)))) (pw_or (pt_cmpR (op_nePr hu64) (pe_call FRw (rm (k := 14) (by decide)) rfl mRw kRw bRw .nil pass0 (pa_cons (pv 9) pa_nil)) (pv 2) (nomark _)) (pw_or1 (pt_cmpR op_ne (pe_call FH (rm (k := 6) (by decide)) rfl mH kH bH .nil (passes_call takes0 (fun _ _ _ _ z => z)) (pa_cons (pv 9) pa_nil)) (pe_call FLs (rm (k := 1) (by decide)) rfl mLs kLs bLs .nil pass0 (pa_cons (pe_callB call_len_seq (by rfl) N.len PySem.boot_len (pa_cons (pv 2) pa_nil)) pa_nil)) (nomark _)))))) (pss_one (ps_ret pe_bl)) pss_nil)
      (C8.pss_cut (ps_if (pt_cmpR op_notN (pv 3) pe_non (nomark _)) (pss_cons (ps_set (i := 10) sc31.nd rfl (.inl rfl) (pe_call FSp (rm (k := 15) (by decide)) rfl mSp kSp bSp .nil pass0 (pa_cons (pv 1) (pa_cons (pv 3) pa_nil))))
      (pss_cons (ps_for PassesOwn.never rfl (pi_list (pe_lst (pa_cons (pgc rfl mA) (pa_cons (pgc rfl mH) (pa_cons (pgc rfl mK) (pa_cons (pgc rfl mR) pa_nil)))))) (pg_name (i := 11) sc31.nd rfl (.inl rfl)) (pss_one (ps_if (PW.pt (pw_or (pt_val (pe_call FT (rm (k := 4) (by decide)) rfl mT kT bT .nil pass0 (pa_cons (pv 10) pa_nil))) (pw_or1 (pt_not (pt_val (pe_call FRf (rm (k := 26) (by decide)) rfl mRf kRf bRf .nil pass0 (pa_cons (pv 11) (pa_cons (pv 10) pa_nil)))))))) (pss_one (ps_ret pe_bl)) pss_nil)))
      (pss_cons (ps_set (i := 12) sc31.nd rfl (.inl rfl) (pe_op op_cat (pv 2) (pe_lst (pa_cons (pe_ix (show IxR _ (rIxL K) from ix_list) (pv 2) (pe_call FDr (rm (k := 1) (by decide)) rfl mDr kDr bDr .nil pass0 (pa_cons (pv 1) (pa_cons (pe_callB call_len_seq (by rfl) N.len PySem.boot_len (pa_cons (pv 2) pa_nil)) pa_nil))) (fun _ _ => rfl)) pa_nil))))
      (pss_cons (ps_asg (pe_ix (show IxR _ (rIxL K) from ix_list) (pv 2) (pe_call FDr (rm (k := 1) (by decide)) rfl mDr kDr bDr .nil pass0 (pa_cons (pv 1) (pa_cons (pe_callB call_len_seq (by rfl) N.len PySem.boot_len (pa_cons (pv 2) pa_nil)) pa_nil))) (fun _ _ => rfl)) (pg_tup rfl (pgs_cons (pg_name (i := 13) sc31.nd rfl (.inl rfl)) (pgs_cons (pg_name (i := 14) sc31.nd rfl (.inl rfl)) pgs_nil))))
      (pss_cons (ps_set (i := 15) sc31.nd rfl (.inl rfl) (pe_lst (pa_cons (pv 12) (pa_cons (pe_op op_cat (pv 2) (pe_lst (pa_cons pe_non pa_nil))) (pa_cons (pe_op op_cat (pv 2) (pe_lst (pa_cons (pe_tup (pa_cons (pv 13) (pa_cons pe_int pa_nil))) pa_nil))) (pa_cons (pe_op op_cat (pv 2) (pe_lst (pa_cons (pe_tup (pa_cons (pe_op op_pow pe_int pe_int) (pa_cons (pv 14) pa_nil))) pa_nil))) (pa_cons pe_int (pa_cons pe_str (pa_cons pe_non (pa_cons pe_dnewK pa_nil))))))))))
      (pss_one (ps_if (PW.pt (pw_or (pt_not (pt_val (pe_call FRf (rm (k := 26) (by decide)) rfl mRf kRf bRf .nil pass0 (pa_cons (pgc rfl mO) (pa_cons (pe_ix (show IxR _ (rIxL K) from ix_list) (pv 15) (pe_call FDr (rm (k := 1) (by decide)) rfl mDr kDr bDr .nil pass0 (pa_cons (pv 1) (pa_cons pe_int pa_nil))) (fun _ _ => rfl)) pa_nil))))) (pw_or1 (pt_cmpR (op_nePr hu64) (pe_call FRw (rm (k := 14) (by decide)) rfl mRw kRw bRw .nil pass0 (pa_cons (pe_call FO (rm (k := 25) (by decide)) rfl mO kO bO .nil (passes_call takes0 (fun _ _ _ _ z => z)) (pa_cons (pe_callTy call_tuple_of (by rfl) N.tuple (by decide +kernel) (pa_cons (pv 6) pa_nil)) pa_nil)) pa_nil)) (pv 2) (nomark _))))) (pss_one (ps_ret pe_bl)) pss_nil))))))) pss_nil)
      (C8.pss_cut (ps_if (pt_cmpR op_gt (pe_callB call_len_seq (by rfl) N.len PySem.boot_len (pa_cons (pv 2) pa_nil)) pe_int (nomark _)) (pss_cons (ps_set (i := 16) sc31.nd rfl (.inl rfl) (pe_call FDr (rm (k := 1) (by decide)) rfl mDr kDr bDr .nil pass0 (pa_cons (pv 1) (pa_cons (pe_callB call_len_seq (by rfl) N.len PySem.boot_len (pa_cons (pv 2) pa_nil)) pa_nil))))
      (pss_cons (ps_set (i := 17) sc31.nd rfl (.inl rfl) (pe_op op_mod (pe_callTy call_int1 (by rfl) Z.mInt (by decide +kernel) (pa_cons (pe_op op_add (pe_op op_add (pv 16) pe_int) (pe_call FDr (rm (k := 1) (by decide)) rfl mDr kDr bDr .nil pass0 (pa_cons (pv 1) (pa_cons (pe_op op_sub (pe_callB call_len_seq (by rfl) N.len PySem.boot_len (pa_cons (pv 2) pa_nil)) pe_int) pa_nil)))) pa_nil)) (pe_callB call_len_seq (by rfl) N.len PySem.boot_len (pa_cons (pv 2) pa_nil))))
      (pss_cons (ps_set (i := 18) sc31.nd rfl (.inl rfl) (pe_callTy call_list_of (by rfl) N.list (by decide +kernel) (pa_cons (pv 2) pa_nil)))
      (pss_cons (ps_asg (pe_tup (pa_cons (pe_ix (show IxR _ (rIxL K) from ix_list) (pv 2) (pv 17) (fun _ _ => rfl)) (pa_cons (pe_ix (show IxR _ (rIxL K) from ix_list) (pv 2) (pv 16) (fun _ _ => rfl)) pa_nil))) (pg_tup rfl (pgs_cons (pg_sub (pv 18) (pv 16) set_list) (pgs_cons (pg_sub (pv 18) (pv 17) set_list) pgs_nil))))
      (pss_cons (ps_set (i := 10) sc31.nd rfl (.inl rfl) (pe_call FFi (rm (k := 28) (by decide)) rfl mFi kFi bFi .nil pass0 (pa_cons (pv 3) (pa_cons (pv 18) pa_nil))))
      (pss_one (ps_if (PW.pt (pw_or (pt_val (pe_call FT (rm (k := 4) (by decide)) rfl mT kT bT .nil pass0 (pa_cons (pv 10) pa_nil))) (pw_or1 (pt_not (pt_val (pe_call FRf (rm (k := 26) (by decide)) rfl mRf kRf bRf .nil pass0 (pa_cons (pe_ix (show IxR _ (rIxL K) from ix_list) (pe_lst (pa_cons (pgc rfl mA) (pa_cons (pgc rfl mH) (pa_cons (pgc rfl mK) (pa_cons (pgc rfl mR) pa_nil))))) (pe_call FDr (rm (k := 1) (by decide)) rfl mDr kDr bDr .nil pass0 (pa_cons (pv 1) (pa_cons pe_int pa_nil))) (fun _ _ => rfl)) (pa_cons (pv 10) pa_nil)))))))) (pss_one (ps_ret pe_bl)) pss_nil))))))) pss_nil)
      (pss_cons (ps_set (i := 19) sc31.nd rfl (.inl rfl) (pe_ix (show IxR _ (rIxL K) from ix_list) (pe_lst (pa_cons pe_int (pa_cons pe_str (pa_cons (pe_lst pa_nil) (pa_cons pe_dnewK (pa_cons pe_bl pa_nil)))))) (pe_call FDr (rm (k := 1) (by decide)) rfl mDr kDr bDr .nil pass0 (pa_cons (pv 1) (pa_cons pe_int pa_nil))) (fun _ _ => rfl)))
      (pss_one (ps_ret (pe_and (pe_not (pe_call FT (rm (k := 4) (by decide)) rfl mT kT bT .nil pass0 (pa_cons (pv 19) pa_nil))) (pe_one (pe_call FRf (rm (k := 26) (by decide)) rfl mRf kRf bRf .nil pass0 (pa_cons (pgc rfl mH) (pa_cons (pv 19) pa_nil))))))))))))))))))))), ?_⟩
  have sz3 : 3 ≤ sizeLine := by decide
  have sz0 : 0 ≤ sizeLine := by decide
  have sz1 : 1 ≤ sizeLine := by decide
  have sz2 : 2 ≤ sizeLine := by decide
  have sz4 : 4 ≤ sizeLine := by decide
  have sz5 : 5 ≤ sizeLine := by decide
  have sz8 : 8 ≤ sizeLine := by decide
  have dr : ∀ {x : Int}, 0 ≤ x → x ≤ 1000 → x.natAbs.log2 < 9000 := fun h k => log_small h k
  have act : ∀ {d : D} {v : V} {H' : Hp}, Is H' d v → ¬ Valid d → D.wt d ≤ 3000 → ∀ g ∈ [gA, gH, gK, gR], Act P w K mg base C g v H' := by
    intro d v H' di nv hw g hg
    have no : ∀ t : T, d = t.d → ¬ Told t := fun t e ht => nv (by rw [e]; exact (valid_told t).mpr ht)
    simp only [List.mem_cons, List.not_mem_nil, or_false] at hg
    rcases hg with rfl | rfl | rfl | rfl
    · exact ⟨6, dA, _, _, by decide, FA, bA, kA, fun Q E bad => ⟨d, v, rfl, di, hw, fun t e ht => absurd ht (no t e), fun _ => bad⟩⟩
    · exact ⟨6, dH, _, _, by decide, FH, bH, kH, fun Q E bad => ⟨d, v, rfl, di, hw, fun t e ht => absurd ht (no t e), fun _ => bad⟩⟩
    · exact ⟨8, dK, _, _, by decide, FK, bK, kK, fun Q E bad => ⟨d, v, rfl, di, hw, fun t e ht => absurd ht (no t e), fun _ => bad⟩⟩
    · exact ⟨8, dR, _, _, by decide, FR, bR, kR, fun Q E bad => ⟨d, v, rfl, di, hw, fun t e ht => absurd ht (no t e), fun _ => bad⟩⟩
  have actO : ∀ {d : D} {v : V} {H' : Hp}, Is H' d v → NoI d → Act P w K mg base C gO v H' := by
    intro d v H' di no
    exact ⟨25, dO, _, _, by decide, FO, bO, kO, fun Q E bad => ⟨d, v, rfl, di, no.2, fun ps t r H' e p tl _ _ _ => absurd (areI_of tl.1 tl.2 p.symm e) no.1, fun _ => bad⟩⟩
  -- bag, items
  refine ⟨_, rfl, a, ns, rfl, hS, fun bg H1 nbg g1 s1 => ?_⟩
  refine ⟨_, rfl, _, rfl, bg, 0, 13, rfl, g1, (by omega), (by decide), dr (by decide) (by decide), fun v0 H2 p0 q0 g2 k2 _ => ?_⟩
  refine ⟨_, _, rfl, rfl, ⟨by decide, by decide, by decide⟩, sz3, fun l3 n3 => ?_⟩
  have u3 := same_new n3 (.lst [.int 1, .int 4, .int ((10 : Int) ^ ((30 : Int)).toNat)])
  have m3 : (upd H2 l3 (.lst [.int 1, .int 4, .int ((10 : Int) ^ ((30 : Int)).toNat)])) l3 = some (.lst [.int 1, .int 4, .int ((10 : Int) ^ ((30 : Int)).toNat)]) := upd_same
  have g3 := g2.same u3
  generalize upd H2 l3 (.lst [.int 1, .int 4, .int ((10 : Int) ^ ((30 : Int)).toNat)]) = H3 at u3 m3 g3 ⊢
  refine ⟨_, rfl, bg, 1, 3, rfl, g3, (by omega), (by decide), dr (by decide) (by decide), fun v1 H4 p1 q1 g4 k4 _ => ?_⟩
  have m4 := k4 _ _ m3 (lst_ne m3 g3)
  obtain ⟨keys, hat, hk0, hk1⟩ : ∃ keys : Int, atI [V.int 1, .int 4, .int ((10 : Int) ^ ((30 : Int)).toNat)] v1 = some (.int keys) ∧ 0 < keys ∧ keys ≤ 10 ^ 30 := by
    obtain ⟨j, rfl⟩ := Int.eq_ofNat_of_zero_le p1
    obtain rfl | rfl | rfl := (by omega : j = 0 ∨ j = 1 ∨ j = 2)
    · exact ⟨1, atI_nat (j := 0) rfl, by decide, by decide⟩
    · exact ⟨4, atI_nat (j := 1) rfl, by decide, by decide⟩
    · exact ⟨_, atI_nat (j := 2) rfl, by decide, by decide⟩
  obtain ⟨n, rfl⟩ := Int.eq_ofNat_of_zero_le p0
  refine ⟨l3, _, _, _, rfl, rfl, SqL.of m4, hat, bg, 2, n, keys, rfl, g4, (by omega), (by omega), hk0, hk1, fun ia ixs ps H5 nia hi5 hx5 hpl hasc hmk g5 k5 => ?_⟩
  -- the tree
  refine ⟨_, rfl, _, rfl, bg, _, ia, ixs, ps, rfl, g5, (by omega), hi5, hx5, (by omega), (by omega), fun t tv H6 et it g6 k6 => ?_⟩
  have M6 : Mn H6 ia ixs ps t tv := ⟨k6 _ _ hi5 (lst_ne hi5 g5), are_kept k6 g5 hx5, it⟩
  have told : Told t := ⟨by rw [et]; exact hasc, by rw [et]; exact hmk⟩
  have valid : Valid t.d := (valid_told t).mpr told
  have hps : ps.length ≤ 12 := by omega
  have til : t.items.length = ps.length := by rw [et]
  have tht : t.ht < 14 := by have := ht_le t; omega
  have twt : D.wt t.d ≤ 3000 := by rw [T.d_wt]; omega
  have ixl : ixs.length = ps.length := by rw [hx5.len, List.length_map]
  refine fun fo nfo => ?_
  have u7 := same_new nfo (.dK [])
  have m7 : (upd H6 fo (.dK [])) fo = some (.dK []) := upd_same
  have g7 := g6.same u7
  have M7 := M6.same u7
  generalize upd H6 fo (.dK []) = H7 at u7 m7 g7 M7 ⊢
  have nbf : bg ≠ fo := fun z => by
    obtain ⟨c, ns', i', dg', fo', gg⟩ := g7
    have e := gg.hb
    rw [z, m7] at e
    cases e
  refine ⟨_, rfl, _, rfl, t, tv, .non, 0, fo, [], [], rfl, M7.ht, tht, (by omega), (by omega), m7, .nil, (by show 0 + _ ≤ 100; omega), (fun j hj => by cases hj), fun kvs H8 hfo8 hro8 k8 => ?_⟩
  have t8 := kept_tups k8 m7
  have M8 : Mn H8 ia ixs ps t tv := ⟨k8 _ _ M7.hi (fun z => by rw [← z, M7.hi] at m7; cases m7), are_tups t8 M7.hx, is_tups t8 M7.ht⟩
  have g8 : Bag H8 bg (2 + 1 + n + 2 * ps.length) := by
    obtain ⟨c, ns', i', dg', fo', gg⟩ := g7
    exact ⟨c, ns', i', dg', fo', k8 _ _ gg.hb nbf, k8 _ _ gg.hc (fun z => by have e := gg.hc; rw [z, m7] at e; cases e), gg.dg0, gg.fo0, gg.fo1⟩
  have hro8 : Rows H8 (lawRows t 0 .non) kvs := hro8
  have hct8 : 2 + 1 + n + 2 * ps.length ≤ 100 := by omega
  generalize 2 + 1 + n + 2 * ps.length = ct8 at g8 hct8
  -- is_told, all_items, height
  refine ⟨fun σ H' => σ = [some (.ref a), some (.ref bg), some (.ref ia), some tv, some (.ref fo), some (lroot t 0), none, none, none, none, none, none, none, none, none, none, none, none, none, none] ∧ Mn H' ia ixs ps t tv ∧ Bag H' bg ct8 ∧ H' fo = some (.dK kvs) ∧ Rows H' (lawRows t 0 .non) kvs, ?_, ?_⟩
  · refine ⟨_, rfl, t.d, tv, rfl, M8.ht, twt, fun b H9 hb s9 => ⟨_, rfl, ?_⟩⟩
    obtain rfl : b = true := hb.mpr valid
    refine ifF rfl ?_
    have M9 := M8.same s9
    refine ⟨_, rfl, t.d, tv, rfl, M9.ht, twt, fun t' e ht' p xs H10 np hp hx s10 => ?_, fun nv => absurd valid nv⟩
    obtain rfl := T.d_inj e
    have M10 := M9.same s10
    refine ⟨_, rfl, ia, ixs, rfl, .inl ⟨SqL.of M10.hi, fun l nl => ?_⟩⟩
    have u11 := same_new nl (.tup ixs)
    have m11 : (upd H10 l (.tup ixs)) l = some (.tup ixs) := upd_same
    generalize upd H10 l (.tup ixs) = H11 at u11 m11 ⊢
    have M11 := M10.same u11
    refine ⟨p, l, xs, ixs, rfl, rfl, .inr ⟨SqT.of (u11 _ _ hp), SqT.of m11⟩, twt_items (ps := ps) (by rw [← et]; exact hx.same u11) M11.hx, _, rfl, ifF rfl ?_⟩
    refine ⟨_, rfl, t.d, tv, rfl, M11.ht, twt, fun t' e ht' H12 s12 => ?_, fun nv => absurd valid nv⟩
    obtain rfl := T.d_inj e
    have M12 := M11.same s12
    refine ⟨_, rfl, t, tv, rfl, M12.ht, tht, rfl, _, rfl, ifF (by rw [decide_eq_true rfl]; rfl) ?_⟩
    have ss := ((s9.trans s10).trans u11).trans s12
    exact ⟨rfl, M12, g8.same ss, ss _ _ hfo8, hro8.tups (Tups.of ss)⟩
  rintro σ H13 ⟨rfl, M13, g13, hfo13, hro13⟩
  -- root_of, links
  refine ⟨fun σ H' => σ = [some (.ref a), some (.ref bg), some (.ref ia), some tv, some (.ref fo), some (lroot t 0), none, none, none, none, none, none, none, none, none, none, none, none, none, none] ∧ Mn H' ia ixs ps t tv ∧ Bag H' bg ct8, ?_, ?_⟩
  · refine ⟨_, rfl, t.d, tv, rfl, M13.ht, twt, fun t' e ht' H14 r s14 hr14 => ?_, fun nv => absurd valid nv⟩
    obtain rfl := T.d_inj e
    have er : r = lroot t 0 := by
      have h1 := num_root told.1 t [] [] (by simp)
      have h2 := numAt_num told.1 (t := t) (fun p hp => hp)
      cases t with
      | nil => exact hr14
      | node l k m rr =>
        have h3 : valV (numL (T.node l k m rr).items) (.inl k) = some r := hr14
        have h4 : valV (numL (T.node l k m rr).items) (.inl k) = some (num (T.node l k m rr).items (.node l k m rr)) := h2
        rw [h3] at h4
        exact (Option.some.inj h4).trans h1
    subst er
    have M14 := M13.same s14
    refine ⟨_, rfl, (by cases t <;> rfl), _, rfl, ifF (by rw [decide_eq_true rfl]; rfl) ?_⟩
    refine ⟨_, rfl, t.d, tv, rfl, M14.ht, twt, fun t' e ht' p ks H15 np hp hx s15 => ?_, fun nv => absurd valid nv⟩
    obtain rfl := T.d_inj e
    have ss := s14.trans s15
    have pm := rows_perm told.1 t [] [] 1 none (by simp)
    have hro15 := hro13.tups (Tups.of ss)
    refine ⟨_, rfl, p, fo, ks, kvs, rfl, rfl, hp, ss _ _ hfo13, ?_, fun kv hkv => ?_, _, rfl, ifF rfl ⟨rfl, M13.same ss, g13.same ss⟩⟩
    · rw [← hx.len, ← hro15.len]
      exact pm.length_eq
    · obtain ⟨i, hi, e⟩ := List.mem_iff_getElem.mp hkv
      obtain ⟨r, hr, e1, c, e2, e3⟩ := paired_at (i := i) hx (List.getElem?_eq_some_iff.mpr ⟨hi, e⟩)
      have hmem : r ∈ lawRows t 0 .non := pm.mem_iff.mp (List.mem_of_getElem? hr)
      obtain ⟨c', e4, e5⟩ := rows_val hro15 (lawRows_key t 0 .non).2 hmem
      refine ⟨.ref c', by rw [e1]; exact e4, c, c', r.2, e2, rfl, e3, e5, fun v hv => ?_⟩
      exact row_flat t 0 .non (.inl rfl) r hmem v hv
  rintro σ H16 ⟨rfl, M16, g16⟩
  -- the items in another order
  refine ⟨sz0, fun mx0 nmx0 => ?_⟩
  have u17 := same_new nmx0 (.lst [])
  have m17 : (upd H16 mx0 (.lst [])) mx0 = some (.lst []) := upd_same
  have g17 := g16.same u17
  have M17 := M16.same u17
  generalize upd H16 mx0 (.lst []) = H17 at u17 m17 g17 M17 ⊢
  refine ⟨fun σ H' => ∃ (mx : Addr) (mxs : List V) (qs : List (Int × Int)) (o7 o8 : Option V) (ct : Nat), σ = [some (.ref a), some (.ref bg), some (.ref ia), some tv, some (.ref fo), some (lroot t 0), some (.ref mx), o7, o8, none, none, none, none, none, none, none, none, none, none, none] ∧ Mn H' ia ixs ps t tv ∧ Bag H' bg ct ∧ ct ≤ 200 ∧
    H' mx = some (.lst mxs) ∧ Are H' (qs.map itemD) mxs ∧ qs.Perm ps, ?_, ?_⟩
  · refine ⟨_, rfl, ia, rfl, ⟨_, SqL.of M17.hi⟩, for_list (K := K) (a := ia) (xs := ixs) (fun i σ H' => ∃ (mx : Addr) (mxs : List V) (qs : List (Int × Int)) (o7 o8 : Option V), σ = [some (.ref a), some (.ref bg), some (.ref ia), some tv, some (.ref fo), some (lroot t 0), some (.ref mx), o7, o8, none, none, none, none, none, none, none, none, none, none, none] ∧ Mn H' ia ixs ps t tv ∧ Bag H' bg (ct8 + i) ∧
      H' mx = some (.lst mxs) ∧ Are H' (qs.map itemD) mxs ∧ qs.Perm (ps.take i))
      ⟨mx0, [], [], none, none, rfl, M17, g17, m17, rfl, List.Perm.refl _⟩ (fun i σ H' _ h => ?_) ?_ ?_⟩
    · obtain ⟨_, _, _, _, _, _, M, _⟩ := h
      exact SqL.of M.hi
    · rintro i x σ H' hi ⟨mx, mxs, qs, o7, o8, rfl, M, g, hm, hq, pm⟩
      obtain ⟨hil, _⟩ := List.getElem?_eq_some_iff.mp hi
      rw [ixl] at hil
      have hit : ps[i]? = some ps[i] := List.getElem?_eq_getElem hil
      obtain ⟨x', hx', ix⟩ := M.hx.at (i := i) (d := itemD ps[i]) (by rw [List.getElem?_map, hit]; rfl)
      rw [hi] at hx'
      cases hx'
      have ql : qs.length = i := by rw [pm.length_eq, List.length_take]; omega
      have mxl : mxs.length = i := by rw [hq.len, List.length_map, ql]
      refine ⟨_, rfl, _, rfl, mx, mxs, rfl, .inl (SqL.of hm), _, _, rfl, rfl, bg, ct8 + i, _, rfl, g, (by omega), (by omega), dr (by omega) (by omega), fun v Ha p0 p1 ga ka _ => ?_⟩
      obtain ⟨at', rfl⟩ := Int.eq_ofNat_of_zero_le p0
      have hat' : at' ≤ mxs.length := by omega
      have Ma := M.kept g ka
      have hma := ka _ _ hm (lst_ne hm g)
      have hqa := are_kept ka g hq
      have ixa := is_kept ka g ix
      refine ⟨_, rfl, _, rfl, _, rfl, mx, mxs, rfl, SqL.of hma, fun q1 nq1 => ?_⟩
      rw [cut_lo mxs at' hat']
      have ub := same_new nq1 (.lst (mxs.take at'))
      have mb : (upd Ha q1 (.lst (mxs.take at'))) q1 = some (.lst (mxs.take at')) := upd_same
      generalize upd Ha q1 (.lst (mxs.take at')) = Hb at ub mb ⊢
      refine ⟨_, rfl, sz1, fun q2 nq2 => ?_⟩
      have uc := same_new nq2 (.lst [x])
      have mc : (upd Hb q2 (.lst [x])) q2 = some (.lst [x]) := upd_same
      generalize upd Hb q2 (.lst [x]) = Hc at uc mc ⊢
      refine ⟨q1, q2, _, _, rfl, rfl, uc _ _ mb, mc, (by rw [List.length_take]; exact Nat.le_of_lt (small1000' (by show min at' mxs.length + 1 ≤ 4000; omega))), fun q3 nq3 => ?_⟩
      have ud := same_new nq3 (.lst (mxs.take at' ++ [x]))
      have md : (upd Hc q3 (.lst (mxs.take at' ++ [x]))) q3 = some (.lst (mxs.take at' ++ [x])) := upd_same
      generalize upd Hc q3 (.lst (mxs.take at' ++ [x])) = Hd at ud md ⊢
      have sd := (ub.trans uc).trans ud
      refine ⟨_, rfl, _, rfl, _, rfl, mx, mxs, rfl, SqL.of (sd _ _ hma), fun q4 nq4 => ?_⟩
      rw [cut_hi mxs at' hat']
      have ue := same_new nq4 (.lst (mxs.drop at'))
      have me : (upd Hd q4 (.lst (mxs.drop at'))) q4 = some (.lst (mxs.drop at')) := upd_same
      generalize upd Hd q4 (.lst (mxs.drop at')) = He at ue me ⊢
      refine ⟨q3, q4, _, _, rfl, rfl, ue _ _ md, me, (by rw [List.length_append, List.length_take, List.length_drop]; exact Nat.le_of_lt (small1000' (by show min at' mxs.length + 1 + (mxs.length - at') ≤ 4000; omega))), fun q5 nq5 => ?_⟩
      have uf := same_new nq5 (.lst ((mxs.take at' ++ [x]) ++ mxs.drop at'))
      have ss := (sd.trans ue).trans uf
      refine ⟨q5, _, qs.take at' ++ [ps[i]] ++ qs.drop at', some x, some (.int (at' : Nat)), rfl, Ma.same ss, ga.same ss, upd_same, ?_, ?_⟩
      · rw [List.map_append, List.map_append, List.map_take, List.map_drop]
        exact ((are_take at' (hqa.same ss)).append (are1 (ixa.same ss))).append (are_drop at' (hqa.same ss))
      · rw [take_snoc hit, List.append_assoc]
        refine List.perm_middle.trans ?_
        show (ps[i] :: (qs.take at' ++ qs.drop at')).Perm _
        rw [List.take_append_drop]
        exact (List.Perm.cons _ pm).trans (List.perm_append_comm (l₁ := [_]))
    · rintro σ H' ⟨mx, mxs, qs, o7, o8, rfl, M, g, hm, hq, pm⟩
      rw [ixl, List.take_length] at pm
      exact ⟨mx, mxs, qs, o7, o8, _, rfl, M, g, by omega, hm, hq, pm⟩
  rintro σ H18 ⟨mx, mxs, qs, o7, o8, ct18, rfl, M18, g18, hct18, hmx, hqs, pm⟩
  have qsl : qs.length = ps.length := pm.length_eq
  have ofl : ∀ {d : D}, D.its d = some (qs.map itemD) → ∀ ds, D.its d = some ds → ds.length ≤ 20 := fun h ds e => by
    rw [h] at e
    cases e
    rw [List.length_map]
    omega
  have made_of : ∀ {d : D} {ps' : List (Int × Int)} {t2 : T}, D.its d = some (qs.map itemD) → D.its d = some (ps'.map itemD) → t2.items.Perm ps' → Told t2 → t2.items = ps ∧ ps'.length = ps.length := fun h e p tl => by
    rw [h] at e
    have e2 := map_itemD_inj (Option.some.inj e)
    subst e2
    exact ⟨asc_uniq tl.1 hasc (p.trans pm), qsl⟩
  -- of_items
  refine ⟨_, rfl, .lst (qs.map itemD), .ref mx, rfl, ⟨mx, mxs, rfl, hmx, hqs⟩, ofl rfl, fun ps' t2 mv H19 e p2 tl2 ht2 i2 s19 => ?_, fun nA => absurd (areI_of hasc hmk pm (d := .lst (qs.map itemD)) rfl) nA⟩
  obtain ⟨et2, el2⟩ := made_of (d := .lst (qs.map itemD)) rfl e p2 tl2
  have M19 := M18.same s19
  have g19 := g18.same s19
  have hmx19 := s19 _ _ hmx
  have hqs19 := hqs.same s19
  have til2 : t2.items.length = ps.length := by rw [et2]
  have tht2 : t2.ht < 14 := by have := ht_le t2; omega
  have twt2 : D.wt t2.d ≤ 3000 := by rw [T.d_wt]; omega
  refine ⟨fun σ H' => σ = [some (.ref a), some (.ref bg), some (.ref ia), some tv, some (.ref fo), some (lroot t 0), some (.ref mx), o7, o8, some mv, none, none, none, none, none, none, none, none, none, none] ∧ Mn H' ia ixs ps t tv ∧ Bag H' bg ct18 ∧ H' mx = some (.lst mxs) ∧ Are H' (qs.map itemD) mxs, ?_, ?_⟩
  · refine ⟨_, rfl, t2.d, mv, rfl, i2, twt2, fun b H20 hb s20 => ⟨_, rfl, ?_⟩⟩
    obtain rfl : b = true := hb.mpr ((valid_told t2).mpr tl2)
    refine ifF rfl ?_
    refine ⟨_, rfl, t2, mv, rfl, i2.same s20, tht2, (by omega), fun p xs H21 np hp hx s21 => ?_⟩
    have s21' := s20.trans s21
    have M21 := M19.same s21'
    refine ⟨_, rfl, p, ia, xs, ixs, rfl, rfl, .inl ⟨SqL.of hp, SqL.of M21.hi⟩, twt_items (ps := ps) (by rw [← et2]; exact hx) M21.hx, _, rfl, ifF rfl ?_⟩
    refine ⟨_, rfl, t2.d, mv, rfl, i2.same s21', twt2, fun t' e ht' H22 s22 => ?_, fun nv => absurd ((valid_told t2).mpr tl2) nv⟩
    obtain rfl := T.d_inj e
    have ss := s21'.trans s22
    have M22 := M19.same ss
    refine ⟨_, rfl, ia, ixs, rfl, .inl (SqL.of M22.hi), ps.length, (by rw [ixl]; rfl), (by omega), rfl, _, rfl, ifF ?_ ⟨rfl, M22, g19.same ss, ss _ _ hmx19, hqs19.same ss⟩⟩
    rw [ht2, el2, decide_eq_true rfl]
    rfl
  rintro σ H23 ⟨rfl, M23, g23, hmx23, hqs23⟩
  -- what is spoiled
  refine ⟨fun σ H' => ∃ (o6 o7 o8 o9 o10 o11 o12 o13 o14 o15 : Option V) (ct : Nat), σ = [some (.ref a), some (.ref bg), some (.ref ia), some tv, some (.ref fo), some (lroot t 0), o6, o7, o8, o9, o10, o11, o12, o13, o14, o15, none, none, none, none] ∧ Mn H' ia ixs ps t tv ∧ Bag H' bg ct ∧ ct ≤ 400, ?_, ?_⟩
  · refine ⟨_, rfl, rfl, _, rfl, ?_⟩
    by_cases hnil : t = .nil
    · have e : tv = .non := by
        have h := M23.ht
        rw [hnil] at h
        exact h
      refine ifF (by rw [e]; rfl) ⟨_, _, _, _, _, _, _, _, _, _, ct18, rfl, M23, g23, by omega⟩
    have hb : (!decide (tv = V.non)) = true := by
      cases t with
      | nil => exact absurd rfl hnil
      | node l k m r =>
        obtain ⟨x, xs, e, _⟩ := M23.ht
        rw [e]
        rfl
    have hp0 : 0 < ps.length := by
      cases t with
      | nil => exact absurd rfl hnil
      | node l k m r =>
        rw [← til, items_node]
        omega
    refine ifT hb ?_
    refine ⟨_, rfl, _, rfl, bg, ct18, t, tv, rfl, hnil, M23.ht, tht, (by omega), g23, (by omega), fun d ov H24 ct24 di bd wd g24 hc24 k24 => ?_⟩
    have nv := bad_valid bd
    have wd3 : D.wt d ≤ 3000 := by omega
    have M24 := M23.kept g23 k24
    have hmx24 := k24 _ _ hmx23 (lst_ne hmx23 g23)
    have hqs24 := are_kept k24 g23 hqs23
    refine ⟨sz4, fun la nla => ?_⟩
    have u25 := same_new nla (.lst [.ref gA, .ref gH, .ref gK, .ref gR])
    have m25 : (upd H24 la (.lst [.ref gA, .ref gH, .ref gK, .ref gR])) la = some (.lst [.ref gA, .ref gH, .ref gK, .ref gR]) := upd_same
    generalize upd H24 la (.lst [.ref gA, .ref gH, .ref gK, .ref gR]) = H25 at u25 m25 ⊢
    refine ⟨la, rfl, ⟨_, SqL.of m25⟩, for_list (K := K) (a := la) (xs := [.ref gA, .ref gH, .ref gK, .ref gR]) (fun i σ H' => ∃ (o11 : Option V), σ = [some (.ref a), some (.ref bg), some (.ref ia), some tv, some (.ref fo), some (lroot t 0), some (.ref mx), o7, o8, some mv, some ov, o11, none, none, none, none, none, none, none, none] ∧ Same H24 H' ∧ H' la = some (.lst [.ref gA, .ref gH, .ref gK, .ref gR]))
      ⟨none, rfl, u25, m25⟩ (fun i σ H' _ h => ?_) ?_ ?_⟩
    · obtain ⟨_, _, _, h⟩ := h
      exact SqL.of h
    · rintro i x σ H' hi ⟨o11, rfl, sm, hla⟩
      obtain ⟨g, rfl, hg⟩ : ∃ g, x = V.ref g ∧ g ∈ [gA, gH, gK, gR] := by
        have hm := List.mem_of_getElem? hi
        simp only [List.mem_cons, List.not_mem_nil, or_false] at hm ⊢
        rcases hm with rfl | rfl | rfl | rfl
        · exact ⟨_, rfl, .inl rfl⟩
        · exact ⟨_, rfl, .inr (.inl rfl)⟩
        · exact ⟨_, rfl, .inr (.inr (.inl rfl))⟩
        · exact ⟨_, rfl, .inr (.inr (.inr rfl))⟩
      refine ⟨_, rfl, d, ov, rfl, di.same sm, wd3, fun b Ha hb2 sa => ⟨_, rfl, ?_⟩⟩
      obtain rfl : b = false := by
        cases b with
        | false => rfl
        | true => exact absurd (hb2.mp rfl) nv
      refine ifF rfl ?_
      have sm2 := sm.trans sa
      refine ⟨_, rfl, _, rfl, g, d, ov, rfl, di.same sm2, act (di.same sm2) nv wd3 g hg, fun Hb sb => ⟨_, rfl, ifF rfl ?_⟩⟩
      exact ⟨_, rfl, sm2.trans sb, sb _ _ (sa _ _ hla)⟩
    rintro σ H26 ⟨o11, rfl, s26, _⟩
    have M26 := M24.same s26
    have g26 := g24.same s26
    have hmx26 := s26 _ _ hmx24
    have hqs26 := hqs24.same s26
    -- again
    have at_item : ∀ {H' : Hp} {j : Nat}, Mn H' ia ixs ps t tv → (hj : j < ps.length) → ∃ v, ixs[j]? = some v ∧ Is H' (itemD ps[j]) v := fun M hj => M.hx.at (by rw [List.getElem?_map, List.getElem?_eq_getElem hj]; rfl)
    refine ⟨_, rfl, _, rfl, _, rfl, _, rfl, ia, ixs, rfl, .inl (SqL.of M26.hi), bg, ct24, _, rfl, g26, (by omega), (by omega), dr (by omega) (by omega), fun v1 H27 y0 y1 g27 k27 _ => ?_⟩
    obtain ⟨j1, rfl⟩ := Int.eq_ofNat_of_zero_le y0
    have hj1 : j1 < ps.length := by omega
    have M27 := M26.kept g26 k27
    have hmx27 := k27 _ _ hmx26 (lst_ne hmx26 g26)
    have hqs27 := are_kept k27 g26 hqs26
    obtain ⟨w1, hw1, iw1⟩ := at_item M27 hj1
    refine ⟨ia, ixs, _, w1, rfl, rfl, SqL.of M27.hi, atI_nat hw1, sz1, fun c1 nc1 => ?_⟩
    have u28 := same_new nc1 (.lst [w1])
    have m28 : (upd H27 c1 (.lst [w1])) c1 = some (.lst [w1]) := upd_same
    generalize upd H27 c1 (.lst [w1]) = H28 at u28 m28 ⊢
    have M28 := M27.same u28
    refine ⟨ia, c1, ixs, [w1], rfl, rfl, M28.hi, m28, (by rw [ixl]; exact Nat.le_of_lt (small1000' (by show ps.length + 1 ≤ 4000; omega))), fun ag nag => ?_⟩
    have u29 := same_new nag (.lst (ixs ++ [w1]))
    have m29 : (upd H28 ag (.lst (ixs ++ [w1]))) ag = some (.lst (ixs ++ [w1])) := upd_same
    generalize upd H28 ag (.lst (ixs ++ [w1])) = H29 at u29 m29 ⊢
    have s29 := u28.trans u29
    have M29 := M28.same u29
    have g29 := g27.same s29
    have iag : Is H29 (.lst (ps.map itemD ++ [itemD ps[j1]])) (.ref ag) := ⟨ag, _, rfl, m29, M29.hx.append (are1 (iw1.same s29))⟩
    -- key, mark
    refine ⟨_, rfl, _, rfl, _, rfl, ia, ixs, rfl, .inl (SqL.of M29.hi), bg, ct24 + 1, _, rfl, g29, (by omega), (by omega), dr (by omega) (by omega), fun v2 H30 y2 y3 g30 k30 _ => ?_⟩
    obtain ⟨j2, rfl⟩ := Int.eq_ofNat_of_zero_le y2
    have hj2 : j2 < ps.length := by omega
    have M30 := M29.kept g29 k30
    have iag30 := is_kept k30 g29 iag
    have hmx30 := k30 _ _ (s29 _ _ hmx27) (lst_ne (s29 _ _ hmx27) g29)
    have hqs30 := are_kept k30 g29 (hqs27.same s29)
    obtain ⟨w2, hw2, iw2⟩ := at_item M30 hj2
    obtain ⟨aw, rfl, haw⟩ := (pairAt_is iw2).2
    refine ⟨ia, ixs, _, .ref aw, rfl, rfl, SqL.of M30.hi, atI_nat hw2, ?_⟩
    refine ⟨aw, _, rfl, SqT.of haw, rfl, _, _, rfl, _, _, rfl, rfl, ?_⟩
    -- the rows
    have len1 : ixs.length + 1 ≤ sizeLine := by rw [ixl]; exact Nat.le_of_lt (small1000' (by omega))
    refine ⟨_, rfl, _, rfl, sz1, fun c2 nc2 => ?_⟩
    have u31 := same_new nc2 (.lst [.non])
    have m31 : (upd H30 c2 (.lst [.non])) c2 = some (.lst [.non]) := upd_same
    generalize upd H30 c2 (.lst [.non]) = H31 at u31 m31 ⊢
    have M31 := M30.same u31
    refine ⟨ia, c2, ixs, [.non], rfl, rfl, M31.hi, m31, len1, fun r2 nr2 => ?_⟩
    have u32 := same_new nr2 (.lst (ixs ++ [.non]))
    have m32 : (upd H31 r2 (.lst (ixs ++ [.non]))) r2 = some (.lst (ixs ++ [.non])) := upd_same
    generalize upd H31 r2 (.lst (ixs ++ [.non])) = H32 at u32 m32 ⊢
    have M32 := M31.same u32
    have i2' : Is H32 (.lst (ps.map itemD ++ [.non])) (.ref r2) := ⟨r2, _, rfl, m32, M32.hx.append (are1 rfl)⟩
    have S32 := u31.trans u32
    refine ⟨_, rfl, _, rfl, sz2, fun t3 nt3 => ?_⟩
    have u33 := same_new nt3 (.tup [.int ps[j2].1, .int 99999])
    have m33 : (upd H32 t3 (.tup [.int ps[j2].1, .int 99999])) t3 = some (.tup [.int ps[j2].1, .int 99999]) := upd_same
    generalize upd H32 t3 (.tup [.int ps[j2].1, .int 99999]) = H33 at u33 m33 ⊢
    refine ⟨sz1, fun c3 nc3 => ?_⟩
    have u34 := same_new nc3 (.lst [.ref t3])
    have m34 : (upd H33 c3 (.lst [.ref t3])) c3 = some (.lst [.ref t3]) := upd_same
    generalize upd H33 c3 (.lst [.ref t3]) = H34 at u34 m34 ⊢
    have M34 := (M32.same u33).same u34
    refine ⟨ia, c3, ixs, [.ref t3], rfl, rfl, M34.hi, m34, len1, fun r3 nr3 => ?_⟩
    have u35 := same_new nr3 (.lst (ixs ++ [.ref t3]))
    have m35 : (upd H34 r3 (.lst (ixs ++ [.ref t3]))) r3 = some (.lst (ixs ++ [.ref t3])) := upd_same
    generalize upd H34 r3 (.lst (ixs ++ [.ref t3])) = H35 at u35 m35 ⊢
    have M35 := M34.same u35
    have i3 : Is H35 (.lst (ps.map itemD ++ [itemD (ps[j2].1, 99999)])) (.ref r3) := ⟨r3, _, rfl, m35, M35.hx.append (are1 (is_pair (p := (ps[j2].1, 99999)) (u35 _ _ (u34 _ _ m33))))⟩
    have S35 := ((S32.trans u33).trans u34).trans u35
    refine ⟨_, rfl, _, _, rfl, rfl, ⟨by decide, by decide, by decide⟩, _, rfl, sz2, fun t4 nt4 => ?_⟩
    have u36 := same_new nt4 (.tup [.int ((10 : Int) ^ ((41 : Int)).toNat), .int ps[j2].2])
    have m36 : (upd H35 t4 (.tup [.int ((10 : Int) ^ ((41 : Int)).toNat), .int ps[j2].2])) t4 = some (.tup [.int ((10 : Int) ^ ((41 : Int)).toNat), .int ps[j2].2]) := upd_same
    generalize upd H35 t4 (.tup [.int ((10 : Int) ^ ((41 : Int)).toNat), .int ps[j2].2]) = H36 at u36 m36 ⊢
    refine ⟨sz1, fun c4 nc4 => ?_⟩
    have u37 := same_new nc4 (.lst [.ref t4])
    have m37 : (upd H36 c4 (.lst [.ref t4])) c4 = some (.lst [.ref t4]) := upd_same
    generalize upd H36 c4 (.lst [.ref t4]) = H37 at u37 m37 ⊢
    have M37 := (M35.same u36).same u37
    refine ⟨ia, c4, ixs, [.ref t4], rfl, rfl, M37.hi, m37, len1, fun r4 nr4 => ?_⟩
    have u38 := same_new nr4 (.lst (ixs ++ [.ref t4]))
    have m38 : (upd H37 r4 (.lst (ixs ++ [.ref t4]))) r4 = some (.lst (ixs ++ [.ref t4])) := upd_same
    generalize upd H37 r4 (.lst (ixs ++ [.ref t4])) = H38 at u38 m38 ⊢
    have M38 := M37.same u38
    have i4 : Is H38 (.lst (ps.map itemD ++ [itemD ((10 : Int) ^ ((41 : Int)).toNat, ps[j2].2)])) (.ref r4) := ⟨r4, _, rfl, m38, M38.hx.append (are1 (is_pair (p := ((10 : Int) ^ ((41 : Int)).toNat, ps[j2].2)) (u38 _ _ (u37 _ _ m36))))⟩
    have S38 := ((S35.trans u36).trans u37).trans u38
    refine fun r8 nr8 => ?_
    have u39 := same_new nr8 (.dK [])
    have m39 : (upd H38 r8 (.dK [])) r8 = some (.dK []) := upd_same
    generalize upd H38 r8 (.dK []) = H39 at u39 m39 ⊢
    have i8 : Is H39 .dct (.ref r8) := ⟨r8, rfl, m39⟩
    refine ⟨sz8, fun rl nrl => ?_⟩
    have u40 := same_new nrl (.lst [.ref ag, .ref r2, .ref r3, .ref r4, .int 5, .str "ab", .non, .ref r8])
    have m40 : (upd H39 rl (.lst [.ref ag, .ref r2, .ref r3, .ref r4, .int 5, .str "ab", .non, .ref r8])) rl = some (.lst [.ref ag, .ref r2, .ref r3, .ref r4, .int 5, .str "ab", .non, .ref r8]) := upd_same
    generalize upd H39 rl (.lst [.ref ag, .ref r2, .ref r3, .ref r4, .int 5, .str "ab", .non, .ref r8]) = H40 at u40 m40 ⊢
    have S40 := (S38.trans u39).trans u40
    have M40 := M30.same S40
    have g40 := g30.same S40
    have hmx40 := S40 _ _ hmx30
    have hqs40 := hqs30.same S40
    refine ⟨_, rfl, _, rfl, bg, ct24 + 1 + 1, 8, rfl, g40, (by omega), (by decide), dr (by decide) (by decide), fun v3 H41 y4 y5 g41 k41 _ => ?_⟩
    have m41 := k41 _ _ m40 (lst_ne m40 g40)
    have M41 := M40.kept g40 k41
    have hmx41 := k41 _ _ hmx40 (lst_ne hmx40 g40)
    have hqs41 := are_kept k41 g40 hqs40
    obtain ⟨dj, vj, hvj, ij, nj⟩ : ∃ (dj : D) (vj : V), atI [V.ref ag, .ref r2, .ref r3, .ref r4, .int 5, .str "ab", .non, .ref r8] v3 = some vj ∧ Is H41 dj vj ∧ NoI dj := by
      obtain ⟨j, rfl⟩ := Int.eq_ofNat_of_zero_le y4
      have mem1 := List.getElem_mem hj1
      have mem2 := List.getElem_mem hj2
      obtain rfl | rfl | rfl | rfl | rfl | rfl | rfl | rfl := (by omega : j = 0 ∨ j = 1 ∨ j = 2 ∨ j = 3 ∨ j = 4 ∨ j = 5 ∨ j = 6 ∨ j = 7)
      · exact ⟨_, _, atI_nat (j := 0) rfl, is_kept k41 g40 (iag30.same S40), noI_key (by omega) mem1 rfl⟩
      · exact ⟨_, _, atI_nat (j := 1) rfl, is_kept k41 g40 (i2'.same ((((u33.trans u34).trans u35).trans ((u36.trans u37).trans u38)).trans (u39.trans u40))), noI_non (by omega)⟩
      · exact ⟨_, _, atI_nat (j := 2) rfl, is_kept k41 g40 (i3.same (((u36.trans u37).trans u38).trans (u39.trans u40))), noI_key (by omega) mem2 rfl⟩
      · exact ⟨_, _, atI_nat (j := 3) rfl, is_kept k41 g40 (i4.same (u39.trans u40)), noI_mark (by omega) mem2 rfl⟩
      · exact ⟨.int 5, _, atI_nat (j := 4) rfl, rfl, noI_scal rfl⟩
      · exact ⟨.str "ab", _, atI_nat (j := 5) rfl, rfl, noI_scal rfl⟩
      · exact ⟨.non, _, atI_nat (j := 6) rfl, rfl, noI_scal rfl⟩
      · exact ⟨.dct, _, atI_nat (j := 7) rfl, is_kept k41 g40 (i8.same u40), noI_scal rfl⟩
    refine ⟨rl, _, _, vj, rfl, rfl, SqL.of m41, hvj, gO, dj, vj, rfl, ij, actO ij nj, fun H42 s42 => ⟨_, rfl, ifF rfl ?_⟩⟩
    have hmx42 := s42 _ _ hmx41
    refine ⟨_, rfl, mx, mxs, rfl, .inl ⟨SqL.of hmx42, fun tm ntm => ?_⟩⟩
    have u43 := same_new ntm (.tup mxs)
    have m43 : (upd H42 tm (.tup mxs)) tm = some (.tup mxs) := upd_same
    generalize upd H42 tm (.tup mxs) = H43 at u43 m43 ⊢
    have s43 := s42.trans u43
    refine ⟨.tup (qs.map itemD), .ref tm, rfl, ⟨tm, mxs, rfl, m43, hqs41.same s43⟩, ofl rfl, fun ps3 t3' mv3 H44 e3 p3 tl3 ht3 i3' s44 => ?_, fun nA => absurd (areI_of hasc hmk pm (d := .tup (qs.map itemD)) rfl) nA⟩
    obtain ⟨et3, _⟩ := made_of (d := .tup (qs.map itemD)) rfl e3 p3 tl3
    have til3 : t3'.items.length = ps.length := by rw [et3]
    refine ⟨t3', mv3, rfl, i3', (by have := ht_le t3'; omega), (by omega), fun p xs H45 np hp hx s45 => ?_⟩
    have ss := (s43.trans s44).trans s45
    have M45 := M41.same ss
    refine ⟨_, rfl, p, ia, xs, ixs, rfl, rfl, .inl ⟨SqL.of hp, SqL.of M45.hi⟩, twt_items (ps := ps) (by rw [← et3]; exact hx) M45.hx, _, rfl, ifF rfl ?_⟩
    exact ⟨_, _, _, _, _, _, _, _, _, _, _, rfl, M45, g41.same ss, by omega⟩
  rintro σ H50 ⟨o6, o7', o8', o9, o10, o11, o12, o13, o14, o15, ct50, rfl, M50, g50, hct50⟩
  -- two items exchanged
  refine ⟨fun σ H' => ∃ (o6 o7 o8 o9 o10 o11 o12 o13 o14 o15 o16 o17 o18 : Option V) (ct : Nat), σ = [some (.ref a), some (.ref bg), some (.ref ia), some tv, some (.ref fo), some (lroot t 0), o6, o7, o8, o9, o10, o11, o12, o13, o14, o15, o16, o17, o18, none] ∧ Bag H' bg ct ∧ ct ≤ 500, ?_, ?_⟩
  · refine ⟨_, rfl, ia, ixs, rfl, .inl (SqL.of M50.hi), _, _, rfl, rfl, _, rfl, ?_⟩
    refine if2 (fun c => ?_) (fun c => ⟨_, _, _, _, _, _, _, _, _, _, _, _, _, _, rfl, g50, by omega⟩)
    have hn2 : 2 ≤ ps.length := by
      have c' : ((ixs.length : Nat) : Int) > 1 := of_decide_eq_true c
      omega
    refine ⟨_, rfl, _, rfl, ia, ixs, rfl, .inl (SqL.of M50.hi), bg, ct50, _, rfl, g50, (by omega), (by omega), dr (by omega) (by omega), fun v1 H51 y0 y1 g51 k51 _ => ?_⟩
    obtain ⟨one, rfl⟩ := Int.eq_ofNat_of_zero_le y0
    have hone : one < ps.length := by omega
    have M51 := M50.kept g50 k51
    refine ⟨_, rfl, _, _, rfl, rfl, _, rfl, _, rfl, ia, ixs, rfl, .inl (SqL.of M51.hi), _, _, rfl, rfl, bg, ct50 + 1, ((ixs.length : Nat) : Int) - 1, rfl, g51, (by omega), (by omega), dr (by omega) (by omega), fun v2 H52 y2 y3 g52 k52 _ => ?_⟩
    obtain ⟨dv, rfl⟩ := Int.eq_ofNat_of_zero_le y2
    have M52 := M51.kept g51 k52
    obtain ⟨two, etwo, htwo, hne⟩ := two_of (n := ixs.length) (one := one) (v := dv) (by omega) (by omega)
    rw [ixl] at htwo
    refine ⟨_, _, rfl, rfl, .inl ⟨_, rfl, _, rfl, ia, ixs, rfl, .inl (SqL.of M52.hi), _, _, rfl, rfl, (by show (0 : Int) < ((ixs.length : Nat) : Int); omega), ?_⟩⟩
    dsimp only
    rw [etwo]
    refine ⟨_, rfl, ia, ixs, rfl, .inl (SqL.of M52.hi), fun ot not_ => ?_⟩
    have u53 := same_new not_ (.lst ixs)
    have m53 : (upd H52 ot (.lst ixs)) ot = some (.lst ixs) := upd_same
    generalize upd H52 ot (.lst ixs) = H53 at u53 m53 ⊢
    have M53 := M52.same u53
    obtain ⟨x2, hx2, ix2⟩ : ∃ v, ixs[two]? = some v ∧ Is H52 (itemD ps[two]) v := M52.hx.at (by rw [List.getElem?_map, List.getElem?_eq_getElem htwo]; rfl)
    obtain ⟨x1, hx1, ix1⟩ : ∃ v, ixs[one]? = some v ∧ Is H52 (itemD ps[one]) v := M52.hx.at (by rw [List.getElem?_map, List.getElem?_eq_getElem hone]; rfl)
    refine ⟨_, rfl, _, rfl, ia, ixs, _, x2, rfl, rfl, SqL.of M53.hi, atI_nat hx2, _, rfl, _, rfl, ia, ixs, _, x1, rfl, rfl, SqL.of M53.hi, atI_nat hx1, sz2, fun tp ntp => ?_⟩
    have u54 := same_new ntp (.tup [x2, x1])
    have m54 : (upd H53 tp (.tup [x2, x1])) tp = some (.tup [x2, x1]) := upd_same
    generalize upd H53 tp (.tup [x2, x1]) = H54 at u54 m54 ⊢
    have m54' := u54 _ _ m53
    refine ⟨tp, _, rfl, SqT.of m54, rfl, _, _, rfl, _, rfl, _, rfl, ot, ixs, _, one, rfl, rfl, m54', ixN_nat (by omega), ?_⟩
    have m55 : (upd H54 ot (.lst (ixs.set one x2))) ot = some (.lst (ixs.set one x2)) := upd_same
    have s55 : ∀ b o, b ≠ ot → H54 b = some o → (upd H54 ot (.lst (ixs.set one x2))) b = some o := fun b o hb e => by rw [upd_ne hb]; exact e
    generalize upd H54 ot (.lst (ixs.set one x2)) = H55 at m55 s55 ⊢
    refine ⟨_, _, rfl, _, rfl, _, rfl, ot, _, _, two, rfl, rfl, m55, ixN_nat (by rw [List.length_set]; omega), rfl, ?_⟩
    have m56 : (upd H55 ot (.lst ((ixs.set one x2).set two x1))) ot = some (.lst ((ixs.set one x2).set two x1)) := upd_same
    have s56 : Same H52 (upd H55 ot (.lst ((ixs.set one x2).set two x1))) := fun b o e => by
      have hb : b ≠ ot := ne_of_none e not_
      rw [upd_ne hb]
      exact s55 b o hb (u54 _ _ (u53 _ _ e))
    generalize upd H55 ot (.lst ((ixs.set one x2).set two x1)) = H56 at m56 s56 ⊢
    have M56 := M52.same s56
    have g56 := g52.same s56
    have ha56 : Are H56 (((ps.set one ps[two]).set two ps[one]).map itemD) ((ixs.set one x2).set two x1) := by
      rw [List.map_set, List.map_set]
      exact are_set (are_set M56.hx (ix2.same s56)) (ix1.same s56)
    refine ⟨_, rfl, _, rfl, t, tv, ot, _, _, rfl, M56.ht, tht, (by omega), m56, ha56, (by rw [List.length_set, List.length_set, til]), fun t' ov H57 et' it' s57 => ?_⟩
    have nv : ¬ Valid t'.d := fun v => by
      have h := ((valid_told t').mp v).1
      rw [et'] at h
      exact not_asc hasc hone htwo (Ne.symm hne) h
    have wt' : D.wt t'.d ≤ 3000 := by
      rw [T.d_wt, et', List.length_set, List.length_set]
      omega
    refine ⟨_, rfl, t'.d, ov, rfl, it', wt', fun b H58 hb s58 => ⟨_, rfl, ?_⟩⟩
    obtain rfl : b = false := by
      cases b with
      | false => rfl
      | true => exact absurd (hb.mp rfl) nv
    refine ifF rfl ?_
    refine ⟨sz4, fun la nla => ?_⟩
    have u59 := same_new nla (.lst [.ref gA, .ref gH, .ref gK, .ref gR])
    have m59 : (upd H58 la (.lst [.ref gA, .ref gH, .ref gK, .ref gR])) la = some (.lst [.ref gA, .ref gH, .ref gK, .ref gR]) := upd_same
    generalize upd H58 la (.lst [.ref gA, .ref gH, .ref gK, .ref gR]) = H59 at u59 m59 ⊢
    have s59 := (s57.trans s58).trans u59
    have g59 := g56.same s59
    refine ⟨_, rfl, bg, ct50 + 1 + 1, 4, rfl, g59, (by omega), (by decide), dr (by decide) (by decide), fun v3 H60 y4 y5 g60 k60 _ => ?_⟩
    have m60 := k60 _ _ m59 (lst_ne m59 g59)
    have it60 := is_kept k60 g59 (it'.same (s58.trans u59))
    obtain ⟨gx, hgx, mgx⟩ : ∃ gx : Addr, atI [V.ref gA, .ref gH, .ref gK, .ref gR] v3 = some (.ref gx) ∧ gx ∈ [gA, gH, gK, gR] := by
      obtain ⟨j, rfl⟩ := Int.eq_ofNat_of_zero_le y4
      obtain rfl | rfl | rfl | rfl := (by omega : j = 0 ∨ j = 1 ∨ j = 2 ∨ j = 3)
      · exact ⟨gA, atI_nat (j := 0) rfl, by simp⟩
      · exact ⟨gH, atI_nat (j := 1) rfl, by simp⟩
      · exact ⟨gK, atI_nat (j := 2) rfl, by simp⟩
      · exact ⟨gR, atI_nat (j := 3) rfl, by simp⟩
    refine ⟨la, _, _, _, rfl, rfl, SqL.of m60, hgx, _, rfl, gx, t'.d, ov, rfl, it60, act it60 nv wt' gx mgx, fun H61 s61 => ⟨_, rfl, ifF rfl ?_⟩⟩
    exact ⟨_, _, _, _, _, _, _, _, _, _, _, _, _, _, rfl, g60.same s61, by omega⟩
  rintro σ H70 ⟨p6, p7, p8, p9, p10, p11, p12, p13, p14, p15, p16, p17, p18, ct70, rfl, g70, hct70⟩
  -- what is strange
  refine ⟨sz0, fun z1 nz1 => ?_⟩
  have u71 := same_new nz1 (.lst [])
  have i71 : Is (upd H70 z1 (.lst [])) (.lst []) (.ref z1) := ⟨z1, [], rfl, upd_same, rfl⟩
  refine fun z2 nz2 => ?_
  generalize upd H70 z1 (.lst []) = H71 at u71 i71 nz2 ⊢
  have u72 := same_new nz2 (.dK [])
  have i72 : Is (upd H71 z2 (.dK [])) .dct (.ref z2) := ⟨z2, rfl, upd_same⟩
  refine ⟨sz5, fun z3 nz3 => ?_⟩
  generalize upd H71 z2 (.dK []) = H72 at u72 i72 nz3 ⊢
  have u73 := same_new nz3 (.lst [.int 5, .str "tree", .ref z1, .ref z2, .bl true])
  have m73 : (upd H72 z3 (.lst [.int 5, .str "tree", .ref z1, .ref z2, .bl true])) z3 = some (.lst [.int 5, .str "tree", .ref z1, .ref z2, .bl true]) := upd_same
  generalize upd H72 z3 (.lst [.int 5, .str "tree", .ref z1, .ref z2, .bl true]) = H73 at u73 m73 ⊢
  have g73 := g70.same ((u71.trans u72).trans u73)
  refine ⟨_, rfl, bg, ct70, 5, rfl, g73, (by omega), (by decide), dr (by decide) (by decide), fun v9 H74 y8 y9 g74 k74 _ => ?_⟩
  have m74 := k74 _ _ m73 (lst_ne m73 g73)
  obtain ⟨dz, vz, hvz, iz, bz, wz⟩ : ∃ (dz : D) (vz : V), atI [V.int 5, .str "tree", .ref z1, .ref z2, .bl true] v9 = some vz ∧ Is H74 dz vz ∧ BadD dz ∧ D.wt dz = 1 := by
    obtain ⟨j, rfl⟩ := Int.eq_ofNat_of_zero_le y8
    obtain rfl | rfl | rfl | rfl | rfl := (by omega : j = 0 ∨ j = 1 ∨ j = 2 ∨ j = 3 ∨ j = 4)
    · exact ⟨.int 5, _, atI_nat (j := 0) rfl, rfl, bad_form rfl (by intro z; cases z), wt_one fun l i r z => by cases z⟩
    · exact ⟨.str "tree", _, atI_nat (j := 1) rfl, rfl, bad_form rfl (by intro z; cases z), wt_one fun l i r z => by cases z⟩
    · exact ⟨.lst [], _, atI_nat (j := 2) rfl, is_kept k74 g73 (i71.same (u72.trans u73)), bad_form rfl (by intro z; cases z), wt_one fun l i r z => by cases z⟩
    · exact ⟨.dct, _, atI_nat (j := 3) rfl, is_kept k74 g73 (i72.same u73), bad_form rfl (by intro z; cases z), wt_one fun l i r z => by cases z⟩
    · exact ⟨.bl true, _, atI_nat (j := 4) rfl, rfl, bad_form rfl (by intro z; cases z), wt_one fun l i r z => by cases z⟩
  have nz := bad_valid bz
  refine ⟨z3, _, _, vz, rfl, rfl, SqL.of m74, hvz, ?_⟩
  refine ⟨_, rfl, dz, vz, rfl, iz, (by omega), fun b H75 hb s75 => ⟨_, rfl, ?_⟩⟩
  obtain rfl : b = false := by
    cases b with
    | false => rfl
    | true => exact absurd (hb.mp rfl) nz
  refine ⟨_, rfl, ifT rfl ?_⟩
  exact ⟨_, rfl, gH, dz, vz, rfl, iz.same s75, act (iz.same s75) nz (by omega) gH (by simp), fun H76 _ => q H76⟩
end
end K40
namespace K40
open PySem PySem.Spec PyProof.Rows L2 Xc Dt
/-! ### the end: what the top has written -/
theorem all_mk {l : PySem.W.OpenLaw} {w : World} {K : PySem.W.Frag} {h : Heap} {mg : Str → Option Value} {fa : Addr} (X : K.In h) (G : h.Ns mainGlobals mg) (hfa : mg "law" = some (.ref fa))
    {CT : Addr} {nmT qT : Str} {NT : Addr} {bsT : List Value} {snT : List Str} {subT : List Value} {abT : Bool} {colT : Option Bool} {ddT : Option Addr} {m0T m1T m2T m3T m5T : Option Value}
    {CB : Addr} {nmB qB : Str} {NB : Addr} {bsB : List Value} {snB : List Str} {subB : List Value} {abB : Bool} {colB : Option Bool} {ddB : Option Addr} {m0B m1B m2B m3B m5B : Option Value}
    {fI : Addr} {odI anI : Option Addr} {slI : Array (Option Value)} {ocI kVI dcI pmI cdI ctI : Value}
    {fD4 : Addr} {odD4 anD4 : Option Addr} {slD4 : Array (Option Value)} {ocD4 kVD4 dcD4 pmD4 cdD4 ctD4 : Value}
    {fD5 : Addr} {odD5 anD5 : Option Addr} {slD5 : Array (Option Value)} {ocD5 kVD5 dcD5 pmD5 cdD5 ctD5 : Value}
    {fD6 : Addr} {odD6 anD6 : Option Addr} {slD6 : Array (Option Value)} {ocD6 kVD6 dcD6 pmD6 cdD6 ctD6 : Value}
    {fD7 : Addr} {odD7 anD7 : Option Addr} {slD7 : Array (Option Value)} {ocD7 kVD7 dcD7 pmD7 cdD7 ctD7 : Value}
    {fD8 : Addr} {odD8 anD8 : Option Addr} {slD8 : Array (Option Value)} {ocD8 kVD8 dcD8 pmD8 cdD8 ctD8 : Value}
    {fD9 : Addr} {odD9 anD9 : Option Addr} {slD9 : Array (Option Value)} {ocD9 kVD9 dcD9 pmD9 cdD9 ctD9 : Value}
    {fD10 : Addr} {odD10 anD10 : Option Addr} {slD10 : Array (Option Value)} {ocD10 kVD10 dcD10 pmD10 cdD10 ctD10 : Value}
    {fD11 : Addr} {odD11 anD11 : Option Addr} {slD11 : Array (Option Value)} {ocD11 kVD11 dcD11 pmD11 cdD11 ctD11 : Value}
    {fD12 : Addr} {odD12 anD12 : Option Addr} {slD12 : Array (Option Value)} {ocD12 kVD12 dcD12 pmD12 cdD12 ctD12 : Value}
    {fD13 : Addr} {odD13 anD13 : Option Addr} {slD13 : Array (Option Value)} {ocD13 kVD13 dcD13 pmD13 cdD13 ctD13 : Value}
    {fD14 : Addr} {odD14 anD14 : Option Addr} {slD14 : Array (Option Value)} {ocD14 kVD14 dcD14 pmD14 cdD14 ctD14 : Value}
    {fD15 : Addr} {odD15 anD15 : Option Addr} {slD15 : Array (Option Value)} {ocD15 kVD15 dcD15 pmD15 cdD15 ctD15 : Value}
    {fD16 : Addr} {odD16 anD16 : Option Addr} {slD16 : Array (Option Value)} {ocD16 kVD16 dcD16 pmD16 cdD16 ctD16 : Value}
    {fD17 : Addr} {odD17 anD17 : Option Addr} {slD17 : Array (Option Value)} {ocD17 kVD17 dcD17 pmD17 cdD17 ctD17 : Value}
    {fD18 : Addr} {odD18 anD18 : Option Addr} {slD18 : Array (Option Value)} {ocD18 kVD18 dcD18 pmD18 cdD18 ctD18 : Value}
    {fD20 : Addr} {odD20 anD20 : Option Addr} {slD20 : Array (Option Value)} {ocD20 kVD20 dcD20 pmD20 cdD20 ctD20 : Value}
    {fD21 : Addr} {odD21 anD21 : Option Addr} {slD21 : Array (Option Value)} {ocD21 kVD21 dcD21 pmD21 cdD21 ctD21 : Value}
    {fD22 : Addr} {odD22 anD22 : Option Addr} {slD22 : Array (Option Value)} {ocD22 kVD22 dcD22 pmD22 cdD22 ctD22 : Value}
    {fD23 : Addr} {odD23 anD23 : Option Addr} {slD23 : Array (Option Value)} {ocD23 kVD23 dcD23 pmD23 cdD23 ctD23 : Value}
    {fD24 : Addr} {odD24 anD24 : Option Addr} {slD24 : Array (Option Value)} {ocD24 kVD24 dcD24 pmD24 cdD24 ctD24 : Value}
    {fD25 : Addr} {odD25 anD25 : Option Addr} {slD25 : Array (Option Value)} {ocD25 kVD25 dcD25 pmD25 cdD25 ctD25 : Value}
    {fD26 : Addr} {odD26 anD26 : Option Addr} {slD26 : Array (Option Value)} {ocD26 kVD26 dcD26 pmD26 cdD26 ctD26 : Value}
    {fD27 : Addr} {odD27 anD27 : Option Addr} {slD27 : Array (Option Value)} {ocD27 kVD27 dcD27 pmD27 cdD27 ctD27 : Value}
    {fD28 : Addr} {odD28 anD28 : Option Addr} {slD28 : Array (Option Value)} {ocD28 kVD28 dcD28 pmD28 cdD28 ctD28 : Value}
    {fD29 : Addr} {odD29 anD29 : Option Addr} {slD29 : Array (Option Value)} {ocD29 kVD29 dcD29 pmD29 cdD29 ctD29 : Value}
    {fD30 : Addr} {odD30 anD30 : Option Addr} {slD30 : Array (Option Value)} {ocD30 kVD30 dcD30 pmD30 cdD30 ctD30 : Value}
    {fD31 : Addr} {odD31 anD31 : Option Addr} {slD31 : Array (Option Value)} {ocD31 kVD31 dcD31 pmD31 cdD31 ctD31 : Value}
    (gT : PySem.W.nsIn K mainGlobals "TreeError" = some (some (.ref CT)))
    (xT : K.lookup CT = some (excClassObj nmT qT CT NT bsT [.type "ValueError", .type "Exception", .type "BaseException", .type "object"] true snT subT abT colT ddT m0T m1T m2T m3T m5T "ValueError.__new__"))
    (saT : PySem.W.findIn K (.ref CT) "__setattr__" = some (some (.builtin "object.__setattr__")))
    (gaT : PySem.W.findIn K (.ref CT) "__getattribute__" = some (some (.builtin "BaseException.__getattribute__")))
    (ggT : PySem.W.findIn K (.ref CT) "__getattr__" = some none)
    (gcT : PySem.W.findIn K (.ref CT) "__class__" = some (some (.builtin "object.__class__")))
    (tyT : PySem.W.typeIn K (.ref CT) = some (.type "type"))
    (kpT : PySem.W.keepIn K (.ref CT) = true)
    (gB : PySem.W.nsIn K mainGlobals "BadTree" = some (some (.ref CB)))
    (xB : K.lookup CB = some (excClassObj nmB qB CB NB bsB [.ref CT, .type "ValueError", .type "Exception", .type "BaseException", .type "object"] true snB subB abB colB ddB m0B m1B m2B m3B m5B "ValueError.__new__"))
    (saB : PySem.W.findIn K (.ref CB) "__setattr__" = some (some (.builtin "object.__setattr__")))
    (gaB : PySem.W.findIn K (.ref CB) "__getattribute__" = some (some (.builtin "BaseException.__getattribute__")))
    (ggB : PySem.W.findIn K (.ref CB) "__getattr__" = some none)
    (gcB : PySem.W.findIn K (.ref CB) "__class__" = some (some (.builtin "object.__class__")))
    (tyB : PySem.W.typeIn K (.ref CB) = some (.type "type"))
    (kpB : PySem.W.keepIn K (.ref CB) = true)
    (noB : PySem.W.findIn K (.ref CB) "tree" = some none)
    (aI : PySem.W.findIn K (.ref CB) "__init__" = some (some (.ref fI)))
    (lI : K.lookup fI = some ⟨ocI, odI, .func (PySem.W.fnOf "__init__" "BadTree.__init__" (defArgs (inClass (top 2) 0)) (defBody (inClass (top 2) 0)) (defScope (inClass (top 2) 0)) .none kVI dcI pmI anI cdI ctI), slI⟩)
    (cI : PySem.W.codeIn K cdI "BadTree.__init__" = true)
    (kI : PySem.W.keepIn K (.ref fI) = true)
    (tI : PySem.W.typeIn K (.ref fI) = some (.type "function"))
    (aD4 : PySem.W.nsIn K mainGlobals "is_integer" = some (some (.ref fD4)))
    (lD4 : K.lookup fD4 = some ⟨ocD4, odD4, .func (PySem.W.fnOf "is_integer" "is_integer" (defArgs (top 4)) (defBody (top 4)) (defScope (top 4)) .none kVD4 dcD4 pmD4 anD4 cdD4 ctD4), slD4⟩)
    (cD4 : PySem.W.codeIn K cdD4 "is_integer" = true)
    (kD4 : PySem.W.keepIn K (.ref fD4) = true)
    (aD5 : PySem.W.nsIn K mainGlobals "is_item" = some (some (.ref fD5)))
    (lD5 : K.lookup fD5 = some ⟨ocD5, odD5, .func (PySem.W.fnOf "is_item" "is_item" (defArgs (top 5)) (defBody (top 5)) (defScope (top 5)) .none kVD5 dcD5 pmD5 anD5 cdD5 ctD5), slD5⟩)
    (cD5 : PySem.W.codeIn K cdD5 "is_item" = true)
    (kD5 : PySem.W.keepIn K (.ref fD5) = true)
    (aD6 : PySem.W.nsIn K mainGlobals "is_node" = some (some (.ref fD6)))
    (lD6 : K.lookup fD6 = some ⟨ocD6, odD6, .func (PySem.W.fnOf "is_node" "is_node" (defArgs (top 6)) (defBody (top 6)) (defScope (top 6)) .none kVD6 dcD6 pmD6 anD6 cdD6 ctD6), slD6⟩)
    (cD6 : PySem.W.codeIn K cdD6 "is_node" = true)
    (kD6 : PySem.W.keepIn K (.ref fD6) = true)
    (aD7 : PySem.W.nsIn K mainGlobals "lies_between" = some (some (.ref fD7)))
    (lD7 : K.lookup fD7 = some ⟨ocD7, odD7, .func (PySem.W.fnOf "lies_between" "lies_between" (defArgs (top 7)) (defBody (top 7)) (defScope (top 7)) .none kVD7 dcD7 pmD7 anD7 cdD7 ctD7), slD7⟩)
    (cD7 : PySem.W.codeIn K cdD7 "lies_between" = true)
    (kD7 : PySem.W.keepIn K (.ref fD7) = true)
    (aD8 : PySem.W.nsIn K mainGlobals "is_told" = some (some (.ref fD8)))
    (lD8 : K.lookup fD8 = some ⟨ocD8, odD8, .func (PySem.W.fnOf "is_told" "is_told" (defArgs (top 8)) (defBody (top 8)) (defScope (top 8)) .none kVD8 dcD8 pmD8 anD8 cdD8 ctD8), slD8⟩)
    (cD8 : PySem.W.codeIn K cdD8 "is_told" = true)
    (kD8 : PySem.W.keepIn K (.ref fD8) = true)
    (aD9 : PySem.W.nsIn K mainGlobals "nodes_of" = some (some (.ref fD9)))
    (lD9 : K.lookup fD9 = some ⟨ocD9, odD9, .func (PySem.W.fnOf "nodes_of" "nodes_of" (defArgs (top 9)) (defBody (top 9)) (defScope (top 9)) .none kVD9 dcD9 pmD9 anD9 cdD9 ctD9), slD9⟩)
    (cD9 : PySem.W.codeIn K cdD9 "nodes_of" = true)
    (kD9 : PySem.W.keepIn K (.ref fD9) = true)
    (aD10 : PySem.W.nsIn K mainGlobals "all_items" = some (some (.ref fD10)))
    (lD10 : K.lookup fD10 = some ⟨ocD10, odD10, .func (PySem.W.fnOf "all_items" "all_items" (defArgs (top 10)) (defBody (top 10)) (defScope (top 10)) .none kVD10 dcD10 pmD10 anD10 cdD10 ctD10), slD10⟩)
    (cD10 : PySem.W.codeIn K cdD10 "all_items" = true)
    (kD10 : PySem.W.keepIn K (.ref fD10) = true)
    (aD11 : PySem.W.nsIn K mainGlobals "height" = some (some (.ref fD11)))
    (lD11 : K.lookup fD11 = some ⟨ocD11, odD11, .func (PySem.W.fnOf "height" "height" (defArgs (top 11)) (defBody (top 11)) (defScope (top 11)) .none kVD11 dcD11 pmD11 anD11 cdD11 ctD11), slD11⟩)
    (cD11 : PySem.W.codeIn K cdD11 "height" = true)
    (kD11 : PySem.W.keepIn K (.ref fD11) = true)
    (aD12 : PySem.W.nsIn K mainGlobals "numbers_of" = some (some (.ref fD12)))
    (lD12 : K.lookup fD12 = some ⟨ocD12, odD12, .func (PySem.W.fnOf "numbers_of" "numbers_of" (defArgs (top 12)) (defBody (top 12)) (defScope (top 12)) .none kVD12 dcD12 pmD12 anD12 cdD12 ctD12), slD12⟩)
    (cD12 : PySem.W.codeIn K cdD12 "numbers_of" = true)
    (kD12 : PySem.W.keepIn K (.ref fD12) = true)
    (aD13 : PySem.W.nsIn K mainGlobals "number_in" = some (some (.ref fD13)))
    (lD13 : K.lookup fD13 = some ⟨ocD13, odD13, .func (PySem.W.fnOf "number_in" "number_in" (defArgs (top 13)) (defBody (top 13)) (defScope (top 13)) .none kVD13 dcD13 pmD13 anD13 cdD13 ctD13), slD13⟩)
    (cD13 : PySem.W.codeIn K cdD13 "number_in" = true)
    (kD13 : PySem.W.keepIn K (.ref fD13) = true)
    (aD14 : PySem.W.nsIn K mainGlobals "root_of" = some (some (.ref fD14)))
    (lD14 : K.lookup fD14 = some ⟨ocD14, odD14, .func (PySem.W.fnOf "root_of" "root_of" (defArgs (top 14)) (defBody (top 14)) (defScope (top 14)) .none kVD14 dcD14 pmD14 anD14 cdD14 ctD14), slD14⟩)
    (cD14 : PySem.W.codeIn K cdD14 "root_of" = true)
    (kD14 : PySem.W.keepIn K (.ref fD14) = true)
    (aD15 : PySem.W.nsIn K mainGlobals "links" = some (some (.ref fD15)))
    (lD15 : K.lookup fD15 = some ⟨ocD15, odD15, .func (PySem.W.fnOf "links" "links" (defArgs (top 15)) (defBody (top 15)) (defScope (top 15)) .none kVD15 dcD15 pmD15 anD15 cdD15 ctD15), slD15⟩)
    (cD15 : PySem.W.codeIn K cdD15 "links" = true)
    (kD15 : PySem.W.keepIn K (.ref fD15) = true)
    (aD16 : PySem.W.nsIn K mainGlobals "are_items" = some (some (.ref fD16)))
    (lD16 : K.lookup fD16 = some ⟨ocD16, odD16, .func (PySem.W.fnOf "are_items" "are_items" (defArgs (top 16)) (defBody (top 16)) (defScope (top 16)) .none kVD16 dcD16 pmD16 anD16 cdD16 ctD16), slD16⟩)
    (cD16 : PySem.W.codeIn K cdD16 "are_items" = true)
    (kD16 : PySem.W.keepIn K (.ref fD16) = true)
    (aD17 : PySem.W.nsIn K mainGlobals "of_items" = some (some (.ref fD17)))
    (lD17 : K.lookup fD17 = some ⟨ocD17, odD17, .func (PySem.W.fnOf "of_items" "of_items" (defArgs (top 17)) (defBody (top 17)) (defScope (top 17)) .none kVD17 dcD17 pmD17 anD17 cdD17 ctD17), slD17⟩)
    (cD17 : PySem.W.codeIn K cdD17 "of_items" = true)
    (kD17 : PySem.W.keepIn K (.ref fD17) = true)
    (aD18 : PySem.W.nsIn K mainGlobals "halved" = some (some (.ref fD18)))
    (lD18 : K.lookup fD18 = some ⟨ocD18, odD18, .func (PySem.W.fnOf "halved" "halved" (defArgs (top 18)) (defBody (top 18)) (defScope (top 18)) .none kVD18 dcD18 pmD18 anD18 cdD18 ctD18), slD18⟩)
    (cD18 : PySem.W.codeIn K cdD18 "halved" = true)
    (kD18 : PySem.W.keepIn K (.ref fD18) = true)
    (aD20 : PySem.W.nsIn K mainGlobals "_law_bag" = some (some (.ref fD20)))
    (lD20 : K.lookup fD20 = some ⟨ocD20, odD20, .func (PySem.W.fnOf "_law_bag" "_law_bag" (defArgs (top 20)) (defBody (top 20)) (defScope (top 20)) .none kVD20 dcD20 pmD20 anD20 cdD20 ctD20), slD20⟩)
    (cD20 : PySem.W.codeIn K cdD20 "_law_bag" = true)
    (kD20 : PySem.W.keepIn K (.ref fD20) = true)
    (aD21 : PySem.W.nsIn K mainGlobals "_law_draw" = some (some (.ref fD21)))
    (lD21 : K.lookup fD21 = some ⟨ocD21, odD21, .func (PySem.W.fnOf "_law_draw" "_law_draw" (defArgs (top 21)) (defBody (top 21)) (defScope (top 21)) .none kVD21 dcD21 pmD21 anD21 cdD21 ctD21), slD21⟩)
    (cD21 : PySem.W.codeIn K cdD21 "_law_draw" = true)
    (kD21 : PySem.W.keepIn K (.ref fD21) = true)
    (aD22 : PySem.W.nsIn K mainGlobals "_law_tree" = some (some (.ref fD22)))
    (lD22 : K.lookup fD22 = some ⟨ocD22, odD22, .func (PySem.W.fnOf "_law_tree" "_law_tree" (defArgs (top 22)) (defBody (top 22)) (defScope (top 22)) .none kVD22 dcD22 pmD22 anD22 cdD22 ctD22), slD22⟩)
    (cD22 : PySem.W.codeIn K cdD22 "_law_tree" = true)
    (kD22 : PySem.W.keepIn K (.ref fD22) = true)
    (aD23 : PySem.W.nsIn K mainGlobals "_law_row" = some (some (.ref fD23)))
    (lD23 : K.lookup fD23 = some ⟨ocD23, odD23, .func (PySem.W.fnOf "_law_row" "_law_row" (defArgs (top 23)) (defBody (top 23)) (defScope (top 23)) .none kVD23 dcD23 pmD23 anD23 cdD23 ctD23), slD23⟩)
    (cD23 : PySem.W.codeIn K cdD23 "_law_row" = true)
    (kD23 : PySem.W.keepIn K (.ref fD23) = true)
    (aD24 : PySem.W.nsIn K mainGlobals "_law_items" = some (some (.ref fD24)))
    (lD24 : K.lookup fD24 = some ⟨ocD24, odD24, .func (PySem.W.fnOf "_law_items" "_law_items" (defArgs (top 24)) (defBody (top 24)) (defScope (top 24)) .none kVD24 dcD24 pmD24 anD24 cdD24 ctD24), slD24⟩)
    (cD24 : PySem.W.codeIn K cdD24 "_law_items" = true)
    (kD24 : PySem.W.keepIn K (.ref fD24) = true)
    (aD25 : PySem.W.nsIn K mainGlobals "_law_height" = some (some (.ref fD25)))
    (lD25 : K.lookup fD25 = some ⟨ocD25, odD25, .func (PySem.W.fnOf "_law_height" "_law_height" (defArgs (top 25)) (defBody (top 25)) (defScope (top 25)) .none kVD25 dcD25 pmD25 anD25 cdD25 ctD25), slD25⟩)
    (cD25 : PySem.W.codeIn K cdD25 "_law_height" = true)
    (kD25 : PySem.W.keepIn K (.ref fD25) = true)
    (aD26 : PySem.W.nsIn K mainGlobals "_law_links" = some (some (.ref fD26)))
    (lD26 : K.lookup fD26 = some ⟨ocD26, odD26, .func (PySem.W.fnOf "_law_links" "_law_links" (defArgs (top 26)) (defBody (top 26)) (defScope (top 26)) .none kVD26 dcD26 pmD26 anD26 cdD26 ctD26), slD26⟩)
    (cD26 : PySem.W.codeIn K cdD26 "_law_links" = true)
    (kD26 : PySem.W.keepIn K (.ref fD26) = true)
    (aD27 : PySem.W.nsIn K mainGlobals "_law_spoiled" = some (some (.ref fD27)))
    (lD27 : K.lookup fD27 = some ⟨ocD27, odD27, .func (PySem.W.fnOf "_law_spoiled" "_law_spoiled" (defArgs (top 27)) (defBody (top 27)) (defScope (top 27)) .none kVD27 dcD27 pmD27 anD27 cdD27 ctD27), slD27⟩)
    (cD27 : PySem.W.codeIn K cdD27 "_law_spoiled" = true)
    (kD27 : PySem.W.keepIn K (.ref fD27) = true)
    (aD28 : PySem.W.nsIn K mainGlobals "_law_filled" = some (some (.ref fD28)))
    (lD28 : K.lookup fD28 = some ⟨ocD28, odD28, .func (PySem.W.fnOf "_law_filled" "_law_filled" (defArgs (top 28)) (defBody (top 28)) (defScope (top 28)) .none kVD28 dcD28 pmD28 anD28 cdD28 ctD28), slD28⟩)
    (cD28 : PySem.W.codeIn K cdD28 "_law_filled" = true)
    (kD28 : PySem.W.keepIn K (.ref fD28) = true)
    (aD29 : PySem.W.nsIn K mainGlobals "_law_refused" = some (some (.ref fD29)))
    (lD29 : K.lookup fD29 = some ⟨ocD29, odD29, .func (PySem.W.fnOf "_law_refused" "_law_refused" (defArgs (top 29)) (defBody (top 29)) (defScope (top 29)) .none kVD29 dcD29 pmD29 anD29 cdD29 ctD29), slD29⟩)
    (cD29 : PySem.W.codeIn K cdD29 "_law_refused" = true)
    (kD29 : PySem.W.keepIn K (.ref fD29) = true)
    (aD30 : PySem.W.nsIn K mainGlobals "_law_least" = some (some (.ref fD30)))
    (lD30 : K.lookup fD30 = some ⟨ocD30, odD30, .func (PySem.W.fnOf "_law_least" "_law_least" (defArgs (top 30)) (defBody (top 30)) (defScope (top 30)) .none kVD30 dcD30 pmD30 anD30 cdD30 ctD30), slD30⟩)
    (cD30 : PySem.W.codeIn K cdD30 "_law_least" = true)
    (kD30 : PySem.W.keepIn K (.ref fD30) = true)
    (aD31 : PySem.W.nsIn K mainGlobals "law" = some (some (.ref fD31)))
    (lD31 : K.lookup fD31 = some ⟨ocD31, odD31, .func (PySem.W.fnOf "law" "law" (defArgs (top 31)) (defBody (top 31)) (defScope (top 31)) .none kVD31 dcD31 pmD31 anD31 cdD31 ctD31), slD31⟩)
    (cD31 : PySem.W.codeIn K cdD31 "law" = true)
    (kD31 : PySem.W.keepIn K (.ref fD31) = true)
    (z_type : PySem.W.nsIn K mainGlobals "type" = some none)
    (z_int : PySem.W.nsIn K mainGlobals "int" = some none)
    (z_tuple : PySem.W.nsIn K mainGlobals "tuple" = some none)
    (z_list : PySem.W.nsIn K mainGlobals "list" = some none)
    (z_len : PySem.W.nsIn K mainGlobals "len" = some none)
    (z_set : PySem.W.nsIn K mainGlobals "set" = some none)
    (z_all : PySem.W.nsIn K mainGlobals "all" = some none)
    (z_sorted : PySem.W.nsIn K mainGlobals "sorted" = some none)
    (z_max : PySem.W.nsIn K mainGlobals "max" = some none)
    (z_enumerate : PySem.W.nsIn K mainGlobals "enumerate" = some none)
    (z_range : PySem.W.nsIn K mainGlobals "range" = some none)
    : ∃ fd : FuncData, (∀ (s : Shared) (v : Value), BindsTo s fd ⟨[v], []⟩ [("script", v)]) ∧ ∀ base : Heap, K.In base → base.Ns mainGlobals mg → FnOk l.prog w K mg base CX0 29 fa fd ["script"] (spLaw K) := by
  have e := hfa.symm.trans (PySem.W.mg_of X G aD31)
  cases e
  have ecB : EC K [CT] CB := ⟨⟨_, _, _, _, _, _, _, _, _, _, _, _, _, _, xB⟩, saB, gaB, ggB, gcB, tyB, kpB⟩
  have FI := fun_mk (st := inClass (top 2) 0) lI cI kI
  have bI := FI.binds (ps := ["self", "tree"]) fun _ _ _ _ _ _ us hl => match us, hl with | [_, _], _ => rfl
  have F4 := fun_mk (st := top 4) lD4 cD4 kD4
  have b4 := F4.binds (ps := ["value"]) fun _ _ _ _ _ _ us hl => match us, hl with | [_], _ => rfl
  have m4 := PySem.W.mg_of X G aD4
  have F5 := fun_mk (st := top 5) lD5 cD5 kD5
  have b5 := F5.binds (ps := ["value"]) fun _ _ _ _ _ _ us hl => match us, hl with | [_], _ => rfl
  have m5 := PySem.W.mg_of X G aD5
  have F6 := fun_mk (st := top 6) lD6 cD6 kD6
  have b6 := F6.binds (ps := ["value"]) fun _ _ _ _ _ _ us hl => match us, hl with | [_], _ => rfl
  have m6 := PySem.W.mg_of X G aD6
  have F7 := fun_mk (st := top 7) lD7 cD7 kD7
  have b7 := F7.binds (ps := ["key", "low", "high"]) fun _ _ _ _ _ _ us hl => match us, hl with | [_, _, _], _ => rfl
  have m7 := PySem.W.mg_of X G aD7
  have F8 := fun_mk (st := top 8) lD8 cD8 kD8
  have b8 := F8.binds (ps := ["value"]) fun _ _ _ _ _ _ us hl => match us, hl with | [_], _ => rfl
  have m8 := PySem.W.mg_of X G aD8
  have F9 := fun_mk (st := top 9) lD9 cD9 kD9
  have b9 := F9.binds (ps := ["tree"]) fun _ _ _ _ _ _ us hl => match us, hl with | [_], _ => rfl
  have m9 := PySem.W.mg_of X G aD9
  have F10 := fun_mk (st := top 10) lD10 cD10 kD10
  have b10 := F10.binds (ps := ["tree"]) fun _ _ _ _ _ _ us hl => match us, hl with | [_], _ => rfl
  have m10 := PySem.W.mg_of X G aD10
  have F11 := fun_mk (st := top 11) lD11 cD11 kD11
  have b11 := F11.binds (ps := ["tree"]) fun _ _ _ _ _ _ us hl => match us, hl with | [_], _ => rfl
  have m11 := PySem.W.mg_of X G aD11
  have F12 := fun_mk (st := top 12) lD12 cD12 kD12
  have b12 := F12.binds (ps := ["tree"]) fun _ _ _ _ _ _ us hl => match us, hl with | [_], _ => rfl
  have m12 := PySem.W.mg_of X G aD12
  have F13 := fun_mk (st := top 13) lD13 cD13 kD13
  have b13 := F13.binds (ps := ["numbers", "part"]) fun _ _ _ _ _ _ us hl => match us, hl with | [_, _], _ => rfl
  have m13 := PySem.W.mg_of X G aD13
  have F14 := fun_mk (st := top 14) lD14 cD14 kD14
  have b14 := F14.binds (ps := ["tree"]) fun _ _ _ _ _ _ us hl => match us, hl with | [_], _ => rfl
  have m14 := PySem.W.mg_of X G aD14
  have F15 := fun_mk (st := top 15) lD15 cD15 kD15
  have b15 := F15.binds (ps := ["tree"]) fun _ _ _ _ _ _ us hl => match us, hl with | [_], _ => rfl
  have m15 := PySem.W.mg_of X G aD15
  have F16 := fun_mk (st := top 16) lD16 cD16 kD16
  have b16 := F16.binds (ps := ["value"]) fun _ _ _ _ _ _ us hl => match us, hl with | [_], _ => rfl
  have m16 := PySem.W.mg_of X G aD16
  have F17 := fun_mk (st := top 17) lD17 cD17 kD17
  have b17 := F17.binds (ps := ["items"]) fun _ _ _ _ _ _ us hl => match us, hl with | [_], _ => rfl
  have m17 := PySem.W.mg_of X G aD17
  have F18 := fun_mk (st := top 18) lD18 cD18 kD18
  have b18 := F18.binds (ps := ["items"]) fun _ _ _ _ _ _ us hl => match us, hl with | [_], _ => rfl
  have m18 := PySem.W.mg_of X G aD18
  have F20 := fun_mk (st := top 20) lD20 cD20 kD20
  have b20 := F20.binds (ps := ["script"]) fun _ _ _ _ _ _ us hl => match us, hl with | [_], _ => rfl
  have m20 := PySem.W.mg_of X G aD20
  have F21 := fun_mk (st := top 21) lD21 cD21 kD21
  have b21 := F21.binds (ps := ["bag", "limit"]) fun _ _ _ _ _ _ us hl => match us, hl with | [_, _], _ => rfl
  have m21 := PySem.W.mg_of X G aD21
  have F22 := fun_mk (st := top 22) lD22 cD22 kD22
  have b22 := F22.binds (ps := ["bag", "items"]) fun _ _ _ _ _ _ us hl => match us, hl with | [_, _], _ => rfl
  have m22 := PySem.W.mg_of X G aD22
  have F23 := fun_mk (st := top 23) lD23 cD23 kD23
  have b23 := F23.binds (ps := ["tree"]) fun _ _ _ _ _ _ us hl => match us, hl with | [_], _ => rfl
  have m23 := PySem.W.mg_of X G aD23
  have F24 := fun_mk (st := top 24) lD24 cD24 kD24
  have b24 := F24.binds (ps := ["bag", "many", "keys"]) fun _ _ _ _ _ _ us hl => match us, hl with | [_, _, _], _ => rfl
  have m24 := PySem.W.mg_of X G aD24
  have F25 := fun_mk (st := top 25) lD25 cD25 kD25
  have b25 := F25.binds (ps := ["tree"]) fun _ _ _ _ _ _ us hl => match us, hl with | [_], _ => rfl
  have m25 := PySem.W.mg_of X G aD25
  have F26 := fun_mk (st := top 26) lD26 cD26 kD26
  have b26 := F26.binds (ps := ["tree", "low", "up", "found"]) fun _ _ _ _ _ _ us hl => match us, hl with | [_, _, _, _], _ => rfl
  have m26 := PySem.W.mg_of X G aD26
  have F27 := fun_mk (st := top 27) lD27 cD27 kD27
  have b27 := F27.binds (ps := ["bag", "tree"]) fun _ _ _ _ _ _ us hl => match us, hl with | [_, _], _ => rfl
  have m27 := PySem.W.mg_of X G aD27
  have F28 := fun_mk (st := top 28) lD28 cD28 kD28
  have b28 := F28.binds (ps := ["tree", "items"]) fun _ _ _ _ _ _ us hl => match us, hl with | [_, _], _ => rfl
  have m28 := PySem.W.mg_of X G aD28
  have F29 := fun_mk (st := top 29) lD29 cD29 kD29
  have b29 := F29.binds (ps := ["action", "value"]) fun _ _ _ _ _ _ us hl => match us, hl with | [_, _], _ => rfl
  have m29 := PySem.W.mg_of X G aD29
  have F30 := fun_mk (st := top 30) lD30 cD30 kD30
  have b30 := F30.binds (ps := ["many"]) fun _ _ _ _ _ _ us hl => match us, hl with | [_], _ => rfl
  have m30 := PySem.W.mg_of X G aD30
  have F31 := fun_mk (st := top 31) lD31 cD31 kD31
  have b31 := F31.binds (ps := ["script"]) fun _ _ _ _ _ _ us hl => match us, hl with | [_], _ => rfl
  have m31 := PySem.W.mg_of X G aD31
  have N1 : Nm mg := ⟨(PySem.W.mg_none_of X G z_type), (PySem.W.mg_none_of X G z_int), (PySem.W.mg_none_of X G z_tuple), (PySem.W.mg_none_of X G z_list), (PySem.W.mg_none_of X G z_len), (PySem.W.mg_none_of X G z_set)⟩
  have N : Nm2 mg := ⟨N1, (PySem.W.mg_none_of X G z_all), (PySem.W.mg_none_of X G z_sorted)⟩
  refine ⟨PySem.W.fnOf "law" "law" (defArgs (top 31)) (defBody (top 31)) (defScope (top 31)) .none kVD31 dcD31 pmD31 anD31 cdD31 ctD31, fun s v => .of_eq rfl, fun base _ _ => ?_⟩
  have R : Er l.prog w K mg base CT CB := ⟨ecB, PySem.W.mg_of X G gB, ⟨fI, _, aI, tI, ok_init FI ecB.oex noB, bI⟩, noB⟩
  have G4 := ok_isInt (P := l.prog) (w := w) (base := base) F4 N1
  have G5 := ok_isItem F5 N1 G4 b4 kD4 m4
  have G6 := ok_isNode F6 N1 G5 b5 kD5 m5
  have G7 := ok_btw (P := l.prog) (w := w) (mg := mg) (base := base) F7
  have G8 := ok_told F8 N1 G6 b6 kD6 m6 G7 b7 kD7 m7
  have G9 := ok_nodes F9 R G8 b8 kD8 m8
  have G10 := ok_all (U := CT) F10 N1 (PySem.W.mg_none_of X G z_sorted) G9 b9 kD9 m9
  have G11 := ok_height (U := CT) F11 (PySem.W.mg_none_of X G z_max) G9 b9 kD9 m9
  have G12 := ok_nums (U := CT) F12 (PySem.W.mg_none_of X G z_enumerate) G10 b10 kD10 m10
  have G13 := ok_nin (P := l.prog) (w := w) (mg := mg) (base := base) F13
  have G14 := ok_root F14 G12 b12 kD12 m12 G13 b13 kD13 m13
  have G15 := ok_links F15 G12 b12 kD12 m12 G13 b13 kD13 m13 G9 b9 kD9 m9
  have G16 := ok_are F16 N G5 b5 kD5 m5
  have G18 := half_all (P := l.prog) (w := w) (base := base) F18 b18 m18 (PySem.W.mg_none_of X G z_len) 24
  have G17 := ok_of F17 N R G16 b16 kD16 m16 G18 b18 kD18 m18
  have G20 := ok_bag (P := l.prog) (w := w) (base := base) F20 N1
  have G21 := ok_draw (P := l.prog) (w := w) (base := base) F21 N1
  have G22 := tree_all F22 b22 m22 (PySem.W.mg_none_of X G z_len) G21 b21 kD21 m21 13
  have G23 := row_all (P := l.prog) (w := w) (base := base) F23 b23 m23 14
  have G24 := ok_lawItems F24 (PySem.W.mg_none_of X G z_int) (PySem.W.mg_none_of X G z_range) G21 b21 kD21 m21
  have G25 := ht_all (P := l.prog) (w := w) (base := base) F25 b25 m25 (PySem.W.mg_none_of X G z_max) 14
  have G26 := ll_all F26 b26 m26 (PySem.W.mg_none_of X G z_len) G23 b23 kD23 m23 14
  have G27 := spoil_all F27 b27 m27 (PySem.W.mg_none_of X G z_list) G21 b21 kD21 m21 14
  have G28 := fill_all F28 b28 m28 (PySem.W.mg_none_of X G z_len) G23 b23 kD23 m23 14
  have G29 := ok_refused F29 R
  have G30 := ok_least (P := l.prog) (w := w) (mg := mg) (base := base) F30
  refine ok_law F31 { er := R, nm := N, told := ⟨G8, b8, kD8, m8⟩, all := ⟨G10, b10, kD10, m10⟩, height := ⟨G11, b11, kD11, m11⟩, root := ⟨G14, b14, kD14, m14⟩, links := ⟨G15, b15, kD15, m15⟩, ofi := ⟨G17, b17, kD17, m17⟩, bag := ⟨G20, b20, kD20, m20⟩, draw := ⟨G21, b21, kD21, m21⟩, tree := ⟨G22, b22, kD22, m22⟩, row := ⟨G23, b23, kD23, m23⟩, items := ⟨G24, b24, kD24, m24⟩, lht := ⟨G25, b25, kD25, m25⟩, ll := ⟨G26, b26, kD26, m26⟩, spoil := ⟨G27, b27, kD27, m27⟩, fill := ⟨G28, b28, kD28, m28⟩, ref := ⟨G29, b29, kD29, m29⟩, least := ⟨G30, b30, kD30, m30⟩, mInt := (PySem.W.mg_none_of X G z_int) }
end K40
open PySem PySem.W PyProof.Rows
set_option maxRecDepth 100000 in
set_option maxHeartbeats 0 in
open_top head_of_law for PySem.Challenge.rw_nextcode_k40_told_trees
set_option maxRecDepth 100000 in
set_option maxHeartbeats 0 in
theorem PySem.Challenge.cw_nextcode_k40_told_trees_holds : PySem.Challenge.rw_nextcode_k40_told_trees.Holds := by
  refine head_of_law ?_
  k_fill
  refine L2.walk_of (l := PySem.Challenge.rw_nextcode_k40_told_trees) (n := 63) (k := 29) (x := "script") (CX := fun _ => L2.CX0) (sp := fun _ => K40.spLaw _) rfl (by decide) rfl ⟨rfl, by decide, by decide⟩ (fun w h Y => PySem.W.kIn_of Y) ?F (fun _ _ a ns hl _ hS => ⟨a, ns, rfl, hS, fun _ => rfl⟩) fun _ _ _ _ _ z => z
  case F =>
    intro w mg fa h KX G hmg
    refine' K40.all_mk KX G hmg ?gT ?xT ?saT ?gaT ?ggT ?gcT ?tyT ?kpT ?gB ?xB ?saB ?gaB ?ggB ?gcB ?tyB ?kpB ?noB ?aI ?lI ?cI ?kI ?tI ?aD4 ?lD4 ?cD4 ?kD4 ?aD5 ?lD5 ?cD5 ?kD5 ?aD6 ?lD6 ?cD6 ?kD6 ?aD7 ?lD7 ?cD7 ?kD7 ?aD8 ?lD8 ?cD8 ?kD8 ?aD9 ?lD9 ?cD9 ?kD9 ?aD10 ?lD10 ?cD10 ?kD10 ?aD11 ?lD11 ?cD11 ?kD11 ?aD12 ?lD12 ?cD12 ?kD12 ?aD13 ?lD13 ?cD13 ?kD13 ?aD14 ?lD14 ?cD14 ?kD14 ?aD15 ?lD15 ?cD15 ?kD15 ?aD16 ?lD16 ?cD16 ?kD16 ?aD17 ?lD17 ?cD17 ?kD17 ?aD18 ?lD18 ?cD18 ?kD18 ?aD20 ?lD20 ?cD20 ?kD20 ?aD21 ?lD21 ?cD21 ?kD21 ?aD22 ?lD22 ?cD22 ?kD22 ?aD23 ?lD23 ?cD23 ?kD23 ?aD24 ?lD24 ?cD24 ?kD24 ?aD25 ?lD25 ?cD25 ?kD25 ?aD26 ?lD26 ?cD26 ?kD26 ?aD27 ?lD27 ?cD27 ?kD27 ?aD28 ?lD28 ?cD28 ?kD28 ?aD29 ?lD29 ?cD29 ?kD29 ?aD30 ?lD30 ?cD30 ?kD30 ?aD31 ?lD31 ?cD31 ?kD31 ?z_type ?z_int ?z_tuple ?z_list ?z_len ?z_set ?z_all ?z_sorted ?z_max ?z_enumerate ?z_range
    (case gT => k_is)
    (case xT => k_is)
    (case saT => k_is)
    (case gaT => k_is)
    (case ggT => k_is)
    (case gcT => k_is)
    (case tyT => k_is)
    (case kpT => k_is)
    (case gB => k_is)
    (case xB => k_is)
    (case saB => k_is)
    (case gaB => k_is)
    (case ggB => k_is)
    (case gcB => k_is)
    (case tyB => k_is)
    (case kpB => k_is)
    (case noB => k_is)
    (case aI => k_is)
    (case lI => k_is)
    (case cI => k_is)
    (case kI => k_is)
    (case tI => k_is)
    (case aD4 => k_is)
    (case lD4 => k_is)
    (case cD4 => k_is)
    (case kD4 => k_is)
    (case aD5 => k_is)
    (case lD5 => k_is)
    (case cD5 => k_is)
    (case kD5 => k_is)
    (case aD6 => k_is)
    (case lD6 => k_is)
    (case cD6 => k_is)
    (case kD6 => k_is)
    (case aD7 => k_is)
    (case lD7 => k_is)
    (case cD7 => k_is)
    (case kD7 => k_is)
    (case aD8 => k_is)
    (case lD8 => k_is)
    (case cD8 => k_is)
    (case kD8 => k_is)
    (case aD9 => k_is)
    (case lD9 => k_is)
    (case cD9 => k_is)
    (case kD9 => k_is)
    (case aD10 => k_is)
    (case lD10 => k_is)
    (case cD10 => k_is)
    (case kD10 => k_is)
    (case aD11 => k_is)
    (case lD11 => k_is)
    (case cD11 => k_is)
    (case kD11 => k_is)
    (case aD12 => k_is)
    (case lD12 => k_is)
    (case cD12 => k_is)
    (case kD12 => k_is)
    (case aD13 => k_is)
    (case lD13 => k_is)
    (case cD13 => k_is)
    (case kD13 => k_is)
    (case aD14 => k_is)
    (case lD14 => k_is)
    (case cD14 => k_is)
    (case kD14 => k_is)
    (case aD15 => k_is)
    (case lD15 => k_is)
    (case cD15 => k_is)
    (case kD15 => k_is)
    (case aD16 => k_is)
    (case lD16 => k_is)
    (case cD16 => k_is)
    (case kD16 => k_is)
    (case aD17 => k_is)
    (case lD17 => k_is)
    (case cD17 => k_is)
    (case kD17 => k_is)
    (case aD18 => k_is)
    (case lD18 => k_is)
    (case cD18 => k_is)
    (case kD18 => k_is)
    (case aD20 => k_is)
    (case lD20 => k_is)
    (case cD20 => k_is)
    (case kD20 => k_is)
    (case aD21 => k_is)
    (case lD21 => k_is)
    (case cD21 => k_is)
    (case kD21 => k_is)
    (case aD22 => k_is)
    (case lD22 => k_is)
    (case cD22 => k_is)
    (case kD22 => k_is)
    (case aD23 => k_is)
    (case lD23 => k_is)
    (case cD23 => k_is)
    (case kD23 => k_is)
    (case aD24 => k_is)
    (case lD24 => k_is)
    (case cD24 => k_is)
    (case kD24 => k_is)
    (case aD25 => k_is)
    (case lD25 => k_is)
    (case cD25 => k_is)
    (case kD25 => k_is)
    (case aD26 => k_is)
    (case lD26 => k_is)
    (case cD26 => k_is)
    (case kD26 => k_is)
    (case aD27 => k_is)
    (case lD27 => k_is)
    (case cD27 => k_is)
    (case kD27 => k_is)
    (case aD28 => k_is)
    (case lD28 => k_is)
    (case cD28 => k_is)
    (case kD28 => k_is)
    (case aD29 => k_is)
    (case lD29 => k_is)
    (case cD29 => k_is)
    (case kD29 => k_is)
    (case aD30 => k_is)
    (case lD30 => k_is)
    (case cD30 => k_is)
    (case kD30 => k_is)
    (case aD31 => k_is)
    (case lD31 => k_is)
    (case cD31 => k_is)
    (case kD31 => k_is)
    (case z_type => k_is)
    (case z_int => k_is)
    (case z_tuple => k_is)
    (case z_list => k_is)
    (case z_len => k_is)
    (case z_set => k_is)
    (case z_all => k_is)
    (case z_sorted => k_is)
    (case z_max => k_is)
    (case z_enumerate => k_is)
    (case z_range => k_is)
