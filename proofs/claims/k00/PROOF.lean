import PyProof.Rows.All
import Wide.All
import OpenK.AllK
import Wide.FinOn
import PyProof.EqAt
import PyProof.EqKinds
import PyProof.NeKinds
import KE.KIsAll
import KE.KExcIs
import KE.KTryMore
import HandS.ForMost
import HandS.ForExc
import HandS.ExcInit
import HandS.ExcField
import HandS.ExcIs
import HandS.HotCalls
import HandS.DeepEq
import HandS.Wide
import HandS.Style
import HandS.EndBits
import HandS.Codes
import PySem.Challenge.RW_nextcode_k00_errors_made_from_their_fiel
set_option Elab.async false
set_option linter.all false
set_option maxRecDepth 100000
set_option maxHeartbeats 4000000
/-! Own rules over the hand layer: errors with fields (made with or without fields, several clauses with names, isinstance of a caught one, also in a def that is called while it is handled), != of lists. -/
namespace Xc
open PySem PySem.Spec PyProof.Rows L2

/-! ### 1. classes of errors -/
/-- the built-in part of the line of forebears -/
abbrev tailV : List Value := [.type "ValueError", .type "Exception", .type "BaseException", .type "object"]
/-- an own class over own classes us over ValueError, at C, as the written part has it -/
structure EC (K : PySem.W.Frag) (us : List Addr) (C : Addr) : Prop where
  cls : ∃ nm q N bs sn sub ab col dd k0 k1 k2 k3 k5, K.lookup C = some (excClassObj nm q C N bs (us.map Value.ref ++ tailV) true sn sub ab col dd k0 k1 k2 k3 k5 "ValueError.__new__")
  sa : PySem.W.findIn K (.ref C) "__setattr__" = some (some (.builtin "object.__setattr__"))
  ga : PySem.W.findIn K (.ref C) "__getattribute__" = some (some (.builtin "BaseException.__getattribute__"))
  gg : PySem.W.findIn K (.ref C) "__getattr__" = some none
  gc : PySem.W.findIn K (.ref C) "__class__" = some (some (.builtin "object.__class__"))
  ty : PySem.W.typeIn K (.ref C) = some (.type "type")
  kp : PySem.W.keepIn K (.ref C) = true

section
variable {K : PySem.W.Frag} {us : List Addr} {C : Addr}
theorem refs_tail : ∀ us : List Addr, HandSPX.refsVE (us.map Value.ref ++ tailV) = true
  | [] => by decide +kernel
  | u :: r => by
    show HandSPX.refsVE (Value.ref u :: (r.map Value.ref ++ tailV)) = true
    exact refs_tail r
theorem EC.oex (T : EC K us C) : OexC K C where
  cls := by
    obtain ⟨nm, q, N, bs, sn, sub, ab, col, dd, k0, k1, k2, k3, k5, h⟩ := T.cls
    exact ⟨nm, q, N, bs, _, sn, sub, ab, col, dd, k0, k1, k2, k3, k5, h, refs_tail us⟩
  sa := T.sa
  exC := by
    obtain ⟨nm, q, N, bs, sn, sub, ab, col, dd, k0, k1, k2, k3, k5, h⟩ := T.cls
    show PySem.W.mroIn K C _ = _
    unfold PySem.W.mroIn PySem.W.clsIn
    rw [h]
    simp [tailV]
  tyC := T.ty
  kC := T.kp
theorem EC.sub (T : EC K us C) (v : Value) : PySem.W.subIn K (.ref C) v = some ((Value.ref C :: (us.map Value.ref ++ tailV)).contains v) := by
  obtain ⟨nm, q, N, bs, sn, sub, ab, col, dd, k0, k1, k2, k3, k5, h⟩ := T.cls
  show PySem.W.mroIn K C _ = _
  unfold PySem.W.mroIn PySem.W.clsIn
  rw [h]
  rfl
theorem EC.hd (T : EC K us C) : PySem.W.hasDictIn K C = true := by
  obtain ⟨nm, q, N, bs, sn, sub, ab, col, dd, k0, k1, k2, k3, k5, h⟩ := T.cls
  unfold PySem.W.hasDictIn PySem.W.clsIn
  rw [h] <;> rfl
theorem EC.isC (T : EC K us C) : (PySem.W.clsIn K C).isSome = true := by
  obtain ⟨nm, q, N, bs, sn, sub, ab, col, dd, k0, k1, k2, k3, k5, h⟩ := T.cls
  unfold PySem.W.clsIn
  rw [h] <;> rfl
theorem EC.base (T : EC K us C) : PySem.W.subIn K (.ref C) (.type "BaseException") = some true := T.oex.exC
theorem EC.obj (T : EC K us C) : PySem.W.mroIn K C (.type "object") = some true := by
  have e := T.sub (.type "object")
  have e2 : (Value.ref C :: (us.map Value.ref ++ tailV)).contains (.type "object") = true := by simp [tailV]
  rw [e2] at e
  exact e
/-- what an except clause with the own class D says of an error of the class C -/
theorem EC.exm {vs : List Addr} {D : Addr} (T : EC K us C) (S : EC K vs D) : PySem.W.exmOne K (.ref C) (.ref D) = some (decide (D = C) || decide (D ∈ us)) := by
  have e := PySem.W.exm_ref (b := decide (D = C) || decide (D ∈ us)) S.base S.hd S.ty ?_ (cls := .ref C)
  · exact e
  · rw [T.sub]
    congr 1
    by_cases h : D = C
    · subst h
      simp
    · have h2 : ¬ (Value.ref D == Value.ref C) = true := by simpa using h
      simp [h, tailV, List.contains_iff_mem]
/-- isinstance of an error of the class C with an own class D -/
theorem EC.kit {vs : List Addr} {D : Addr} (T : EC K us C) (S : EC K vs D) : PySem.W.kitOne K (.ref C) (.ref D) = some (decide (D = C) || decide (D ∈ us)) := by
  unfold PySem.W.kitOne
  by_cases h : D = C
  · subst h
    simp
  · have h1 : ¬ (Value.ref C == Value.ref D) = true := by simpa using fun e => h e.symm
    rw [if_neg h1]
    unfold PySem.W.kitCls
    have z : ((PySem.W.clsIn K D).isSome && PySem.W.typeIn K (.ref D) == some (.type "type")) = true := by rw [S.isC, S.ty] <;> rfl
    show (if ((PySem.W.clsIn K D).isSome && PySem.W.typeIn K (.ref D) == some (.type "type")) = true then PySem.W.subIn K (.ref C) (.ref D) else none) = _
    rw [if_pos z, T.sub]
    simp [h, tailV, List.contains_iff_mem]
theorem EC.kitV (T : EC K us C) : PySem.W.kitOne K (.ref C) (.type "ValueError") = some true := by
  unfold PySem.W.kitOne
  rw [if_neg (by simp)]
  unfold PySem.W.kitCls
  show (if PySem.W.kitMeta "ValueError" = true then PySem.W.subIn K (.ref C) (.type "ValueError") else none) = _
  rw [if_pos (by decide +kernel), T.sub]
  simp [tailV]
end
/-! ### 2. isinstance of an error that is handled (pinned at a), with or without a dict of its own -/
/-- its own dict stands, if it has one -/
def HasD (H : Hp) : Option Addr → Prop
  | none => True
  | some dd => ∃ fs, H dd = some (.xd fs)
def rIsX (K : PySem.W.Frag) (a : Addr) (cls : Value) (d : Option Addr) : List V → Hp → VK → Prop := fun xs H Q => ∃ (us : List Addr) (D : Addr) (c : V) (cv : Value) (b : Bool), xs = [.ref a, c] ∧ cls = .ref D ∧ EC K us D ∧ HasD H d ∧ (∀ u, RelV c u → u = cv) ∧
  PySem.W.kitOne K (.ref D) cv = some b ∧ Q (.bl b) H
theorem call_isX {X : Cx} {a : Addr} {oe : Obj} {cls : Value} {d : Option Addr} (hn : PySem.W.specialIn X.K (.builtin "object.__class__") "__get__" = some (some (.builtin "getset_descriptor.__get__"))) (ht : PySem.W.takesIn X.K (.builtin "object.__class__") = some true)
    (hp : (a, oe) ∈ X.pn) (hz : Zc cls d oe) (hf : ∃ vs, oe.data = .fields vs) : CallR X (.builtin "isinstance") (rIsX X.K a cls d) := by
  intro pins s σ H xs ws Q I r h
  obtain ⟨us, D, c, cv, b, rfl, rfl, T, hd, hcv, e, q⟩ := h
  obtain ⟨u, u', rfl, r1, r2⟩ := vals2 r
  cases r1
  obtain rfl := hcv _ r2
  obtain ⟨hget, _⟩ := I.pin (a, oe) (List.mem_append.mpr (.inl hp))
  obtain ⟨vs, hv⟩ := hf
  have hno : PySem.W.notCls oe = true := by unfold PySem.W.notCls; rw [hv] <;> rfl
  have J : ∃ od, PySem.W.InstAt s.heap a oe D od := by
    cases d with
    | none => exact ⟨none, hget, hz.1, hno, by rw [hz.2]; trivial⟩
    | some dd =>
      obtain ⟨fs, hfs⟩ := hd
      obtain ⟨mA, ⟨o, es, ep, ho, _⟩, _⟩ := (show ObjOk X.prog X.w H s.heap dd (.xd fs) from I.hok dd _ hfs)
      exact ⟨some o, hget, hz.1, hno, by rw [hz.2]; exact ho⟩
  obtain ⟨od, J⟩ := J
  exact PySem.W.kia_one (PySem.W.kitx_exc (od := od) T.isC T.ga T.gg T.base T.gc hn ht T.obj) I.kIn J e (fun z => nomatch z) fun tk => ⟨.bl b, H, I.kept (t' := tk) fun _ _ z => z, rfl, q⟩

/-! ### 3. a def that is called while p is handled, and neither raises nor walks -/
structure FnQ (P : Program) (w : World) (K : PySem.W.Frag) (mg : Str → Option Value) (base : Heap) (k : Nat) (f : Addr) (fd : FuncData) (ps : List Str) (p : Addr × Obj) (sp : Sp) : Prop where
  len : ∀ vs H Q E, sp vs H Q E → vs.length = ps.length
  run : ∀ (A : Around) (outer : List Env) (s : Shared) (H : Hp) (args : Args) (us : List Value) (vs : List V) (Q : VK), L2H.RoomH k A → L2H.PinOk outer H s p → Env0 P w K mg base A outer s H → BindsTo s fd args (ps.zip us) → Vals vs us → sp vs H Q E0 →
    codeAny (model P w) A (.call (.ref f) args) (CR CX0 outer P w H s Q E0) s
theorem fn_ofQ {P : Program} {w : World} {K : PySem.W.Frag} {mg : Str → Option Value} {base : Heap} {k : Nat} {f : Addr} {x qual : Str} {st : Stmt} {fd : FuncData} {N ps : List Str} {p : Addr × Obj} {sp : Sp} (F : Fun K x qual st f fd) (S : FnScope N ps (defScope st))
    (len : ∀ vs H Q E, sp vs H Q E → vs.length = ps.length)
    (body : ∀ (cdv : Value) (A : Around) (outer : List Env) (s : Shared) (H : Hp) (vs : List V) (Q : VK), L2H.RoomH k (A.deeper (envOfC qual (defScope st) s.heap.objs.size f cdv)) → sp vs H Q E0 →
      ∃ t, PSs (L2H.cxH CX0 P w K mg base N qual (defScope st) f cdv A outer s H E0 p) (defBody st) t ∧ t { nx := fun _ H' => Q .non H', rt := Q } (L2.start N vs) H) :
    FnQ P w K mg base (k + 1) f fd ps p sp := by
  obtain ⟨oc, od, kV, doc, pm, an, cdv, ct, osl, rfl, lk, hcd⟩ := F.ex
  refine ⟨len, fun A outer s H args us vs Q hr hpin e0 hb r hsp => ?_⟩
  have kx : K.In s.heap := e0.mod.kin.keeps fun b o e => (e0.bs b o e).1
  have lim : s.heap.NoLimit := e0.mod.nolimit.keeps fun b o e => (e0.bs b o e).1
  have kinds : ∀ y ∈ ps.zip us, (defScope st).names.lookup y.1 = some .local ∨ ((defScope st).names.lookup y.1 = some .cell ∧ ((cellsFrom (s.heap.objs.size + 1) (defScope st).names []).lookup y.1).isSome = true) := by
    rintro ⟨n, v⟩ hy
    rcases S.par n (List.of_mem_zip hy).1 with q | q
    · exact .inl q
    · exact .inr ⟨q, PySem.W.cellsFrom_some _ _ _ (.inl q)⟩
  refine codeAny_call_function hr.depth (kx _ _ lk) rfl S.co S.gen rfl (PySem.W.codeRec_of kx hcd) (hb _ _ _ _ ?_)
  refine wpAny_newFunctionEnv_cells S.kind kinds fun env he s1 y => ?_
  subst he
  refine ⟨lim.keeps y.toInCall.keep, codeAny_func ?_⟩
  obtain ⟨t, ht, hq⟩ := body cdv A outer s H vs Q (hr.deeper _) hsp
  refine wpAny_mono (ht.run [] s1 _ H _ (L2H.inv_startH S hpin e0 (len _ _ _ _ hsp) r y) hq) (fun fl s' hs => ?_) fun _ _ hs => hs
  cases fl with
  | ret u =>
    obtain ⟨v, σ', H', J, rv, q⟩ := hs
    exact ⟨v, H', J.os, J.bare, J.base, J.hok, rv, q⟩
  | next =>
    obtain ⟨σ', H', J, q⟩ := hs
    exact ⟨.non, H', J.os, J.bare, J.base, J.hok, rfl, q⟩
  | brk =>
    obtain ⟨_, _, _, q⟩ := hs
    exact q.elim
  | cont =>
    obtain ⟨_, _, _, q⟩ := hs
    exact q.elim
/-- f(e, ..) within the suite that handles p -/
theorem pe_callQ {X : Cx} {k : Nat} {f : Addr} {fd : FuncData} {ps : List Str} {sp : Sp} {x : Str} {q pos : Pos} {e : Expr} {es : List Expr} {t : TA} {p : Addr × Obj} (F : FnQ X.prog X.w X.K X.mg X.base k f fd ps p sp) (hr : L2H.RoomH k X.A) (hp : p ∈ X.pn)
    (hg : Gl X x) (hm : X.mg x = some (.ref f)) (hk : PySem.W.keepIn X.K (.ref f) = true) (hb : Binds X.K fd ps []) (ha : PA X (e :: es) t)
    (hdb : (x == ("__debug__" : Str)) = false := by decide) (he : starEach (e :: es) X.env = (false, eval e X.env) :: starEach es X.env := by rfl) (hpl : (backTo pos (starEach es X.env)).any (·.1) = false := by rfl) :
    PE X (.Call (.Name x q) (e :: es) [] pos) (tCall sp [] E0 t) := by
  refine ⟨fun pins s σ H Q I h => ?_⟩
  refine wpAny_Call_Name_kw (ld_glob I hg hm ?_ hdb)
  refine PySem.W.callWith_K (h₀ := X.base) I.ok.mod.kin hk (thn (ha.run pos pins s σ H _ I h) fun us s1 ⟨vs, H1, I1, r, q1⟩ => ⟨I1.kIn, ?_⟩) he hpl
  have q1 : sp vs H1 Q E0 := by
    have z : sp (vs ++ []) H1 Q E0 := q1
    rwa [List.append_nil] at z
  show wpAny _ _ (call (.ref f) us) _ _ _
  have hl : (us ++ []).length = ps.length := by rw [List.append_nil, ← r.length]; exact F.len _ _ _ _ q1
  have b := hb s1 us I1.kIn hl
  rw [List.append_nil] at b
  have pk := I1.pin p (List.mem_append_left _ hp)
  have pin : L2H.PinOk X.stack H1 s1 p := ⟨pk.1, pk.2.1, fun hm => (List.mem_cons.mp (I1.stkSub p.1 hm)).elim pk.2.2.1 pk.2.2.2.1, pk.2.2.2.2⟩
  refine wpAny_call (codeAny_mono (F.run X.A X.stack s1 H1 ⟨us, []⟩ us vs Q hr pin I1.env0 b r q1) fun z s' hq => ?_)
  cases z with
  | error _ => exact hq.elim
  | ok fl =>
    cases fl with
    | ret u => exact I1.after hq
    | next => exact hq.elim
    | brk => exact hq.elim
    | cont => exact hq.elim
/-! ### 4. several clauses, each with a name or without -/
/-- one clause: the class that it names, the slot of its name, its suite -/
abbrev Cl := Value × Option Nat × (Addr → Value → Option Addr → TS)
/-- the ends of a suite whose name stands in slot i: it is empty behind the suite -/
def Wiped (i : Nat) (D : Ends) : Ends := { nx := fun σ H => D.nx (σ.set i none) H, rt := D.rt, bk := fun σ H => D.bk (σ.set i none) H, ct := fun σ H => D.ct (σ.set i none) H }
def suiteW (D : Ends) (cls : Value) (d : Option Addr) (σ : L2.St) (H : Hp) (a : Addr) : Option Nat → (Addr → Value → Option Addr → TS) → Prop
  | none, ts => ts a cls d D σ H
  | some i, ts => ts a cls d (Wiped i D) (σ.set i (some (.ref a))) H
def wCl (K : PySem.W.Frag) (out : WX) (D : Ends) : List Cl → WX
  | [] => out
  | (c, n, ts) :: r => fun cls d σ H => ∃ b, PySem.W.exmOne K cls c = some b ∧ (b = true → ∀ a, H a = none → suiteW D cls d σ H a n ts) ∧ (b = false → wCl K out D r cls d σ H)
def SuiteOk (X : Cx) (body : List Stmt) (ts : Addr → Value → Option Addr → TS) : Prop := ∀ (a : Addr) (oe : Obj) (cls : Value) (d : Option Addr) (pn : List (Addr × Obj)), Zc cls d oe → (∃ vs, oe.data = .fields vs) → PSs (X.suite a ((a, oe) :: pn)) body (ts a cls d)
inductive Clauses (X : Cx) : List ExceptHandler → List Cl → Prop
  | nil : Clauses X [] []
  | bare {x : Str} {c : Value} {ts : Addr → Value → Option Addr → TS} {b₀ : Stmt} {suite : List Stmt} {np pos : Pos} {hs : List ExceptHandler} {l : List Cl} (hc : Names X x c) (hsu : SuiteOk X (b₀ :: suite) ts) (r : Clauses X hs l) :
      Clauses X (.ExceptHandler (some (.Name x np)) none (b₀ :: suite) pos :: hs) ((c, none, ts) :: l)
  | named {x n : Str} {i : Nat} {c : Value} {ts : Addr → Value → Option Addr → TS} {b₀ : Stmt} {suite : List Stmt} {np pos : Pos} {hs : List ExceptHandler} {l : List Cl} (hc : Names X x c) (hi : X.N[i]? = some n) (hl : X.env.kindOf n = some .local) (hsu : SuiteOk X (b₀ :: suite) ts)
      (r : Clauses X hs l) : Clauses X (.ExceptHandler (some (.Name x np)) (some n) (b₀ :: suite) pos :: hs) ((c, some i, ts) :: l)
section
variable {X : Cx} {body : List Stmt} {h₀ : ExceptHandler} {hds : List ExceptHandler} {l : List Cl} {pos : Pos} {tb : WX → TS} {out : WX}
/-- an exception that has landed here goes through the clauses -/
theorem clauses_run {pins : List (Addr × Obj)} {σ : L2.St} {H : Hp} {D : Ends} {a : Addr} {B : Heap} {sI s1 : Shared} {cls : Value} {d : Option Addr} {h3 : Heap} (hs : X.stack = X.env :: X.outer) (hf : X.env.frame = some X.env.locals) (hN : X.N.Nodup) (tk : Takes X out)
    (J : Inv X pins σ H sI) (nb : ∀ b o, sI.heap.get? b = some o → b ∉ frs X.stack → B.get? b = some o) (up : sI.heap.UpToSlots h3) (na : H a = none) (os : s1.os = sI.os) (ag : AllBare s1.gens)
    (fl : HandSPX.FlyingZ B (X.env :: X.outer) a (Zc cls d) h3) : ∀ {hds : List ExceptHandler} {l : List Cl}, Clauses X hds l → wCl X.K out D l cls d σ H →
      wpAny (model X.prog X.w) X.A (handleBy (.ref a) X.env hds) (SP X pins D) X.xe { s1 with heap := h3 } := by
  have ok := J.ok
  -- a stands apart from the frames
  have apart : ∀ {h : Heap}, HandSPX.FlyingZ B (X.env :: X.outer) a (Zc cls d) h → a ∉ frs (X.env :: X.outer) := by
    intro h f hm
    obtain ⟨oe, vs, he, _, hd⟩ := f.there
    obtain ⟨_, o', e', hnf⟩ := f.2.2.1.mem hm
    rw [he] at e'
    cases e'
    exact hnf _ hd
  have nL : a ≠ X.env.locals := fun z => apart fl (List.mem_filterMap.mpr ⟨X.env, List.mem_cons_self, by rw [hf, z]⟩)
  have nF : a ∉ X.fs := fun hm => by
    obtain ⟨e, he, q⟩ := List.mem_filterMap.mp hm
    exact apart fl (List.mem_filterMap.mpr ⟨e, List.mem_cons_of_mem _ he, q⟩)
  -- the state of a suite, at any landing
  have landed : ∀ {h : Heap}, HandSPX.FlyingZ B (X.env :: X.outer) a (Zc cls d) h → sI.heap.UpToSlots h → ∃ oe, Zc cls d oe ∧ (∃ vs, oe.data = .fields vs) ∧ h.get? a = some oe ∧ Inv (X.suite a ((a, oe) :: (X.pn ++ pins))) [] σ H { s1 with heap := h } := by
    intro h f u
    obtain ⟨oe, vs, he, hz, hd⟩ := f.there
    have Jh : Inv X pins σ H { s1 with heap := h } := J.landed nb f.1 u os ag
    exact ⟨oe, hz, ⟨vs, hd⟩, he, Jh.suite he hd na nL nF⟩
  obtain ⟨oe3, hz3, hd3, he3, S3⟩ := landed fl up
  have J3 : Inv X pins σ H { s1 with heap := h3 } := J.landed nb fl.1 up os ag
  have look : PySem.W.Looks (model X.prog X.w) h3 (typeOf (.ref a)) cls := fun A Q E s k q => wpAny_typeOf_ref (k _ _ he3) (by rw [hz3.1]; exact q)
  have name : ∀ {x : Str} {c : Value} {np : Pos} {Q : Value → Shared → Prop} {E : Value → Shared → Prop}, Names X x c → Q c { s1 with heap := h3 } → wpAny (model X.prog X.w) (X.A.mark (some (.ref a))) (eval (.Name x np) X.env) Q E { s1 with heap := h3 } := by
    rintro x c np Q E ⟨hg, hdbg, hm | ⟨hm, hv, hnn⟩⟩ q
    · exact ld_glob (X := X.suite a ((a, oe3) :: (X.pn ++ pins))) S3 hg hm q hdbg
    · exact ld_blt (X := X.suite a ((a, oe3) :: (X.pn ++ pins))) S3 hg hm hv q hnn hdbg
  intro hds l hk
  induction hk with
  | nil =>
    intro w
    refine wpAny_handleBy_nil ?_
    obtain ⟨k1, k2, k3, oe, vs, T, oT, ts', he, hz, hd, h1, hr⟩ := id fl
    unfold PySem.passOn
    refine wpAny_bind (wpAny_field he hd h1 ?_)
    rw [if_neg (show ¬ ((Value.ref T == Value.none) = true) from by simp)]
    have onward : wpAny (model X.prog X.w) X.A (setFlight (.ref a) X.env.frame) (fun _ s4 => wpAny (model X.prog X.w) X.A (throw (.ref a) : Sem Flow) (SP X pins D) X.xe s4) X.xe { s1 with heap := h3 } := by
      rw [hf]
      exact HandSPX.setFlight_upZ fl fun h4 hh4 up4 => wpAny_throw (tk _ _ ⟨a, B, sI, pins, σ, H, cls, d, rfl, J, nb, up.trans up4, .inr (.inr (by rw [hs]; exact hh4)), na, os, ag, w⟩)
    first
      | exact wpAny_bind (wpAny_pure (wpAny_bind onward))
      | exact wpAny_bind onward
  | @bare x c ts b₀ suite np pos' hs' l' hc hsu r ih =>
    rintro ⟨b, hb, hyes, hno⟩
    refine wpAny_handleBy_cons (codeAny_handlers_test ?_) (by intro q; cases q)
    refine name hc ((PySem.W.exm_one (M := model X.prog X.w) J3.kIn look hb).here ?_)
    cases b with
    | false => exact ih (hno rfl)
    | true =>
      refine codeAny_handlers_suite (HandSPX.lands_againZ fl fun h4 fl4 up4 => ?_)
      obtain ⟨oe4, hz4, hd4, _, S4⟩ := landed fl4 (up.trans up4)
      have q : ts a cls d D σ H := hyes rfl a na
      refine wpAny_mono ((hsu a oe4 cls d (X.pn ++ pins) hz4 hd4).run [] _ σ H D S4 q) (fun f s6 z => ?_) (fun _ _ z => False.elim z)
      cases f with
      | next => obtain ⟨σ6, H6, S6, q6⟩ := z; exact ⟨_, _, S6.unsuite ok, q6⟩
      | brk => obtain ⟨σ6, H6, S6, q6⟩ := z; exact ⟨_, _, S6.unsuite ok, q6⟩
      | cont => obtain ⟨σ6, H6, S6, q6⟩ := z; exact ⟨_, _, S6.unsuite ok, q6⟩
      | ret u => obtain ⟨v6, σ6, H6, S6, r6, q6⟩ := z; exact ⟨_, _, _, S6.unsuite ok, r6, q6⟩
  | @named x n i c ts b₀ suite np pos' hs' l' hc hi hl hsu r ih =>
    rintro ⟨b, hb, hyes, hno⟩
    refine wpAny_handleBy_cons (codeAny_handlers_test ?_) (by intro q; cases q)
    refine name hc ((PySem.W.exm_one (M := model X.prog X.w) J3.kIn look hb).here ?_)
    cases b with
    | false => exact ih (hno rfl)
    | true =>
      refine codeAny_handlers_suite_as (HandSPX.lands_againZ fl fun h4 fl4 up4 => ?_)
      obtain ⟨oe4, hz4, hd4, _, S4⟩ := landed fl4 (up.trans up4)
      have q : ts a cls d (Wiped i D) (σ.set i (some (.ref a))) H := hyes rfl a na
      refine store_ok (X := X.suite a ((a, oe4) :: (X.pn ++ pins))) (v := .ref a) S4 hN hi (.inl hl) rfl (fun s5 S5 => ?_) (.inr hl)
      refine wpAny_mono ((hsu a oe4 cls d (X.pn ++ pins) hz4 hd4).run [] s5 _ H (Wiped i D) S5 q) (fun f s6 z => ?_) (fun _ _ z => False.elim z)
      have away : ∀ {σ6 : L2.St} {H6 : Hp} {R : Shared → Prop}, Inv (X.suite a ((a, oe4) :: (X.pn ++ pins))) [] σ6 H6 s6 → (∀ s7, Inv X pins (σ6.set i none) H6 s7 → R s7) →
          wpAny (model X.prog X.w) X.A (do bindName X.env n .none; unbindBehindTheSuite X.env n pos') (fun _ s7 => R s7) X.xe s6 := fun S6 hq => gone_ok (S6.unsuite ok) hN hi hl hq
      cases f with
      | next => obtain ⟨σ6, H6, S6, q6⟩ := z; exact away S6 fun s7 J7 => ⟨_, _, J7, q6⟩
      | brk => obtain ⟨σ6, H6, S6, q6⟩ := z; exact away S6 fun s7 J7 => ⟨_, _, J7, q6⟩
      | cont => obtain ⟨σ6, H6, S6, q6⟩ := z; exact away S6 fun s7 J7 => ⟨_, _, J7, q6⟩
      | ret u => obtain ⟨v6, σ6, H6, S6, r6, q6⟩ := z; exact away S6 fun s7 J7 => ⟨_, _, _, J7, r6, q6⟩
theorem ps_try_cl (hs : X.stack = X.env :: X.outer) (hf : X.env.frame = some X.env.locals) (hN : X.N.Nodup) (tk : Takes X out)
    (hb : ∀ (W : WX) (pn : List (Addr × Obj)) (xe : Value → Shared → Prop), Takes (X.tr pn xe) W → PassesOwn (model X.prog X.w) X.A X.env xe → PSs (X.tr pn xe) body (tb W))
    (hh : Clauses X (h₀ :: hds) l) : PS X (.Try body (h₀ :: hds) [] [] pos) (fun D σ H => tb (wCl X.K out D l) D σ H) := by
  refine ⟨fun pins s σ H D I h => ?_⟩
  have ok := I.ok
  have hfr : X.A.frames = some (X.env :: X.outer) := by rw [ok.frames, hs]
  let xe : Value → Shared → Prop := fun e s₁ => wpAny (model X.prog X.w) X.A (noteFrame e X.env) (fun _ s₂ => wpAny (model X.prog X.w) X.A (setFlight e none) (fun _ s₃ => wpAny (model X.prog X.w) X.A (handleBy e X.env (h₀ :: hds)) (SP X pins D) X.xe s₃) X.xe s₂) X.xe s₁
  have takes : Takes (X.tr (X.pn ++ pins) xe) (wCl X.K out D l) := by
    rintro u s' ⟨a, B, sI, pins', σ', H', cls, d, rfl, J', nb, up, sky, na, os, ag, w⟩
    have J : Inv X pins σ' H' sI := J'.ofTry ok
    have sky' : Sky B (X.env :: X.outer) a (Zc cls d) X.env.locals s'.heap := by rw [← hs]; exact sky
    show wpAny _ X.A (noteFrame (.ref a) X.env) _ _ _
    exact Sky.land Zc.steady hfr hf sky' fun h3 fl3 up3 => clauses_run hs hf hN tk J nb (up.trans up3) na os ag fl3 hh w
  refine wpAny_Try_except (wpAny_mono ((hb _ (X.pn ++ pins) xe takes PassesOwn.looking).run [] s σ H D (I.toTry _) h) (fun f s1 hsp => ?_) fun e s1 he => he)
  cases f with
  | next => obtain ⟨σ', H', J', q⟩ := hsp; exact wpAny_execs_nil ⟨σ', H', J'.ofTry ok, q⟩
  | brk => obtain ⟨σ', H', J', q⟩ := hsp; exact ⟨σ', H', J'.ofTry ok, q⟩
  | cont => obtain ⟨σ', H', J', q⟩ := hsp; exact ⟨σ', H', J'.ofTry ok, q⟩
  | ret u => obtain ⟨v, σ', H', J', r, q⟩ := hsp; exact ⟨v, σ', H', J'.ofTry ok, r, q⟩
end
/-! ### 5. == and != of two lists of the same items, whatever these are -/
def Flat (v : V) : Prop := flatB v = true ∨ ∃ c, v = .ref c
theorem items_same {A : Around} {s : Shared} : ∀ {xs : List V} {us ws : List Value}, (∀ v ∈ xs, Flat v) → Vals xs us → Vals xs ws → ∀ j (h1 : j < us.length) (h2 : j < ws.length), SeqAt.EqAt A s us[j] ws[j] true
  | [], _, _, _, .nil, .nil, j, h1, _ => absurd h1 (Nat.not_lt_zero j)
  | x :: xs, _, _, hf, .cons r1 t1, .cons r2 t2, j, h1, h2 => by
    cases j with
    | succ j => exact items_same (fun v hv => hf v (List.mem_cons_of_mem _ hv)) t1 t2 j (Nat.lt_of_succ_lt_succ h1) (Nat.lt_of_succ_lt_succ h2)
    | zero =>
      rcases hf x List.mem_cons_self with f | ⟨c, rfl⟩
      · exact eqAt_same r1 r2 f
      · cases r1
        cases r2
        exact SeqAt.EqAt.same _
def rNeS (K : PySem.W.Frag) : R2 := fun x y H Q => ∃ a b xs, x = .ref a ∧ y = .ref b ∧ SqL K H a xs ∧ SqL K H b xs ∧ (∀ v ∈ xs, Flat v) ∧ Q (.bl false) H
theorem op_neS {X : Cx} (hu : X.A.units + 64 < cLine) : OpR X (compareOp .NotEq) (rNeS X.K) := by
  intro pins s σ H x y v u Q I rx ry h
  obtain ⟨a, b, xs, rfl, rfl, ha, hb, hf, q⟩ := h
  cases rx
  cases ry
  obtain ⟨us, r1, p1, _⟩ := I.list ha
  obtain ⟨ws, r2, p2, _⟩ := I.list hb
  have hsz : us.toArray.size = ws.toArray.size := by rw [List.size_toArray, List.size_toArray, ← r1.length, ← r2.length]
  refine SeqAt.RcNeAt.lists (e := fun _ => true) p1.isList p2.isList hsz (show X.A.units < cLine by omega) (fun j h1 h2 => ?_) _ _ _ _ ?_
  · have k := items_same (A := X.A.in1) (s := s) hf r1 r2 j (by simpa using h1) (by simpa using h2)
    simpa using k
  · rw [show ((List.range us.toArray.size).all fun _ => true) = true from List.all_eq_true.mpr fun _ _ => rfl]
    exact ⟨.bl false, H, I, rfl, q⟩
/-! ### 6. C(): an own error whose __init__ stores nothing -/
section
variable {X : Cx} {p pos : Pos}
theorem made_bare {pins : List (Addr × Obj)} {σ : L2.St} {H1 : Hp} {Q : XK} {hp hp2 h2 : Heap} {g1 g2 : Array GenState} {d1 d2 : Drawn} {t1 t2 : Nat} {os1 os2 : OsState} {a C : Addr} (T : Raises X (.ref C)) (I1 : Inv X pins σ H1 ⟨hp, g1, d1, t1, os1⟩) (ha : hp.objs.size ≤ a)
    (k : ∀ b o, hp.get? b = some o → hp2.get? b = some o) (un : Un (frs X.stack) [] (upd H1 a (exo a C none)) (upd H1 a (exo a C none)) hp2 h2) (hok : HOk X.prog X.w (upd H1 a (exo a C none)) h2) (ho : os2 = os1) (hb : AllBare g2) (q : Q (.ref C) none H1) :
    MkP X pins σ Q (.ref a) ⟨h2, g2, d2, t2, os2⟩ := by
  have na : H1 a = none := I1.hok.fresh ha
  have ea : upd H1 a (exo a C none) a = some (exo a C none) := upd_same
  obtain ⟨t0, hoe⟩ := exo_at hok ea
  obtain ⟨G, gin, gout⟩ := restrict h2 fun b => decide (b ≠ a)
  have same : ∀ b, b ≠ a → G.get? b = h2.get? b := fun b hb => gin b (decide_eq_true hb)
  have gone : G.get? a = none := gout a (by simp)
  have old : ∀ {b : Addr} {o : Obj}, hp.get? b = some o → b ≠ a := fun z => Nat.ne_of_lt (Nat.lt_of_lt_of_le (Heap.lt_size z) ha)
  have untracked : ∀ {b : Addr}, b ≠ a → H1 b = none → upd H1 a (exo a C none) b = none := fun hb n => by rw [upd_ne hb]; exact n
  have U : Un (frs X.stack) [] H1 H1 hp G := {
    keep := fun b o z n hf hx => by rw [same b (old z)]; exact un.keep b o (k b o z) (untracked (old z) n) hf hx
    slot := fun b o z n hf hx => by rw [same b (old z)]; exact un.slot b o (k b o z) (untracked (old z) n) hf hx
    free := fun b o z n hx => n
    there := fun b o z hx => by rw [same b (old z)]; exact un.there b o (k b o z) hx
    tups := fun b xs z => z
    frzs := fun b o v z => z
    tbls := fun b ps z => ⟨#[], by rw [z]; simp⟩ }
  have hokG : HOk X.prog X.w H1 G := fun b o z => by
    have hba : b ≠ a := ne_of_none z na
    have own : ∀ {c y : Addr}, H1 c = some (.own y) → c ≠ a := fun hc => ne_of_none hc na
    refine (hok b o (by rw [upd_ne hba]; exact z)).stay (fun c v hc y => ?_) (fun c hc => ?_) (fun c xs hc => ?_)
    · have hca : c ≠ a := by
        rcases hc with hc | hc
        · rw [hc]; exact hba
        · exact at_ne ea hc exo_own
      rw [same c hca]
      exact y
    · rwa [upd_ne (at_ne ea hc exo_own)] at hc
    · rwa [upd_ne (at_ne ea hc exo_tup)] at hc
  have J : Inv X pins σ H1 ⟨G, g2, d2, t2, os2⟩ := I1.call' (ch := []) ho U hokG hb (fun b z => absurd z (by simp))
  refine ⟨a, _, _, ⟨G, g2, d2, t2, os2⟩, H1, .ref C, none, rfl, J, fun b o z => ?_, gone, hoe, ⟨rfl, rfl⟩, rfl, rfl, na, rfl, hb, T, q⟩
  by_cases hba : b = a
  · rw [hba, gone] at z
    cases z
  · exact (same b hba).symm.trans z
/-- C()'s reading: __init__ is asked at the new error, and leaves all as it was -/
def tMk0 (C : Addr) (sp : Sp) : L2.St → Hp → XK → Prop := fun _ H Q => ∀ a, H a = none → sp [.ref a] (upd H a (exo a C none)) (fun v H2 => v = .non ∧ H2 = upd H a (exo a C none) ∧ Q (.ref C) none H) (fun _ _ _ => False)
theorem pmk_bare {CX : CXT} {x : Str} {C fI : Addr} {k : Nat} {fd : FuncData} {ps : List Str} {sp : Sp} (T : OexC X.K C) (iC : PySem.W.findIn X.K (.ref C) "__init__" = some (some (.ref fI))) (tI : PySem.W.typeIn X.K (.ref fI) = some (.type "function"))
    (F1 : FnOk X.prog X.w X.K X.mg X.base CX k fI fd ps sp) (hr : Room (k + 1) X.A) (hb : Binds X.K fd ps []) (hx : Passes CX X (fun _ _ _ => False)) (hg : Gl X x) (hm : X.mg x = some (.ref C)) (hdb : (x == ("__debug__" : Str)) = false := by decide) :
    PMk X (.Call (.Name x p) [] [] pos) (tMk0 C sp) := by
  intro pins s σ H Q I h
  obtain ⟨nm, q, N, bs, bm, sn, sub, ab, col, dd, k0, k1, k2, k3, k5, hC, hbm⟩ := T.cls
  refine wpAny_Call_Name_kw (ld_glob I hg hm ?_ hdb)
  refine PySem.W.callWith_K0 I.kIn T.kC ?_
  obtain ⟨hp, g, dr, tk, os⟩ := s
  have hsz : hp.objs.size ≤ hp.objs.size + 1 := Nat.le_succ _
  have hn : H (hp.objs.size + 1) = none := I.hok.fresh hsz
  have hq := h (hp.objs.size + 1) hn
  have kk : ∀ b o, hp.get? b = some o → ((hp.push (PySem.W.kdv_tup [])).push (PySem.HandSPX.excO C hp.objs.size)).get? b = some o := fun b o e => Heap.get?_push_of_some _ (Heap.get?_push_of_some _ e)
  have hget : ((hp.push (PySem.W.kdv_tup [])).push (PySem.HandSPX.excO C hp.objs.size)).get? (hp.objs.size + 1) = some (PySem.HandSPX.excO C hp.objs.size) := by heap_get
  have I2 : Inv X pins σ (upd H (hp.objs.size + 1) (exo (hp.objs.size + 1) C none)) ⟨(hp.push (PySem.W.kdv_tup [])).push (PySem.HandSPX.excO C hp.objs.size), g, dr, tk, os⟩ :=
    I.laid (t' := tk) (a := hp.objs.size + 1) (o := exo (hp.objs.size + 1) C none) (h' := (hp.push (PySem.W.kdv_tup [])).push (PySem.HandSPX.excO C hp.objs.size)) kk hsz (exo_ok hget)
  have r2 : Vals [V.ref (hp.objs.size + 1)] [Value.ref (hp.objs.size + 1)] := .cons rfl .nil
  have hl : ([Value.ref (hp.objs.size + 1)] ++ []).length = ps.length := (F1.len _ _ _ _ hq)
  refine wpAny_call (PySem.HandSPX.call_own F.excBase_ValueError (fun Y => PySem.HandSPX.refsVE_contains Y bm hbm) (I.kIn _ _ hC) (PySem.W.looks_findIn I.kIn iC) (fun self => PySem.W.bind_fn I.kIn self tI) (Nat.zero_le _)
    (codeAny_mono (F1.run _ X.stack _ _ ⟨[Value.ref (hp.objs.size + 1)], []⟩ [Value.ref (hp.objs.size + 1)] _ _ (fun _ _ _ => False) (hr.make C [] []) (I2.env0.make C [] []) (hb _ [Value.ref (hp.objs.size + 1)] I2.kIn hl) r2 hq) fun r s' hq' => ?_))
  cases r with
  | error er => exact hx pins σ _ _ er s' I2 hq'
  | ok fl =>
    cases fl with
    | ret u =>
      obtain ⟨v, H2, os2, bare2, un2, hok2, rv, ev, eH, q2⟩ := hq'
      subst ev eH
      obtain ⟨h2, g2, d2, t2, os'⟩ := s'
      exact ⟨rv, made_bare (raises_own T.exC T.tyC) I hsz kk un2 hok2 os2 bare2 q2⟩
    | next => exact False.elim hq'
    | brk => exact False.elim hq'
    | cont => exact False.elim hq'
end
end Xc
namespace K00
open PySem PySem.Spec PyProof.Rows L2 Xc
def top (i : Nat) : Stmt := PySem.Challenge.pw_nextcode_k00_errors_made_from_their_fiel.main.body.getD i (.Pass ⟨0, 0, 0, 0⟩)
abbrev sBag : Stmt := top 18
abbrev sDraw : Stmt := top 19
abbrev sThing : Stmt := top 20

/-! ### the bag of a script: what is drawn from -/
def bagK (c : Addr) (i : Nat) (dg ct fo : Int) : List (Key × V) := [(.inr "cells", .ref c), (.inr "at", .int (i : Nat)), (.inr "digits", .int dg), (.inr "count", .int ct), (.inr "fold", .int fo)]
structure BagAt (H : Hp) (b c : Addr) (ns : List Int) (i : Nat) (dg fo : Int) (ct : Nat) : Prop where
  hb : H b = some (.dK (bagK c i dg (ct : Nat) fo))
  hc : H c = some (.lst (ns.map V.int))
  dg0 : 0 ≤ dg
  fo0 : 0 ≤ fo
  fo1 : fo < 2147483587
/-- at b stands a bag from which ct times was drawn -/
def Bag (H : Hp) (b : Addr) (ct : Nat) : Prop := ∃ c ns i dg fo, BagAt H b c ns i dg fo ct
/-- all but the bag at b stands as it stood -/
def Kept (b : Addr) (H H' : Hp) : Prop := ∀ x o, H x = some o → x ≠ b → H' x = some o
theorem Bag.same {H H' : Hp} {b : Addr} {ct : Nat} (g : Bag H b ct) (s : ∀ x o, H x = some o → H' x = some o) : Bag H' b ct := by
  obtain ⟨c, ns, i, dg, fo, g⟩ := g
  exact ⟨c, ns, i, dg, fo, s _ _ g.hb, s _ _ g.hc, g.dg0, g.fo0, g.fo1⟩
theorem BagAt.ne {H : Hp} {b c : Addr} {ns : List Int} {i : Nat} {dg fo : Int} {ct : Nat} (g : BagAt H b c ns i dg fo ct) : b ≠ c := ne_of g.hb g.hc (by intro z; cases z)
def spBag (K : PySem.W.Frag) : Sp := fun vs H Q _ => ∃ (a : Addr) (ns : List Int), vs = [.ref a] ∧ SqL K H a (ns.map V.int) ∧ ∀ (b : Addr) (H' : Hp), H b = none → Bag H' b 0 → (∀ x o, H x = some o → H' x = some o) → Q (.ref b) H'
def spDraw : Sp := fun vs H Q _ => ∃ (b : Addr) (ct : Nat) (lim : Int), vs = [.ref b, .int lim] ∧ Bag H b ct ∧ ct < 1000000 ∧ 0 < lim ∧ lim.natAbs.log2 < 9000 ∧
  ∀ (v : Int) (H' : Hp), 0 ≤ v → v < lim → Bag H' b (ct + 1) → Kept b H H' → Q (.int v) H'
/-- the built-in names are not bound by the module -/
structure Nm (mg : Str → Option Value) : Prop where
  int : mg "int" = none
  list : mg "list" = none
  len : mg "len" = none
section
variable {P : Program} {w : World} {K : PySem.W.Frag} {mg : Str → Option Value} {base : Heap} {f : Addr} {fd : FuncData}
theorem scBag : FnScope ["script", "fold", "cell"] ["script"] (defScope sBag) := ⟨rfl, rfl, rfl, by decide +kernel, rfl, by decide +kernel, by decide +kernel⟩
theorem at_int {ns : List Int} {i : Nat} {y : V} (h : (ns.map V.int)[i]? = some y) : ∃ z, ns[i]? = some z ∧ y = V.int z := by
  rw [List.getElem?_map] at h
  cases e : ns[i]? with
  | none =>
    rw [e] at h
    cases h
  | some z =>
    rw [e] at h
    exact ⟨z, rfl, (Option.some.inj h).symm⟩
theorem ok_bag (F : Fun K "_law_bag" "_law_bag" sBag f fd) (N : Nm mg) : FnOk P w K mg base CX0 1 f fd ["script"] (spBag K) := by
  refine F.ok scBag (fun vs H Q E h => ?_) (fun cdv A outer s H vs Q E hr h => ?_)
  · obtain ⟨a, ns, rfl, _⟩ := h
    rfl
  obtain ⟨a, ns, rfl, hS, k⟩ := h
  refine ⟨_, pss_cons (ps_set (i := 1) scBag.nd rfl (.inl rfl) pe_int)
    (pss_cons (ps_for PassesOwn.never rfl (pi_list (pv 0)) (pg_name (i := 2) scBag.nd rfl (.inl rfl))
      (pss_one (ps_set (i := 1) scBag.nd rfl (.inl rfl) (pe_op op_mod (pe_callTy call_int1 (by rfl) N.int (by decide +kernel) (pa_cons (pe_op op_add (pe_op op_mul (pv 1) pe_int) (pv 2)) pa_nil)) pe_int))))
    (pss_one (ps_ret (pe_disp (pps_cons pe_str (pe_callTy call_list_of (by rfl) N.list (by decide +kernel) (pa_cons (pv 0) pa_nil)) (pps_cons pe_str pe_int (pps_cons pe_str pe_int (pps_cons pe_str pe_int (pps_cons pe_str (pv 1) pps_nil))))) (by rfl) (by rfl) (fun z => by cases z) (by decide))))), ?_⟩
  refine ⟨_, rfl, a, rfl, ⟨_, hS⟩, for_list (K := K) (a := a) (xs := ns.map V.int) (fun i σ H' => H' = H ∧ ∃ (fo : Int) (v : Option V), σ = [some (.ref a), some (.int fo), v] ∧ 0 ≤ fo ∧ fo < 1000000009)
    ⟨rfl, 0, none, rfl, by decide, by decide⟩ (fun i σ H' _ h => by rw [h.1]; exact hS) ?_ ?_⟩
  · rintro i y σ H' hi ⟨rfl, fo, v, rfl, h0, h1⟩
    obtain ⟨z, _, rfl⟩ := at_int hi
    refine ⟨_, rfl, _, _, rfl, rfl, .inl ⟨by omega, by omega⟩, _, rfl, _, _, rfl, rfl, .inl ⟨_, rfl, _, _, rfl, rfl, (by show (0 : Int) < 1000000009; decide), ?_⟩⟩
    exact ⟨rfl, _, _, rfl, Int.emod_nonneg _ (by decide), Int.emod_lt_of_pos _ (by decide)⟩
  · rintro σ H' ⟨rfl, fo, v, rfl, h0, h1⟩
    intro p np
    have s1 : Same H' (upd H' p (.dK [])) := fun x o e => by rw [upd_ne (ne_of_none e np)]; exact e
    refine ⟨_, rfl, a, _, rfl, .inl (s1.seq hS), fun l nl => ?_⟩
    have nl' : H' l = none := s1.free nl
    have npl : p ≠ l := fun z => by rw [← z, upd_same] at nl; cases nl
    have sL : ∀ o, Same H' (upd (upd (upd H' p (.dK [])) l (.lst (ns.map V.int))) p o) := fun o x u e => by
      rw [upd_ne (ne_of_none e np), upd_ne (ne_of_none e nl'), upd_ne (ne_of_none e np)]
      exact e
    refine ⟨_, rfl, (by rw [upd_ne npl, upd_same]), [(.inr "cells", .ref l), (.inr "at", .int 0), (.inr "digits", .int 0), (.inr "count", .int 0), (.inr "fold", .int fo)], rfl, (by show 5 ≤ 15; decide), ?_⟩
    refine k p _ np ⟨l, ns, 0, 0, fo, ?_, ?_, by decide, h0, by omega⟩ (sL _)
    · rw [upd_same]
      exact congrArg (fun z => some (HO.dK z)) (by rfl)
    · rw [upd_ne npl.symm, upd_same]
/-! the entries by their names -/
variable {c : Addr} {i : Nat} {dg ct fo : Int}
theorem g_cells : valV (bagK c i dg ct fo) (.inr "cells") = some (.ref c) := by rfl
theorem g_at : valV (bagK c i dg ct fo) (.inr "at") = some (.int (i : Nat)) := by rfl
theorem g_digits : valV (bagK c i dg ct fo) (.inr "digits") = some (.int dg) := by rfl
theorem g_count : valV (bagK c i dg ct fo) (.inr "count") = some (.int ct) := by rfl
theorem g_fold : valV (bagK c i dg ct fo) (.inr "fold") = some (.int fo) := by rfl
theorem p_at {j : Nat} : putK (bagK c i dg ct fo) (.inr "at") (.int (j : Nat)) = bagK c j dg ct fo := by rfl
theorem p_digits {x : Int} : putK (bagK c i dg ct fo) (.inr "digits") (.int x) = bagK c i x ct fo := by rfl
theorem p_count {x : Int} : putK (bagK c i dg ct fo) (.inr "count") (.int x) = bagK c i dg x fo := by rfl
theorem p_fold {x : Int} : putK (bagK c i dg ct fo) (.inr "fold") (.int x) = bagK c i dg ct x := by rfl
/-- d["name"] of a bag -/
theorem bag_get {H : Hp} {b : Addr} {x : Str} {v : V} (h : H b = some (.dK (bagK c i dg ct fo))) (e : valV (bagK c i dg ct fo) (.inr x) = some v) : DGet H b (.str x) (some v) := by
  have q := DGet.k (k := Sum.inr x) h
  rw [e] at q
  exact q
theorem bag_put {H : Hp} {b : Addr} {x : Str} {v : V} {l : List (Key × V)} (h : H b = some (.dK (bagK c i dg ct fo))) (e : putK (bagK c i dg ct fo) (.inr x) v = l) : DPut H b (.str x) v (upd H b (.dK l)) := by
  have q := DPut.k (k := Sum.inr x) (v := v) h (small1000 (by show 5 ≤ 1000; decide))
  rw [e] at q
  exact q
theorem scDraw : FnScope ["bag", "limit", "cell", "digit", "base"] ["bag", "limit"] (defScope sDraw) := ⟨rfl, rfl, rfl, by decide +kernel, rfl, by decide +kernel, by decide +kernel⟩
theorem ok_draw (F : Fun K "_law_draw" "_law_draw" sDraw f fd) (N : Nm mg) : FnOk P w K mg base CX0 1 f fd ["bag", "limit"] spDraw := by
  refine F.ok scDraw (fun vs H Q E h => ?_) (fun cdv A outer s H vs Q E hr h => ?_)
  · obtain ⟨b, ct, lim, rfl, _⟩ := h
    rfl
  obtain ⟨b, ct, lim, rfl, ⟨c, ns, i, dg, fo, g⟩, hct, hlim, hlog, k⟩ := h
  have hu := hu_of hr
  refine ⟨_, pss_cons (ps_dput hu (pv 0) pe_str (pe_op op_add (pe_dget hu (pv 0) pe_str (fun _ _ => rfl)) pe_int) rfl)
    (C8.pss_cut (ps_if (PW.pt (pw_and (pt_cmpR op_eq (pe_dget hu (pv 0) pe_str (fun _ _ => rfl)) pe_int (nomark _)) (pw_and1 (pt_cmpR op_lt (pe_dget hu (pv 0) pe_str (fun _ _ => rfl)) (pe_callB call_len_seq (by rfl) N.len PySem.boot_len (pa_cons (pe_dget hu (pv 0) pe_str (fun _ _ => rfl)) pa_nil)) (nomark _)))))
      (pss_cons (ps_set (i := 2) scDraw.nd rfl (.inl rfl) (pe_ix ix_list (pe_dget hu (pv 0) pe_str (fun _ _ => rfl)) (pe_dget hu (pv 0) pe_str (fun _ _ => rfl)) (fun _ _ => rfl)))
      (pss_cons (ps_dput hu (pv 0) pe_str (pe_op op_add (pe_dget hu (pv 0) pe_str (fun _ _ => rfl)) pe_int) rfl)
      (pss_one (ps_if (pt_cmpR op_ge (pv 2) (pe_op op_pow pe_int pe_int) (nomark _))
        (pss_one (ps_dput hu (pv 0) pe_str (pe_op op_sub (pv 2) (pe_op op_pow pe_int pe_int)) rfl))
        (pss_one (ps_dput hu (pv 0) pe_str (pe_op op_mod (pe_callTy call_int1 (by rfl) N.int (by decide +kernel) (pa_cons (pe_op op_add (pe_op op_mul (pe_dget hu (pv 0) pe_str (fun _ _ => rfl)) pe_int) (pv 2)) pa_nil)) pe_int) rfl)))))) pss_nil)
    (pss_cons (ps_if (pt_cmpR op_gt (pe_dget hu (pv 0) pe_str (fun _ _ => rfl)) pe_int (nomark _))
      (pss_cons (ps_set (i := 3) scDraw.nd rfl (.inl rfl) (pe_op op_modN (pe_callTy call_int1 (by rfl) N.int (by decide +kernel) (pa_cons (pe_dget hu (pv 0) pe_str (fun _ _ => rfl)) pa_nil)) (pv 1)))
      (pss_cons (ps_dput hu (pv 0) pe_str (pe_op op_fdivW (pe_dget hu (pv 0) pe_str (fun _ _ => rfl)) (pv 1)) rfl)
      (pss_one (ps_ret (pv 3))))) pss_nil)
    (pss_cons (ps_set (i := 4) scDraw.nd rfl (.inl rfl) (pe_op op_add (pe_op op_add (pe_dget hu (pv 0) pe_str (fun _ _ => rfl)) (pe_op op_mul (pe_dget hu (pv 0) pe_str (fun _ _ => rfl)) pe_int)) pe_int))
    (pss_one (ps_ret (pe_op op_modN (pe_op op_fdiv (pe_callTy call_int1 (by rfl) N.int (by decide +kernel) (pa_cons (pe_op op_mod (pe_op op_pow (pv 4) pe_int) pe_int) pa_nil)) pe_int) (pv 1))))))), ?_⟩
  -- bag["count"] = bag["count"] + 1
  refine ⟨_, rfl, b, _, rfl, bag_get g.hb g_count, _, _, rfl, rfl, _, rfl, b, _, rfl, bag_put g.hb p_count, ?_⟩
  have kept1 : Kept b H (upd H b (.dK (bagK c i dg ((ct : Int) + 1) fo))) := fun x o e hx => by rw [upd_ne hx]; exact e
  have g1 : BagAt (upd H b (.dK (bagK c i dg ((ct : Int) + 1) fo))) b c ns i dg fo (ct + 1) := ⟨by rw [upd_same]; rfl, kept1 _ _ g.hc g.ne.symm, g.dg0, g.fo0, g.fo1⟩
  generalize upd H b (.dK (bagK c i dg ((ct : Int) + 1) fo)) = H1 at kept1 g1
  -- a store into the bag
  have store : ∀ {H2 : Hp} {i2 j2 : Nat} {dg2 fo2 x y : Int} {l : List (Key × V)}, BagAt H2 b c ns i2 dg2 fo2 (ct + 1) → Kept b H H2 → l = bagK c j2 x (((ct + 1 : Nat) : Int)) y → 0 ≤ x → 0 ≤ y → y < 2147483587 → BagAt (upd H2 b (.dK l)) b c ns j2 x y (ct + 1) ∧ Kept b H (upd H2 b (.dK l)) := by
    intro H2 i2 j2 dg2 fo2 x y l g2 k2 e h1 h2 h3
    refine ⟨⟨by rw [upd_same, e], ?_, h1, h2, h3⟩, fun z o q hz => by rw [upd_ne hz]; exact k2 z o q hz⟩
    rw [upd_ne g2.ne.symm]
    exact g2.hc
  refine ⟨fun σ H2 => ∃ (v2 : Option V) (i2 : Nat) (dg2 fo2 : Int), σ = [some (.ref b), some (.int lim), v2, none, none] ∧ BagAt H2 b c ns i2 dg2 fo2 (ct + 1) ∧ Kept b H H2, ?_, ?_⟩
  · refine ⟨_, rfl, b, _, rfl, bag_get g1.hb g_digits, rfl, _, rfl, ?_⟩
    refine ite2 (fun c1 => ?_) (fun c1 => ?_)
    · refine ⟨_, rfl, b, _, rfl, bag_get g1.hb g_at, _, rfl, b, _, rfl, bag_get g1.hb g_cells, c, _, rfl, .inl (SqL.of g1.hc), _, _, rfl, rfl, _, rfl, ?_⟩
      refine ite2 (fun c2 => ?_) (fun c2 => ?_)
      · have hi : i < ns.length := by
          have z : ((i : Nat) : Int) < (((ns.map V.int).length : Nat) : Int) := of_decide_eq_true c2
          rw [List.length_map] at z
          omega
        refine ⟨_, rfl, b, _, rfl, bag_get g1.hb g_cells, _, rfl, b, _, rfl, bag_get g1.hb g_at, c, _, _, _, rfl, rfl, SqL.of g1.hc, atI_nat (by rw [List.getElem?_map, List.getElem?_eq_getElem hi] <;> rfl), ?_⟩
        refine ⟨_, rfl, b, _, rfl, bag_get g1.hb g_at, _, _, rfl, rfl, _, rfl, b, _, rfl, bag_put (l := bagK c (i + 1) dg ((ct + 1 : Nat) : Int) fo) g1.hb (by exact p_at (j := i + 1)), ?_⟩
        obtain ⟨g2, k2⟩ := store (j2 := i + 1) g1 kept1 rfl g1.dg0 g1.fo0 g1.fo1
        generalize upd H1 b _ = H2 at g2 k2
        refine ⟨_, rfl, _, _, rfl, rfl, ⟨by decide, by decide, by decide⟩, _, _, rfl, rfl, _, rfl, ?_⟩
        refine ite2 (fun c3 => ?_) (fun c3 => ?_)
        · have z : (10 : Int) ^ ((18 : Int)).toNat ≤ ns[i] := of_decide_eq_true c3
          refine ⟨_, rfl, _, _, rfl, rfl, ⟨by decide, by decide, by decide⟩, _, _, rfl, rfl, _, rfl, b, _, rfl, bag_put (l := bagK c (i + 1) (ns[i] - (10 : Int) ^ ((18 : Int)).toNat) ((ct + 1 : Nat) : Int) fo) g2.hb (by exact p_digits), ?_⟩
          obtain ⟨g3, k3⟩ := store g2 k2 rfl (Int.sub_nonneg_of_le z) g1.fo0 g1.fo1
          exact ⟨_, _, _, _, rfl, g3, k3⟩
        · have hf0 := g2.fo0
          have hf1 := g2.fo1
          refine ⟨_, rfl, b, _, rfl, bag_get g2.hb g_fold, _, _, rfl, rfl, .inl ⟨by omega, by omega⟩, _, rfl, _, _, rfl, rfl, .inl ⟨_, rfl, _, _, rfl, rfl, (by show (0 : Int) < 2147483587; decide), ?_⟩⟩
          refine ⟨_, rfl, b, _, rfl, bag_put (l := bagK c (i + 1) dg ((ct + 1 : Nat) : Int) ((fo * 69069 + ns[i]) % 2147483587)) g2.hb (by exact p_fold), ?_⟩
          obtain ⟨g3, k3⟩ := store g2 k2 rfl g1.dg0 (Int.emod_nonneg _ (by decide)) (Int.emod_lt_of_pos _ (by decide))
          exact ⟨_, _, _, _, rfl, g3, k3⟩
      · exact ⟨none, i, dg, fo, rfl, g1, kept1⟩
    · exact ⟨none, i, dg, fo, rfl, g1, kept1⟩
  · rintro σ H2 ⟨v2, i2, dg2, fo2, rfl, g2, k2⟩
    refine ⟨_, rfl, b, _, rfl, bag_get g2.hb g_digits, _, _, rfl, rfl, _, rfl, ?_⟩
    refine ite2 (fun c1 => ?_) (fun c1 => ?_)
    · refine ⟨_, rfl, b, _, rfl, bag_get g2.hb g_digits, .inl ⟨_, rfl, _, rfl, _, _, rfl, rfl, (by omega), ?_⟩⟩
      refine ⟨_, rfl, b, _, rfl, bag_get g2.hb g_digits, _, rfl, _, _, rfl, rfl, ⟨hlim, hlog⟩, _, rfl, b, _, rfl, bag_put (l := bagK c i2 (dg2 / lim) ((ct + 1 : Nat) : Int) fo2) g2.hb (by exact p_digits), ?_⟩
      obtain ⟨g3, k3⟩ := store g2 k2 rfl (Int.ediv_nonneg g2.dg0 (Int.le_of_lt hlim)) g2.fo0 g2.fo1
      refine ⟨_, rfl, k _ _ ?_ ?_ ⟨_, _, _, _, _, g3⟩ k3⟩
      · rw [Int.fmod_eq_emod_of_nonneg _ (Int.le_of_lt hlim)]
        exact Int.emod_nonneg _ (by omega)
      · rw [Int.fmod_eq_emod_of_nonneg _ (Int.le_of_lt hlim)]
        exact Int.emod_lt_of_pos _ hlim
    · have hf0 := g2.fo0
      have hf1 := g2.fo1
      refine ⟨_, rfl, b, _, rfl, bag_get g2.hb g_fold, _, rfl, b, _, rfl, bag_get g2.hb g_count, _, _, rfl, rfl, .inl ⟨by omega, by omega⟩, _, _, rfl, rfl, _, _, rfl, rfl, ?_⟩
      refine ⟨_, rfl, _, _, rfl, rfl, ⟨by decide, by decide, by omega⟩, _, _, rfl, rfl, (by show (0 : Int) < 2305843009213693951; decide), .inl ⟨_, rfl, _, _, rfl, rfl, ⟨by decide, by decide⟩, _, rfl, _, _, rfl, rfl, (by omega), ?_⟩⟩
      refine k _ _ ?_ ?_ ⟨_, _, _, _, _, g2⟩ k2
      · rw [Int.fmod_eq_emod_of_nonneg _ (Int.le_of_lt hlim)]
        exact Int.emod_nonneg _ (by omega)
      · rw [Int.fmod_eq_emod_of_nonneg _ (Int.le_of_lt hlim)]
        exact Int.emod_lt_of_pos _ hlim
end
end K00
namespace K00
open PySem PySem.Spec PyProof.Rows L2 Xc
theorem same_new {H : Hp} {p : Addr} (h : H p = none) (o : HO) : Same H (upd H p o) := fun b u q => by rw [upd_ne (ne_of_none q h)]; exact q
theorem Kept.of {b : Addr} {H H' : Hp} (s : Same H H') : Kept b H H' := fun x o e _ => s x o e
theorem Kept.trans {b : Addr} {H H1 H2 : Hp} (k1 : Kept b H H1) (k2 : Kept b H1 H2) : Kept b H H2 := fun x o e hx => k2 x o (k1 x o e hx) hx
theorem Bag.at {H : Hp} {b : Addr} {ct : Nat} (g : Bag H b ct) : ∃ l, H b = some (.dK l) := by
  obtain ⟨c, ns, i, dg, fo, g⟩ := g
  exact ⟨_, g.hb⟩
def spThing : Sp := fun vs H Q _ => ∃ (b : Addr) (ct : Nat), vs = [.ref b] ∧ Bag H b ct ∧ ct < 900000 ∧ ∀ (v : V) (H' : Hp), Flat v → Bag H' b (ct + 2) → Kept b H H' → Q v H'
section
variable {P : Program} {w : World} {K : PySem.W.Frag} {mg : Str → Option Value} {base : Heap} {f : Addr} {fd : FuncData}
theorem scThing : FnScope ["bag", "number"] ["bag"] (defScope sThing) := ⟨rfl, rfl, rfl, by decide +kernel, rfl, by decide +kernel, by decide +kernel⟩
theorem ok_thing {g : Addr} {gd : FuncData} (F : Fun K "_law_thing" "_law_thing" sThing f fd) (N : Nm mg) (G : FnOk P w K mg base CX0 1 g gd ["bag", "limit"] spDraw) (bG : Binds K gd ["bag", "limit"] []) (kG : PySem.W.keepIn K (.ref g) = true) (mG : mg "_law_draw" = some (.ref g)) :
    FnOk P w K mg base CX0 2 f fd ["bag"] spThing := by
  refine F.ok scThing (fun vs H Q E h => ?_) (fun cdv A outer s H vs Q E hr h => ?_)
  · obtain ⟨b, ct, rfl, _⟩ := h
    rfl
  obtain ⟨b, ct, rfl, g0, hct, k⟩ := h
  refine ⟨_, pss_cons (ps_set (i := 1) scThing.nd rfl (.inl rfl) (pe_op op_sub (pe_call G hr rfl mG kG bG .nil pass0 (pa_cons (pv 0) (pa_cons (pe_op op_pow pe_int pe_int) pa_nil))) (pe_op op_pow pe_int pe_int)))
    (pss_one (ps_ret (pe_ix ix_list (pe_lst (pa_cons (pv 1) (pa_cons pe_str (pa_cons pe_str (pa_cons pe_non (pa_cons pe_bl (pa_cons (pe_tup (pa_cons pe_int (pa_cons pe_str pa_nil))) (pa_cons (pe_lst pa_nil) (pa_cons (pe_lst (pa_cons pe_int pa_nil)) (pa_cons pe_int
      (pa_cons (pe_disp (pps_cons pe_str pe_int pps_nil) (by rfl) (by rfl) (fun z => by cases z) (by decide)) (pa_cons pe_bl pa_nil)))))))))))) (pe_call G hr rfl mG kG bG .nil pass0 (pa_cons (pv 0) (pa_cons pe_int pa_nil))) (fun _ _ => rfl)))), ?_⟩
  refine ⟨_, rfl, _, _, rfl, rfl, ⟨by decide, by decide, by decide⟩, b, ct, _, rfl, g0, by omega, (by decide), (by decide +kernel), fun v H1 h0 h1 g1 k1 => ?_⟩
  refine ⟨_, _, rfl, rfl, ⟨by decide, by decide, by decide⟩, _, _, rfl, rfl, ?_⟩
  refine ⟨_, rfl, (by show 2 ≤ sizeLine; decide), fun p1 n1 => ⟨(by show 0 ≤ sizeLine; decide), fun p2 n2 => ⟨(by show 1 ≤ sizeLine; decide), fun p3 n3 => fun p4 n4 => ⟨upd_same, [(.inr "a", .int 1)], rfl, (by show 1 ≤ 15; decide), ?_⟩⟩⟩⟩
  rw [upd_upd]
  have s4 := (((same_new n1 (.tup [.int 1, .str "a"])).trans (same_new n2 (.lst []))).trans (same_new n3 (.lst [.int 3]))).trans (same_new n4 (.dK (mergeK [] [(.inr "a", .int 1)])))
  generalize upd (upd (upd (upd H1 p1 _) p2 _) p3 _) p4 _ = H2 at s4
  refine ⟨(by show 11 ≤ sizeLine; decide), fun l nl => ?_⟩
  have s5 := s4.trans (same_new nl (.lst [.int (v - 10 ^ Int.toNat 19), .str "", .str "p1", .non, .bl true, .ref p1, .ref p2, .ref p3, .int 0, .ref p4, .bl false]))
  have g2 := g1.same s5
  obtain ⟨kv, hkv⟩ := g1.at
  have nbl : l ≠ b := (ne_of_none (s4 _ _ hkv) nl).symm
  refine ⟨_, rfl, b, ct + 1, _, rfl, g2, by omega, by decide, by decide +kernel, fun u H3 u0 u1 g3 k3 => ?_⟩
  obtain ⟨n, rfl⟩ : ∃ n : Nat, u = (n : Int) := ⟨u.toNat, by omega⟩
  have hn : n < 11 := by omega
  have hl : H3 l = some (.lst [.int (v - 10 ^ Int.toNat 19), .str "", .str "p1", .non, .bl true, .ref p1, .ref p2, .ref p3, .int 0, .ref p4, .bl false]) := k3 _ _ upd_same nbl
  have flat : ∀ x ∈ ([.int (v - 10 ^ Int.toNat 19), .str "", .str "p1", .non, .bl true, .ref p1, .ref p2, .ref p3, .int 0, .ref p4, .bl false] : List V), Flat x := by
    intro x hx
    simp only [List.mem_cons, List.not_mem_nil, or_false] at hx
    rcases hx with rfl | rfl | rfl | rfl | rfl | rfl | rfl | rfl | rfl | rfl | rfl
    all_goals first
      | exact .inl rfl
      | exact .inr ⟨_, rfl⟩
  refine ⟨l, _, _, _, rfl, rfl, SqL.of hl, atI_nat (List.getElem?_eq_getElem hn), k _ _ (flat _ (List.getElem_mem hn)) g3 ((k1.trans (Kept.of s5)).trans k3)⟩
end
end K00
namespace K00
open PySem PySem.Spec PyProof.Rows L2 Xc
/-! ### the fifteen errors -/
/-- what the error number k holds -/
def fsOf (a b c : V) : Nat → List (Str × V)
  | 0 => [("kind", a)]
  | 1 => [("ups", a)]
  | 2 => [("line", a)]
  | 3 => [("line", a)]
  | 4 => [("tree", a)]
  | 5 => [("handed", a)]
  | 6 => [("promise", a)]
  | 7 => [("line", a)]
  | 8 => [("n", a)]
  | 10 => [("name", a)]
  | 11 => [("name", a)]
  | 12 => [("name", a)]
  | 14 => [("most", c), ("many", b), ("what", a)]
  | _ => []
def bar (k : Nat) : Bool := k == 9 || k == 13
/-- what is wished of the raised error number k -/
def Wish (C : Nat → Addr) (k : Nat) (a b c : V) (H : Hp) (E : XK) : Prop := (bar k = true → E (.ref (C k)) none H) ∧ (bar k = false → ∀ d H', H' d = some (.xd (fsOf a b c k)) → Same H H' → E (.ref (C k)) (some d) H')
def spI0 : Sp := fun vs H Q _ => ∃ a, vs = [.ref a] ∧ Q .non H
def spI1 (C : Addr) (f : Str) : Sp := fun vs H Q _ => ∃ a x, vs = [.ref a, x] ∧ H a = some (exo a C none) ∧ ∀ dx, H dx = none → dx ≠ a → Q .non (upd (upd H dx (exd dx [(f, x)])) a (exo a C (some dx)))
def spI3 (C : Addr) (f g h : Str) : Sp := fun vs H Q _ => ∃ a x y z, vs = [.ref a, x, y, z] ∧ H a = some (exo a C none) ∧
  ∀ dx, H dx = none → dx ≠ a → Q .non (upd (upd (upd (upd H dx (exd dx [(f, x)])) a (exo a C (some dx))) dx (exd dx [(g, y), (f, x)])) dx (exd dx [(h, z), (g, y), (f, x)]))
section
variable {P : Program} {w : World} {K : PySem.W.Frag} {mg : Str → Option Value} {base : Heap}
/-- C's __init__, as the top left it, keeps sp -/
def Makes (P : Program) (w : World) (K : PySem.W.Frag) (mg : Str → Option Value) (base : Heap) (C : Addr) (ps : List Str) (sp : Sp) : Prop := ∃ fI fd, PySem.W.findIn K (.ref C) "__init__" = some (some (.ref fI)) ∧ PySem.W.typeIn K (.ref fI) = some (.type "function") ∧
  FnOk P w K mg base CX0 1 fI fd ps sp ∧ Binds K fd ps []
theorem mk1 {C : Addr} {f : Str} {H : Hp} {x : V} {W : XK} (h : ∀ d H', H' d = some (.xd [(f, x)]) → Same H H' → W (.ref C) (some d) H') (a : Addr) (na : H a = none) :
    spI1 C f (.ref a :: ([x] ++ [])) (upd H a (exo a C none)) (fun v H2 => v = .non ∧ ∃ (d : Addr) (fs : List (Str × V)), H2 a = some (exo a C (some d)) ∧ H2 d = some (exd d fs) ∧ H d = none ∧ W (.ref C) (some d) (upd (del H2 a) d (.xd fs))) (fun _ _ _ => False) := by
  refine ⟨a, x, rfl, upd_same, fun dx nd nda => ⟨rfl, dx, [(f, x)], upd_same, by rw [upd_ne nda, upd_same], ?_, h dx _ upd_same fun b o e => ?_⟩⟩
  · rwa [upd_ne nda] at nd
  · rw [upd_ne nda] at nd
    rw [upd_ne (ne_of_none e nd), del_ne (ne_of_none e na), upd_ne (ne_of_none e na), upd_ne (ne_of_none e nd), upd_ne (ne_of_none e na)]
    exact e
theorem mk3 {C : Addr} {f g k : Str} {H : Hp} {x y z : V} {W : XK} (h : ∀ d H', H' d = some (.xd [(k, z), (g, y), (f, x)]) → Same H H' → W (.ref C) (some d) H') (a : Addr) (na : H a = none) :
    spI3 C f g k (.ref a :: ([x, y, z] ++ [])) (upd H a (exo a C none)) (fun v H2 => v = .non ∧ ∃ (d : Addr) (fs : List (Str × V)), H2 a = some (exo a C (some d)) ∧ H2 d = some (exd d fs) ∧ H d = none ∧ W (.ref C) (some d) (upd (del H2 a) d (.xd fs))) (fun _ _ _ => False) := by
  refine ⟨a, x, y, z, rfl, upd_same, fun dx nd nda => ⟨rfl, dx, [(k, z), (g, y), (f, x)], by rw [upd_ne nda.symm, upd_ne nda.symm, upd_same], upd_same, ?_, h dx _ upd_same fun b o e => ?_⟩⟩
  · rwa [upd_ne nda] at nd
  · rw [upd_ne nda] at nd
    rw [upd_ne (ne_of_none e nd), del_ne (ne_of_none e na), upd_ne (ne_of_none e nd), upd_ne (ne_of_none e nd), upd_ne (ne_of_none e na), upd_ne (ne_of_none e nd), upd_ne (ne_of_none e na)]
    exact e

theorem scI0 : FnScope ["self", "kind"] ["self", "kind"] (defScope (inClass (top 2) 0)) := ⟨rfl, rfl, rfl, by decide +kernel, rfl, by decide +kernel, by decide +kernel⟩
theorem ok_i0 {C f : Addr} {fd : FuncData} (F : Fun K "__init__" "BadKind.__init__" (inClass (top 2) 0) f fd) (o : OexC K C) (n0 : PySem.W.findIn K (.ref C) "kind" = some none) : FnOk P w K mg base CX0 1 f fd ["self", "kind"] (spI1 C "kind") := by
  refine F.ok scI0 (fun vs H Q E h => ?_) (fun cdv A outer s H vs Q E hr h => ?_)
  · obtain ⟨a, x, rfl, _⟩ := h
    rfl
  obtain ⟨a, x, rfl, e, q⟩ := h
  refine ⟨_, pss_one (ps_ost (pv 0) (pv 1)), ?_⟩
  exact ⟨_, rfl, _, rfl, a, C, rfl, o, n0, .inl ⟨e, fun dx h1 h2 => q dx h1 h2⟩⟩
theorem scI1 : FnScope ["self", "ups"] ["self", "ups"] (defScope (inClass (top 3) 0)) := ⟨rfl, rfl, rfl, by decide +kernel, rfl, by decide +kernel, by decide +kernel⟩
theorem ok_i1 {C f : Addr} {fd : FuncData} (F : Fun K "__init__" "BadUps.__init__" (inClass (top 3) 0) f fd) (o : OexC K C) (n0 : PySem.W.findIn K (.ref C) "ups" = some none) : FnOk P w K mg base CX0 1 f fd ["self", "ups"] (spI1 C "ups") := by
  refine F.ok scI1 (fun vs H Q E h => ?_) (fun cdv A outer s H vs Q E hr h => ?_)
  · obtain ⟨a, x, rfl, _⟩ := h
    rfl
  obtain ⟨a, x, rfl, e, q⟩ := h
  refine ⟨_, pss_one (ps_ost (pv 0) (pv 1)), ?_⟩
  exact ⟨_, rfl, _, rfl, a, C, rfl, o, n0, .inl ⟨e, fun dx h1 h2 => q dx h1 h2⟩⟩
theorem scI2 : FnScope ["self", "line"] ["self", "line"] (defScope (inClass (top 4) 0)) := ⟨rfl, rfl, rfl, by decide +kernel, rfl, by decide +kernel, by decide +kernel⟩
theorem ok_i2 {C f : Addr} {fd : FuncData} (F : Fun K "__init__" "BadLine.__init__" (inClass (top 4) 0) f fd) (o : OexC K C) (n0 : PySem.W.findIn K (.ref C) "line" = some none) : FnOk P w K mg base CX0 1 f fd ["self", "line"] (spI1 C "line") := by
  refine F.ok scI2 (fun vs H Q E h => ?_) (fun cdv A outer s H vs Q E hr h => ?_)
  · obtain ⟨a, x, rfl, _⟩ := h
    rfl
  obtain ⟨a, x, rfl, e, q⟩ := h
  refine ⟨_, pss_one (ps_ost (pv 0) (pv 1)), ?_⟩
  exact ⟨_, rfl, _, rfl, a, C, rfl, o, n0, .inl ⟨e, fun dx h1 h2 => q dx h1 h2⟩⟩
theorem scI3 : FnScope ["self", "line"] ["self", "line"] (defScope (inClass (top 5) 0)) := ⟨rfl, rfl, rfl, by decide +kernel, rfl, by decide +kernel, by decide +kernel⟩
theorem ok_i3 {C f : Addr} {fd : FuncData} (F : Fun K "__init__" "Refused.__init__" (inClass (top 5) 0) f fd) (o : OexC K C) (n0 : PySem.W.findIn K (.ref C) "line" = some none) : FnOk P w K mg base CX0 1 f fd ["self", "line"] (spI1 C "line") := by
  refine F.ok scI3 (fun vs H Q E h => ?_) (fun cdv A outer s H vs Q E hr h => ?_)
  · obtain ⟨a, x, rfl, _⟩ := h
    rfl
  obtain ⟨a, x, rfl, e, q⟩ := h
  refine ⟨_, pss_one (ps_ost (pv 0) (pv 1)), ?_⟩
  exact ⟨_, rfl, _, rfl, a, C, rfl, o, n0, .inl ⟨e, fun dx h1 h2 => q dx h1 h2⟩⟩
theorem scI4 : FnScope ["self", "tree"] ["self", "tree"] (defScope (inClass (top 6) 0)) := ⟨rfl, rfl, rfl, by decide +kernel, rfl, by decide +kernel, by decide +kernel⟩
theorem ok_i4 {C f : Addr} {fd : FuncData} (F : Fun K "__init__" "BadTree.__init__" (inClass (top 6) 0) f fd) (o : OexC K C) (n0 : PySem.W.findIn K (.ref C) "tree" = some none) : FnOk P w K mg base CX0 1 f fd ["self", "tree"] (spI1 C "tree") := by
  refine F.ok scI4 (fun vs H Q E h => ?_) (fun cdv A outer s H vs Q E hr h => ?_)
  · obtain ⟨a, x, rfl, _⟩ := h
    rfl
  obtain ⟨a, x, rfl, e, q⟩ := h
  refine ⟨_, pss_one (ps_ost (pv 0) (pv 1)), ?_⟩
  exact ⟨_, rfl, _, rfl, a, C, rfl, o, n0, .inl ⟨e, fun dx h1 h2 => q dx h1 h2⟩⟩
theorem scI5 : FnScope ["self", "handed"] ["self", "handed"] (defScope (inClass (top 7) 0)) := ⟨rfl, rfl, rfl, by decide +kernel, rfl, by decide +kernel, by decide +kernel⟩
theorem ok_i5 {C f : Addr} {fd : FuncData} (F : Fun K "__init__" "BadHanded.__init__" (inClass (top 7) 0) f fd) (o : OexC K C) (n0 : PySem.W.findIn K (.ref C) "handed" = some none) : FnOk P w K mg base CX0 1 f fd ["self", "handed"] (spI1 C "handed") := by
  refine F.ok scI5 (fun vs H Q E h => ?_) (fun cdv A outer s H vs Q E hr h => ?_)
  · obtain ⟨a, x, rfl, _⟩ := h
    rfl
  obtain ⟨a, x, rfl, e, q⟩ := h
  refine ⟨_, pss_one (ps_ost (pv 0) (pv 1)), ?_⟩
  exact ⟨_, rfl, _, rfl, a, C, rfl, o, n0, .inl ⟨e, fun dx h1 h2 => q dx h1 h2⟩⟩
theorem scI6 : FnScope ["self", "promise"] ["self", "promise"] (defScope (inClass (top 8) 0)) := ⟨rfl, rfl, rfl, by decide +kernel, rfl, by decide +kernel, by decide +kernel⟩
theorem ok_i6 {C f : Addr} {fd : FuncData} (F : Fun K "__init__" "BadPromise.__init__" (inClass (top 8) 0) f fd) (o : OexC K C) (n0 : PySem.W.findIn K (.ref C) "promise" = some none) : FnOk P w K mg base CX0 1 f fd ["self", "promise"] (spI1 C "promise") := by
  refine F.ok scI6 (fun vs H Q E h => ?_) (fun cdv A outer s H vs Q E hr h => ?_)
  · obtain ⟨a, x, rfl, _⟩ := h
    rfl
  obtain ⟨a, x, rfl, e, q⟩ := h
  refine ⟨_, pss_one (ps_ost (pv 0) (pv 1)), ?_⟩
  exact ⟨_, rfl, _, rfl, a, C, rfl, o, n0, .inl ⟨e, fun dx h1 h2 => q dx h1 h2⟩⟩
theorem scI7 : FnScope ["self", "line"] ["self", "line"] (defScope (inClass (top 9) 0)) := ⟨rfl, rfl, rfl, by decide +kernel, rfl, by decide +kernel, by decide +kernel⟩
theorem ok_i7 {C f : Addr} {fd : FuncData} (F : Fun K "__init__" "NoLine.__init__" (inClass (top 9) 0) f fd) (o : OexC K C) (n0 : PySem.W.findIn K (.ref C) "line" = some none) : FnOk P w K mg base CX0 1 f fd ["self", "line"] (spI1 C "line") := by
  refine F.ok scI7 (fun vs H Q E h => ?_) (fun cdv A outer s H vs Q E hr h => ?_)
  · obtain ⟨a, x, rfl, _⟩ := h
    rfl
  obtain ⟨a, x, rfl, e, q⟩ := h
  refine ⟨_, pss_one (ps_ost (pv 0) (pv 1)), ?_⟩
  exact ⟨_, rfl, _, rfl, a, C, rfl, o, n0, .inl ⟨e, fun dx h1 h2 => q dx h1 h2⟩⟩
theorem scI8 : FnScope ["self", "n"] ["self", "n"] (defScope (inClass (top 10) 0)) := ⟨rfl, rfl, rfl, by decide +kernel, rfl, by decide +kernel, by decide +kernel⟩
theorem ok_i8 {C f : Addr} {fd : FuncData} (F : Fun K "__init__" "BadSize.__init__" (inClass (top 10) 0) f fd) (o : OexC K C) (n0 : PySem.W.findIn K (.ref C) "n" = some none) : FnOk P w K mg base CX0 1 f fd ["self", "n"] (spI1 C "n") := by
  refine F.ok scI8 (fun vs H Q E h => ?_) (fun cdv A outer s H vs Q E hr h => ?_)
  · obtain ⟨a, x, rfl, _⟩ := h
    rfl
  obtain ⟨a, x, rfl, e, q⟩ := h
  refine ⟨_, pss_one (ps_ost (pv 0) (pv 1)), ?_⟩
  exact ⟨_, rfl, _, rfl, a, C, rfl, o, n0, .inl ⟨e, fun dx h1 h2 => q dx h1 h2⟩⟩
theorem scI9 : FnScope ["self"] ["self"] (defScope (inClass (top 11) 0)) := ⟨rfl, rfl, rfl, by decide +kernel, rfl, by decide +kernel, by decide +kernel⟩
theorem ok_i9 {f : Addr} {fd : FuncData} (F : Fun K "__init__" "OtherUps.__init__" (inClass (top 11) 0) f fd) : FnOk P w K mg base CX0 1 f fd ["self"] spI0 := by
  refine F.ok scI9 (fun vs H Q E h => ?_) (fun cdv A outer s H vs Q E hr h => ?_)
  · obtain ⟨a, rfl, _⟩ := h
    rfl
  obtain ⟨a, rfl, q⟩ := h
  exact ⟨_, pss_one ps_pass, q⟩
theorem scI10 : FnScope ["self", "name"] ["self", "name"] (defScope (inClass (top 12) 0)) := ⟨rfl, rfl, rfl, by decide +kernel, rfl, by decide +kernel, by decide +kernel⟩
theorem ok_i10 {C f : Addr} {fd : FuncData} (F : Fun K "__init__" "BadName.__init__" (inClass (top 12) 0) f fd) (o : OexC K C) (n0 : PySem.W.findIn K (.ref C) "name" = some none) : FnOk P w K mg base CX0 1 f fd ["self", "name"] (spI1 C "name") := by
  refine F.ok scI10 (fun vs H Q E h => ?_) (fun cdv A outer s H vs Q E hr h => ?_)
  · obtain ⟨a, x, rfl, _⟩ := h
    rfl
  obtain ⟨a, x, rfl, e, q⟩ := h
  refine ⟨_, pss_one (ps_ost (pv 0) (pv 1)), ?_⟩
  exact ⟨_, rfl, _, rfl, a, C, rfl, o, n0, .inl ⟨e, fun dx h1 h2 => q dx h1 h2⟩⟩
theorem scI11 : FnScope ["self", "name"] ["self", "name"] (defScope (inClass (top 13) 0)) := ⟨rfl, rfl, rfl, by decide +kernel, rfl, by decide +kernel, by decide +kernel⟩
theorem ok_i11 {C f : Addr} {fd : FuncData} (F : Fun K "__init__" "NoDeed.__init__" (inClass (top 13) 0) f fd) (o : OexC K C) (n0 : PySem.W.findIn K (.ref C) "name" = some none) : FnOk P w K mg base CX0 1 f fd ["self", "name"] (spI1 C "name") := by
  refine F.ok scI11 (fun vs H Q E h => ?_) (fun cdv A outer s H vs Q E hr h => ?_)
  · obtain ⟨a, x, rfl, _⟩ := h
    rfl
  obtain ⟨a, x, rfl, e, q⟩ := h
  refine ⟨_, pss_one (ps_ost (pv 0) (pv 1)), ?_⟩
  exact ⟨_, rfl, _, rfl, a, C, rfl, o, n0, .inl ⟨e, fun dx h1 h2 => q dx h1 h2⟩⟩
theorem scI12 : FnScope ["self", "name"] ["self", "name"] (defScope (inClass (top 14) 0)) := ⟨rfl, rfl, rfl, by decide +kernel, rfl, by decide +kernel, by decide +kernel⟩
theorem ok_i12 {C f : Addr} {fd : FuncData} (F : Fun K "__init__" "NoWalker.__init__" (inClass (top 14) 0) f fd) (o : OexC K C) (n0 : PySem.W.findIn K (.ref C) "name" = some none) : FnOk P w K mg base CX0 1 f fd ["self", "name"] (spI1 C "name") := by
  refine F.ok scI12 (fun vs H Q E h => ?_) (fun cdv A outer s H vs Q E hr h => ?_)
  · obtain ⟨a, x, rfl, _⟩ := h
    rfl
  obtain ⟨a, x, rfl, e, q⟩ := h
  refine ⟨_, pss_one (ps_ost (pv 0) (pv 1)), ?_⟩
  exact ⟨_, rfl, _, rfl, a, C, rfl, o, n0, .inl ⟨e, fun dx h1 h2 => q dx h1 h2⟩⟩
theorem scI13 : FnScope ["self"] ["self"] (defScope (inClass (top 15) 0)) := ⟨rfl, rfl, rfl, by decide +kernel, rfl, by decide +kernel, by decide +kernel⟩
theorem ok_i13 {f : Addr} {fd : FuncData} (F : Fun K "__init__" "NothingToUndo.__init__" (inClass (top 15) 0) f fd) : FnOk P w K mg base CX0 1 f fd ["self"] spI0 := by
  refine F.ok scI13 (fun vs H Q E h => ?_) (fun cdv A outer s H vs Q E hr h => ?_)
  · obtain ⟨a, rfl, _⟩ := h
    rfl
  obtain ⟨a, rfl, q⟩ := h
  exact ⟨_, pss_one ps_pass, q⟩
theorem scI14 : FnScope ["self", "what", "many", "most"] ["self", "what", "many", "most"] (defScope (inClass (top 16) 0)) := ⟨rfl, rfl, rfl, by decide +kernel, rfl, by decide +kernel, by decide +kernel⟩
theorem ok_i14 {C f : Addr} {fd : FuncData} (F : Fun K "__init__" "TooMany.__init__" (inClass (top 16) 0) f fd) (o : OexC K C) (n0 : PySem.W.findIn K (.ref C) "what" = some none) (n1 : PySem.W.findIn K (.ref C) "many" = some none) (n2 : PySem.W.findIn K (.ref C) "most" = some none) : FnOk P w K mg base CX0 1 f fd ["self", "what", "many", "most"] (spI3 C "what" "many" "most") := by
  refine F.ok scI14 (fun vs H Q E h => ?_) (fun cdv A outer s H vs Q E hr h => ?_)
  · obtain ⟨a, x, y, z, rfl, _⟩ := h
    rfl
  obtain ⟨a, x, y, z, rfl, e, q⟩ := h
  refine ⟨_, pss_cons (ps_ost (pv 0) (pv 1)) (pss_cons (ps_ost (pv 0) (pv 2)) (pss_one (ps_ost (pv 0) (pv 3)))), ?_⟩
  refine ⟨_, rfl, _, rfl, a, C, rfl, o, n0, .inl ⟨e, fun dx h1 h2 => ?_⟩⟩
  refine ⟨_, rfl, _, rfl, a, C, rfl, o, n1, .inr ⟨dx, _, upd_same, (by rw [upd_ne h2, upd_same]), (by show 1 ≤ 900; decide), ?_⟩⟩
  exact ⟨_, rfl, _, rfl, a, C, rfl, o, n2, .inr ⟨dx, _, (by rw [upd_ne h2.symm, upd_same]), upd_same, (by show 2 ≤ 900; decide), q dx h1 h2⟩⟩
end
/-- what the top has made of the errors: T the base, C k the one with the number k -/
structure Er (P : Program) (w : World) (K : PySem.W.Frag) (mg : Str → Option Value) (base : Heap) (T : Addr) (C : Nat → Addr) : Prop where
  hn : PySem.W.specialIn K (.builtin "object.__class__") "__get__" = some (some (.builtin "getset_descriptor.__get__"))
  ht : PySem.W.takesIn K (.builtin "object.__class__") = some true
  et : EC K [] T
  ec : ∀ k, k < 15 → EC K [T] (C k)
  inj : ∀ j k, j < 15 → k < 15 → C j = C k → j = k
  nT : ∀ k, k < 15 → C k ≠ T
  mT : mg "TreeError" = some (.ref T)
  n0 : mg "BadKind" = some (.ref (C 0))
  i0 : Makes P w K mg base (C 0) ["self", "kind"] (spI1 (C 0) "kind")
  f0 : PySem.W.findIn K (.ref (C 0)) "kind" = some none
  n1 : mg "BadUps" = some (.ref (C 1))
  i1 : Makes P w K mg base (C 1) ["self", "ups"] (spI1 (C 1) "ups")
  f1 : PySem.W.findIn K (.ref (C 1)) "ups" = some none
  n2 : mg "BadLine" = some (.ref (C 2))
  i2 : Makes P w K mg base (C 2) ["self", "line"] (spI1 (C 2) "line")
  f2 : PySem.W.findIn K (.ref (C 2)) "line" = some none
  n3 : mg "Refused" = some (.ref (C 3))
  i3 : Makes P w K mg base (C 3) ["self", "line"] (spI1 (C 3) "line")
  f3 : PySem.W.findIn K (.ref (C 3)) "line" = some none
  n4 : mg "BadTree" = some (.ref (C 4))
  i4 : Makes P w K mg base (C 4) ["self", "tree"] (spI1 (C 4) "tree")
  f4 : PySem.W.findIn K (.ref (C 4)) "tree" = some none
  n5 : mg "BadHanded" = some (.ref (C 5))
  i5 : Makes P w K mg base (C 5) ["self", "handed"] (spI1 (C 5) "handed")
  f5 : PySem.W.findIn K (.ref (C 5)) "handed" = some none
  n6 : mg "BadPromise" = some (.ref (C 6))
  i6 : Makes P w K mg base (C 6) ["self", "promise"] (spI1 (C 6) "promise")
  f6 : PySem.W.findIn K (.ref (C 6)) "promise" = some none
  n7 : mg "NoLine" = some (.ref (C 7))
  i7 : Makes P w K mg base (C 7) ["self", "line"] (spI1 (C 7) "line")
  f7 : PySem.W.findIn K (.ref (C 7)) "line" = some none
  n8 : mg "BadSize" = some (.ref (C 8))
  i8 : Makes P w K mg base (C 8) ["self", "n"] (spI1 (C 8) "n")
  f8 : PySem.W.findIn K (.ref (C 8)) "n" = some none
  n9 : mg "OtherUps" = some (.ref (C 9))
  i9 : Makes P w K mg base (C 9) ["self"] spI0
  n10 : mg "BadName" = some (.ref (C 10))
  i10 : Makes P w K mg base (C 10) ["self", "name"] (spI1 (C 10) "name")
  f10 : PySem.W.findIn K (.ref (C 10)) "name" = some none
  n11 : mg "NoDeed" = some (.ref (C 11))
  i11 : Makes P w K mg base (C 11) ["self", "name"] (spI1 (C 11) "name")
  f11 : PySem.W.findIn K (.ref (C 11)) "name" = some none
  n12 : mg "NoWalker" = some (.ref (C 12))
  i12 : Makes P w K mg base (C 12) ["self", "name"] (spI1 (C 12) "name")
  f12 : PySem.W.findIn K (.ref (C 12)) "name" = some none
  n13 : mg "NothingToUndo" = some (.ref (C 13))
  i13 : Makes P w K mg base (C 13) ["self"] spI0
  n14 : mg "TooMany" = some (.ref (C 14))
  i14 : Makes P w K mg base (C 14) ["self", "what", "many", "most"] (spI3 (C 14) "what" "many" "most")
  f14a : PySem.W.findIn K (.ref (C 14)) "what" = some none
  f14b : PySem.W.findIn K (.ref (C 14)) "many" = some none
  f14c : PySem.W.findIn K (.ref (C 14)) "most" = some none
section
variable {P : Program} {w : World} {K : PySem.W.Frag} {mg : Str → Option Value} {base : Heap} {T : Addr} {C : Nat → Addr} {f : Addr} {fd : FuncData}
/-- _law_raised_0, _1, _law_raised: the error number k, lo <= k < hi -/
def spRaise (C : Nat → Addr) (lo hi : Nat) : Sp := fun vs H Q E => ∃ (k : Nat) (a b c : V), vs = [.int (k : Nat), a, b, c] ∧ lo ≤ k ∧ k < hi ∧ Wish C k a b c H E
theorem ifT {c : Bool} {A B : Prop} (h : c = true) (a : A) : if c = true then A else B := by rw [if_pos h]; exact a
theorem ifF {c : Bool} {A B : Prop} (h : c = false) (b : B) : if c = true then A else B := by rw [if_neg (by rw [h]; exact Bool.false_ne_true)]; exact b
theorem int_ne {i j : Int} (h : ¬ i = j) : decide (V.int i = V.int j) = false := decide_eq_false fun e => h (V.int.inj e)
theorem int_eq (i : Int) : decide (V.int i = V.int i) = true := decide_eq_true rfl
theorem scR0 : FnScope ["k", "a", "b", "c"] ["k", "a", "b", "c"] (defScope (top 21)) := ⟨rfl, rfl, rfl, by decide +kernel, rfl, by decide +kernel, by decide +kernel⟩
theorem ok_r0 (F : Fun K "_law_raised_0" "_law_raised_0" (top 21) f fd) (R : Er P w K mg base T C) : FnOk P w K mg base (L2.CX P w) 3 f fd ["k", "a", "b", "c"] (spRaise C 0 8) := by
  refine F.okX scR0 (fun vs H Q E h => ?_) (fun cdv A outer s H vs Q E hr h => ?_)
  · obtain ⟨k, a, b, c, rfl, _⟩ := h
    rfl
  obtain ⟨k, a, b, c, rfl, h0, h1, hw⟩ := h
  have hr1 : Room 2 _ := hr
  obtain ⟨g0, d0, a0, t0, F0, b0⟩ := R.i0
  obtain ⟨g1, d1, a1, t1, F1, b1⟩ := R.i1
  obtain ⟨g2, d2, a2, t2, F2, b2⟩ := R.i2
  obtain ⟨g3, d3, a3, t3, F3, b3⟩ := R.i3
  obtain ⟨g4, d4, a4, t4, F4, b4⟩ := R.i4
  obtain ⟨g5, d5, a5, t5, F5, b5⟩ := R.i5
  obtain ⟨g6, d6, a6, t6, F6, b6⟩ := R.i6
  obtain ⟨g7, d7, a7, t7, F7, b7⟩ := R.i7
  refine ⟨_, pss_cons (ps_if (pt_cmpR op_eq (pv 0) pe_int (nomark _)) (pss_one (ps_raise rfl (takes_of rfl rfl rfl rfl) (pmk_oex (R.ec 0 (by decide)).oex a0 t0 F0 hr1 b0 .nil pass0 rfl R.n0 (pa_cons (pv 1) pa_nil)))) pss_nil)
    (pss_cons (ps_if (pt_cmpR op_eq (pv 0) pe_int (nomark _)) (pss_one (ps_raise rfl (takes_of rfl rfl rfl rfl) (pmk_oex (R.ec 1 (by decide)).oex a1 t1 F1 hr1 b1 .nil pass0 rfl R.n1 (pa_cons (pv 1) pa_nil)))) pss_nil)
    (pss_cons (ps_if (pt_cmpR op_eq (pv 0) pe_int (nomark _)) (pss_one (ps_raise rfl (takes_of rfl rfl rfl rfl) (pmk_oex (R.ec 2 (by decide)).oex a2 t2 F2 hr1 b2 .nil pass0 rfl R.n2 (pa_cons (pv 1) pa_nil)))) pss_nil)
    (pss_cons (ps_if (pt_cmpR op_eq (pv 0) pe_int (nomark _)) (pss_one (ps_raise rfl (takes_of rfl rfl rfl rfl) (pmk_oex (R.ec 3 (by decide)).oex a3 t3 F3 hr1 b3 .nil pass0 rfl R.n3 (pa_cons (pv 1) pa_nil)))) pss_nil)
    (pss_cons (ps_if (pt_cmpR op_eq (pv 0) pe_int (nomark _)) (pss_one (ps_raise rfl (takes_of rfl rfl rfl rfl) (pmk_oex (R.ec 4 (by decide)).oex a4 t4 F4 hr1 b4 .nil pass0 rfl R.n4 (pa_cons (pv 1) pa_nil)))) pss_nil)
    (pss_cons (ps_if (pt_cmpR op_eq (pv 0) pe_int (nomark _)) (pss_one (ps_raise rfl (takes_of rfl rfl rfl rfl) (pmk_oex (R.ec 5 (by decide)).oex a5 t5 F5 hr1 b5 .nil pass0 rfl R.n5 (pa_cons (pv 1) pa_nil)))) pss_nil)
    (pss_cons (ps_if (pt_cmpR op_eq (pv 0) pe_int (nomark _)) (pss_one (ps_raise rfl (takes_of rfl rfl rfl rfl) (pmk_oex (R.ec 6 (by decide)).oex a6 t6 F6 hr1 b6 .nil pass0 rfl R.n6 (pa_cons (pv 1) pa_nil)))) pss_nil)
    (pss_cons (ps_if (pt_cmpR op_eq (pv 0) pe_int (nomark _)) (pss_one (ps_raise rfl (takes_of rfl rfl rfl rfl) (pmk_oex (R.ec 7 (by decide)).oex a7 t7 F7 hr1 b7 .nil pass0 rfl R.n7 (pa_cons (pv 1) pa_nil)))) pss_nil)
    (pss_one (ps_ret pe_non))))))))), ?_⟩
  obtain rfl | rfl | rfl | rfl | rfl | rfl | rfl | rfl := (by omega : k = 0 ∨ k = 1 ∨ k = 2 ∨ k = 3 ∨ k = 4 ∨ k = 5 ∨ k = 6 ∨ k = 7)
  · refine ⟨_, rfl, rfl, _, rfl, ?_⟩
    refine ifT (int_eq _) ?_
    exact ⟨_, rfl, (by show 1 ≤ 1000; decide), mk1 (fun d H2 h2 h3 => hw.2 rfl d H2 h2 h3)⟩
  · refine ⟨_, rfl, rfl, _, rfl, ?_⟩
    refine ifF (int_ne (by decide)) ?_
    refine ⟨_, rfl, rfl, _, rfl, ?_⟩
    refine ifT (int_eq _) ?_
    exact ⟨_, rfl, (by show 1 ≤ 1000; decide), mk1 (fun d H2 h2 h3 => hw.2 rfl d H2 h2 h3)⟩
  · refine ⟨_, rfl, rfl, _, rfl, ?_⟩
    refine ifF (int_ne (by decide)) ?_
    refine ⟨_, rfl, rfl, _, rfl, ?_⟩
    refine ifF (int_ne (by decide)) ?_
    refine ⟨_, rfl, rfl, _, rfl, ?_⟩
    refine ifT (int_eq _) ?_
    exact ⟨_, rfl, (by show 1 ≤ 1000; decide), mk1 (fun d H2 h2 h3 => hw.2 rfl d H2 h2 h3)⟩
  · refine ⟨_, rfl, rfl, _, rfl, ?_⟩
    refine ifF (int_ne (by decide)) ?_
    refine ⟨_, rfl, rfl, _, rfl, ?_⟩
    refine ifF (int_ne (by decide)) ?_
    refine ⟨_, rfl, rfl, _, rfl, ?_⟩
    refine ifF (int_ne (by decide)) ?_
    refine ⟨_, rfl, rfl, _, rfl, ?_⟩
    refine ifT (int_eq _) ?_
    exact ⟨_, rfl, (by show 1 ≤ 1000; decide), mk1 (fun d H2 h2 h3 => hw.2 rfl d H2 h2 h3)⟩
  · refine ⟨_, rfl, rfl, _, rfl, ?_⟩
    refine ifF (int_ne (by decide)) ?_
    refine ⟨_, rfl, rfl, _, rfl, ?_⟩
    refine ifF (int_ne (by decide)) ?_
    refine ⟨_, rfl, rfl, _, rfl, ?_⟩
    refine ifF (int_ne (by decide)) ?_
    refine ⟨_, rfl, rfl, _, rfl, ?_⟩
    refine ifF (int_ne (by decide)) ?_
    refine ⟨_, rfl, rfl, _, rfl, ?_⟩
    refine ifT (int_eq _) ?_
    exact ⟨_, rfl, (by show 1 ≤ 1000; decide), mk1 (fun d H2 h2 h3 => hw.2 rfl d H2 h2 h3)⟩
  · refine ⟨_, rfl, rfl, _, rfl, ?_⟩
    refine ifF (int_ne (by decide)) ?_
    refine ⟨_, rfl, rfl, _, rfl, ?_⟩
    refine ifF (int_ne (by decide)) ?_
    refine ⟨_, rfl, rfl, _, rfl, ?_⟩
    refine ifF (int_ne (by decide)) ?_
    refine ⟨_, rfl, rfl, _, rfl, ?_⟩
    refine ifF (int_ne (by decide)) ?_
    refine ⟨_, rfl, rfl, _, rfl, ?_⟩
    refine ifF (int_ne (by decide)) ?_
    refine ⟨_, rfl, rfl, _, rfl, ?_⟩
    refine ifT (int_eq _) ?_
    exact ⟨_, rfl, (by show 1 ≤ 1000; decide), mk1 (fun d H2 h2 h3 => hw.2 rfl d H2 h2 h3)⟩
  · refine ⟨_, rfl, rfl, _, rfl, ?_⟩
    refine ifF (int_ne (by decide)) ?_
    refine ⟨_, rfl, rfl, _, rfl, ?_⟩
    refine ifF (int_ne (by decide)) ?_
    refine ⟨_, rfl, rfl, _, rfl, ?_⟩
    refine ifF (int_ne (by decide)) ?_
    refine ⟨_, rfl, rfl, _, rfl, ?_⟩
    refine ifF (int_ne (by decide)) ?_
    refine ⟨_, rfl, rfl, _, rfl, ?_⟩
    refine ifF (int_ne (by decide)) ?_
    refine ⟨_, rfl, rfl, _, rfl, ?_⟩
    refine ifF (int_ne (by decide)) ?_
    refine ⟨_, rfl, rfl, _, rfl, ?_⟩
    refine ifT (int_eq _) ?_
    exact ⟨_, rfl, (by show 1 ≤ 1000; decide), mk1 (fun d H2 h2 h3 => hw.2 rfl d H2 h2 h3)⟩
  · refine ⟨_, rfl, rfl, _, rfl, ?_⟩
    refine ifF (int_ne (by decide)) ?_
    refine ⟨_, rfl, rfl, _, rfl, ?_⟩
    refine ifF (int_ne (by decide)) ?_
    refine ⟨_, rfl, rfl, _, rfl, ?_⟩
    refine ifF (int_ne (by decide)) ?_
    refine ⟨_, rfl, rfl, _, rfl, ?_⟩
    refine ifF (int_ne (by decide)) ?_
    refine ⟨_, rfl, rfl, _, rfl, ?_⟩
    refine ifF (int_ne (by decide)) ?_
    refine ⟨_, rfl, rfl, _, rfl, ?_⟩
    refine ifF (int_ne (by decide)) ?_
    refine ⟨_, rfl, rfl, _, rfl, ?_⟩
    refine ifF (int_ne (by decide)) ?_
    refine ⟨_, rfl, rfl, _, rfl, ?_⟩
    refine ifT (int_eq _) ?_
    exact ⟨_, rfl, (by show 1 ≤ 1000; decide), mk1 (fun d H2 h2 h3 => hw.2 rfl d H2 h2 h3)⟩
theorem scR1 : FnScope ["k", "a", "b", "c"] ["k", "a", "b", "c"] (defScope (top 22)) := ⟨rfl, rfl, rfl, by decide +kernel, rfl, by decide +kernel, by decide +kernel⟩
theorem ok_r1 (F : Fun K "_law_raised_1" "_law_raised_1" (top 22) f fd) (R : Er P w K mg base T C) : FnOk P w K mg base (L2.CX P w) 3 f fd ["k", "a", "b", "c"] (spRaise C 8 15) := by
  refine F.okX scR1 (fun vs H Q E h => ?_) (fun cdv A outer s H vs Q E hr h => ?_)
  · obtain ⟨k, a, b, c, rfl, _⟩ := h
    rfl
  obtain ⟨k, a, b, c, rfl, h0, h1, hw⟩ := h
  have hr1 : Room 2 _ := hr
  obtain ⟨g8, d8, a8, t8, F8, b8⟩ := R.i8
  obtain ⟨g9, d9, a9, t9, F9, b9⟩ := R.i9
  obtain ⟨g10, d10, a10, t10, F10, b10⟩ := R.i10
  obtain ⟨g11, d11, a11, t11, F11, b11⟩ := R.i11
  obtain ⟨g12, d12, a12, t12, F12, b12⟩ := R.i12
  obtain ⟨g13, d13, a13, t13, F13, b13⟩ := R.i13
  obtain ⟨g14, d14, a14, t14, F14, b14⟩ := R.i14
  refine ⟨_, pss_cons (ps_if (pt_cmpR op_eq (pv 0) pe_int (nomark _)) (pss_one (ps_raise rfl (takes_of rfl rfl rfl rfl) (pmk_oex (R.ec 8 (by decide)).oex a8 t8 F8 hr1 b8 .nil pass0 rfl R.n8 (pa_cons (pv 1) pa_nil)))) pss_nil)
    (pss_cons (ps_if (pt_cmpR op_eq (pv 0) pe_int (nomark _)) (pss_one (ps_raise rfl (takes_of rfl rfl rfl rfl) (pmk_bare (R.ec 9 (by decide)).oex a9 t9 F9 hr1 b9 pass0 rfl R.n9))) pss_nil)
    (pss_cons (ps_if (pt_cmpR op_eq (pv 0) pe_int (nomark _)) (pss_one (ps_raise rfl (takes_of rfl rfl rfl rfl) (pmk_oex (R.ec 10 (by decide)).oex a10 t10 F10 hr1 b10 .nil pass0 rfl R.n10 (pa_cons (pv 1) pa_nil)))) pss_nil)
    (pss_cons (ps_if (pt_cmpR op_eq (pv 0) pe_int (nomark _)) (pss_one (ps_raise rfl (takes_of rfl rfl rfl rfl) (pmk_oex (R.ec 11 (by decide)).oex a11 t11 F11 hr1 b11 .nil pass0 rfl R.n11 (pa_cons (pv 1) pa_nil)))) pss_nil)
    (pss_cons (ps_if (pt_cmpR op_eq (pv 0) pe_int (nomark _)) (pss_one (ps_raise rfl (takes_of rfl rfl rfl rfl) (pmk_oex (R.ec 12 (by decide)).oex a12 t12 F12 hr1 b12 .nil pass0 rfl R.n12 (pa_cons (pv 1) pa_nil)))) pss_nil)
    (pss_cons (ps_if (pt_cmpR op_eq (pv 0) pe_int (nomark _)) (pss_one (ps_raise rfl (takes_of rfl rfl rfl rfl) (pmk_bare (R.ec 13 (by decide)).oex a13 t13 F13 hr1 b13 pass0 rfl R.n13))) pss_nil)
    (pss_cons (ps_if (pt_cmpR op_eq (pv 0) pe_int (nomark _)) (pss_one (ps_raise rfl (takes_of rfl rfl rfl rfl) (pmk_oex (R.ec 14 (by decide)).oex a14 t14 F14 hr1 b14 .nil pass0 rfl R.n14 (pa_cons (pv 1) (pa_cons (pv 2) (pa_cons (pv 3) pa_nil)))))) pss_nil)
    (pss_one (ps_ret pe_non)))))))), ?_⟩
  obtain rfl | rfl | rfl | rfl | rfl | rfl | rfl := (by omega : k = 8 ∨ k = 9 ∨ k = 10 ∨ k = 11 ∨ k = 12 ∨ k = 13 ∨ k = 14)
  · refine ⟨_, rfl, rfl, _, rfl, ?_⟩
    refine ifT (int_eq _) ?_
    exact ⟨_, rfl, (by show 1 ≤ 1000; decide), mk1 (fun d H2 h2 h3 => hw.2 rfl d H2 h2 h3)⟩
  · refine ⟨_, rfl, rfl, _, rfl, ?_⟩
    refine ifF (int_ne (by decide)) ?_
    refine ⟨_, rfl, rfl, _, rfl, ?_⟩
    refine ifT (int_eq _) ?_
    exact fun a na => ⟨a, rfl, rfl, rfl, hw.1 rfl⟩
  · refine ⟨_, rfl, rfl, _, rfl, ?_⟩
    refine ifF (int_ne (by decide)) ?_
    refine ⟨_, rfl, rfl, _, rfl, ?_⟩
    refine ifF (int_ne (by decide)) ?_
    refine ⟨_, rfl, rfl, _, rfl, ?_⟩
    refine ifT (int_eq _) ?_
    exact ⟨_, rfl, (by show 1 ≤ 1000; decide), mk1 (fun d H2 h2 h3 => hw.2 rfl d H2 h2 h3)⟩
  · refine ⟨_, rfl, rfl, _, rfl, ?_⟩
    refine ifF (int_ne (by decide)) ?_
    refine ⟨_, rfl, rfl, _, rfl, ?_⟩
    refine ifF (int_ne (by decide)) ?_
    refine ⟨_, rfl, rfl, _, rfl, ?_⟩
    refine ifF (int_ne (by decide)) ?_
    refine ⟨_, rfl, rfl, _, rfl, ?_⟩
    refine ifT (int_eq _) ?_
    exact ⟨_, rfl, (by show 1 ≤ 1000; decide), mk1 (fun d H2 h2 h3 => hw.2 rfl d H2 h2 h3)⟩
  · refine ⟨_, rfl, rfl, _, rfl, ?_⟩
    refine ifF (int_ne (by decide)) ?_
    refine ⟨_, rfl, rfl, _, rfl, ?_⟩
    refine ifF (int_ne (by decide)) ?_
    refine ⟨_, rfl, rfl, _, rfl, ?_⟩
    refine ifF (int_ne (by decide)) ?_
    refine ⟨_, rfl, rfl, _, rfl, ?_⟩
    refine ifF (int_ne (by decide)) ?_
    refine ⟨_, rfl, rfl, _, rfl, ?_⟩
    refine ifT (int_eq _) ?_
    exact ⟨_, rfl, (by show 1 ≤ 1000; decide), mk1 (fun d H2 h2 h3 => hw.2 rfl d H2 h2 h3)⟩
  · refine ⟨_, rfl, rfl, _, rfl, ?_⟩
    refine ifF (int_ne (by decide)) ?_
    refine ⟨_, rfl, rfl, _, rfl, ?_⟩
    refine ifF (int_ne (by decide)) ?_
    refine ⟨_, rfl, rfl, _, rfl, ?_⟩
    refine ifF (int_ne (by decide)) ?_
    refine ⟨_, rfl, rfl, _, rfl, ?_⟩
    refine ifF (int_ne (by decide)) ?_
    refine ⟨_, rfl, rfl, _, rfl, ?_⟩
    refine ifF (int_ne (by decide)) ?_
    refine ⟨_, rfl, rfl, _, rfl, ?_⟩
    refine ifT (int_eq _) ?_
    exact fun a na => ⟨a, rfl, rfl, rfl, hw.1 rfl⟩
  · refine ⟨_, rfl, rfl, _, rfl, ?_⟩
    refine ifF (int_ne (by decide)) ?_
    refine ⟨_, rfl, rfl, _, rfl, ?_⟩
    refine ifF (int_ne (by decide)) ?_
    refine ⟨_, rfl, rfl, _, rfl, ?_⟩
    refine ifF (int_ne (by decide)) ?_
    refine ⟨_, rfl, rfl, _, rfl, ?_⟩
    refine ifF (int_ne (by decide)) ?_
    refine ⟨_, rfl, rfl, _, rfl, ?_⟩
    refine ifF (int_ne (by decide)) ?_
    refine ⟨_, rfl, rfl, _, rfl, ?_⟩
    refine ifF (int_ne (by decide)) ?_
    refine ⟨_, rfl, rfl, _, rfl, ?_⟩
    refine ifT (int_eq _) ?_
    exact ⟨_, rfl, _, rfl, _, rfl, (by show 3 ≤ 1000; decide), mk3 (fun d H2 h2 h3 => hw.2 rfl d H2 h2 h3)⟩
end
end K00
namespace K00
open PySem PySem.Spec PyProof.Rows L2 Xc
section
variable {P : Program} {w : World} {K : PySem.W.Frag} {mg : Str → Option Value} {base : Heap} {T : Addr} {C : Nat → Addr} {f : Addr} {fd : FuncData}
theorem Er.kit (R : Er P w K mg base T C) {j k : Nat} (hj : j < 15) (hk : k < 15) : PySem.W.kitOne K (.ref (C k)) (.ref (C j)) = some (decide (j = k)) := by
  rw [(R.ec k hk).kit (R.ec j hj)]
  have e1 : decide (C j ∈ [T]) = false := decide_eq_false fun h => R.nT j hj (List.mem_singleton.mp h)
  have e2 : decide (C j = C k) = decide (j = k) := by
    by_cases h : j = k
    · subst h
      simp
    · rw [decide_eq_false h, decide_eq_false fun z => h (R.inj j k hj hk z)]
  rw [e1, e2, Bool.or_false]
theorem Er.exm (R : Er P w K mg base T C) {j k : Nat} (hj : j < 15) (hk : k < 15) : PySem.W.exmOne K (.ref (C k)) (.ref (C j)) = some (decide (j = k)) := by
  rw [(R.ec k hk).exm (R.ec j hj)]
  have e1 : decide (C j ∈ [T]) = false := decide_eq_false fun h => R.nT j hj (List.mem_singleton.mp h)
  have e2 : decide (C j = C k) = decide (j = k) := by
    by_cases h : j = k
    · subst h
      simp
    · rw [decide_eq_false h, decide_eq_false fun z => h (R.inj j k hj hk z)]
  rw [e1, e2, Bool.or_false]
theorem Er.exT (R : Er P w K mg base T C) {k : Nat} (hk : k < 15) : PySem.W.exmOne K (.ref (C k)) (.ref T) = some true := by
  rw [(R.ec k hk).exm R.et]
  simp
theorem Er.xf (R : Er P w K mg base T C) {k : Nat} (hk : k < 15) : XfC K (C k) := ⟨(R.ec k hk).ga, (R.ec k hk).gg, (R.ec k hk).base, (R.ec k hk).hd⟩
/-- _law_raised -/
theorem scR : FnScope ["k", "a", "b", "c"] ["k", "a", "b", "c"] (defScope (top 23)) := ⟨rfl, rfl, rfl, by decide +kernel, rfl, by decide +kernel, by decide +kernel⟩
theorem ok_r {g0 g1 : Addr} {d0 d1 : FuncData} (F : Fun K "_law_raised" "_law_raised" (top 23) f fd) (F0 : FnOk P w K mg base (L2.CX P w) 3 g0 d0 ["k", "a", "b", "c"] (spRaise C 0 8)) (b0 : Binds K d0 ["k", "a", "b", "c"] []) (k0 : PySem.W.keepIn K (.ref g0) = true) (m0 : mg "_law_raised_0" = some (.ref g0))
    (F1 : FnOk P w K mg base (L2.CX P w) 3 g1 d1 ["k", "a", "b", "c"] (spRaise C 8 15)) (b1 : Binds K d1 ["k", "a", "b", "c"] []) (k1 : PySem.W.keepIn K (.ref g1) = true) (m1 : mg "_law_raised_1" = some (.ref g1)) :
    FnOk P w K mg base (L2.CX P w) 4 f fd ["k", "a", "b", "c"] (spRaise C 0 15) := by
  refine F.okX scR (fun vs H Q E h => ?_) (fun cdv A outer s H vs Q E hr h => ?_)
  · obtain ⟨k, a, b, c, rfl, _⟩ := h
    rfl
  obtain ⟨k, a, b, c, rfl, h0, h1, hw⟩ := h
  refine ⟨_, pss_cons (ps_if (pt_cmpR op_lt (pv 0) pe_int (nomark _)) (pss_one (ps_ret (pe_call F0 hr rfl m0 k0 b0 .nil (passes_call (takes_of rfl rfl rfl rfl) (fun _ _ _ _ z => z)) (pa_cons (pv 0) (pa_cons (pv 1) (pa_cons (pv 2) (pa_cons (pv 3) pa_nil))))))) pss_nil)
    (pss_one (ps_ret (pe_call F1 hr rfl m1 k1 b1 .nil (passes_call (takes_of rfl rfl rfl rfl) (fun _ _ _ _ z => z)) (pa_cons (pv 0) (pa_cons (pv 1) (pa_cons (pv 2) (pa_cons (pv 3) pa_nil))))))), ?_⟩
  refine ⟨_, rfl, _, _, rfl, rfl, _, rfl, ?_⟩
  refine ite2 (fun c1 => ?_) (fun c1 => ?_)
  · have z : ((k : Nat) : Int) < 8 := of_decide_eq_true c1
    exact ⟨_, rfl, _, rfl, _, rfl, _, rfl, k, a, b, c, rfl, by omega, by omega, hw⟩
  · have z : ¬ ((k : Nat) : Int) < 8 := of_decide_eq_false (Bool.eq_false_iff.mpr c1)
    exact ⟨_, rfl, _, rfl, _, rfl, _, rfl, k, a, b, c, rfl, by omega, by omega, hw⟩
theorem pgc {X : Cx} {x : Str} {a : Addr} {pos : Pos} (hg : Gl X x) (hm : X.mg x = some (.ref a)) (hd : (x == ("__debug__" : Str)) = false := by decide) : PE X (.Name x pos) (tC (.ref a)) := pe_glob hg hm rfl hd
/-- _law_kinds_of, called while the error number k is handled -/
def kindsL (k : Nat) : List V := (List.range 15).map fun j => V.bl (decide (j = k))
def spKinds (a k : Nat) (d : Option Addr) : Sp := fun vs H Q _ => vs = [.ref a] ∧ HasD H d ∧ ∀ l H', H' l = some (.lst (kindsL k)) → Same H H' → Q (.ref l) H'
theorem hasD_same {H H' : Hp} {d : Option Addr} (h : HasD H d) (s : Same H H') : HasD H' d := by
  cases d with
  | none => trivial
  | some dd =>
    obtain ⟨fs, e⟩ := h
    exact ⟨fs, s _ _ e⟩
theorem scK : FnScope ["e", "found"] ["e"] (defScope (top 24)) := ⟨rfl, rfl, rfl, by decide +kernel, rfl, by decide +kernel, by decide +kernel⟩
theorem ok_kinds (F : Fun K "_law_kinds_of" "_law_kinds_of" (top 24) f fd) (R : Er P w K mg base T C) (mI : mg "isinstance" = none) {p : Addr × Obj} {k : Nat} (hk : k < 15) {d : Option Addr} (hz : Zc (.ref (C k)) d p.2) (hf : ∃ vs, p.2.data = .fields vs) : FnQ P w K mg base 1 f fd ["e"] p (spKinds p.1 k d) := by
  refine fn_ofQ F scK (fun vs H Q E h => ?_) (fun cdv A outer s H vs Q hr h => ?_)
  · obtain ⟨rfl, _⟩ := h
    rfl
  obtain ⟨rfl, hd, q⟩ := h
  refine ⟨_, pss_cons (ps_set (i := 1) scK.nd rfl (.inl rfl) (pe_lst (pa_cons (pe_callB (call_isX R.hn R.ht (List.mem_cons_self (a := (p.1, p.2))) hz hf) (by rfl) mI (by decide +kernel) (pa_cons (pv 0) (pa_cons (pgc rfl R.n0) pa_nil))) (pa_cons (pe_callB (call_isX R.hn R.ht (List.mem_cons_self (a := (p.1, p.2))) hz hf) (by rfl) mI (by decide +kernel) (pa_cons (pv 0) (pa_cons (pgc rfl R.n1) pa_nil))) (pa_cons (pe_callB (call_isX R.hn R.ht (List.mem_cons_self (a := (p.1, p.2))) hz hf) (by rfl) mI (by decide +kernel) (pa_cons (pv 0) (pa_cons (pgc rfl R.n2) pa_nil))) pa_nil)))))
    (pss_cons (ps_set (i := 1) scK.nd rfl (.inl rfl) (pe_op op_cat (pv 1) (pe_lst (pa_cons (pe_callB (call_isX R.hn R.ht (List.mem_cons_self (a := (p.1, p.2))) hz hf) (by rfl) mI (by decide +kernel) (pa_cons (pv 0) (pa_cons (pgc rfl R.n3) pa_nil))) (pa_cons (pe_callB (call_isX R.hn R.ht (List.mem_cons_self (a := (p.1, p.2))) hz hf) (by rfl) mI (by decide +kernel) (pa_cons (pv 0) (pa_cons (pgc rfl R.n4) pa_nil))) (pa_cons (pe_callB (call_isX R.hn R.ht (List.mem_cons_self (a := (p.1, p.2))) hz hf) (by rfl) mI (by decide +kernel) (pa_cons (pv 0) (pa_cons (pgc rfl R.n5) pa_nil))) pa_nil))))))
    (pss_cons (ps_set (i := 1) scK.nd rfl (.inl rfl) (pe_op op_cat (pv 1) (pe_lst (pa_cons (pe_callB (call_isX R.hn R.ht (List.mem_cons_self (a := (p.1, p.2))) hz hf) (by rfl) mI (by decide +kernel) (pa_cons (pv 0) (pa_cons (pgc rfl R.n6) pa_nil))) (pa_cons (pe_callB (call_isX R.hn R.ht (List.mem_cons_self (a := (p.1, p.2))) hz hf) (by rfl) mI (by decide +kernel) (pa_cons (pv 0) (pa_cons (pgc rfl R.n7) pa_nil))) (pa_cons (pe_callB (call_isX R.hn R.ht (List.mem_cons_self (a := (p.1, p.2))) hz hf) (by rfl) mI (by decide +kernel) (pa_cons (pv 0) (pa_cons (pgc rfl R.n8) pa_nil))) pa_nil))))))
    (pss_cons (ps_set (i := 1) scK.nd rfl (.inl rfl) (pe_op op_cat (pv 1) (pe_lst (pa_cons (pe_callB (call_isX R.hn R.ht (List.mem_cons_self (a := (p.1, p.2))) hz hf) (by rfl) mI (by decide +kernel) (pa_cons (pv 0) (pa_cons (pgc rfl R.n9) pa_nil))) (pa_cons (pe_callB (call_isX R.hn R.ht (List.mem_cons_self (a := (p.1, p.2))) hz hf) (by rfl) mI (by decide +kernel) (pa_cons (pv 0) (pa_cons (pgc rfl R.n10) pa_nil))) (pa_cons (pe_callB (call_isX R.hn R.ht (List.mem_cons_self (a := (p.1, p.2))) hz hf) (by rfl) mI (by decide +kernel) (pa_cons (pv 0) (pa_cons (pgc rfl R.n11) pa_nil))) pa_nil))))))
    (pss_cons (ps_set (i := 1) scK.nd rfl (.inl rfl) (pe_op op_cat (pv 1) (pe_lst (pa_cons (pe_callB (call_isX R.hn R.ht (List.mem_cons_self (a := (p.1, p.2))) hz hf) (by rfl) mI (by decide +kernel) (pa_cons (pv 0) (pa_cons (pgc rfl R.n12) pa_nil))) (pa_cons (pe_callB (call_isX R.hn R.ht (List.mem_cons_self (a := (p.1, p.2))) hz hf) (by rfl) mI (by decide +kernel) (pa_cons (pv 0) (pa_cons (pgc rfl R.n13) pa_nil))) (pa_cons (pe_callB (call_isX R.hn R.ht (List.mem_cons_self (a := (p.1, p.2))) hz hf) (by rfl) mI (by decide +kernel) (pa_cons (pv 0) (pa_cons (pgc rfl R.n14) pa_nil))) pa_nil))))))
    (pss_one (ps_ret (pv 1))))))), ?_⟩
  have hd : HasD H d := hd
  have s0 : Same H H := Same.refl H
  refine ⟨_, rfl, [T], C k, _, .ref (C 0), decide (0 = k), rfl, rfl, R.ec k hk, hasD_same hd s0, fun u z => z, R.kit (by decide) hk, ?_⟩
  refine ⟨_, rfl, [T], C k, _, .ref (C 1), decide (1 = k), rfl, rfl, R.ec k hk, hasD_same hd s0, fun u z => z, R.kit (by decide) hk, ?_⟩
  refine ⟨_, rfl, [T], C k, _, .ref (C 2), decide (2 = k), rfl, rfl, R.ec k hk, hasD_same hd s0, fun u z => z, R.kit (by decide) hk, ?_⟩
  refine ⟨(by show 3 ≤ sizeLine; decide), fun l0 n0 => ?_⟩
  have s1 := s0.trans (same_new n0 (.lst [.bl (decide (0 = k)), .bl (decide (1 = k)), .bl (decide (2 = k))]))
  have m0 : (upd H l0 (.lst [.bl (decide (0 = k)), .bl (decide (1 = k)), .bl (decide (2 = k))])) l0 = some (.lst [.bl (decide (0 = k)), .bl (decide (1 = k)), .bl (decide (2 = k))]) := upd_same
  generalize upd H l0 _ = H1 at s1 m0 ⊢
  refine ⟨_, rfl, ?_⟩
  refine ⟨_, rfl, [T], C k, _, .ref (C 3), decide (3 = k), rfl, rfl, R.ec k hk, hasD_same hd s1, fun u z => z, R.kit (by decide) hk, ?_⟩
  refine ⟨_, rfl, [T], C k, _, .ref (C 4), decide (4 = k), rfl, rfl, R.ec k hk, hasD_same hd s1, fun u z => z, R.kit (by decide) hk, ?_⟩
  refine ⟨_, rfl, [T], C k, _, .ref (C 5), decide (5 = k), rfl, rfl, R.ec k hk, hasD_same hd s1, fun u z => z, R.kit (by decide) hk, ?_⟩
  refine ⟨(by show 3 ≤ sizeLine; decide), fun l1 n1 => ?_⟩
  have u1 := same_new n1 (.lst [.bl (decide (3 = k)), .bl (decide (4 = k)), .bl (decide (5 = k))])
  have v1 : (upd H1 l1 (.lst [.bl (decide (3 = k)), .bl (decide (4 = k)), .bl (decide (5 = k))])) l1 = some (.lst [.bl (decide (3 = k)), .bl (decide (4 = k)), .bl (decide (5 = k))]) := upd_same
  generalize upd H1 l1 _ = G1 at u1 v1 ⊢
  refine ⟨l0, l1, ([.bl (decide (0 = k)), .bl (decide (1 = k)), .bl (decide (2 = k))] : List V), [.bl (decide (3 = k)), .bl (decide (4 = k)), .bl (decide (5 = k))], rfl, rfl, u1 _ _ m0, v1, (by show 6 ≤ sizeLine; decide), fun t1 w1 => ?_⟩
  have s2 := (s1.trans u1).trans (same_new w1 (.lst (([.bl (decide (0 = k)), .bl (decide (1 = k)), .bl (decide (2 = k))] : List V) ++ [.bl (decide (3 = k)), .bl (decide (4 = k)), .bl (decide (5 = k))])))
  have m1 : (upd G1 t1 (.lst (([.bl (decide (0 = k)), .bl (decide (1 = k)), .bl (decide (2 = k))] : List V) ++ [.bl (decide (3 = k)), .bl (decide (4 = k)), .bl (decide (5 = k))]))) t1 = some (.lst (([.bl (decide (0 = k)), .bl (decide (1 = k)), .bl (decide (2 = k))] : List V) ++ [.bl (decide (3 = k)), .bl (decide (4 = k)), .bl (decide (5 = k))])) := upd_same
  generalize upd G1 t1 _ = H2 at s2 m1 ⊢
  refine ⟨_, rfl, ?_⟩
  refine ⟨_, rfl, [T], C k, _, .ref (C 6), decide (6 = k), rfl, rfl, R.ec k hk, hasD_same hd s2, fun u z => z, R.kit (by decide) hk, ?_⟩
  refine ⟨_, rfl, [T], C k, _, .ref (C 7), decide (7 = k), rfl, rfl, R.ec k hk, hasD_same hd s2, fun u z => z, R.kit (by decide) hk, ?_⟩
  refine ⟨_, rfl, [T], C k, _, .ref (C 8), decide (8 = k), rfl, rfl, R.ec k hk, hasD_same hd s2, fun u z => z, R.kit (by decide) hk, ?_⟩
  refine ⟨(by show 3 ≤ sizeLine; decide), fun l2 n2 => ?_⟩
  have u2 := same_new n2 (.lst [.bl (decide (6 = k)), .bl (decide (7 = k)), .bl (decide (8 = k))])
  have v2 : (upd H2 l2 (.lst [.bl (decide (6 = k)), .bl (decide (7 = k)), .bl (decide (8 = k))])) l2 = some (.lst [.bl (decide (6 = k)), .bl (decide (7 = k)), .bl (decide (8 = k))]) := upd_same
  generalize upd H2 l2 _ = G2 at u2 v2 ⊢
  refine ⟨t1, l2, (([.bl (decide (0 = k)), .bl (decide (1 = k)), .bl (decide (2 = k))] : List V) ++ [.bl (decide (3 = k)), .bl (decide (4 = k)), .bl (decide (5 = k))]), [.bl (decide (6 = k)), .bl (decide (7 = k)), .bl (decide (8 = k))], rfl, rfl, u2 _ _ m1, v2, (by show 9 ≤ sizeLine; decide), fun t2 w2 => ?_⟩
  have s3 := (s2.trans u2).trans (same_new w2 (.lst ((([.bl (decide (0 = k)), .bl (decide (1 = k)), .bl (decide (2 = k))] : List V) ++ [.bl (decide (3 = k)), .bl (decide (4 = k)), .bl (decide (5 = k))]) ++ [.bl (decide (6 = k)), .bl (decide (7 = k)), .bl (decide (8 = k))])))
  have m2 : (upd G2 t2 (.lst ((([.bl (decide (0 = k)), .bl (decide (1 = k)), .bl (decide (2 = k))] : List V) ++ [.bl (decide (3 = k)), .bl (decide (4 = k)), .bl (decide (5 = k))]) ++ [.bl (decide (6 = k)), .bl (decide (7 = k)), .bl (decide (8 = k))]))) t2 = some (.lst ((([.bl (decide (0 = k)), .bl (decide (1 = k)), .bl (decide (2 = k))] : List V) ++ [.bl (decide (3 = k)), .bl (decide (4 = k)), .bl (decide (5 = k))]) ++ [.bl (decide (6 = k)), .bl (decide (7 = k)), .bl (decide (8 = k))])) := upd_same
  generalize upd G2 t2 _ = H3 at s3 m2 ⊢
  refine ⟨_, rfl, ?_⟩
  refine ⟨_, rfl, [T], C k, _, .ref (C 9), decide (9 = k), rfl, rfl, R.ec k hk, hasD_same hd s3, fun u z => z, R.kit (by decide) hk, ?_⟩
  refine ⟨_, rfl, [T], C k, _, .ref (C 10), decide (10 = k), rfl, rfl, R.ec k hk, hasD_same hd s3, fun u z => z, R.kit (by decide) hk, ?_⟩
  refine ⟨_, rfl, [T], C k, _, .ref (C 11), decide (11 = k), rfl, rfl, R.ec k hk, hasD_same hd s3, fun u z => z, R.kit (by decide) hk, ?_⟩
  refine ⟨(by show 3 ≤ sizeLine; decide), fun l3 n3 => ?_⟩
  have u3 := same_new n3 (.lst [.bl (decide (9 = k)), .bl (decide (10 = k)), .bl (decide (11 = k))])
  have v3 : (upd H3 l3 (.lst [.bl (decide (9 = k)), .bl (decide (10 = k)), .bl (decide (11 = k))])) l3 = some (.lst [.bl (decide (9 = k)), .bl (decide (10 = k)), .bl (decide (11 = k))]) := upd_same
  generalize upd H3 l3 _ = G3 at u3 v3 ⊢
  refine ⟨t2, l3, ((([.bl (decide (0 = k)), .bl (decide (1 = k)), .bl (decide (2 = k))] : List V) ++ [.bl (decide (3 = k)), .bl (decide (4 = k)), .bl (decide (5 = k))]) ++ [.bl (decide (6 = k)), .bl (decide (7 = k)), .bl (decide (8 = k))]), [.bl (decide (9 = k)), .bl (decide (10 = k)), .bl (decide (11 = k))], rfl, rfl, u3 _ _ m2, v3, (by show 12 ≤ sizeLine; decide), fun t3 w3 => ?_⟩
  have s4 := (s3.trans u3).trans (same_new w3 (.lst (((([.bl (decide (0 = k)), .bl (decide (1 = k)), .bl (decide (2 = k))] : List V) ++ [.bl (decide (3 = k)), .bl (decide (4 = k)), .bl (decide (5 = k))]) ++ [.bl (decide (6 = k)), .bl (decide (7 = k)), .bl (decide (8 = k))]) ++ [.bl (decide (9 = k)), .bl (decide (10 = k)), .bl (decide (11 = k))])))
  have m3 : (upd G3 t3 (.lst (((([.bl (decide (0 = k)), .bl (decide (1 = k)), .bl (decide (2 = k))] : List V) ++ [.bl (decide (3 = k)), .bl (decide (4 = k)), .bl (decide (5 = k))]) ++ [.bl (decide (6 = k)), .bl (decide (7 = k)), .bl (decide (8 = k))]) ++ [.bl (decide (9 = k)), .bl (decide (10 = k)), .bl (decide (11 = k))]))) t3 = some (.lst (((([.bl (decide (0 = k)), .bl (decide (1 = k)), .bl (decide (2 = k))] : List V) ++ [.bl (decide (3 = k)), .bl (decide (4 = k)), .bl (decide (5 = k))]) ++ [.bl (decide (6 = k)), .bl (decide (7 = k)), .bl (decide (8 = k))]) ++ [.bl (decide (9 = k)), .bl (decide (10 = k)), .bl (decide (11 = k))])) := upd_same
  generalize upd G3 t3 _ = H4 at s4 m3 ⊢
  refine ⟨_, rfl, ?_⟩
  refine ⟨_, rfl, [T], C k, _, .ref (C 12), decide (12 = k), rfl, rfl, R.ec k hk, hasD_same hd s4, fun u z => z, R.kit (by decide) hk, ?_⟩
  refine ⟨_, rfl, [T], C k, _, .ref (C 13), decide (13 = k), rfl, rfl, R.ec k hk, hasD_same hd s4, fun u z => z, R.kit (by decide) hk, ?_⟩
  refine ⟨_, rfl, [T], C k, _, .ref (C 14), decide (14 = k), rfl, rfl, R.ec k hk, hasD_same hd s4, fun u z => z, R.kit (by decide) hk, ?_⟩
  refine ⟨(by show 3 ≤ sizeLine; decide), fun l4 n4 => ?_⟩
  have u4 := same_new n4 (.lst [.bl (decide (12 = k)), .bl (decide (13 = k)), .bl (decide (14 = k))])
  have v4 : (upd H4 l4 (.lst [.bl (decide (12 = k)), .bl (decide (13 = k)), .bl (decide (14 = k))])) l4 = some (.lst [.bl (decide (12 = k)), .bl (decide (13 = k)), .bl (decide (14 = k))]) := upd_same
  generalize upd H4 l4 _ = G4 at u4 v4 ⊢
  refine ⟨t3, l4, (((([.bl (decide (0 = k)), .bl (decide (1 = k)), .bl (decide (2 = k))] : List V) ++ [.bl (decide (3 = k)), .bl (decide (4 = k)), .bl (decide (5 = k))]) ++ [.bl (decide (6 = k)), .bl (decide (7 = k)), .bl (decide (8 = k))]) ++ [.bl (decide (9 = k)), .bl (decide (10 = k)), .bl (decide (11 = k))]), [.bl (decide (12 = k)), .bl (decide (13 = k)), .bl (decide (14 = k))], rfl, rfl, u4 _ _ m3, v4, (by show 15 ≤ sizeLine; decide), fun t4 w4 => ?_⟩
  have s5 := (s4.trans u4).trans (same_new w4 (.lst ((((([.bl (decide (0 = k)), .bl (decide (1 = k)), .bl (decide (2 = k))] : List V) ++ [.bl (decide (3 = k)), .bl (decide (4 = k)), .bl (decide (5 = k))]) ++ [.bl (decide (6 = k)), .bl (decide (7 = k)), .bl (decide (8 = k))]) ++ [.bl (decide (9 = k)), .bl (decide (10 = k)), .bl (decide (11 = k))]) ++ [.bl (decide (12 = k)), .bl (decide (13 = k)), .bl (decide (14 = k))])))
  have m4 : (upd G4 t4 (.lst ((((([.bl (decide (0 = k)), .bl (decide (1 = k)), .bl (decide (2 = k))] : List V) ++ [.bl (decide (3 = k)), .bl (decide (4 = k)), .bl (decide (5 = k))]) ++ [.bl (decide (6 = k)), .bl (decide (7 = k)), .bl (decide (8 = k))]) ++ [.bl (decide (9 = k)), .bl (decide (10 = k)), .bl (decide (11 = k))]) ++ [.bl (decide (12 = k)), .bl (decide (13 = k)), .bl (decide (14 = k))]))) t4 = some (.lst ((((([.bl (decide (0 = k)), .bl (decide (1 = k)), .bl (decide (2 = k))] : List V) ++ [.bl (decide (3 = k)), .bl (decide (4 = k)), .bl (decide (5 = k))]) ++ [.bl (decide (6 = k)), .bl (decide (7 = k)), .bl (decide (8 = k))]) ++ [.bl (decide (9 = k)), .bl (decide (10 = k)), .bl (decide (11 = k))]) ++ [.bl (decide (12 = k)), .bl (decide (13 = k)), .bl (decide (14 = k))])) := upd_same
  generalize upd G4 t4 _ = H5 at s5 m4 ⊢
  exact ⟨_, rfl, q _ _ m4 s5⟩
end
end K00
namespace K00
open PySem PySem.Spec PyProof.Rows L2 Xc
/-- a rule that stands where φ does -/
theorem pe_if {X : Cx} {e : Expr} {t : TE} {φ : Prop} (h : φ → PE X e t) : PE X e (fun σ H Q => φ ∧ t σ H Q) := ⟨fun pins s σ H Q I x => (h x.1).run pins s σ H Q I x.2⟩
theorem pss_if {X : Cx} {e : List Stmt} {t : TS} {φ : Prop} (h : φ → PSs X e t) : PSs X e (fun D σ H => φ ∧ t D σ H) := ⟨fun pins s σ H D I x => (h x.1).run pins s σ H D I x.2⟩
section
variable {P : Program} {w : World} {K : PySem.W.Frag} {mg : Str → Option Value} {base : Heap} {T : Addr} {C : Nat → Addr} {f : Addr} {fd : FuncData}
/-! ### _law_caught -/
def spCaught (K : PySem.W.Frag) : Sp := fun vs H Q _ => ∃ (k : Nat) (a b c : V), vs = [.int (k : Nat), a, b, c] ∧ k < 15 ∧ ∀ l H', H' l = some (.lst (.bl true :: kindsL k)) → Same H H' → Q (.ref l) H'
theorem scC : FnScope ["k", "a", "b", "c", "e"] ["k", "a", "b", "c"] (defScope (top 25)) := ⟨rfl, rfl, rfl, by decide +kernel, rfl, by decide +kernel, by decide +kernel⟩
theorem ok_caught {g0 g1 : Addr} {d0 d1 : FuncData} (F : Fun K "_law_caught" "_law_caught" (top 25) f fd) (R : Er P w K mg base T C) (mI : mg "isinstance" = none) (mV : mg "ValueError" = none)
    (F0 : FnOk P w K mg base (L2.CX P w) 4 g0 d0 ["k", "a", "b", "c"] (spRaise C 0 15)) (b0 : Binds K d0 ["k", "a", "b", "c"] []) (k0 : PySem.W.keepIn K (.ref g0) = true) (m0 : mg "_law_raised" = some (.ref g0))
    (F1 : Fun K "_law_kinds_of" "_law_kinds_of" (top 24) g1 d1) (b1 : Binds K d1 ["e"] []) (k1 : PySem.W.keepIn K (.ref g1) = true) (m1 : mg "_law_kinds_of" = some (.ref g1)) : FnOk P w K mg base CX0 5 f fd ["k", "a", "b", "c"] (spCaught K) := by
  refine F.ok scC (fun vs H Q E h => ?_) (fun cdv A outer s H vs Q E hr h => ?_)
  · obtain ⟨k, a, b, c, rfl, _⟩ := h
    rfl
  obtain ⟨k, a, b, c, rfl, hk, q⟩ := h
  have hrH : L2H.RoomH 1 (A.deeper (envOfC "_law_caught" (defScope (top 25)) s.heap.objs.size f cdv)) := L2H.roomH_of (hr.mono (by decide))
  refine ⟨_, pss_cons (ps_try_cl (out := fun _ _ _ _ => False) rfl rfl scC.nd takes0 (fun W pn xe tk _ => pss_one (ps_expr (pe_callS F0 hr rfl m0 k0 b0 (fun σ => passAt tk σ) (by exact (pa_cons (pv 0) (pa_cons (pv 1) (pa_cons (pv 2) (pa_cons (pv 3) pa_nil))))))))
      (.named (i := 4) ⟨rfl, by decide, .inl R.mT⟩ rfl rfl (fun a oe cls d pn hz hf => pss_if (φ := cls = .ref (C k)) (fun ec => pss_one (ps_ret (by exact (pe_op op_cat (pe_lst (pa_cons (pe_callB (show CallR _ (.builtin "isinstance") (rIsX K a cls d) from call_isX R.hn R.ht List.mem_cons_self hz hf) (by rfl) mI (by decide +kernel) (pa_cons (pv 4) (pa_cons (pe_bltn (v := .ty "ValueError") (by rfl) mV (by decide +kernel) rfl) pa_nil))) pa_nil))
        (pe_callQ (show FnQ P w K mg base 1 g1 d1 ["e"] (a, oe) (spKinds a k d) from ok_kinds (p := (a, oe)) F1 R mI hk (by rw [← ec]; exact hz) hf) ⟨hrH.dp, hrH.un⟩ List.mem_cons_self rfl m1 k1 b1 (pa_cons (pv 4) pa_nil))))))) .nil)) (pss_one (ps_ret (pe_lst pa_nil))), ?_⟩
  refine ⟨_, rfl, _, rfl, _, rfl, _, rfl, k, a, b, c, rfl, Nat.zero_le _, hk, fun hb => ?_, fun hb d H1 hd s1 => ?_⟩
  · refine ⟨true, R.exT hk, fun _ a0 na => ⟨rfl, ?_⟩, fun z => Bool.noConfusion z⟩
    refine ⟨_, rfl, [T], C k, _, .type "ValueError", true, rfl, rfl, R.ec k hk, (show HasD H none from trivial), fun u z => z, (R.ec k hk).kitV, (by show 1 ≤ sizeLine; decide), fun l nl => ?_⟩
    have u1 := same_new nl (.lst [.bl true])
    refine ⟨_, rfl, rfl, hasD_same (show HasD H none from trivial) u1, fun t H2 ht s2 => ?_⟩
    refine ⟨l, t, _, _, rfl, rfl, s2 _ _ upd_same, ht, (by show 16 ≤ sizeLine; decide), fun r nr => ?_⟩
    exact q _ _ upd_same ((((Same.refl H).trans u1).trans s2).trans (same_new nr _))
  · refine ⟨true, R.exT hk, fun _ a0 na => ⟨rfl, ?_⟩, fun z => Bool.noConfusion z⟩
    refine ⟨_, rfl, [T], C k, _, .type "ValueError", true, rfl, rfl, R.ec k hk, (show HasD H1 (some d) from ⟨_, hd⟩), fun u z => z, (R.ec k hk).kitV, (by show 1 ≤ sizeLine; decide), fun l nl => ?_⟩
    have u1 := same_new nl (.lst [.bl true])
    refine ⟨_, rfl, rfl, hasD_same (show HasD H1 (some d) from ⟨_, hd⟩) u1, fun t H2 ht s2 => ?_⟩
    refine ⟨l, t, _, _, rfl, rfl, s2 _ _ upd_same, ht, (by show 16 ≤ sizeLine; decide), fun r nr => ?_⟩
    exact q _ _ upd_same (((s1.trans u1).trans s2).trans (same_new nr _))
/-! ### _law_fields -/
/-- what the error number k tells by its fields -/
def valsOf (a b c : V) : Nat → List V
  | 9 => []
  | 13 => []
  | 14 => [a, b, c]
  | _ => [a]
def spFields (lo hi : Nat) : Sp := fun vs H Q _ => ∃ (k : Nat) (a b c : V), vs = [.int (k : Nat), a, b, c] ∧ lo ≤ k ∧ k < hi ∧ ∀ l H', H' l = some (.lst (valsOf a b c k)) → Same H H' → Q (.ref l) H'
theorem scF0 : FnScope ["k", "a", "b", "c", "told", "e"] ["k", "a", "b", "c"] (defScope (top 26)) := ⟨rfl, rfl, rfl, by decide +kernel, rfl, by decide +kernel, by decide +kernel⟩
theorem ok_f0 {g0 : Addr} {d0 : FuncData} (F : Fun K "_law_fields_0" "_law_fields_0" (top 26) f fd) (R : Er P w K mg base T C)
    (F0 : FnOk P w K mg base (L2.CX P w) 3 g0 d0 ["k", "a", "b", "c"] (spRaise C 0 8)) (b0 : Binds K d0 ["k", "a", "b", "c"] []) (k0 : PySem.W.keepIn K (.ref g0) = true) (m0 : mg "_law_raised_0" = some (.ref g0)) : FnOk P w K mg base CX0 4 f fd ["k", "a", "b", "c"] (spFields 0 8) := by
  refine F.ok scF0 (fun vs H Q E h => ?_) (fun cdv A outer s H vs Q E hr h => ?_)
  · obtain ⟨k, a, b, c, rfl, _⟩ := h
    rfl
  obtain ⟨k, a, b, c, rfl, h0, h1, q⟩ := h
  refine ⟨_, pss_cons (ps_set (i := 4) scF0.nd rfl (.inl rfl) (pe_lst pa_nil)) (pss_cons (ps_try_cl (out := fun _ _ _ _ => False) rfl rfl scF0.nd takes0 (fun W pn xe tk _ => pss_one (ps_expr (pe_callS F0 hr rfl m0 k0 b0 (fun σ => passAt tk σ) (by exact (pa_cons (pv 0) (pa_cons (pv 1) (pa_cons (pv 2) (pa_cons (pv 3) pa_nil))))))))
      (.named (i := 5) ⟨rfl, by decide, .inl R.n0⟩ rfl rfl (fun a oe cls d pn hz hf => pss_one (ps_set (i := 4) scF0.nd rfl (.inl rfl) (by exact (pe_lst (pa_cons (pe_xf (R.xf (k := 0) (by decide)) R.f0 hz hf (pv 5)) pa_nil)))))
      (.named (i := 5) ⟨rfl, by decide, .inl R.n1⟩ rfl rfl (fun a oe cls d pn hz hf => pss_one (ps_set (i := 4) scF0.nd rfl (.inl rfl) (by exact (pe_lst (pa_cons (pe_xf (R.xf (k := 1) (by decide)) R.f1 hz hf (pv 5)) pa_nil)))))
      (.named (i := 5) ⟨rfl, by decide, .inl R.n2⟩ rfl rfl (fun a oe cls d pn hz hf => pss_one (ps_set (i := 4) scF0.nd rfl (.inl rfl) (by exact (pe_lst (pa_cons (pe_xf (R.xf (k := 2) (by decide)) R.f2 hz hf (pv 5)) pa_nil)))))
      (.named (i := 5) ⟨rfl, by decide, .inl R.n3⟩ rfl rfl (fun a oe cls d pn hz hf => pss_one (ps_set (i := 4) scF0.nd rfl (.inl rfl) (by exact (pe_lst (pa_cons (pe_xf (R.xf (k := 3) (by decide)) R.f3 hz hf (pv 5)) pa_nil)))))
      (.named (i := 5) ⟨rfl, by decide, .inl R.n4⟩ rfl rfl (fun a oe cls d pn hz hf => pss_one (ps_set (i := 4) scF0.nd rfl (.inl rfl) (by exact (pe_lst (pa_cons (pe_xf (R.xf (k := 4) (by decide)) R.f4 hz hf (pv 5)) pa_nil)))))
      (.named (i := 5) ⟨rfl, by decide, .inl R.n5⟩ rfl rfl (fun a oe cls d pn hz hf => pss_one (ps_set (i := 4) scF0.nd rfl (.inl rfl) (by exact (pe_lst (pa_cons (pe_xf (R.xf (k := 5) (by decide)) R.f5 hz hf (pv 5)) pa_nil)))))
      (.named (i := 5) ⟨rfl, by decide, .inl R.n6⟩ rfl rfl (fun a oe cls d pn hz hf => pss_one (ps_set (i := 4) scF0.nd rfl (.inl rfl) (by exact (pe_lst (pa_cons (pe_xf (R.xf (k := 6) (by decide)) R.f6 hz hf (pv 5)) pa_nil)))))
      (.named (i := 5) ⟨rfl, by decide, .inl R.n7⟩ rfl rfl (fun a oe cls d pn hz hf => pss_one (ps_set (i := 4) scF0.nd rfl (.inl rfl) (by exact (pe_lst (pa_cons (pe_xf (R.xf (k := 7) (by decide)) R.f7 hz hf (pv 5)) pa_nil)))))
      .nil))))))))) (pss_one (ps_ret (pv 4)))), ?_⟩
  refine ⟨(by show 0 ≤ sizeLine; decide), fun l0 n0 => ?_⟩
  have s0 := same_new n0 (.lst [])
  generalize upd H l0 _ = H0 at s0 ⊢
  refine ⟨_, rfl, _, rfl, _, rfl, _, rfl, k, a, b, c, rfl, h0, h1, fun hb => ?_, fun hb d H1 hd s1 => ?_⟩
  · obtain rfl | rfl | rfl | rfl | rfl | rfl | rfl | rfl := (by omega : k = 0 ∨ k = 1 ∨ k = 2 ∨ k = 3 ∨ k = 4 ∨ k = 5 ∨ k = 6 ∨ k = 7)
    · exact Bool.noConfusion hb
    · exact Bool.noConfusion hb
    · exact Bool.noConfusion hb
    · exact Bool.noConfusion hb
    · exact Bool.noConfusion hb
    · exact Bool.noConfusion hb
    · exact Bool.noConfusion hb
    · exact Bool.noConfusion hb
  · obtain rfl | rfl | rfl | rfl | rfl | rfl | rfl | rfl := (by omega : k = 0 ∨ k = 1 ∨ k = 2 ∨ k = 3 ∨ k = 4 ∨ k = 5 ∨ k = 6 ∨ k = 7)
    · refine ⟨_, R.exm (j := 0) (by decide) (by decide), fun _ a0 na => ?_, fun z => Bool.noConfusion z⟩
      refine ⟨_, rfl, rfl, rfl, d, _, a, rfl, hd, rfl, (by show 1 ≤ sizeLine; decide), fun l nl => ⟨_, rfl, q _ _ upd_same ((s0.trans s1).trans (same_new nl _))⟩⟩
    · refine ⟨_, R.exm (j := 0) (by decide) (by decide), fun z => Bool.noConfusion z, fun _ => ?_⟩
      refine ⟨_, R.exm (j := 1) (by decide) (by decide), fun _ a0 na => ?_, fun z => Bool.noConfusion z⟩
      refine ⟨_, rfl, rfl, rfl, d, _, a, rfl, hd, rfl, (by show 1 ≤ sizeLine; decide), fun l nl => ⟨_, rfl, q _ _ upd_same ((s0.trans s1).trans (same_new nl _))⟩⟩
    · refine ⟨_, R.exm (j := 0) (by decide) (by decide), fun z => Bool.noConfusion z, fun _ => ?_⟩
      refine ⟨_, R.exm (j := 1) (by decide) (by decide), fun z => Bool.noConfusion z, fun _ => ?_⟩
      refine ⟨_, R.exm (j := 2) (by decide) (by decide), fun _ a0 na => ?_, fun z => Bool.noConfusion z⟩
      refine ⟨_, rfl, rfl, rfl, d, _, a, rfl, hd, rfl, (by show 1 ≤ sizeLine; decide), fun l nl => ⟨_, rfl, q _ _ upd_same ((s0.trans s1).trans (same_new nl _))⟩⟩
    · refine ⟨_, R.exm (j := 0) (by decide) (by decide), fun z => Bool.noConfusion z, fun _ => ?_⟩
      refine ⟨_, R.exm (j := 1) (by decide) (by decide), fun z => Bool.noConfusion z, fun _ => ?_⟩
      refine ⟨_, R.exm (j := 2) (by decide) (by decide), fun z => Bool.noConfusion z, fun _ => ?_⟩
      refine ⟨_, R.exm (j := 3) (by decide) (by decide), fun _ a0 na => ?_, fun z => Bool.noConfusion z⟩
      refine ⟨_, rfl, rfl, rfl, d, _, a, rfl, hd, rfl, (by show 1 ≤ sizeLine; decide), fun l nl => ⟨_, rfl, q _ _ upd_same ((s0.trans s1).trans (same_new nl _))⟩⟩
    · refine ⟨_, R.exm (j := 0) (by decide) (by decide), fun z => Bool.noConfusion z, fun _ => ?_⟩
      refine ⟨_, R.exm (j := 1) (by decide) (by decide), fun z => Bool.noConfusion z, fun _ => ?_⟩
      refine ⟨_, R.exm (j := 2) (by decide) (by decide), fun z => Bool.noConfusion z, fun _ => ?_⟩
      refine ⟨_, R.exm (j := 3) (by decide) (by decide), fun z => Bool.noConfusion z, fun _ => ?_⟩
      refine ⟨_, R.exm (j := 4) (by decide) (by decide), fun _ a0 na => ?_, fun z => Bool.noConfusion z⟩
      refine ⟨_, rfl, rfl, rfl, d, _, a, rfl, hd, rfl, (by show 1 ≤ sizeLine; decide), fun l nl => ⟨_, rfl, q _ _ upd_same ((s0.trans s1).trans (same_new nl _))⟩⟩
    · refine ⟨_, R.exm (j := 0) (by decide) (by decide), fun z => Bool.noConfusion z, fun _ => ?_⟩
      refine ⟨_, R.exm (j := 1) (by decide) (by decide), fun z => Bool.noConfusion z, fun _ => ?_⟩
      refine ⟨_, R.exm (j := 2) (by decide) (by decide), fun z => Bool.noConfusion z, fun _ => ?_⟩
      refine ⟨_, R.exm (j := 3) (by decide) (by decide), fun z => Bool.noConfusion z, fun _ => ?_⟩
      refine ⟨_, R.exm (j := 4) (by decide) (by decide), fun z => Bool.noConfusion z, fun _ => ?_⟩
      refine ⟨_, R.exm (j := 5) (by decide) (by decide), fun _ a0 na => ?_, fun z => Bool.noConfusion z⟩
      refine ⟨_, rfl, rfl, rfl, d, _, a, rfl, hd, rfl, (by show 1 ≤ sizeLine; decide), fun l nl => ⟨_, rfl, q _ _ upd_same ((s0.trans s1).trans (same_new nl _))⟩⟩
    · refine ⟨_, R.exm (j := 0) (by decide) (by decide), fun z => Bool.noConfusion z, fun _ => ?_⟩
      refine ⟨_, R.exm (j := 1) (by decide) (by decide), fun z => Bool.noConfusion z, fun _ => ?_⟩
      refine ⟨_, R.exm (j := 2) (by decide) (by decide), fun z => Bool.noConfusion z, fun _ => ?_⟩
      refine ⟨_, R.exm (j := 3) (by decide) (by decide), fun z => Bool.noConfusion z, fun _ => ?_⟩
      refine ⟨_, R.exm (j := 4) (by decide) (by decide), fun z => Bool.noConfusion z, fun _ => ?_⟩
      refine ⟨_, R.exm (j := 5) (by decide) (by decide), fun z => Bool.noConfusion z, fun _ => ?_⟩
      refine ⟨_, R.exm (j := 6) (by decide) (by decide), fun _ a0 na => ?_, fun z => Bool.noConfusion z⟩
      refine ⟨_, rfl, rfl, rfl, d, _, a, rfl, hd, rfl, (by show 1 ≤ sizeLine; decide), fun l nl => ⟨_, rfl, q _ _ upd_same ((s0.trans s1).trans (same_new nl _))⟩⟩
    · refine ⟨_, R.exm (j := 0) (by decide) (by decide), fun z => Bool.noConfusion z, fun _ => ?_⟩
      refine ⟨_, R.exm (j := 1) (by decide) (by decide), fun z => Bool.noConfusion z, fun _ => ?_⟩
      refine ⟨_, R.exm (j := 2) (by decide) (by decide), fun z => Bool.noConfusion z, fun _ => ?_⟩
      refine ⟨_, R.exm (j := 3) (by decide) (by decide), fun z => Bool.noConfusion z, fun _ => ?_⟩
      refine ⟨_, R.exm (j := 4) (by decide) (by decide), fun z => Bool.noConfusion z, fun _ => ?_⟩
      refine ⟨_, R.exm (j := 5) (by decide) (by decide), fun z => Bool.noConfusion z, fun _ => ?_⟩
      refine ⟨_, R.exm (j := 6) (by decide) (by decide), fun z => Bool.noConfusion z, fun _ => ?_⟩
      refine ⟨_, R.exm (j := 7) (by decide) (by decide), fun _ a0 na => ?_, fun z => Bool.noConfusion z⟩
      refine ⟨_, rfl, rfl, rfl, d, _, a, rfl, hd, rfl, (by show 1 ≤ sizeLine; decide), fun l nl => ⟨_, rfl, q _ _ upd_same ((s0.trans s1).trans (same_new nl _))⟩⟩
theorem scF1 : FnScope ["k", "a", "b", "c", "told", "e"] ["k", "a", "b", "c"] (defScope (top 27)) := ⟨rfl, rfl, rfl, by decide +kernel, rfl, by decide +kernel, by decide +kernel⟩
theorem ok_f1 {g0 : Addr} {d0 : FuncData} (F : Fun K "_law_fields_1" "_law_fields_1" (top 27) f fd) (R : Er P w K mg base T C)
    (F0 : FnOk P w K mg base (L2.CX P w) 3 g0 d0 ["k", "a", "b", "c"] (spRaise C 8 15)) (b0 : Binds K d0 ["k", "a", "b", "c"] []) (k0 : PySem.W.keepIn K (.ref g0) = true) (m0 : mg "_law_raised_1" = some (.ref g0)) : FnOk P w K mg base CX0 4 f fd ["k", "a", "b", "c"] (spFields 8 15) := by
  refine F.ok scF1 (fun vs H Q E h => ?_) (fun cdv A outer s H vs Q E hr h => ?_)
  · obtain ⟨k, a, b, c, rfl, _⟩ := h
    rfl
  obtain ⟨k, a, b, c, rfl, h0, h1, q⟩ := h
  refine ⟨_, pss_cons (ps_set (i := 4) scF1.nd rfl (.inl rfl) (pe_lst pa_nil)) (pss_cons (ps_try_cl (out := fun _ _ _ _ => False) rfl rfl scF1.nd takes0 (fun W pn xe tk _ => pss_one (ps_expr (pe_callS F0 hr rfl m0 k0 b0 (fun σ => passAt tk σ) (by exact (pa_cons (pv 0) (pa_cons (pv 1) (pa_cons (pv 2) (pa_cons (pv 3) pa_nil))))))))
      (.named (i := 5) ⟨rfl, by decide, .inl R.n8⟩ rfl rfl (fun a oe cls d pn hz hf => pss_one (ps_set (i := 4) scF1.nd rfl (.inl rfl) (by exact (pe_lst (pa_cons (pe_xf (R.xf (k := 8) (by decide)) R.f8 hz hf (pv 5)) pa_nil)))))
      (.bare ⟨rfl, by decide, .inl R.n9⟩ (fun a oe cls d pn hz hf => pss_one (ps_set (i := 4) scF1.nd rfl (.inl rfl) (by exact (pe_lst pa_nil))))
      (.named (i := 5) ⟨rfl, by decide, .inl R.n10⟩ rfl rfl (fun a oe cls d pn hz hf => pss_one (ps_set (i := 4) scF1.nd rfl (.inl rfl) (by exact (pe_lst (pa_cons (pe_xf (R.xf (k := 10) (by decide)) R.f10 hz hf (pv 5)) pa_nil)))))
      (.named (i := 5) ⟨rfl, by decide, .inl R.n11⟩ rfl rfl (fun a oe cls d pn hz hf => pss_one (ps_set (i := 4) scF1.nd rfl (.inl rfl) (by exact (pe_lst (pa_cons (pe_xf (R.xf (k := 11) (by decide)) R.f11 hz hf (pv 5)) pa_nil)))))
      (.named (i := 5) ⟨rfl, by decide, .inl R.n12⟩ rfl rfl (fun a oe cls d pn hz hf => pss_one (ps_set (i := 4) scF1.nd rfl (.inl rfl) (by exact (pe_lst (pa_cons (pe_xf (R.xf (k := 12) (by decide)) R.f12 hz hf (pv 5)) pa_nil)))))
      (.bare ⟨rfl, by decide, .inl R.n13⟩ (fun a oe cls d pn hz hf => pss_one (ps_set (i := 4) scF1.nd rfl (.inl rfl) (by exact (pe_lst pa_nil))))
      (.named (i := 5) ⟨rfl, by decide, .inl R.n14⟩ rfl rfl (fun a oe cls d pn hz hf => pss_one (ps_set (i := 4) scF1.nd rfl (.inl rfl) (by exact (pe_lst (pa_cons (pe_xf (R.xf (k := 14) (by decide)) R.f14a hz hf (pv 5)) (pa_cons (pe_xf (R.xf (k := 14) (by decide)) R.f14b hz hf (pv 5)) (pa_cons (pe_xf (R.xf (k := 14) (by decide)) R.f14c hz hf (pv 5)) pa_nil)))))))
      .nil)))))))) (pss_one (ps_ret (pv 4)))), ?_⟩
  refine ⟨(by show 0 ≤ sizeLine; decide), fun l0 n0 => ?_⟩
  have s0 := same_new n0 (.lst [])
  generalize upd H l0 _ = H0 at s0 ⊢
  refine ⟨_, rfl, _, rfl, _, rfl, _, rfl, k, a, b, c, rfl, h0, h1, fun hb => ?_, fun hb d H1 hd s1 => ?_⟩
  · obtain rfl | rfl | rfl | rfl | rfl | rfl | rfl := (by omega : k = 8 ∨ k = 9 ∨ k = 10 ∨ k = 11 ∨ k = 12 ∨ k = 13 ∨ k = 14)
    · exact Bool.noConfusion hb
    · refine ⟨_, R.exm (j := 8) (by decide) (by decide), fun z => Bool.noConfusion z, fun _ => ?_⟩
      refine ⟨_, R.exm (j := 9) (by decide) (by decide), fun _ a0 na => ?_, fun z => Bool.noConfusion z⟩
      refine ⟨(by show 0 ≤ sizeLine; decide), fun l nl => ⟨_, rfl, q _ _ upd_same (s0.trans (same_new nl _))⟩⟩
    · exact Bool.noConfusion hb
    · exact Bool.noConfusion hb
    · exact Bool.noConfusion hb
    · refine ⟨_, R.exm (j := 8) (by decide) (by decide), fun z => Bool.noConfusion z, fun _ => ?_⟩
      refine ⟨_, R.exm (j := 9) (by decide) (by decide), fun z => Bool.noConfusion z, fun _ => ?_⟩
      refine ⟨_, R.exm (j := 10) (by decide) (by decide), fun z => Bool.noConfusion z, fun _ => ?_⟩
      refine ⟨_, R.exm (j := 11) (by decide) (by decide), fun z => Bool.noConfusion z, fun _ => ?_⟩
      refine ⟨_, R.exm (j := 12) (by decide) (by decide), fun z => Bool.noConfusion z, fun _ => ?_⟩
      refine ⟨_, R.exm (j := 13) (by decide) (by decide), fun _ a0 na => ?_, fun z => Bool.noConfusion z⟩
      refine ⟨(by show 0 ≤ sizeLine; decide), fun l nl => ⟨_, rfl, q _ _ upd_same (s0.trans (same_new nl _))⟩⟩
    · exact Bool.noConfusion hb
  · obtain rfl | rfl | rfl | rfl | rfl | rfl | rfl := (by omega : k = 8 ∨ k = 9 ∨ k = 10 ∨ k = 11 ∨ k = 12 ∨ k = 13 ∨ k = 14)
    · refine ⟨_, R.exm (j := 8) (by decide) (by decide), fun _ a0 na => ?_, fun z => Bool.noConfusion z⟩
      refine ⟨_, rfl, rfl, rfl, d, _, a, rfl, hd, rfl, (by show 1 ≤ sizeLine; decide), fun l nl => ⟨_, rfl, q _ _ upd_same ((s0.trans s1).trans (same_new nl _))⟩⟩
    · exact Bool.noConfusion hb
    · refine ⟨_, R.exm (j := 8) (by decide) (by decide), fun z => Bool.noConfusion z, fun _ => ?_⟩
      refine ⟨_, R.exm (j := 9) (by decide) (by decide), fun z => Bool.noConfusion z, fun _ => ?_⟩
      refine ⟨_, R.exm (j := 10) (by decide) (by decide), fun _ a0 na => ?_, fun z => Bool.noConfusion z⟩
      refine ⟨_, rfl, rfl, rfl, d, _, a, rfl, hd, rfl, (by show 1 ≤ sizeLine; decide), fun l nl => ⟨_, rfl, q _ _ upd_same ((s0.trans s1).trans (same_new nl _))⟩⟩
    · refine ⟨_, R.exm (j := 8) (by decide) (by decide), fun z => Bool.noConfusion z, fun _ => ?_⟩
      refine ⟨_, R.exm (j := 9) (by decide) (by decide), fun z => Bool.noConfusion z, fun _ => ?_⟩
      refine ⟨_, R.exm (j := 10) (by decide) (by decide), fun z => Bool.noConfusion z, fun _ => ?_⟩
      refine ⟨_, R.exm (j := 11) (by decide) (by decide), fun _ a0 na => ?_, fun z => Bool.noConfusion z⟩
      refine ⟨_, rfl, rfl, rfl, d, _, a, rfl, hd, rfl, (by show 1 ≤ sizeLine; decide), fun l nl => ⟨_, rfl, q _ _ upd_same ((s0.trans s1).trans (same_new nl _))⟩⟩
    · refine ⟨_, R.exm (j := 8) (by decide) (by decide), fun z => Bool.noConfusion z, fun _ => ?_⟩
      refine ⟨_, R.exm (j := 9) (by decide) (by decide), fun z => Bool.noConfusion z, fun _ => ?_⟩
      refine ⟨_, R.exm (j := 10) (by decide) (by decide), fun z => Bool.noConfusion z, fun _ => ?_⟩
      refine ⟨_, R.exm (j := 11) (by decide) (by decide), fun z => Bool.noConfusion z, fun _ => ?_⟩
      refine ⟨_, R.exm (j := 12) (by decide) (by decide), fun _ a0 na => ?_, fun z => Bool.noConfusion z⟩
      refine ⟨_, rfl, rfl, rfl, d, _, a, rfl, hd, rfl, (by show 1 ≤ sizeLine; decide), fun l nl => ⟨_, rfl, q _ _ upd_same ((s0.trans s1).trans (same_new nl _))⟩⟩
    · exact Bool.noConfusion hb
    · refine ⟨_, R.exm (j := 8) (by decide) (by decide), fun z => Bool.noConfusion z, fun _ => ?_⟩
      refine ⟨_, R.exm (j := 9) (by decide) (by decide), fun z => Bool.noConfusion z, fun _ => ?_⟩
      refine ⟨_, R.exm (j := 10) (by decide) (by decide), fun z => Bool.noConfusion z, fun _ => ?_⟩
      refine ⟨_, R.exm (j := 11) (by decide) (by decide), fun z => Bool.noConfusion z, fun _ => ?_⟩
      refine ⟨_, R.exm (j := 12) (by decide) (by decide), fun z => Bool.noConfusion z, fun _ => ?_⟩
      refine ⟨_, R.exm (j := 13) (by decide) (by decide), fun z => Bool.noConfusion z, fun _ => ?_⟩
      refine ⟨_, R.exm (j := 14) (by decide) (by decide), fun _ a0 na => ?_, fun z => Bool.noConfusion z⟩
      refine ⟨_, rfl, rfl, rfl, d, _, a, rfl, hd, rfl, _, rfl, rfl, rfl, d, _, b, rfl, hd, rfl, _, rfl, rfl, rfl, d, _, c, rfl, hd, rfl, (by show 3 ≤ sizeLine; decide), fun l nl => ⟨_, rfl, q _ _ upd_same ((s0.trans s1).trans (same_new nl _))⟩⟩
theorem scF : FnScope ["k", "a", "b", "c"] ["k", "a", "b", "c"] (defScope (top 28)) := ⟨rfl, rfl, rfl, by decide +kernel, rfl, by decide +kernel, by decide +kernel⟩
theorem ok_f {g0 g1 : Addr} {d0 d1 : FuncData} (F : Fun K "_law_fields" "_law_fields" (top 28) f fd) (F0 : FnOk P w K mg base CX0 4 g0 d0 ["k", "a", "b", "c"] (spFields 0 8)) (b0 : Binds K d0 ["k", "a", "b", "c"] []) (k0 : PySem.W.keepIn K (.ref g0) = true) (m0 : mg "_law_fields_0" = some (.ref g0))
    (F1 : FnOk P w K mg base CX0 4 g1 d1 ["k", "a", "b", "c"] (spFields 8 15)) (b1 : Binds K d1 ["k", "a", "b", "c"] []) (k1 : PySem.W.keepIn K (.ref g1) = true) (m1 : mg "_law_fields_1" = some (.ref g1)) :
    FnOk P w K mg base CX0 5 f fd ["k", "a", "b", "c"] (spFields 0 15) := by
  refine F.ok scF (fun vs H Q E h => ?_) (fun cdv A outer s H vs Q E hr h => ?_)
  · obtain ⟨k, a, b, c, rfl, _⟩ := h
    rfl
  obtain ⟨k, a, b, c, rfl, h0, h1, q⟩ := h
  refine ⟨_, pss_cons (ps_if (pt_cmpR op_lt (pv 0) pe_int (nomark _)) (pss_one (ps_ret (pe_call F0 hr rfl m0 k0 b0 .nil pass0 (pa_cons (pv 0) (pa_cons (pv 1) (pa_cons (pv 2) (pa_cons (pv 3) pa_nil))))))) pss_nil)
    (pss_one (ps_ret (pe_call F1 hr rfl m1 k1 b1 .nil pass0 (pa_cons (pv 0) (pa_cons (pv 1) (pa_cons (pv 2) (pa_cons (pv 3) pa_nil))))))), ?_⟩
  refine ⟨_, rfl, _, _, rfl, rfl, _, rfl, ?_⟩
  refine ite2 (fun c1 => ?_) (fun c1 => ?_)
  · have z : ((k : Nat) : Int) < 8 := of_decide_eq_true c1
    exact ⟨_, rfl, _, rfl, _, rfl, _, rfl, k, a, b, c, rfl, by omega, by omega, q⟩
  · have z : ¬ ((k : Nat) : Int) < 8 := of_decide_eq_false (Bool.eq_false_iff.mpr c1)
    exact ⟨_, rfl, _, rfl, _, rfl, _, rfl, k, a, b, c, rfl, by omega, by omega, q⟩
end
end K00
namespace K00
open PySem PySem.Spec PyProof.Rows L2 Xc
abbrev sLaw : Stmt := top 29
def sizesL : List V := [.int 1, .int 1, .int 1, .int 1, .int 1, .int 1, .int 1, .int 1, .int 1, .int 0, .int 1, .int 1, .int 1, .int 0, .int 3]
def sizeOf (k : Nat) : Int := if k = 9 ∨ k = 13 then 0 else if k = 14 then 3 else 1
theorem size_at {k : Nat} (h : k < 15) : sizesL[k]? = some (.int (sizeOf k)) := by
  obtain rfl | rfl | rfl | rfl | rfl | rfl | rfl | rfl | rfl | rfl | rfl | rfl | rfl | rfl | rfl := (by omega : k = 0 ∨ k = 1 ∨ k = 2 ∨ k = 3 ∨ k = 4 ∨ k = 5 ∨ k = 6 ∨ k = 7 ∨ k = 8 ∨ k = 9 ∨ k = 10 ∨ k = 11 ∨ k = 12 ∨ k = 13 ∨ k = 14)
  all_goals rfl
theorem vals_cut {k : Nat} (h : k < 15) (a b c : V) : cutV [a, b, c] none (some (sizeOf k)) = valsOf a b c k := by
  obtain rfl | rfl | rfl | rfl | rfl | rfl | rfl | rfl | rfl | rfl | rfl | rfl | rfl | rfl | rfl := (by omega : k = 0 ∨ k = 1 ∨ k = 2 ∨ k = 3 ∨ k = 4 ∨ k = 5 ∨ k = 6 ∨ k = 7 ∨ k = 8 ∨ k = 9 ∨ k = 10 ∨ k = 11 ∨ k = 12 ∨ k = 13 ∨ k = 14)
  all_goals rfl
theorem vals_flat {k : Nat} {a b c : V} (ha : Flat a) (hb : Flat b) (hc : Flat c) : ∀ v ∈ valsOf a b c k, Flat v := by
  intro v hv
  unfold valsOf at hv
  split at hv
  · cases hv
  · cases hv
  · simp only [List.mem_cons, List.not_mem_nil, or_false] at hv
    rcases hv with rfl | rfl | rfl <;> assumption
  · rw [List.mem_singleton] at hv
    rw [hv]
    exact ha
theorem kinds_flat {k : Nat} : ∀ v ∈ (V.bl true :: kindsL k), Flat v := by
  intro v hv
  rcases List.mem_cons.mp hv with rfl | hv
  · exact .inl rfl
  · obtain ⟨j, _, rfl⟩ := List.mem_map.mp hv
    exact .inl rfl
section
variable {P : Program} {w : World} {K : PySem.W.Frag} {mg : Str → Option Value} {base : Heap} {f : Addr} {fd : FuncData}
def spLaw (K : PySem.W.Frag) : Sp := fun vs H Q _ => ∃ (a : Addr) (ns : List Int), vs = [.ref a] ∧ SqL K H a (ns.map V.int) ∧ ∀ H', Q (.bl true) H'
theorem scL : FnScope ["script", "bag", "sizes", "k", "a", "b", "c", "j"] ["script"] (defScope sLaw) := ⟨rfl, rfl, rfl, by decide +kernel, rfl, by decide +kernel, by decide +kernel⟩
theorem ok_law {gB gT gF gC : Addr} {dB dT dF dC : FuncData} (F : Fun K "law" "law" sLaw f fd) (mR : mg "range" = none)
    (FB : FnOk P w K mg base CX0 1 gB dB ["script"] (spBag K)) (bB : Binds K dB ["script"] []) (kB : PySem.W.keepIn K (.ref gB) = true) (mB : mg "_law_bag" = some (.ref gB))
    (FT : FnOk P w K mg base CX0 2 gT dT ["bag"] spThing) (bT : Binds K dT ["bag"] []) (kT : PySem.W.keepIn K (.ref gT) = true) (mT : mg "_law_thing" = some (.ref gT))
    (FF : FnOk P w K mg base CX0 5 gF dF ["k", "a", "b", "c"] (spFields 0 15)) (bF : Binds K dF ["k", "a", "b", "c"] []) (kF : PySem.W.keepIn K (.ref gF) = true) (mF : mg "_law_fields" = some (.ref gF))
    (FC : FnOk P w K mg base CX0 5 gC dC ["k", "a", "b", "c"] (spCaught K)) (bC : Binds K dC ["k", "a", "b", "c"] []) (kC : PySem.W.keepIn K (.ref gC) = true) (mC : mg "_law_caught" = some (.ref gC)) :
    FnOk P w K mg base CX0 6 f fd ["script"] (spLaw K) := by
  refine F.ok scL (fun vs H Q E h => ?_) (fun cdv A outer s H vs Q E hr h => ?_)
  · obtain ⟨a, ns, rfl, _⟩ := h
    rfl
  obtain ⟨a, ns, rfl, hS, q⟩ := h
  have hu64 : (A.deeper (envOfC "law" (defScope sLaw) s.heap.objs.size f cdv)).units + 64 < cLine := by have := hr.un; omega
  have r1 : Room 1 (A.deeper (envOfC "law" (defScope sLaw) s.heap.objs.size f cdv)) := hr.mono (by decide)
  have r2 : Room 2 (A.deeper (envOfC "law" (defScope sLaw) s.heap.objs.size f cdv)) := hr.mono (by decide)
  refine ⟨_, pss_cons (ps_set (i := 1) scL.nd rfl (.inl rfl) (pe_call FB r1 rfl mB kB bB .nil pass0 (pa_cons (pv 0) pa_nil)))
    (pss_cons (ps_set (i := 2) scL.nd rfl (.inl rfl) (pe_lst (pa_cons pe_int (pa_cons pe_int (pa_cons pe_int (pa_cons pe_int (pa_cons pe_int (pa_cons pe_int (pa_cons pe_int (pa_cons pe_int (pa_cons pe_int (pa_cons pe_int (pa_cons pe_int (pa_cons pe_int (pa_cons pe_int (pa_cons pe_int (pa_cons pe_int pa_nil)))))))))))))))))
    (pss_cons (ps_for PassesOwn.never rfl (pi_range1 rfl mR (pa_cons pe_int pa_nil)) (pg_name (i := 3) scL.nd rfl (.inr rfl))
      (pss_cons (ps_par3 (i := 4) (j := 5) (l := 6) rfl scL.nd rfl rfl rfl (by decide) (by decide) (by decide) rfl rfl rfl
          (pa_cons (pe_call FT r2 rfl mT kT bT .nil pass0 (pa_cons (pv 1) pa_nil)) (pa_cons (pe_call FT r2 rfl mT kT bT .nil pass0 (pa_cons (pv 1) pa_nil)) (pa_cons (pe_call FT r2 rfl mT kT bT .nil pass0 (pa_cons (pv 1) pa_nil)) pa_nil))) (by rfl))
      (pss_cons (ps_if (pt_cmpR (op_neS hu64) (pe_call FF hr rfl mF kF bF .nil pass0 (pa_cons (pv 3) (pa_cons (pv 4) (pa_cons (pv 5) (pa_cons (pv 6) pa_nil)))))
          (pe_slice sl_list (pe_lst (pa_cons (pv 4) (pa_cons (pv 5) (pa_cons (pv 6) pa_nil)))) po_none (po_some (pe_ix ix_list (pv 2) (pv 3) (fun _ _ => rfl)))) (nomark _)) (pss_one (ps_ret pe_bl)) pss_nil)
      (pss_one (ps_if (pt_cmpR (op_neS hu64) (pe_call FC hr rfl mC kC bC .nil pass0 (pa_cons (pv 3) (pa_cons (pv 4) (pa_cons (pv 5) (pa_cons (pv 6) pa_nil)))))
          (pe_op op_cat (pe_lst (pa_cons pe_bl pa_nil)) (pe_lc (own := [("j", 7)]) (g := gName 7) (tt := tYes) rfl scL.nd (pi_range1 rfl mR (pa_cons pe_int pa_nil)) (blkOk_by (N := ["script", "bag", "sizes", "k", "a", "b", "c", "j"]) (sc := defScope sLaw) (by decide +kernel))
            (fun _ _ _ _ _ => pg_name (i := 7) scL.nd rfl (.inl rfl)) (fun _ _ _ _ _ => pts_nil) (fun _ _ _ _ _ => pe_cmpR op_eq (pv 7) (pv 3) (nomark _)))) (nomark _)) (pss_one (ps_ret pe_bl)) pss_nil)))))
    (pss_one (ps_ret pe_bl)))), ?_⟩
  refine ⟨_, rfl, a, ns, rfl, hS, fun b H1 nb g0 s1 => ?_⟩
  refine ⟨(by show 15 ≤ sizeLine; decide), fun sz nsz => ?_⟩
  have u1 := same_new nsz (.lst sizesL)
  have g1 : Bag (upd H1 sz (.lst sizesL)) b 0 := g0.same u1
  have hsz : (upd H1 sz (.lst sizesL)) sz = some (.lst sizesL) := upd_same
  have nbs : sz ≠ b := by
    obtain ⟨l, hl⟩ := g0.at
    exact (ne_of_none hl nsz).symm
  refine ⟨15, rfl, by decide, by decide, for_range (n := 15) (fun i σ H2 => ∃ (k a2 b2 c2 j2 : Option V), σ = [some (.ref a), some (.ref b), some (.ref sz), k, a2, b2, c2, j2] ∧ Bag H2 b (6 * i) ∧ H2 sz = some (.lst sizesL))
    ⟨none, none, none, none, none, rfl, g1, hsz⟩ ?_ ?_⟩
  · rintro i σ H2 hi ⟨k0, a0, b0, c0, j0, rfl, g2, hz⟩
    have e0 : (0 : Int) + (i : Nat) = ((i : Nat) : Int) := by omega
    rw [e0]
    refine ⟨_, rfl, b, 6 * i, rfl, g2, by omega, fun va H3 fa g3 k3 => ?_⟩
    refine ⟨_, rfl, b, 6 * i + 2, rfl, g3, by omega, fun vb H4 fb g4 k4 => ?_⟩
    refine ⟨_, rfl, b, 6 * i + 2 + 2, rfl, g4, by omega, fun vc H5 fc g5 k5 => ?_⟩
    refine ⟨va, vb, vc, rfl, ?_⟩
    have z5 : H5 sz = some (.lst sizesL) := k5 _ _ (k4 _ _ (k3 _ _ hz nbs) nbs) nbs
    -- the fields
    refine ⟨_, rfl, _, rfl, _, rfl, _, rfl, i, va, vb, vc, rfl, Nat.zero_le _, hi, fun l H6 hl s6 => ?_⟩
    refine ⟨_, rfl, _, rfl, _, rfl, (by show 3 ≤ sizeLine; decide), fun m nm => ?_⟩
    have u7 := same_new nm (.lst [va, vb, vc])
    have hm : (upd H6 m (.lst [va, vb, vc])) m = some (.lst [va, vb, vc]) := upd_same
    generalize upd H6 m (.lst [va, vb, vc]) = H7 at u7 hm ⊢
    refine ⟨_, rfl, _, rfl, sz, _, _, _, rfl, rfl, SqL.of (u7 _ _ (s6 _ _ z5)), atI_nat (size_at hi), ?_⟩
    refine ⟨_, rfl, m, _, rfl, SqL.of hm, fun n nn => ?_⟩
    rw [vals_cut hi] at *
    have u8 := same_new nn (.lst (valsOf va vb vc i))
    have hn : (upd H7 n (.lst (valsOf va vb vc i))) n = some (.lst (valsOf va vb vc i)) := upd_same
    generalize upd H7 n (.lst (valsOf va vb vc i)) = H8 at u8 hn ⊢
    refine ⟨l, n, _, rfl, rfl, SqL.of (u8 _ _ (u7 _ _ hl)), SqL.of hn, vals_flat fa fb fc, _, rfl, iteF ?_⟩
    -- the classes
    refine ⟨_, rfl, _, rfl, _, rfl, _, rfl, i, va, vb, vc, rfl, hi, fun l2 H9 hl2 s9 => ?_⟩
    refine ⟨(by show 1 ≤ sizeLine; decide), fun m2 nm2 => ?_⟩
    have u10 := same_new nm2 (.lst [.bl true])
    have hm2 : (upd H9 m2 (.lst [.bl true])) m2 = some (.lst [.bl true]) := upd_same
    generalize upd H9 m2 (.lst [.bl true]) = H10 at u10 hm2 ⊢
    refine ⟨15, rfl, by decide, by decide, fun D nD => lc_range (lo := 0) (n := 15) (fun j Hc => Hc D = some (.lst ((List.range j).map fun t => V.bl (decide (t = i)))) ∧ Same H10 Hc) ⟨upd_same, same_new nD _⟩ ?_ ?_⟩
    · rintro j Hc hj ⟨hD, sc⟩
      refine ⟨rfl, ?_⟩
      refine ⟨_, rfl, _, rfl, rfl, _, hD, (by rw [List.length_map, List.length_range]; exact small1000 (by omega)), ?_, fun x o e => ?_⟩
      · rw [upd_same, List.range_succ, List.map_append]
        have e1 : decide (V.int ((0 : Int) + (j : Nat)) = V.int ((i : Nat) : Int)) = decide (j = i) := by
          by_cases h : j = i
          · subst h
            rw [decide_eq_true rfl]
            exact decide_eq_true (by rw [Int.zero_add])
          · rw [decide_eq_false h]
            exact decide_eq_false fun z => h (by have := V.int.inj z; omega)
        exact congrArg (fun z => some (HO.lst (_ ++ [V.bl z]))) e1
      · rw [upd_ne (ne_of_none e nD)]
        exact sc x o e
    · rintro Hd ⟨hD, sd⟩
      refine ⟨m2, D, _, _, rfl, rfl, sd _ _ hm2, hD, (by show 16 ≤ sizeLine; decide), fun r nr => ?_⟩
      have u12 := same_new nr (.lst ([V.bl true] ++ (List.range 15).map fun t => V.bl (decide (t = i))))
      refine ⟨l2, r, _, rfl, rfl, SqL.of (u12 _ _ (sd _ _ (u10 _ _ hl2))), SqL.of upd_same, kinds_flat, _, rfl, iteF ?_⟩
      have keep : Same H5 _ := ((((((s6.trans u7).trans u8).trans s9).trans u10).trans sd).trans u12)
      exact ⟨_, _, _, _, _, rfl, (g5.same keep), keep _ _ z5⟩
  · rintro σ H2 ⟨k0, a0, b0, c0, j0, rfl, g2, hz⟩
    exact q H2
end
end K00
namespace K00
open PySem PySem.Spec PyProof.Rows L2 Xc
/-! ### the end: what the top has written -/
section
theorem nodup_at {l : List Addr} (h : l.Nodup) {i j : Nat} (hi : i < l.length) (hj : j < l.length) (e : l.getD i 0 = l.getD j 0) : i = j := by
  rw [List.getD_eq_getElem?_getD, List.getD_eq_getElem?_getD, List.getElem?_eq_getElem hi, List.getElem?_eq_getElem hj] at e
  exact (List.getElem_inj h).mp e
theorem all_mk {l : PySem.W.OpenLaw} {w : World} {K : PySem.W.Frag} {h : Heap} {mg : Str → Option Value} {fa : Addr} (X : K.In h) (G : h.Ns mainGlobals mg) (hfa : mg "law" = some (.ref fa))
    {CT : Addr} {nmT qT : Str} {NT : Addr} {bsT : List Value} {snT : List Str} {subT : List Value} {abT : Bool} {colT : Option Bool} {ddT : Option Addr} {m0T m1T m2T m3T m5T : Option Value}
    {C0 : Addr} {nmC0 qC0 : Str} {NC0 : Addr} {bsC0 : List Value} {snC0 : List Str} {subC0 : List Value} {abC0 : Bool} {colC0 : Option Bool} {ddC0 : Option Addr} {m0C0 m1C0 m2C0 m3C0 m5C0 : Option Value}
    {fI0 : Addr} {odI0 anI0 : Option Addr} {slI0 : Array (Option Value)} {ocI0 kVI0 dcI0 pmI0 cdI0 ctI0 : Value}
    {C1 : Addr} {nmC1 qC1 : Str} {NC1 : Addr} {bsC1 : List Value} {snC1 : List Str} {subC1 : List Value} {abC1 : Bool} {colC1 : Option Bool} {ddC1 : Option Addr} {m0C1 m1C1 m2C1 m3C1 m5C1 : Option Value}
    {fI1 : Addr} {odI1 anI1 : Option Addr} {slI1 : Array (Option Value)} {ocI1 kVI1 dcI1 pmI1 cdI1 ctI1 : Value}
    {C2 : Addr} {nmC2 qC2 : Str} {NC2 : Addr} {bsC2 : List Value} {snC2 : List Str} {subC2 : List Value} {abC2 : Bool} {colC2 : Option Bool} {ddC2 : Option Addr} {m0C2 m1C2 m2C2 m3C2 m5C2 : Option Value}
    {fI2 : Addr} {odI2 anI2 : Option Addr} {slI2 : Array (Option Value)} {ocI2 kVI2 dcI2 pmI2 cdI2 ctI2 : Value}
    {C3 : Addr} {nmC3 qC3 : Str} {NC3 : Addr} {bsC3 : List Value} {snC3 : List Str} {subC3 : List Value} {abC3 : Bool} {colC3 : Option Bool} {ddC3 : Option Addr} {m0C3 m1C3 m2C3 m3C3 m5C3 : Option Value}
    {fI3 : Addr} {odI3 anI3 : Option Addr} {slI3 : Array (Option Value)} {ocI3 kVI3 dcI3 pmI3 cdI3 ctI3 : Value}
    {C4 : Addr} {nmC4 qC4 : Str} {NC4 : Addr} {bsC4 : List Value} {snC4 : List Str} {subC4 : List Value} {abC4 : Bool} {colC4 : Option Bool} {ddC4 : Option Addr} {m0C4 m1C4 m2C4 m3C4 m5C4 : Option Value}
    {fI4 : Addr} {odI4 anI4 : Option Addr} {slI4 : Array (Option Value)} {ocI4 kVI4 dcI4 pmI4 cdI4 ctI4 : Value}
    {C5 : Addr} {nmC5 qC5 : Str} {NC5 : Addr} {bsC5 : List Value} {snC5 : List Str} {subC5 : List Value} {abC5 : Bool} {colC5 : Option Bool} {ddC5 : Option Addr} {m0C5 m1C5 m2C5 m3C5 m5C5 : Option Value}
    {fI5 : Addr} {odI5 anI5 : Option Addr} {slI5 : Array (Option Value)} {ocI5 kVI5 dcI5 pmI5 cdI5 ctI5 : Value}
    {C6 : Addr} {nmC6 qC6 : Str} {NC6 : Addr} {bsC6 : List Value} {snC6 : List Str} {subC6 : List Value} {abC6 : Bool} {colC6 : Option Bool} {ddC6 : Option Addr} {m0C6 m1C6 m2C6 m3C6 m5C6 : Option Value}
    {fI6 : Addr} {odI6 anI6 : Option Addr} {slI6 : Array (Option Value)} {ocI6 kVI6 dcI6 pmI6 cdI6 ctI6 : Value}
    {C7 : Addr} {nmC7 qC7 : Str} {NC7 : Addr} {bsC7 : List Value} {snC7 : List Str} {subC7 : List Value} {abC7 : Bool} {colC7 : Option Bool} {ddC7 : Option Addr} {m0C7 m1C7 m2C7 m3C7 m5C7 : Option Value}
    {fI7 : Addr} {odI7 anI7 : Option Addr} {slI7 : Array (Option Value)} {ocI7 kVI7 dcI7 pmI7 cdI7 ctI7 : Value}
    {C8 : Addr} {nmC8 qC8 : Str} {NC8 : Addr} {bsC8 : List Value} {snC8 : List Str} {subC8 : List Value} {abC8 : Bool} {colC8 : Option Bool} {ddC8 : Option Addr} {m0C8 m1C8 m2C8 m3C8 m5C8 : Option Value}
    {fI8 : Addr} {odI8 anI8 : Option Addr} {slI8 : Array (Option Value)} {ocI8 kVI8 dcI8 pmI8 cdI8 ctI8 : Value}
    {C9 : Addr} {nmC9 qC9 : Str} {NC9 : Addr} {bsC9 : List Value} {snC9 : List Str} {subC9 : List Value} {abC9 : Bool} {colC9 : Option Bool} {ddC9 : Option Addr} {m0C9 m1C9 m2C9 m3C9 m5C9 : Option Value}
    {fI9 : Addr} {odI9 anI9 : Option Addr} {slI9 : Array (Option Value)} {ocI9 kVI9 dcI9 pmI9 cdI9 ctI9 : Value}
    {C10 : Addr} {nmC10 qC10 : Str} {NC10 : Addr} {bsC10 : List Value} {snC10 : List Str} {subC10 : List Value} {abC10 : Bool} {colC10 : Option Bool} {ddC10 : Option Addr} {m0C10 m1C10 m2C10 m3C10 m5C10 : Option Value}
    {fI10 : Addr} {odI10 anI10 : Option Addr} {slI10 : Array (Option Value)} {ocI10 kVI10 dcI10 pmI10 cdI10 ctI10 : Value}
    {C11 : Addr} {nmC11 qC11 : Str} {NC11 : Addr} {bsC11 : List Value} {snC11 : List Str} {subC11 : List Value} {abC11 : Bool} {colC11 : Option Bool} {ddC11 : Option Addr} {m0C11 m1C11 m2C11 m3C11 m5C11 : Option Value}
    {fI11 : Addr} {odI11 anI11 : Option Addr} {slI11 : Array (Option Value)} {ocI11 kVI11 dcI11 pmI11 cdI11 ctI11 : Value}
    {C12 : Addr} {nmC12 qC12 : Str} {NC12 : Addr} {bsC12 : List Value} {snC12 : List Str} {subC12 : List Value} {abC12 : Bool} {colC12 : Option Bool} {ddC12 : Option Addr} {m0C12 m1C12 m2C12 m3C12 m5C12 : Option Value}
    {fI12 : Addr} {odI12 anI12 : Option Addr} {slI12 : Array (Option Value)} {ocI12 kVI12 dcI12 pmI12 cdI12 ctI12 : Value}
    {C13 : Addr} {nmC13 qC13 : Str} {NC13 : Addr} {bsC13 : List Value} {snC13 : List Str} {subC13 : List Value} {abC13 : Bool} {colC13 : Option Bool} {ddC13 : Option Addr} {m0C13 m1C13 m2C13 m3C13 m5C13 : Option Value}
    {fI13 : Addr} {odI13 anI13 : Option Addr} {slI13 : Array (Option Value)} {ocI13 kVI13 dcI13 pmI13 cdI13 ctI13 : Value}
    {C14 : Addr} {nmC14 qC14 : Str} {NC14 : Addr} {bsC14 : List Value} {snC14 : List Str} {subC14 : List Value} {abC14 : Bool} {colC14 : Option Bool} {ddC14 : Option Addr} {m0C14 m1C14 m2C14 m3C14 m5C14 : Option Value}
    {fI14 : Addr} {odI14 anI14 : Option Addr} {slI14 : Array (Option Value)} {ocI14 kVI14 dcI14 pmI14 cdI14 ctI14 : Value}
    {fD18 : Addr} {odD18 anD18 : Option Addr} {slD18 : Array (Option Value)} {ocD18 kVD18 dcD18 pmD18 cdD18 ctD18 : Value}
    {fD19 : Addr} {odD19 anD19 : Option Addr} {slD19 : Array (Option Value)} {ocD19 kVD19 dcD19 pmD19 cdD19 ctD19 : Value}
    {fD20 : Addr} {odD20 anD20 : Option Addr} {slD20 : Array (Option Value)} {ocD20 kVD20 dcD20 pmD20 cdD20 ctD20 : Value}
    {fD21 : Addr} {odD21 anD21 : Option Addr} {slD21 : Array (Option Value)} {ocD21 kVD21 dcD21 pmD21 cdD21 ctD21 : Value}
    {fD22 : Addr} {odD22 anD22 : Option Addr} {slD22 : Array (Option Value)} {ocD22 kVD22 dcD22 pmD22 cdD22 ctD22 : Value}
    {fD23 : Addr} {odD23 anD23 : Option Addr} {slD23 : Array (Option Value)} {ocD23 kVD23 dcD23 pmD23 cdD23 ctD23 : Value}
    {fD24 : Addr} {odD24 anD24 : Option Addr} {slD24 : Array (Option Value)} {ocD24 kVD24 dcD24 pmD24 cdD24 ctD24 : Value}
    {fD25 : Addr} {odD25 anD25 : Option Addr} {slD25 : Array (Option Value)} {ocD25 kVD25 dcD25 pmD25 cdD25 ctD25 : Value}
    {fD26 : Addr} {odD26 anD26 : Option Addr} {slD26 : Array (Option Value)} {ocD26 kVD26 dcD26 pmD26 cdD26 ctD26 : Value}
    {fD27 : Addr} {odD27 anD27 : Option Addr} {slD27 : Array (Option Value)} {ocD27 kVD27 dcD27 pmD27 cdD27 ctD27 : Value}
    {fD28 : Addr} {odD28 anD28 : Option Addr} {slD28 : Array (Option Value)} {ocD28 kVD28 dcD28 pmD28 cdD28 ctD28 : Value}
    {fD29 : Addr} {odD29 anD29 : Option Addr} {slD29 : Array (Option Value)} {ocD29 kVD29 dcD29 pmD29 cdD29 ctD29 : Value}
    (gT : PySem.W.nsIn K mainGlobals "TreeError" = some (some (.ref CT)))
    (xT : K.lookup CT = some (excClassObj nmT qT CT NT bsT [.type "ValueError", .type "Exception", .type "BaseException", .type "object"] true snT subT abT colT ddT m0T m1T m2T m3T m5T "ValueError.__new__"))
    (saT : PySem.W.findIn K (.ref CT) "__setattr__" = some (some (.builtin "object.__setattr__")))
    (gaT : PySem.W.findIn K (.ref CT) "__getattribute__" = some (some (.builtin "BaseException.__getattribute__")))
    (ggT : PySem.W.findIn K (.ref CT) "__getattr__" = some none)
    (gcT : PySem.W.findIn K (.ref CT) "__class__" = some (some (.builtin "object.__class__")))
    (tyT : PySem.W.typeIn K (.ref CT) = some (.type "type"))
    (kpT : PySem.W.keepIn K (.ref CT) = true)
    (gC0 : PySem.W.nsIn K mainGlobals "BadKind" = some (some (.ref C0)))
    (xC0 : K.lookup C0 = some (excClassObj nmC0 qC0 C0 NC0 bsC0 [.ref CT, .type "ValueError", .type "Exception", .type "BaseException", .type "object"] true snC0 subC0 abC0 colC0 ddC0 m0C0 m1C0 m2C0 m3C0 m5C0 "ValueError.__new__"))
    (saC0 : PySem.W.findIn K (.ref C0) "__setattr__" = some (some (.builtin "object.__setattr__")))
    (gaC0 : PySem.W.findIn K (.ref C0) "__getattribute__" = some (some (.builtin "BaseException.__getattribute__")))
    (ggC0 : PySem.W.findIn K (.ref C0) "__getattr__" = some none)
    (gcC0 : PySem.W.findIn K (.ref C0) "__class__" = some (some (.builtin "object.__class__")))
    (tyC0 : PySem.W.typeIn K (.ref C0) = some (.type "type"))
    (kpC0 : PySem.W.keepIn K (.ref C0) = true)
    (noC0_0 : PySem.W.findIn K (.ref C0) "kind" = some none)
    (aI0 : PySem.W.findIn K (.ref C0) "__init__" = some (some (.ref fI0)))
    (lI0 : K.lookup fI0 = some ⟨ocI0, odI0, .func (PySem.W.fnOf "__init__" "BadKind.__init__" (defArgs (inClass (top 2) 0)) (defBody (inClass (top 2) 0)) (defScope (inClass (top 2) 0)) .none kVI0 dcI0 pmI0 anI0 cdI0 ctI0), slI0⟩)
    (cI0 : PySem.W.codeIn K cdI0 "BadKind.__init__" = true)
    (kI0 : PySem.W.keepIn K (.ref fI0) = true)
    (tI0 : PySem.W.typeIn K (.ref fI0) = some (.type "function"))
    (gC1 : PySem.W.nsIn K mainGlobals "BadUps" = some (some (.ref C1)))
    (xC1 : K.lookup C1 = some (excClassObj nmC1 qC1 C1 NC1 bsC1 [.ref CT, .type "ValueError", .type "Exception", .type "BaseException", .type "object"] true snC1 subC1 abC1 colC1 ddC1 m0C1 m1C1 m2C1 m3C1 m5C1 "ValueError.__new__"))
    (saC1 : PySem.W.findIn K (.ref C1) "__setattr__" = some (some (.builtin "object.__setattr__")))
    (gaC1 : PySem.W.findIn K (.ref C1) "__getattribute__" = some (some (.builtin "BaseException.__getattribute__")))
    (ggC1 : PySem.W.findIn K (.ref C1) "__getattr__" = some none)
    (gcC1 : PySem.W.findIn K (.ref C1) "__class__" = some (some (.builtin "object.__class__")))
    (tyC1 : PySem.W.typeIn K (.ref C1) = some (.type "type"))
    (kpC1 : PySem.W.keepIn K (.ref C1) = true)
    (noC1_0 : PySem.W.findIn K (.ref C1) "ups" = some none)
    (aI1 : PySem.W.findIn K (.ref C1) "__init__" = some (some (.ref fI1)))
    (lI1 : K.lookup fI1 = some ⟨ocI1, odI1, .func (PySem.W.fnOf "__init__" "BadUps.__init__" (defArgs (inClass (top 3) 0)) (defBody (inClass (top 3) 0)) (defScope (inClass (top 3) 0)) .none kVI1 dcI1 pmI1 anI1 cdI1 ctI1), slI1⟩)
    (cI1 : PySem.W.codeIn K cdI1 "BadUps.__init__" = true)
    (kI1 : PySem.W.keepIn K (.ref fI1) = true)
    (tI1 : PySem.W.typeIn K (.ref fI1) = some (.type "function"))
    (gC2 : PySem.W.nsIn K mainGlobals "BadLine" = some (some (.ref C2)))
    (xC2 : K.lookup C2 = some (excClassObj nmC2 qC2 C2 NC2 bsC2 [.ref CT, .type "ValueError", .type "Exception", .type "BaseException", .type "object"] true snC2 subC2 abC2 colC2 ddC2 m0C2 m1C2 m2C2 m3C2 m5C2 "ValueError.__new__"))
    (saC2 : PySem.W.findIn K (.ref C2) "__setattr__" = some (some (.builtin "object.__setattr__")))
    (gaC2 : PySem.W.findIn K (.ref C2) "__getattribute__" = some (some (.builtin "BaseException.__getattribute__")))
    (ggC2 : PySem.W.findIn K (.ref C2) "__getattr__" = some none)
    (gcC2 : PySem.W.findIn K (.ref C2) "__class__" = some (some (.builtin "object.__class__")))
    (tyC2 : PySem.W.typeIn K (.ref C2) = some (.type "type"))
    (kpC2 : PySem.W.keepIn K (.ref C2) = true)
    (noC2_0 : PySem.W.findIn K (.ref C2) "line" = some none)
    (aI2 : PySem.W.findIn K (.ref C2) "__init__" = some (some (.ref fI2)))
    (lI2 : K.lookup fI2 = some ⟨ocI2, odI2, .func (PySem.W.fnOf "__init__" "BadLine.__init__" (defArgs (inClass (top 4) 0)) (defBody (inClass (top 4) 0)) (defScope (inClass (top 4) 0)) .none kVI2 dcI2 pmI2 anI2 cdI2 ctI2), slI2⟩)
    (cI2 : PySem.W.codeIn K cdI2 "BadLine.__init__" = true)
    (kI2 : PySem.W.keepIn K (.ref fI2) = true)
    (tI2 : PySem.W.typeIn K (.ref fI2) = some (.type "function"))
    (gC3 : PySem.W.nsIn K mainGlobals "Refused" = some (some (.ref C3)))
    (xC3 : K.lookup C3 = some (excClassObj nmC3 qC3 C3 NC3 bsC3 [.ref CT, .type "ValueError", .type "Exception", .type "BaseException", .type "object"] true snC3 subC3 abC3 colC3 ddC3 m0C3 m1C3 m2C3 m3C3 m5C3 "ValueError.__new__"))
    (saC3 : PySem.W.findIn K (.ref C3) "__setattr__" = some (some (.builtin "object.__setattr__")))
    (gaC3 : PySem.W.findIn K (.ref C3) "__getattribute__" = some (some (.builtin "BaseException.__getattribute__")))
    (ggC3 : PySem.W.findIn K (.ref C3) "__getattr__" = some none)
    (gcC3 : PySem.W.findIn K (.ref C3) "__class__" = some (some (.builtin "object.__class__")))
    (tyC3 : PySem.W.typeIn K (.ref C3) = some (.type "type"))
    (kpC3 : PySem.W.keepIn K (.ref C3) = true)
    (noC3_0 : PySem.W.findIn K (.ref C3) "line" = some none)
    (aI3 : PySem.W.findIn K (.ref C3) "__init__" = some (some (.ref fI3)))
    (lI3 : K.lookup fI3 = some ⟨ocI3, odI3, .func (PySem.W.fnOf "__init__" "Refused.__init__" (defArgs (inClass (top 5) 0)) (defBody (inClass (top 5) 0)) (defScope (inClass (top 5) 0)) .none kVI3 dcI3 pmI3 anI3 cdI3 ctI3), slI3⟩)
    (cI3 : PySem.W.codeIn K cdI3 "Refused.__init__" = true)
    (kI3 : PySem.W.keepIn K (.ref fI3) = true)
    (tI3 : PySem.W.typeIn K (.ref fI3) = some (.type "function"))
    (gC4 : PySem.W.nsIn K mainGlobals "BadTree" = some (some (.ref C4)))
    (xC4 : K.lookup C4 = some (excClassObj nmC4 qC4 C4 NC4 bsC4 [.ref CT, .type "ValueError", .type "Exception", .type "BaseException", .type "object"] true snC4 subC4 abC4 colC4 ddC4 m0C4 m1C4 m2C4 m3C4 m5C4 "ValueError.__new__"))
    (saC4 : PySem.W.findIn K (.ref C4) "__setattr__" = some (some (.builtin "object.__setattr__")))
    (gaC4 : PySem.W.findIn K (.ref C4) "__getattribute__" = some (some (.builtin "BaseException.__getattribute__")))
    (ggC4 : PySem.W.findIn K (.ref C4) "__getattr__" = some none)
    (gcC4 : PySem.W.findIn K (.ref C4) "__class__" = some (some (.builtin "object.__class__")))
    (tyC4 : PySem.W.typeIn K (.ref C4) = some (.type "type"))
    (kpC4 : PySem.W.keepIn K (.ref C4) = true)
    (noC4_0 : PySem.W.findIn K (.ref C4) "tree" = some none)
    (aI4 : PySem.W.findIn K (.ref C4) "__init__" = some (some (.ref fI4)))
    (lI4 : K.lookup fI4 = some ⟨ocI4, odI4, .func (PySem.W.fnOf "__init__" "BadTree.__init__" (defArgs (inClass (top 6) 0)) (defBody (inClass (top 6) 0)) (defScope (inClass (top 6) 0)) .none kVI4 dcI4 pmI4 anI4 cdI4 ctI4), slI4⟩)
    (cI4 : PySem.W.codeIn K cdI4 "BadTree.__init__" = true)
    (kI4 : PySem.W.keepIn K (.ref fI4) = true)
    (tI4 : PySem.W.typeIn K (.ref fI4) = some (.type "function"))
    (gC5 : PySem.W.nsIn K mainGlobals "BadHanded" = some (some (.ref C5)))
    (xC5 : K.lookup C5 = some (excClassObj nmC5 qC5 C5 NC5 bsC5 [.ref CT, .type "ValueError", .type "Exception", .type "BaseException", .type "object"] true snC5 subC5 abC5 colC5 ddC5 m0C5 m1C5 m2C5 m3C5 m5C5 "ValueError.__new__"))
    (saC5 : PySem.W.findIn K (.ref C5) "__setattr__" = some (some (.builtin "object.__setattr__")))
    (gaC5 : PySem.W.findIn K (.ref C5) "__getattribute__" = some (some (.builtin "BaseException.__getattribute__")))
    (ggC5 : PySem.W.findIn K (.ref C5) "__getattr__" = some none)
    (gcC5 : PySem.W.findIn K (.ref C5) "__class__" = some (some (.builtin "object.__class__")))
    (tyC5 : PySem.W.typeIn K (.ref C5) = some (.type "type"))
    (kpC5 : PySem.W.keepIn K (.ref C5) = true)
    (noC5_0 : PySem.W.findIn K (.ref C5) "handed" = some none)
    (aI5 : PySem.W.findIn K (.ref C5) "__init__" = some (some (.ref fI5)))
    (lI5 : K.lookup fI5 = some ⟨ocI5, odI5, .func (PySem.W.fnOf "__init__" "BadHanded.__init__" (defArgs (inClass (top 7) 0)) (defBody (inClass (top 7) 0)) (defScope (inClass (top 7) 0)) .none kVI5 dcI5 pmI5 anI5 cdI5 ctI5), slI5⟩)
    (cI5 : PySem.W.codeIn K cdI5 "BadHanded.__init__" = true)
    (kI5 : PySem.W.keepIn K (.ref fI5) = true)
    (tI5 : PySem.W.typeIn K (.ref fI5) = some (.type "function"))
    (gC6 : PySem.W.nsIn K mainGlobals "BadPromise" = some (some (.ref C6)))
    (xC6 : K.lookup C6 = some (excClassObj nmC6 qC6 C6 NC6 bsC6 [.ref CT, .type "ValueError", .type "Exception", .type "BaseException", .type "object"] true snC6 subC6 abC6 colC6 ddC6 m0C6 m1C6 m2C6 m3C6 m5C6 "ValueError.__new__"))
    (saC6 : PySem.W.findIn K (.ref C6) "__setattr__" = some (some (.builtin "object.__setattr__")))
    (gaC6 : PySem.W.findIn K (.ref C6) "__getattribute__" = some (some (.builtin "BaseException.__getattribute__")))
    (ggC6 : PySem.W.findIn K (.ref C6) "__getattr__" = some none)
    (gcC6 : PySem.W.findIn K (.ref C6) "__class__" = some (some (.builtin "object.__class__")))
    (tyC6 : PySem.W.typeIn K (.ref C6) = some (.type "type"))
    (kpC6 : PySem.W.keepIn K (.ref C6) = true)
    (noC6_0 : PySem.W.findIn K (.ref C6) "promise" = some none)
    (aI6 : PySem.W.findIn K (.ref C6) "__init__" = some (some (.ref fI6)))
    (lI6 : K.lookup fI6 = some ⟨ocI6, odI6, .func (PySem.W.fnOf "__init__" "BadPromise.__init__" (defArgs (inClass (top 8) 0)) (defBody (inClass (top 8) 0)) (defScope (inClass (top 8) 0)) .none kVI6 dcI6 pmI6 anI6 cdI6 ctI6), slI6⟩)
    (cI6 : PySem.W.codeIn K cdI6 "BadPromise.__init__" = true)
    (kI6 : PySem.W.keepIn K (.ref fI6) = true)
    (tI6 : PySem.W.typeIn K (.ref fI6) = some (.type "function"))
    (gC7 : PySem.W.nsIn K mainGlobals "NoLine" = some (some (.ref C7)))
    (xC7 : K.lookup C7 = some (excClassObj nmC7 qC7 C7 NC7 bsC7 [.ref CT, .type "ValueError", .type "Exception", .type "BaseException", .type "object"] true snC7 subC7 abC7 colC7 ddC7 m0C7 m1C7 m2C7 m3C7 m5C7 "ValueError.__new__"))
    (saC7 : PySem.W.findIn K (.ref C7) "__setattr__" = some (some (.builtin "object.__setattr__")))
    (gaC7 : PySem.W.findIn K (.ref C7) "__getattribute__" = some (some (.builtin "BaseException.__getattribute__")))
    (ggC7 : PySem.W.findIn K (.ref C7) "__getattr__" = some none)
    (gcC7 : PySem.W.findIn K (.ref C7) "__class__" = some (some (.builtin "object.__class__")))
    (tyC7 : PySem.W.typeIn K (.ref C7) = some (.type "type"))
    (kpC7 : PySem.W.keepIn K (.ref C7) = true)
    (noC7_0 : PySem.W.findIn K (.ref C7) "line" = some none)
    (aI7 : PySem.W.findIn K (.ref C7) "__init__" = some (some (.ref fI7)))
    (lI7 : K.lookup fI7 = some ⟨ocI7, odI7, .func (PySem.W.fnOf "__init__" "NoLine.__init__" (defArgs (inClass (top 9) 0)) (defBody (inClass (top 9) 0)) (defScope (inClass (top 9) 0)) .none kVI7 dcI7 pmI7 anI7 cdI7 ctI7), slI7⟩)
    (cI7 : PySem.W.codeIn K cdI7 "NoLine.__init__" = true)
    (kI7 : PySem.W.keepIn K (.ref fI7) = true)
    (tI7 : PySem.W.typeIn K (.ref fI7) = some (.type "function"))
    (gC8 : PySem.W.nsIn K mainGlobals "BadSize" = some (some (.ref C8)))
    (xC8 : K.lookup C8 = some (excClassObj nmC8 qC8 C8 NC8 bsC8 [.ref CT, .type "ValueError", .type "Exception", .type "BaseException", .type "object"] true snC8 subC8 abC8 colC8 ddC8 m0C8 m1C8 m2C8 m3C8 m5C8 "ValueError.__new__"))
    (saC8 : PySem.W.findIn K (.ref C8) "__setattr__" = some (some (.builtin "object.__setattr__")))
    (gaC8 : PySem.W.findIn K (.ref C8) "__getattribute__" = some (some (.builtin "BaseException.__getattribute__")))
    (ggC8 : PySem.W.findIn K (.ref C8) "__getattr__" = some none)
    (gcC8 : PySem.W.findIn K (.ref C8) "__class__" = some (some (.builtin "object.__class__")))
    (tyC8 : PySem.W.typeIn K (.ref C8) = some (.type "type"))
    (kpC8 : PySem.W.keepIn K (.ref C8) = true)
    (noC8_0 : PySem.W.findIn K (.ref C8) "n" = some none)
    (aI8 : PySem.W.findIn K (.ref C8) "__init__" = some (some (.ref fI8)))
    (lI8 : K.lookup fI8 = some ⟨ocI8, odI8, .func (PySem.W.fnOf "__init__" "BadSize.__init__" (defArgs (inClass (top 10) 0)) (defBody (inClass (top 10) 0)) (defScope (inClass (top 10) 0)) .none kVI8 dcI8 pmI8 anI8 cdI8 ctI8), slI8⟩)
    (cI8 : PySem.W.codeIn K cdI8 "BadSize.__init__" = true)
    (kI8 : PySem.W.keepIn K (.ref fI8) = true)
    (tI8 : PySem.W.typeIn K (.ref fI8) = some (.type "function"))
    (gC9 : PySem.W.nsIn K mainGlobals "OtherUps" = some (some (.ref C9)))
    (xC9 : K.lookup C9 = some (excClassObj nmC9 qC9 C9 NC9 bsC9 [.ref CT, .type "ValueError", .type "Exception", .type "BaseException", .type "object"] true snC9 subC9 abC9 colC9 ddC9 m0C9 m1C9 m2C9 m3C9 m5C9 "ValueError.__new__"))
    (saC9 : PySem.W.findIn K (.ref C9) "__setattr__" = some (some (.builtin "object.__setattr__")))
    (gaC9 : PySem.W.findIn K (.ref C9) "__getattribute__" = some (some (.builtin "BaseException.__getattribute__")))
    (ggC9 : PySem.W.findIn K (.ref C9) "__getattr__" = some none)
    (gcC9 : PySem.W.findIn K (.ref C9) "__class__" = some (some (.builtin "object.__class__")))
    (tyC9 : PySem.W.typeIn K (.ref C9) = some (.type "type"))
    (kpC9 : PySem.W.keepIn K (.ref C9) = true)
    (aI9 : PySem.W.findIn K (.ref C9) "__init__" = some (some (.ref fI9)))
    (lI9 : K.lookup fI9 = some ⟨ocI9, odI9, .func (PySem.W.fnOf "__init__" "OtherUps.__init__" (defArgs (inClass (top 11) 0)) (defBody (inClass (top 11) 0)) (defScope (inClass (top 11) 0)) .none kVI9 dcI9 pmI9 anI9 cdI9 ctI9), slI9⟩)
    (cI9 : PySem.W.codeIn K cdI9 "OtherUps.__init__" = true)
    (kI9 : PySem.W.keepIn K (.ref fI9) = true)
    (tI9 : PySem.W.typeIn K (.ref fI9) = some (.type "function"))
    (gC10 : PySem.W.nsIn K mainGlobals "BadName" = some (some (.ref C10)))
    (xC10 : K.lookup C10 = some (excClassObj nmC10 qC10 C10 NC10 bsC10 [.ref CT, .type "ValueError", .type "Exception", .type "BaseException", .type "object"] true snC10 subC10 abC10 colC10 ddC10 m0C10 m1C10 m2C10 m3C10 m5C10 "ValueError.__new__"))
    (saC10 : PySem.W.findIn K (.ref C10) "__setattr__" = some (some (.builtin "object.__setattr__")))
    (gaC10 : PySem.W.findIn K (.ref C10) "__getattribute__" = some (some (.builtin "BaseException.__getattribute__")))
    (ggC10 : PySem.W.findIn K (.ref C10) "__getattr__" = some none)
    (gcC10 : PySem.W.findIn K (.ref C10) "__class__" = some (some (.builtin "object.__class__")))
    (tyC10 : PySem.W.typeIn K (.ref C10) = some (.type "type"))
    (kpC10 : PySem.W.keepIn K (.ref C10) = true)
    (noC10_0 : PySem.W.findIn K (.ref C10) "name" = some none)
    (aI10 : PySem.W.findIn K (.ref C10) "__init__" = some (some (.ref fI10)))
    (lI10 : K.lookup fI10 = some ⟨ocI10, odI10, .func (PySem.W.fnOf "__init__" "BadName.__init__" (defArgs (inClass (top 12) 0)) (defBody (inClass (top 12) 0)) (defScope (inClass (top 12) 0)) .none kVI10 dcI10 pmI10 anI10 cdI10 ctI10), slI10⟩)
    (cI10 : PySem.W.codeIn K cdI10 "BadName.__init__" = true)
    (kI10 : PySem.W.keepIn K (.ref fI10) = true)
    (tI10 : PySem.W.typeIn K (.ref fI10) = some (.type "function"))
    (gC11 : PySem.W.nsIn K mainGlobals "NoDeed" = some (some (.ref C11)))
    (xC11 : K.lookup C11 = some (excClassObj nmC11 qC11 C11 NC11 bsC11 [.ref CT, .type "ValueError", .type "Exception", .type "BaseException", .type "object"] true snC11 subC11 abC11 colC11 ddC11 m0C11 m1C11 m2C11 m3C11 m5C11 "ValueError.__new__"))
    (saC11 : PySem.W.findIn K (.ref C11) "__setattr__" = some (some (.builtin "object.__setattr__")))
    (gaC11 : PySem.W.findIn K (.ref C11) "__getattribute__" = some (some (.builtin "BaseException.__getattribute__")))
    (ggC11 : PySem.W.findIn K (.ref C11) "__getattr__" = some none)
    (gcC11 : PySem.W.findIn K (.ref C11) "__class__" = some (some (.builtin "object.__class__")))
    (tyC11 : PySem.W.typeIn K (.ref C11) = some (.type "type"))
    (kpC11 : PySem.W.keepIn K (.ref C11) = true)
    (noC11_0 : PySem.W.findIn K (.ref C11) "name" = some none)
    (aI11 : PySem.W.findIn K (.ref C11) "__init__" = some (some (.ref fI11)))
    (lI11 : K.lookup fI11 = some ⟨ocI11, odI11, .func (PySem.W.fnOf "__init__" "NoDeed.__init__" (defArgs (inClass (top 13) 0)) (defBody (inClass (top 13) 0)) (defScope (inClass (top 13) 0)) .none kVI11 dcI11 pmI11 anI11 cdI11 ctI11), slI11⟩)
    (cI11 : PySem.W.codeIn K cdI11 "NoDeed.__init__" = true)
    (kI11 : PySem.W.keepIn K (.ref fI11) = true)
    (tI11 : PySem.W.typeIn K (.ref fI11) = some (.type "function"))
    (gC12 : PySem.W.nsIn K mainGlobals "NoWalker" = some (some (.ref C12)))
    (xC12 : K.lookup C12 = some (excClassObj nmC12 qC12 C12 NC12 bsC12 [.ref CT, .type "ValueError", .type "Exception", .type "BaseException", .type "object"] true snC12 subC12 abC12 colC12 ddC12 m0C12 m1C12 m2C12 m3C12 m5C12 "ValueError.__new__"))
    (saC12 : PySem.W.findIn K (.ref C12) "__setattr__" = some (some (.builtin "object.__setattr__")))
    (gaC12 : PySem.W.findIn K (.ref C12) "__getattribute__" = some (some (.builtin "BaseException.__getattribute__")))
    (ggC12 : PySem.W.findIn K (.ref C12) "__getattr__" = some none)
    (gcC12 : PySem.W.findIn K (.ref C12) "__class__" = some (some (.builtin "object.__class__")))
    (tyC12 : PySem.W.typeIn K (.ref C12) = some (.type "type"))
    (kpC12 : PySem.W.keepIn K (.ref C12) = true)
    (noC12_0 : PySem.W.findIn K (.ref C12) "name" = some none)
    (aI12 : PySem.W.findIn K (.ref C12) "__init__" = some (some (.ref fI12)))
    (lI12 : K.lookup fI12 = some ⟨ocI12, odI12, .func (PySem.W.fnOf "__init__" "NoWalker.__init__" (defArgs (inClass (top 14) 0)) (defBody (inClass (top 14) 0)) (defScope (inClass (top 14) 0)) .none kVI12 dcI12 pmI12 anI12 cdI12 ctI12), slI12⟩)
    (cI12 : PySem.W.codeIn K cdI12 "NoWalker.__init__" = true)
    (kI12 : PySem.W.keepIn K (.ref fI12) = true)
    (tI12 : PySem.W.typeIn K (.ref fI12) = some (.type "function"))
    (gC13 : PySem.W.nsIn K mainGlobals "NothingToUndo" = some (some (.ref C13)))
    (xC13 : K.lookup C13 = some (excClassObj nmC13 qC13 C13 NC13 bsC13 [.ref CT, .type "ValueError", .type "Exception", .type "BaseException", .type "object"] true snC13 subC13 abC13 colC13 ddC13 m0C13 m1C13 m2C13 m3C13 m5C13 "ValueError.__new__"))
    (saC13 : PySem.W.findIn K (.ref C13) "__setattr__" = some (some (.builtin "object.__setattr__")))
    (gaC13 : PySem.W.findIn K (.ref C13) "__getattribute__" = some (some (.builtin "BaseException.__getattribute__")))
    (ggC13 : PySem.W.findIn K (.ref C13) "__getattr__" = some none)
    (gcC13 : PySem.W.findIn K (.ref C13) "__class__" = some (some (.builtin "object.__class__")))
    (tyC13 : PySem.W.typeIn K (.ref C13) = some (.type "type"))
    (kpC13 : PySem.W.keepIn K (.ref C13) = true)
    (aI13 : PySem.W.findIn K (.ref C13) "__init__" = some (some (.ref fI13)))
    (lI13 : K.lookup fI13 = some ⟨ocI13, odI13, .func (PySem.W.fnOf "__init__" "NothingToUndo.__init__" (defArgs (inClass (top 15) 0)) (defBody (inClass (top 15) 0)) (defScope (inClass (top 15) 0)) .none kVI13 dcI13 pmI13 anI13 cdI13 ctI13), slI13⟩)
    (cI13 : PySem.W.codeIn K cdI13 "NothingToUndo.__init__" = true)
    (kI13 : PySem.W.keepIn K (.ref fI13) = true)
    (tI13 : PySem.W.typeIn K (.ref fI13) = some (.type "function"))
    (gC14 : PySem.W.nsIn K mainGlobals "TooMany" = some (some (.ref C14)))
    (xC14 : K.lookup C14 = some (excClassObj nmC14 qC14 C14 NC14 bsC14 [.ref CT, .type "ValueError", .type "Exception", .type "BaseException", .type "object"] true snC14 subC14 abC14 colC14 ddC14 m0C14 m1C14 m2C14 m3C14 m5C14 "ValueError.__new__"))
    (saC14 : PySem.W.findIn K (.ref C14) "__setattr__" = some (some (.builtin "object.__setattr__")))
    (gaC14 : PySem.W.findIn K (.ref C14) "__getattribute__" = some (some (.builtin "BaseException.__getattribute__")))
    (ggC14 : PySem.W.findIn K (.ref C14) "__getattr__" = some none)
    (gcC14 : PySem.W.findIn K (.ref C14) "__class__" = some (some (.builtin "object.__class__")))
    (tyC14 : PySem.W.typeIn K (.ref C14) = some (.type "type"))
    (kpC14 : PySem.W.keepIn K (.ref C14) = true)
    (noC14_0 : PySem.W.findIn K (.ref C14) "what" = some none)
    (noC14_1 : PySem.W.findIn K (.ref C14) "many" = some none)
    (noC14_2 : PySem.W.findIn K (.ref C14) "most" = some none)
    (aI14 : PySem.W.findIn K (.ref C14) "__init__" = some (some (.ref fI14)))
    (lI14 : K.lookup fI14 = some ⟨ocI14, odI14, .func (PySem.W.fnOf "__init__" "TooMany.__init__" (defArgs (inClass (top 16) 0)) (defBody (inClass (top 16) 0)) (defScope (inClass (top 16) 0)) .none kVI14 dcI14 pmI14 anI14 cdI14 ctI14), slI14⟩)
    (cI14 : PySem.W.codeIn K cdI14 "TooMany.__init__" = true)
    (kI14 : PySem.W.keepIn K (.ref fI14) = true)
    (tI14 : PySem.W.typeIn K (.ref fI14) = some (.type "function"))
    (aD18 : PySem.W.nsIn K mainGlobals "_law_bag" = some (some (.ref fD18)))
    (lD18 : K.lookup fD18 = some ⟨ocD18, odD18, .func (PySem.W.fnOf "_law_bag" "_law_bag" (defArgs (top 18)) (defBody (top 18)) (defScope (top 18)) .none kVD18 dcD18 pmD18 anD18 cdD18 ctD18), slD18⟩)
    (cD18 : PySem.W.codeIn K cdD18 "_law_bag" = true)
    (kD18 : PySem.W.keepIn K (.ref fD18) = true)
    (aD19 : PySem.W.nsIn K mainGlobals "_law_draw" = some (some (.ref fD19)))
    (lD19 : K.lookup fD19 = some ⟨ocD19, odD19, .func (PySem.W.fnOf "_law_draw" "_law_draw" (defArgs (top 19)) (defBody (top 19)) (defScope (top 19)) .none kVD19 dcD19 pmD19 anD19 cdD19 ctD19), slD19⟩)
    (cD19 : PySem.W.codeIn K cdD19 "_law_draw" = true)
    (kD19 : PySem.W.keepIn K (.ref fD19) = true)
    (aD20 : PySem.W.nsIn K mainGlobals "_law_thing" = some (some (.ref fD20)))
    (lD20 : K.lookup fD20 = some ⟨ocD20, odD20, .func (PySem.W.fnOf "_law_thing" "_law_thing" (defArgs (top 20)) (defBody (top 20)) (defScope (top 20)) .none kVD20 dcD20 pmD20 anD20 cdD20 ctD20), slD20⟩)
    (cD20 : PySem.W.codeIn K cdD20 "_law_thing" = true)
    (kD20 : PySem.W.keepIn K (.ref fD20) = true)
    (aD21 : PySem.W.nsIn K mainGlobals "_law_raised_0" = some (some (.ref fD21)))
    (lD21 : K.lookup fD21 = some ⟨ocD21, odD21, .func (PySem.W.fnOf "_law_raised_0" "_law_raised_0" (defArgs (top 21)) (defBody (top 21)) (defScope (top 21)) .none kVD21 dcD21 pmD21 anD21 cdD21 ctD21), slD21⟩)
    (cD21 : PySem.W.codeIn K cdD21 "_law_raised_0" = true)
    (kD21 : PySem.W.keepIn K (.ref fD21) = true)
    (aD22 : PySem.W.nsIn K mainGlobals "_law_raised_1" = some (some (.ref fD22)))
    (lD22 : K.lookup fD22 = some ⟨ocD22, odD22, .func (PySem.W.fnOf "_law_raised_1" "_law_raised_1" (defArgs (top 22)) (defBody (top 22)) (defScope (top 22)) .none kVD22 dcD22 pmD22 anD22 cdD22 ctD22), slD22⟩)
    (cD22 : PySem.W.codeIn K cdD22 "_law_raised_1" = true)
    (kD22 : PySem.W.keepIn K (.ref fD22) = true)
    (aD23 : PySem.W.nsIn K mainGlobals "_law_raised" = some (some (.ref fD23)))
    (lD23 : K.lookup fD23 = some ⟨ocD23, odD23, .func (PySem.W.fnOf "_law_raised" "_law_raised" (defArgs (top 23)) (defBody (top 23)) (defScope (top 23)) .none kVD23 dcD23 pmD23 anD23 cdD23 ctD23), slD23⟩)
    (cD23 : PySem.W.codeIn K cdD23 "_law_raised" = true)
    (kD23 : PySem.W.keepIn K (.ref fD23) = true)
    (aD24 : PySem.W.nsIn K mainGlobals "_law_kinds_of" = some (some (.ref fD24)))
    (lD24 : K.lookup fD24 = some ⟨ocD24, odD24, .func (PySem.W.fnOf "_law_kinds_of" "_law_kinds_of" (defArgs (top 24)) (defBody (top 24)) (defScope (top 24)) .none kVD24 dcD24 pmD24 anD24 cdD24 ctD24), slD24⟩)
    (cD24 : PySem.W.codeIn K cdD24 "_law_kinds_of" = true)
    (kD24 : PySem.W.keepIn K (.ref fD24) = true)
    (aD25 : PySem.W.nsIn K mainGlobals "_law_caught" = some (some (.ref fD25)))
    (lD25 : K.lookup fD25 = some ⟨ocD25, odD25, .func (PySem.W.fnOf "_law_caught" "_law_caught" (defArgs (top 25)) (defBody (top 25)) (defScope (top 25)) .none kVD25 dcD25 pmD25 anD25 cdD25 ctD25), slD25⟩)
    (cD25 : PySem.W.codeIn K cdD25 "_law_caught" = true)
    (kD25 : PySem.W.keepIn K (.ref fD25) = true)
    (aD26 : PySem.W.nsIn K mainGlobals "_law_fields_0" = some (some (.ref fD26)))
    (lD26 : K.lookup fD26 = some ⟨ocD26, odD26, .func (PySem.W.fnOf "_law_fields_0" "_law_fields_0" (defArgs (top 26)) (defBody (top 26)) (defScope (top 26)) .none kVD26 dcD26 pmD26 anD26 cdD26 ctD26), slD26⟩)
    (cD26 : PySem.W.codeIn K cdD26 "_law_fields_0" = true)
    (kD26 : PySem.W.keepIn K (.ref fD26) = true)
    (aD27 : PySem.W.nsIn K mainGlobals "_law_fields_1" = some (some (.ref fD27)))
    (lD27 : K.lookup fD27 = some ⟨ocD27, odD27, .func (PySem.W.fnOf "_law_fields_1" "_law_fields_1" (defArgs (top 27)) (defBody (top 27)) (defScope (top 27)) .none kVD27 dcD27 pmD27 anD27 cdD27 ctD27), slD27⟩)
    (cD27 : PySem.W.codeIn K cdD27 "_law_fields_1" = true)
    (kD27 : PySem.W.keepIn K (.ref fD27) = true)
    (aD28 : PySem.W.nsIn K mainGlobals "_law_fields" = some (some (.ref fD28)))
    (lD28 : K.lookup fD28 = some ⟨ocD28, odD28, .func (PySem.W.fnOf "_law_fields" "_law_fields" (defArgs (top 28)) (defBody (top 28)) (defScope (top 28)) .none kVD28 dcD28 pmD28 anD28 cdD28 ctD28), slD28⟩)
    (cD28 : PySem.W.codeIn K cdD28 "_law_fields" = true)
    (kD28 : PySem.W.keepIn K (.ref fD28) = true)
    (aD29 : PySem.W.nsIn K mainGlobals "law" = some (some (.ref fD29)))
    (lD29 : K.lookup fD29 = some ⟨ocD29, odD29, .func (PySem.W.fnOf "law" "law" (defArgs (top 29)) (defBody (top 29)) (defScope (top 29)) .none kVD29 dcD29 pmD29 anD29 cdD29 ctD29), slD29⟩)
    (cD29 : PySem.W.codeIn K cdD29 "law" = true)
    (kD29 : PySem.W.keepIn K (.ref fD29) = true)
    (z_int : PySem.W.nsIn K mainGlobals "int" = some none)
    (z_list : PySem.W.nsIn K mainGlobals "list" = some none)
    (z_len : PySem.W.nsIn K mainGlobals "len" = some none)
    (z_range : PySem.W.nsIn K mainGlobals "range" = some none)
    (z_isinstance : PySem.W.nsIn K mainGlobals "isinstance" = some none)
    (z_ValueError : PySem.W.nsIn K mainGlobals "ValueError" = some none)
    (hn : PySem.W.specialIn K (.builtin "object.__class__") "__get__" = some (some (.builtin "getset_descriptor.__get__")))
    (ht : PySem.W.takesIn K (.builtin "object.__class__") = some true)
    (nd : ([CT, C0, C1, C2, C3, C4, C5, C6, C7, C8, C9, C10, C11, C12, C13, C14] : List Addr).Nodup)
    : ∃ fd : FuncData, (∀ (s : Shared) (v : Value), BindsTo s fd ⟨[v], []⟩ [("script", v)]) ∧ ∀ base : Heap, K.In base → base.Ns mainGlobals mg → FnOk l.prog w K mg base CX0 6 fa fd ["script"] (spLaw K) := by
  have e := hfa.symm.trans (PySem.W.mg_of X G aD29)
  cases e
  have ecT : EC K [] CT := ⟨⟨_, _, _, _, _, _, _, _, _, _, _, _, _, _, xT⟩, saT, gaT, ggT, gcT, tyT, kpT⟩
  have ec0 : EC K [CT] C0 := ⟨⟨_, _, _, _, _, _, _, _, _, _, _, _, _, _, xC0⟩, saC0, gaC0, ggC0, gcC0, tyC0, kpC0⟩
  have FI0 := fun_mk (st := inClass (top 2) 0) lI0 cI0 kI0
  have bI0 := FI0.binds (ps := ["self", "kind"]) fun _ _ _ _ _ _ us hl => match us, hl with | [_, _], _ => rfl
  have ec1 : EC K [CT] C1 := ⟨⟨_, _, _, _, _, _, _, _, _, _, _, _, _, _, xC1⟩, saC1, gaC1, ggC1, gcC1, tyC1, kpC1⟩
  have FI1 := fun_mk (st := inClass (top 3) 0) lI1 cI1 kI1
  have bI1 := FI1.binds (ps := ["self", "ups"]) fun _ _ _ _ _ _ us hl => match us, hl with | [_, _], _ => rfl
  have ec2 : EC K [CT] C2 := ⟨⟨_, _, _, _, _, _, _, _, _, _, _, _, _, _, xC2⟩, saC2, gaC2, ggC2, gcC2, tyC2, kpC2⟩
  have FI2 := fun_mk (st := inClass (top 4) 0) lI2 cI2 kI2
  have bI2 := FI2.binds (ps := ["self", "line"]) fun _ _ _ _ _ _ us hl => match us, hl with | [_, _], _ => rfl
  have ec3 : EC K [CT] C3 := ⟨⟨_, _, _, _, _, _, _, _, _, _, _, _, _, _, xC3⟩, saC3, gaC3, ggC3, gcC3, tyC3, kpC3⟩
  have FI3 := fun_mk (st := inClass (top 5) 0) lI3 cI3 kI3
  have bI3 := FI3.binds (ps := ["self", "line"]) fun _ _ _ _ _ _ us hl => match us, hl with | [_, _], _ => rfl
  have ec4 : EC K [CT] C4 := ⟨⟨_, _, _, _, _, _, _, _, _, _, _, _, _, _, xC4⟩, saC4, gaC4, ggC4, gcC4, tyC4, kpC4⟩
  have FI4 := fun_mk (st := inClass (top 6) 0) lI4 cI4 kI4
  have bI4 := FI4.binds (ps := ["self", "tree"]) fun _ _ _ _ _ _ us hl => match us, hl with | [_, _], _ => rfl
  have ec5 : EC K [CT] C5 := ⟨⟨_, _, _, _, _, _, _, _, _, _, _, _, _, _, xC5⟩, saC5, gaC5, ggC5, gcC5, tyC5, kpC5⟩
  have FI5 := fun_mk (st := inClass (top 7) 0) lI5 cI5 kI5
  have bI5 := FI5.binds (ps := ["self", "handed"]) fun _ _ _ _ _ _ us hl => match us, hl with | [_, _], _ => rfl
  have ec6 : EC K [CT] C6 := ⟨⟨_, _, _, _, _, _, _, _, _, _, _, _, _, _, xC6⟩, saC6, gaC6, ggC6, gcC6, tyC6, kpC6⟩
  have FI6 := fun_mk (st := inClass (top 8) 0) lI6 cI6 kI6
  have bI6 := FI6.binds (ps := ["self", "promise"]) fun _ _ _ _ _ _ us hl => match us, hl with | [_, _], _ => rfl
  have ec7 : EC K [CT] C7 := ⟨⟨_, _, _, _, _, _, _, _, _, _, _, _, _, _, xC7⟩, saC7, gaC7, ggC7, gcC7, tyC7, kpC7⟩
  have FI7 := fun_mk (st := inClass (top 9) 0) lI7 cI7 kI7
  have bI7 := FI7.binds (ps := ["self", "line"]) fun _ _ _ _ _ _ us hl => match us, hl with | [_, _], _ => rfl
  have ec8 : EC K [CT] C8 := ⟨⟨_, _, _, _, _, _, _, _, _, _, _, _, _, _, xC8⟩, saC8, gaC8, ggC8, gcC8, tyC8, kpC8⟩
  have FI8 := fun_mk (st := inClass (top 10) 0) lI8 cI8 kI8
  have bI8 := FI8.binds (ps := ["self", "n"]) fun _ _ _ _ _ _ us hl => match us, hl with | [_, _], _ => rfl
  have ec9 : EC K [CT] C9 := ⟨⟨_, _, _, _, _, _, _, _, _, _, _, _, _, _, xC9⟩, saC9, gaC9, ggC9, gcC9, tyC9, kpC9⟩
  have FI9 := fun_mk (st := inClass (top 11) 0) lI9 cI9 kI9
  have bI9 := FI9.binds (ps := ["self"]) fun _ _ _ _ _ _ us hl => match us, hl with | [_], _ => rfl
  have ec10 : EC K [CT] C10 := ⟨⟨_, _, _, _, _, _, _, _, _, _, _, _, _, _, xC10⟩, saC10, gaC10, ggC10, gcC10, tyC10, kpC10⟩
  have FI10 := fun_mk (st := inClass (top 12) 0) lI10 cI10 kI10
  have bI10 := FI10.binds (ps := ["self", "name"]) fun _ _ _ _ _ _ us hl => match us, hl with | [_, _], _ => rfl
  have ec11 : EC K [CT] C11 := ⟨⟨_, _, _, _, _, _, _, _, _, _, _, _, _, _, xC11⟩, saC11, gaC11, ggC11, gcC11, tyC11, kpC11⟩
  have FI11 := fun_mk (st := inClass (top 13) 0) lI11 cI11 kI11
  have bI11 := FI11.binds (ps := ["self", "name"]) fun _ _ _ _ _ _ us hl => match us, hl with | [_, _], _ => rfl
  have ec12 : EC K [CT] C12 := ⟨⟨_, _, _, _, _, _, _, _, _, _, _, _, _, _, xC12⟩, saC12, gaC12, ggC12, gcC12, tyC12, kpC12⟩
  have FI12 := fun_mk (st := inClass (top 14) 0) lI12 cI12 kI12
  have bI12 := FI12.binds (ps := ["self", "name"]) fun _ _ _ _ _ _ us hl => match us, hl with | [_, _], _ => rfl
  have ec13 : EC K [CT] C13 := ⟨⟨_, _, _, _, _, _, _, _, _, _, _, _, _, _, xC13⟩, saC13, gaC13, ggC13, gcC13, tyC13, kpC13⟩
  have FI13 := fun_mk (st := inClass (top 15) 0) lI13 cI13 kI13
  have bI13 := FI13.binds (ps := ["self"]) fun _ _ _ _ _ _ us hl => match us, hl with | [_], _ => rfl
  have ec14 : EC K [CT] C14 := ⟨⟨_, _, _, _, _, _, _, _, _, _, _, _, _, _, xC14⟩, saC14, gaC14, ggC14, gcC14, tyC14, kpC14⟩
  have FI14 := fun_mk (st := inClass (top 16) 0) lI14 cI14 kI14
  have bI14 := FI14.binds (ps := ["self", "what", "many", "most"]) fun _ _ _ _ _ _ us hl => match us, hl with | [_, _, _, _], _ => rfl
  have F18 := fun_mk (st := top 18) lD18 cD18 kD18
  have b18 := F18.binds (ps := ["script"]) fun _ _ _ _ _ _ us hl => match us, hl with | [_], _ => rfl
  have m18 := PySem.W.mg_of X G aD18
  have F19 := fun_mk (st := top 19) lD19 cD19 kD19
  have b19 := F19.binds (ps := ["bag", "limit"]) fun _ _ _ _ _ _ us hl => match us, hl with | [_, _], _ => rfl
  have m19 := PySem.W.mg_of X G aD19
  have F20 := fun_mk (st := top 20) lD20 cD20 kD20
  have b20 := F20.binds (ps := ["bag"]) fun _ _ _ _ _ _ us hl => match us, hl with | [_], _ => rfl
  have m20 := PySem.W.mg_of X G aD20
  have F21 := fun_mk (st := top 21) lD21 cD21 kD21
  have b21 := F21.binds (ps := ["k", "a", "b", "c"]) fun _ _ _ _ _ _ us hl => match us, hl with | [_, _, _, _], _ => rfl
  have m21 := PySem.W.mg_of X G aD21
  have F22 := fun_mk (st := top 22) lD22 cD22 kD22
  have b22 := F22.binds (ps := ["k", "a", "b", "c"]) fun _ _ _ _ _ _ us hl => match us, hl with | [_, _, _, _], _ => rfl
  have m22 := PySem.W.mg_of X G aD22
  have F23 := fun_mk (st := top 23) lD23 cD23 kD23
  have b23 := F23.binds (ps := ["k", "a", "b", "c"]) fun _ _ _ _ _ _ us hl => match us, hl with | [_, _, _, _], _ => rfl
  have m23 := PySem.W.mg_of X G aD23
  have F24 := fun_mk (st := top 24) lD24 cD24 kD24
  have b24 := F24.binds (ps := ["e"]) fun _ _ _ _ _ _ us hl => match us, hl with | [_], _ => rfl
  have m24 := PySem.W.mg_of X G aD24
  have F25 := fun_mk (st := top 25) lD25 cD25 kD25
  have b25 := F25.binds (ps := ["k", "a", "b", "c"]) fun _ _ _ _ _ _ us hl => match us, hl with | [_, _, _, _], _ => rfl
  have m25 := PySem.W.mg_of X G aD25
  have F26 := fun_mk (st := top 26) lD26 cD26 kD26
  have b26 := F26.binds (ps := ["k", "a", "b", "c"]) fun _ _ _ _ _ _ us hl => match us, hl with | [_, _, _, _], _ => rfl
  have m26 := PySem.W.mg_of X G aD26
  have F27 := fun_mk (st := top 27) lD27 cD27 kD27
  have b27 := F27.binds (ps := ["k", "a", "b", "c"]) fun _ _ _ _ _ _ us hl => match us, hl with | [_, _, _, _], _ => rfl
  have m27 := PySem.W.mg_of X G aD27
  have F28 := fun_mk (st := top 28) lD28 cD28 kD28
  have b28 := F28.binds (ps := ["k", "a", "b", "c"]) fun _ _ _ _ _ _ us hl => match us, hl with | [_, _, _, _], _ => rfl
  have m28 := PySem.W.mg_of X G aD28
  have F29 := fun_mk (st := top 29) lD29 cD29 kD29
  have b29 := F29.binds (ps := ["script"]) fun _ _ _ _ _ _ us hl => match us, hl with | [_], _ => rfl
  have m29 := PySem.W.mg_of X G aD29
  have N : Nm mg := ⟨PySem.W.mg_none_of X G z_int, PySem.W.mg_none_of X G z_list, PySem.W.mg_none_of X G z_len⟩
  refine ⟨PySem.W.fnOf "law" "law" (defArgs (top 29)) (defBody (top 29)) (defScope (top 29)) .none kVD29 dcD29 pmD29 anD29 cdD29 ctD29, fun s v => .of_eq rfl, fun base _ _ => ?_⟩
  · have R : Er l.prog w K mg base CT (fun k => ([C0, C1, C2, C3, C4, C5, C6, C7, C8, C9, C10, C11, C12, C13, C14] : List Addr).getD k 0) := {
      hn := hn, ht := ht, et := ecT
      ec := fun k hk => by
        obtain rfl | rfl | rfl | rfl | rfl | rfl | rfl | rfl | rfl | rfl | rfl | rfl | rfl | rfl | rfl := (by omega : k = 0 ∨ k = 1 ∨ k = 2 ∨ k = 3 ∨ k = 4 ∨ k = 5 ∨ k = 6 ∨ k = 7 ∨ k = 8 ∨ k = 9 ∨ k = 10 ∨ k = 11 ∨ k = 12 ∨ k = 13 ∨ k = 14)
        · exact ec0
        · exact ec1
        · exact ec2
        · exact ec3
        · exact ec4
        · exact ec5
        · exact ec6
        · exact ec7
        · exact ec8
        · exact ec9
        · exact ec10
        · exact ec11
        · exact ec12
        · exact ec13
        · exact ec14
      inj := fun j k hj hk e => nodup_at (List.nodup_cons.mp nd).2 hj hk e
      nT := fun k hk e => (List.nodup_cons.mp nd).1 (by
        rw [← e]
        show ([C0, C1, C2, C3, C4, C5, C6, C7, C8, C9, C10, C11, C12, C13, C14] : List Addr).getD k 0 ∈ _
        rw [List.getD_eq_getElem?_getD, List.getElem?_eq_getElem hk]
        exact List.getElem_mem hk)
      mT := PySem.W.mg_of X G gT
      n0 := PySem.W.mg_of X G gC0
      i0 := ⟨fI0, _, aI0, tI0, ok_i0 FI0 ec0.oex noC0_0, bI0⟩
      f0 := noC0_0
      n1 := PySem.W.mg_of X G gC1
      i1 := ⟨fI1, _, aI1, tI1, ok_i1 FI1 ec1.oex noC1_0, bI1⟩
      f1 := noC1_0
      n2 := PySem.W.mg_of X G gC2
      i2 := ⟨fI2, _, aI2, tI2, ok_i2 FI2 ec2.oex noC2_0, bI2⟩
      f2 := noC2_0
      n3 := PySem.W.mg_of X G gC3
      i3 := ⟨fI3, _, aI3, tI3, ok_i3 FI3 ec3.oex noC3_0, bI3⟩
      f3 := noC3_0
      n4 := PySem.W.mg_of X G gC4
      i4 := ⟨fI4, _, aI4, tI4, ok_i4 FI4 ec4.oex noC4_0, bI4⟩
      f4 := noC4_0
      n5 := PySem.W.mg_of X G gC5
      i5 := ⟨fI5, _, aI5, tI5, ok_i5 FI5 ec5.oex noC5_0, bI5⟩
      f5 := noC5_0
      n6 := PySem.W.mg_of X G gC6
      i6 := ⟨fI6, _, aI6, tI6, ok_i6 FI6 ec6.oex noC6_0, bI6⟩
      f6 := noC6_0
      n7 := PySem.W.mg_of X G gC7
      i7 := ⟨fI7, _, aI7, tI7, ok_i7 FI7 ec7.oex noC7_0, bI7⟩
      f7 := noC7_0
      n8 := PySem.W.mg_of X G gC8
      i8 := ⟨fI8, _, aI8, tI8, ok_i8 FI8 ec8.oex noC8_0, bI8⟩
      f8 := noC8_0
      n9 := PySem.W.mg_of X G gC9
      i9 := ⟨fI9, _, aI9, tI9, ok_i9 FI9, bI9⟩
      n10 := PySem.W.mg_of X G gC10
      i10 := ⟨fI10, _, aI10, tI10, ok_i10 FI10 ec10.oex noC10_0, bI10⟩
      f10 := noC10_0
      n11 := PySem.W.mg_of X G gC11
      i11 := ⟨fI11, _, aI11, tI11, ok_i11 FI11 ec11.oex noC11_0, bI11⟩
      f11 := noC11_0
      n12 := PySem.W.mg_of X G gC12
      i12 := ⟨fI12, _, aI12, tI12, ok_i12 FI12 ec12.oex noC12_0, bI12⟩
      f12 := noC12_0
      n13 := PySem.W.mg_of X G gC13
      i13 := ⟨fI13, _, aI13, tI13, ok_i13 FI13, bI13⟩
      n14 := PySem.W.mg_of X G gC14
      i14 := ⟨fI14, _, aI14, tI14, ok_i14 FI14 ec14.oex noC14_0 noC14_1 noC14_2, bI14⟩
      f14a := noC14_0
      f14b := noC14_1
      f14c := noC14_2
    }
    have GB := ok_bag (P := l.prog) (w := w) (base := base) F18 N
    have GD := ok_draw (P := l.prog) (w := w) (base := base) F19 N
    have GT := ok_thing F20 N GD b19 kD19 m19
    have R0 := ok_r0 F21 R
    have R1 := ok_r1 F22 R
    have RR := ok_r F23 R0 b21 kD21 m21 R1 b22 kD22 m22
    have GC := ok_caught F25 R (PySem.W.mg_none_of X G z_isinstance) (PySem.W.mg_none_of X G z_ValueError) RR b23 kD23 m23 F24 b24 kD24 m24
    have G0 := ok_f0 F26 R R0 b21 kD21 m21
    have G1 := ok_f1 F27 R R1 b22 kD22 m22
    have GF := ok_f F28 G0 b26 kD26 m26 G1 b27 kD27 m27
    exact ok_law F29 (PySem.W.mg_none_of X G z_range) GB b18 kD18 m18 GT b20 kD20 m20 GF b28 kD28 m28 GC b25 kD25 m25
end
end K00
open PySem PySem.W PyProof.Rows
set_option maxRecDepth 100000 in
set_option maxHeartbeats 0 in
open_top head_of_law for PySem.Challenge.rw_nextcode_k00_errors_made_from_their_fiel
set_option maxRecDepth 100000 in
set_option maxHeartbeats 0 in
theorem PySem.Challenge.cw_nextcode_k00_errors_made_from_their_fiel_holds : PySem.Challenge.rw_nextcode_k00_errors_made_from_their_fiel.Holds := by
  refine head_of_law ?_
  k_fill
  refine L2.walk_of (l := PySem.Challenge.rw_nextcode_k00_errors_made_from_their_fiel) (n := 63) (k := 6) (x := "script") (CX := fun _ => L2.CX0) (sp := fun _ => K00.spLaw _) rfl (by decide) rfl ⟨rfl, by decide, by decide⟩ (fun w h Y => PySem.W.kIn_of Y) ?F (fun _ _ a ns hl _ hS => ⟨a, ns, rfl, hS, fun _ => rfl⟩) fun _ _ _ _ _ z => z
  case F =>
    intro w mg fa h KX G hmg
    refine' K00.all_mk KX G hmg ?gT ?xT ?saT ?gaT ?ggT ?gcT ?tyT ?kpT ?gC0 ?xC0 ?saC0 ?gaC0 ?ggC0 ?gcC0 ?tyC0 ?kpC0 ?noC0_0 ?aI0 ?lI0 ?cI0 ?kI0 ?tI0 ?gC1 ?xC1 ?saC1 ?gaC1 ?ggC1 ?gcC1 ?tyC1 ?kpC1 ?noC1_0 ?aI1 ?lI1 ?cI1 ?kI1 ?tI1 ?gC2 ?xC2 ?saC2 ?gaC2 ?ggC2 ?gcC2 ?tyC2 ?kpC2 ?noC2_0 ?aI2 ?lI2 ?cI2 ?kI2 ?tI2 ?gC3 ?xC3 ?saC3 ?gaC3 ?ggC3 ?gcC3 ?tyC3 ?kpC3 ?noC3_0 ?aI3 ?lI3 ?cI3 ?kI3 ?tI3 ?gC4 ?xC4 ?saC4 ?gaC4 ?ggC4 ?gcC4 ?tyC4 ?kpC4 ?noC4_0 ?aI4 ?lI4 ?cI4 ?kI4 ?tI4 ?gC5 ?xC5 ?saC5 ?gaC5 ?ggC5 ?gcC5 ?tyC5 ?kpC5 ?noC5_0 ?aI5 ?lI5 ?cI5 ?kI5 ?tI5 ?gC6 ?xC6 ?saC6 ?gaC6 ?ggC6 ?gcC6 ?tyC6 ?kpC6 ?noC6_0 ?aI6 ?lI6 ?cI6 ?kI6 ?tI6 ?gC7 ?xC7 ?saC7 ?gaC7 ?ggC7 ?gcC7 ?tyC7 ?kpC7 ?noC7_0 ?aI7 ?lI7 ?cI7 ?kI7 ?tI7 ?gC8 ?xC8 ?saC8 ?gaC8 ?ggC8 ?gcC8 ?tyC8 ?kpC8 ?noC8_0 ?aI8 ?lI8 ?cI8 ?kI8 ?tI8 ?gC9 ?xC9 ?saC9 ?gaC9 ?ggC9 ?gcC9 ?tyC9 ?kpC9 ?aI9 ?lI9 ?cI9 ?kI9 ?tI9 ?gC10 ?xC10 ?saC10 ?gaC10 ?ggC10 ?gcC10 ?tyC10 ?kpC10 ?noC10_0 ?aI10 ?lI10 ?cI10 ?kI10 ?tI10 ?gC11 ?xC11 ?saC11 ?gaC11 ?ggC11 ?gcC11 ?tyC11 ?kpC11 ?noC11_0 ?aI11 ?lI11 ?cI11 ?kI11 ?tI11 ?gC12 ?xC12 ?saC12 ?gaC12 ?ggC12 ?gcC12 ?tyC12 ?kpC12 ?noC12_0 ?aI12 ?lI12 ?cI12 ?kI12 ?tI12 ?gC13 ?xC13 ?saC13 ?gaC13 ?ggC13 ?gcC13 ?tyC13 ?kpC13 ?aI13 ?lI13 ?cI13 ?kI13 ?tI13 ?gC14 ?xC14 ?saC14 ?gaC14 ?ggC14 ?gcC14 ?tyC14 ?kpC14 ?noC14_0 ?noC14_1 ?noC14_2 ?aI14 ?lI14 ?cI14 ?kI14 ?tI14 ?aD18 ?lD18 ?cD18 ?kD18 ?aD19 ?lD19 ?cD19 ?kD19 ?aD20 ?lD20 ?cD20 ?kD20 ?aD21 ?lD21 ?cD21 ?kD21 ?aD22 ?lD22 ?cD22 ?kD22 ?aD23 ?lD23 ?cD23 ?kD23 ?aD24 ?lD24 ?cD24 ?kD24 ?aD25 ?lD25 ?cD25 ?kD25 ?aD26 ?lD26 ?cD26 ?kD26 ?aD27 ?lD27 ?cD27 ?kD27 ?aD28 ?lD28 ?cD28 ?kD28 ?aD29 ?lD29 ?cD29 ?kD29 ?z_int ?z_list ?z_len ?z_range ?z_isinstance ?z_ValueError ?hn ?ht ?nd
    (case gT => k_is)
    (case xT => k_is)
    (case saT => k_is)
    (case gaT => k_is)
    (case ggT => k_is)
    (case gcT => k_is)
    (case tyT => k_is)
    (case kpT => k_is)
    (case gC0 => k_is)
    (case xC0 => k_is)
    (case saC0 => k_is)
    (case gaC0 => k_is)
    (case ggC0 => k_is)
    (case gcC0 => k_is)
    (case tyC0 => k_is)
    (case kpC0 => k_is)
    (case noC0_0 => k_is)
    (case aI0 => k_is)
    (case lI0 => k_is)
    (case cI0 => k_is)
    (case kI0 => k_is)
    (case tI0 => k_is)
    (case gC1 => k_is)
    (case xC1 => k_is)
    (case saC1 => k_is)
    (case gaC1 => k_is)
    (case ggC1 => k_is)
    (case gcC1 => k_is)
    (case tyC1 => k_is)
    (case kpC1 => k_is)
    (case noC1_0 => k_is)
    (case aI1 => k_is)
    (case lI1 => k_is)
    (case cI1 => k_is)
    (case kI1 => k_is)
    (case tI1 => k_is)
    (case gC2 => k_is)
    (case xC2 => k_is)
    (case saC2 => k_is)
    (case gaC2 => k_is)
    (case ggC2 => k_is)
    (case gcC2 => k_is)
    (case tyC2 => k_is)
    (case kpC2 => k_is)
    (case noC2_0 => k_is)
    (case aI2 => k_is)
    (case lI2 => k_is)
    (case cI2 => k_is)
    (case kI2 => k_is)
    (case tI2 => k_is)
    (case gC3 => k_is)
    (case xC3 => k_is)
    (case saC3 => k_is)
    (case gaC3 => k_is)
    (case ggC3 => k_is)
    (case gcC3 => k_is)
    (case tyC3 => k_is)
    (case kpC3 => k_is)
    (case noC3_0 => k_is)
    (case aI3 => k_is)
    (case lI3 => k_is)
    (case cI3 => k_is)
    (case kI3 => k_is)
    (case tI3 => k_is)
    (case gC4 => k_is)
    (case xC4 => k_is)
    (case saC4 => k_is)
    (case gaC4 => k_is)
    (case ggC4 => k_is)
    (case gcC4 => k_is)
    (case tyC4 => k_is)
    (case kpC4 => k_is)
    (case noC4_0 => k_is)
    (case aI4 => k_is)
    (case lI4 => k_is)
    (case cI4 => k_is)
    (case kI4 => k_is)
    (case tI4 => k_is)
    (case gC5 => k_is)
    (case xC5 => k_is)
    (case saC5 => k_is)
    (case gaC5 => k_is)
    (case ggC5 => k_is)
    (case gcC5 => k_is)
    (case tyC5 => k_is)
    (case kpC5 => k_is)
    (case noC5_0 => k_is)
    (case aI5 => k_is)
    (case lI5 => k_is)
    (case cI5 => k_is)
    (case kI5 => k_is)
    (case tI5 => k_is)
    (case gC6 => k_is)
    (case xC6 => k_is)
    (case saC6 => k_is)
    (case gaC6 => k_is)
    (case ggC6 => k_is)
    (case gcC6 => k_is)
    (case tyC6 => k_is)
    (case kpC6 => k_is)
    (case noC6_0 => k_is)
    (case aI6 => k_is)
    (case lI6 => k_is)
    (case cI6 => k_is)
    (case kI6 => k_is)
    (case tI6 => k_is)
    (case gC7 => k_is)
    (case xC7 => k_is)
    (case saC7 => k_is)
    (case gaC7 => k_is)
    (case ggC7 => k_is)
    (case gcC7 => k_is)
    (case tyC7 => k_is)
    (case kpC7 => k_is)
    (case noC7_0 => k_is)
    (case aI7 => k_is)
    (case lI7 => k_is)
    (case cI7 => k_is)
    (case kI7 => k_is)
    (case tI7 => k_is)
    (case gC8 => k_is)
    (case xC8 => k_is)
    (case saC8 => k_is)
    (case gaC8 => k_is)
    (case ggC8 => k_is)
    (case gcC8 => k_is)
    (case tyC8 => k_is)
    (case kpC8 => k_is)
    (case noC8_0 => k_is)
    (case aI8 => k_is)
    (case lI8 => k_is)
    (case cI8 => k_is)
    (case kI8 => k_is)
    (case tI8 => k_is)
    (case gC9 => k_is)
    (case xC9 => k_is)
    (case saC9 => k_is)
    (case gaC9 => k_is)
    (case ggC9 => k_is)
    (case gcC9 => k_is)
    (case tyC9 => k_is)
    (case kpC9 => k_is)
    (case aI9 => k_is)
    (case lI9 => k_is)
    (case cI9 => k_is)
    (case kI9 => k_is)
    (case tI9 => k_is)
    (case gC10 => k_is)
    (case xC10 => k_is)
    (case saC10 => k_is)
    (case gaC10 => k_is)
    (case ggC10 => k_is)
    (case gcC10 => k_is)
    (case tyC10 => k_is)
    (case kpC10 => k_is)
    (case noC10_0 => k_is)
    (case aI10 => k_is)
    (case lI10 => k_is)
    (case cI10 => k_is)
    (case kI10 => k_is)
    (case tI10 => k_is)
    (case gC11 => k_is)
    (case xC11 => k_is)
    (case saC11 => k_is)
    (case gaC11 => k_is)
    (case ggC11 => k_is)
    (case gcC11 => k_is)
    (case tyC11 => k_is)
    (case kpC11 => k_is)
    (case noC11_0 => k_is)
    (case aI11 => k_is)
    (case lI11 => k_is)
    (case cI11 => k_is)
    (case kI11 => k_is)
    (case tI11 => k_is)
    (case gC12 => k_is)
    (case xC12 => k_is)
    (case saC12 => k_is)
    (case gaC12 => k_is)
    (case ggC12 => k_is)
    (case gcC12 => k_is)
    (case tyC12 => k_is)
    (case kpC12 => k_is)
    (case noC12_0 => k_is)
    (case aI12 => k_is)
    (case lI12 => k_is)
    (case cI12 => k_is)
    (case kI12 => k_is)
    (case tI12 => k_is)
    (case gC13 => k_is)
    (case xC13 => k_is)
    (case saC13 => k_is)
    (case gaC13 => k_is)
    (case ggC13 => k_is)
    (case gcC13 => k_is)
    (case tyC13 => k_is)
    (case kpC13 => k_is)
    (case aI13 => k_is)
    (case lI13 => k_is)
    (case cI13 => k_is)
    (case kI13 => k_is)
    (case tI13 => k_is)
    (case gC14 => k_is)
    (case xC14 => k_is)
    (case saC14 => k_is)
    (case gaC14 => k_is)
    (case ggC14 => k_is)
    (case gcC14 => k_is)
    (case tyC14 => k_is)
    (case kpC14 => k_is)
    (case noC14_0 => k_is)
    (case noC14_1 => k_is)
    (case noC14_2 => k_is)
    (case aI14 => k_is)
    (case lI14 => k_is)
    (case cI14 => k_is)
    (case kI14 => k_is)
    (case tI14 => k_is)
    (case aD18 => k_is)
    (case lD18 => k_is)
    (case cD18 => k_is)
    (case kD18 => k_is)
    (case aD19 => k_is)
    (case lD19 => k_is)
    (case cD19 => k_is)
    (case kD19 => k_is)
    (case aD20 => k_is)
    (case lD20 => k_is)
    (case cD20 => k_is)
    (case kD20 => k_is)
    (case aD21 => k_is)
    (case lD21 => k_is)
    (case cD21 => k_is)
    (case kD21 => k_is)
    (case aD22 => k_is)
    (case lD22 => k_is)
    (case cD22 => k_is)
    (case kD22 => k_is)
    (case aD23 => k_is)
    (case lD23 => k_is)
    (case cD23 => k_is)
    (case kD23 => k_is)
    (case aD24 => k_is)
    (case lD24 => k_is)
    (case cD24 => k_is)
    (case kD24 => k_is)
    (case aD25 => k_is)
    (case lD25 => k_is)
    (case cD25 => k_is)
    (case kD25 => k_is)
    (case aD26 => k_is)
    (case lD26 => k_is)
    (case cD26 => k_is)
    (case kD26 => k_is)
    (case aD27 => k_is)
    (case lD27 => k_is)
    (case cD27 => k_is)
    (case kD27 => k_is)
    (case aD28 => k_is)
    (case lD28 => k_is)
    (case cD28 => k_is)
    (case kD28 => k_is)
    (case aD29 => k_is)
    (case lD29 => k_is)
    (case cD29 => k_is)
    (case kD29 => k_is)
    (case z_int => k_is)
    (case z_list => k_is)
    (case z_len => k_is)
    (case z_range => k_is)
    (case z_isinstance => k_is)
    (case z_ValueError => k_is)
    (case hn => k_is)
    (case ht => k_is)
    (case nd => decide)
