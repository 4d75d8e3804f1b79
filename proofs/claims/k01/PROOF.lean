import PyProof.Rows.All
import Wide.All
import OpenK.AllK
import Wide.FinOn
import PyProof.EqAt
import PyProof.EqKinds
import PyProof.NeKinds
import KE.KIsAll
import KE.KExcIs
import KE.KTryMore
import HandS.ForMost
import HandS.ForExc
import HandS.ExcInit
import HandS.ExcField
import HandS.ExcIs
import HandS.HotCalls
import HandS.DeepEq
import HandS.Wide
import HandS.Style
import HandS.EndBits
import HandS.Codes
import PyProof.TypeEq
import HandS.Strs
import HandS.SortRule
import HandS.DictComp
import HandS.CallLocal
import KE.DataMinMax
import HandS.Text
import HandS.Deep
import HandS.ExcOwn
import KE.KEqNest
import KE.KEqDict
import HandS.More
import HandS.SortKw
import KE.GoesMore
import HandS.Iter
import HandS.Walk
import KE.GoesEnumKw
import PyProof.Rows.CallKwBuiltin
import HandS.Small
import HandS.Comp
import HandS.ReplaceLit
import PyProof.InstEq
import HandS.Defaults
import HandS.OwnEq
import OpenK.KOps
import OpenK.KMeth
import HandS.IsInst
import PyProof.StrOps2
import PySem.Challenge.RW_nextcode_k01_codes_made_and_refused
set_option Elab.async false
set_option linter.all false
set_option maxRecDepth 100000
set_option maxHeartbeats 4000000
/-! Own rules over the hand layer: errors with fields (made with or without fields, several clauses with names, isinstance of a caught one, also in a def that is called while it is handled), != of lists. -/
namespace Xc
open PySem PySem.Spec PyProof.Rows L2

/-! ### 1. classes of errors -/
/-- the built-in part of the line of forebears -/
abbrev tailV : List Value := [.type "ValueError", .type "Exception", .type "BaseException", .type "object"]
/-- an own class over own classes us over ValueError, at C, as the written part has it -/
structure EC (K : PySem.W.Frag) (us : List Addr) (C : Addr) : Prop where
  cls : ∃ nm q N bs sn sub ab col dd k0 k1 k2 k3 k5, K.lookup C = some (excClassObj nm q C N bs (us.map Value.ref ++ tailV) true sn sub ab col dd k0 k1 k2 k3 k5 "ValueError.__new__")
  sa : PySem.W.findIn K (.ref C) "__setattr__" = some (some (.builtin "object.__setattr__"))
  ga : PySem.W.findIn K (.ref C) "__getattribute__" = some (some (.builtin "BaseException.__getattribute__"))
  gg : PySem.W.findIn K (.ref C) "__getattr__" = some none
  gc : PySem.W.findIn K (.ref C) "__class__" = some (some (.builtin "object.__class__"))
  ty : PySem.W.typeIn K (.ref C) = some (.type "type")
  kp : PySem.W.keepIn K (.ref C) = true

section
variable {K : PySem.W.Frag} {us : List Addr} {C : Addr}
theorem refs_tail : ∀ us : List Addr, HandSPX.refsVE (us.map Value.ref ++ tailV) = true
  | [] => by decide +kernel
  | u :: r => by
    show HandSPX.refsVE (Value.ref u :: (r.map Value.ref ++ tailV)) = true
    exact refs_tail r
theorem EC.oex (T : EC K us C) : OexC K C where
  cls := by
    obtain ⟨nm, q, N, bs, sn, sub, ab, col, dd, k0, k1, k2, k3, k5, h⟩ := T.cls
    exact ⟨nm, q, N, bs, _, sn, sub, ab, col, dd, k0, k1, k2, k3, k5, h, refs_tail us⟩
  sa := T.sa
  exC := by
    obtain ⟨nm, q, N, bs, sn, sub, ab, col, dd, k0, k1, k2, k3, k5, h⟩ := T.cls
    show PySem.W.mroIn K C _ = _
    unfold PySem.W.mroIn PySem.W.clsIn
    rw [h]
    simp [tailV]
  tyC := T.ty
  kC := T.kp
theorem EC.sub (T : EC K us C) (v : Value) : PySem.W.subIn K (.ref C) v = some ((Value.ref C :: (us.map Value.ref ++ tailV)).contains v) := by
  obtain ⟨nm, q, N, bs, sn, sub, ab, col, dd, k0, k1, k2, k3, k5, h⟩ := T.cls
  show PySem.W.mroIn K C _ = _
  unfold PySem.W.mroIn PySem.W.clsIn
  rw [h]
  rfl
theorem EC.hd (T : EC K us C) : PySem.W.hasDictIn K C = true := by
  obtain ⟨nm, q, N, bs, sn, sub, ab, col, dd, k0, k1, k2, k3, k5, h⟩ := T.cls
  unfold PySem.W.hasDictIn PySem.W.clsIn
  rw [h] <;> rfl
theorem EC.isC (T : EC K us C) : (PySem.W.clsIn K C).isSome = true := by
  obtain ⟨nm, q, N, bs, sn, sub, ab, col, dd, k0, k1, k2, k3, k5, h⟩ := T.cls
  unfold PySem.W.clsIn
  rw [h] <;> rfl
theorem EC.base (T : EC K us C) : PySem.W.subIn K (.ref C) (.type "BaseException") = some true := T.oex.exC
theorem EC.obj (T : EC K us C) : PySem.W.mroIn K C (.type "object") = some true := by
  have e := T.sub (.type "object")
  have e2 : (Value.ref C :: (us.map Value.ref ++ tailV)).contains (.type "object") = true := by simp [tailV]
  rw [e2] at e
  exact e
/-- what an except clause with the own class D says of an error of the class C -/
theorem EC.exm {vs : List Addr} {D : Addr} (T : EC K us C) (S : EC K vs D) : PySem.W.exmOne K (.ref C) (.ref D) = some (decide (D = C) || decide (D ∈ us)) := by
  have e := PySem.W.exm_ref (b := decide (D = C) || decide (D ∈ us)) S.base S.hd S.ty ?_ (cls := .ref C)
  · exact e
  · rw [T.sub]
    congr 1
    by_cases h : D = C
    · subst h
      simp
    · have h2 : ¬ (Value.ref D == Value.ref C) = true := by simpa using h
      simp [h, tailV, List.contains_iff_mem]
/-- isinstance of an error of the class C with an own class D -/
theorem EC.kit {vs : List Addr} {D : Addr} (T : EC K us C) (S : EC K vs D) : PySem.W.kitOne K (.ref C) (.ref D) = some (decide (D = C) || decide (D ∈ us)) := by
  unfold PySem.W.kitOne
  by_cases h : D = C
  · subst h
    simp
  · have h1 : ¬ (Value.ref C == Value.ref D) = true := by simpa using fun e => h e.symm
    rw [if_neg h1]
    unfold PySem.W.kitCls
    have z : ((PySem.W.clsIn K D).isSome && PySem.W.typeIn K (.ref D) == some (.type "type")) = true := by rw [S.isC, S.ty] <;> rfl
    show (if ((PySem.W.clsIn K D).isSome && PySem.W.typeIn K (.ref D) == some (.type "type")) = true then PySem.W.subIn K (.ref C) (.ref D) else none) = _
    rw [if_pos z, T.sub]
    simp [h, tailV, List.contains_iff_mem]
theorem EC.kitV (T : EC K us C) : PySem.W.kitOne K (.ref C) (.type "ValueError") = some true := by
  unfold PySem.W.kitOne
  rw [if_neg (by simp)]
  unfold PySem.W.kitCls
  show (if PySem.W.kitMeta "ValueError" = true then PySem.W.subIn K (.ref C) (.type "ValueError") else none) = _
  rw [if_pos (by decide +kernel), T.sub]
  simp [tailV]
end
/-! ### 2. isinstance of an error that is handled (pinned at a), with or without a dict of its own -/
/-- its own dict stands, if it has one -/
def HasD (H : Hp) : Option Addr → Prop
  | none => True
  | some dd => ∃ fs, H dd = some (.xd fs)
def rIsX (K : PySem.W.Frag) (a : Addr) (cls : Value) (d : Option Addr) : List V → Hp → VK → Prop := fun xs H Q => ∃ (us : List Addr) (D : Addr) (c : V) (cv : Value) (b : Bool), xs = [.ref a, c] ∧ cls = .ref D ∧ EC K us D ∧ HasD H d ∧ (∀ u, RelV c u → u = cv) ∧
  PySem.W.kitOne K (.ref D) cv = some b ∧ Q (.bl b) H
theorem call_isX {X : Cx} {a : Addr} {oe : Obj} {cls : Value} {d : Option Addr} (hn : PySem.W.specialIn X.K (.builtin "object.__class__") "__get__" = some (some (.builtin "getset_descriptor.__get__"))) (ht : PySem.W.takesIn X.K (.builtin "object.__class__") = some true)
    (hp : (a, oe) ∈ X.pn) (hz : Zc cls d oe) (hf : ∃ vs, oe.data = .fields vs) : CallR X (.builtin "isinstance") (rIsX X.K a cls d) := by
  intro pins s σ H xs ws Q I r h
  obtain ⟨us, D, c, cv, b, rfl, rfl, T, hd, hcv, e, q⟩ := h
  obtain ⟨u, u', rfl, r1, r2⟩ := vals2 r
  cases r1
  obtain rfl := hcv _ r2
  obtain ⟨hget, _⟩ := I.pin (a, oe) (List.mem_append.mpr (.inl hp))
  obtain ⟨vs, hv⟩ := hf
  have hno : PySem.W.notCls oe = true := by unfold PySem.W.notCls; rw [hv] <;> rfl
  have J : ∃ od, PySem.W.InstAt s.heap a oe D od := by
    cases d with
    | none => exact ⟨none, hget, hz.1, hno, by rw [hz.2]; trivial⟩
    | some dd =>
      obtain ⟨fs, hfs⟩ := hd
      obtain ⟨mA, ⟨o, es, ep, ho, _⟩, _⟩ := (show ObjOk X.prog X.w H s.heap dd (.xd fs) from I.hok dd _ hfs)
      exact ⟨some o, hget, hz.1, hno, by rw [hz.2]; exact ho⟩
  obtain ⟨od, J⟩ := J
  exact PySem.W.kia_one (PySem.W.kitx_exc (od := od) T.isC T.ga T.gg T.base T.gc hn ht T.obj) I.kIn J e (fun z => nomatch z) fun tk => ⟨.bl b, H, I.kept (t' := tk) fun _ _ z => z, rfl, q⟩

/-! ### 3. a def that is called while p is handled, and neither raises nor walks -/
structure FnQ (P : Program) (w : World) (K : PySem.W.Frag) (mg : Str → Option Value) (base : Heap) (k : Nat) (f : Addr) (fd : FuncData) (ps : List Str) (p : Addr × Obj) (sp : Sp) : Prop where
  len : ∀ vs H Q E, sp vs H Q E → vs.length = ps.length
  run : ∀ (A : Around) (outer : List Env) (s : Shared) (H : Hp) (args : Args) (us : List Value) (vs : List V) (Q : VK), L2H.RoomH k A → L2H.PinOk outer H s p → Env0 P w K mg base A outer s H → BindsTo s fd args (ps.zip us) → Vals vs us → sp vs H Q E0 →
    codeAny (model P w) A (.call (.ref f) args) (CR CX0 outer P w H s Q E0) s
theorem fn_ofQ {P : Program} {w : World} {K : PySem.W.Frag} {mg : Str → Option Value} {base : Heap} {k : Nat} {f : Addr} {x qual : Str} {st : Stmt} {fd : FuncData} {N ps : List Str} {p : Addr × Obj} {sp : Sp} (F : Fun K x qual st f fd) (S : FnScope N ps (defScope st))
    (len : ∀ vs H Q E, sp vs H Q E → vs.length = ps.length)
    (body : ∀ (cdv : Value) (A : Around) (outer : List Env) (s : Shared) (H : Hp) (vs : List V) (Q : VK), L2H.RoomH k (A.deeper (envOfC qual (defScope st) s.heap.objs.size f cdv)) → sp vs H Q E0 →
      ∃ t, PSs (L2H.cxH CX0 P w K mg base N qual (defScope st) f cdv A outer s H E0 p) (defBody st) t ∧ t { nx := fun _ H' => Q .non H', rt := Q } (L2.start N vs) H) :
    FnQ P w K mg base (k + 1) f fd ps p sp := by
  obtain ⟨oc, od, kV, doc, pm, an, cdv, ct, osl, rfl, lk, hcd⟩ := F.ex
  refine ⟨len, fun A outer s H args us vs Q hr hpin e0 hb r hsp => ?_⟩
  have kx : K.In s.heap := e0.mod.kin.keeps fun b o e => (e0.bs b o e).1
  have lim : s.heap.NoLimit := e0.mod.nolimit.keeps fun b o e => (e0.bs b o e).1
  have kinds : ∀ y ∈ ps.zip us, (defScope st).names.lookup y.1 = some .local ∨ ((defScope st).names.lookup y.1 = some .cell ∧ ((cellsFrom (s.heap.objs.size + 1) (defScope st).names []).lookup y.1).isSome = true) := by
    rintro ⟨n, v⟩ hy
    rcases S.par n (List.of_mem_zip hy).1 with q | q
    · exact .inl q
    · exact .inr ⟨q, PySem.W.cellsFrom_some _ _ _ (.inl q)⟩
  refine codeAny_call_function hr.depth (kx _ _ lk) rfl S.co S.gen rfl (PySem.W.codeRec_of kx hcd) (hb _ _ _ _ ?_)
  refine wpAny_newFunctionEnv_cells S.kind kinds fun env he s1 y => ?_
  subst he
  refine ⟨lim.keeps y.toInCall.keep, codeAny_func ?_⟩
  obtain ⟨t, ht, hq⟩ := body cdv A outer s H vs Q (hr.deeper _) hsp
  refine wpAny_mono (ht.run [] s1 _ H _ (L2H.inv_startH S hpin e0 (len _ _ _ _ hsp) r y) hq) (fun fl s' hs => ?_) fun _ _ hs => hs
  cases fl with
  | ret u =>
    obtain ⟨v, σ', H', J, rv, q⟩ := hs
    exact ⟨v, H', J.os, J.bare, J.base, J.hok, rv, q⟩
  | next =>
    obtain ⟨σ', H', J, q⟩ := hs
    exact ⟨.non, H', J.os, J.bare, J.base, J.hok, rfl, q⟩
  | brk =>
    obtain ⟨_, _, _, q⟩ := hs
    exact q.elim
  | cont =>
    obtain ⟨_, _, _, q⟩ := hs
    exact q.elim
/-- f(e, ..) within the suite that handles p -/
theorem pe_callQ {X : Cx} {k : Nat} {f : Addr} {fd : FuncData} {ps : List Str} {sp : Sp} {x : Str} {q pos : Pos} {e : Expr} {es : List Expr} {t : TA} {p : Addr × Obj} (F : FnQ X.prog X.w X.K X.mg X.base k f fd ps p sp) (hr : L2H.RoomH k X.A) (hp : p ∈ X.pn)
    (hg : Gl X x) (hm : X.mg x = some (.ref f)) (hk : PySem.W.keepIn X.K (.ref f) = true) (hb : Binds X.K fd ps []) (ha : PA X (e :: es) t)
    (hdb : (x == ("__debug__" : Str)) = false := by decide) (he : starEach (e :: es) X.env = (false, eval e X.env) :: starEach es X.env := by rfl) (hpl : (backTo pos (starEach es X.env)).any (·.1) = false := by rfl) :
    PE X (.Call (.Name x q) (e :: es) [] pos) (tCall sp [] E0 t) := by
  refine ⟨fun pins s σ H Q I h => ?_⟩
  refine wpAny_Call_Name_kw (ld_glob I hg hm ?_ hdb)
  refine PySem.W.callWith_K (h₀ := X.base) I.ok.mod.kin hk (thn (ha.run pos pins s σ H _ I h) fun us s1 ⟨vs, H1, I1, r, q1⟩ => ⟨I1.kIn, ?_⟩) he hpl
  have q1 : sp vs H1 Q E0 := by
    have z : sp (vs ++ []) H1 Q E0 := q1
    rwa [List.append_nil] at z
  show wpAny _ _ (call (.ref f) us) _ _ _
  have hl : (us ++ []).length = ps.length := by rw [List.append_nil, ← r.length]; exact F.len _ _ _ _ q1
  have b := hb s1 us I1.kIn hl
  rw [List.append_nil] at b
  have pk := I1.pin p (List.mem_append_left _ hp)
  have pin : L2H.PinOk X.stack H1 s1 p := ⟨pk.1, pk.2.1, fun hm => (List.mem_cons.mp (I1.stkSub p.1 hm)).elim pk.2.2.1 pk.2.2.2.1, pk.2.2.2.2⟩
  refine wpAny_call (codeAny_mono (F.run X.A X.stack s1 H1 ⟨us, []⟩ us vs Q hr pin I1.env0 b r q1) fun z s' hq => ?_)
  cases z with
  | error _ => exact hq.elim
  | ok fl =>
    cases fl with
    | ret u => exact I1.after hq
    | next => exact hq.elim
    | brk => exact hq.elim
    | cont => exact hq.elim
/-! ### 4. several clauses, each with a name or without -/
/-- one clause: the class that it names, the slot of its name, its suite -/
abbrev Cl := Value × Option Nat × (Addr → Value → Option Addr → TS)
/-- the ends of a suite whose name stands in slot i: it is empty behind the suite -/
def Wiped (i : Nat) (D : Ends) : Ends := { nx := fun σ H => D.nx (σ.set i none) H, rt := D.rt, bk := fun σ H => D.bk (σ.set i none) H, ct := fun σ H => D.ct (σ.set i none) H }
def suiteW (D : Ends) (cls : Value) (d : Option Addr) (σ : L2.St) (H : Hp) (a : Addr) : Option Nat → (Addr → Value → Option Addr → TS) → Prop
  | none, ts => ts a cls d D σ H
  | some i, ts => ts a cls d (Wiped i D) (σ.set i (some (.ref a))) H
def wCl (K : PySem.W.Frag) (out : WX) (D : Ends) : List Cl → WX
  | [] => out
  | (c, n, ts) :: r => fun cls d σ H => ∃ b, PySem.W.exmOne K cls c = some b ∧ (b = true → ∀ a, H a = none → suiteW D cls d σ H a n ts) ∧ (b = false → wCl K out D r cls d σ H)
def SuiteOk (X : Cx) (body : List Stmt) (ts : Addr → Value → Option Addr → TS) : Prop := ∀ (a : Addr) (oe : Obj) (cls : Value) (d : Option Addr) (pn : List (Addr × Obj)), Zc cls d oe → (∃ vs, oe.data = .fields vs) → PSs (X.suite a ((a, oe) :: pn)) body (ts a cls d)
inductive Clauses (X : Cx) : List ExceptHandler → List Cl → Prop
  | nil : Clauses X [] []
  | bare {x : Str} {c : Value} {ts : Addr → Value → Option Addr → TS} {b₀ : Stmt} {suite : List Stmt} {np pos : Pos} {hs : List ExceptHandler} {l : List Cl} (hc : Names X x c) (hsu : SuiteOk X (b₀ :: suite) ts) (r : Clauses X hs l) :
      Clauses X (.ExceptHandler (some (.Name x np)) none (b₀ :: suite) pos :: hs) ((c, none, ts) :: l)
  | named {x n : Str} {i : Nat} {c : Value} {ts : Addr → Value → Option Addr → TS} {b₀ : Stmt} {suite : List Stmt} {np pos : Pos} {hs : List ExceptHandler} {l : List Cl} (hc : Names X x c) (hi : X.N[i]? = some n) (hl : X.env.kindOf n = some .local) (hsu : SuiteOk X (b₀ :: suite) ts)
      (r : Clauses X hs l) : Clauses X (.ExceptHandler (some (.Name x np)) (some n) (b₀ :: suite) pos :: hs) ((c, some i, ts) :: l)
section
variable {X : Cx} {body : List Stmt} {h₀ : ExceptHandler} {hds : List ExceptHandler} {l : List Cl} {pos : Pos} {tb : WX → TS} {out : WX}
/-- an exception that has landed here goes through the clauses -/
theorem clauses_run {pins : List (Addr × Obj)} {σ : L2.St} {H : Hp} {D : Ends} {a : Addr} {B : Heap} {sI s1 : Shared} {cls : Value} {d : Option Addr} {h3 : Heap} (hs : X.stack = X.env :: X.outer) (hf : X.env.frame = some X.env.locals) (hN : X.N.Nodup) (tk : Takes X out)
    (J : Inv X pins σ H sI) (nb : ∀ b o, sI.heap.get? b = some o → b ∉ frs X.stack → B.get? b = some o) (up : sI.heap.UpToSlots h3) (na : H a = none) (os : s1.os = sI.os) (ag : AllBare s1.gens)
    (fl : HandSPX.FlyingZ B (X.env :: X.outer) a (Zc cls d) h3) : ∀ {hds : List ExceptHandler} {l : List Cl}, Clauses X hds l → wCl X.K out D l cls d σ H →
      wpAny (model X.prog X.w) X.A (handleBy (.ref a) X.env hds) (SP X pins D) X.xe { s1 with heap := h3 } := by
  have ok := J.ok
  -- a stands apart from the frames
  have apart : ∀ {h : Heap}, HandSPX.FlyingZ B (X.env :: X.outer) a (Zc cls d) h → a ∉ frs (X.env :: X.outer) := by
    intro h f hm
    obtain ⟨oe, vs, he, _, hd⟩ := f.there
    obtain ⟨_, o', e', hnf⟩ := f.2.2.1.mem hm
    rw [he] at e'
    cases e'
    exact hnf _ hd
  have nL : a ≠ X.env.locals := fun z => apart fl (List.mem_filterMap.mpr ⟨X.env, List.mem_cons_self, by rw [hf, z]⟩)
  have nF : a ∉ X.fs := fun hm => by
    obtain ⟨e, he, q⟩ := List.mem_filterMap.mp hm
    exact apart fl (List.mem_filterMap.mpr ⟨e, List.mem_cons_of_mem _ he, q⟩)
  -- the state of a suite, at any landing
  have landed : ∀ {h : Heap}, HandSPX.FlyingZ B (X.env :: X.outer) a (Zc cls d) h → sI.heap.UpToSlots h → ∃ oe, Zc cls d oe ∧ (∃ vs, oe.data = .fields vs) ∧ h.get? a = some oe ∧ Inv (X.suite a ((a, oe) :: (X.pn ++ pins))) [] σ H { s1 with heap := h } := by
    intro h f u
    obtain ⟨oe, vs, he, hz, hd⟩ := f.there
    have Jh : Inv X pins σ H { s1 with heap := h } := J.landed nb f.1 u os ag
    exact ⟨oe, hz, ⟨vs, hd⟩, he, Jh.suite he hd na nL nF⟩
  obtain ⟨oe3, hz3, hd3, he3, S3⟩ := landed fl up
  have J3 : Inv X pins σ H { s1 with heap := h3 } := J.landed nb fl.1 up os ag
  have look : PySem.W.Looks (model X.prog X.w) h3 (typeOf (.ref a)) cls := fun A Q E s k q => wpAny_typeOf_ref (k _ _ he3) (by rw [hz3.1]; exact q)
  have name : ∀ {x : Str} {c : Value} {np : Pos} {Q : Value → Shared → Prop} {E : Value → Shared → Prop}, Names X x c → Q c { s1 with heap := h3 } → wpAny (model X.prog X.w) (X.A.mark (some (.ref a))) (eval (.Name x np) X.env) Q E { s1 with heap := h3 } := by
    rintro x c np Q E ⟨hg, hdbg, hm | ⟨hm, hv, hnn⟩⟩ q
    · exact ld_glob (X := X.suite a ((a, oe3) :: (X.pn ++ pins))) S3 hg hm q hdbg
    · exact ld_blt (X := X.suite a ((a, oe3) :: (X.pn ++ pins))) S3 hg hm hv q hnn hdbg
  intro hds l hk
  induction hk with
  | nil =>
    intro w
    refine wpAny_handleBy_nil ?_
    obtain ⟨k1, k2, k3, oe, vs, T, oT, ts', he, hz, hd, h1, hr⟩ := id fl
    unfold PySem.passOn
    refine wpAny_bind (wpAny_field he hd h1 ?_)
    rw [if_neg (show ¬ ((Value.ref T == Value.none) = true) from by simp)]
    have onward : wpAny (model X.prog X.w) X.A (setFlight (.ref a) X.env.frame) (fun _ s4 => wpAny (model X.prog X.w) X.A (throw (.ref a) : Sem Flow) (SP X pins D) X.xe s4) X.xe { s1 with heap := h3 } := by
      rw [hf]
      exact HandSPX.setFlight_upZ fl fun h4 hh4 up4 => wpAny_throw (tk _ _ ⟨a, B, sI, pins, σ, H, cls, d, rfl, J, nb, up.trans up4, .inr (.inr (by rw [hs]; exact hh4)), na, os, ag, w⟩)
    first
      | exact wpAny_bind (wpAny_pure (wpAny_bind onward))
      | exact wpAny_bind onward
  | @bare x c ts b₀ suite np pos' hs' l' hc hsu r ih =>
    rintro ⟨b, hb, hyes, hno⟩
    refine wpAny_handleBy_cons (codeAny_handlers_test ?_) (by intro q; cases q)
    refine name hc ((PySem.W.exm_one (M := model X.prog X.w) J3.kIn look hb).here ?_)
    cases b with
    | false => exact ih (hno rfl)
    | true =>
      refine codeAny_handlers_suite (HandSPX.lands_againZ fl fun h4 fl4 up4 => ?_)
      obtain ⟨oe4, hz4, hd4, _, S4⟩ := landed fl4 (up.trans up4)
      have q : ts a cls d D σ H := hyes rfl a na
      refine wpAny_mono ((hsu a oe4 cls d (X.pn ++ pins) hz4 hd4).run [] _ σ H D S4 q) (fun f s6 z => ?_) (fun _ _ z => False.elim z)
      cases f with
      | next => obtain ⟨σ6, H6, S6, q6⟩ := z; exact ⟨_, _, S6.unsuite ok, q6⟩
      | brk => obtain ⟨σ6, H6, S6, q6⟩ := z; exact ⟨_, _, S6.unsuite ok, q6⟩
      | cont => obtain ⟨σ6, H6, S6, q6⟩ := z; exact ⟨_, _, S6.unsuite ok, q6⟩
      | ret u => obtain ⟨v6, σ6, H6, S6, r6, q6⟩ := z; exact ⟨_, _, _, S6.unsuite ok, r6, q6⟩
  | @named x n i c ts b₀ suite np pos' hs' l' hc hi hl hsu r ih =>
    rintro ⟨b, hb, hyes, hno⟩
    refine wpAny_handleBy_cons (codeAny_handlers_test ?_) (by intro q; cases q)
    refine name hc ((PySem.W.exm_one (M := model X.prog X.w) J3.kIn look hb).here ?_)
    cases b with
    | false => exact ih (hno rfl)
    | true =>
      refine codeAny_handlers_suite_as (HandSPX.lands_againZ fl fun h4 fl4 up4 => ?_)
      obtain ⟨oe4, hz4, hd4, _, S4⟩ := landed fl4 (up.trans up4)
      have q : ts a cls d (Wiped i D) (σ.set i (some (.ref a))) H := hyes rfl a na
      refine store_ok (X := X.suite a ((a, oe4) :: (X.pn ++ pins))) (v := .ref a) S4 hN hi (.inl hl) rfl (fun s5 S5 => ?_) (.inr hl)
      refine wpAny_mono ((hsu a oe4 cls d (X.pn ++ pins) hz4 hd4).run [] s5 _ H (Wiped i D) S5 q) (fun f s6 z => ?_) (fun _ _ z => False.elim z)
      have away : ∀ {σ6 : L2.St} {H6 : Hp} {R : Shared → Prop}, Inv (X.suite a ((a, oe4) :: (X.pn ++ pins))) [] σ6 H6 s6 → (∀ s7, Inv X pins (σ6.set i none) H6 s7 → R s7) →
          wpAny (model X.prog X.w) X.A (do bindName X.env n .none; unbindBehindTheSuite X.env n pos') (fun _ s7 => R s7) X.xe s6 := fun S6 hq => gone_ok (S6.unsuite ok) hN hi hl hq
      cases f with
      | next => obtain ⟨σ6, H6, S6, q6⟩ := z; exact away S6 fun s7 J7 => ⟨_, _, J7, q6⟩
      | brk => obtain ⟨σ6, H6, S6, q6⟩ := z; exact away S6 fun s7 J7 => ⟨_, _, J7, q6⟩
      | cont => obtain ⟨σ6, H6, S6, q6⟩ := z; exact away S6 fun s7 J7 => ⟨_, _, J7, q6⟩
      | ret u => obtain ⟨v6, σ6, H6, S6, r6, q6⟩ := z; exact away S6 fun s7 J7 => ⟨_, _, _, J7, r6, q6⟩
theorem ps_try_cl (hs : X.stack = X.env :: X.outer) (hf : X.env.frame = some X.env.locals) (hN : X.N.Nodup) (tk : Takes X out)
    (hb : ∀ (W : WX) (pn : List (Addr × Obj)) (xe : Value → Shared → Prop), Takes (X.tr pn xe) W → PassesOwn (model X.prog X.w) X.A X.env xe → PSs (X.tr pn xe) body (tb W))
    (hh : Clauses X (h₀ :: hds) l) : PS X (.Try body (h₀ :: hds) [] [] pos) (fun D σ H => tb (wCl X.K out D l) D σ H) := by
  refine ⟨fun pins s σ H D I h => ?_⟩
  have ok := I.ok
  have hfr : X.A.frames = some (X.env :: X.outer) := by rw [ok.frames, hs]
  let xe : Value → Shared → Prop := fun e s₁ => wpAny (model X.prog X.w) X.A (noteFrame e X.env) (fun _ s₂ => wpAny (model X.prog X.w) X.A (setFlight e none) (fun _ s₃ => wpAny (model X.prog X.w) X.A (handleBy e X.env (h₀ :: hds)) (SP X pins D) X.xe s₃) X.xe s₂) X.xe s₁
  have takes : Takes (X.tr (X.pn ++ pins) xe) (wCl X.K out D l) := by
    rintro u s' ⟨a, B, sI, pins', σ', H', cls, d, rfl, J', nb, up, sky, na, os, ag, w⟩
    have J : Inv X pins σ' H' sI := J'.ofTry ok
    have sky' : Sky B (X.env :: X.outer) a (Zc cls d) X.env.locals s'.heap := by rw [← hs]; exact sky
    show wpAny _ X.A (noteFrame (.ref a) X.env) _ _ _
    exact Sky.land Zc.steady hfr hf sky' fun h3 fl3 up3 => clauses_run hs hf hN tk J nb (up.trans up3) na os ag fl3 hh w
  refine wpAny_Try_except (wpAny_mono ((hb _ (X.pn ++ pins) xe takes PassesOwn.looking).run [] s σ H D (I.toTry _) h) (fun f s1 hsp => ?_) fun e s1 he => he)
  cases f with
  | next => obtain ⟨σ', H', J', q⟩ := hsp; exact wpAny_execs_nil ⟨σ', H', J'.ofTry ok, q⟩
  | brk => obtain ⟨σ', H', J', q⟩ := hsp; exact ⟨σ', H', J'.ofTry ok, q⟩
  | cont => obtain ⟨σ', H', J', q⟩ := hsp; exact ⟨σ', H', J'.ofTry ok, q⟩
  | ret u => obtain ⟨v, σ', H', J', r, q⟩ := hsp; exact ⟨v, σ', H', J'.ofTry ok, r, q⟩
end
/-! ### 5. == and != of two lists of the same items, whatever these are -/
def Flat (v : V) : Prop := flatB v = true ∨ ∃ c, v = .ref c
theorem items_same {A : Around} {s : Shared} : ∀ {xs : List V} {us ws : List Value}, (∀ v ∈ xs, Flat v) → Vals xs us → Vals xs ws → ∀ j (h1 : j < us.length) (h2 : j < ws.length), SeqAt.EqAt A s us[j] ws[j] true
  | [], _, _, _, .nil, .nil, j, h1, _ => absurd h1 (Nat.not_lt_zero j)
  | x :: xs, _, _, hf, .cons r1 t1, .cons r2 t2, j, h1, h2 => by
    cases j with
    | succ j => exact items_same (fun v hv => hf v (List.mem_cons_of_mem _ hv)) t1 t2 j (Nat.lt_of_succ_lt_succ h1) (Nat.lt_of_succ_lt_succ h2)
    | zero =>
      rcases hf x List.mem_cons_self with f | ⟨c, rfl⟩
      · exact eqAt_same r1 r2 f
      · cases r1
        cases r2
        exact SeqAt.EqAt.same _
def rNeS (K : PySem.W.Frag) : R2 := fun x y H Q => ∃ a b xs, x = .ref a ∧ y = .ref b ∧ SqL K H a xs ∧ SqL K H b xs ∧ (∀ v ∈ xs, Flat v) ∧ Q (.bl false) H
theorem op_neS {X : Cx} (hu : X.A.units + 64 < cLine) : OpR X (compareOp .NotEq) (rNeS X.K) := by
  intro pins s σ H x y v u Q I rx ry h
  obtain ⟨a, b, xs, rfl, rfl, ha, hb, hf, q⟩ := h
  cases rx
  cases ry
  obtain ⟨us, r1, p1, _⟩ := I.list ha
  obtain ⟨ws, r2, p2, _⟩ := I.list hb
  have hsz : us.toArray.size = ws.toArray.size := by rw [List.size_toArray, List.size_toArray, ← r1.length, ← r2.length]
  refine SeqAt.RcNeAt.lists (e := fun _ => true) p1.isList p2.isList hsz (show X.A.units < cLine by omega) (fun j h1 h2 => ?_) _ _ _ _ ?_
  · have k := items_same (A := X.A.in1) (s := s) hf r1 r2 j (by simpa using h1) (by simpa using h2)
    simpa using k
  · rw [show ((List.range us.toArray.size).all fun _ => true) = true from List.all_eq_true.mpr fun _ _ => rfl]
    exact ⟨.bl false, H, I, rfl, q⟩
/-! ### 6. C(): an own error whose __init__ stores nothing -/
section
variable {X : Cx} {p pos : Pos}
theorem made_bare {pins : List (Addr × Obj)} {σ : L2.St} {H1 : Hp} {Q : XK} {hp hp2 h2 : Heap} {g1 g2 : Array GenState} {d1 d2 : Drawn} {t1 t2 : Nat} {os1 os2 : OsState} {a C : Addr} (T : Raises X (.ref C)) (I1 : Inv X pins σ H1 ⟨hp, g1, d1, t1, os1⟩) (ha : hp.objs.size ≤ a)
    (k : ∀ b o, hp.get? b = some o → hp2.get? b = some o) (un : Un (frs X.stack) [] (upd H1 a (exo a C none)) (upd H1 a (exo a C none)) hp2 h2) (hok : HOk X.prog X.w (upd H1 a (exo a C none)) h2) (ho : os2 = os1) (hb : AllBare g2) (q : Q (.ref C) none H1) :
    MkP X pins σ Q (.ref a) ⟨h2, g2, d2, t2, os2⟩ := by
  have na : H1 a = none := I1.hok.fresh ha
  have ea : upd H1 a (exo a C none) a = some (exo a C none) := upd_same
  obtain ⟨t0, hoe⟩ := exo_at hok ea
  obtain ⟨G, gin, gout⟩ := restrict h2 fun b => decide (b ≠ a)
  have same : ∀ b, b ≠ a → G.get? b = h2.get? b := fun b hb => gin b (decide_eq_true hb)
  have gone : G.get? a = none := gout a (by simp)
  have old : ∀ {b : Addr} {o : Obj}, hp.get? b = some o → b ≠ a := fun z => Nat.ne_of_lt (Nat.lt_of_lt_of_le (Heap.lt_size z) ha)
  have untracked : ∀ {b : Addr}, b ≠ a → H1 b = none → upd H1 a (exo a C none) b = none := fun hb n => by rw [upd_ne hb]; exact n
  have U : Un (frs X.stack) [] H1 H1 hp G := {
    keep := fun b o z n hf hx => by rw [same b (old z)]; exact un.keep b o (k b o z) (untracked (old z) n) hf hx
    slot := fun b o z n hf hx => by rw [same b (old z)]; exact un.slot b o (k b o z) (untracked (old z) n) hf hx
    free := fun b o z n hx => n
    there := fun b o z hx => by rw [same b (old z)]; exact un.there b o (k b o z) hx
    tups := fun b xs z => z
    frzs := fun b o v z => z
    tbls := fun b ps z => ⟨#[], by rw [z]; simp⟩ }
  have hokG : HOk X.prog X.w H1 G := fun b o z => by
    have hba : b ≠ a := ne_of_none z na
    have own : ∀ {c y : Addr}, H1 c = some (.own y) → c ≠ a := fun hc => ne_of_none hc na
    refine (hok b o (by rw [upd_ne hba]; exact z)).stay (fun c v hc y => ?_) (fun c hc => ?_) (fun c xs hc => ?_)
    · have hca : c ≠ a := by
        rcases hc with hc | hc
        · rw [hc]; exact hba
        · exact at_ne ea hc exo_own
      rw [same c hca]
      exact y
    · rwa [upd_ne (at_ne ea hc exo_own)] at hc
    · rwa [upd_ne (at_ne ea hc exo_tup)] at hc
  have J : Inv X pins σ H1 ⟨G, g2, d2, t2, os2⟩ := I1.call' (ch := []) ho U hokG hb (fun b z => absurd z (by simp))
  refine ⟨a, _, _, ⟨G, g2, d2, t2, os2⟩, H1, .ref C, none, rfl, J, fun b o z => ?_, gone, hoe, ⟨rfl, rfl⟩, rfl, rfl, na, rfl, hb, T, q⟩
  by_cases hba : b = a
  · rw [hba, gone] at z
    cases z
  · exact (same b hba).symm.trans z
/-- C()'s reading: __init__ is asked at the new error, and leaves all as it was -/
def tMk0 (C : Addr) (sp : Sp) : L2.St → Hp → XK → Prop := fun _ H Q => ∀ a, H a = none → sp [.ref a] (upd H a (exo a C none)) (fun v H2 => v = .non ∧ H2 = upd H a (exo a C none) ∧ Q (.ref C) none H) (fun _ _ _ => False)
theorem pmk_bare {CX : CXT} {x : Str} {C fI : Addr} {k : Nat} {fd : FuncData} {ps : List Str} {sp : Sp} (T : OexC X.K C) (iC : PySem.W.findIn X.K (.ref C) "__init__" = some (some (.ref fI))) (tI : PySem.W.typeIn X.K (.ref fI) = some (.type "function"))
    (F1 : FnOk X.prog X.w X.K X.mg X.base CX k fI fd ps sp) (hr : Room (k + 1) X.A) (hb : Binds X.K fd ps []) (hx : Passes CX X (fun _ _ _ => False)) (hg : Gl X x) (hm : X.mg x = some (.ref C)) (hdb : (x == ("__debug__" : Str)) = false := by decide) :
    PMk X (.Call (.Name x p) [] [] pos) (tMk0 C sp) := by
  intro pins s σ H Q I h
  obtain ⟨nm, q, N, bs, bm, sn, sub, ab, col, dd, k0, k1, k2, k3, k5, hC, hbm⟩ := T.cls
  refine wpAny_Call_Name_kw (ld_glob I hg hm ?_ hdb)
  refine PySem.W.callWith_K0 I.kIn T.kC ?_
  obtain ⟨hp, g, dr, tk, os⟩ := s
  have hsz : hp.objs.size ≤ hp.objs.size + 1 := Nat.le_succ _
  have hn : H (hp.objs.size + 1) = none := I.hok.fresh hsz
  have hq := h (hp.objs.size + 1) hn
  have kk : ∀ b o, hp.get? b = some o → ((hp.push (PySem.W.kdv_tup [])).push (PySem.HandSPX.excO C hp.objs.size)).get? b = some o := fun b o e => Heap.get?_push_of_some _ (Heap.get?_push_of_some _ e)
  have hget : ((hp.push (PySem.W.kdv_tup [])).push (PySem.HandSPX.excO C hp.objs.size)).get? (hp.objs.size + 1) = some (PySem.HandSPX.excO C hp.objs.size) := by heap_get
  have I2 : Inv X pins σ (upd H (hp.objs.size + 1) (exo (hp.objs.size + 1) C none)) ⟨(hp.push (PySem.W.kdv_tup [])).push (PySem.HandSPX.excO C hp.objs.size), g, dr, tk, os⟩ :=
    I.laid (t' := tk) (a := hp.objs.size + 1) (o := exo (hp.objs.size + 1) C none) (h' := (hp.push (PySem.W.kdv_tup [])).push (PySem.HandSPX.excO C hp.objs.size)) kk hsz (exo_ok hget)
  have r2 : Vals [V.ref (hp.objs.size + 1)] [Value.ref (hp.objs.size + 1)] := .cons rfl .nil
  have hl : ([Value.ref (hp.objs.size + 1)] ++ []).length = ps.length := (F1.len _ _ _ _ hq)
  refine wpAny_call (PySem.HandSPX.call_own F.excBase_ValueError (fun Y => PySem.HandSPX.refsVE_contains Y bm hbm) (I.kIn _ _ hC) (PySem.W.looks_findIn I.kIn iC) (fun self => PySem.W.bind_fn I.kIn self tI) (Nat.zero_le _)
    (codeAny_mono (F1.run _ X.stack _ _ ⟨[Value.ref (hp.objs.size + 1)], []⟩ [Value.ref (hp.objs.size + 1)] _ _ (fun _ _ _ => False) (hr.make C [] []) (I2.env0.make C [] []) (hb _ [Value.ref (hp.objs.size + 1)] I2.kIn hl) r2 hq) fun r s' hq' => ?_))
  cases r with
  | error er => exact hx pins σ _ _ er s' I2 hq'
  | ok fl =>
    cases fl with
    | ret u =>
      obtain ⟨v, H2, os2, bare2, un2, hok2, rv, ev, eH, q2⟩ := hq'
      subst ev eH
      obtain ⟨h2, g2, d2, t2, os'⟩ := s'
      exact ⟨rv, made_bare (raises_own T.exC T.tyC) I hsz kk un2 hok2 os2 bare2 q2⟩
    | next => exact False.elim hq'
    | brk => exact False.elim hq'
    | cont => exact False.elim hq'
end
end Xc
/-! Data of Python, nested, over the tracked heap; types compared. -/
namespace Dt
open PySem PySem.Spec PyProof.Rows L2 Xc
theorem same_new {H : Hp} {p : Addr} (h : H p = none) (o : HO) : Same H (upd H p o) := fun b u q => by rw [upd_ne (ne_of_none q h)]; exact q
theorem ifT {c : Bool} {A B : Prop} (h : c = true) (a : A) : if c = true then A else B := by rw [if_pos h]; exact a
theorem ifF {c : Bool} {A B : Prop} (h : c = false) (b : B) : if c = true then A else B := by rw [if_neg (by rw [h]; exact Bool.false_ne_true)]; exact b
theorem if2 {c : Bool} {A B : Prop} (a : c = true → A) (b : c = false → B) : if c = true then A else B := by
  cases c with
  | true => exact ifT rfl (a rfl)
  | false => exact ifF rfl (b rfl)
inductive D where
  | non | bl (b : Bool) | int (i : Int) | str (s : Str) | tup (ds : List D) | lst (ds : List D) | dct
mutual
/-- v is the datum, as the heap holds it -/
def Is (H : Hp) : D → V → Prop
  | .non, v => v = .non
  | .bl b, v => v = .bl b
  | .int i, v => v = .int i
  | .str s, v => v = .str s
  | .tup ds, v => ∃ a xs, v = .ref a ∧ H a = some (.tup xs) ∧ Are H ds xs
  | .lst ds, v => ∃ a xs, v = .ref a ∧ H a = some (.lst xs) ∧ Are H ds xs
  | .dct, v => ∃ a, v = .ref a ∧ H a = some (.dK [])
def Are (H : Hp) : List D → List V → Prop
  | [], xs => xs = []
  | d :: ds, xs => ∃ x r, xs = x :: r ∧ Is H d x ∧ Are H ds r
end
mutual
theorem Is.same {H H' : Hp} (s : Same H H') : ∀ {d : D} {v : V}, Is H d v → Is H' d v
  | .non, _, h => h
  | .bl _, _, h => h
  | .int _, _, h => h
  | .str _, _, h => h
  | .tup _, _, h => by
    obtain ⟨a, xs, e, q, r⟩ := h
    exact ⟨a, xs, e, s _ _ q, Are.same s r⟩
  | .lst _, _, h => by
    obtain ⟨a, xs, e, q, r⟩ := h
    exact ⟨a, xs, e, s _ _ q, Are.same s r⟩
  | .dct, _, h => by
    obtain ⟨a, e, q⟩ := h
    exact ⟨a, e, s _ _ q⟩
theorem Are.same {H H' : Hp} (s : Same H H') : ∀ {ds : List D} {xs : List V}, Are H ds xs → Are H' ds xs
  | [], _, h => h
  | _ :: _, _, h => by
    obtain ⟨x, r, e, q, t⟩ := h
    exact ⟨x, r, e, Is.same s q, Are.same s t⟩
end
theorem Are.len {H : Hp} : ∀ {ds : List D} {xs : List V}, Are H ds xs → xs.length = ds.length
  | [], _, h => by rw [show _ = [] from h]; rfl
  | _ :: ds, _, h => by
    obtain ⟨x, r, rfl, _, t⟩ := h
    rw [List.length_cons, List.length_cons, Are.len t]
theorem Are.at {H : Hp} : ∀ {ds : List D} {xs : List V} {i : Nat} {d : D}, Are H ds xs → ds[i]? = some d → ∃ x, xs[i]? = some x ∧ Is H d x
  | [], _, _, _, _, e => by cases e
  | _ :: _, _, 0, _, h, e => by
    obtain ⟨x, r, rfl, q, _⟩ := h
    cases e
    exact ⟨x, rfl, q⟩
  | _ :: tl, _, i + 1, d, h, e => by
    obtain ⟨x, r, rfl, _, t⟩ := h
    have e' : tl[i]? = some d := e
    exact Are.at (xs := r) t e'
theorem Are.append {H : Hp} : ∀ {ds es : List D} {xs ys : List V}, Are H ds xs → Are H es ys → Are H (ds ++ es) (xs ++ ys)
  | [], _, _, _, h, k => by rw [show _ = [] from h]; exact k
  | _ :: _, _, _, _, h, k => by
    obtain ⟨x, r, rfl, q, t⟩ := h
    exact ⟨x, r ++ _, rfl, q, Are.append t k⟩
theorem are1 {H : Hp} {d : D} {x : V} (h : Is H d x) : Are H [d] [x] := ⟨x, [], rfl, h, rfl⟩
theorem are2 {H : Hp} {d e : D} {x y : V} (h : Is H d x) (k : Is H e y) : Are H [d, e] [x, y] := ⟨x, [y], rfl, h, are1 k⟩
theorem are3 {H : Hp} {d e f : D} {x y z : V} (h : Is H d x) (k : Is H e y) (l : Is H f z) : Are H [d, e, f] [x, y, z] := ⟨x, [y, z], rfl, h, are2 k l⟩
/-- its type's name -/
def D.ty : D → String
  | .non => "NoneType" | .bl _ => "bool" | .int _ => "int" | .str _ => "str" | .tup _ => "tuple" | .lst _ => "list" | .dct => "dict"
theorem Is.ty {K : PySem.W.Frag} {H : Hp} : ∀ {d : D} {v : V}, Is H d v → TyB K H v d.ty
  | .non, _, h => by cases (show _ = V.non from h); exact .non
  | .bl b, _, h => by cases (show _ = V.bl b from h); exact .bl b
  | .int i, _, h => by cases (show _ = V.int i from h); exact .int i
  | .str s, _, h => by cases (show _ = V.str s from h); exact .str s
  | .tup _, _, h => by obtain ⟨a, xs, rfl, q, _⟩ := h; exact .tup (SqT.of q)
  | .lst _, _, h => by obtain ⟨a, xs, rfl, q, _⟩ := h; exact .lst (SqL.of q)
  | .dct, _, h => by obtain ⟨a, rfl, q⟩ := h; exact .dK q
theorem Is.non {H : Hp} : ∀ {d : D} {v : V}, Is H d v → (decide (v = V.non) = true ↔ d = D.non)
  | .non, _, h => by cases (show _ = V.non from h); simp
  | .bl b, _, h => by cases (show _ = V.bl b from h); simp
  | .int i, _, h => by cases (show _ = V.int i from h); simp
  | .str s, _, h => by cases (show _ = V.str s from h); simp
  | .tup _, _, h => by obtain ⟨a, xs, rfl, q, _⟩ := h; simp
  | .lst _, _, h => by obtain ⟨a, xs, rfl, q, _⟩ := h; simp
  | .dct, _, h => by obtain ⟨a, rfl, q⟩ := h; simp
section
variable {X : Cx}
/-- x == y, two types of these -/
def rEqTy : R2 := fun x y H Q => ∃ a b, x = .ty a ∧ y = .ty b ∧ (a ∈ ["NoneType", "bool", "int", "str", "tuple", "list", "dict"]) ∧ (b ∈ ["NoneType", "bool", "int", "str", "tuple", "list", "dict"]) ∧ Q (.bl (decide (a = b))) H
theorem meta_of {a : String} (h : a ∈ ["NoneType", "bool", "int", "str", "tuple", "list", "dict"]) (s : Shared) : s.TypeIs (.type a) "type" := by
  simp only [List.mem_cons, List.not_mem_nil, or_false] at h
  rcases h with rfl | rfl | rfl | rfl | rfl | rfl | rfl
  · exact TypeEq.meta_NoneType s
  · exact TypeEq.meta_bool s
  · exact TypeEq.meta_int s
  · exact TypeEq.meta_str s
  · exact TypeEq.meta_tuple s
  · exact TypeEq.meta_list s
  · exact TypeEq.meta_dict s
theorem op_eqTy : OpR X (compareOp .Eq) rEqTy := by
  intro pins s σ H x y v u Q I rx ry h
  obtain ⟨a, b, rfl, rfl, ha, hb, q⟩ := h
  cases (show v = Value.type a from rx)
  cases (show u = Value.type b from ry)
  by_cases e : a = b
  · subst e
    exact TypeEq.eq_type_same (meta_of ha) ⟨.bl true, H, I, rfl, by simpa using q⟩
  · exact TypeEq.eq_type_other (meta_of ha) (meta_of hb) (by simpa using e) ⟨.bl false, H, I, rfl, by simpa [e] using q⟩
theorem D.ty_in (d : D) : d.ty ∈ ["NoneType", "bool", "int", "str", "tuple", "list", "dict"] := by cases d <;> simp [D.ty]
end
/-- a while whose measure is told beside -/
theorem while_w {c : TT} {tb : TS} {E : Ends} {σ : L2.St} {H : Hp} (W : Nat → L2.St → Hp → Prop) {m : Nat} (h0 : W m σ H)
    (hs : ∀ m σ H, W m σ H → c σ H fun b H1 => if b = true then tb { E with nx := fun σ' H' => ∃ m', m' < m ∧ W m' σ' H', ct := fun σ' H' => ∃ m', m' < m ∧ W m' σ' H', bk := E.nx } σ H1 else E.nx σ H1)
    (mono : ∀ σ H Q Q', (∀ b H1, Q b H1 → Q' b H1) → c σ H Q → c σ H Q') : tWhile c tb E σ H := by
  refine ⟨W, ⟨m, h0⟩, fun m σ H w => mono σ H _ _ (fun b H1 q => ?_) (hs m σ H w)⟩
  cases b with
  | true => exact ⟨_, fun σ' H' n => n, q⟩
  | false => exact q
end Dt
/-! A line of a code, as nextcode.lines reads it: the same reading over words, without a heap. -/
namespace Ln
open PySem PySem.Spec PyProof.Rows L2 Xc Dt
abbrev regs : List Str := ["at", "par", "top", "low", "out"]
abbrev kept : List Str := ["par", "top", "low", "out"]
abbrev holders : List Str := ["at", "par", "top", "low", "out", "new"]
abbrev bare : List Str := ["at", "par", "top", "low", "out", "new", "root", "none"]
abbrev ledTo : List Str := ["at", "par", "top", "low", "out", "new", "none"]
abbrev compared : List Str := ["at", "par", "top", "low", "out", "new", "key"]
abbrev linkNs : List Str := ["left", "right", "up"]
abbrev sides : List Str := ["left", "right"]
abbrev loops : List Str := ["down", "up"]
inductive Tm where
  | reg (w : Str)
  | link (n l : Str)
  deriving DecidableEq
inductive As where
  | frm (s : Str)
  | less (a b : Str)
  | eq (n : Str)
  | same (x y : Tm)
  deriving DecidableEq
inductive Sd where
  | one (w : Str)
  | ask (w : Str) (ps : List (Bool × As))
  | read (t : Str) (x : Tm)
  | write (x : Tm) (s : Str)
  | gets (a b : Str)
  | keep (r : Str)
  | go (s : Str)
def Tm.d : Tm → D
  | .reg w => .tup [.str w, .non]
  | .link n l => .tup [.str n, .str l]
def As.d : As → D
  | .frm s => .tup [.str "from", .str s]
  | .less a b => .tup [.str "less", .str a, .str b]
  | .eq n => .tup [.str "equal", .str n]
  | .same x y => .tup [.str "same", x.d, y.d]
def partD (p : Bool × As) : D := .tup [.bl p.1, p.2.d]
def Sd.d : Sd → D
  | .one w => .tup [.str w]
  | .ask w ps => .tup [.str w, .tup (ps.map partD)]
  | .read t x => .tup [.str "read", .str t, x.d]
  | .write x s => .tup [.str "write", x.d, .str s]
  | .gets a b => .tup [.str "gets", .str a, .str b]
  | .keep r => .tup [.str "keep", .str r]
  | .go s => .tup [.str "go", .str s]
def optD {α : Type} (f : α → D) : Option α → D
  | none => .non
  | some x => f x
def has (l : List Str) (w : Str) : Bool := decide (w ∈ l)
def rdLink (w : Str) : Option Tm :=
  if has holders (Txt.partition w ".").1 && has linkNs (Txt.partition w ".").2.2 then some (.link (Txt.partition w ".").1 (Txt.partition w ".").2.2) else none
def rdTerm (w : Str) : Option Tm := if has bare w then some (.reg w) else rdLink w
def rdLess (a b place : Str) : Option As :=
  if (has compared a && has compared b && !decide (a = b)) && (decide (place = "outside") || has [a, b] "at") then some (.less a b) else none
def rdEqual (n place : Str) : Option As :=
  if (if place = "outside" then has regs n else decide (n = "at")) then some (.eq n) else none
def askedIn (place : Str) : List Tm := if place = "down" then [.reg "at", .link "at" "left", .link "at" "right"] else [.reg "at", .link "at" "left", .link "at" "right", .link "at" "up"]
def rdSame (a b place : Str) : Option As :=
  match rdTerm a, rdTerm b with
  | some x, some y => if (if place = "outside" then !decide (x = y) else decide (b = "none") && decide (x ∈ askedIn place)) then some (.same x y) else none
  | _, _ => none
def rdAsked (ws : List Str) (place : Str) : Option As :=
  match ws with
  | [a, b] => if decide (place = "up") && (decide (a = "from") && has sides b) then some (.frm b) else none
  | [a, b, c] => if b = "<" then rdLess a c place else if b = "is" then (if a = "key" then rdEqual c place else rdSame a c place) else none
  | _ => none
def rdPart (ws : List Str) (place : Str) : Option (Bool × As) :=
  match ws with
  | [] => none
  | w :: r => if w = "not" then (rdAsked r place).map fun a => (false, a) else (rdAsked ws place).map fun a => (true, a)
/-- the words between the ands -/
def parted : List Str → List (List Str)
  | [] => [[]]
  | w :: r => if w = "and" then [] :: parted r else match parted r with
    | [] => [[w]]
    | g :: gs => (w :: g) :: gs
def rdParts (place : Str) : List (List Str) → Option (List (Bool × As))
  | [] => some []
  | g :: gs => match rdPart g place, rdParts place gs with
    | some p, some ps => some (p :: ps)
    | _, _ => none
def rdTest (ws : List Str) (place : Str) : Option (List (Bool × As)) := rdParts place (parted ws)
def stepsOf (place : Str) : List Str := if place = "down" then sides else ["up"]
def rdWithin (ws : List Str) (place : Str) : Option Sd :=
  match ws with
  | [a] => if a = "stop" then some (.one "stop") else none
  | [a, b] => if decide (a = "keep") && has kept b then some (.keep b) else if decide (a = "go") && has (stepsOf place) b then some (.go b) else none
  | _ => none
def rdSetting (t s : Str) : Option Sd :=
  if has regs t then (rdTerm s).map (.read t) else if !has ledTo s then none else if t = "root" then some (.write (.reg "root") s) else (rdLink t).map fun l => .write l s
def rdAsking (w : Str) (r : List Str) (place : Str) : Option Sd := (rdTest r place).map (.ask w)
def rdOutside (ws : List Str) : Option Sd :=
  match ws with
  | [] => none
  | w :: r => if has loops w then rdAsking w r w else match r with
    | [b, c] => if b = "=" then rdSetting w c else if decide (b = "gets") && (has holders w && has holders c) then some (.gets w c) else none
    | _ => none
def rdWords (ws : List Str) (place : Str) : Option Sd :=
  match ws with
  | [] => none
  | w :: r => if w = "if" then rdAsking w r place else if r = [] ∧ (w = "quit" ∨ w = "else" ∨ w = "end") then some (.one w) else if place = "outside" then rdOutside ws else rdWithin ws place
/-- a line at its place -/
def rdLine (l place : Str) : Option Sd := rdWords (Txt.split l " ") place
end Ln
namespace K01
open PySem PySem.Spec PyProof.Rows L2 Xc Dt Ln
def top (i : Nat) : Stmt := PySem.Challenge.pw_nextcode_k01_codes_made_and_refused.main.body.getD i (.Pass ⟨0, 0, 0, 0⟩)
/-! ### the names of the module -/
/-- a tuple of texts that the module holds -/
def GT (K : PySem.W.Frag) (mg : Str → Option Value) (x : Str) (l : List Str) : Prop := ∃ a, mg x = some (.ref a) ∧ ∀ H, SqT K H a (l.map V.str)
/-- a text that the module holds -/
def GS (mg : Str → Option Value) (x w : Str) : Prop := ∃ t, mg x = some (.str w t)
structure Gn (K : PySem.W.Frag) (mg : Str → Option Value) : Prop where
  regs : GT K mg "REGISTERS" regs
  kept : GT K mg "KEPT" kept
  holders : GT K mg "HOLDERS" holders
  bare : GT K mg "BARE" bare
  ledTo : GT K mg "LED_TO" ledTo
  compared : GT K mg "COMPARED" compared
  links : GT K mg "LINKS" linkNs
  sides : GT K mg "SIDES" sides
  loops : GT K mg "LOOPS" loops
  outside : GS mg "OUTSIDE" "outside"
  down : GS mg "DOWN" "down"
  up : GS mg "UP" "up"
  len : mg "len" = none
theorem inV_has (w : Str) : ∀ l : List Str, inV (.str w) (l.map V.str) = has l w
  | [] => rfl
  | x :: r => by
    have ih := inV_has w r
    unfold inV at ih ⊢
    rw [List.map_cons, List.any_cons, ih]
    show ((x == w) || has r w) = has (x :: r) w
    unfold has
    rw [Bool.eq_iff_iff, Bool.or_eq_true, beq_iff_eq, decide_eq_true_eq, decide_eq_true_eq, List.mem_cons]
    exact ⟨fun h => h.imp_left Eq.symm, fun h => h.imp_left Eq.symm⟩
theorem flat_strs' (l : List Str) : (l.map V.str).all flatV = true := by
  rw [List.all_map]
  exact List.all_eq_true.mpr fun _ _ => rfl
section
variable {P : Program} {w : World} {K : PySem.W.Frag} {mg : Str → Option Value} {base : Heap} {f : Addr} {fd : FuncData}
/-! ### read_link, read_term -/
def spW (F : Str → D) : Sp := fun vs H Q _ => ∃ w : Str, vs = [.str w] ∧ w.length ≤ 4000 ∧ ∀ (v : V) (H' : Hp), Is H' (F w) v → Same H H' → Q v H'
theorem sc26 : FnScope ["word", "name", "_", "link"] ["word"] (defScope (top 27)) := ⟨rfl, rfl, rfl, by decide +kernel, rfl, by decide +kernel, by decide +kernel⟩
theorem ok_link (F : Fun K "read_link" "read_link" (top 27) f fd) (N : Gn K mg) : FnOk P w K mg base CX0 1 f fd ["word"] (spW fun w => optD Tm.d (rdLink w)) := by
  refine F.ok sc26 (fun vs H Q E h => ?_) (fun cdv A outer s H vs Q E hr h => ?_)
  · obtain ⟨w, rfl, _⟩ := h
    rfl
  obtain ⟨wd, rfl, hw, q⟩ := h
  obtain ⟨aH, mH, cH⟩ := N.holders
  obtain ⟨aL, mL, cL⟩ := N.links
  refine ⟨_, pss_cons (ps_asg (pe_bm PySem.F.plainAttrs_str PySem.F.slot_str_partition PySem.F.type_str_partition mt_partition (pv 0) (pa_cons pe_str pa_nil)) (pg_tup rfl (pgs_cons (pg_name (i := 1) sc26.nd rfl (.inl rfl)) (pgs_cons (pg_name (i := 2) sc26.nd rfl (.inl rfl)) (pgs_cons (pg_name (i := 3) sc26.nd rfl (.inl rfl)) pgs_nil)))))
    (pss_one (ps_ret (pe_ifExp (PW.pt (pw_and (pt_cmpR (show OpR _ _ (rIn K false) from op_in_seq) (pv 1) (pe_glob (v := .ref aH) (by rfl) mH rfl) (by rfl)) (pw_and1 (pt_cmpR (show OpR _ _ (rIn K false) from op_in_seq) (pv 3) (pe_glob (v := .ref aL) (by rfl) mL rfl) (by rfl))))) (pe_tup (pa_cons (pv 1) (pa_cons (pv 3) pa_nil))) pe_non))), ?_⟩
  refine ⟨_, rfl, rfl, _, _, rfl, rfl, rfl, (by rw [sizeLine_eq]; omega), fun p np => ?_⟩
  have u1 := same_new np (.tup [.str (Txt.partition wd ".").1, .str (Txt.partition wd ".").2.1, .str (Txt.partition wd ".").2.2])
  have m1 : (upd H p (.tup [.str (Txt.partition wd ".").1, .str (Txt.partition wd ".").2.1, .str (Txt.partition wd ".").2.2])) p = some (.tup [.str (Txt.partition wd ".").1, .str (Txt.partition wd ".").2.1, .str (Txt.partition wd ".").2.2]) := upd_same
  generalize upd H p (.tup [.str (Txt.partition wd ".").1, .str (Txt.partition wd ".").2.1, .str (Txt.partition wd ".").2.2]) = H1 at u1 m1 ⊢
  refine ⟨p, _, rfl, SqT.of m1, rfl, _, _, rfl, _, _, rfl, _, _, rfl, rfl, ?_⟩
  have e : rdLink wd = if has holders (Txt.partition wd ".").1 && has linkNs (Txt.partition wd ".").2.2 then some (.link (Txt.partition wd ".").1 (Txt.partition wd ".").2.2) else none := rfl
  generalize (Txt.partition wd ".").1 = n at e ⊢
  generalize (Txt.partition wd ".").2.2 = l at e ⊢
  have q' : ∀ (v : V) (H' : Hp), Is H' (optD Tm.d (rdLink wd)) v → Same H H' → Q v H' := q
  rw [e] at q'
  refine ⟨_, rfl, aH, _, rfl, .inr (cH _), rfl, flat_strs' _, _, rfl, ?_⟩
  refine if2 (fun c => ?_) (fun c => ?_)
  · have c : has holders n = true := by rw [← inV_has]; exact c
    refine ⟨_, rfl, aL, _, rfl, .inr (cL _), rfl, flat_strs' _, _, rfl, ?_⟩
    refine if2 (fun c2 => ?_) (fun c2 => ?_)
    · have c2 : has linkNs l = true := by rw [← inV_has]; exact c2
      rw [c, c2] at q'
      exact ⟨_, rfl, _, rfl, (by show 2 ≤ sizeLine; decide), fun r nr => q' _ _ ⟨r, _, rfl, upd_same, are2 rfl rfl⟩ (u1.trans (same_new nr _))⟩
    · have c2 : has linkNs l = false := by rw [← inV_has]; exact c2
      rw [c, c2] at q'
      exact q' _ _ rfl u1
  · have c : has holders n = false := by rw [← inV_has]; exact c
    rw [c] at q'
    exact ifF rfl (q' _ _ rfl u1)
theorem sc27 : FnScope ["word"] ["word"] (defScope (top 28)) := ⟨rfl, rfl, rfl, by decide +kernel, rfl, by decide +kernel, by decide +kernel⟩
theorem ok_term {g : Addr} {gd : FuncData} (F : Fun K "read_term" "read_term" (top 28) f fd) (N : Gn K mg) (G : FnOk P w K mg base CX0 1 g gd ["word"] (spW fun w => optD Tm.d (rdLink w))) (bG : Binds K gd ["word"] []) (kG : PySem.W.keepIn K (.ref g) = true) (mG : mg "read_link" = some (.ref g)) :
    FnOk P w K mg base CX0 2 f fd ["word"] (spW fun w => optD Tm.d (rdTerm w)) := by
  refine F.ok sc27 (fun vs H Q E h => ?_) (fun cdv A outer s H vs Q E hr h => ?_)
  · obtain ⟨w, rfl, _⟩ := h
    rfl
  obtain ⟨wd, rfl, hw, q⟩ := h
  obtain ⟨aB, mB, cB⟩ := N.bare
  refine ⟨_, pss_one (ps_ret (pe_ifExp (pt_cmpR (show OpR _ _ (rIn K false) from op_in_seq) (pv 0) (pe_glob (v := .ref aB) (by rfl) mB rfl) (by rfl)) (pe_tup (pa_cons (pv 0) (pa_cons pe_non pa_nil))) (pe_call G hr rfl mG kG bG .nil pass0 (pa_cons (pv 0) pa_nil)))), ?_⟩
  have e : rdTerm wd = if has bare wd then some (.reg wd) else rdLink wd := rfl
  have q' : ∀ (v : V) (H' : Hp), Is H' (optD Tm.d (rdTerm wd)) v → Same H H' → Q v H' := q
  rw [e] at q'
  refine ⟨_, rfl, aB, _, rfl, .inr (cB _), rfl, flat_strs' _, _, rfl, ?_⟩
  refine if2 (fun c => ?_) (fun c => ?_)
  · have c : has bare wd = true := by rw [← inV_has]; exact c
    rw [c] at q'
    exact ⟨_, rfl, (by show 2 ≤ sizeLine; decide), fun r nr => q' _ _ ⟨r, _, rfl, upd_same, are2 rfl rfl⟩ (same_new nr _)⟩
  · have c : has bare wd = false := by rw [← inV_has]; exact c
    rw [c] at q'
    exact ⟨_, rfl, wd, rfl, hw, fun v H' i s1 => q' v H' i s1⟩
end
end K01
namespace K01
open PySem PySem.Spec PyProof.Rows L2 Xc Dt Ln
section
variable {P : Program} {w : World} {K : PySem.W.Frag} {mg : Str → Option Value} {base : Heap} {f : Addr} {fd : FuncData}
/-! ### read_less, read_equal, asked_within -/
def spWWP (F : Str → Str → Str → D) : Sp := fun vs H Q _ => ∃ a b p : Str, vs = [.str a, .str b, .str p] ∧ a.length ≤ 4000 ∧ b.length ≤ 4000 ∧ ∀ (v : V) (H' : Hp), Is H' (F a b p) v → Same H H' → Q v H'
def spWP (F : Str → Str → D) : Sp := fun vs H Q _ => ∃ a p : Str, vs = [.str a, .str p] ∧ ∀ (v : V) (H' : Hp), Is H' (F a p) v → Same H H' → Q v H'
theorem sc32 : FnScope ["first", "second", "place", "is_right"] ["first", "second", "place"] (defScope (top 33)) := ⟨rfl, rfl, rfl, by decide +kernel, rfl, by decide +kernel, by decide +kernel⟩
theorem dec_str {a b : Str} : decide (V.str a = V.str b) = decide (a = b) := by
  by_cases h : a = b
  · rw [h, decide_eq_true rfl, decide_eq_true rfl]
  · rw [decide_eq_false h, decide_eq_false fun z => h (V.str.inj z)]
theorem ok_less (F : Fun K "read_less" "read_less" (top 33) f fd) (N : Gn K mg) : FnOk P w K mg base CX0 1 f fd ["first", "second", "place"] (spWWP fun a b p => optD As.d (rdLess a b p)) := by
  refine F.ok sc32 (fun vs H Q E h => ?_) (fun cdv A outer s H vs Q E hr h => ?_)
  · obtain ⟨a, b, p, rfl, _⟩ := h
    rfl
  obtain ⟨a, b, p, rfl, hla, hlb, q⟩ := h
  obtain ⟨aC, mC, cC⟩ := N.compared
  obtain ⟨tO, mO⟩ := N.outside
  refine ⟨_, C8.pss_cut (ps_set (i := 3) sc32.nd rfl (.inl rfl) (pe_and (pe_cmpR (show OpR _ _ (rIn K false) from op_in_seq) (pv 0) (pe_glob (v := .ref aC) (by rfl) mC rfl) (by rfl)) (pe_and (pe_cmpR (show OpR _ _ (rIn K false) from op_in_seq) (pv 1) (pe_glob (v := .ref aC) (by rfl) mC rfl) (by rfl)) (pe_one (pe_cmpR op_ne (pv 0) (pv 1) (nomark _))))))
    (C8.pss_cut (ps_if (pt_cmpR op_ne (pv 2) (pe_glob (v := .str "outside") (by rfl) mO ⟨_, rfl⟩) (nomark _)) (pss_one (ps_set (i := 3) sc32.nd rfl (.inl rfl) (pe_and (pv 3) (pe_one (pe_cmpR (show OpR _ _ (rIn K false) from op_in_seq) pe_str (pe_tup (pa_cons (pv 0) (pa_cons (pv 1) pa_nil))) (by rfl)))))) pss_nil)
    (pss_one (ps_ret (pe_ifExp (pt_val (pv 3)) (pe_tup (pa_cons pe_str (pa_cons (pv 0) (pa_cons (pv 1) pa_nil)))) pe_non)))), ?_⟩
  refine ⟨fun σ H' => σ = [some (.str a), some (.str b), some (.str p), some (.bl (has compared a && has compared b && !decide (a = b)))] ∧ Same H H', ?_, ?_⟩
  · refine ⟨_, rfl, aC, _, rfl, .inr (cC _), rfl, flat_strs' _, _, rfl, ?_⟩
    refine if2 (fun c => ?_) (fun c => ?_)
    · have c : has compared a = true := by rw [← inV_has]; exact c
      refine ⟨_, rfl, aC, _, rfl, .inr (cC _), rfl, flat_strs' _, _, rfl, ?_⟩
      refine if2 (fun c2 => ?_) (fun c2 => ?_)
      · have c2 : has compared b = true := by rw [← inV_has]; exact c2
        refine ⟨_, rfl, _, rfl, rfl, ?_, Same.refl H⟩
        rw [dec_str, c, c2]
        rfl
      · have c2 : has compared b = false := by rw [← inV_has]; exact c2
        refine ⟨?_, Same.refl H⟩
        rw [c, c2]
        rfl
    · have c : has compared a = false := by rw [← inV_has]; exact c
      refine ⟨?_, Same.refl H⟩
      rw [c]
      rfl
  rintro σ H1 ⟨rfl, s1⟩
  have q : ∀ (v : V) (H' : Hp), Is H' (optD As.d (if ((has compared a && has compared b && !decide (a = b)) && (decide (p = "outside") || has [a, b] "at")) = true then some (As.less a b) else none)) v → Same H H' → Q v H' := q
  generalize (has compared a && has compared b && !decide (a = b)) = k at q ⊢
  refine ⟨fun σ H' => σ = [some (.str a), some (.str b), some (.str p), some (.bl (k && (decide (p = "outside") || has [a, b] "at")))] ∧ Same H H', ?_, ?_⟩
  · refine ⟨_, rfl, rfl, _, rfl, ?_⟩
    refine if2 (fun c => ?_) (fun c => ?_)
    · have c : decide (p = "outside") = false := by
        have c' : (!decide (V.str p = V.str "outside")) = true := c
        rw [dec_str] at c'
        cases e : decide (p = ("outside" : Str)) with
        | false => rfl
        | true => rw [e] at c'; cases c'
      rw [c, Bool.false_or]
      refine ⟨_, rfl, _, rfl, ?_⟩
      refine if2 (fun ck => ?_) (fun ck => ?_)
      · refine ⟨_, rfl, _, rfl, (by show 2 ≤ sizeLine; decide), fun t nt => ?_⟩
        have u2 := same_new nt (.tup [.str a, .str b])
        have m2 : (upd H1 t (.tup [.str a, .str b])) t = some (.tup ([a, b].map V.str)) := upd_same
        refine ⟨t, _, rfl, .inr (SqT.of m2), rfl, flat_strs' _, ?_, s1.trans u2⟩
        show [some (V.str a), some (V.str b), some (V.str p), some (V.bl (inV (.str "at") ([a, b].map V.str)))] = _
        rw [inV_has, ck, Bool.true_and]
      · refine ⟨?_, s1⟩
        rw [ck]
        rfl
    · have c : decide (p = "outside") = true := by
        have c' : (!decide (V.str p = V.str "outside")) = false := c
        rw [dec_str] at c'
        cases e : decide (p = ("outside" : Str)) with
        | true => rfl
        | false => rw [e] at c'; cases c'
      rw [c, Bool.true_or, Bool.and_true]
      exact ⟨rfl, s1⟩
  rintro σ H2 ⟨rfl, s2⟩
  generalize (k && (decide (p = "outside") || has [a, b] "at")) = k2 at q ⊢
  refine ⟨_, rfl, _, rfl, ?_⟩
  cases k2 with
  | true => exact ifT rfl ⟨_, rfl, _, rfl, (by show 3 ≤ sizeLine; decide), fun r nr => q _ _ ⟨r, _, rfl, upd_same, are3 rfl rfl rfl⟩ (s2.trans (same_new nr _))⟩
  | false => exact ifF rfl (q _ _ rfl s2)
theorem sc33 : FnScope ["name", "place", "is_right"] ["name", "place"] (defScope (top 34)) := ⟨rfl, rfl, rfl, by decide +kernel, rfl, by decide +kernel, by decide +kernel⟩
theorem ok_equal (F : Fun K "read_equal" "read_equal" (top 34) f fd) (N : Gn K mg) : FnOk P w K mg base CX0 1 f fd ["name", "place"] (spWP fun a p => optD As.d (rdEqual a p)) := by
  refine F.ok sc33 (fun vs H Q E h => ?_) (fun cdv A outer s H vs Q E hr h => ?_)
  · obtain ⟨a, p, rfl, _⟩ := h
    rfl
  obtain ⟨a, p, rfl, q⟩ := h
  obtain ⟨aC, mC, cC⟩ := N.regs
  obtain ⟨tO, mO⟩ := N.outside
  refine ⟨_, C8.pss_cut (ps_set (i := 2) sc33.nd rfl (.inl rfl) (pe_ifExp (pt_cmpR op_eq (pv 1) (pe_glob (v := .str "outside") (by rfl) mO ⟨_, rfl⟩) (nomark _)) (pe_cmpR (show OpR _ _ (rIn K false) from op_in_seq) (pv 0) (pe_glob (v := .ref aC) (by rfl) mC rfl) (by rfl)) (pe_cmpR op_eq (pv 0) pe_str (nomark _))))
    (pss_one (ps_ret (pe_ifExp (pt_val (pv 2)) (pe_tup (pa_cons pe_str (pa_cons (pv 0) pa_nil))) pe_non))), ?_⟩
  refine ⟨fun σ H' => σ = [some (.str a), some (.str p), some (.bl (if p = "outside" then has regs a else decide (a = "at")))] ∧ H' = H, ?_, ?_⟩
  · refine ⟨_, rfl, rfl, _, rfl, ?_⟩
    refine if2 (fun c => ?_) (fun c => ?_)
    · have c : p = "outside" := by
        have c' : decide (V.str p = V.str "outside") = true := c
        rw [dec_str] at c'
        exact of_decide_eq_true c'
      refine ⟨_, rfl, aC, _, rfl, .inr (cC _), rfl, flat_strs' _, ?_, rfl⟩
      show [some (V.str a), some (V.str p), some (V.bl (inV (.str a) (regs.map V.str)))] = _
      rw [inV_has, if_pos c]
    · have c : ¬ p = "outside" := by
        have c' : decide (V.str p = V.str "outside") = false := c
        rw [dec_str] at c'
        exact of_decide_eq_false c'
      refine ⟨_, rfl, rfl, ?_, rfl⟩
      show [some (V.str a), some (V.str p), some (V.bl (decide (V.str a = V.str "at")))] = _
      rw [dec_str, if_neg c]
  rintro σ H2 ⟨rfl, rfl⟩
  have q : ∀ (v : V) (H' : Hp), Is H' (optD As.d (if (if p = "outside" then has regs a else decide (a = "at")) = true then some (As.eq a) else none)) v → Same H2 H' → Q v H' := q
  generalize (if p = "outside" then has regs a else decide (a = "at")) = k at q ⊢
  refine ⟨_, rfl, _, rfl, ?_⟩
  cases k with
  | true => exact ifT rfl ⟨_, rfl, (by show 2 ≤ sizeLine; decide), fun r nr => q _ _ ⟨r, _, rfl, upd_same, are2 rfl rfl⟩ (same_new nr _)⟩
  | false => exact ifF rfl (q _ _ rfl (Same.refl _))
/-- asked_within: the terms themselves -/
def spWi : Sp := fun vs H Q _ => ∃ p : Str, vs = [.str p] ∧ ∀ (v : V) (H' : Hp), Is H' (.tup ((askedIn p).map Tm.d)) v → Same H H' → Q v H'
end
end K01
namespace Dt
open PySem PySem.Spec PyProof.Rows L2 Xc
/-- x in t, t a tuple of data of any depth -/
def rInDT (K : PySem.W.Frag) : R2 := fun x y H Q => ∃ d ds, Dp K H x d ∧ Dp K H y (.tuple ds) ∧ SeqAt.shaped d = true ∧ SeqAt.shaped (.tuple ds) = true ∧ PyData.depthAll ds ≤ 64 ∧ Q (.bl (ds.any fun z => PyData.eqv z d)) H
theorem op_inDT {X : Cx} (hu : X.A.units + 65 < cLine) : OpR X (compareOp .In) (rInDT X.K) := by
  intro pins s σ H x y v u Q I rx ry h
  obtain ⟨d, ds, hd, he, sd, se, hds, q⟩ := h
  obtain ⟨as, r1⟩ := Dp.reads I d x v hd rx
  obtain ⟨bs, r2⟩ := Dp.reads I (.tuple ds) y u he ry
  have h1 : min (PyData.depthAll ds) d.depth ≤ 64 := Nat.le_trans (Nat.min_le_left _ _) hds
  exact SeqAt.in_tuple_reads r2 r1 (SeqAt.canLay_of_shaped se) (SeqAt.canLay_of_shaped sd) (by omega) ⟨.bl _, H, I, rfl, q⟩
end Dt
namespace Ln
open PySem PySem.Spec PyProof.Rows L2 Xc Dt
def Tm.py : Tm → PyData
  | .reg w => .tuple [.str w, .none]
  | .link n l => .tuple [.str n, .str l]
theorem tm_eqv (x y : Tm) : PyData.eqv x.py y.py = decide (x = y) := by
  rw [Bool.eq_iff_iff]
  cases x <;> cases y <;> simp [Tm.py, PyData.eqv, PyData.eqvAll]
theorem tm_dp {K : PySem.W.Frag} {H : Hp} : ∀ {x : Tm} {v : V}, Is H x.d v → Dp K H v x.py
  | .reg w, _, h => by
    obtain ⟨a, xs, rfl, e, y, r, rfl, i1, z, r2, rfl, i2, hn⟩ := h
    cases (show r2 = [] from hn)
    cases (show y = V.str w from i1)
    cases (show z = V.non from i2)
    exact .tup (SqT.of e) (.cons (.str _) (.cons .non .nil))
  | .link n l, _, h => by
    obtain ⟨a, xs, rfl, e, y, r, rfl, i1, z, r2, rfl, i2, hn⟩ := h
    cases (show r2 = [] from hn)
    cases (show y = V.str n from i1)
    cases (show z = V.str l from i2)
    exact .tup (SqT.of e) (.cons (.str _) (.cons (.str _) .nil))
theorem tms_dp {K : PySem.W.Frag} {H : Hp} : ∀ {xs : List Tm} {vs : List V}, Are H (xs.map Tm.d) vs → DpAll K H vs (xs.map Tm.py)
  | [], _, h => by rw [show _ = [] from h]; exact .nil
  | x :: xs, _, h => by
    obtain ⟨v, r, rfl, i, t⟩ := h
    exact .cons (tm_dp i) (tms_dp t)
theorem ok_names : ∀ w ∈ bare ++ linkNs, PyData.strOk w = true := by decide +kernel
theorem tm_shaped {w : Str} {x : Tm} (h : rdTerm w = some x) : SeqAt.shaped x.py = true := by
  unfold rdTerm at h
  by_cases c : has bare w = true
  · rw [if_pos c] at h
    cases h
    have o := ok_names w (List.mem_append_left _ (of_decide_eq_true c))
    simp [Tm.py, SeqAt.shaped, PyData.canLay0, PyData.canLayAll0, PyData.depth, PyData.depthAll, o]
  · rw [if_neg c] at h
    unfold rdLink at h
    by_cases c2 : (has holders (Txt.partition w ".").1 && has linkNs (Txt.partition w ".").2.2) = true
    · rw [if_pos c2] at h
      cases h
      rw [Bool.and_eq_true] at c2
      have sub : ∀ w ∈ holders, w ∈ bare := by decide +kernel
      have o1 := ok_names _ (List.mem_append_left _ (sub _ (of_decide_eq_true c2.1)))
      have o2 := ok_names _ (List.mem_append_right _ (of_decide_eq_true c2.2))
      simp [Tm.py, SeqAt.shaped, PyData.canLay0, PyData.canLayAll0, PyData.depth, PyData.depthAll, o1, o2]
    · rw [if_neg c2] at h
      cases h
theorem asked_shaped (p : Str) : SeqAt.shaped (.tuple ((askedIn p).map Tm.py)) = true ∧ PyData.depthAll ((askedIn p).map Tm.py) ≤ 64 := by
  have o1 : PyData.strOk "at" = true := by decide +kernel
  have o2 : PyData.strOk "left" = true := by decide +kernel
  have o3 : PyData.strOk "right" = true := by decide +kernel
  have o4 : PyData.strOk "up" = true := by decide +kernel
  unfold askedIn
  by_cases h : p = "down"
  · rw [if_pos h]
    constructor <;> simp [o1, o2, o3, o4, Tm.py, SeqAt.shaped, PyData.canLay0, PyData.canLayAll0, PyData.depth, PyData.depthAll]
  · rw [if_neg h]
    constructor <;> simp [o1, o2, o3, o4, Tm.py, SeqAt.shaped, PyData.canLay0, PyData.canLayAll0, PyData.depth, PyData.depthAll]
theorem asked_any (p : Str) (x : Tm) : (((askedIn p).map Tm.py).any fun z => PyData.eqv z x.py) = decide (x ∈ askedIn p) := by
  rw [List.any_map, Bool.eq_iff_iff, decide_eq_true_eq, List.any_eq_true]
  constructor
  · rintro ⟨z, hz, e⟩
    have e : PyData.eqv z.py x.py = true := e
    rw [tm_eqv] at e
    rw [← of_decide_eq_true e]
    exact hz
  · intro h
    exact ⟨x, h, by show PyData.eqv x.py x.py = true; rw [tm_eqv]; exact decide_eq_true rfl⟩
end Ln
namespace K01
open PySem PySem.Spec PyProof.Rows L2 Xc Dt Ln
section
variable {P : Program} {w : World} {K : PySem.W.Frag} {mg : Str → Option Value} {base : Heap} {f : Addr} {fd : FuncData}
theorem sc35 : FnScope ["place"] ["place"] (defScope (top 36)) := ⟨rfl, rfl, rfl, by decide +kernel, rfl, by decide +kernel, by decide +kernel⟩
theorem ok_askedIn (F : Fun K "asked_within" "asked_within" (top 36) f fd) (N : Gn K mg) : FnOk P w K mg base CX0 1 f fd ["place"] spWi := by
  refine F.ok sc35 (fun vs H Q E h => ?_) (fun cdv A outer s H vs Q E hr h => ?_)
  · obtain ⟨p, rfl, _⟩ := h
    rfl
  obtain ⟨p, rfl, q⟩ := h
  obtain ⟨tD, mD⟩ := N.down
  refine ⟨_, pss_cons (ps_if (pt_cmpR op_eq (pv 0) (pe_glob (v := .str "down") (by rfl) mD ⟨_, rfl⟩) (nomark _)) (pss_one (ps_ret (pe_tup (pa_cons (pe_tup (pa_cons pe_str (pa_cons pe_non pa_nil))) (pa_cons (pe_tup (pa_cons pe_str (pa_cons pe_str pa_nil))) (pa_cons (pe_tup (pa_cons pe_str (pa_cons pe_str pa_nil))) pa_nil)))))) pss_nil)
    (pss_one (ps_ret (pe_tup (pa_cons (pe_tup (pa_cons pe_str (pa_cons pe_non pa_nil))) (pa_cons (pe_tup (pa_cons pe_str (pa_cons pe_str pa_nil))) (pa_cons (pe_tup (pa_cons pe_str (pa_cons pe_str pa_nil))) (pa_cons (pe_tup (pa_cons pe_str (pa_cons pe_str pa_nil))) pa_nil))))))), ?_⟩
  have sz2 : 2 ≤ sizeLine := by decide
  refine ⟨_, rfl, rfl, _, rfl, ?_⟩
  refine if2 (fun c => ?_) (fun c => ?_)
  · have c : p = "down" := by
      have c' : decide (V.str p = V.str "down") = true := c
      rw [dec_str] at c'
      exact of_decide_eq_true c'
    refine ⟨sz2, fun t1 n1 => ⟨sz2, fun t2 n2 => ⟨sz2, fun t3 n3 => ⟨(by show 3 ≤ sizeLine; decide), fun t4 n4 => ?_⟩⟩⟩⟩
    have u1 := same_new n1 (.tup [.str "at", .non])
    have u2 := same_new n2 (.tup [.str "at", .str "left"])
    have u3 := same_new n3 (.tup [.str "at", .str "right"])
    have u4 := same_new n4 (.tup [.ref t1, .ref t2, .ref t3])
    refine q _ _ ⟨t4, _, rfl, upd_same, ?_⟩ (((u1.trans u2).trans u3).trans u4)
    rw [show askedIn p = [.reg "at", .link "at" "left", .link "at" "right"] from if_pos c]
    refine are3 ?_ ?_ ?_
    · exact ⟨t1, _, rfl, u4 _ _ (u3 _ _ (u2 _ _ upd_same)), are2 rfl rfl⟩
    · exact ⟨t2, _, rfl, u4 _ _ (u3 _ _ upd_same), are2 rfl rfl⟩
    · exact ⟨t3, _, rfl, u4 _ _ upd_same, are2 rfl rfl⟩
  · have c : ¬ p = "down" := by
      have c' : decide (V.str p = V.str "down") = false := c
      rw [dec_str] at c'
      exact of_decide_eq_false c'
    refine ⟨sz2, fun t1 n1 => ⟨sz2, fun t2 n2 => ⟨sz2, fun t3 n3 => ⟨sz2, fun t5 n5 => ⟨(by show 4 ≤ sizeLine; decide), fun t4 n4 => ?_⟩⟩⟩⟩⟩
    have u1 := same_new n1 (.tup [.str "at", .non])
    have u2 := same_new n2 (.tup [.str "at", .str "left"])
    have u3 := same_new n3 (.tup [.str "at", .str "right"])
    have u5 := same_new n5 (.tup [.str "at", .str "up"])
    have u4 := same_new n4 (.tup [.ref t1, .ref t2, .ref t3, .ref t5])
    refine q _ _ ⟨t4, _, rfl, upd_same, ?_⟩ ((((u1.trans u2).trans u3).trans u5).trans u4)
    rw [show askedIn p = [.reg "at", .link "at" "left", .link "at" "right", .link "at" "up"] from if_neg c]
    refine ⟨_, _, rfl, ?_, are3 ?_ ?_ ?_⟩
    · exact ⟨t1, _, rfl, u4 _ _ (u5 _ _ (u3 _ _ (u2 _ _ upd_same))), are2 rfl rfl⟩
    · exact ⟨t2, _, rfl, u4 _ _ (u5 _ _ (u3 _ _ upd_same)), are2 rfl rfl⟩
    · exact ⟨t3, _, rfl, u4 _ _ (u5 _ _ upd_same), are2 rfl rfl⟩
    · exact ⟨t5, _, rfl, u4 _ _ upd_same, are2 rfl rfl⟩
end
end K01
namespace K01
open PySem PySem.Spec PyProof.Rows L2 Xc Dt Ln
theorem term_non {H : Hp} {o : Option Ln.Tm} {v : V} (h : Is H (optD Ln.Tm.d o) v) : decide (v = V.non) = o.isNone := by
  cases o with
  | none => cases (show v = V.non from h); rfl
  | some x => cases x <;> (obtain ⟨a, xs, rfl, _⟩ := h; rfl)
theorem tm_any_none (p : Str) : (((askedIn p).map Tm.py).any fun z => PyData.eqv z .none) = false := by
  rw [List.any_map, Bool.eq_false_iff]
  intro h
  obtain ⟨z, _, e⟩ := List.any_eq_true.mp h
  have e : PyData.eqv z.py .none = true := e
  cases z <;> simp [Tm.py, PyData.eqv] at e
section
variable {P : Program} {w : World} {K : PySem.W.Frag} {mg : Str → Option Value} {base : Heap} {f : Addr} {fd : FuncData}
theorem sc34 : FnScope ["first", "second", "place", "one", "other", "is_right"] ["first", "second", "place"] (defScope (top 35)) := ⟨rfl, rfl, rfl, by decide +kernel, rfl, by decide +kernel, by decide +kernel⟩
theorem ok_same {g g2 : Addr} {gd gd2 : FuncData} (F : Fun K "read_same" "read_same" (top 35) f fd) (N : Gn K mg)
    (G : FnOk P w K mg base CX0 2 g gd ["word"] (spW fun w => optD Tm.d (rdTerm w))) (bG : Binds K gd ["word"] []) (kG : PySem.W.keepIn K (.ref g) = true) (mG : mg "read_term" = some (.ref g))
    (W : FnOk P w K mg base CX0 1 g2 gd2 ["place"] spWi) (bW : Binds K gd2 ["place"] []) (kW : PySem.W.keepIn K (.ref g2) = true) (mW : mg "asked_within" = some (.ref g2)) :
    FnOk P w K mg base CX0 3 f fd ["first", "second", "place"] (spWWP fun a b p => optD As.d (rdSame a b p)) := by
  refine F.ok sc34 (fun vs H Q E h => ?_) (fun cdv A outer s H vs Q E hr h => ?_)
  · obtain ⟨a, b, p, rfl, _⟩ := h
    rfl
  obtain ⟨a, b, p, rfl, hla, hlb, q⟩ := h
  have q : ∀ (v : V) (H' : Hp), Is H' (optD As.d (rdSame a b p)) v → Same H H' → Q v H' := q
  obtain ⟨tO, mO⟩ := N.outside
  have r1 : Room 1 (A.deeper (envOfC "read_same" (defScope (top 35)) s.heap.objs.size f cdv)) := hr.mono (by decide)
  have hu65 : (A.deeper (envOfC "read_same" (defScope (top 35)) s.heap.objs.size f cdv)).units + 65 < cLine := by have := hr.un; omega
  have hu64 : (A.deeper (envOfC "read_same" (defScope (top 35)) s.heap.objs.size f cdv)).units + 64 < cLine := by omega
  refine ⟨_, pss_cons (ps_par (i := 3) (j := 4) rfl sc34.nd rfl rfl (by decide) rfl rfl (pa_cons (pe_call G hr rfl mG kG bG .nil pass0 (pa_cons (pv 0) pa_nil)) (pa_cons (pe_call G hr rfl mG kG bG .nil pass0 (pa_cons (pv 1) pa_nil)) pa_nil)) (by rfl))
    (C8.pss_cut (ps_if (pt_cmpR op_eq (pv 2) (pe_glob (v := .str "outside") (by rfl) mO ⟨_, rfl⟩) (nomark _))
        (pss_one (ps_set (i := 5) sc34.nd rfl (.inl rfl) (pe_and (pe_cmpR op_notN (pv 3) pe_non (nomark _)) (pe_and (pe_cmpR op_notN (pv 4) pe_non (nomark _)) (pe_one (pe_cmpR (op_neD hu64) (pv 3) (pv 4) (nomark _)))))))
        (pss_one (ps_set (i := 5) sc34.nd rfl (.inl rfl) (pe_and (pe_cmpR op_eq (pv 1) pe_str (nomark _)) (pe_one (pe_cmpR (show OpR _ _ (rInDT K) from op_inDT hu65) (pv 3) (pe_call W r1 rfl mW kW bW .nil pass0 (pa_cons (pv 2) pa_nil)) (by rfl)))))))
    (pss_one (ps_ret (pe_ifExp (pt_val (pv 5)) (pe_tup (pa_cons pe_str (pa_cons (pv 3) (pa_cons (pv 4) pa_nil)))) pe_non)))), ?_⟩
  refine ⟨_, rfl, a, rfl, hla, fun v1 H1 i1 s1 => ⟨_, rfl, b, rfl, hlb, fun v2 H2 i2 s2 => ⟨v1, v2, rfl, ?_⟩⟩⟩
  have i1' : Is H2 (optD Ln.Tm.d (rdTerm a)) v1 := i1.same s2
  have i2 : Is H2 (optD Ln.Tm.d (rdTerm b)) v2 := i2
  have s12 := s1.trans s2
  refine ⟨fun σ H' => ∃ k : Bool, σ = [some (.str a), some (.str b), some (.str p), some v1, some v2, some (.bl k)] ∧ Same H2 H' ∧ (k = true → ∃ x y, rdTerm a = some x ∧ rdTerm b = some y ∧ rdSame a b p = some (.same x y)) ∧ (k = false → rdSame a b p = none), ?_, ?_⟩
  · refine ⟨_, rfl, rfl, _, rfl, ?_⟩
    refine if2 (fun c => ?_) (fun c => ?_)
    · have c : p = "outside" := by
        have c' : decide (V.str p = V.str "outside") = true := c
        rw [dec_str] at c'
        exact of_decide_eq_true c'
      refine ⟨_, rfl, rfl, _, rfl, ?_⟩
      cases ea : rdTerm a with
      | none =>
        rw [ea] at i1'
        cases (show v1 = V.non from i1')
        refine ifF rfl ⟨false, rfl, Same.refl _, fun z => (by cases z), fun _ => ?_⟩
        unfold rdSame
        rw [ea]
      | some x =>
        have n1 : (!decide (v1 = V.non)) = true := by rw [term_non i1', ea]; rfl
        refine ifT n1 ?_
        refine ⟨_, rfl, rfl, _, rfl, ?_⟩
        cases eb : rdTerm b with
        | none =>
          rw [eb] at i2
          cases (show v2 = V.non from i2)
          refine ifF rfl ⟨false, rfl, Same.refl _, fun z => (by cases z), fun _ => ?_⟩
          unfold rdSame
          rw [ea, eb]
        | some y =>
          have n2 : (!decide (v2 = V.non)) = true := by rw [term_non i2, eb]; rfl
          refine ifT n2 ?_
          rw [ea] at i1'
          rw [eb] at i2
          refine ⟨_, rfl, _, rfl, x.py, y.py, tm_dp i1', tm_dp i2, tm_shaped ea, tm_shaped eb, _, rfl, Same.refl _, fun z => ⟨x, y, rfl, rfl, ?_⟩, fun z => ?_⟩
          · rw [tm_eqv] at z
            unfold rdSame
            rw [ea, eb]
            show (if (if p = "outside" then !decide (x = y) else _) = true then _ else _) = _
            rw [if_pos c, if_pos z]
          · rw [tm_eqv] at z
            unfold rdSame
            rw [ea, eb]
            show (if (if p = "outside" then !decide (x = y) else _) = true then _ else _) = _
            rw [if_pos c, z]
            rfl
    · have c : ¬ p = "outside" := by
        have c' : decide (V.str p = V.str "outside") = false := c
        rw [dec_str] at c'
        exact of_decide_eq_false c'
      refine ⟨_, rfl, rfl, ?_⟩
      refine ⟨_, rfl, ?_⟩
      rw [dec_str]
      refine if2 (fun cb => ?_) (fun cb => ?_)
      · have eb : rdTerm b = some (.reg "none") := by
          rw [of_decide_eq_true cb]
          decide +kernel
        refine ⟨_, rfl, _, rfl, p, rfl, fun v3 H3 i3 s3 => ?_⟩
        obtain ⟨a3, xs3, rfl, h3, r3⟩ := i3
        have dp3 : Dp K H3 (.ref a3) (.tuple ((askedIn p).map Tm.py)) := .tup (SqT.of h3) (tms_dp r3)
        obtain ⟨sh, de⟩ := asked_shaped p
        cases ea : rdTerm a with
        | none =>
          rw [ea] at i1'
          cases (show v1 = V.non from i1')
          refine ⟨.none, _, .non, dp3, by decide, sh, de, _, rfl, s3, fun z => ?_, fun _ => ?_⟩
          · rw [tm_any_none] at z
            cases z
          · unfold rdSame
            rw [ea]
        | some x =>
          rw [ea] at i1'
          have ee : rdSame a b p = if decide (b = "none") && decide (x ∈ askedIn p) then some (.same x (.reg "none")) else none := by
            unfold rdSame
            rw [ea, eb]
            show (if (if p = "outside" then _ else decide (b = "none") && decide (x ∈ askedIn p)) = true then _ else _) = _
            rw [if_neg c]
          refine ⟨x.py, _, tm_dp (i1'.same s3), dp3, tm_shaped ea, sh, de, _, rfl, s3, fun z => ⟨x, _, rfl, eb, ?_⟩, fun z => ?_⟩
          · rw [asked_any] at z
            rw [ee, cb, z]
            rfl
          · rw [asked_any] at z
            rw [ee, z, Bool.and_false]
            rfl
      · refine ⟨false, rfl, Same.refl _, fun z => (by cases z), fun _ => ?_⟩
        unfold rdSame
        cases ea : rdTerm a with
        | none => rfl
        | some x =>
          cases eb : rdTerm b with
          | none => rfl
          | some y =>
            show (if (if p = "outside" then _ else decide (b = "none") && decide (x ∈ askedIn p)) = true then _ else _) = _
            rw [if_neg c, cb, Bool.false_and]
            rfl
  rintro σ H4 ⟨k, rfl, s4, h1, h2⟩
  refine ⟨_, rfl, _, rfl, ?_⟩
  cases k with
  | true =>
    obtain ⟨x, y, ea, eb, e⟩ := h1 rfl
    rw [e] at q
    rw [ea] at i1'
    rw [eb] at i2
    refine ifT rfl ⟨_, rfl, _, rfl, (by show 3 ≤ sizeLine; decide), fun r nr => ?_⟩
    have u5 := same_new nr (.tup [.str "same", v1, v2])
    exact q _ _ ⟨r, _, rfl, upd_same, are3 rfl (i1'.same (s4.trans u5)) (i2.same (s4.trans u5))⟩ ((s12.trans s4).trans u5)
  | false =>
    rw [h2 rfl] at q
    exact ifF rfl (q _ _ rfl (s12.trans s4))
end
end K01
namespace K01
open PySem PySem.Spec PyProof.Rows L2 Xc Dt Ln
theorem dec_len {n m : Nat} : decide (V.int ((n : Nat) : Int) = V.int ((m : Nat) : Int)) = decide (n = m) := by
  by_cases h : n = m
  · rw [h, decide_eq_true rfl, decide_eq_true rfl]
  · rw [decide_eq_false h, decide_eq_false fun z => h (by have := V.int.inj z; omega)]
theorem at_words {ws : List Str} {j : Nat} {w : Str} (h : ws[j]? = some w) : atI (ws.map V.str) ((j : Nat) : Int) = some (.str w) := atI_nat (by rw [List.getElem?_map, h]; rfl)
section
variable {P : Program} {w : World} {K : PySem.W.Frag} {mg : Str → Option Value} {base : Heap} {f : Addr} {fd : FuncData}
def Wds (H : Hp) (l : Addr) (ws : List Str) : Prop := H l = some (.lst (ws.map V.str)) ∧ ws.length ≤ 4000 ∧ ∀ w ∈ ws, w.length ≤ 4000
def spLP (F : List Str → Str → D) : Sp := fun vs H Q _ => ∃ (l : Addr) (ws : List Str) (p : Str), vs = [.ref l, .str p] ∧ Wds H l ws ∧ ∀ (v : V) (H' : Hp), Is H' (F ws p) v → Same H H' → Q v H'
theorem sc31a : FnScope ["words", "place", "is_side"] ["words", "place"] (defScope (top 32)) := ⟨rfl, rfl, rfl, by decide +kernel, rfl, by decide +kernel, by decide +kernel⟩
theorem ok_asked {gl ge gs : Addr} {dl de ds : FuncData} (F : Fun K "read_asked" "read_asked" (top 32) f fd) (N : Gn K mg)
    (L : FnOk P w K mg base CX0 1 gl dl ["first", "second", "place"] (spWWP fun a b p => optD As.d (rdLess a b p))) (bL : Binds K dl ["first", "second", "place"] []) (kL : PySem.W.keepIn K (.ref gl) = true) (mL : mg "read_less" = some (.ref gl))
    (Eq : FnOk P w K mg base CX0 1 ge de ["name", "place"] (spWP fun a p => optD As.d (rdEqual a p))) (bE : Binds K de ["name", "place"] []) (kE : PySem.W.keepIn K (.ref ge) = true) (mE : mg "read_equal" = some (.ref ge))
    (S : FnOk P w K mg base CX0 3 gs ds ["first", "second", "place"] (spWWP fun a b p => optD As.d (rdSame a b p))) (bS : Binds K ds ["first", "second", "place"] []) (kS : PySem.W.keepIn K (.ref gs) = true) (mS : mg "read_same" = some (.ref gs)) :
    FnOk P w K mg base CX0 4 f fd ["words", "place"] (spLP fun ws p => optD As.d (rdAsked ws p)) := by
  refine F.ok sc31a (fun vs H Q E h => ?_) (fun cdv A outer s H vs Q E hr h => ?_)
  · obtain ⟨l, ws, p, rfl, _⟩ := h
    rfl
  obtain ⟨l, ws, p, rfl, ⟨hl, hn, hw⟩, q⟩ := h
  have q : ∀ (v : V) (H' : Hp), Is H' (optD As.d (rdAsked ws p)) v → Same H H' → Q v H' := q
  obtain ⟨tU, mU⟩ := N.up
  obtain ⟨aC, mC, cC⟩ := N.sides
  have r1 : Room 1 (A.deeper (envOfC "read_asked" (defScope (top 32)) s.heap.objs.size f cdv)) := hr.mono (by decide)
  refine ⟨_, pss_cons (ps_if (pt_cmpR op_eq (pe_callB call_len_seq (by rfl) N.len PySem.boot_len (pa_cons (pv 0) pa_nil)) pe_int (nomark _))
      (C8.pss_cut (ps_set (i := 2) sc31a.nd rfl (.inl rfl) (pe_and (pe_cmpR op_eq (pv 1) (pe_glob (v := .str "up") (by rfl) mU ⟨_, rfl⟩) (nomark _)) (pe_and (pe_cmpR op_eq (pe_ix (show IxR _ (rIxL K) from ix_list) (pv 0) pe_int (fun _ _ => rfl)) pe_str (nomark _)) (pe_one (pe_cmpR (show OpR _ _ (rIn K false) from op_in_seq) (pe_ix (show IxR _ (rIxL K) from ix_list) (pv 0) pe_int (fun _ _ => rfl)) (pe_glob (v := .ref aC) (by rfl) mC rfl) (by rfl))))))
      (pss_one (ps_ret (pe_ifExp (pt_val (pv 2)) (pe_tup (pa_cons pe_str (pa_cons (pe_ix (show IxR _ (rIxL K) from ix_list) (pv 0) pe_int (fun _ _ => rfl)) pa_nil))) pe_non)))) pss_nil)
    (pss_cons (ps_if (pt_cmpR op_ne (pe_callB call_len_seq (by rfl) N.len PySem.boot_len (pa_cons (pv 0) pa_nil)) pe_int (nomark _)) (pss_one (ps_ret pe_non)) pss_nil)
    (pss_cons (ps_if (pt_cmpR op_eq (pe_ix (show IxR _ (rIxL K) from ix_list) (pv 0) pe_int (fun _ _ => rfl)) pe_str (nomark _)) (pss_one (ps_ret (pe_call L r1 rfl mL kL bL .nil pass0 (pa_cons (pe_ix (show IxR _ (rIxL K) from ix_list) (pv 0) pe_int (fun _ _ => rfl)) (pa_cons (pe_ix (show IxR _ (rIxL K) from ix_list) (pv 0) pe_int (fun _ _ => rfl)) (pa_cons (pv 1) pa_nil)))))) pss_nil)
    (pss_cons (ps_if (pt_cmpR op_ne (pe_ix (show IxR _ (rIxL K) from ix_list) (pv 0) pe_int (fun _ _ => rfl)) pe_str (nomark _)) (pss_one (ps_ret pe_non)) pss_nil)
    (pss_cons (ps_if (pt_cmpR op_eq (pe_ix (show IxR _ (rIxL K) from ix_list) (pv 0) pe_int (fun _ _ => rfl)) pe_str (nomark _)) (pss_one (ps_ret (pe_call Eq r1 rfl mE kE bE .nil pass0 (pa_cons (pe_ix (show IxR _ (rIxL K) from ix_list) (pv 0) pe_int (fun _ _ => rfl)) (pa_cons (pv 1) pa_nil))))) pss_nil)
    (pss_one (ps_ret (pe_call S hr rfl mS kS bS .nil pass0 (pa_cons (pe_ix (show IxR _ (rIxL K) from ix_list) (pv 0) pe_int (fun _ _ => rfl)) (pa_cons (pe_ix (show IxR _ (rIxL K) from ix_list) (pv 0) pe_int (fun _ _ => rfl)) (pa_cons (pv 1) pa_nil)))))))))), ?_⟩
  have hlen : (ws.map V.str).length = ws.length := List.length_map _
  refine ⟨_, rfl, l, _, rfl, .inl (SqL.of hl), rfl, _, rfl, ?_⟩
  refine if2 (fun c => ?_) (fun c => ?_)
  · have c : ws.length = 2 := by
      have c' : decide (V.int (((ws.map V.str).length : Nat) : Int) = V.int ((2 : Nat) : Int)) = true := c
      rw [dec_len, hlen] at c'
      exact of_decide_eq_true c'
    obtain ⟨a, b, rfl⟩ : ∃ a b, ws = [a, b] := by
      match ws, c with
      | [a, b], _ => exact ⟨a, b, rfl⟩
    have eq0 : rdAsked [a, b] p = if decide (p = "up") && (decide (a = "from") && has sides b) then some (.frm b) else none := rfl
    rw [eq0] at q
    refine ⟨fun σ H' => σ = [some (.ref l), some (.str p), some (.bl (decide (p = "up") && (decide (a = "from") && has sides b)))] ∧ H' = H, ?_, ?_⟩
    · refine ⟨_, rfl, rfl, _, rfl, ?_⟩
      rw [dec_str]
      refine if2 (fun c1 => ?_) (fun c1 => ⟨by rw [c1]; rfl, rfl⟩)
      refine ⟨_, rfl, l, _, _, _, rfl, rfl, SqL.of hl, at_words (j := 0) rfl, rfl, _, rfl, ?_⟩
      rw [dec_str]
      refine if2 (fun c2 => ?_) (fun c2 => ⟨by rw [c1, c2]; rfl, rfl⟩)
      refine ⟨_, rfl, l, _, _, _, rfl, rfl, SqL.of hl, at_words (j := 1) rfl, aC, _, rfl, .inr (cC _), rfl, flat_strs' _, ?_, rfl⟩
      rw [c1, c2]
      show [some (V.ref l), some (V.str p), some (V.bl (inV (.str b) (sides.map V.str)))] = _
      rw [inV_has]
      rfl
    rintro σ H1 ⟨rfl, rfl⟩
    generalize (decide (p = "up") && (decide (a = "from") && has sides b)) = k at q ⊢
    refine ⟨_, rfl, _, rfl, ?_⟩
    cases k with
    | true => exact ifT rfl ⟨_, rfl, l, _, _, _, rfl, rfl, SqL.of hl, at_words (j := 1) rfl, (by show 2 ≤ sizeLine; decide), fun r nr => q _ _ ⟨r, _, rfl, upd_same, are2 rfl rfl⟩ (same_new nr _)⟩
    | false => exact ifF rfl (q _ _ rfl (Same.refl _))
  · have c : ¬ ws.length = 2 := by
      have c' : decide (V.int (((ws.map V.str).length : Nat) : Int) = V.int ((2 : Nat) : Int)) = false := c
      rw [dec_len, hlen] at c'
      exact of_decide_eq_false c'
    refine ⟨_, rfl, l, _, rfl, .inl (SqL.of hl), rfl, _, rfl, ?_⟩
    refine if2 (fun c3 => ?_) (fun c3 => ?_)
    · have c3 : ¬ ws.length = 3 := by
        have c' : (!decide (V.int (((ws.map V.str).length : Nat) : Int) = V.int ((3 : Nat) : Int))) = true := c3
        rw [dec_len, hlen] at c'
        intro z
        rw [decide_eq_true z] at c'
        cases c'
      have e : rdAsked ws p = none := by
        match ws, c, c3 with
        | [], _, _ => rfl
        | [_], _, _ => rfl
        | [_, _], c, _ => exact absurd rfl c
        | [_, _, _], _, c3 => exact absurd rfl c3
        | _ :: _ :: _ :: _ :: _, _, _ => rfl
      rw [e] at q
      exact q _ _ rfl (Same.refl _)
    · have c3 : ws.length = 3 := by
        have c' : (!decide (V.int (((ws.map V.str).length : Nat) : Int) = V.int ((3 : Nat) : Int))) = false := c3
        rw [dec_len, hlen] at c'
        cases e : decide (ws.length = 3) with
        | true => exact of_decide_eq_true e
        | false => rw [e] at c'; cases c'
      obtain ⟨a, b, d, rfl⟩ : ∃ a b d, ws = [a, b, d] := by
        match ws, c3 with
        | [a, b, d], _ => exact ⟨a, b, d, rfl⟩
      have eq0 : rdAsked [a, b, d] p = if b = "<" then rdLess a d p else if b = "is" then (if a = "key" then rdEqual d p else rdSame a d p) else none := rfl
      rw [eq0] at q
      have la := hw a (by simp)
      have ld := hw d (by simp)
      refine ⟨_, rfl, l, _, _, _, rfl, rfl, SqL.of hl, at_words (j := 1) rfl, rfl, _, rfl, ?_⟩
      rw [dec_str]
      refine if2 (fun c4 => ?_) (fun c4 => ?_)
      · rw [if_pos (of_decide_eq_true c4)] at q
        exact ⟨_, rfl, l, _, _, _, rfl, rfl, SqL.of hl, at_words (j := 0) rfl, _, rfl, l, _, _, _, rfl, rfl, SqL.of hl, at_words (j := 2) rfl, _, rfl, a, d, p, rfl, la, ld, fun v H' i s => q v H' i s⟩
      rw [if_neg (of_decide_eq_false c4)] at q
      refine ⟨_, rfl, l, _, _, _, rfl, rfl, SqL.of hl, at_words (j := 1) rfl, rfl, _, rfl, ?_⟩
      rw [dec_str]
      refine if2 (fun c5 => ?_) (fun c5 => ?_)
      · have c6 : ¬ b = "is" := fun z => by
          rw [decide_eq_true z] at c5
          cases c5
        rw [if_neg c6] at q
        exact q _ _ rfl (Same.refl _)
      · have c6 : b = "is" := by
          cases e : decide (b = ("is" : Str)) with
          | true => exact of_decide_eq_true e
          | false => rw [e] at c5; cases c5
        rw [if_pos c6] at q
        refine ⟨_, rfl, l, _, _, _, rfl, rfl, SqL.of hl, at_words (j := 0) rfl, rfl, _, rfl, ?_⟩
        rw [dec_str]
        refine if2 (fun c7 => ?_) (fun c7 => ?_)
        · rw [if_pos (of_decide_eq_true c7)] at q
          exact ⟨_, rfl, l, _, _, _, rfl, rfl, SqL.of hl, at_words (j := 2) rfl, _, rfl, d, p, rfl, fun v H' i s => q v H' i s⟩
        · rw [if_neg (of_decide_eq_false c7)] at q
          exact ⟨_, rfl, l, _, _, _, rfl, rfl, SqL.of hl, at_words (j := 0) rfl, _, rfl, l, _, _, _, rfl, rfl, SqL.of hl, at_words (j := 2) rfl, _, rfl, a, d, p, rfl, la, ld, fun v H' i s => q v H' i s⟩
end
end K01
/-! a local name that holds a def, called in a try; a datum compared with itself. -/
namespace Dt
open PySem PySem.Spec PyProof.Rows L2 Xc
section
variable {X : Cx} {CX : CXT} {k i : Nat} {f : Addr} {fd : FuncData} {ps : List Str} {sp : Sp} {E : L2.St → XK} {x : Str} {p pos : Pos} {e : Expr} {es : List Expr} {t : TA}
/-- the i-th slot holds the def at f, which may raise -/
def tCallLS (i : Nat) (f : Addr) (sp : Sp) (E : L2.St → XK) (t : TA) : TE := fun σ H Q => σ[i]? = some (some (.ref f)) ∧ t σ H fun vs H1 => sp vs H1 Q (E σ)
theorem pe_callLS (F : FnOk X.prog X.w X.K X.mg X.base CX k f fd ps sp) (hr : Room k X.A) (hN : X.N[i]? = some x) (hv : Vis X.env.scope x) (hk : PySem.W.keepIn X.K (.ref f) = true) (hb : Binds X.K fd ps []) (hx : ∀ σ, PassesAt CX X σ (E σ)) (ha : PA X (e :: es) t)
    (hdb : (x == ("__debug__" : Str)) = false := by decide) (hcd : (x == ("__classdict__" : Str)) = false := by decide)
    (he : starEach (e :: es) X.env = (false, eval e X.env) :: starEach es X.env := by rfl) (hpl : (backTo pos (starEach es X.env)).any (·.1) = false := by rfl) : PE X (.Call (.Name x p) (e :: es) [] pos) (tCallLS i f sp E t) := by
  refine ⟨fun pins s σ H Q I h => ?_⟩
  obtain ⟨hs, ht⟩ := h
  refine wpAny_Call_Name_kw (thn ((pe_var (pos := p) hN hv hdb hcd).run pins s σ H (fun v H1 => v = .ref f ∧ H1 = H) I ⟨.ref f, hs, rfl, rfl⟩) fun u s1 ⟨v, H1, I1, r1, q1⟩ => ?_)
  obtain ⟨rfl, rfl⟩ := q1
  cases r1
  refine PySem.W.callWith_K (h₀ := X.base) I.ok.mod.kin hk (thn (ha.run pos pins s1 σ _ _ I1 ht) fun us s2 ⟨vs, H2, I2, r, q⟩ => ⟨I2.kIn, ?_⟩) he hpl
  exact run_fnS F hr hb (hx σ) I2 r q
end
theorem is_flat {H : Hp} : ∀ {d : D} {v : V}, Is H d v → Flat v
  | .non, _, h => by cases (show _ = V.non from h); exact .inl rfl
  | .bl b, _, h => by cases (show _ = V.bl b from h); exact .inl rfl
  | .int i, _, h => by cases (show _ = V.int i from h); exact .inl rfl
  | .str s, _, h => by cases (show _ = V.str s from h); exact .inl rfl
  | .tup _, _, h => by obtain ⟨a, xs, rfl, q, _⟩ := h; exact .inr ⟨a, rfl⟩
  | .lst _, _, h => by obtain ⟨a, xs, rfl, q, _⟩ := h; exact .inr ⟨a, rfl⟩
  | .dct, _, h => by obtain ⟨a, rfl, q⟩ := h; exact .inr ⟨a, rfl⟩
theorem are_flat {H : Hp} : ∀ {ds : List D} {xs : List V}, Are H ds xs → ∀ v ∈ xs, Flat v
  | [], _, h, v, hv => by cases (show _ = [] from h); cases hv
  | d :: ds, _, h, v, hv => by
    obtain ⟨x, r, rfl, q, t⟩ := h
    rcases List.mem_cons.mp hv with rfl | hv
    · exact is_flat q
    · exact are_flat t v hv
/-- x == y, both the same datum -/
def rEqSelf : R2 := fun x y H Q => y = x ∧ (∃ d : D, Is H d x) ∧ Q (.bl true) H
theorem op_eqSelf {X : Cx} (hu : X.A.units + 64 < cLine) : OpR X (compareOp .Eq) rEqSelf := by
  intro pins s σ H x y v u Q I rx ry h
  obtain ⟨rfl, ⟨d, hd⟩, q⟩ := h
  have all : ∀ n : Nat, ((List.range n).all fun _ => true) = true := fun n => List.all_eq_true.mpr fun _ _ => rfl
  cases d with
  | tup ds =>
    obtain ⟨a, xs, rfl, e, t⟩ := hd
    obtain ⟨us, r1, p1, _⟩ := I.tuple (SqT.of (K := X.K) e)
    cases rx
    cases ry
    refine SeqAt.rcIn_tuples (e := fun _ => true) p1 p1 (show X.A.units < cLine by omega) (fun j h1 h2 => ?_) ?_
    · have k := items_same (A := X.A.in1) (s := s) (are_flat t) r1 r1 j (by simpa using h1) (by simpa using h2)
      exact (by simpa using k : SeqAt.EqAt X.A.in1 s us.toArray[j] us.toArray[j] true).inModel _ _
    · rw [all, Bool.true_and, beq_self_eq_true]
      exact ⟨.bl true, H, I, rfl, q⟩
  | lst ds =>
    obtain ⟨a, xs, rfl, e, t⟩ := hd
    obtain ⟨us, r1, p1, _⟩ := I.list (SqL.of (K := X.K) e)
    cases rx
    cases ry
    refine SeqAt.rcIn_lists (e := fun _ => true) p1.isList p1.isList rfl (show X.A.units < cLine by omega) (fun j h1 h2 => ?_) ?_
    · have k := items_same (A := X.A.in1) (s := s) (are_flat t) r1 r1 j (by simpa using h1) (by simpa using h2)
      exact (by simpa using k : SeqAt.EqAt X.A.in1 s us.toArray[j] us.toArray[j] true).inModel _ _
    · rw [all]
      exact ⟨.bl true, H, I, rfl, q⟩
  | dct =>
    obtain ⟨a, rfl, e⟩ := hd
    exact op_eq_dict (X := X) (by omega) pins s σ H _ _ v u Q I rx ry ⟨a, a, [], rfl, rfl, e, e, List.nodup_nil, fun p hp => (by cases hp), q⟩
  | non =>
    cases (show y = V.non from hd)
    exact op_eq (X := X) pins s σ H _ _ v u Q I rx ry ⟨rfl, (by rw [decide_eq_true rfl]; exact q)⟩
  | bl b =>
    cases (show y = V.bl b from hd)
    exact op_eq (X := X) pins s σ H _ _ v u Q I rx ry ⟨rfl, (by rw [decide_eq_true rfl]; exact q)⟩
  | int i =>
    cases (show y = V.int i from hd)
    exact op_eq (X := X) pins s σ H _ _ v u Q I rx ry ⟨rfl, (by rw [decide_eq_true rfl]; exact q)⟩
  | str z =>
    cases (show y = V.str z from hd)
    exact op_eq (X := X) pins s σ H _ _ v u Q I rx ry ⟨rfl, (by rw [decide_eq_true rfl]; exact q)⟩
end Dt
/-! != of lists, tuples and dicts whose values are tuples of flat items, both sides alike. -/
namespace Dt
open PySem PySem.Spec PyProof.Rows L2 Xc
/-- two tuples of the same flat items -/
def TwT (H : Hp) (x y : V) : Prop := ∃ (c c' : Addr) (zs : List V), x = .ref c ∧ y = .ref c' ∧ H c = some (.tup zs) ∧ H c' = some (.tup zs) ∧ ∀ v ∈ zs, Flat v
theorem twt_eqAt {X : Cx} {pins : List (Addr × Obj)} {σ : L2.St} {H : Hp} {s : Shared} {A : Around} (I : Inv X pins σ H s) (hu : A.units < cLine) {x y : V} {u v : Value} (rx : RelV x u) (ry : RelV y v) (t : TwT H x y) : SeqAt.EqAt A s u v true := by
  obtain ⟨c, c', zs, rfl, rfl, ec, ec', fl⟩ := t
  cases rx
  cases ry
  by_cases h : c = c'
  · subst h
    exact SeqAt.EqAt.same _
  · obtain ⟨us, r1, p1, _⟩ := I.tuple (SqT.of (K := X.K) ec)
    obtain ⟨ws, r2, p2, _⟩ := I.tuple (SqT.of (K := X.K) ec')
    have hsz : us.toArray.size = ws.toArray.size := by rw [List.size_toArray, List.size_toArray, ← r1.length, ← r2.length]
    have k := SeqAt.RcAt.tuples (e := fun _ => true) p1 p2 hu (fun j h1 h2 => by
      have k := items_same (A := A.in1) (s := s) fl r1 r2 j (by simpa using h1) (by simpa using h2)
      simpa using k)
    rw [show ((List.range (min us.toArray.size ws.toArray.size)).all fun _ => true) = true from List.all_eq_true.mpr fun _ _ => rfl, hsz, Bool.true_and, beq_self_eq_true] at k
    exact SeqAt.EqAt.of_refs h k
theorem twts_eqAt {X : Cx} {pins : List (Addr × Obj)} {σ : L2.St} {H : Hp} {s : Shared} {A : Around} (I : Inv X pins σ H s) (hu : A.units < cLine) : ∀ {xs ys : List V} {us ws : List Value}, Paired (TwT H) xs ys → Vals xs us → Vals ys ws → ∀ j (h1 : j < us.length) (h2 : j < ws.length), SeqAt.EqAt A s us[j] ws[j] true
  | _, _, _, _, .nil, .nil, .nil, j, h1, _ => absurd h1 (Nat.not_lt_zero j)
  | _, _, _, _, .cons t ts, .cons r1 t1, .cons r2 t2, j, h1, h2 => by
    cases j with
    | zero => exact twt_eqAt I hu r1 r2 t
    | succ j => exact twts_eqAt I hu ts t1 t2 j (Nat.lt_of_succ_lt_succ h1) (Nat.lt_of_succ_lt_succ h2)
def rNePr (K : PySem.W.Frag) : R2 := fun x y H Q => ∃ (a b : Addr) (xs ys : List V), x = .ref a ∧ y = .ref b ∧ ((SqL K H a xs ∧ SqL K H b ys) ∨ (SqT K H a xs ∧ SqT K H b ys)) ∧ Paired (TwT H) xs ys ∧ Q (.bl false) H
theorem op_nePr {X : Cx} (hu : X.A.units + 64 < cLine) : OpR X (compareOp .NotEq) (rNePr X.K) := by
  intro pins s σ H x y v u Q I rx ry h
  obtain ⟨a, b, xs, ys, rfl, rfl, hs, hp, q⟩ := h
  cases rx
  cases ry
  have hlen := Paired.length hp
  have all : ∀ n : Nat, ((List.range n).all fun _ => true) = true := fun n => List.all_eq_true.mpr fun _ _ => rfl
  have hu1 : X.A.in1.units < cLine := by show X.A.units + 1 < cLine; omega
  rcases hs with ⟨ha, hb⟩ | ⟨ha, hb⟩
  · obtain ⟨us, r1, p1, _⟩ := I.list ha
    obtain ⟨ws, r2, p2, _⟩ := I.list hb
    have hsz : us.toArray.size = ws.toArray.size := by rw [List.size_toArray, List.size_toArray, ← r1.length, ← r2.length, hlen]
    refine SeqAt.RcNeAt.lists (e := fun _ => true) p1.isList p2.isList hsz (show X.A.units < cLine by omega) (fun j h1 h2 => ?_) _ _ _ _ ?_
    · have k := twts_eqAt I hu1 hp r1 r2 j (by simpa using h1) (by simpa using h2)
      simpa using k
    · rw [all]
      exact ⟨.bl false, H, I, rfl, q⟩
  · obtain ⟨us, r1, p1, _⟩ := I.tuple ha
    obtain ⟨ws, r2, p2, _⟩ := I.tuple hb
    have hsz : us.toArray.size = ws.toArray.size := by rw [List.size_toArray, List.size_toArray, ← r1.length, ← r2.length, hlen]
    refine SeqAt.RcNeAt.tuples (e := fun _ => true) p1 p2 (show X.A.units < cLine by omega) (fun j h1 h2 => ?_) _ _ _ _ ?_
    · have k := twts_eqAt I hu1 hp r1 r2 j (by simpa using h1) (by simpa using h2)
      simpa using k
    · rw [all, hsz, Bool.true_and, beq_self_eq_true]
      exact ⟨.bl false, H, I, rfl, q⟩
/-- dicts whose values are such tuples -/
def rNeDr : R2 := fun x y H Q => ∃ (a b : Addr) (ks ls : List (Key × V)), x = .ref a ∧ y = .ref b ∧ H a = some (.dK ks) ∧ H b = some (.dK ls) ∧ ks.length = ls.length ∧ (∀ p ∈ ks, ∃ z, valV ls p.1 = some z ∧ TwT H p.2 z) ∧ Q (.bl false) H
theorem hits_tw {X : Cx} {pins : List (Addr × Obj)} {σ : L2.St} {H : Hp} {s : Shared} {A : Around} (I : Inv X pins σ H s) (hu : A.units < cLine) {ls : List (Key × V)} {vb : List (Key × Value)} (rb : KV ls vb) {ks : List (Key × V)} {va : List (Key × Value)} (ra : KV ks va) :
    (∀ p ∈ ks, ∃ z, valV ls p.1 = some z ∧ TwT H p.2 z) → PySem.W.KeqHits A s vb va true := by
  unfold KV at ra
  induction ra with
  | nil => intro _; exact .nil
  | @cons p q ps qs h t ih =>
    intro hp
    obtain ⟨h1, h2⟩ := h
    obtain ⟨z, e, f⟩ := hp p List.mem_cons_self
    have rr : RelO (some z) (valueAt vb p.1) := by rw [← e]; exact rb.val p.1
    obtain ⟨y, hy, ry⟩ := rr.some_of
    obtain ⟨k, v⟩ := q
    have h1' : p.1 = k := h1
    rw [h1'] at hy
    show PySem.W.KeqHits A s vb ((k, v) :: qs) (true && true)
    exact .hit hy (twt_eqAt I hu h2 ry f) (ih fun p' hm => hp p' (List.mem_cons_of_mem _ hm))
theorem op_neDr {X : Cx} (hu : X.A.units + 64 < cLine) : OpR X (compareOp .NotEq) rNeDr := by
  intro pins s σ H x y v u Q I rx ry h
  obtain ⟨a, b, ks, ls, rfl, rfl, ea, eb, hlen, hp, q⟩ := h
  obtain rfl : v = Value.ref a := rx
  obtain rfl : u = Value.ref b := ry
  obtain ⟨_, ya, va, ra, da⟩ := (show ObjOk X.prog X.w H s.heap a (.dK ks) from I.hok a _ ea)
  obtain ⟨_, yb, vb, rb, db⟩ := (show ObjOk X.prog X.w H s.heap b (.dK ls) from I.hok b _ eb)
  have hl : va.length = vb.length := by rw [← ra.length, ← rb.length]; exact hlen
  refine PySem.W.keq_ne (knd := mixKind X.prog X.w) (r := true) ya yb da db (show X.A.units < cLine by omega) (fun _ => hits_tw I (show X.A.in1.units < cLine by show X.A.units + 1 < cLine; omega) rb ra hp) ?_
  rw [hl, beq_self_eq_true, Bool.true_and]
  exact ⟨.bl false, H, I, rfl, q⟩
end Dt
/-! lists of texts compared: ==, !=, in a tuple of such lists. -/
namespace Dt
open PySem PySem.Spec PyProof.Rows L2 Xc
theorem map_str_inj : ∀ {a b : List Str}, a.map V.str = b.map V.str → a = b
  | [], [], _ => rfl
  | [], _ :: _, h => by cases h
  | _ :: _, [], h => by cases h
  | x :: a, y :: b, h => by
    obtain ⟨h1, h2⟩ := List.cons.inj h
    rw [V.str.inj h1, map_str_inj h2]
theorem all_at (ws us : List Str) (h : ws.length = us.length) : ((List.range ws.length).all fun j => decide (ws[j]? = us[j]?)) = decide (ws = us) := by
  rw [Bool.eq_iff_iff, List.all_eq_true, decide_eq_true_eq]
  constructor
  · intro a
    refine List.ext_getElem? fun j => ?_
    by_cases hj : j < ws.length
    · exact of_decide_eq_true (a j (List.mem_range.mpr hj))
    · rw [List.getElem?_eq_none (by omega), List.getElem?_eq_none (by omega)]
  · rintro rfl j _
    exact decide_eq_true rfl
theorem str_at {A : Around} {s : Shared} {ws us : List Str} {vs zs : List Value} (r1 : Vals (ws.map V.str) vs) (r2 : Vals (us.map V.str) zs) (j : Nat) (h1 : j < vs.length) (h2 : j < zs.length) : SeqAt.EqAt A s vs[j] zs[j] (decide (ws[j]? = us[j]?)) := by
  have l1 : ws.length = vs.length := by rw [← r1.length, List.length_map]
  have l2 : us.length = zs.length := by rw [← r2.length, List.length_map]
  obtain ⟨w, hw, t, ht⟩ := r1.get (i := j) (x := .str ws[j]) (by rw [List.getElem?_map, List.getElem?_eq_getElem (by omega)]; rfl)
  obtain ⟨u, hu, t', ht'⟩ := r2.get (i := j) (x := .str us[j]) (by rw [List.getElem?_map, List.getElem?_eq_getElem (by omega)]; rfl)
  rw [List.getElem?_eq_getElem h1] at hw
  rw [List.getElem?_eq_getElem h2] at hu
  rw [Option.some.inj hw, Option.some.inj hu, ht, ht', List.getElem?_eq_getElem (by omega), List.getElem?_eq_getElem (by omega)]
  have e : decide (some (ws[j]'(by omega)) = some (us[j]'(by omega))) = (ws[j]'(by omega) == us[j]'(by omega)) := by
    rw [Bool.eq_iff_iff, decide_eq_true_eq, beq_iff_eq]
    exact ⟨fun h => Option.some.inj h, fun h => by rw [h]⟩
  rw [e]
  exact SeqAt.EqAt.str_str _ _ _ _
theorem strs_eqAt {X : Cx} {pins : List (Addr × Obj)} {σ : L2.St} {H : Hp} {s : Shared} {A : Around} (I : Inv X pins σ H s) (hu : A.units < cLine) {c c' : Addr} {ws us : List Str} (h1 : H c = some (.lst (ws.map V.str))) (h2 : H c' = some (.lst (us.map V.str))) : SeqAt.EqAt A s (.ref c) (.ref c') (decide (ws = us)) := by
  by_cases h : c = c'
  · subst h
    rw [h1] at h2
    have e : ws = us := by
      have e := HO.lst.inj (Option.some.inj h2)
      exact map_str_inj e
    rw [decide_eq_true e]
    exact SeqAt.EqAt.same _
  · obtain ⟨vs, r1, p1, _⟩ := I.list (SqL.of (K := X.K) h1)
    obtain ⟨zs, r2, p2, _⟩ := I.list (SqL.of (K := X.K) h2)
    have l1 : ws.length = vs.toArray.size := by rw [List.size_toArray, ← r1.length, List.length_map]
    have l2 : us.length = zs.toArray.size := by rw [List.size_toArray, ← r2.length, List.length_map]
    refine SeqAt.EqAt.of_refs h ?_
    by_cases hl : ws.length = us.length
    · rw [← all_at ws us hl, l1]
      refine SeqAt.RcAt.lists (e := fun j => decide (ws[j]? = us[j]?)) p1.isList p2.isList (by omega) hu fun j a b => ?_
      have k := str_at (A := A.in1) (s := s) r1 r2 j (by simpa using a) (by simpa using b)
      simpa using k
    · rw [decide_eq_false fun z => hl (by rw [z])]
      exact SeqAt.RcAt.lists_lengths p1.isList p2.isList (by rw [bne_iff_ne]; omega) hu
def rEqStrs : R2 := fun x y H Q => ∃ (a b : Addr) (ws us : List Str), x = .ref a ∧ y = .ref b ∧ a ≠ b ∧ H a = some (.lst (ws.map V.str)) ∧ H b = some (.lst (us.map V.str)) ∧ Q (.bl (decide (ws = us))) H
theorem op_eqStrs {X : Cx} (hu : X.A.units + 64 < cLine) : OpR X (compareOp .Eq) rEqStrs := by
  intro pins s σ H x y v u Q I rx ry h
  obtain ⟨a, b, ws, us, rfl, rfl, ne, h1, h2, q⟩ := h
  cases rx
  cases ry
  obtain ⟨vs, r1, p1, _⟩ := I.list (SqL.of (K := X.K) h1)
  obtain ⟨zs, r2, p2, _⟩ := I.list (SqL.of (K := X.K) h2)
  have l1 : ws.length = vs.toArray.size := by rw [List.size_toArray, ← r1.length, List.length_map]
  have l2 : us.length = zs.toArray.size := by rw [List.size_toArray, ← r2.length, List.length_map]
  by_cases hl : ws.length = us.length
  · rw [← all_at ws us hl, l1] at q
    refine SeqAt.RcAt.lists (e := fun j => decide (ws[j]? = us[j]?)) p1.isList p2.isList (by omega) (show X.A.units < cLine by omega) (fun j a b => ?_) _ _ _ _ ⟨.bl _, H, I, rfl, q⟩
    have k := str_at (A := X.A.in1) (s := s) r1 r2 j (by simpa using a) (by simpa using b)
    simpa using k
  · rw [decide_eq_false fun z => hl (by rw [z])] at q
    exact SeqAt.RcAt.lists_lengths p1.isList p2.isList (by rw [bne_iff_ne]; omega) (show X.A.units < cLine by omega) _ _ _ _ ⟨.bl _, H, I, rfl, q⟩
def rNeStrs : R2 := fun x y H Q => ∃ (a b : Addr) (ws us : List Str), x = .ref a ∧ y = .ref b ∧ a ≠ b ∧ H a = some (.lst (ws.map V.str)) ∧ H b = some (.lst (us.map V.str)) ∧ Q (.bl (!decide (ws = us))) H
theorem op_neStrs {X : Cx} (hu : X.A.units + 64 < cLine) : OpR X (compareOp .NotEq) rNeStrs := by
  intro pins s σ H x y v u Q I rx ry h
  obtain ⟨a, b, ws, us, rfl, rfl, ne, h1, h2, q⟩ := h
  cases rx
  cases ry
  obtain ⟨vs, r1, p1, _⟩ := I.list (SqL.of (K := X.K) h1)
  obtain ⟨zs, r2, p2, _⟩ := I.list (SqL.of (K := X.K) h2)
  have l1 : ws.length = vs.toArray.size := by rw [List.size_toArray, ← r1.length, List.length_map]
  have l2 : us.length = zs.toArray.size := by rw [List.size_toArray, ← r2.length, List.length_map]
  by_cases hl : ws.length = us.length
  · rw [← all_at ws us hl, l1] at q
    refine SeqAt.RcNeAt.lists (e := fun j => decide (ws[j]? = us[j]?)) p1.isList p2.isList (by omega) (show X.A.units < cLine by omega) (fun j a b => ?_) _ _ _ _ ⟨.bl _, H, I, rfl, q⟩
    have k := str_at (A := X.A.in1) (s := s) r1 r2 j (by simpa using a) (by simpa using b)
    simpa using k
  · rw [decide_eq_false fun z => hl (by rw [z])] at q
    exact SeqAt.RcNeAt.lists_lengths p1.isList p2.isList (by rw [bne_iff_ne]; omega) (show X.A.units < cLine by omega) _ _ _ _ ⟨.bl _, H, I, rfl, q⟩
/-- x in t: t a tuple of lists of texts -/
def rInStrs (K : PySem.W.Frag) : R2 := fun x y H Q => ∃ (a t : Addr) (ws : List Str) (cs : List Addr) (uss : List (List Str)), x = .ref a ∧ y = .ref t ∧ H a = some (.lst (ws.map V.str)) ∧ SqT K H t (cs.map V.ref) ∧ Paired (fun c us => H c = some (.lst (us.map V.str))) cs uss ∧ Q (.bl (uss.any fun us => decide (us = ws))) H
theorem op_inStrs {X : Cx} (hu : X.A.units + 64 < cLine) : OpR X (compareOp .In) (rInStrs X.K) := by
  intro pins s σ H x y v u Q I rx ry h
  obtain ⟨a, t, ws, cs, uss, rfl, rfl, h1, h2, hp, q⟩ := h
  cases rx
  cases ry
  obtain ⟨its, r2, p2, hz⟩ := I.tuple h2
  have e1 : its = cs.map Value.ref := by
    clear p2 hp h2 hz
    revert its
    induction cs with
    | nil => intro its r; cases r; rfl
    | cons c cs ih =>
      intro its r
      cases r with
      | cons r t => cases r; rw [ih _ t]; rfl
  subst e1
  let e : Value → Bool := fun v => match v with
    | .ref c => match H c with
      | some (.lst xs) => decide (xs = ws.map V.str)
      | _ => false
    | _ => false
  have inj : ∀ us : List Str, decide (us.map V.str = ws.map V.str) = decide (us = ws) := fun us => by
    by_cases h : us = ws
    · rw [h, decide_eq_true rfl, decide_eq_true rfl]
    · rw [decide_eq_false h, decide_eq_false fun z => h (map_str_inj z)]
  refine SeqAt.in_tupleAt e p2 (fun y hy => ?_) ?_
  · obtain ⟨c, hc, rfl⟩ : ∃ c, c ∈ cs ∧ Value.ref c = y := List.mem_map.mp (by simpa using hy)
    clear hy
    obtain ⟨us, hus⟩ : ∃ us : List Str, H c = some (.lst (us.map V.str)) := by
      clear p2 r2 h2 q hz
      induction hp with
      | nil => cases hc
      | cons h _ ih =>
        rcases List.mem_cons.mp hc with rfl | hc
        · exact ⟨_, h⟩
        · exact ih hc
    have k := strs_eqAt (A := X.A.in1) I (by show X.A.units + 1 < cLine; omega) hus h1
    have ee : e (.ref c) = decide (us = ws) := by
      show (match H c with
        | some (.lst xs) => decide (xs = ws.map V.str)
        | _ => false) = _
      rw [hus]
      exact inj us
    rw [ee]
    exact k
  · have ee : ((cs.map Value.ref).toArray.any e) = uss.any fun us => decide (us = ws) := by
      rw [List.any_toArray]
      clear p2 r2 h2 q hz
      induction hp with
      | nil => rfl
      | cons h _ ih =>
        rw [List.map_cons, List.any_cons, List.any_cons, ih]
        congr 1
        show (match H _ with
          | some (.lst xs) => decide (xs = ws.map V.str)
          | _ => false) = _
        rw [h]
        exact inj _
    rw [ee]
    exact ⟨.bl _, H, I, rfl, q⟩
end Dt
namespace K01
open PySem PySem.Spec PyProof.Rows L2 Xc Dt Ln
theorem cut_lo (xs : List V) (m : Nat) (h : m ≤ xs.length) : cutV xs none (some ((m : Nat) : Int)) = xs.take m := by
  unfold cutV
  rw [HT.sIx_none, HT.sIx_nat, List.drop_zero, Nat.min_eq_left h, Nat.sub_zero]
theorem cut_lo' (xs : List V) (m : Nat) : cutV xs none (some ((m : Nat) : Int)) = xs.take m := by
  unfold cutV
  rw [HT.sIx_none, HT.sIx_nat, List.drop_zero, Nat.sub_zero, ← List.take_eq_take_min]
theorem cut_hi' (xs : List V) (m : Nat) : cutV xs (some ((m : Nat) : Int)) none = xs.drop m := by
  unfold cutV
  rw [HT.sIx_none, HT.sIx_nat]
  by_cases h : m ≤ xs.length
  · rw [Nat.min_eq_left h, ← List.length_drop, List.take_length]
  · rw [Nat.min_eq_right (by omega), Nat.sub_self, List.take_zero, List.drop_eq_nil_of_le (by omega)]
section
variable {P : Program} {w : World} {K : PySem.W.Frag} {mg : Str → Option Value} {base : Heap} {f : Addr} {fd : FuncData}
theorem sc30 : FnScope ["words", "place", "holds", "asked"] ["words", "place"] (defScope (top 31)) := ⟨rfl, rfl, rfl, by decide +kernel, rfl, by decide +kernel, by decide +kernel⟩
theorem as_non {H : Hp} {o : Option As} {v : V} (h : Is H (optD As.d o) v) : decide (v = V.non) = o.isNone := by
  cases o with
  | none => cases (show v = V.non from h); rfl
  | some x => cases x <;> (obtain ⟨a, xs, rfl, _⟩ := h; rfl)
theorem Wds.same {H H' : Hp} {l : Addr} {ws : List Str} (h : Wds H l ws) (s : Same H H') : Wds H' l ws := ⟨s _ _ h.1, h.2⟩
theorem ok_part {g : Addr} {gd : FuncData} (F : Fun K "read_part" "read_part" (top 31) f fd)
    (G : FnOk P w K mg base CX0 4 g gd ["words", "place"] (spLP fun ws p => optD As.d (rdAsked ws p))) (bG : Binds K gd ["words", "place"] []) (kG : PySem.W.keepIn K (.ref g) = true) (mG : mg "read_asked" = some (.ref g)) :
    FnOk P w K mg base CX0 5 f fd ["words", "place"] (spLP fun ws p => optD partD (rdPart ws p)) := by
  refine F.ok sc30 (fun vs H Q E h => ?_) (fun cdv A outer s H vs Q E hr h => ?_)
  · obtain ⟨l, ws, p, rfl, _⟩ := h
    rfl
  obtain ⟨l, ws, p, rfl, hW, q⟩ := h
  have q : ∀ (v : V) (H' : Hp), Is H' (optD partD (rdPart ws p)) v → Same H H' → Q v H' := q
  have hu64 : (A.deeper (envOfC "read_part" (defScope (top 31)) s.heap.objs.size f cdv)).units + 64 < cLine := by have := hr.un; omega
  refine ⟨_, pss_cons (ps_set (i := 2) sc30.nd rfl (.inl rfl) (pe_cmpR (op_neStrs hu64) (pe_slice (show SlR _ (rSlL K) from sl_list) (pv 0) po_none (po_some pe_int)) (pe_lst (pa_cons pe_str pa_nil)) (nomark _)))
    (C8.pss_cut (ps_set (i := 3) sc30.nd rfl (.inl rfl) (pe_call G hr rfl mG kG bG .nil pass0 (pa_cons (pe_ifExp (pt_val (pv 2)) (pv 0) (pe_slice (show SlR _ (rSlL K) from sl_list) (pv 0) (po_some pe_int) po_none)) (pa_cons (pv 1) pa_nil))))
    (pss_one (ps_ret (pe_ifExp (pt_cmpR op_isN (pv 3) pe_non (nomark _)) pe_non (pe_tup (pa_cons (pv 2) (pa_cons (pv 3) pa_nil))))))), ?_⟩
  have wd : ∀ w ∈ ws, w.length ≤ 4000 := hW.2.2
  refine ⟨_, rfl, _, rfl, l, _, rfl, SqL.of hW.1, fun c1 n1 => ?_⟩
  have e1 := cut_lo' (ws.map V.str) 1
  have e1 : cutV (ws.map V.str) none (some (1 : Int)) = (ws.take 1).map V.str := by rw [List.map_take]; exact e1
  rw [e1]
  have u1 := same_new n1 (.lst ((ws.take 1).map V.str))
  have m1 : (upd H c1 (.lst ((ws.take 1).map V.str))) c1 = some (.lst ((ws.take 1).map V.str)) := upd_same
  generalize upd H c1 (.lst ((ws.take 1).map V.str)) = H1 at u1 m1 ⊢
  refine ⟨(by show 1 ≤ sizeLine; decide), fun c2 n2 => ?_⟩
  have u2 := same_new n2 (.lst [.str "not"])
  have m2 : (upd H1 c2 (.lst [.str "not"])) c2 = some (.lst ([("not" : Str)].map V.str)) := upd_same
  have nc : c1 ≠ c2 := fun z => by rw [← z, m1] at n2; cases n2
  generalize upd H1 c2 (.lst [.str "not"]) = H2 at u2 m2 ⊢
  refine ⟨c1, c2, ws.take 1, ["not"], rfl, rfl, nc, u2 _ _ m1, m2, ?_⟩
  have s2 := u1.trans u2
  have W2 := hW.same s2
  refine ⟨fun σ H' => ∃ (k : Bool) (o : Option As) (v : V), σ = [some (.ref l), some (.str p), some (.bl k), some v] ∧ Is H' (optD As.d o) v ∧ Same H2 H' ∧ rdPart ws p = o.map fun a => (k, a), ?_, ?_⟩
  · refine ⟨_, rfl, _, rfl, ?_⟩
    refine if2 (fun c => ?_) (fun c => ?_)
    · refine ⟨_, rfl, _, rfl, l, ws, p, rfl, W2, fun v H3 i3 s3 => ⟨_, rdAsked ws p, v, rfl, i3, s3, ?_⟩⟩
      rw [c]
      cases ws with
      | nil => rfl
      | cons w r =>
        have nw : ¬ w = "not" := fun z => by
          rw [z] at c
          have c : (!decide ([("not" : Str)] = [("not" : Str)])) = true := c
          rw [decide_eq_true rfl] at c
          cases c
        show (if w = "not" then _ else _) = _
        rw [if_neg nw]
    · have c' : ws.take 1 = [("not" : Str)] := by
        cases e : decide (ws.take 1 = [("not" : Str)]) with
        | true => exact of_decide_eq_true e
        | false => rw [e] at c; cases c
      obtain ⟨r, rfl⟩ : ∃ r, ws = ("not" : Str) :: r := by
        match ws, c' with
        | w :: r, c' => exact ⟨r, by rw [(List.cons.inj c').1]⟩
      refine ⟨_, rfl, _, rfl, l, _, rfl, SqL.of W2.1, fun c3 n3 => ?_⟩
      have e3 := cut_hi' ((("not" : Str) :: r).map V.str) 1
      have e3 : cutV ((("not" : Str) :: r).map V.str) (some (1 : Int)) none = r.map V.str := e3
      rw [e3]
      have u3 := same_new n3 (.lst (r.map V.str))
      have m3 : (upd H2 c3 (.lst (r.map V.str))) c3 = some (.lst (r.map V.str)) := upd_same
      generalize upd H2 c3 (.lst (r.map V.str)) = H3 at u3 m3 ⊢
      refine ⟨_, rfl, c3, r, p, rfl, ⟨m3, (by have := W2.2.1; rw [List.length_cons] at this; omega), fun w hw => wd w (List.mem_cons_of_mem _ hw)⟩, fun v H4 i4 s4 => ⟨_, rdAsked r p, v, rfl, i4, u3.trans s4, ?_⟩⟩
      rw [c]
      unfold rdPart
      exact if_pos rfl
  rintro σ H5 ⟨k, o, v, rfl, i5, s5, e⟩
  rw [e] at q
  have s25 := s2.trans s5
  refine ⟨_, rfl, rfl, _, rfl, ?_⟩
  rw [as_non i5]
  cases o with
  | none => exact ifT rfl (q _ _ rfl s25)
  | some x =>
    refine ifF rfl ⟨_, rfl, _, rfl, (by show 2 ≤ sizeLine; decide), fun r nr => ?_⟩
    have u6 := same_new nr (.tup [.bl k, v])
    exact q _ _ ⟨r, _, rfl, upd_same, are2 rfl (i5.same u6)⟩ (s25.trans u6)
end
end K01
namespace Ln
open PySem
def pStep (s : List (List Str) × List Str) (w : Str) : List (List Str) × List Str := if w = "and" then (s.1 ++ [s.2], []) else (s.1, s.2 ++ [w])
def headApp (u : List Str) : List (List Str) → List (List Str)
  | [] => [u]
  | h :: t => (u ++ h) :: t
theorem parted_ne : ∀ ws : List Str, parted ws ≠ []
  | [] => by intro h; cases h
  | w :: r => by
    unfold parted
    by_cases h : w = "and"
    · rw [if_pos h]; intro z; cases z
    · rw [if_neg h]
      cases parted r <;> (intro z; cases z)
theorem parted_fold : ∀ (ws : List Str) (pre : List (List Str)) (u : List Str), (ws.foldl pStep (pre, u)).1 ++ [(ws.foldl pStep (pre, u)).2] = pre ++ headApp u (parted ws)
  | [], pre, u => by
    show pre ++ [u] = pre ++ [u ++ []]
    rw [List.append_nil u]
  | w :: r, pre, u => by
    rw [List.foldl_cons]
    by_cases h : w = "and"
    · have e : pStep (pre, u) w = (pre ++ [u], []) := if_pos h
      rw [e, parted_fold r]
      have e2 : parted (w :: r) = [] :: parted r := by unfold parted; rw [if_pos h]; cases r <;> rfl
      rw [e2]
      cases hp : parted r with
      | nil => exact absurd hp (parted_ne r)
      | cons g gs => simp [headApp]
    · have e : pStep (pre, u) w = (pre, u ++ [w]) := if_neg h
      rw [e, parted_fold r]
      cases hp : parted r with
      | nil => exact absurd hp (parted_ne r)
      | cons g gs =>
        have e2 : parted (w :: r) = (w :: g) :: gs := by rw [parted, if_neg h, hp]
        rw [e2]
        simp [headApp]
theorem parted_is (ws : List Str) : (ws.foldl pStep ([], [])).1 ++ [(ws.foldl pStep ([], [])).2] = parted ws := by
  rw [parted_fold]
  cases hp : parted ws with
  | nil => exact absurd hp (parted_ne ws)
  | cons g gs => rfl
end Ln
namespace K01
open PySem PySem.Spec PyProof.Rows L2 Xc Dt Ln
theorem pair_one {α β : Type} {R : α → β → Prop} {a : α} {b : β} (h : R a b) : Paired R [a] [b] := .cons h .nil
theorem paired_app {α β : Type} {R : α → β → Prop} : ∀ {l m : List α} {xs ys : List β}, Paired R l xs → Paired R m ys → Paired R (l ++ m) (xs ++ ys)
  | _, _, _, _, .nil, k => k
  | _, _, _, _, .cons r t, k => .cons r (paired_app t k)
theorem paired_mem {α β : Type} {R S : α → β → Prop} : ∀ {l : List α} {xs : List β}, Paired R l xs → (∀ a b, a ∈ l → R a b → S a b) → Paired S l xs
  | _, _, .nil, _ => .nil
  | _, _, .cons r t, h => .cons (h _ _ List.mem_cons_self r) (paired_mem t fun a b ha => h a b (List.mem_cons_of_mem _ ha))
theorem paired_all {α β : Type} {R : α → β → Prop} {S : α → Prop} : ∀ {l : List α} {xs : List β}, Paired R l xs → (∀ a b, R a b → S a) → ∀ a ∈ l, S a
  | _, _, .nil, _, _, h => by cases h
  | _, _, .cons r t, k, a, h => by
    rcases List.mem_cons.mp h with rfl | h
    · exact k _ _ r
    · exact paired_all t k a h
theorem take_snoc {α : Type} {l : List α} {i : Nat} {x : α} (h : l[i]? = some x) : l.take (i + 1) = l.take i ++ [x] := by
  rw [List.take_add_one, h]
  rfl
theorem atI_last (cs : List V) (c : V) : atI (cs ++ [c]) (-1) = some c := by
  unfold atI ixN
  rw [if_neg (by decide), List.length_append, List.length_singleton, if_pos (by omega)]
  show (cs ++ [c])[((-1 : Int) + ((cs.length + 1 : Nat) : Int)).toNat]? = some c
  rw [show ((-1 : Int) + ((cs.length + 1 : Nat) : Int)).toNat = cs.length from by omega]
  simp
section
variable {P : Program} {w : World} {K : PySem.W.Frag} {mg : Str → Option Value} {base : Heap} {f : Addr} {fd : FuncData}
def spParted : Sp := fun vs H Q _ => ∃ (l : Addr) (ws : List Str), vs = [.ref l] ∧ Wds H l ws ∧ ∀ (g : Addr) (cs : List Addr) (H' : Hp), H' g = some (.lst (cs.map V.ref)) → cs.length ≤ 4001 → Paired (fun c us => Wds H' c us) cs (parted ws) → Same H H' → Q (.ref g) H'
theorem sc29 : FnScope ["words", "groups", "word"] ["words"] (defScope (top 30)) := ⟨rfl, rfl, rfl, by decide +kernel, rfl, by decide +kernel, by decide +kernel⟩
/-- between two words -/
def PtInv (H : Hp) (l g : Addr) (ws : List Str) (i : Nat) (σ : L2.St) (H' : Hp) : Prop := ∃ (o2 : Option V) (cs : List Addr) (c : Addr), σ = [some (.ref l), some (.ref g), o2] ∧ H' g = some (.lst ((cs ++ [c]).map V.ref)) ∧ (cs ++ [c]).Nodup ∧ g ∉ cs ++ [c] ∧ (∀ x ∈ cs ++ [c], H x = none) ∧ cs.length ≤ i ∧
  Paired (fun c us => H' c = some (.lst (us.map V.str)) ∧ us.length ≤ i ∧ ∀ w ∈ us, w.length ≤ 4000) cs ((ws.take i).foldl pStep ([], [])).1 ∧ (H' c = some (.lst (((ws.take i).foldl pStep ([], [])).2.map V.str)) ∧ ((ws.take i).foldl pStep ([], [])).2.length ≤ i ∧ ∀ w ∈ ((ws.take i).foldl pStep ([], [])).2, w.length ≤ 4000) ∧ Same H H'
theorem ok_parted (F : Fun K "parted" "parted" (top 30) f fd) : FnOk P w K mg base CX0 1 f fd ["words"] spParted := by
  refine F.ok sc29 (fun vs H Q E h => ?_) (fun cdv A outer s H vs Q E hr h => ?_)
  · obtain ⟨l, ws, rfl, _⟩ := h
    rfl
  obtain ⟨l, ws, rfl, ⟨hl, hn, hw⟩, q⟩ := h
  refine ⟨_, pss_cons (ps_set (i := 1) sc29.nd rfl (.inl rfl) (pe_lst (pa_cons (pe_lst pa_nil) pa_nil)))
    (pss_cons (ps_for PassesOwn.never rfl (pi_list (pv 0)) (pg_name (i := 2) sc29.nd rfl (.inl rfl))
      (pss_one (ps_if (pt_cmpR op_eq (pv 2) pe_str (nomark _))
        (pss_one (ps_expr (pe_bm PySem.F.plainAttrs_list PySem.F.slot_list_append PySem.F.type_list_append mt_append (pv 1) (pa_cons (pe_lst pa_nil) pa_nil))))
        (pss_one (ps_expr (pe_bm PySem.F.plainAttrs_list PySem.F.slot_list_append PySem.F.type_list_append mt_append (pe_ix (show IxR _ (rIxL K) from ix_list) (pv 1) (pe_un un_neg pe_int) (fun _ _ => rfl)) (pa_cons (pv 2) pa_nil)))))))
    (pss_one (ps_ret (pv 1)))), ?_⟩
  refine ⟨(by show 0 ≤ sizeLine; decide), fun c0 nc0 => ?_⟩
  have u1 := same_new nc0 (.lst [])
  have m1 : (upd H c0 (.lst [])) c0 = some (.lst []) := upd_same
  refine ⟨(by show 1 ≤ sizeLine; decide), fun g ng => ?_⟩
  have ngc : g ≠ c0 := fun z => by rw [z, m1] at ng; cases ng
  generalize upd H c0 (.lst []) = H1 at u1 m1 ng ⊢
  have u2 := same_new ng (.lst [.ref c0])
  have m2 : (upd H1 g (.lst [.ref c0])) g = some (.lst [.ref c0]) := upd_same
  have ng0 : H g = none := u1.free ng
  have m1' := u2 _ _ m1
  generalize upd H1 g (.lst [.ref c0]) = H2 at u2 m2 m1' ⊢
  have s2 := u1.trans u2
  refine ⟨_, rfl, l, rfl, ⟨_, SqL.of (s2 _ _ hl)⟩, for_list (K := K) (a := l) (xs := ws.map V.str) (PtInv H l g ws)
    ⟨none, [], c0, rfl, m2, List.nodup_cons.mpr ⟨List.not_mem_nil, List.nodup_nil⟩, (by simpa using ngc), (by simpa using nc0), Nat.le_refl _, .nil, ⟨m1', Nat.le_refl _, fun w h => (by cases h)⟩, s2⟩ (fun i σ H' _ h => ?_) ?_ ?_⟩
  · obtain ⟨_, _, _, _, _, _, _, _, _, _, _, sm⟩ := h
    exact SqL.of (sm _ _ hl)
  · rintro i x σ H' hi ⟨o2, cs, c, rfl, hg, nd, hgc, hnew, hcl, hp, ⟨hc, hcl2, hcw⟩, sm⟩
    obtain ⟨wd, hwd, rfl⟩ : ∃ wd, ws[i]? = some wd ∧ x = .str wd := by
      rw [List.getElem?_map] at hi
      cases e : ws[i]? with
      | none => rw [e] at hi; cases hi
      | some z => rw [e] at hi; exact ⟨z, rfl, (Option.some.inj hi).symm⟩
    obtain ⟨hil, _⟩ := List.getElem?_eq_some_iff.mp hwd
    have hwl := hw wd (List.mem_of_getElem? hwd)
    have est : (ws.take (i + 1)).foldl pStep ([], []) = pStep ((ws.take i).foldl pStep ([], [])) wd := by rw [take_snoc hwd, List.foldl_append]; rfl
    generalize hst : (ws.take i).foldl pStep ([], []) = st at est hp hc hcl2 hcw
    obtain ⟨pre, u⟩ := st
    have hgne : ∀ x ∈ cs ++ [c], x ≠ g := fun x hx z => hgc (z ▸ hx)
    refine ⟨_, rfl, rfl, _, rfl, ?_⟩
    rw [dec_str]
    refine if2 (fun e => ?_) (fun e => ?_)
    · have es : pStep (pre, u) wd = (pre ++ [u], []) := if_pos (of_decide_eq_true e)
      rw [es] at est
      have there : ∀ x ∈ cs ++ [c], ∃ o, H' x = some o := fun x hx => by
        rcases List.mem_append.mp hx with h | h
        · exact paired_all (S := fun x => ∃ o, H' x = some o) hp (fun a b r => ⟨_, r.1⟩) x h
        · rw [List.mem_singleton] at h
          rw [h]
          exact ⟨_, hc⟩
      refine ⟨_, rfl, .inl ⟨rfl, _, SqL.of hg⟩, (by show 0 ≤ sizeLine; decide), fun n nn => ?_⟩
      have u3 := same_new nn (.lst [])
      have m3 : (upd H' n (.lst [])) n = some (.lst []) := upd_same
      generalize upd H' n (.lst []) = H3 at u3 m3 ⊢
      have nin : n ∉ cs ++ [c] := fun hx => by
        obtain ⟨o, ho⟩ := there n hx
        rw [nn] at ho
        cases ho
      have nng : n ≠ g := fun z => by rw [z, hg] at nn; cases nn
      refine ⟨g, _, _, rfl, rfl, u3 _ _ hg, (by rw [List.length_map, List.length_append]; show cs.length + 1 < sizeLine; rw [sizeLine_eq]; omega), ?_⟩
      have keep : ∀ x o, x ≠ g → H' x = some o → (upd H3 g (.lst ((cs ++ [c]).map V.ref ++ [.ref n]))) x = some o := fun x o hx e => by rw [upd_ne hx]; exact u3 _ _ e
      refine ⟨some (.str wd), cs ++ [c], n, rfl, ?_, ?_, ?_, ?_, ?_, ?_, ?_, ?_⟩
      · rw [upd_same, List.map_append (l₁ := cs ++ [c])]
        rfl
      · rw [List.nodup_append]
        exact ⟨nd, by simp, fun a ha b hb e => by
          rw [List.mem_singleton] at hb
          rw [e, hb] at ha
          exact nin ha⟩
      · intro h
        rcases List.mem_append.mp h with h | h
        · exact hgc h
        · rw [List.mem_singleton] at h
          exact nng h.symm
      · intro x hx
        rcases List.mem_append.mp hx with h | h
        · exact hnew x h
        · rw [List.mem_singleton] at h
          rw [h]
          exact sm.free nn
      · rw [List.length_append]
        show cs.length + 1 ≤ i + 1
        omega
      · rw [est]
        refine paired_app (paired_mem hp fun a b ha r => ⟨keep _ _ (hgne a (List.mem_append_left _ ha)) r.1, by have := r.2.1; omega, r.2.2⟩) (pair_one ⟨keep _ _ (hgne c (List.mem_append_right _ List.mem_cons_self)) hc, by show u.length ≤ i + 1; have : u.length ≤ i := hcl2; omega, hcw⟩)
      · rw [est]
        exact ⟨by rw [upd_ne nng]; exact m3, Nat.zero_le _, fun w h => (by cases h)⟩
      · exact fun x o e => keep x o (ne_of_none e ng0) (sm _ _ e)
    · have es : pStep (pre, u) wd = (pre, u ++ [wd]) := if_neg (of_decide_eq_false e)
      rw [es] at est
      have elast : atI ((cs ++ [c]).map V.ref) (-1) = some (.ref c) := by rw [List.map_append]; exact atI_last _ _
      refine ⟨_, rfl, _, rfl, g, _, _, _, rfl, rfl, SqL.of hg, elast, .inl ⟨rfl, _, SqL.of hc⟩, _, rfl, c, _, _, rfl, rfl, hc, (by rw [List.length_map]; have : u.length ≤ i := hcl2; rw [sizeLine_eq]; omega), ?_⟩
      have hcg : c ≠ g := hgne c (List.mem_append_right _ List.mem_cons_self)
      have keep : ∀ x o, x ≠ c → H' x = some o → (upd H' c (.lst (u.map V.str ++ [.str wd]))) x = some o := fun x o hx e => by rw [upd_ne hx]; exact e
      have cnin : ∀ x ∈ cs, x ≠ c := fun x hx z => (List.nodup_append.mp nd).2.2 x hx c List.mem_cons_self z
      refine ⟨some (.str wd), cs, c, rfl, ?_, nd, hgc, hnew, by omega, ?_, ?_, ?_⟩
      · rw [upd_ne hcg.symm]
        exact hg
      · rw [est]
        exact paired_mem hp fun a b ha r => ⟨keep _ _ (cnin a ha) r.1, by have := r.2.1; omega, r.2.2⟩
      · rw [est]
        refine ⟨by rw [upd_same, List.map_append]; rfl, ?_, fun w h => ?_⟩
        · show (u ++ [wd]).length ≤ i + 1
          rw [List.length_append]
          have : u.length ≤ i := hcl2
          show u.length + 1 ≤ i + 1
          omega
        · rcases List.mem_append.mp h with h | h
          · exact hcw w h
          · rw [List.mem_singleton] at h
            rw [h]
            exact hwl
      · exact fun x o e => keep x o (fun z => by
          have := hnew c (List.mem_append_right _ List.mem_cons_self)
          rw [z] at e
          rw [this] at e
          cases e) (sm _ _ e)
  · rintro σ H' ⟨o2, cs, c, rfl, hg, nd, hgc, hnew, hcl, hp, ⟨hc, hcl2, hcw⟩, sm⟩
    rw [List.length_map, List.take_length] at hp hc hcl2 hcw
    rw [List.length_map] at hcl
    refine ⟨_, rfl, q g (cs ++ [c]) H' hg (by rw [List.length_append]; show cs.length + 1 ≤ 4001; omega) ?_ sm⟩
    rw [← parted_is]
    exact paired_app (paired_mem hp fun a b ha r => ⟨r.1, by have := r.2.1; omega, r.2.2⟩) (pair_one ⟨hc, by omega, hcw⟩)
end
end K01
namespace Dt
open PySem PySem.Spec PyProof.Rows L2 Xc
def isNone : Value → Bool
  | .none => true
  | _ => false
/-- None in xs: xs a list of None and tuples -/
def rInNon (K : PySem.W.Frag) : R2 := fun x y H Q => ∃ (a : Addr) (xs : List V), x = .non ∧ y = .ref a ∧ SqL K H a xs ∧ (∀ v ∈ xs, v = .non ∨ ∃ c zs, v = .ref c ∧ H c = some (.tup zs)) ∧ Q (.bl (xs.any fun v => decide (v = .non))) H
theorem op_inNon {X : Cx} (hu : X.A.units + 64 < cLine) : OpR X (compareOp .In) (rInNon X.K) := by
  intro pins s σ H x y v u Q I rx ry h
  obtain ⟨a, xs, rfl, rfl, ha, hx, q⟩ := h
  cases rx
  cases ry
  obtain ⟨its, r, p, hz⟩ := I.list ha
  have back : ∀ {xs : List V} {its : List Value}, Vals xs its → ∀ y ∈ its, ∃ x ∈ xs, RelV x y := by
    intro xs its r
    induction r with
    | nil => intro y hy; cases hy
    | cons h _ ih =>
      intro y hy
      rcases List.mem_cons.mp hy with rfl | hy
      · exact ⟨_, List.mem_cons_self, h⟩
      · obtain ⟨x, hx, rx⟩ := ih y hy
        exact ⟨x, List.mem_cons_of_mem _ hx, rx⟩
  refine SeqAt.in_listAt isNone p.isList (fun y hy => ?_) ?_
  · obtain ⟨x, hxm, rx⟩ := back r y (by simpa using hy)
    rcases hx x hxm with rfl | ⟨c, zs, rfl, hc⟩
    · cases rx
      exact SeqAt.EqAt.same _
    · cases rx
      obtain ⟨us, r2, p2, _⟩ := I.tuple (SqT.of (K := X.K) hc)
      exact SeqAt.EqAt.tuple_none p2 (show X.A.in1.units < cLine by show X.A.units + 1 < cLine; omega)
  · have e : its.toArray.any isNone = xs.any fun v => decide (v = .non) := by
      rw [List.any_toArray]
      clear p q ha hz
      induction r with
      | nil => rfl
      | @cons x y _ _ h _ ih =>
        rw [List.any_cons, List.any_cons, ih fun v hv => hx v (List.mem_cons_of_mem _ hv)]
        congr 1
        rcases hx x List.mem_cons_self with rfl | ⟨c, zs, rfl, hc⟩
        · cases h; rfl
        · cases h; rfl
    rw [e]
    exact ⟨.bl _, H, I, rfl, q⟩
end Dt
namespace Dt
open PySem PySem.Spec PyProof.Rows L2 Xc
mutual
/-- no list and no dict in it -/
def D.nl : D → Bool
  | .tup ds => D.nls ds
  | .lst _ => false
  | .dct => false
  | .non => true
  | .bl _ => true
  | .int _ => true
  | .str _ => true
def D.nls : List D → Bool
  | [] => true
  | d :: ds => D.nl d && D.nls ds
end
mutual
theorem is_nl {H H' : Hp} (s : ∀ a xs, H a = some (.tup xs) → H' a = some (.tup xs)) : ∀ {d : D} {v : V}, D.nl d = true → Is H d v → Is H' d v
  | .non, _, _, h => h
  | .bl _, _, _, h => h
  | .int _, _, _, h => h
  | .str _, _, _, h => h
  | .tup ds, _, n, h => by
    obtain ⟨a, xs, e, q, r⟩ := h
    exact ⟨a, xs, e, s _ _ q, are_nl s (by rw [D.nl] at n; exact n) r⟩
  | .lst _, _, n, _ => by rw [D.nl] at n; cases n
  | .dct, _, n, _ => by rw [D.nl] at n; cases n
theorem are_nl {H H' : Hp} (s : ∀ a xs, H a = some (.tup xs) → H' a = some (.tup xs)) : ∀ {ds : List D} {xs : List V}, D.nls ds = true → Are H ds xs → Are H' ds xs
  | [], _, _, h => h
  | _ :: _, _, n, h => by
    obtain ⟨x, r, e, q, t⟩ := h
    rw [D.nls, Bool.and_eq_true] at n
    exact ⟨x, r, e, is_nl s n.1 q, are_nl s n.2 t⟩
end
end Dt
namespace K01
open PySem PySem.Spec PyProof.Rows L2 Xc Dt Ln
theorem tm_nl (x : Ln.Tm) : D.nl x.d = true := by cases x <;> rfl
theorem as_nl (x : As) : D.nl x.d = true := by
  cases x with
  | same x y => cases x <;> cases y <;> rfl
  | _ => rfl
theorem part_nl (o : Option (Bool × As)) : D.nl (optD partD o) = true := by
  cases o with
  | none => rfl
  | some p =>
    show (true && (D.nl p.2.d && true)) = true
    rw [as_nl]
    rfl
theorem part_non {H : Hp} {o : Option (Bool × As)} {v : V} (h : Is H (optD partD o) v) : decide (v = V.non) = o.isNone ∧ (v = .non ∨ ∃ c zs, v = .ref c ∧ H c = some (.tup zs)) := by
  cases o with
  | none => cases (show v = V.non from h); exact ⟨rfl, .inl rfl⟩
  | some x => obtain ⟨a, xs, rfl, e, _⟩ := h; exact ⟨rfl, .inr ⟨a, xs, rfl, e⟩⟩
theorem paired_get {α β : Type} {R : α → β → Prop} : ∀ {l : List α} {xs : List β} {i : Nat} {a : α}, Paired R l xs → l[i]? = some a → ∃ b, xs[i]? = some b ∧ R a b
  | _, _, i, a, .nil, h => by cases i <;> cases h
  | _, _, 0, a, .cons r _, h => by cases h; exact ⟨_, rfl, r⟩
  | _, _, i + 1, a, .cons r t, h => by
    obtain ⟨b, e, r⟩ := paired_get (i := i) t (by simpa using h)
    exact ⟨b, by simpa using e, r⟩
/-- what stands in a list of parts, all of them or not -/
theorem parts_all (p : Str) : ∀ {gs : List (List Str)} {H : Hp} {zs : List V}, Paired (fun us z => Is H (optD partD (rdPart us p)) z) gs zs →
    (zs.any fun v => decide (v = V.non)) = (rdParts p gs).isNone ∧ ∀ ps, rdParts p gs = some ps → Are H (ps.map partD) zs
  | _, _, _, .nil => ⟨rfl, fun ps e => by cases e; rfl⟩
  | _ :: _, H, _, .cons h t => by
    rename_i us gs z zs
    obtain ⟨a, b⟩ := parts_all p t
    rw [List.any_cons, a, (part_non h).1]
    cases e : rdPart us p with
    | none =>
      have e2 : rdParts p (us :: gs) = none := by rw [rdParts, e]
      rw [e2]
      exact ⟨rfl, fun ps e => by cases e⟩
    | some x =>
      rw [e] at h
      cases e3 : rdParts p gs with
      | none =>
        have e2 : rdParts p (us :: gs) = none := by rw [rdParts, e, e3]
        rw [e2]
        exact ⟨rfl, fun ps e => by cases e⟩
      | some xs =>
        have e2 : rdParts p (us :: gs) = some (x :: xs) := by rw [rdParts, e, e3]
        rw [e2]
        exact ⟨rfl, fun ps e => by cases e; exact ⟨_, _, rfl, h, b xs e3⟩⟩
section
variable {P : Program} {w : World} {K : PySem.W.Frag} {mg : Str → Option Value} {base : Heap} {f : Addr} {fd : FuncData}
theorem sc28 : FnScope ["words", "place", "parts", "group"] ["words", "place"] (defScope (top 29)) := ⟨rfl, rfl, rfl, by decide +kernel, rfl, by decide +kernel, by decide +kernel⟩
theorem ok_test {g g2 : Addr} {gd gd2 : FuncData} (F : Fun K "read_test" "read_test" (top 29) f fd) (mT : mg "tuple" = none)
    (G : FnOk P w K mg base CX0 5 g gd ["words", "place"] (spLP fun ws p => optD partD (rdPart ws p))) (bG : Binds K gd ["words", "place"] []) (kG : PySem.W.keepIn K (.ref g) = true) (mG : mg "read_part" = some (.ref g))
    (W : FnOk P w K mg base CX0 1 g2 gd2 ["words"] spParted) (bW : Binds K gd2 ["words"] []) (kW : PySem.W.keepIn K (.ref g2) = true) (mW : mg "parted" = some (.ref g2)) :
    FnOk P w K mg base CX0 6 f fd ["words", "place"] (spLP fun ws p => optD (fun ps => D.tup (ps.map partD)) (rdTest ws p)) := by
  refine F.ok sc28 (fun vs H Q E h => ?_) (fun cdv A outer s H vs Q E hr h => ?_)
  · obtain ⟨l, ws, p, rfl, _⟩ := h
    rfl
  obtain ⟨l, ws, p, rfl, hW, q⟩ := h
  have q : ∀ (v : V) (H' : Hp), Is H' (optD (fun ps => D.tup (ps.map partD)) (rdParts p (parted ws))) v → Same H H' → Q v H' := q
  have r1 : Room 1 (A.deeper (envOfC "read_test" (defScope (top 29)) s.heap.objs.size f cdv)) := hr.mono (by decide)
  have hu64 : (A.deeper (envOfC "read_test" (defScope (top 29)) s.heap.objs.size f cdv)).units + 64 < cLine := by have := hr.un; omega
  refine ⟨_, pss_cons (ps_setLc (i := 2) (own := [("group", 3)]) (g := gName 3) (tt := tYes) rfl sc28.nd rfl rfl (by rfl)
      (pi_list (pe_call W r1 rfl mW kW bW .nil pass0 (pa_cons (pv 0) pa_nil))) (blkOk_by (N := ["words", "place", "parts", "group"]) (sc := defScope (top 29)) (by decide +kernel))
      (fun _ _ _ _ _ => pg_name (i := 3) sc28.nd rfl (.inl rfl)) (fun _ _ _ _ _ => pts_nil) (fun _ _ _ _ _ => pe_call G hr rfl mG kG bG .nil pass0 (pa_cons (pv 3) (pa_cons (pv 1) pa_nil))))
    (pss_one (ps_ret (pe_ifExp (pt_cmpR (show OpR _ _ (rInNon K) from op_inNon hu64) pe_non (pv 2) (by rfl)) pe_non (pe_callTy call_tuple_of (by rfl) mT (by decide +kernel) (pa_cons (pv 2) pa_nil))))), ?_⟩
  refine ⟨_, rfl, l, ws, rfl, hW, fun gr cs H1 hg hcl hp s1 => ?_⟩
  have hcp : cs.length = (parted ws).length := Paired.length hp
  refine ⟨gr, rfl, ⟨_, SqL.of hg⟩, fun Da nD => lc_list (K := K) (a := gr) (xs := cs.map V.ref) (fun i Hc => ∃ zs, Hc Da = some (.lst zs) ∧ Paired (fun us z => Is Hc (optD partD (rdPart us p)) z) ((parted ws).take i) zs ∧ Same H1 Hc)
    ⟨[], upd_same, .nil, same_new nD _⟩ (fun i Hc _ h => ?_) ?_ ?_⟩
  · obtain ⟨_, _, _, sm⟩ := h
    exact SqL.of (sm _ _ hg)
  · rintro i x Hc hi ⟨zs, hz, hzs, sc⟩
    obtain ⟨c, hc, rfl⟩ : ∃ c, cs[i]? = some c ∧ x = .ref c := by
      rw [List.getElem?_map] at hi
      cases e : cs[i]? with
      | none => rw [e] at hi; cases hi
      | some z => rw [e] at hi; exact ⟨z, rfl, (Option.some.inj hi).symm⟩
    obtain ⟨hil, _⟩ := List.getElem?_eq_some_iff.mp hc
    obtain ⟨us, hus, hWc⟩ := paired_get hp hc
    refine ⟨rfl, ?_⟩
    refine ⟨_, rfl, _, rfl, c, us, p, rfl, hWc.same sc, fun v H2 i2 s2 => ?_⟩
    have hz2 := s2 _ _ hz
    have hzl : zs.length ≤ i := by rw [← Paired.length hzs, List.length_take]; exact Nat.min_le_left _ _
    have tu : ∀ a xs, H2 a = some (.tup xs) → (upd H2 Da (.lst (zs ++ [v]))) a = some (.tup xs) := fun a xs e => by
      rw [upd_ne (ne_of e hz2 (by intro z; cases z))]
      exact e
    refine ⟨zs, hz2, (by rw [sizeLine_eq]; omega), zs ++ [v], upd_same, ?_, fun b o eb => ?_⟩
    · rw [take_snoc hus]
      exact paired_app (paired_mem hzs fun a b _ r => is_nl tu (part_nl _) (r.same s2)) (pair_one (is_nl tu (part_nl _) i2))
    · rw [upd_ne (ne_of_none eb nD)]
      exact s2 _ _ (sc b o eb)
  · rintro Hd ⟨zs, hz, hzs, sd⟩
    rw [List.length_map, hcp, List.take_length] at hzs
    obtain ⟨a1, a2⟩ := parts_all p hzs
    have sH := s1.trans sd
    refine ⟨_, rfl, Da, zs, rfl, rfl, SqL.of hz, fun v hv => ?_, _, rfl, ?_⟩
    · obtain ⟨i, hi, e⟩ := List.mem_iff_getElem.mp hv
      clear a1 a2 hz q
      have key : ∀ {gs : List (List Str)} {zs : List V}, Paired (fun us z => Is Hd (optD partD (rdPart us p)) z) gs zs → ∀ v ∈ zs, v = .non ∨ ∃ c ys, v = .ref c ∧ Hd c = some (.tup ys) := by
        intro gs zs h
        induction h with
        | nil => intro v hv; cases hv
        | cons r _ ih =>
          intro v hv
          rcases List.mem_cons.mp hv with rfl | hv
          · exact (part_non r).2
          · exact ih v hv
      exact key hzs v hv
    · rw [a1]
      cases e : rdParts p (parted ws) with
      | none =>
        rw [e] at q
        exact ifT rfl (q _ _ rfl sH)
      | some ps =>
        rw [e] at q
        refine ifF rfl ⟨_, rfl, Da, zs, rfl, .inl ⟨SqL.of hz, fun t nt => ?_⟩⟩
        have u3 := same_new nt (.tup zs)
        exact q _ _ ⟨t, _, rfl, upd_same, (a2 ps e).same u3⟩ (sH.trans u3)
end
end K01
namespace K01
open PySem PySem.Spec PyProof.Rows L2 Xc Dt Ln
section
variable {P : Program} {w : World} {K : PySem.W.Frag} {mg : Str → Option Value} {base : Heap} {f : Addr} {fd : FuncData}
/-! ### read_asking, steps_of, read_within -/
def spAskg : Sp := fun vs H Q _ => ∃ (l : Addr) (wd : Str) (r : List Str) (p : Str), vs = [.ref l, .str p] ∧ Wds H l (wd :: r) ∧ ∀ (v : V) (H' : Hp), Is H' (optD Sd.d (rdAsking wd r p)) v → Same H H' → Q v H'
theorem sc21 : FnScope ["words", "place", "test"] ["words", "place"] (defScope (top 21)) := ⟨rfl, rfl, rfl, by decide +kernel, rfl, by decide +kernel, by decide +kernel⟩
theorem test_non {H : Hp} {o : Option (List (Bool × As))} {v : V} (h : Is H (optD (fun ps => D.tup (ps.map partD)) o) v) : decide (v = V.non) = o.isNone := by
  cases o with
  | none => cases (show v = V.non from h); rfl
  | some x => obtain ⟨a, xs, rfl, _⟩ := h; rfl
theorem ok_asking {g : Addr} {gd : FuncData} (F : Fun K "read_asking" "read_asking" (top 21) f fd)
    (G : FnOk P w K mg base CX0 6 g gd ["words", "place"] (spLP fun ws p => optD (fun ps => D.tup (ps.map partD)) (rdTest ws p))) (bG : Binds K gd ["words", "place"] []) (kG : PySem.W.keepIn K (.ref g) = true) (mG : mg "read_test" = some (.ref g)) :
    FnOk P w K mg base CX0 7 f fd ["words", "place"] spAskg := by
  refine F.ok sc21 (fun vs H Q E h => ?_) (fun cdv A outer s H vs Q E hr h => ?_)
  · obtain ⟨l, wd, r, p, rfl, _⟩ := h
    rfl
  obtain ⟨l, wd, r, p, rfl, hW, q⟩ := h
  refine ⟨_, pss_cons (ps_set (i := 2) sc21.nd rfl (.inl rfl) (pe_call G hr rfl mG kG bG .nil pass0 (pa_cons (pe_slice (show SlR _ (rSlL K) from sl_list) (pv 0) (po_some pe_int) po_none) (pa_cons (pv 1) pa_nil))))
    (pss_one (ps_ret (pe_ifExp (pt_cmpR op_isN (pv 2) pe_non (nomark _)) pe_non (pe_tup (pa_cons (pe_ix (show IxR _ (rIxL K) from ix_list) (pv 0) pe_int (fun _ _ => rfl)) (pa_cons (pv 2) pa_nil)))))), ?_⟩
  refine ⟨_, rfl, _, rfl, l, _, rfl, SqL.of hW.1, fun c n => ?_⟩
  have e := cut_hi' ((wd :: r).map V.str) 1
  have e : cutV ((wd :: r).map V.str) (some (1 : Int)) none = r.map V.str := e
  rw [e]
  have u1 := same_new n (.lst (r.map V.str))
  have m1 : (upd H c (.lst (r.map V.str))) c = some (.lst (r.map V.str)) := upd_same
  generalize upd H c (.lst (r.map V.str)) = H1 at u1 m1 ⊢
  refine ⟨_, rfl, c, r, p, rfl, ⟨m1, (by have := hW.2.1; rw [List.length_cons] at this; omega), fun x hx => hW.2.2 x (List.mem_cons_of_mem _ hx)⟩, fun v H2 i2 s2 => ?_⟩
  have s12 := u1.trans s2
  refine ⟨_, rfl, rfl, _, rfl, ?_⟩
  rw [test_non i2]
  have eq0 : rdAsking wd r p = (rdTest r p).map (.ask wd) := rfl
  rw [eq0] at q
  cases e2 : rdTest r p with
  | none =>
    rw [e2] at q
    exact ifT rfl (q _ _ rfl s12)
  | some ps =>
    have i2 : Is H2 (optD (fun ps => D.tup (ps.map partD)) (rdTest r p)) v := i2
    rw [e2] at q i2
    refine ifF rfl ⟨_, rfl, l, _, _, _, rfl, rfl, SqL.of (s12 _ _ hW.1), at_words (j := 0) rfl, _, rfl, (by show 2 ≤ sizeLine; decide), fun t nt => ?_⟩
    have u3 := same_new nt (.tup [.str wd, v])
    exact q _ _ ⟨t, _, rfl, upd_same, are2 rfl (i2.same u3)⟩ (s12.trans u3)
def spSteps (K : PySem.W.Frag) : Sp := fun vs H Q _ => ∃ p : Str, vs = [.str p] ∧ ∀ (a : Addr) (H' : Hp), SqT K H' a ((stepsOf p).map V.str) → Same H H' → Q (.ref a) H'
theorem sc25 : FnScope ["place"] ["place"] (defScope (top 25)) := ⟨rfl, rfl, rfl, by decide +kernel, rfl, by decide +kernel, by decide +kernel⟩
theorem ok_steps (F : Fun K "steps_of" "steps_of" (top 25) f fd) (N : Gn K mg) : FnOk P w K mg base CX0 1 f fd ["place"] (spSteps K) := by
  refine F.ok sc25 (fun vs H Q E h => ?_) (fun cdv A outer s H vs Q E hr h => ?_)
  · obtain ⟨p, rfl, _⟩ := h
    rfl
  obtain ⟨p, rfl, q⟩ := h
  obtain ⟨tD, mD⟩ := N.down
  obtain ⟨tU, mU⟩ := N.up
  obtain ⟨aS, mS, cS⟩ := N.sides
  refine ⟨_, pss_one (ps_ret (pe_ifExp (pt_cmpR op_eq (pv 0) (pe_glob (v := .str "down") (by rfl) mD ⟨_, rfl⟩) (nomark _)) (pe_glob (v := .ref aS) (by rfl) mS rfl) (pe_tup (pa_cons (pe_glob (v := .str "up") (by rfl) mU ⟨_, rfl⟩) pa_nil)))), ?_⟩
  refine ⟨_, rfl, rfl, _, rfl, ?_⟩
  rw [dec_str]
  refine if2 (fun c => ?_) (fun c => ?_)
  · exact q aS H (by rw [show stepsOf p = sides from if_pos (of_decide_eq_true c)]; exact cS H) (Same.refl H)
  · refine ⟨(by show 1 ≤ sizeLine; decide), fun t nt => q t _ ?_ (same_new nt _)⟩
    rw [show stepsOf p = [("up" : Str)] from if_neg (of_decide_eq_false c)]
    exact SqT.of upd_same
theorem sc24 : FnScope ["words", "place"] ["words", "place"] (defScope (top 24)) := ⟨rfl, rfl, rfl, by decide +kernel, rfl, by decide +kernel, by decide +kernel⟩
theorem ok_within {g : Addr} {gd : FuncData} (F : Fun K "read_within" "read_within" (top 24) f fd) (N : Gn K mg)
    (G : FnOk P w K mg base CX0 1 g gd ["place"] (spSteps K)) (bG : Binds K gd ["place"] []) (kG : PySem.W.keepIn K (.ref g) = true) (mG : mg "steps_of_lines" = some (.ref g)) :
    FnOk P w K mg base CX0 2 f fd ["words", "place"] (spLP fun ws p => optD Sd.d (rdWithin ws p)) := by
  refine F.ok sc24 (fun vs H Q E h => ?_) (fun cdv A outer s H vs Q E hr h => ?_)
  · obtain ⟨l, ws, p, rfl, _⟩ := h
    rfl
  obtain ⟨l, ws, p, rfl, hW, q⟩ := h
  have q : ∀ (v : V) (H' : Hp), Is H' (optD Sd.d (rdWithin ws p)) v → Same H H' → Q v H' := q
  obtain ⟨aK, mK, cK⟩ := N.kept
  have hu64 : (A.deeper (envOfC "read_within" (defScope (top 24)) s.heap.objs.size f cdv)).units + 64 < cLine := by have := hr.un; omega
  refine ⟨_, pss_cons (ps_if (pt_cmpR (op_eqStrs hu64) (pv 0) (pe_lst (pa_cons pe_str pa_nil)) (nomark _)) (pss_one (ps_ret (pe_tup (pa_cons pe_str pa_nil)))) pss_nil)
    (pss_cons (ps_if (pt_cmpR op_ne (pe_callB call_len_seq (by rfl) N.len PySem.boot_len (pa_cons (pv 0) pa_nil)) pe_int (nomark _)) (pss_one (ps_ret pe_non)) pss_nil)
    (pss_cons (ps_if (PW.pt (pw_and (pt_cmpR op_eq (pe_ix (show IxR _ (rIxL K) from ix_list) (pv 0) pe_int (fun _ _ => rfl)) pe_str (nomark _)) (pw_and1 (pt_cmpR (show OpR _ _ (rIn K false) from op_in_seq) (pe_ix (show IxR _ (rIxL K) from ix_list) (pv 0) pe_int (fun _ _ => rfl)) (pe_glob (v := .ref aK) (by rfl) mK rfl) (by rfl)))))
        (pss_one (ps_ret (pe_tup (pa_cons pe_str (pa_cons (pe_ix (show IxR _ (rIxL K) from ix_list) (pv 0) pe_int (fun _ _ => rfl)) pa_nil))))) pss_nil)
    (pss_cons (ps_if (PW.pt (pw_and (pt_cmpR op_eq (pe_ix (show IxR _ (rIxL K) from ix_list) (pv 0) pe_int (fun _ _ => rfl)) pe_str (nomark _)) (pw_and1 (pt_cmpR (show OpR _ _ (rIn K false) from op_in_seq) (pe_ix (show IxR _ (rIxL K) from ix_list) (pv 0) pe_int (fun _ _ => rfl)) (pe_call G hr rfl mG kG bG .nil pass0 (pa_cons (pv 1) pa_nil)) (by rfl)))))
        (pss_one (ps_ret (pe_tup (pa_cons pe_str (pa_cons (pe_ix (show IxR _ (rIxL K) from ix_list) (pv 0) pe_int (fun _ _ => rfl)) pa_nil))))) pss_nil)
    (pss_one (ps_ret pe_non))))), ?_⟩
  refine ⟨_, rfl, (by show 1 ≤ sizeLine; decide), fun c0 n0 => ?_⟩
  have u1 := same_new n0 (.lst [.str "stop"])
  have m1 : (upd H c0 (.lst [.str "stop"])) c0 = some (.lst ([("stop" : Str)].map V.str)) := upd_same
  have hlc : l ≠ c0 := fun z => by have h := hW.1; rw [z, n0] at h; cases h
  generalize upd H c0 (.lst [.str "stop"]) = H1 at u1 m1 ⊢
  have W1 := hW.same u1
  have hl := W1.1
  have hlen : (ws.map V.str).length = ws.length := List.length_map _
  refine ⟨l, c0, ws, [("stop" : Str)], rfl, rfl, hlc, hl, m1, _, rfl, ?_⟩
  refine if2 (fun c => ?_) (fun c => ?_)
  · have c := of_decide_eq_true c
    subst c
    refine ⟨(by show 1 ≤ sizeLine; decide), fun t nt => q _ _ ?_ (u1.trans (same_new nt _))⟩
    exact ⟨t, _, rfl, upd_same, are1 rfl⟩
  have c := of_decide_eq_false c
  refine ⟨_, rfl, l, _, rfl, .inl (SqL.of hl), rfl, _, rfl, ?_⟩
  refine if2 (fun c2 => ?_) (fun c2 => ?_)
  · have c2 : ¬ ws.length = 2 := by
      have c' : (!decide (V.int (((ws.map V.str).length : Nat) : Int) = V.int ((2 : Nat) : Int))) = true := c2
      rw [dec_len, hlen] at c'
      intro z
      rw [decide_eq_true z] at c'
      cases c'
    have e : rdWithin ws p = none := by
      match ws, c, c2 with
      | [], _, _ => rfl
      | [a], c, _ => exact if_neg fun z => c (by rw [z])
      | [_, _], _, c2 => exact absurd rfl c2
      | _ :: _ :: _ :: _, _, _ => rfl
    rw [e] at q
    exact q _ _ rfl u1
  · have c2 : ws.length = 2 := by
      have c' : (!decide (V.int (((ws.map V.str).length : Nat) : Int) = V.int ((2 : Nat) : Int))) = false := c2
      rw [dec_len, hlen] at c'
      cases e : decide (ws.length = 2) with
      | true => exact of_decide_eq_true e
      | false => rw [e] at c'; cases c'
    obtain ⟨a, b, rfl⟩ : ∃ a b, ws = [a, b] := by
      match ws, c2 with
      | [a, b], _ => exact ⟨a, b, rfl⟩
    have eq0 : rdWithin [a, b] p = if decide (a = "keep") && has kept b then some (.keep b) else if decide (a = "go") && has (stepsOf p) b then some (.go b) else none := rfl
    rw [eq0] at q
    have goOn : ∀ {H2 : Hp} {R : Prop}, True → True := fun _ => trivial
    have tail : (decide (a = "keep") && has kept b) = false → tSeq (tIfS (tAnd (tTest (tOp rEq (tOp (rIxL K) (tVar 0) (tC (V.int 0))) (tC (V.str "go")))) (tTest (tOp (rIn K false) (tOp (rIxL K) (tVar 0) (tC (V.int 1))) (tCall (spSteps K) [] E0 (tCons (tVar 1) tNil))))) (tRet (tTup (tCons (tC (V.str "go")) (tCons (tOp (rIxL K) (tVar 0) (tC (V.int 1))) tNil)))) tNext) (tRet (tC V.non)) { nx := fun x H' => Q V.non H', rt := Q } [some (.ref l), some (.str p)] H1 := by
      intro cc
      rw [cc] at q
      refine ⟨_, rfl, l, _, _, _, rfl, rfl, SqL.of hl, at_words (j := 0) rfl, rfl, _, rfl, ?_⟩
      rw [dec_str]
      refine if2 (fun c3 => ?_) (fun c3 => ?_)
      · rw [c3] at q
        refine ⟨_, rfl, l, _, _, _, rfl, rfl, SqL.of hl, at_words (j := 1) rfl, _, rfl, p, rfl, fun aS H2 hS s2 => ?_⟩
        refine ⟨aS, _, rfl, .inr hS, rfl, flat_strs' _, _, rfl, ?_⟩
        refine if2 (fun c4 => ?_) (fun c4 => ?_)
        · have c4 : has (stepsOf p) b = true := by rw [← inV_has]; exact c4
          rw [c4] at q
          refine ⟨_, rfl, l, _, _, _, rfl, rfl, SqL.of (s2 _ _ hl), at_words (j := 1) rfl, (by show 2 ≤ sizeLine; decide), fun t nt => q _ _ ?_ ((u1.trans s2).trans (same_new nt _))⟩
          exact ⟨t, _, rfl, upd_same, are2 rfl rfl⟩
        · have c4 : has (stepsOf p) b = false := by rw [← inV_has]; exact c4
          rw [c4] at q
          exact q _ _ rfl (u1.trans s2)
      · rw [c3] at q
        exact ifF rfl (q _ _ rfl u1)
    refine ⟨_, rfl, l, _, _, _, rfl, rfl, SqL.of hl, at_words (j := 0) rfl, rfl, _, rfl, ?_⟩
    rw [dec_str]
    refine if2 (fun c3 => ?_) (fun c3 => ?_)
    · refine ⟨_, rfl, l, _, _, _, rfl, rfl, SqL.of hl, at_words (j := 1) rfl, aK, _, rfl, .inr (cK _), rfl, flat_strs' _, _, rfl, ?_⟩
      refine if2 (fun c4 => ?_) (fun c4 => ?_)
      · have c4 : has kept b = true := by rw [← inV_has]; exact c4
        rw [c3, c4] at q
        refine ⟨_, rfl, l, _, _, _, rfl, rfl, SqL.of hl, at_words (j := 1) rfl, (by show 2 ≤ sizeLine; decide), fun t nt => q _ _ ?_ (u1.trans (same_new nt _))⟩
        exact ⟨t, _, rfl, upd_same, are2 rfl rfl⟩
      · have c4 : has kept b = false := by rw [← inV_has]; exact c4
        exact tail (by rw [c3, c4]; rfl)
    · exact ifF rfl (tail (by rw [c3]; rfl))
end
end K01
namespace K01
open PySem PySem.Spec PyProof.Rows L2 Xc Dt Ln
section
variable {P : Program} {w : World} {K : PySem.W.Frag} {mg : Str → Option Value} {base : Heap} {f : Addr} {fd : FuncData}
/-! ### read_setting, read_outside -/
def spWW (F : Str → Str → D) : Sp := fun vs H Q _ => ∃ a b : Str, vs = [.str a, .str b] ∧ a.length ≤ 4000 ∧ b.length ≤ 4000 ∧ ∀ (v : V) (H' : Hp), Is H' (F a b) v → Same H H' → Q v H'
theorem sc23 : FnScope ["target", "source", "term", "link"] ["target", "source"] (defScope (top 23)) := ⟨rfl, rfl, rfl, by decide +kernel, rfl, by decide +kernel, by decide +kernel⟩
theorem ok_setting {g g2 : Addr} {gd gd2 : FuncData} (F : Fun K "read_setting" "read_setting" (top 23) f fd) (N : Gn K mg)
    (G : FnOk P w K mg base CX0 2 g gd ["word"] (spW fun w => optD Tm.d (rdTerm w))) (bG : Binds K gd ["word"] []) (kG : PySem.W.keepIn K (.ref g) = true) (mG : mg "read_term" = some (.ref g))
    (L : FnOk P w K mg base CX0 1 g2 gd2 ["word"] (spW fun w => optD Tm.d (rdLink w))) (bL : Binds K gd2 ["word"] []) (kL : PySem.W.keepIn K (.ref g2) = true) (mL : mg "read_link" = some (.ref g2)) :
    FnOk P w K mg base CX0 3 f fd ["target", "source"] (spWW fun t s => optD Sd.d (rdSetting t s)) := by
  refine F.ok sc23 (fun vs H Q E h => ?_) (fun cdv A outer s H vs Q E hr h => ?_)
  · obtain ⟨a, b, rfl, _⟩ := h
    rfl
  obtain ⟨a, b, rfl, hla, hlb, q⟩ := h
  have q : ∀ (v : V) (H' : Hp), Is H' (optD Sd.d (if has regs a then (rdTerm b).map (.read a) else if !has ledTo b then none else if a = "root" then some (.write (.reg "root") b) else (rdLink a).map fun l => .write l b)) v → Same H H' → Q v H' := q
  obtain ⟨aR, mR, cR⟩ := N.regs
  obtain ⟨aL, mLd, cL⟩ := N.ledTo
  have r1 : Room 1 (A.deeper (envOfC "read_setting" (defScope (top 23)) s.heap.objs.size f cdv)) := hr.mono (by decide)
  refine ⟨_, pss_cons (ps_if (pt_cmpR (show OpR _ _ (rIn K false) from op_in_seq) (pv 0) (pe_glob (v := .ref aR) (by rfl) mR rfl) (by rfl))
      (pss_cons (ps_set (i := 2) sc23.nd rfl (.inl rfl) (pe_call G hr rfl mG kG bG .nil pass0 (pa_cons (pv 1) pa_nil))) (pss_one (ps_ret (pe_ifExp (pt_cmpR op_isN (pv 2) pe_non (nomark _)) pe_non (pe_tup (pa_cons pe_str (pa_cons (pv 0) (pa_cons (pv 2) pa_nil)))))))) pss_nil)
    (pss_cons (ps_if (pt_cmpR (show OpR _ _ (rIn K true) from op_notIn_seq) (pv 1) (pe_glob (v := .ref aL) (by rfl) mLd rfl) (by rfl)) (pss_one (ps_ret pe_non)) pss_nil)
    (pss_cons (ps_if (pt_cmpR op_eq (pv 0) pe_str (nomark _)) (pss_one (ps_ret (pe_tup (pa_cons pe_str (pa_cons (pe_tup (pa_cons pe_str (pa_cons pe_non pa_nil))) (pa_cons (pv 1) pa_nil)))))) pss_nil)
    (pss_cons (ps_set (i := 3) sc23.nd rfl (.inl rfl) (pe_call L r1 rfl mL kL bL .nil pass0 (pa_cons (pv 0) pa_nil)))
    (pss_one (ps_ret (pe_ifExp (pt_cmpR op_isN (pv 3) pe_non (nomark _)) pe_non (pe_tup (pa_cons pe_str (pa_cons (pv 3) (pa_cons (pv 1) pa_nil)))))))))), ?_⟩
  refine ⟨_, rfl, aR, _, rfl, .inr (cR _), rfl, flat_strs' _, _, rfl, ?_⟩
  refine if2 (fun c => ?_) (fun c => ?_)
  · have c : has regs a = true := by rw [← inV_has]; exact c
    rw [if_pos c] at q
    refine ⟨_, rfl, b, rfl, hlb, fun v H1 i1 s1 => ?_⟩
    have i1 : Is H1 (optD Ln.Tm.d (rdTerm b)) v := i1
    refine ⟨_, rfl, rfl, _, rfl, ?_⟩
    rw [term_non i1]
    cases e : rdTerm b with
    | none =>
      rw [e] at q
      exact ifT rfl (q _ _ rfl s1)
    | some x =>
      rw [e] at q i1
      refine ifF rfl ⟨_, rfl, _, rfl, (by show 3 ≤ sizeLine; decide), fun t nt => ?_⟩
      have u := same_new nt (.tup [.str "read", .str a, v])
      exact q _ _ ⟨t, _, rfl, upd_same, are3 rfl rfl (i1.same u)⟩ (s1.trans u)
  have c : has regs a = false := by rw [← inV_has]; exact c
  rw [if_neg (by rw [c]; exact Bool.false_ne_true)] at q
  refine ⟨_, rfl, aL, _, rfl, .inr (cL _), rfl, flat_strs' _, _, rfl, ?_⟩
  refine if2 (fun c2 => ?_) (fun c2 => ?_)
  · have c2 : (!has ledTo b) = true := by rw [← inV_has]; exact c2
    rw [if_pos c2] at q
    exact q _ _ rfl (Same.refl H)
  have c2 : (!has ledTo b) = false := by rw [← inV_has]; exact c2
  rw [if_neg (by rw [c2]; exact Bool.false_ne_true)] at q
  refine ⟨_, rfl, rfl, _, rfl, ?_⟩
  rw [dec_str]
  refine if2 (fun c3 => ?_) (fun c3 => ?_)
  · rw [if_pos (of_decide_eq_true c3)] at q
    refine ⟨(by show 2 ≤ sizeLine; decide), fun t nt => ?_⟩
    have u1 := same_new nt (.tup [.str "root", .non])
    have i1 : Is (upd H t (.tup [.str "root", .non])) (Ln.Tm.d (.reg "root")) (.ref t) := ⟨t, _, rfl, upd_same, are2 rfl rfl⟩
    generalize upd H t (.tup [.str "root", .non]) = H1 at u1 i1 ⊢
    refine ⟨_, rfl, (by show 3 ≤ sizeLine; decide), fun t2 nt2 => ?_⟩
    have u2 := same_new nt2 (.tup [.str "write", .ref t, .str b])
    exact q _ _ ⟨t2, _, rfl, upd_same, are3 rfl (i1.same u2) rfl⟩ (u1.trans u2)
  rw [if_neg (of_decide_eq_false c3)] at q
  refine ⟨_, rfl, a, rfl, hla, fun v H1 i1 s1 => ?_⟩
  have i1 : Is H1 (optD Ln.Tm.d (rdLink a)) v := i1
  refine ⟨_, rfl, rfl, _, rfl, ?_⟩
  rw [term_non i1]
  cases e : rdLink a with
  | none =>
    rw [e] at q
    exact ifT rfl (q _ _ rfl s1)
  | some x =>
    rw [e] at q i1
    refine ifF rfl ⟨_, rfl, _, rfl, (by show 3 ≤ sizeLine; decide), fun t nt => ?_⟩
    have u := same_new nt (.tup [.str "write", v, .str b])
    exact q _ _ ⟨t, _, rfl, upd_same, are3 rfl (i1.same u) rfl⟩ (s1.trans u)
theorem sc22 : FnScope ["words"] ["words"] (defScope (top 22)) := ⟨rfl, rfl, rfl, by decide +kernel, rfl, by decide +kernel, by decide +kernel⟩
def spL1 (F : List Str → D) : Sp := fun vs H Q _ => ∃ (l : Addr) (wd : Str) (r : List Str), vs = [.ref l] ∧ Wds H l (wd :: r) ∧ ∀ (v : V) (H' : Hp), Is H' (F (wd :: r)) v → Same H H' → Q v H'
theorem ok_outside {g g2 : Addr} {gd gd2 : FuncData} (F : Fun K "read_outside" "read_outside" (top 22) f fd) (N : Gn K mg)
    (G : FnOk P w K mg base CX0 7 g gd ["words", "place"] spAskg) (bG : Binds K gd ["words", "place"] []) (kG : PySem.W.keepIn K (.ref g) = true) (mG : mg "read_asking" = some (.ref g))
    (S : FnOk P w K mg base CX0 3 g2 gd2 ["target", "source"] (spWW fun t s => optD Sd.d (rdSetting t s))) (bS : Binds K gd2 ["target", "source"] []) (kS : PySem.W.keepIn K (.ref g2) = true) (mS : mg "read_setting" = some (.ref g2)) :
    FnOk P w K mg base CX0 8 f fd ["words"] (spL1 fun ws => optD Sd.d (rdOutside ws)) := by
  refine F.ok sc22 (fun vs H Q E h => ?_) (fun cdv A outer s H vs Q E hr h => ?_)
  · obtain ⟨l, wd, r, rfl, _⟩ := h
    rfl
  obtain ⟨l, wd, r, rfl, hW, q⟩ := h
  have q : ∀ (v : V) (H' : Hp), Is H' (optD Sd.d (rdOutside (wd :: r))) v → Same H H' → Q v H' := q
  obtain ⟨aO, mO, cO⟩ := N.loops
  obtain ⟨aH, mH, cH⟩ := N.holders
  have hl := hW.1
  have r3 : Room 3 (A.deeper (envOfC "read_outside" (defScope (top 22)) s.heap.objs.size f cdv)) := hr.mono (by decide)
  refine ⟨_, pss_cons (ps_if (pt_cmpR (show OpR _ _ (rIn K false) from op_in_seq) (pe_ix (show IxR _ (rIxL K) from ix_list) (pv 0) pe_int (fun _ _ => rfl)) (pe_glob (v := .ref aO) (by rfl) mO rfl) (by rfl))
      (pss_one (ps_ret (pe_call G hr rfl mG kG bG .nil pass0 (pa_cons (pv 0) (pa_cons (pe_ix (show IxR _ (rIxL K) from ix_list) (pv 0) pe_int (fun _ _ => rfl)) pa_nil))))) pss_nil)
    (pss_cons (ps_if (pt_cmpR op_ne (pe_callB call_len_seq (by rfl) N.len PySem.boot_len (pa_cons (pv 0) pa_nil)) pe_int (nomark _)) (pss_one (ps_ret pe_non)) pss_nil)
    (pss_cons (ps_if (pt_cmpR op_eq (pe_ix (show IxR _ (rIxL K) from ix_list) (pv 0) pe_int (fun _ _ => rfl)) pe_str (nomark _))
      (pss_one (ps_ret (pe_call S r3 rfl mS kS bS .nil pass0 (pa_cons (pe_ix (show IxR _ (rIxL K) from ix_list) (pv 0) pe_int (fun _ _ => rfl)) (pa_cons (pe_ix (show IxR _ (rIxL K) from ix_list) (pv 0) pe_int (fun _ _ => rfl)) pa_nil))))) pss_nil)
    (pss_cons (ps_if (PW.pt (pw_and (pt_cmpR op_eq (pe_ix (show IxR _ (rIxL K) from ix_list) (pv 0) pe_int (fun _ _ => rfl)) pe_str (nomark _)) (pw_and (pt_cmpR (show OpR _ _ (rIn K false) from op_in_seq) (pe_ix (show IxR _ (rIxL K) from ix_list) (pv 0) pe_int (fun _ _ => rfl)) (pe_glob (v := .ref aH) (by rfl) mH rfl) (by rfl))
        (pw_and1 (pt_cmpR (show OpR _ _ (rIn K false) from op_in_seq) (pe_ix (show IxR _ (rIxL K) from ix_list) (pv 0) pe_int (fun _ _ => rfl)) (pe_glob (v := .ref aH) (by rfl) mH rfl) (by rfl))))))
      (pss_one (ps_ret (pe_tup (pa_cons pe_str (pa_cons (pe_ix (show IxR _ (rIxL K) from ix_list) (pv 0) pe_int (fun _ _ => rfl)) (pa_cons (pe_ix (show IxR _ (rIxL K) from ix_list) (pv 0) pe_int (fun _ _ => rfl)) pa_nil)))))) pss_nil)
    (pss_one (ps_ret pe_non))))), ?_⟩
  refine ⟨_, rfl, l, _, _, _, rfl, rfl, SqL.of hl, at_words (j := 0) rfl, aO, _, rfl, .inr (cO _), rfl, flat_strs' _, _, rfl, ?_⟩
  refine if2 (fun c => ?_) (fun c => ?_)
  · have c : has loops wd = true := by rw [← inV_has]; exact c
    have eq0 : rdOutside (wd :: r) = rdAsking wd r wd := by unfold rdOutside; exact if_pos c
    rw [eq0] at q
    exact ⟨_, rfl, _, rfl, l, _, _, _, rfl, rfl, SqL.of hl, at_words (j := 0) rfl, l, wd, r, wd, rfl, hW, fun v H' i s => q v H' i s⟩
  have c : has loops wd = false := by rw [← inV_has]; exact c
  have hlen : ((wd :: r).map V.str).length = (wd :: r).length := List.length_map _
  refine ⟨_, rfl, l, _, rfl, .inl (SqL.of hl), rfl, _, rfl, ?_⟩
  refine if2 (fun c2 => ?_) (fun c2 => ?_)
  · have c2 : ¬ (wd :: r).length = 3 := by
      have c' : (!decide (V.int ((((wd :: r).map V.str).length : Nat) : Int) = V.int ((3 : Nat) : Int))) = true := c2
      rw [dec_len, hlen] at c'
      intro z
      rw [decide_eq_true z] at c'
      cases c'
    have e : rdOutside (wd :: r) = none := by
      unfold rdOutside
      show (if has loops wd = true then _ else _) = _
      rw [if_neg (by rw [c]; exact Bool.false_ne_true)]
      match r, c2 with
      | [], _ => rfl
      | [_], _ => rfl
      | [_, _], c2 => exact absurd rfl c2
      | _ :: _ :: _ :: _, _ => rfl
    rw [e] at q
    exact q _ _ rfl (Same.refl H)
  have c2 : (wd :: r).length = 3 := by
    have c' : (!decide (V.int ((((wd :: r).map V.str).length : Nat) : Int) = V.int ((3 : Nat) : Int))) = false := c2
    rw [dec_len, hlen] at c'
    cases e : decide ((wd :: r).length = 3) with
    | true => exact of_decide_eq_true e
    | false => rw [e] at c'; cases c'
  obtain ⟨b, d, rfl⟩ : ∃ b d, r = [b, d] := by
    match r, c2 with
    | [b, d], _ => exact ⟨b, d, rfl⟩
  have eq0 : rdOutside [wd, b, d] = if b = "=" then rdSetting wd d else if decide (b = "gets") && (has holders wd && has holders d) then some (.gets wd d) else none := by
    unfold rdOutside
    show (if has loops wd = true then _ else _) = _
    rw [if_neg (by rw [c]; exact Bool.false_ne_true)]
  rw [eq0] at q
  have lw := hW.2.2 wd (by simp)
  have ld := hW.2.2 d (by simp)
  refine ⟨_, rfl, l, _, _, _, rfl, rfl, SqL.of hl, at_words (j := 1) rfl, rfl, _, rfl, ?_⟩
  rw [dec_str]
  refine if2 (fun c3 => ?_) (fun c3 => ?_)
  · rw [if_pos (of_decide_eq_true c3)] at q
    exact ⟨_, rfl, l, _, _, _, rfl, rfl, SqL.of hl, at_words (j := 0) rfl, _, rfl, l, _, _, _, rfl, rfl, SqL.of hl, at_words (j := 2) rfl, wd, d, rfl, lw, ld, fun v H' i s => q v H' i s⟩
  rw [if_neg (of_decide_eq_false c3)] at q
  refine ⟨_, rfl, l, _, _, _, rfl, rfl, SqL.of hl, at_words (j := 1) rfl, rfl, _, rfl, ?_⟩
  rw [dec_str]
  refine if2 (fun c4 => ?_) (fun c4 => ?_)
  · rw [c4] at q
    refine ⟨_, rfl, l, _, _, _, rfl, rfl, SqL.of hl, at_words (j := 0) rfl, aH, _, rfl, .inr (cH _), rfl, flat_strs' _, _, rfl, ?_⟩
    refine if2 (fun c5 => ?_) (fun c5 => ?_)
    · have c5 : has holders wd = true := by rw [← inV_has]; exact c5
      rw [c5] at q
      refine ⟨_, rfl, l, _, _, _, rfl, rfl, SqL.of hl, at_words (j := 2) rfl, aH, _, rfl, .inr (cH _), rfl, flat_strs' _, _, rfl, ?_⟩
      refine if2 (fun c6 => ?_) (fun c6 => ?_)
      · have c6 : has holders d = true := by rw [← inV_has]; exact c6
        rw [c6] at q
        refine ⟨_, rfl, l, _, _, _, rfl, rfl, SqL.of hl, at_words (j := 0) rfl, _, rfl, l, _, _, _, rfl, rfl, SqL.of hl, at_words (j := 2) rfl, (by show 3 ≤ sizeLine; decide), fun t nt => q _ _ ?_ (same_new nt _)⟩
        exact ⟨t, _, rfl, upd_same, are3 rfl rfl rfl⟩
      · have c6 : has holders d = false := by rw [← inV_has]; exact c6
        rw [c6] at q
        exact q _ _ rfl (Same.refl H)
    · have c5 : has holders wd = false := by rw [← inV_has]; exact c5
      rw [c5] at q
      exact ifF rfl (q _ _ rfl (Same.refl H))
  · rw [c4] at q
    exact ifF rfl (q _ _ rfl (Same.refl H))
end
end K01
namespace K01
open PySem PySem.Spec PyProof.Rows L2 Xc Dt Ln
section
variable {P : Program} {w : World} {K : PySem.W.Frag} {mg : Str → Option Value} {base : Heap} {f : Addr} {fd : FuncData}
/-! ### read_line -/
/-- a line whose words are of no great length -/
def Fair (l : Str) : Prop := l.length + 2 ≤ sizeLine ∧ (Txt.split l " ") ≠ [] ∧ (Txt.split l " ").length ≤ 4000 ∧ ∀ w ∈ Txt.split l " ", w.length ≤ 4000
def spLine : Sp := fun vs H Q _ => ∃ l p : Str, vs = [.str l, .str p] ∧ Fair l ∧ ∀ (v : V) (H' : Hp), Is H' (optD Sd.d (rdLine l p)) v → Same H H' → Q v H'
theorem sc20 : FnScope ["line", "place", "words"] ["line", "place"] (defScope (top 20)) := ⟨rfl, rfl, rfl, by decide +kernel, rfl, by decide +kernel, by decide +kernel⟩
theorem ok_line {g g2 g3 : Addr} {gd gd2 gd3 : FuncData} (F : Fun K "read_line" "read_line" (top 20) f fd) (N : Gn K mg)
    (G : FnOk P w K mg base CX0 7 g gd ["words", "place"] spAskg) (bG : Binds K gd ["words", "place"] []) (kG : PySem.W.keepIn K (.ref g) = true) (mG : mg "read_asking" = some (.ref g))
    (O : FnOk P w K mg base CX0 8 g2 gd2 ["words"] (spL1 fun ws => optD Sd.d (rdOutside ws))) (bO : Binds K gd2 ["words"] []) (kO : PySem.W.keepIn K (.ref g2) = true) (mO : mg "read_outside" = some (.ref g2))
    (W : FnOk P w K mg base CX0 2 g3 gd3 ["words", "place"] (spLP fun ws p => optD Sd.d (rdWithin ws p))) (bW : Binds K gd3 ["words", "place"] []) (kW : PySem.W.keepIn K (.ref g3) = true) (mW : mg "read_within" = some (.ref g3)) :
    FnOk P w K mg base CX0 9 f fd ["line", "place"] spLine := by
  refine F.ok sc20 (fun vs H Q E h => ?_) (fun cdv A outer s H vs Q E hr h => ?_)
  · obtain ⟨l, p, rfl, _⟩ := h
    rfl
  obtain ⟨ln, p, rfl, ⟨hsz, hne, hn, hw⟩, q⟩ := h
  have q : ∀ (v : V) (H' : Hp), Is H' (optD Sd.d (rdWords (Txt.split ln " ") p)) v → Same H H' → Q v H' := q
  obtain ⟨tO, mOut⟩ := N.outside
  have r7 : Room 7 (A.deeper (envOfC "read_line" (defScope (top 20)) s.heap.objs.size f cdv)) := hr.mono (by decide)
  have r2 : Room 2 (A.deeper (envOfC "read_line" (defScope (top 20)) s.heap.objs.size f cdv)) := hr.mono (by decide)
  have hu64 : (A.deeper (envOfC "read_line" (defScope (top 20)) s.heap.objs.size f cdv)).units + 64 < cLine := by have := hr.un; omega
  refine ⟨_, pss_cons (ps_set (i := 2) sc20.nd rfl (.inl rfl) (pe_bm PySem.F.plainAttrs_str PySem.F.slot_str_split PySem.F.type_str_split mt_split (pv 0) (pa_cons pe_str pa_nil)))
    (pss_cons (ps_if (pt_cmpR op_eq (pe_ix (show IxR _ (rIxL K) from ix_list) (pv 2) pe_int (fun _ _ => rfl)) pe_str (nomark _)) (pss_one (ps_ret (pe_call G r7 rfl mG kG bG .nil pass0 (pa_cons (pv 2) (pa_cons (pv 1) pa_nil))))) pss_nil)
    (pss_cons (ps_if (pt_cmpR (show OpR _ _ (rInStrs K) from op_inStrs hu64) (pv 2) (pe_tup (pa_cons (pe_lst (pa_cons pe_str pa_nil)) (pa_cons (pe_lst (pa_cons pe_str pa_nil)) (pa_cons (pe_lst (pa_cons pe_str pa_nil)) pa_nil)))) (by rfl)) (pss_one (ps_ret (pe_tup (pa_cons (pe_ix (show IxR _ (rIxL K) from ix_list) (pv 2) pe_int (fun _ _ => rfl)) pa_nil)))) pss_nil)
    (pss_cons (ps_if (pt_cmpR op_eq (pv 1) (pe_glob (v := .str "outside") (by rfl) mOut ⟨_, rfl⟩) (nomark _)) (pss_one (ps_ret (pe_call O hr rfl mO kO bO .nil pass0 (pa_cons (pv 2) pa_nil)))) pss_nil)
    (pss_one (ps_ret (pe_call W r2 rfl mW kW bW .nil pass0 (pa_cons (pv 2) (pa_cons (pv 1) pa_nil)))))))), ?_⟩
  refine ⟨_, rfl, rfl, _, _, rfl, rfl, rfl, hsz, fun l nl => ?_⟩
  generalize Txt.split ln " " = ws at *
  have u1 := same_new nl (.lst (ws.map V.str))
  have m1 : (upd H l (.lst (ws.map V.str))) l = some (.lst (ws.map V.str)) := upd_same
  generalize upd H l (.lst (ws.map V.str)) = H1 at u1 m1 ⊢
  obtain ⟨wd, r, rfl⟩ : ∃ wd r, ws = wd :: r := by
    match ws, hne with
    | wd :: r, _ => exact ⟨wd, r, rfl⟩
  have W1 : Wds H1 l (wd :: r) := ⟨m1, hn, hw⟩
  have eq0 : rdWords (wd :: r) p = if wd = "if" then rdAsking wd r p else if r = [] ∧ (wd = "quit" ∨ wd = "else" ∨ wd = "end") then some (.one wd) else if p = "outside" then rdOutside (wd :: r) else rdWithin (wd :: r) p := rfl
  rw [eq0] at q
  refine ⟨_, rfl, l, _, _, _, rfl, rfl, SqL.of m1, at_words (j := 0) rfl, rfl, _, rfl, ?_⟩
  rw [dec_str]
  refine if2 (fun c => ?_) (fun c => ?_)
  · rw [if_pos (of_decide_eq_true c)] at q
    exact ⟨_, rfl, _, rfl, l, wd, r, p, rfl, W1, fun v H' i s => q v H' i (u1.trans s)⟩
  rw [if_neg (of_decide_eq_false c)] at q
  have sz1 : 1 ≤ sizeLine := by decide
  refine ⟨_, rfl, sz1, fun c1 n1 => ?_⟩
  have v1 := same_new n1 (.lst [.str "quit"])
  have k1 : (upd H1 c1 (.lst [.str "quit"])) c1 = some (.lst ([("quit" : Str)].map V.str)) := upd_same
  generalize upd H1 c1 (.lst [.str "quit"]) = H2 at v1 k1 ⊢
  refine ⟨sz1, fun c2 n2 => ?_⟩
  have v2 := same_new n2 (.lst [.str "else"])
  have k2 : (upd H2 c2 (.lst [.str "else"])) c2 = some (.lst ([("else" : Str)].map V.str)) := upd_same
  generalize upd H2 c2 (.lst [.str "else"]) = H3 at v2 k2 ⊢
  refine ⟨sz1, fun c3 n3 => ?_⟩
  have v3 := same_new n3 (.lst [.str "end"])
  have k3 : (upd H3 c3 (.lst [.str "end"])) c3 = some (.lst ([("end" : Str)].map V.str)) := upd_same
  generalize upd H3 c3 (.lst [.str "end"]) = H4 at v3 k3 ⊢
  refine ⟨(by show 3 ≤ sizeLine; decide), fun t nt => ?_⟩
  have v4 := same_new nt (.tup [.ref c1, .ref c2, .ref c3])
  have k4 : (upd H4 t (.tup [.ref c1, .ref c2, .ref c3])) t = some (.tup ([c1, c2, c3].map V.ref)) := upd_same
  generalize upd H4 t (.tup [.ref c1, .ref c2, .ref c3]) = H5 at v4 k4 ⊢
  have s5 := ((v1.trans v2).trans v3).trans v4
  refine ⟨l, t, wd :: r, [c1, c2, c3], [[("quit" : Str)], [("else" : Str)], [("end" : Str)]], rfl, rfl, s5 _ _ m1, SqT.of k4, .cons (v4 _ _ (v3 _ _ (v2 _ _ k1))) (.cons (v4 _ _ (v3 _ _ k2)) (.cons (v4 _ _ k3) .nil)), _, rfl, ?_⟩
  have hany : (([[("quit" : Str)], [("else" : Str)], [("end" : Str)]] : List (List Str)).any fun us => decide (us = wd :: r)) = decide (r = [] ∧ (wd = "quit" ∨ wd = "else" ∨ wd = "end")) := by
    rw [Bool.eq_iff_iff, List.any_eq_true, decide_eq_true_eq]
    constructor
    · rintro ⟨us, hu, e⟩
      have e := of_decide_eq_true e
      simp only [List.mem_cons, List.not_mem_nil, or_false] at hu
      rcases hu with rfl | rfl | rfl
      · obtain ⟨e1, e2⟩ := List.cons.inj e; exact ⟨e2.symm, .inl e1.symm⟩
      · obtain ⟨e1, e2⟩ := List.cons.inj e; exact ⟨e2.symm, .inr (.inl e1.symm)⟩
      · obtain ⟨e1, e2⟩ := List.cons.inj e; exact ⟨e2.symm, .inr (.inr e1.symm)⟩
    · rintro ⟨rfl, rfl | rfl | rfl⟩
      · exact ⟨_, List.mem_cons_self, decide_eq_true rfl⟩
      · exact ⟨_, List.mem_cons_of_mem _ List.mem_cons_self, decide_eq_true rfl⟩
      · exact ⟨_, List.mem_cons_of_mem _ (List.mem_cons_of_mem _ List.mem_cons_self), decide_eq_true rfl⟩
  rw [hany]
  have s15 := u1.trans s5
  have W5 := W1.same s5
  refine if2 (fun c2 => ?_) (fun c2 => ?_)
  · rw [if_pos (of_decide_eq_true c2)] at q
    refine ⟨_, rfl, l, _, _, _, rfl, rfl, SqL.of W5.1, at_words (j := 0) rfl, sz1, fun t2 nt2 => ?_⟩
    exact q _ _ ⟨t2, _, rfl, upd_same, are1 rfl⟩ (s15.trans (same_new nt2 _))
  rw [if_neg (of_decide_eq_false c2)] at q
  refine ⟨_, rfl, rfl, _, rfl, ?_⟩
  rw [dec_str]
  refine if2 (fun c3 => ?_) (fun c3 => ?_)
  · rw [if_pos (of_decide_eq_true c3)] at q
    exact ⟨_, rfl, l, wd, r, rfl, W5, fun v H' i s => q v H' i (s15.trans s)⟩
  · rw [if_neg (of_decide_eq_false c3)] at q
    exact ⟨_, rfl, _, rfl, l, wd :: r, p, rfl, W5, fun v H' i s => q v H' i (s15.trans s)⟩
end
end K01
/-! The blocks of a code, as nextcode.blocks reads them: the same over plain rows, without a heap; and how rows stand in it. -/
namespace Dt
open PySem PySem.Spec PyProof.Rows L2 Xc
/-! ### data of tuples alone -/
mutual
def D.pu : D → Bool
  | .lst _ => false
  | .dct => false
  | .tup ds => D.pus ds
  | _ => true
def D.pus : List D → Bool
  | [] => true
  | d :: r => d.pu && D.pus r
end
/-- tuples stand where they stood -/
def Tps (H H' : Hp) : Prop := ∀ a xs, H a = some (.tup xs) → H' a = some (.tup xs)
theorem Tps.of {H H' : Hp} (s : Same H H') : Tps H H' := fun a xs h => s _ _ h
theorem Tps.trans {H H1 H2 : Hp} (s : Tps H H1) (t : Tps H1 H2) : Tps H H2 := fun a xs h => t _ _ (s _ _ h)
theorem tps_upd {H : Hp} {p : Addr} {o u : HO} (h : H p = some o) (n : ∀ xs, o ≠ .tup xs) : Tps H (upd H p u) := fun a xs e => by
  rw [upd_ne (ne_of e h fun z => n _ z.symm)]
  exact e
mutual
theorem is_tps {H H' : Hp} (s : Tps H H') : ∀ {d : D} {v : V}, d.pu = true → Is H d v → Is H' d v
  | .non, _, _, h => h
  | .bl _, _, _, h => h
  | .int _, _, _, h => h
  | .str _, _, _, h => h
  | .tup _, _, p, h => by
    obtain ⟨a, xs, e, q, r⟩ := h
    rw [D.pu] at p
    exact ⟨a, xs, e, s _ _ q, are_tps s p r⟩
theorem are_tps {H H' : Hp} (s : Tps H H') : ∀ {ds : List D} {xs : List V}, D.pus ds = true → Are H ds xs → Are H' ds xs
  | [], _, _, h => h
  | _ :: _, _, p, h => by
    obtain ⟨x, r, e, q, t⟩ := h
    rw [D.pus] at p
    have p := Bool.and_eq_true_iff.mp p
    exact ⟨x, r, e, is_tps s p.1 q, are_tps s p.2 t⟩
end
end Dt
namespace Ln
open PySem PySem.Spec PyProof.Rows L2 Xc Dt
/-- what a line says first -/
def Sd.word : Sd → Str
  | .one w => w
  | .ask w _ => w
  | .read _ _ => "read"
  | .write _ _ => "write"
  | .gets _ _ => "gets"
  | .keep _ => "keep"
  | .go _ => "go"
/-- rows of a block, one behind the other: number, what it says, the rows within it, those behind its else, whether it has one -/
inductive Rws where
  | nil
  | cons (n : Nat) (s : Sd) (b o : Rws) (e : Bool) (r : Rws)
def Rws.snoc : Rws → Nat → Sd → Rws → Rws → Bool → Rws
  | .nil, n, s, b, o, e => .cons n s b o e .nil
  | .cons n' s' b' o' e' r, n, s, b, o, e => .cons n' s' b' o' e' (r.snoc n s b o e)
/-- a row that lacks its end: the rows ahead of it in its block, itself, whether its else was met, and then the rows ahead of the else -/
structure Fr where
  done : Rws
  n : Nat
  s : Sd
  e : Bool
  q : Rws
/-- the place of a line: frames from the innermost one on -/
def place (fs : List Fr) : Str := match fs.reverse.find? (fun f => has loops f.s.word) with
  | some f => f.s.word
  | none => "outside"
def fitsM (w : Str) (fs : List Fr) : Bool :=
  if w = "else" then (match fs with
    | [] => false
    | f :: _ => decide (f.s.word = "if") && !f.e)
  else !decide (w = "end") || !fs.isEmpty
def takeM (n : Nat) (s : Sd) (fs : List Fr) (cur : Rws) : List Fr × Rws :=
  if s.word = "end" then (match fs with
    | [] => ([], cur)
    | f :: r => (r, f.done.snoc f.n f.s (if f.e then f.q else cur) (if f.e then cur else .nil) f.e))
  else if s.word = "else" then (match fs with
    | [] => ([], cur)
    | f :: r => ({ f with e := true, q := cur } :: r, .nil))
  else if s.word = "if" ∨ has loops s.word = true then ({ done := cur, n := n, s := s, e := false, q := .nil } :: fs, .nil)
  else (fs, cur.snoc n s .nil .nil false)
/-- the rows of the lines that come, the first one with the number n; or the number of the first line that is none -/
def rbFrom : Nat → List Str → List Fr → Rws → Except Nat Rws
  | n, [], [], cur => .ok cur
  | n, [], _ :: _, _ => .error n
  | n, l :: ls, fs, cur => match rdLine l (place fs) with
    | none => .error n
    | some s => if fitsM s.word fs then rbFrom (n + 1) ls (takeM n s fs cur).1 (takeM n s fs cur).2 else .error n
def readBlocks (ls : List Str) : Except Nat Rws := rbFrom 1 ls [] .nil
theorem tm_pu (x : Tm) : x.d.pu = true := by cases x <;> simp [Tm.d, D.pu, D.pus]
theorem as_pu (x : As) : x.d.pu = true := by
  cases x with
  | same a b => simp [As.d, D.pu, D.pus, tm_pu]
  | _ => simp [As.d, D.pu, D.pus]
theorem parts_pu : ∀ ps : List (Bool × As), D.pus (ps.map partD) = true
  | [] => by simp [D.pus]
  | p :: r => by simp [D.pus, D.pu, partD, as_pu, parts_pu r]
theorem sd_pu (s : Sd) : s.d.pu = true := by
  cases s with
  | ask w ps => simp [Sd.d, D.pu, D.pus, parts_pu]
  | read t x => simp [Sd.d, D.pu, D.pus, tm_pu]
  | write x s => simp [Sd.d, D.pu, D.pus, tm_pu]
  | _ => simp [Sd.d, D.pu, D.pus]
/-! ### rows in the heap -/
/-- the attributes of a Row -/
def rowF (n : Nat) (sv : V) (lb lo : Addr) (e : Bool) : List (Str × V) := [("number", .int (n : Nat)), ("said", sv), ("body", .ref lb), ("other", .ref lo), ("has_else", .bl e)]
section
variable {n : Nat} {sv : V} {lb lo : Addr} {e : Bool}
theorem rf_number : (rowF n sv lb lo e).lookup ("number" : Str) = some (.int (n : Nat)) := by rfl
theorem rf_said : (rowF n sv lb lo e).lookup ("said" : Str) = some sv := by rfl
theorem rf_body : (rowF n sv lb lo e).lookup ("body" : Str) = some (.ref lb) := by rfl
theorem rf_other : (rowF n sv lb lo e).lookup ("other" : Str) = some (.ref lo) := by rfl
theorem rf_else : (rowF n sv lb lo e).lookup ("has_else" : Str) = some (.bl e) := by rfl
theorem rf_put : putF "has_else" (.bl true) (rowF n sv lb lo e) = rowF n sv lb lo true := by rfl
theorem rf_all : putF "has_else" (.bl false) (putF "other" (.ref lo) (putF "body" (.ref lb) (putF "said" sv (putF "number" (.int (n : Nat)) [])))) = rowF n sv lb lo false := by rfl
end
/-- the values are rows of a block, all their objects being among A -/
def IsBlk (C : Addr) (A : Addr → Prop) (H : Hp) : Rws → List V → Prop
  | .nil, vs => vs = []
  | .cons n s b o e r, vs => ∃ (p dx : Addr) (sv : V) (lb lo : Addr) (xb xo vr : List V), vs = .ref p :: vr ∧ (A p ∧ A lb ∧ A lo) ∧ H p = some (.ins C dx (rowF n sv lb lo e)) ∧ Is H s.d sv ∧
      H lb = some (.lst xb) ∧ IsBlk C A H b xb ∧ H lo = some (.lst xo) ∧ IsBlk C A H o xo ∧ IsBlk C A H r vr
variable {C : Addr} {A B : Addr → Prop} {H H' : Hp}
theorem IsBlk.keep (k : ∀ x o, A x → H x = some o → H' x = some o) (t : Tps H H') (m : ∀ x, A x → B x) : ∀ {b : Rws} {vs : List V}, IsBlk C A H b vs → IsBlk C B H' b vs
  | .nil, _, h => h
  | .cons .., _, h => by
    obtain ⟨p, dx, sv, lb, lo, xb, xo, vr, rfl, ⟨a1, a2, a3⟩, hp, hs, hb, ib, ho, io, ir⟩ := h
    exact ⟨p, dx, sv, lb, lo, xb, xo, vr, rfl, ⟨m _ a1, m _ a2, m _ a3⟩, k _ _ a1 hp, is_tps t (sd_pu _) hs, k _ _ a2 hb, ib.keep k t m, k _ _ a3 ho, io.keep k t m, ir.keep k t m⟩
theorem IsBlk.same (s : Same H H') {b : Rws} {vs : List V} (h : IsBlk C A H b vs) : IsBlk C A H' b vs := h.keep (fun x o _ e => s x o e) (Tps.of s) fun _ a => a
theorem IsBlk.snoc {n : Nat} {s : Sd} {b' o' : Rws} {e : Bool} {p dx : Addr} {sv : V} {lb lo : Addr} {xb xo : List V} (a : A p ∧ A lb ∧ A lo) (hp : H p = some (.ins C dx (rowF n sv lb lo e))) (hs : Is H s.d sv)
    (hb : H lb = some (.lst xb)) (ib : IsBlk C A H b' xb) (ho : H lo = some (.lst xo)) (io : IsBlk C A H o' xo) : ∀ {b : Rws} {vs : List V}, IsBlk C A H b vs → IsBlk C A H (b.snoc n s b' o' e) (vs ++ [.ref p])
  | .nil, _, h => by
    rw [show _ = [] from h]
    exact ⟨p, dx, sv, lb, lo, xb, xo, [], rfl, a, hp, hs, hb, ib, ho, io, rfl⟩
  | .cons .., _, h => by
    obtain ⟨p1, dx1, sv1, lb1, lo1, xb1, xo1, vr1, rfl, a1, h1, h2, h3, h4, h5, h6, h7⟩ := h
    exact ⟨p1, dx1, sv1, lb1, lo1, xb1, xo1, vr1 ++ [.ref p], rfl, a1, h1, h2, h3, h4, h5, h6, IsBlk.snoc a hp hs hb ib ho io h7⟩
/-! ### rows that lack their ends -/
/-- the frames from the innermost one on, the innermost list at c; heads and blocks from the innermost one on; ops: what may still be written -/
def ZAt (C : Addr) (A : Addr → Prop) (H : Hp) : List Fr → Addr → List Addr → List Addr → List Addr → Prop
  | [], c, hs, bs, ops => hs = [] ∧ bs = [c] ∧ ops = [c]
  | f :: fs, c, hs, bs, ops => ∃ (p q a dx : Addr) (sv : V) (xq xs : List V) (hs' bs' ops' : List Addr), hs = p :: hs' ∧ bs = c :: bs' ∧ ops = c :: p :: q :: ops' ∧
      H p = some (.ins C dx (if f.e then rowF f.n sv q c true else rowF f.n sv c q false)) ∧ Is H f.s.d sv ∧ H q = some (.lst xq) ∧ IsBlk C A H f.q xq ∧ (f.e = false → xq = [] ∧ f.q = .nil) ∧
      H a = some (.lst (xs ++ [.ref p])) ∧ IsBlk C A H f.done xs ∧ ZAt C A H fs a hs' bs' ops'
theorem ZAt.ops {fs : List Fr} {c : Addr} {hs bs ops : List Addr} (h : ZAt C A H fs c hs bs ops) : ∃ r, ops = c :: r := by
  cases fs with
  | nil => exact ⟨[], h.2.2⟩
  | cons f fs =>
    obtain ⟨p, q, a, dx, sv, xq, xs, hs', bs', ops', _, _, e, _⟩ := h
    exact ⟨_, e⟩
/-- what stands at c itself is no part of it -/
theorem ZAt.keep : ∀ {fs : List Fr} {c : Addr} {hs bs ops : List Addr}, ZAt C A H fs c hs bs ops → (∀ x o, A x → H x = some o → H' x = some o) → Tps H H' → (∀ x, A x → B x) → (∀ x o, x ∈ ops.tail → H x = some o → H' x = some o) → ZAt C B H' fs c hs bs ops
  | [], _, _, _, _, h, _, _, _, _ => h
  | f :: fs, _, _, _, _, h, k, t, m, z => by
    obtain ⟨p, q, a, dx, sv, xq, xs, hs', bs', ops', rfl, rfl, rfl, hp, hs, hq, iq, ne, ha, ia, r⟩ := h
    obtain ⟨r', er⟩ := r.ops
    refine ⟨p, q, a, dx, sv, xq, xs, hs', bs', ops', rfl, rfl, rfl, z _ _ (by simp) hp, is_tps t (sd_pu _) hs, z _ _ (by simp) hq, iq.keep k t m, ne, z _ _ (by rw [er]; simp) ha, ia.keep k t m, r.keep k t m fun x o hx e => z x o ?_ e⟩
    show x ∈ p :: q :: ops'
    exact List.mem_cons_of_mem _ (List.mem_cons_of_mem _ (List.mem_of_mem_tail hx))
theorem ZAt.some : ∀ {fs : List Fr} {c : Addr} {hs bs ops : List Addr}, ZAt C A H fs c hs bs ops → ∀ x ∈ ops.tail, ∃ o, H x = some o
  | [], _, _, _, _, h, x, hx => by
    rw [h.2.2] at hx
    cases hx
  | f :: fs, _, _, _, _, h, x, hx => by
    obtain ⟨p, q, a, dx, sv, xq, xs, hs', bs', ops', rfl, rfl, rfl, hp, hs, hq, iq, ne, ha, ia, r⟩ := h
    obtain ⟨r', er⟩ := r.ops
    have hx : x ∈ p :: q :: ops' := hx
    rw [List.mem_cons, List.mem_cons] at hx
    rcases hx with rfl | rfl | hx
    · exact ⟨_, hp⟩
    · exact ⟨_, hq⟩
    · rw [er, List.mem_cons] at hx
      rcases hx with rfl | hx
      · exact ⟨_, ha⟩
      · refine r.some x ?_
        rw [er]
        exact hx
theorem ZAt.lens : ∀ {fs : List Fr} {c : Addr} {hs bs ops : List Addr}, ZAt C A H fs c hs bs ops → hs.length = fs.length ∧ bs.length = fs.length + 1
  | [], _, _, _, _, h => by rw [h.1, h.2.1]; exact ⟨rfl, rfl⟩
  | f :: fs, _, _, _, _, h => by
    obtain ⟨p, q, a, dx, sv, xq, xs, hs', bs', ops', rfl, rfl, rfl, hp, hs, hq, iq, ne, ha, ia, r⟩ := h
    have := r.lens
    exact ⟨congrArg (· + 1) this.1, congrArg (· + 1) this.2⟩
/-- how many rows stand one behind the other -/
def Rws.len : Rws → Nat
  | .nil => 0
  | .cons _ _ _ _ _ r => r.len + 1
theorem Rws.len_snoc {n : Nat} {s : Sd} {b o : Rws} {e : Bool} : ∀ r : Rws, (r.snoc n s b o e).len = r.len + 1
  | .nil => rfl
  | .cons _ _ _ _ _ r => congrArg (· + 1) (Rws.len_snoc r)
theorem IsBlk.len : ∀ {b : Rws} {vs : List V}, IsBlk C A H b vs → vs.length = b.len
  | .nil, _, h => by rw [show _ = [] from h]; rfl
  | .cons .., _, h => by
    obtain ⟨p1, dx1, sv1, lb1, lo1, xb1, xo1, vr1, rfl, a1, h1, h2, h3, h4, h5, h6, h7⟩ := h
    exact congrArg (· + 1) h7.len
/-- all but what stands at S stands as it stood -/
def Kp (S : List Addr) (H H' : Hp) : Prop := ∀ x o, x ∉ S → H x = some o → H' x = some o
theorem Kp.upd {S : List Addr} {H H' : Hp} {p : Addr} {u : HO} (k : Kp S H H') (m : p ∈ S) : Kp S H (upd H' p u) := fun x o hx e => by
  rw [upd_ne fun z => hx (by rw [z]; exact m)]
  exact k x o hx e
theorem Kp.refl {S : List Addr} {H : Hp} : Kp S H H := fun _ _ _ e => e
/-- the lists heads at hA and blocks at bA, with all that they lead to, made since H0; m: how many lines were read -/
structure ZSt (C : Addr) (H0 H : Hp) (hA bA : Addr) (m : Nat) (fs : List Fr) (cur : Rws) : Prop where
  same : Same H0 H
  lf : fs.length ≤ m
  lc : cur.len ≤ m
  ld : ∀ f ∈ fs, f.done.len < m
  ex : ∃ (A : Addr → Prop) (c : Addr) (hs bs ops : List Addr) (xs : List V), H hA = some (.lst (hs.reverse.map V.ref)) ∧ H bA = some (.lst (bs.reverse.map V.ref)) ∧ ZAt C A H fs c hs bs ops ∧ H c = some (.lst xs) ∧ IsBlk C A H cur xs ∧
    (hA :: bA :: ops).Nodup ∧ (∀ x, x ∈ hA :: bA :: ops → ¬ A x) ∧ (∀ x, A x → ∃ o, H x = some o) ∧ (∀ x, x ∈ hA :: bA :: ops → H0 x = none)
end Ln
/-! own errors with one or three fields: their __init__, their making, what is wished where one is raised. -/
namespace Eo
open PySem PySem.Spec PyProof.Rows L2 Xc Dt
def spI1 (C : Addr) (f : Str) : Sp := fun vs H Q _ => ∃ a x, vs = [.ref a, x] ∧ H a = some (exo a C none) ∧ ∀ dx, H dx = none → dx ≠ a → Q .non (upd (upd H dx (exd dx [(f, x)])) a (exo a C (some dx)))
def spI3 (C : Addr) (f g h : Str) : Sp := fun vs H Q _ => ∃ a x y z, vs = [.ref a, x, y, z] ∧ H a = some (exo a C none) ∧
  ∀ dx, H dx = none → dx ≠ a → Q .non (upd (upd (upd (upd H dx (exd dx [(f, x)])) a (exo a C (some dx))) dx (exd dx [(g, y), (f, x)])) dx (exd dx [(h, z), (g, y), (f, x)]))
/-- C's __init__, as the top left it, keeps sp -/
def Makes (P : Program) (w : World) (K : PySem.W.Frag) (mg : Str → Option Value) (base : Heap) (C : Addr) (ps : List Str) (sp : Sp) : Prop := ∃ fI fd, PySem.W.findIn K (.ref C) "__init__" = some (some (.ref fI)) ∧ PySem.W.typeIn K (.ref fI) = some (.type "function") ∧
  FnOk P w K mg base CX0 1 fI fd ps sp ∧ Binds K fd ps []
theorem mk1 {C : Addr} {f : Str} {H : Hp} {x : V} {W : XK} (h : ∀ d H', H' d = some (.xd [(f, x)]) → Same H H' → W (.ref C) (some d) H') (a : Addr) (na : H a = none) :
    spI1 C f (.ref a :: ([x] ++ [])) (upd H a (exo a C none)) (fun v H2 => v = .non ∧ ∃ (d : Addr) (fs : List (Str × V)), H2 a = some (exo a C (some d)) ∧ H2 d = some (exd d fs) ∧ H d = none ∧ W (.ref C) (some d) (upd (del H2 a) d (.xd fs))) (fun _ _ _ => False) := by
  refine ⟨a, x, rfl, upd_same, fun dx nd nda => ⟨rfl, dx, [(f, x)], upd_same, by rw [upd_ne nda, upd_same], ?_, h dx _ upd_same fun b o e => ?_⟩⟩
  · rwa [upd_ne nda] at nd
  · rw [upd_ne nda] at nd
    rw [upd_ne (ne_of_none e nd), del_ne (ne_of_none e na), upd_ne (ne_of_none e na), upd_ne (ne_of_none e nd), upd_ne (ne_of_none e na)]
    exact e
theorem mk3 {C : Addr} {f g k : Str} {H : Hp} {x y z : V} {W : XK} (h : ∀ d H', H' d = some (.xd [(k, z), (g, y), (f, x)]) → Same H H' → W (.ref C) (some d) H') (a : Addr) (na : H a = none) :
    spI3 C f g k (.ref a :: ([x, y, z] ++ [])) (upd H a (exo a C none)) (fun v H2 => v = .non ∧ ∃ (d : Addr) (fs : List (Str × V)), H2 a = some (exo a C (some d)) ∧ H2 d = some (exd d fs) ∧ H d = none ∧ W (.ref C) (some d) (upd (del H2 a) d (.xd fs))) (fun _ _ _ => False) := by
  refine ⟨a, x, y, z, rfl, upd_same, fun dx nd nda => ⟨rfl, dx, [(k, z), (g, y), (f, x)], by rw [upd_ne nda.symm, upd_ne nda.symm, upd_same], upd_same, ?_, h dx _ upd_same fun b o e => ?_⟩⟩
  · rwa [upd_ne nda] at nd
  · rw [upd_ne nda] at nd
    rw [upd_ne (ne_of_none e nd), del_ne (ne_of_none e na), upd_ne (ne_of_none e nd), upd_ne (ne_of_none e nd), upd_ne (ne_of_none e na), upd_ne (ne_of_none e nd), upd_ne (ne_of_none e na)]
    exact e
/-- what is wished of a raised error with one field -/
def Wish1 (C : Addr) (f : Str) (v : V) (H : Hp) (E : XK) : Prop := ∀ dd H', H' dd = some (.xd [(f, v)]) → Same H H' → E (.ref C) (some dd) H'
theorem Wish1.same {C : Addr} {f : Str} {v : V} {H H1 : Hp} {E : XK} (h : Wish1 C f v H E) (s : Same H H1) : Wish1 C f v H1 E := fun dd H' e t => h dd H' e (s.trans t)
def Wish3 (C : Addr) (f g k : Str) (x y z : V) (H : Hp) (E : XK) : Prop := ∀ dd H', H' dd = some (.xd [(k, z), (g, y), (f, x)]) → Same H H' → E (.ref C) (some dd) H'
theorem Wish3.same {C : Addr} {f g k : Str} {x y z : V} {H H1 : Hp} {E : XK} (h : Wish3 C f g k x y z H E) (s : Same H H1) : Wish3 C f g k x y z H1 E := fun dd H' e t => h dd H' e (s.trans t)
end Eo
namespace Dt
open PySem PySem.Spec PyProof.Rows L2 Xc
theorem depth_ints : ∀ ns : List Int, PyData.depthAll (ns.map PyData.int) ≤ 1 := by
  intro ns
  induction ns with
  | nil => decide
  | cons n r ih =>
    rw [List.map_cons, PyData.depthAll]
    rw [PyData.depth]
    omega
theorem reads_ints {h : Heap} : ∀ {ns : List Int} {us : List Value}, Vals (ns.map V.int) us → ReadsAll h us (ns.map PyData.int) ((ns.map fun _ => ([] : List Addr)).flatten)
  | [], _, r => by cases r; exact .nil
  | n :: ns, _, r => by
    cases r with
    | cons r1 r2 =>
      obtain ⟨t, rfl⟩ := r1
      exact .cons (.int n t) (reads_ints r2)
/-- max(xs, default=d), xs a list of ints -/
def rMaxD (K : PySem.W.Frag) : List V → List V → Hp → VK → Prop := fun vs zs H Q => ∃ (p : Addr) (ns : List Int) (d : Int), vs = [.ref p] ∧ zs = [.int d] ∧ SqL K H p (ns.map V.int) ∧ Q (.int (match ns with | [] => d | n :: r => r.foldl max n)) H
theorem call_maxD {X : Cx} (hc : X.calm = true) (hu : X.A.units + 64 < cLine) : CallRK X (.builtin "max") ["default"] (rMaxD X.K) := by
  intro pins s σ H vs zs us ws Q I r1 r2 h
  obtain ⟨p, ns, d, rfl, rfl, hs, q⟩ := h
  obtain ⟨u, rfl, ru⟩ := vals1 r1
  cases ru
  obtain ⟨z, rfl, rz⟩ := vals1 r2
  obtain ⟨its, rv, hl, _⟩ := I.list hs
  have hd := depth_ints ns
  refine PySem.W.max_list_default (I.ok.hd hc) hl.isList (xs := ns.map PyData.int) (by simpa using reads_ints rv) ?_ (by omega) (fun e h' tk k => ?_) fun y ys i v h' tk bs e hv hr k => ?_
  · refine ⟨fun x hx y hy => ?_, fun x hx => ?_⟩
    · obtain ⟨a, _, rfl⟩ := List.mem_map.mp hx
      obtain ⟨b, _, rfl⟩ := List.mem_map.mp hy
      rfl
    · obtain ⟨a, _, rfl⟩ := List.mem_map.mp hx
      intro z
      cases z
  · cases ns with
    | nil => exact ⟨.int d, H, I.kept k, rz, q⟩
    | cons _ _ => cases e
  · cases ns with
    | nil => cases e
    | cons n r =>
      obtain ⟨rfl, rfl⟩ := List.cons.inj e
      rw [PySem.W.maxD_ints] at hr
      cases hr with
      | int i t => exact ⟨.int _, H, I.kept k, ⟨_, rfl⟩, q⟩
end Dt
/-! for i, x in enumerate(t), t a tuple. -/
namespace Dt
open PySem PySem.Spec PyProof.Rows L2 Xc
section
variable {prog : Program} {w : World} {A : Around} {E : Value → Shared → Prop} {s : Shared}
set_option maxHeartbeats 1000000 in
theorem new_enumT (t : Addr) (items : Array Value) : Meets (Builtin.«enumerate.__new__» ⟨[.type "enumerate", .ref t], []⟩) (fun _ R s => s.heap.IsTuple t items ∧
    R (.ok (.ret (.ref (s.heap.push { cls := .type "tuple_iterator", data := .fields #[.ref t, .int 0 0] }).objs.size)))
      { s with heap := (s.heap.push { cls := .type "tuple_iterator", data := .fields #[.ref t, .int 0 0] }).push { cls := .type "enumerate", data := .fields #[.none, .bool false, .ref s.heap.objs.size, rawInt 0, .none, .none] } }) :=
  .of_wp fun prog w A R s h => by
    obtain ⟨hp, g, d, tk, os⟩ := s
    obtain ⟨ht, h⟩ := h
    have hsub := sub_enumerate
    have q1 : ∀ {A' : Around} {E : Value → Shared → Prop} {Q : Value → Shared → Prop}, Q (.ref hp.objs.size) ⟨hp.push { cls := .type "tuple_iterator", data := .fields #[.ref t, .int 0 0] }, g, d, tk, os⟩ → wpAny (model prog w) A' (pyIter (.ref t)) Q E ⟨hp, g, d, tk, os⟩ := fun q => wpAny_pyIter_tuple ht q
    wp_walk using q1
    refine wpAny_stack_any fun st => wpAny_pure ?_
    split
    · rename_i c _ _ _ _ _
      cases (c == Value.type "enumerate")
      · wp_walk using q1
        exact ⟨_, rfl, h⟩
      · wp_walk using q1
        exact ⟨_, rfl, h⟩
    · wp_walk using q1
      exact ⟨_, rfl, h⟩
theorem call_enumT {t : Addr} {items : Array Value} {Q : Value → Shared → Prop} (ht : s.heap.IsTuple t items)
    (h : ∀ h', IsEnum h' (s.heap.objs.size + 1) s.heap.objs.size 0 .none → h'.IsTupleIter s.heap.objs.size t 0 → (∀ b o, s.heap.get? b = some o → h'.get? b = some o) → Q (.ref (s.heap.objs.size + 1)) { s with heap := h' }) :
    wpAny (model prog w) A (call (.type "enumerate") [.ref t]) Q E s := by
  refine callType_new F.called_enumerate (by decide) (F.typeCall_enumerate_1 _) (F.newCall_enumerate_1 _) (fun obj => F.args_object_init_2 obj _) F.entry_enumerate_new (new_enumT t items) ⟨ht, ?_⟩
  have hz : (s.heap.push { cls := .type "tuple_iterator", data := .fields #[.ref t, .int 0 0] }).objs.size = s.heap.objs.size + 1 := Heap.size_push ..
  show _ ∧ _
  rw [hz]
  have he : IsEnum ((s.heap.push { cls := .type "tuple_iterator", data := .fields #[.ref t, .int 0 0] }).push { cls := .type "enumerate", data := .fields #[.none, .bool false, .ref s.heap.objs.size, rawInt 0, .none, .none] }) (s.heap.objs.size + 1) s.heap.objs.size 0 .none := by
    have z := Heap.get?_push_size (s.heap.push { cls := .type "tuple_iterator", data := .fields #[.ref t, .int 0 0] }) (o := { cls := .type "enumerate", data := .fields #[.none, .bool false, .ref s.heap.objs.size, rawInt 0, .none, .none] }) rfl
    rw [hz] at z
    exact z
  exact ⟨⟨_, he, rfl⟩, h _ he ⟨_, Heap.get?_push_of_some _ (Heap.get?_push_size _ rfl), rfl, rfl⟩ fun b o x => Heap.get?_push_of_some _ (Heap.get?_push_of_some _ x)⟩
end
/-- the items of the tuple at a, each in a new pair with its place -/
def IteT (K : PySem.W.Frag) (a : Addr) (xs : List V) : It :=
  ⟨fun i H => i < xs.length ∧ SqT K H a xs, fun i H v H' => ∃ T x, v = .ref T ∧ H T = none ∧ H' = upd H T (.tup [.int (i : Nat), x]) ∧ xs[i]? = some x, fun i H => i = xs.length ∧ SqT K H a xs⟩
theorem turn_enumT {P : Program} {w : World} {K : PySem.W.Frag} {elts : List Expr} {kk : Nat} {tpos : Pos} (a e it : Addr) (xs : List V) :
    Turn P w K (.Tuple elts kk tpos) (IteT K a xs) [e, it] e (fun i h => (∃ old, IsEnum h e it ((i : Nat) : Int) old) ∧ h.IsTupleIter it a i ∧ e ≠ it ∧ a ≠ it ∧ a ≠ e) where
  mem := by simp
  obj := fun i h st b hb => by
    obtain ⟨⟨old, he⟩, ⟨o, ho, hc, hd⟩, _⟩ := st
    have e' : b = e ∨ b = it := by simpa using hb
    rcases e' with z | z
    · rw [z]; exact ⟨_, he, fun v q => nomatch q⟩
    · rw [z]; exact ⟨o, ho, fun v q => by rw [hd] at q; cases q⟩
  keep := fun i h h' st k => let ⟨⟨old, he⟩, hi, hne⟩ := st; ⟨⟨old, k e (by simp) _ he⟩, hi.at fun o q => k it (by simp) o q, hne⟩
  item := by
    intro X hP hw hK hc i pins s σ H E I hf st hg
    subst hP hw hK
    obtain ⟨⟨old, he⟩, hit, hne, hai, hae⟩ := st
    obtain ⟨hlt, hq⟩ := hg
    obtain ⟨its, rv, p, hz⟩ := I.tuple hq
    have hlen := rv.length
    have hel : e < s.heap.objs.size := Heap.lt_size he
    have hil : it < s.heap.objs.size := by obtain ⟨_, q, _⟩ := hit; exact Heap.lt_size q
    refine wpAny_pyNext_enum_itemD (Draws.tuple (A := X.A.in1) (I.ok.hd hc) it a hai its.toArray) he ⟨hit, p⟩ (by simpa [← hlen] using hlt) hne (by simp [hne, hae.symm]) fun u h' tk hu ho hit' hT hsz hk => ?_
    have hu : its[i]? = some u := by simpa using hu
    obtain ⟨x, hx, ru⟩ : ∃ x, xs[i]? = some x ∧ RelV x u := by
      obtain ⟨u2, h2, r2⟩ := rv.get (List.getElem?_eq_getElem hlt)
      rw [hu] at h2
      cases h2
      exact ⟨_, List.getElem?_eq_getElem hlt, r2⟩
    refine ⟨_, rfl, wpAny_letOwnedTupleGo_enum (s := { s with heap := h', toks := tk + 1 }) ho fun h'' he' sb => ?_⟩
    have hT2 : h''.get? s.heap.objs.size = some { cls := .type "tuple", data := .seq #[.int i tk, u] } := (sb.2 _ (Nat.ne_of_gt hel)).trans hT
    have new : ObjOk X.prog X.w (upd H s.heap.objs.size (.tup [.int (i : Nat), x])) h'' s.heap.objs.size (.tup [.int (i : Nat), x]) :=
      ⟨by show 2 ≤ sizeLine; decide, [.int i tk, u], .cons ⟨_, rfl⟩ (.cons ru .nil), ⟨_, hT2, rfl, _, rfl⟩⟩
    have I1 : Inv X pins σ (upd H s.heap.objs.size (.tup [.int (i : Nat), x])) { s with heap := h'', toks := tk + 1 } :=
      I.turnedNew (ch := [e, it]) (fun b ob hb q => (sb.2 b (fun z => hb (by simp [z]))).trans (hk b ob (fun z => hb (by simp [z])) (fun z => hb (by simp [z])) q)) hf (Nat.le_refl _) new
    refine ⟨.ref s.heap.objs.size, _, I1, rfl, ⟨_, x, rfl, I.hok.fresh (Nat.le_refl _), rfl, hx⟩, ⟨⟨u, ?_⟩, hit'.1.at fun o q => (sb.2 it (Ne.symm hne)).trans q, hne, hai, hae⟩, fun b hb => ?_⟩
    · have e1 : ((i + 1 : Nat) : Int) = (i : Int) + 1 := by omega
      rw [e1]; exact he'
    · have hb' : b < s.heap.objs.size := by
        have e' : b = e ∨ b = it := by simpa using hb
        rcases e' with z | z
        · rw [z]; exact hel
        · rw [z]; exact hil
      rw [upd_ne (Nat.ne_of_lt hb')]
      exact (hf b hb).1
  done := by
    intro X hP hw hK hc i pins s σ H E I hf st hg
    subst hP hw hK
    obtain ⟨⟨old, he⟩, hit, hne, hai, hae⟩ := st
    obtain ⟨rfl, hq⟩ := hg
    obtain ⟨its, rv, p, hz⟩ := I.tuple hq
    obtain ⟨f0, f1, f2, f3, f4, f5⟩ := hf it (by simp)
    have hl := rv.length
    exact wpAny_pyNext_enum_endD (Draws.tuple (A := X.A.in1) (I.ok.hd hc) it a hai its.toArray) he ⟨by simpa [← hl] using hit, p⟩ fun h' eb => ⟨rfl, I.turned (t' := s.toks) (fun b o hb q => eb b o hb q) f0 f1 f3 f4 f5⟩
  self := fun A i s Q E st h => let ⟨⟨_, he⟩, _⟩ := st; wpAny_pyIter_enum he h
def iEnumT (K : PySem.W.Frag) (ta : TA) : TI := fun σ H R => ta σ H fun vs H1 => ∃ a xs, vs = [.ref a] ∧ SqT K H1 a xs ∧ R (IteT K a xs) H1
theorem pi_enumT {X : Cx} {e : Expr} {ta : TA} {p pos tpos : Pos} {elts : List Expr} {kk : Nat} (hg : Gl X "enumerate") (hm : X.mg "enumerate" = none) (ha : PA X [e] ta) (hs : starEach [e] X.env = [(false, eval e X.env)] := by rfl) :
    PI X (.Tuple elts kk tpos) (.Call (.Name "enumerate" p) [e] [] pos) (iEnumT X.K ta) := by
  refine ⟨fun pins s σ H R I h => ?_⟩
  refine Call_ (ld_blt I hg hm boot_enumerate (PyProof.Rows.callWith_type1 (thn (ha.run pos pins s σ H _ I h) fun us s1 ⟨vs, H1, I1, r1, q1⟩ => ?_) hs rfl))
  obtain ⟨a, xs, ex, hq, q⟩ := q1
  subst ex
  obtain ⟨u, rfl, ru⟩ := vals1 r1
  cases ru
  obtain ⟨its, rv, p', hz⟩ := I1.tuple hq
  have hal : a < s1.heap.objs.size := p'.lt
  refine call_enumT p' fun h' he hit hk => wpAny_pyIter_enum he ?_
  have I2 : Inv X pins σ H1 { s1 with heap := h' } := I1.kept (t' := s1.toks) hk
  refine ⟨s1.heap.objs.size + 1, [s1.heap.objs.size + 1, s1.heap.objs.size], _, _, H1, rfl, I2, turn_enumT a (s1.heap.objs.size + 1) s1.heap.objs.size xs, ⟨⟨.none, he⟩, hit, Nat.succ_ne_self _, Nat.ne_of_lt hal, Nat.ne_of_lt (Nat.lt_succ_of_lt hal)⟩, fun b hb => ?_, q⟩
  have e' : b = s1.heap.objs.size + 1 ∨ b = s1.heap.objs.size := by simpa using hb
  have hle : s1.heap.objs.size ≤ b := by
    rcases e' with z | z
    · rw [z]; exact Nat.le_succ _
    · rw [z]; exact Nat.le_refl _
  exact I1.fpOk hle (I1.hok.fresh hle)
end Dt
/-! for i, x in enumerate(xs, start=1), xs a list. -/
namespace Dt
open PySem PySem.Spec PyProof.Rows L2 Xc
section
variable {M : Model} {A : Around} {E : Value → Shared → Prop} {s : Shared} {env : Env}
theorem callWith_type_kwB {pos : Pos} {T : String} {first : List Value} {args : List (Bool × Sem Value)} {keywords : List (Option Str × Sem Value)} {Q : Value → Shared → Prop}
    (hplain : args.any (·.1) = false) (hkw : keywords.any (·.1.isNone) = false)
    (h : wpAny M A (evalArgs (.type T) true args keywords) (fun a s₁ => wpAny M A (call (.type T) (first ++ a.pos) a.kw) Q E s₁) E s) :
    wpAny M A (callWith pos (.type T) first args keywords) Q E s := by
  unfold callWith
  refine wpAny_bind (wpAny_holding (wpAny_mono h (fun a s₁ h₁ => wpAny_bind (wpAny_standAt ?_)) fun _ _ x => x))
  simp only [hplain, hkw, Bool.or_false]
  refine wpAny_bind (wpAny_pure ?_)
  exact wpAny_bind (wpAny_mono h₁ (fun r s₂ hr => wpAny_bind (wpAny_holding (wpAny_point (wpAny_pure hr)))) fun _ _ x => x)
theorem callWith_type_kw {pos : Pos} {T : String} {e : Expr} {rest : List Expr} {kws : List Keyword} {Q : Value → Shared → Prop}
    (h : wpAny M A (spliced (backTo pos (starEach (e :: rest) env))) (fun vs s₁ => wpAny M A (evalAll ((backToKw pos (keywordEach kws env)).map (·.2)))
      (fun kvs s₂ => wpAny M A (call (.type T) vs (((backToKw pos (keywordEach kws env)).filterMap (·.1)).zip kvs)) Q E s₂) E s₁) E s)
    (he : backTo pos (starEach (e :: rest) env) = (false, eval e env) :: backTo pos (starEach rest env) := by rfl)
    (hplain : (backTo pos (starEach (e :: rest) env)).any (·.1) = false := by rfl)
    (hall : (backToKw pos (keywordEach kws env)).all (·.1.isSome) = true := by rfl)
    (hkw : (backToKw pos (keywordEach kws env)).any (·.1.isNone) = false := by rfl) :
    wpAny M A (callWith pos (.type T) [] (backTo pos (starEach (e :: rest) env)) (backToKw pos (keywordEach kws env))) Q E s := by
  refine callWith_type_kwB hplain hkw ?_
  rw [he] at h ⊢
  exact evalArgs_kwB hall h
end
/-- the items of the list at a, each in a new pair behind its place from k on -/
def IteS (K : PySem.W.Frag) (a : Addr) (xs : List V) (k : Int) : It :=
  ⟨fun i H => i < xs.length ∧ SqL K H a xs, fun i H v H' => ∃ T x, v = .ref T ∧ H T = none ∧ H' = upd H T (.tup [.int (k + (i : Nat)), x]) ∧ xs[i]? = some x, fun i H => i = xs.length ∧ SqL K H a xs⟩
theorem turn_enumS {P : Program} {w : World} {K : PySem.W.Frag} {elts : List Expr} {kk : Nat} {tpos : Pos} (a e it : Addr) (xs : List V) (k : Int) :
    Turn P w K (.Tuple elts kk tpos) (IteS K a xs k) [e, it] e (fun i h => (∃ old, IsEnum h e it (k + ((i : Nat) : Int)) old) ∧ h.IsListIter it a i ∧ e ≠ it ∧ a ≠ it ∧ a ≠ e) where
  mem := by simp
  obj := fun i h st b hb => by
    obtain ⟨⟨old, he⟩, ⟨o, ho, hc, hd⟩, _⟩ := st
    have e' : b = e ∨ b = it := by simpa using hb
    rcases e' with z | z
    · rw [z]; exact ⟨_, he, fun v q => nomatch q⟩
    · rw [z]; exact ⟨o, ho, fun v q => by rw [hd] at q; cases q⟩
  keep := fun i h h' st kk => let ⟨⟨old, he⟩, hi, hne⟩ := st; ⟨⟨old, kk e (by simp) _ he⟩, hi.at fun o q => kk it (by simp) o q, hne⟩
  item := by
    intro X hP hw hK hc i pins s σ H E I hf st hg
    subst hP hw hK
    obtain ⟨⟨old, he⟩, hit, hne, hai, hae⟩ := st
    obtain ⟨hlt, hq⟩ := hg
    obtain ⟨its, rv, p, hz⟩ := I.list hq
    have hlen := rv.length
    have hel : e < s.heap.objs.size := Heap.lt_size he
    have hil : it < s.heap.objs.size := by obtain ⟨_, q, _⟩ := hit; exact Heap.lt_size q
    refine wpAny_pyNext_enum_itemC (Draws.list (A := X.A.in1) (I.ok.hd hc) it a hai its.toArray) he ⟨hit, p.isList⟩ (by simpa [← hlen] using hlt) hne (by simp [hne, hae.symm]) fun u h' tk hu ho hit' hT hsz hk => ?_
    have hu : its[i]? = some u := by simpa using hu
    obtain ⟨x, hx, ru⟩ : ∃ x, xs[i]? = some x ∧ RelV x u := by
      obtain ⟨u2, h2, r2⟩ := rv.get (List.getElem?_eq_getElem hlt)
      rw [hu] at h2
      cases h2
      exact ⟨_, List.getElem?_eq_getElem hlt, r2⟩
    refine ⟨_, rfl, wpAny_letOwnedTupleGo_enum (s := { s with heap := h', toks := tk + 1 }) ho fun h'' he' sb => ?_⟩
    have hT2 : h''.get? s.heap.objs.size = some { cls := .type "tuple", data := .seq #[.int (k + i) tk, u] } := (sb.2 _ (Nat.ne_of_gt hel)).trans hT
    have new : ObjOk X.prog X.w (upd H s.heap.objs.size (.tup [.int (k + (i : Nat)), x])) h'' s.heap.objs.size (.tup [.int (k + (i : Nat)), x]) :=
      ⟨by show 2 ≤ sizeLine; decide, [.int (k + i) tk, u], .cons ⟨_, rfl⟩ (.cons ru .nil), ⟨_, hT2, rfl, _, rfl⟩⟩
    have I1 : Inv X pins σ (upd H s.heap.objs.size (.tup [.int (k + (i : Nat)), x])) { s with heap := h'', toks := tk + 1 } :=
      I.turnedNew (ch := [e, it]) (fun b ob hb q => (sb.2 b (fun z => hb (by simp [z]))).trans (hk b ob (fun z => hb (by simp [z])) (fun z => hb (by simp [z])) q)) hf (Nat.le_refl _) new
    refine ⟨.ref s.heap.objs.size, _, I1, rfl, ⟨_, x, rfl, I.hok.fresh (Nat.le_refl _), rfl, hx⟩, ⟨⟨u, ?_⟩, hit'.1.at fun o q => (sb.2 it (Ne.symm hne)).trans q, hne, hai, hae⟩, fun b hb => ?_⟩
    · have e1 : k + ((i + 1 : Nat) : Int) = k + (i : Int) + 1 := by omega
      rw [e1]; exact he'
    · have hb' : b < s.heap.objs.size := by
        have e' : b = e ∨ b = it := by simpa using hb
        rcases e' with z | z
        · rw [z]; exact hel
        · rw [z]; exact hil
      rw [upd_ne (Nat.ne_of_lt hb')]
      exact (hf b hb).1
  done := by
    intro X hP hw hK hc i pins s σ H E I hf st hg
    subst hP hw hK
    obtain ⟨⟨old, he⟩, hit, hne, hai, hae⟩ := st
    obtain ⟨rfl, hq⟩ := hg
    obtain ⟨its, rv, p, hz⟩ := I.list hq
    obtain ⟨f0, f1, f2, f3, f4, f5⟩ := hf it (by simp)
    have hl := rv.length
    exact wpAny_pyNext_enum_endD (Draws.list (A := X.A.in1) (I.ok.hd hc) it a hai its.toArray) he ⟨by simpa [← hl] using hit, p.isList⟩ fun h' eb => ⟨rfl, I.turned (t' := s.toks) (fun b o hb q => eb b o hb q) f0 f1 f3 f4 f5⟩
  self := fun A i s Q E st h => let ⟨⟨_, he⟩, _⟩ := st; wpAny_pyIter_enum he h
def iEnumS (K : PySem.W.Frag) (ta tk : TA) : TI := fun σ H R => ta σ H fun vs H1 => tk σ H1 fun zs H2 => ∃ a xs k, vs = [.ref a] ∧ zs = [.int k] ∧ SqL K H2 a xs ∧ (-(2 ^ 63) ≤ k ∧ k < 2 ^ 63) ∧ R (IteS K a xs k) H2
theorem pi_enumS {X : Cx} {e : Expr} {ta tk : TA} {kws : List Keyword} {p pos tpos : Pos} {elts : List Expr} {kk : Nat} (hg : Gl X "enumerate") (hm : X.mg "enumerate" = none) (ha : PA X [e] ta) (hkw : PK X kws tk)
    (hks : (backToKw pos (keywordEach kws X.env)).filterMap (·.1) = [Str.ofString "start"] := by rfl)
    (he : backTo pos (starEach (e :: []) X.env) = (false, eval e X.env) :: backTo pos (starEach [] X.env) := by rfl)
    (hplain : (backTo pos (starEach (e :: []) X.env)).any (·.1) = false := by rfl)
    (hall : (backToKw pos (keywordEach kws X.env)).all (·.1.isSome) = true := by rfl)
    (hno : (backToKw pos (keywordEach kws X.env)).any (·.1.isNone) = false := by rfl) :
    PI X (.Tuple elts kk tpos) (.Call (.Name "enumerate" p) [e] kws pos) (iEnumS X.K ta tk) := by
  refine ⟨fun pins s σ H R I h => ?_⟩
  refine wpAny_Call_Name_kw (ld_blt I hg hm boot_enumerate (callWith_type_kw (thn (ha.run pos pins s σ H _ I h) fun us s1 ⟨vs, H1, I1, r1, q1⟩ => ?_) he hplain hall hno))
  refine thn (hkw.run pos pins s1 σ H1 _ I1 q1) fun ws s2 ⟨zs, H2, I2, rz, q2⟩ => ?_
  rw [hks]
  obtain ⟨a, xs, k, ex, ez, hq, hk01, q⟩ := q2
  subst ex
  subst ez
  obtain ⟨u, rfl, ru⟩ := vals1 r1
  cases ru
  obtain ⟨z, rfl, rz'⟩ := vals1 rz
  obtain ⟨tk, rfl⟩ := rz'
  obtain ⟨its, rv, p', hz⟩ := I2.list hq
  have hal : a < s2.heap.objs.size := by obtain ⟨o, ho, _⟩ := p'.isList; exact Heap.lt_size ho
  show wpAny _ _ (call (.type "enumerate") [.ref a] [(Str.ofString "start", .int k tk)]) _ _ _
  refine enum_begins_start (begins_list a its.toArray) p'.isList hk01.1 hk01.2 fun h' he' hit hsz hk => wpAny_pyIter_enum he' ?_
  have I3 : Inv X pins σ H2 { s2 with heap := h' } := I2.kept (t' := s2.toks) hk
  refine ⟨s2.heap.objs.size + 1, [s2.heap.objs.size + 1, s2.heap.objs.size], _, _, H2, rfl, I3, turn_enumS a (s2.heap.objs.size + 1) s2.heap.objs.size xs k, ⟨⟨.none, by rw [show k + ((0 : Nat) : Int) = k by omega]; exact he'⟩, ⟨_, hit, rfl, rfl⟩, Nat.succ_ne_self _, Nat.ne_of_lt hal, Nat.ne_of_lt (Nat.lt_succ_of_lt hal)⟩, fun b hb => ?_, q⟩
  have e' : b = s2.heap.objs.size + 1 ∨ b = s2.heap.objs.size := by simpa using hb
  have hle : s2.heap.objs.size ≤ b := by
    rcases e' with z | z
    · rw [z]; exact Nat.le_succ _
    · rw [z]; exact Nat.le_refl _
  exact I2.fpOk hle (I2.hok.fresh hle)
end Dt
namespace K01
open PySem PySem.Spec PyProof.Rows L2 Xc Dt Ln Eo
section
variable {P : Program} {w : World} {K : PySem.W.Frag} {mg : Str → Option Value} {base : Heap} {f : Addr} {fd : FuncData}
/-! ### the errors' __init__ -/
theorem scI2 : FnScope ["self", "kind"] ["self", "kind"] (defScope (inClass (top 2) 0)) := ⟨rfl, rfl, rfl, by decide +kernel, rfl, by decide +kernel, by decide +kernel⟩
theorem ok_i2 {C f : Addr} {fd : FuncData} (F : Fun K "__init__" "BadKind.__init__" (inClass (top 2) 0) f fd) (o : OexC K C) (n0 : PySem.W.findIn K (.ref C) "kind" = some none) : FnOk P w K mg base CX0 1 f fd ["self", "kind"] (spI1 C "kind") := by
  refine F.ok scI2 (fun vs H Q E h => ?_) (fun cdv A outer s H vs Q E hr h => ?_)
  · obtain ⟨a, x, rfl, _⟩ := h
    rfl
  obtain ⟨a, x, rfl, e, q⟩ := h
  refine ⟨_, pss_one (ps_ost (pv 0) (pv 1)), ?_⟩
  exact ⟨_, rfl, _, rfl, a, C, rfl, o, n0, .inl ⟨e, fun dx h1 h2 => q dx h1 h2⟩⟩
theorem scI3 : FnScope ["self", "ups"] ["self", "ups"] (defScope (inClass (top 3) 0)) := ⟨rfl, rfl, rfl, by decide +kernel, rfl, by decide +kernel, by decide +kernel⟩
theorem ok_i3 {C f : Addr} {fd : FuncData} (F : Fun K "__init__" "BadUps.__init__" (inClass (top 3) 0) f fd) (o : OexC K C) (n0 : PySem.W.findIn K (.ref C) "ups" = some none) : FnOk P w K mg base CX0 1 f fd ["self", "ups"] (spI1 C "ups") := by
  refine F.ok scI3 (fun vs H Q E h => ?_) (fun cdv A outer s H vs Q E hr h => ?_)
  · obtain ⟨a, x, rfl, _⟩ := h
    rfl
  obtain ⟨a, x, rfl, e, q⟩ := h
  refine ⟨_, pss_one (ps_ost (pv 0) (pv 1)), ?_⟩
  exact ⟨_, rfl, _, rfl, a, C, rfl, o, n0, .inl ⟨e, fun dx h1 h2 => q dx h1 h2⟩⟩
theorem scI4 : FnScope ["self", "line"] ["self", "line"] (defScope (inClass (top 4) 0)) := ⟨rfl, rfl, rfl, by decide +kernel, rfl, by decide +kernel, by decide +kernel⟩
theorem ok_i4 {C f : Addr} {fd : FuncData} (F : Fun K "__init__" "BadLine.__init__" (inClass (top 4) 0) f fd) (o : OexC K C) (n0 : PySem.W.findIn K (.ref C) "line" = some none) : FnOk P w K mg base CX0 1 f fd ["self", "line"] (spI1 C "line") := by
  refine F.ok scI4 (fun vs H Q E h => ?_) (fun cdv A outer s H vs Q E hr h => ?_)
  · obtain ⟨a, x, rfl, _⟩ := h
    rfl
  obtain ⟨a, x, rfl, e, q⟩ := h
  refine ⟨_, pss_one (ps_ost (pv 0) (pv 1)), ?_⟩
  exact ⟨_, rfl, _, rfl, a, C, rfl, o, n0, .inl ⟨e, fun dx h1 h2 => q dx h1 h2⟩⟩
theorem scI5 : FnScope ["self", "line"] ["self", "line"] (defScope (inClass (top 5) 0)) := ⟨rfl, rfl, rfl, by decide +kernel, rfl, by decide +kernel, by decide +kernel⟩
theorem ok_i5 {C f : Addr} {fd : FuncData} (F : Fun K "__init__" "Refused.__init__" (inClass (top 5) 0) f fd) (o : OexC K C) (n0 : PySem.W.findIn K (.ref C) "line" = some none) : FnOk P w K mg base CX0 1 f fd ["self", "line"] (spI1 C "line") := by
  refine F.ok scI5 (fun vs H Q E h => ?_) (fun cdv A outer s H vs Q E hr h => ?_)
  · obtain ⟨a, x, rfl, _⟩ := h
    rfl
  obtain ⟨a, x, rfl, e, q⟩ := h
  refine ⟨_, pss_one (ps_ost (pv 0) (pv 1)), ?_⟩
  exact ⟨_, rfl, _, rfl, a, C, rfl, o, n0, .inl ⟨e, fun dx h1 h2 => q dx h1 h2⟩⟩
theorem scI6 : FnScope ["self", "what", "many", "most"] ["self", "what", "many", "most"] (defScope (inClass (top 6) 0)) := ⟨rfl, rfl, rfl, by decide +kernel, rfl, by decide +kernel, by decide +kernel⟩
theorem ok_i6 {C f : Addr} {fd : FuncData} (F : Fun K "__init__" "TooMany.__init__" (inClass (top 6) 0) f fd) (o : OexC K C) (n0 : PySem.W.findIn K (.ref C) "what" = some none) (n1 : PySem.W.findIn K (.ref C) "many" = some none) (n2 : PySem.W.findIn K (.ref C) "most" = some none) : FnOk P w K mg base CX0 1 f fd ["self", "what", "many", "most"] (spI3 C "what" "many" "most") := by
  refine F.ok scI6 (fun vs H Q E h => ?_) (fun cdv A outer s H vs Q E hr h => ?_)
  · obtain ⟨a, x, y, z, rfl, _⟩ := h
    rfl
  obtain ⟨a, x, y, z, rfl, e, q⟩ := h
  refine ⟨_, pss_cons (ps_ost (pv 0) (pv 1)) (pss_cons (ps_ost (pv 0) (pv 2)) (pss_one (ps_ost (pv 0) (pv 3)))), ?_⟩
  refine ⟨_, rfl, _, rfl, a, C, rfl, o, n0, .inl ⟨e, fun dx h1 h2 => ?_⟩⟩
  refine ⟨_, rfl, _, rfl, a, C, rfl, o, n1, .inr ⟨dx, _, upd_same, (by rw [upd_ne h2, upd_same]), (by show 1 ≤ 900; decide), ?_⟩⟩
  exact ⟨_, rfl, _, rfl, a, C, rfl, o, n2, .inr ⟨dx, _, (by rw [upd_ne h2.symm, upd_same]), upd_same, (by show 2 ≤ 900; decide), q dx h1 h2⟩⟩
/-! ### Row -/
/-- the class Row at C, as the top left it -/
structure RowT (K : PySem.W.Frag) (mg : Str → Option Value) (C : Addr) : Prop where
  cl : Cls K C
  n1 : NoAttr K C "number"
  n2 : NoAttr K C "said"
  n3 : NoAttr K C "body"
  n4 : NoAttr K C "other"
  n5 : NoAttr K C "has_else"
  mgC : mg "Row" = some (.ref C)
def spRowI (C : Addr) : Sp := fun vs H Q _ => ∃ (p dx : Addr) (n : Nat) (sv : V), vs = [.ref p, .int (n : Nat), sv] ∧ H p = some (.ins C dx []) ∧
  ∀ (lb lo : Addr) (H' : Hp), H lb = none → H lo = none → lb ≠ lo → H' p = some (.ins C dx (rowF n sv lb lo false)) → H' lb = some (.lst []) → H' lo = some (.lst []) → (∀ x o, H x = some o → x ≠ p → H' x = some o) → Q .non H'
theorem scR : FnScope ["self", "number", "said"] ["self", "number", "said"] (defScope (inClass (top 38) 0)) := ⟨rfl, rfl, rfl, by decide +kernel, rfl, by decide +kernel, by decide +kernel⟩
theorem ok_rowI {C : Addr} (F : Fun K "__init__" "Row.__init__" (inClass (top 38) 0) f fd) (T : RowT K mg C) : FnOk P w K mg base CX0 1 f fd ["self", "number", "said"] (spRowI C) := by
  refine F.ok scR (fun vs H Q E h => ?_) (fun cdv A outer s H vs Q E hr h => ?_)
  · obtain ⟨p, dx, n, sv, rfl, _⟩ := h
    rfl
  obtain ⟨p, dx, n, sv, rfl, hp, q⟩ := h
  refine ⟨_, pss_cons (ps_fld (pv 0) (pv 1) rfl) (pss_cons (ps_fld (pv 0) (pv 2) rfl) (pss_cons (ps_fld (pv 0) (pe_lst pa_nil) rfl) (pss_cons (ps_fld (pv 0) (pe_lst pa_nil) rfl) (pss_one (ps_fld (pv 0) pe_bl rfl))))), ?_⟩
  refine ⟨_, rfl, _, rfl, p, C, dx, [], rfl, hp, T.cl, T.n1, (by show 0 < 1000; decide), ?_⟩
  refine ⟨_, rfl, _, rfl, p, C, dx, _, rfl, upd_same, T.cl, T.n2, (by show 1 < 1000; decide), ?_⟩
  rw [upd_upd]
  refine ⟨(by show 0 ≤ sizeLine; decide), fun lb nlb => ?_⟩
  have pb : p ≠ lb := fun z => by rw [← z, upd_same] at nlb; cases nlb
  rw [upd_ne pb.symm] at nlb
  refine ⟨_, rfl, p, C, dx, _, rfl, (by rw [upd_ne pb, upd_same]), T.cl, T.n3, (by show 2 < 1000; decide), ?_⟩
  refine ⟨(by show 0 ≤ sizeLine; decide), fun lo nlo => ?_⟩
  have po : p ≠ lo := fun z => by rw [← z, upd_same] at nlo; cases nlo
  rw [upd_ne po.symm] at nlo
  have bo : lb ≠ lo := fun z => by rw [← z, upd_same] at nlo; cases nlo
  rw [upd_ne bo.symm, upd_ne po.symm] at nlo
  refine ⟨_, rfl, p, C, dx, _, rfl, (by rw [upd_ne po, upd_same]), T.cl, T.n4, (by show 3 < 1000; decide), ?_⟩
  refine ⟨_, rfl, p, C, dx, _, rfl, upd_same, T.cl, T.n5, (by show 4 < 1000; decide), ?_⟩
  rw [upd_upd]
  refine q lb lo _ nlb nlo bo (by rw [upd_same]; rfl) ?_ ?_ ?_
  · rw [upd_ne pb.symm, upd_ne bo, upd_ne pb.symm, upd_same]
  · rw [upd_ne po.symm, upd_same]
  · intro x o e hx
    rw [upd_ne hx, upd_ne (ne_of_none e nlo), upd_ne hx, upd_ne (ne_of_none e nlb), upd_ne hx]
    exact e
/-! ### place_in -/
/-- a row stands at p that says s; e: its else was met -/
def HeadAt (C : Addr) (H : Hp) (x : Sd × Bool) (p : Addr) : Prop := ∃ (dx : Addr) (n : Nat) (sv : V) (lb lo : Addr), H p = some (.ins C dx (rowF n sv lb lo x.2)) ∧ Is H x.1.d sv
def placeS (ss : List (Sd × Bool)) : Str := match ss.find? (fun x => has loops x.1.word) with
  | some x => x.1.word
  | none => "outside"
theorem sd_word {H : Hp} {s : Sd} {v : V} (h : Is H s.d v) : ∃ a r, v = .ref a ∧ H a = some (.tup (.str s.word :: r)) := by
  have e : ∃ ds, s.d = .tup (.str s.word :: ds) := by cases s <;> exact ⟨_, rfl⟩
  obtain ⟨ds, e⟩ := e
  rw [e] at h
  obtain ⟨a, xs, rfl, ha, x, r, rfl, hx, _⟩ := h
  cases (show x = V.str s.word from hx)
  exact ⟨a, r, rfl, ha⟩
def spPlace (C : Addr) : Sp := fun vs H Q _ => ∃ (hA : Addr) (ss : List (Sd × Bool)) (ps : List Addr), vs = [.ref hA] ∧ H hA = some (.lst (ps.map V.ref)) ∧ Paired (HeadAt C H) ss ps ∧ Q (.str (placeS ss)) H
theorem paired_at {α β : Type} {R : α → β → Prop} : ∀ {as : List α} {bs : List β}, Paired R as bs → ∀ {i : Nat} {b : β}, bs[i]? = some b → ∃ a, as[i]? = some a ∧ R a b
  | _, _, .nil, i, b, h => by cases h
  | _, _, .cons r t, 0, b, h => by
    cases h
    exact ⟨_, rfl, r⟩
  | _, _, .cons r t, i + 1, b, h => paired_at t (i := i) h
theorem sc40 : FnScope ["heads", "head"] ["heads"] (defScope (top 40)) := ⟨rfl, rfl, rfl, by decide +kernel, rfl, by decide +kernel, by decide +kernel⟩
theorem ok_place {C : Addr} (F : Fun K "place_in" "place_in" (top 40) f fd) (N : Gn K mg) (T : RowT K mg C) : FnOk P w K mg base CX0 1 f fd ["heads"] (spPlace C) := by
  refine F.ok sc40 (fun vs H Q E h => ?_) (fun cdv A outer s H vs Q E hr h => ?_)
  · obtain ⟨hA, ss, ps, rfl, _⟩ := h
    rfl
  obtain ⟨hA, ss, ps, rfl, hl, hp, q⟩ := h
  obtain ⟨aL, mL, cL⟩ := N.loops
  obtain ⟨tO, mO⟩ := N.outside
  refine ⟨_, pss_cons (ps_for PassesOwn.never rfl (pi_list (pv 0)) (pg_name (i := 1) sc40.nd rfl (.inl rfl))
      (pss_one (ps_if (pt_cmpR (show OpR _ _ (rIn K false) from op_in_seq) (pe_ix ix_tup (pe_fld (pv 1) rfl) pe_int (fun _ _ => rfl)) (pe_glob (v := .ref aL) (by rfl) mL rfl) (by rfl)) (pss_one (ps_ret (pe_ix ix_tup (pe_fld (pv 1) rfl) pe_int (fun _ _ => rfl)))) pss_nil)))
    (pss_one (ps_ret (pe_glob (v := .str "outside") (by rfl) mO ⟨_, rfl⟩))), ?_⟩
  refine ⟨_, rfl, hA, rfl, ⟨_, SqL.of hl⟩, for_list (K := K) (a := hA) (xs := ps.map V.ref) (fun i σ H' => H' = H ∧ ∃ v : Option V, σ = [some (.ref hA), v] ∧ ∀ x ∈ ss.take i, has loops x.1.word = false)
    ⟨rfl, none, rfl, by simp⟩ (fun i σ H' _ h => by rw [h.1]; exact SqL.of hl) ?_ ?_⟩
  · rintro i y σ H' hi ⟨rfl, v, rfl, hn⟩
    rw [List.getElem?_map] at hi
    cases e : ps[i]? with
    | none => rw [e] at hi; cases hi
    | some p =>
      rw [e] at hi
      cases hi
      obtain ⟨x, hx, dx, n, sv, lb, lo, hpp, hs⟩ := paired_at hp e
      obtain ⟨a, r, rfl, ha⟩ := sd_word hs
      refine ⟨_, rfl, p, C, dx, _, _, rfl, hpp, T.cl, T.n2, rf_said, a, _, _, _, rfl, rfl, SqT.of ha, atI_nat (j := 0) rfl, aL, _, rfl, .inr (cL _), rfl, flat_strs' _, _, rfl, ?_⟩
      refine if2 (fun c => ?_) (fun c => ?_)
      · have c : has loops x.1.word = true := by rw [← inV_has]; exact c
        refine ⟨_, rfl, p, C, dx, _, _, rfl, hpp, T.cl, T.n2, rf_said, a, _, _, _, rfl, rfl, SqT.of ha, atI_nat (j := 0) rfl, ?_⟩
        have e2 : placeS ss = x.1.word := by
          unfold placeS
          have e3 : ss = ss.take i ++ x :: ss.drop (i + 1) := by
            have hlt : i < ss.length := (List.getElem?_eq_some_iff.mp hx).1
            have := (List.getElem?_eq_some_iff.mp hx).2
            rw [← this, List.getElem_cons_drop, List.take_append_drop]
          rw [e3, List.find?_append, List.find?_eq_none.mpr (fun z hz => by rw [hn z hz]; exact Bool.false_ne_true), List.find?_cons, c]
          rfl
        rw [← e2]
        exact q
      · have c : has loops x.1.word = false := by rw [← inV_has]; exact c
        refine ⟨rfl, _, rfl, fun z hz => ?_⟩
        have hlt : i < ss.length := (List.getElem?_eq_some_iff.mp hx).1
        rw [List.take_add_one, hx, List.mem_append] at hz
        rcases hz with hz | hz
        · exact hn z hz
        · rw [show z = x by simpa using hz]
          exact c
  · rintro σ H' ⟨rfl, v, rfl, hn⟩
    have hl2 : ss.length = ps.length := hp.length
    rw [List.length_map, ← hl2, List.take_length] at hn
    have e2 : placeS ss = "outside" := by
      unfold placeS
      rw [List.find?_eq_none.mpr (fun z hz => by rw [hn z hz]; exact Bool.false_ne_true)]
    rw [← e2]
    exact q
end
end K01
namespace K01
open PySem PySem.Spec PyProof.Rows L2 Xc Dt Ln Eo
/-- built-ins by their names, as the module finds them -/
structure Nb (mg : Str → Option Value) : Prop where
  bool : mg "bool" = none
  enum : mg "enumerate" = none
  any : mg "any" = none
  min : mg "min" = none
  max : mg "max" = none
  tuple : mg "tuple" = none
  len : mg "len" = none
def fitsS (w : Str) (ss : List (Sd × Bool)) : Bool :=
  if w = "else" then (match ss with
    | [] => false
    | x :: _ => decide (x.1.word = "if") && !x.2)
  else !decide (w = "end") || !ss.isEmpty
theorem last_ref (p : Addr) (ps : List Addr) : atI ((p :: ps).reverse.map V.ref) (-1) = some (.ref p) := by
  rw [List.reverse_cons, List.map_append]
  exact atI_last _ _
section
variable {P : Program} {w : World} {K : PySem.W.Frag} {mg : Str → Option Value} {base : Heap} {f : Addr} {fd : FuncData}
def spFits (C : Addr) : Sp := fun vs H Q _ => ∃ (wd : Str) (hA : Addr) (ss : List (Sd × Bool)) (ps : List Addr), vs = [.str wd, .ref hA] ∧ H hA = some (.lst (ps.reverse.map V.ref)) ∧ Paired (HeadAt C H) ss ps ∧ Q (.bl (fitsS wd ss)) H
theorem sc41 : FnScope ["word", "heads"] ["word", "heads"] (defScope (top 41)) := ⟨rfl, rfl, rfl, by decide +kernel, rfl, by decide +kernel, by decide +kernel⟩
theorem ok_fits {C : Addr} (F : Fun K "fits" "fits" (top 41) f fd) (N : Nb mg) (T : RowT K mg C) : FnOk P w K mg base CX0 1 f fd ["word", "heads"] (spFits C) := by
  refine F.ok sc41 (fun vs H Q E h => ?_) (fun cdv A outer s H vs Q E hr h => ?_)
  · obtain ⟨wd, hA, ss, ps, rfl, _⟩ := h
    rfl
  obtain ⟨wd, hA, ss, ps, rfl, hl, hp, q⟩ := h
  refine ⟨_, (pss_cons (ps_if (pt_cmpR op_eq (pv 0) pe_str (nomark _))
  (pss_one (ps_ret (pe_and (pe_callTy call_boolL (by rfl) N.bool (by decide +kernel) (pa_cons (pv 1) pa_nil)) (pe_and (pe_cmpR op_eq (pe_ix ix_tup (pe_fld (pe_ix (show IxR _ (rIxL K) from ix_list) (pv 1) (pe_un un_neg pe_int) (fun _ _ => rfl)) rfl) pe_int (fun _ _ => rfl)) pe_str (nomark _)) (pe_one (pe_not (pe_fld (pe_ix (show IxR _ (rIxL K) from ix_list) (pv 1) (pe_un un_neg pe_int) (fun _ _ => rfl)) rfl)))))))
  pss_nil)
  (pss_one (ps_ret (pe_or (pe_cmpR op_ne (pv 0) pe_str (nomark _)) (pe_one (pe_callTy call_boolL (by rfl) N.bool (by decide +kernel) (pa_cons (pv 1) pa_nil))))))), ?_⟩
  have hl2 : ss.length = ps.length := hp.length
  have hemp : (ps.reverse.map V.ref).isEmpty = ss.isEmpty := by
    cases ps with
    | nil => cases ss with
      | nil => rfl
      | cons => cases hl2
    | cons p ps => cases ss with
      | nil => cases hl2
      | cons => simp
  refine ⟨_, rfl, rfl, _, rfl, ?_⟩
  rw [dec_str]
  refine if2 (fun c => ?_) (fun c => ?_)
  · have c : wd = "else" := of_decide_eq_true c
    refine ⟨_, rfl, hA, _, rfl, SqL.of hl, _, rfl, ?_⟩
    rw [hemp]
    cases hp with
    | nil =>
      refine ifF rfl ?_
      have e : fitsS wd [] = false := by unfold fitsS; rw [if_pos c]
      rw [← e]
      exact q
    | @cons x p ss ps hx ht =>
      refine ifT rfl ?_
      have e : fitsS wd (x :: ss) = (decide (x.1.word = "if") && !x.2) := by unfold fitsS; rw [if_pos c]
      rw [e] at q
      obtain ⟨dx, n, sv, lb, lo, hpp, hs⟩ := hx
      obtain ⟨a, r, rfl, ha⟩ := sd_word hs
      refine ⟨_, rfl, _, rfl, hA, _, _, _, rfl, rfl, SqL.of hl, last_ref _ _, p, C, dx, _, _, rfl, hpp, T.cl, T.n2, rf_said, a, _, _, _, rfl, rfl, SqT.of ha, atI_nat (j := 0) rfl, rfl, _, rfl, ?_⟩
      rw [dec_str]
      refine if2 (fun c2 => ?_) (fun c2 => ?_)
      · rw [c2] at q
        exact ⟨_, rfl, _, rfl, hA, _, _, _, rfl, rfl, SqL.of hl, last_ref _ _, p, C, dx, _, _, rfl, hpp, T.cl, T.n5, rf_else, _, rfl, q⟩
      · rw [c2] at q
        exact q
  · have c : ¬ wd = "else" := of_decide_eq_false c
    have e : fitsS wd ss = (!decide (wd = "end") || !ss.isEmpty) := by unfold fitsS; rw [if_neg c]
    rw [e] at q
    refine ⟨_, rfl, rfl, _, rfl, ?_⟩
    rw [dec_str]
    cases c2 : (!decide (wd = "end")) with
    | true =>
      rw [c2] at q
      exact ifT rfl q
    | false =>
      rw [c2] at q
      refine ifF rfl ⟨_, rfl, hA, _, rfl, SqL.of hl, ?_⟩
      rw [hemp]
      exact q
end
end K01
namespace K01
open PySem PySem.Spec PyProof.Rows L2 Xc Dt Ln Eo
theorem same_kp {S : List Addr} {H0 H H' : Hp} (s : Same H0 H) (n : ∀ x, x ∈ S → H0 x = none) (k : Kp S H H') : Same H0 H' := fun x o e => k x o (fun z => by rw [n x z] at e; cases e) (s x o e)
section
variable {P : Program} {w : World} {K : PySem.W.Frag} {mg : Str → Option Value} {base : Heap} {f : Addr} {fd : FuncData}
def spTake (C : Addr) : Sp := fun vs H Q _ => ∃ (p hA bA : Addr) (H0 H1 : Hp) (fs : List Fr) (cur : Rws) (n m : Nat) (s : Sd) (dx : Addr) (sv : V) (lb lo : Addr), vs = [.ref p, .ref hA, .ref bA] ∧ ZSt C H0 H1 hA bA m fs cur ∧ Same H1 H ∧
  H1 p = none ∧ H1 lb = none ∧ H1 lo = none ∧ lb ≠ lo ∧ H p = some (.ins C dx (rowF n sv lb lo false)) ∧ Is H s.d sv ∧ H lb = some (.lst []) ∧ H lo = some (.lst []) ∧ fitsM s.word fs = true ∧ m ≤ 4000 ∧
  ∀ H', ZSt C H0 H' hA bA (m + 1) (takeM n s fs cur).1 (takeM n s fs cur).2 → Q .non H'
theorem sc42 : FnScope ["row", "heads", "blocks", "word"] ["row", "heads", "blocks"] (defScope (top 42)) := ⟨rfl, rfl, rfl, by decide +kernel, rfl, by decide +kernel, by decide +kernel⟩
theorem ok_take {C : Addr} (F : Fun K "take_in" "take_in" (top 42) f fd) (N : Gn K mg) (T : RowT K mg C) : FnOk P w K mg base CX0 1 f fd ["row", "heads", "blocks"] (spTake C) := by
  refine F.ok sc42 (fun vs H Q E h => ?_) (fun cdv A outer s H vs Q E hr h => ?_)
  · obtain ⟨p, hA, bA, H0, H1, fs, cur, n, m, s, dx, sv, lb, lo, rfl, _⟩ := h
    rfl
  obtain ⟨p, hA, bA, H0, H1, fs, cur, n, m, s', dx, sv, lb, lo, rfl, z, s1, np, nlb, nlo, bo, hp, hs, hb, ho, ft, hm, q⟩ := h
  obtain ⟨aL, mL, cL⟩ := N.loops
  obtain ⟨sm, lf, lc, ld, A', c, hs', bs', ops, xs, hHA, hBA, zz, hc, ic, nd, nA, eA, n0⟩ := z
  -- carried to H
  have nin : ∀ x, H1 x = none → x ∉ hA :: bA :: ops := by
    intro x hx hm2
    rw [List.mem_cons, List.mem_cons] at hm2
    obtain ⟨r0, er0⟩ := zz.ops
    rcases hm2 with rfl | rfl | hm2
    · rw [hHA] at hx; cases hx
    · rw [hBA] at hx; cases hx
    · rw [er0, List.mem_cons] at hm2
      rcases hm2 with rfl | hm2
      · rw [hc] at hx; cases hx
      · obtain ⟨o, e⟩ := zz.some x (by rw [er0]; exact hm2)
        rw [e] at hx; cases hx
  have hHA := s1 _ _ hHA
  have hBA := s1 _ _ hBA
  have zz : ZAt C A' H fs c hs' bs' ops := zz.keep (fun x o _ e => s1 x o e) (Tps.of s1) (fun _ a => a) (fun x o _ e => s1 x o e)
  have hc := s1 _ _ hc
  have ic : IsBlk C A' H cur xs := ic.same s1
  have nAp : ¬ A' p := fun z => by obtain ⟨o, e⟩ := eA p z; rw [np] at e; cases e
  have nAb : ¬ A' lb := fun z => by obtain ⟨o, e⟩ := eA lb z; rw [nlb] at e; cases e
  have nAo : ¬ A' lo := fun z => by obtain ⟨o, e⟩ := eA lo z; rw [nlo] at e; cases e
  have eA : ∀ x, A' x → ∃ o, H x = some o := fun x a => by obtain ⟨o, e⟩ := eA x a; exact ⟨o, s1 _ _ e⟩
  have n0p : H0 p = none := sm.free np
  have n0b : H0 lb = none := sm.free nlb
  have n0o : H0 lo = none := sm.free nlo
  have sm : Same H0 H := sm.trans s1
  have pb : p ≠ lb := ne_of hp hb (by intro z; cases z)
  have po : p ≠ lo := ne_of hp ho (by intro z; cases z)
  obtain ⟨r0, er0⟩ := zz.ops
  have zl := zz.lens
  have hlc := ic.len
  have ninp := nin p np
  have ninb := nin lb nlb
  have nino := nin lo nlo
  obtain ⟨a, r, rfl, ha⟩ := sd_word hs
  refine ⟨_, (pss_cons (ps_set (i := 3) sc42.nd rfl (.inl rfl) (pe_ix ix_tup (pe_fld (pv 0) rfl) pe_int (fun _ _ => rfl)))
  (pss_one (ps_if (pt_cmpR op_eq (pv 3) pe_str (nomark _))
  (pss_cons (ps_expr (pe_bm0 PySem.F.plainAttrs_list PySem.F.slot_list_pop PySem.F.type_list_pop mt_pop (pv 1)))
    (pss_one (ps_expr (pe_bm0 PySem.F.plainAttrs_list PySem.F.slot_list_pop PySem.F.type_list_pop mt_pop (pv 2)))))
  (pss_one (ps_if (pt_cmpR op_eq (pv 3) pe_str (nomark _))
    (pss_cons (ps_fld (pe_ix (show IxR _ (rIxL K) from ix_list) (pv 1) (pe_un un_neg pe_int) (fun _ _ => rfl)) pe_bl rfl)
      (pss_cons (ps_expr (pe_bm0 PySem.F.plainAttrs_list PySem.F.slot_list_pop PySem.F.type_list_pop mt_pop (pv 2)))
      (pss_one (ps_expr (pe_bm PySem.F.plainAttrs_list PySem.F.slot_list_append PySem.F.type_list_append mt_append (pv 2) (pa_cons (pe_fld (pe_ix (show IxR _ (rIxL K) from ix_list) (pv 1) (pe_un un_neg pe_int) (fun _ _ => rfl)) rfl) pa_nil))))))
    (pss_cons (ps_expr (pe_bm PySem.F.plainAttrs_list PySem.F.slot_list_append PySem.F.type_list_append mt_append (pe_ix (show IxR _ (rIxL K) from ix_list) (pv 2) (pe_un un_neg pe_int) (fun _ _ => rfl)) (pa_cons (pv 0) pa_nil)))
      (pss_one (ps_if (PW.pt (pw_or (pt_cmpR op_eq (pv 3) pe_str (nomark _)) (pw_or1 (pt_cmpR (show OpR _ _ (rIn K false) from op_in_seq) (pv 3) (pe_glob (v := .ref aL) (by rfl) mL rfl) (by rfl)))))
      (pss_cons (ps_expr (pe_bm PySem.F.plainAttrs_list PySem.F.slot_list_append PySem.F.type_list_append mt_append (pv 1) (pa_cons (pv 0) pa_nil)))
        (pss_one (ps_expr (pe_bm PySem.F.plainAttrs_list PySem.F.slot_list_append PySem.F.type_list_append mt_append (pv 2) (pa_cons (pe_fld (pv 0) rfl) pa_nil)))))
      pss_nil)))))))), ?_⟩
  refine ⟨_, rfl, p, C, dx, _, _, rfl, hp, T.cl, T.n2, rf_said, a, _, _, _, rfl, rfl, SqT.of ha, atI_nat (j := 0) rfl, ?_⟩
  refine ⟨_, rfl, rfl, _, rfl, ?_⟩
  rw [dec_str]
  refine if2 (fun c1 => ?_) (fun c1 => ?_)
  · -- an end
    have c1 : s'.word = "end" := of_decide_eq_true c1
    cases fs with
    | nil =>
      exfalso
      have : fitsM "end" [] = true := by rw [← c1]; exact ft
      revert this
      decide +kernel
    | cons g fs2 =>
    obtain ⟨p', q', a', dx', sv', xq, xsd, hs2, bs2, ops2, rfl, rfl, rfl, hp', hs1', hq', iq, ne, ha', ia, rr⟩ := zz
    have tM : takeM n s' (g :: fs2) cur = (fs2, g.done.snoc g.n g.s (if g.e then g.q else cur) (if g.e then cur else .nil) g.e) := by unfold takeM; rw [if_pos c1]
    rw [tM] at q
    have ⟨⟨hab, hac, hap, haq, hao⟩, ⟨hbc, hbp, hbq, hbo⟩, ⟨hcp, hcq, hco⟩, ⟨hpq, hpo⟩, hqo, ndo⟩ : (¬ hA = bA ∧ ¬ hA = c ∧ ¬ hA = p' ∧ ¬ hA = q' ∧ hA ∉ ops2) ∧ (¬ bA = c ∧ ¬ bA = p' ∧ ¬ bA = q' ∧ bA ∉ ops2) ∧ (¬ c = p' ∧ ¬ c = q' ∧ c ∉ ops2) ∧ (¬ p' = q' ∧ p' ∉ ops2) ∧ q' ∉ ops2 ∧ ops2.Nodup := by
      simpa only [List.nodup_cons, List.mem_cons, not_or] using nd
    rw [List.reverse_cons, List.map_append] at hHA hBA
    have hHA : H hA = some (.lst (hs2.reverse.map V.ref ++ [V.ref p'])) := hHA
    have hBA : H bA = some (.lst (bs2.reverse.map V.ref ++ [V.ref c])) := hBA
    refine ⟨_, rfl, .inl ⟨rfl, _, SqL.of hHA⟩, hA, _, .ref p', rfl, rfl, hHA, by simp, ?_⟩
    rw [List.dropLast_concat]
    have hBA1 : (upd H hA (.lst (hs2.reverse.map V.ref))) bA = some (.lst (bs2.reverse.map V.ref ++ [V.ref c])) := by rw [upd_ne (Ne.symm hab)]; exact hBA
    refine ⟨_, rfl, .inl ⟨rfl, _, SqL.of hBA1⟩, bA, _, .ref c, rfl, rfl, hBA1, by simp, ?_⟩
    rw [List.dropLast_concat]
    have k3 : Kp [hA, bA] H (upd (upd H hA (.lst (hs2.reverse.map V.ref))) bA (.lst (bs2.reverse.map V.ref))) := (Kp.refl.upd (by simp)).upd (by simp)
    have t3 : Tps H (upd (upd H hA (.lst (hs2.reverse.map V.ref))) bA (.lst (bs2.reverse.map V.ref))) := (tps_upd hHA (fun _ z => by cases z)).trans (tps_upd hBA1 (fun _ z => by cases z))
    have hHA3 : (upd (upd H hA (.lst (hs2.reverse.map V.ref))) bA (.lst (bs2.reverse.map V.ref))) hA = some (.lst (hs2.reverse.map V.ref)) := by rw [upd_ne hab, upd_same]
    have hBA3 : (upd (upd H hA (.lst (hs2.reverse.map V.ref))) bA (.lst (bs2.reverse.map V.ref))) bA = some (.lst (bs2.reverse.map V.ref)) := upd_same
    generalize upd (upd H hA (.lst (hs2.reverse.map V.ref))) bA (.lst (bs2.reverse.map V.ref)) = H3 at k3 t3 hHA3 hBA3 ⊢
    have n2 : ∀ x, x ≠ hA → x ≠ bA → x ∉ [hA, bA] := fun x h1 h2 z => by
      rw [List.mem_cons, List.mem_cons] at z
      rcases z with z | z | z
      · exact h1 z
      · exact h2 z
      · cases z
    have kA : ∀ x o, A' x → H x = some o → H3 x = some o := fun x o ax e => k3 x o (n2 x (fun z => nA hA (by simp) (z ▸ ax)) (fun z => nA bA (by simp) (z ▸ ax))) e
    let A2 : Addr → Prop := fun x => A' x ∨ x = p' ∨ x = c ∨ x = q'
    have ia3 : IsBlk C A2 H3 g.done xsd := ia.keep kA t3 fun _ a => .inl a
    have ic3 : IsBlk C A2 H3 cur xs := ic.keep kA t3 fun _ a => .inl a
    have iq3 : IsBlk C A2 H3 g.q xq := iq.keep kA t3 fun _ a => .inl a
    have hp3 := k3 _ _ (n2 p' (Ne.symm hap) (Ne.symm hbp)) hp'
    have hc3 := k3 _ _ (n2 c (Ne.symm hac) (Ne.symm hbc)) hc
    have hq3 := k3 _ _ (n2 q' (Ne.symm haq) (Ne.symm hbq)) hq'
    have hs3 := is_tps t3 (sd_pu _) hs1'
    obtain ⟨r', er'⟩ := rr.ops
    have ha3 := k3 _ _ (n2 a' (fun z => hao (by rw [er', ← z]; simp)) (fun z => hbo (by rw [er', ← z]; simp))) ha'
    have rr3 : ZAt C A2 H3 fs2 a' hs2 bs2 ops2 := rr.keep kA t3 (fun _ a => .inl a) fun x o hx e => k3 x o (n2 x (fun z => hao (by rw [← z]; exact List.mem_of_mem_tail hx)) (fun z => hbo (by rw [← z]; exact List.mem_of_mem_tail hx))) e
    have blk : IsBlk C A2 H3 (g.done.snoc g.n g.s (if g.e then g.q else cur) (if g.e then cur else .nil) g.e) (xsd ++ [.ref p']) := by
      cases e : g.e with
      | true =>
        rw [e] at hp3
        exact IsBlk.snoc ⟨.inr (.inl rfl), .inr (.inr (.inr rfl)), .inr (.inr (.inl rfl))⟩ hp3 hs3 hq3 iq3 hc3 ic3 ia3
      | false =>
        rw [e] at hp3
        obtain ⟨ex, eq⟩ := ne e
        rw [ex] at hq3
        exact IsBlk.snoc (o' := .nil) ⟨.inr (.inl rfl), .inr (.inr (.inl rfl)), .inr (.inr (.inr rfl))⟩ hp3 hs3 hc3 ic3 hq3 (show IsBlk C A2 H3 .nil [] from rfl) ia3
    refine q H3 ⟨same_kp sm (fun x hx => n0 x ?_) k3, ?_, ?_, ?_, A2, a', hs2, bs2, ops2, xsd ++ [.ref p'], hHA3, hBA3, rr3, ha3, blk, ?_, ?_, ?_, ?_⟩
    · simp only [List.mem_cons, List.not_mem_nil, or_false] at hx ⊢
      rcases hx with rfl | rfl <;> simp
    · simp only [List.length_cons] at lf
      show fs2.length ≤ m + 1
      omega
    · rw [Rws.len_snoc]
      have := ld g (by simp)
      omega
    · intro f' hf'
      have := ld f' (by simp [hf'])
      omega
    · exact List.nodup_cons.mpr ⟨by simp [hab, hao], List.nodup_cons.mpr ⟨hbo, ndo⟩⟩
    · intro x hx hax
      have hx' : x ∈ hA :: bA :: c :: p' :: q' :: ops2 := by
        simp only [List.mem_cons] at hx ⊢
        rcases hx with h | h | h
        · exact .inl h
        · exact .inr (.inl h)
        · exact .inr (.inr (.inr (.inr (.inr h))))
      rcases hax with hax | rfl | rfl | rfl
      · exact nA x hx' hax
      · simp [Ne.symm hap, Ne.symm hbp, hpo] at hx
      · simp [Ne.symm hac, Ne.symm hbc, hco] at hx
      · simp [Ne.symm haq, Ne.symm hbq, hqo] at hx
    · intro x hax
      rcases hax with hax | rfl | rfl | rfl
      · obtain ⟨o, e⟩ := eA x hax
        exact ⟨o, kA x o hax e⟩
      · exact ⟨_, hp3⟩
      · exact ⟨_, hc3⟩
      · exact ⟨_, hq3⟩
    · intro x hx
      refine n0 x ?_
      simp only [List.mem_cons] at hx ⊢
      rcases hx with h | h | h
      · exact .inl h
      · exact .inr (.inl h)
      · exact .inr (.inr (.inr (.inr (.inr h))))
  have c1 : ¬ s'.word = "end" := of_decide_eq_false c1
  refine ⟨_, rfl, rfl, _, rfl, ?_⟩
  rw [dec_str]
  refine if2 (fun c2 => ?_) (fun c2 => ?_)
  · -- an else
    have c2 : s'.word = "else" := of_decide_eq_true c2
    cases fs with
    | nil =>
      exfalso
      have : fitsM "else" [] = true := by rw [← c2]; exact ft
      revert this
      decide +kernel
    | cons g fs2 =>
    have ge : g.e = false := by
      have h0 : fitsM "else" (g :: fs2) = true := by rw [← c2]; exact ft
      have h1 : (decide (g.s.word = "if") && !g.e) = true := h0
      rw [Bool.and_eq_true] at h1
      simpa using h1.2
    obtain ⟨p', q', a', dx', sv', xq, xsd, hs2, bs2, ops2, rfl, rfl, rfl, hp', hs1', hq', iq, ne, ha', ia, rr⟩ := zz
    obtain ⟨rfl, eq⟩ := ne ge
    rw [ge] at hp'
    have hp' : H p' = some (.ins C dx' (rowF g.n sv' c q' false)) := hp'
    have tM : takeM n s' (g :: fs2) cur = ({ g with e := true, q := cur } :: fs2, .nil) := by unfold takeM; rw [if_neg c1, if_pos c2]
    rw [tM] at q
    have ⟨⟨hab, hac, hap, haq, hao⟩, ⟨hbc, hbp, hbq, hbo⟩, ⟨hcp, hcq, hco⟩, ⟨hpq, hpo⟩, hqo, ndo⟩ : (¬ hA = bA ∧ ¬ hA = c ∧ ¬ hA = p' ∧ ¬ hA = q' ∧ hA ∉ ops2) ∧ (¬ bA = c ∧ ¬ bA = p' ∧ ¬ bA = q' ∧ bA ∉ ops2) ∧ (¬ c = p' ∧ ¬ c = q' ∧ c ∉ ops2) ∧ (¬ p' = q' ∧ p' ∉ ops2) ∧ q' ∉ ops2 ∧ ops2.Nodup := by
      simpa only [List.nodup_cons, List.mem_cons, not_or] using nd
    have hBA : H bA = some (.lst (bs2.reverse.map V.ref ++ [V.ref c])) := by
      rw [List.reverse_cons, List.map_append] at hBA
      exact hBA
    -- heads[-1].has_else = True
    refine ⟨_, rfl, _, rfl, hA, _, _, _, rfl, rfl, SqL.of hHA, last_ref _ _, p', C, dx', _, rfl, hp', T.cl, T.n5, (by show 5 < 1000; decide), ?_⟩
    rw [rf_put]
    have hBA1 : (upd H p' (.ins C dx' (rowF g.n sv' c q' true))) bA = some (.lst (bs2.reverse.map V.ref ++ [V.ref c])) := by rw [upd_ne hbp]; exact hBA
    refine ⟨_, rfl, .inl ⟨rfl, _, SqL.of hBA1⟩, bA, _, .ref c, rfl, rfl, hBA1, by simp, ?_⟩
    rw [List.dropLast_concat]
    have hBA2 : (upd (upd H p' (.ins C dx' (rowF g.n sv' c q' true))) bA (.lst (bs2.reverse.map V.ref))) bA = some (.lst (bs2.reverse.map V.ref)) := upd_same
    have hHA2 : (upd (upd H p' (.ins C dx' (rowF g.n sv' c q' true))) bA (.lst (bs2.reverse.map V.ref))) hA = some (.lst ((p' :: hs2).reverse.map V.ref)) := by rw [upd_ne hab, upd_ne hap]; exact hHA
    have hp2 : (upd (upd H p' (.ins C dx' (rowF g.n sv' c q' true))) bA (.lst (bs2.reverse.map V.ref))) p' = some (.ins C dx' (rowF g.n sv' c q' true)) := by rw [upd_ne (Ne.symm hbp), upd_same]
    have lz := zl.2
    refine ⟨_, rfl, .inl ⟨rfl, _, SqL.of hBA2⟩, _, rfl, _, rfl, hA, _, _, _, rfl, rfl, SqL.of hHA2, last_ref _ _, p', C, dx', _, _, rfl, hp2, T.cl, T.n4, rf_other, bA, _, _, rfl, rfl, hBA2, ?_, ?_⟩
    · rw [List.length_map, List.length_reverse]
      simp only [List.length_cons] at lz lf
      rw [sizeLine_eq]
      omega
    rw [upd_upd]
    have k3 : Kp [p', bA] H (upd (upd H p' (.ins C dx' (rowF g.n sv' c q' true))) bA (.lst (bs2.reverse.map V.ref ++ [.ref q']))) := (Kp.refl.upd (by simp)).upd (by simp)
    have t3 : Tps H (upd (upd H p' (.ins C dx' (rowF g.n sv' c q' true))) bA (.lst (bs2.reverse.map V.ref ++ [.ref q']))) := (tps_upd hp' (fun _ z => by cases z)).trans (tps_upd hBA1 (fun _ z => by cases z))
    have hHA3 : (upd (upd H p' (.ins C dx' (rowF g.n sv' c q' true))) bA (.lst (bs2.reverse.map V.ref ++ [.ref q']))) hA = some (.lst ((p' :: hs2).reverse.map V.ref)) := by rw [upd_ne hab, upd_ne hap]; exact hHA
    have hBA3 : (upd (upd H p' (.ins C dx' (rowF g.n sv' c q' true))) bA (.lst (bs2.reverse.map V.ref ++ [.ref q']))) bA = some (.lst ((q' :: bs2).reverse.map V.ref)) := by
      rw [upd_same, List.reverse_cons, List.map_append]
      rfl
    have hp3 : (upd (upd H p' (.ins C dx' (rowF g.n sv' c q' true))) bA (.lst (bs2.reverse.map V.ref ++ [.ref q']))) p' = some (.ins C dx' (rowF g.n sv' c q' true)) := by rw [upd_ne (Ne.symm hbp), upd_same]
    generalize upd (upd H p' (.ins C dx' (rowF g.n sv' c q' true))) bA (.lst (bs2.reverse.map V.ref ++ [.ref q'])) = H3 at k3 t3 hHA3 hBA3 hp3 ⊢
    have n2 : ∀ x, x ≠ p' → x ≠ bA → x ∉ [p', bA] := fun x h1 h2 z => by
      rw [List.mem_cons, List.mem_cons] at z
      rcases z with z | z | z
      · exact h1 z
      · exact h2 z
      · cases z
    have kA : ∀ x o, A' x → H x = some o → H3 x = some o := fun x o ax e => k3 x o (n2 x (fun z => nA p' (by simp) (z ▸ ax)) (fun z => nA bA (by simp) (z ▸ ax))) e
    have ia3 : IsBlk C A' H3 g.done xsd := ia.keep kA t3 fun _ a => a
    have ic3 : IsBlk C A' H3 cur xs := ic.keep kA t3 fun _ a => a
    have hc3 := k3 _ _ (n2 c hcp (Ne.symm hbc)) hc
    have hq3 := k3 _ _ (n2 q' (Ne.symm hpq) (Ne.symm hbq)) hq'
    have hs3 := is_tps t3 (sd_pu _) hs1'
    obtain ⟨r', er'⟩ := rr.ops
    have ha3 := k3 _ _ (n2 a' (fun z => hpo (by rw [er', ← z]; simp)) (fun z => hbo (by rw [er', ← z]; simp))) ha'
    have rr3 : ZAt C A' H3 fs2 a' hs2 bs2 ops2 := rr.keep kA t3 (fun _ a => a) fun x o hx e => k3 x o (n2 x (fun z => hpo (by rw [← z]; exact List.mem_of_mem_tail hx)) (fun z => hbo (by rw [← z]; exact List.mem_of_mem_tail hx))) e
    refine q H3 ⟨same_kp sm (fun x hx => n0 x ?_) k3, ?_, ?_, ?_, A', q', p' :: hs2, q' :: bs2, q' :: p' :: c :: ops2, [], hHA3, hBA3, ⟨p', c, a', dx', sv', xs, xsd, hs2, bs2, ops2, rfl, rfl, rfl, hp3, hs3, hc3, ic3, (fun z => by cases z), ha3, ia3, rr3⟩, hq3, rfl, ?_, ?_, ?_, ?_⟩
    · simp only [List.mem_cons, List.not_mem_nil, or_false] at hx ⊢
      rcases hx with rfl | rfl <;> simp
    · simp only [List.length_cons] at lf ⊢; omega
    · exact Nat.zero_le _
    · intro f' hf'
      rw [List.mem_cons] at hf'
      rcases hf' with rfl | hf'
      · have := ld g (by simp)
        show g.done.len < m + 1
        omega
      · have := ld f' (by simp [hf'])
        omega
    · simp only [List.nodup_cons, List.mem_cons, not_or]
      exact ⟨⟨hab, haq, hap, hac, hao⟩, ⟨hbq, hbp, hbc, hbo⟩, ⟨Ne.symm hpq, Ne.symm hcq, hqo⟩, ⟨Ne.symm hcp, hpo⟩, hco, ndo⟩
    · intro x hx
      refine nA x ?_
      simp only [List.mem_cons] at hx ⊢
      rcases hx with h | h | h | h | h | h
      · exact .inl h
      · exact .inr (.inl h)
      · exact .inr (.inr (.inr (.inr (.inl h))))
      · exact .inr (.inr (.inr (.inl h)))
      · exact .inr (.inr (.inl h))
      · exact .inr (.inr (.inr (.inr (.inr h))))
    · intro x hax
      obtain ⟨o, e⟩ := eA x hax
      exact ⟨o, kA x o hax e⟩
    · intro x hx
      refine n0 x ?_
      simp only [List.mem_cons] at hx ⊢
      rcases hx with h | h | h | h | h | h
      · exact .inl h
      · exact .inr (.inl h)
      · exact .inr (.inr (.inr (.inr (.inl h))))
      · exact .inr (.inr (.inr (.inl h)))
      · exact .inr (.inr (.inl h))
      · exact .inr (.inr (.inr (.inr (.inr h))))
  have c2 : ¬ s'.word = "else" := of_decide_eq_false c2
  obtain ⟨b', rfl⟩ : ∃ b', bs' = c :: b' := by
    cases fs with
    | nil => exact ⟨[], zz.2.1⟩
    | cons g fs2 =>
      obtain ⟨p', q', a', dx', sv', xq, xsd, hs2, bs2, ops2, _, e, _⟩ := zz
      exact ⟨_, e⟩
  have lh : hs'.length ≤ m := by rw [zl.1]; exact lf
  have lb2 : (c :: b').length ≤ m + 1 := by rw [zl.2]; omega
  have hx4 : xs.length < sizeLine := by rw [sizeLine_eq, hlc]; omega
  have ⟨⟨hab, hao⟩, hbo, ndo⟩ : (¬ hA = bA ∧ hA ∉ ops) ∧ bA ∉ ops ∧ ops.Nodup := by simpa only [List.nodup_cons, List.mem_cons, not_or] using nd
  have cin : c ∈ ops := by rw [er0]; simp
  have hac : hA ≠ c := fun z => hao (z ▸ cin)
  have hbc : bA ≠ c := fun z => hbo (z ▸ cin)
  have hpc : p ≠ c := fun z => ninp (by rw [z]; simp [cin])
  have ⟨hph, hpb, hpo⟩ : ¬ p = hA ∧ ¬ p = bA ∧ p ∉ ops := by simpa only [List.mem_cons, not_or] using ninp
  have ⟨hlh, hlb, hlo⟩ : ¬ lb = hA ∧ ¬ lb = bA ∧ lb ∉ ops := by simpa only [List.mem_cons, not_or] using ninb
  have ⟨hoh, hob, hoo⟩ : ¬ lo = hA ∧ ¬ lo = bA ∧ lo ∉ ops := by simpa only [List.mem_cons, not_or] using nino
  have hlc' : lb ≠ c := fun z => hlo (z ▸ cin)
  have hoc : lo ≠ c := fun z => hoo (z ▸ cin)
  have ndc : c ∉ ops.tail := by
    rw [er0] at ndo ⊢
    exact (List.nodup_cons.mp ndo).1
  refine ⟨_, rfl, _, rfl, bA, _, _, _, rfl, rfl, SqL.of hBA, last_ref _ _, .inl ⟨rfl, _, SqL.of hc⟩, _, rfl, c, xs, _, rfl, rfl, hc, hx4, ?_⟩
  have hc1 : (upd H c (.lst (xs ++ [.ref p]))) c = some (.lst (xs ++ [.ref p])) := upd_same
  have k1 : Kp [c] H (upd H c (.lst (xs ++ [.ref p]))) := Kp.refl.upd (by simp)
  have t1 : Tps H (upd H c (.lst (xs ++ [.ref p]))) := tps_upd hc (fun _ z => by cases z)
  generalize upd H c (.lst (xs ++ [.ref p])) = H2 at hc1 k1 t1 ⊢
  have kc : ∀ x o, x ≠ c → H x = some o → H2 x = some o := fun x o hx e => k1 x o (by simpa using hx) e
  have hHA2 := kc _ _ hac hHA
  have hBA2 := kc _ _ hbc hBA
  refine ⟨_, rfl, rfl, _, rfl, ?_⟩
  rw [dec_str]
  refine if2 (fun c3 => ?_) (fun c3 => ⟨_, rfl, aL, _, rfl, .inr (cL _), rfl, flat_strs' _, _, rfl, if2 (fun c4 => ?_) (fun c4 => ?_)⟩)
  rotate_right 1
  · -- a row without rows of its own
    have c3 : ¬ s'.word = "if" := of_decide_eq_false c3
    have c4 : has loops s'.word = false := by rw [← inV_has]; exact c4
    have tM : takeM n s' fs cur = (fs, cur.snoc n s' .nil .nil false) := by unfold takeM; rw [if_neg c1, if_neg c2, if_neg fun z => z.elim c3 (fun y => by rw [c4] at y; cases y)]
    rw [tM] at q
    let A2 : Addr → Prop := fun x => A' x ∨ x = p ∨ x = lb ∨ x = lo
    have kA : ∀ x o, A' x → H x = some o → H2 x = some o := fun x o ax e => kc x o (fun z => nA c (by simp [cin]) (z ▸ ax)) e
    have zz2 : ZAt C A2 H2 fs c hs' (c :: b') ops := zz.keep kA t1 (fun _ a => .inl a) fun x o hx e => kc x o (fun z => ndc (z ▸ hx)) e
    have blk : IsBlk C A2 H2 (cur.snoc n s' .nil .nil false) (xs ++ [.ref p]) := IsBlk.snoc (b' := .nil) (o' := .nil) ⟨.inr (.inl rfl), .inr (.inr (.inl rfl)), .inr (.inr (.inr rfl))⟩ (kc _ _ hpc hp) (is_tps t1 (sd_pu _) hs) (kc _ _ hlc' hb) (show IsBlk C A2 H2 .nil [] from rfl) (kc _ _ hoc ho) (show IsBlk C A2 H2 .nil [] from rfl) (ic.keep kA t1 fun _ a => .inl a)
    refine q H2 ⟨same_kp sm (fun x hx => n0 x ?_) k1, ?_, ?_, ?_, A2, c, hs', c :: b', ops, xs ++ [.ref p], hHA2, hBA2, zz2, hc1, blk, nd, ?_, ?_, n0⟩
    · rw [List.mem_singleton] at hx
      subst hx
      simp [cin]
    · show fs.length ≤ m + 1
      omega
    · show (cur.snoc n s' .nil .nil false).len ≤ m + 1
      rw [Rws.len_snoc]
      omega
    · intro f' hf'
      have := ld f' hf'
      omega
    · intro x hx hax
      rcases hax with hax | rfl | rfl | rfl
      · exact nA x hx hax
      · exact ninp hx
      · exact ninb hx
      · exact nino hx
    · intro x hax
      rcases hax with hax | rfl | rfl | rfl
      · obtain ⟨o, e⟩ := eA x hax
        exact ⟨o, kA x o hax e⟩
      · exact ⟨_, kc _ _ hpc hp⟩
      · exact ⟨_, kc _ _ hlc' hb⟩
      · exact ⟨_, kc _ _ hoc ho⟩
  all_goals
    have co : s'.word = "if" ∨ has loops s'.word = true := by
      first
        | exact .inl (of_decide_eq_true c3)
        | exact .inr (by rw [← inV_has]; exact c4)
    have tM : takeM n s' fs cur = ({ done := cur, n := n, s := s', e := false, q := .nil } :: fs, .nil) := by unfold takeM; rw [if_neg c1, if_neg c2, if_pos co]
    rw [tM] at q
    refine ⟨_, rfl, .inl ⟨rfl, _, SqL.of hHA2⟩, _, rfl, hA, _, _, rfl, rfl, hHA2, (by rw [List.length_map, List.length_reverse, sizeLine_eq]; omega), ?_⟩
    have hBA3 : (upd H2 hA (.lst (hs'.reverse.map V.ref ++ [.ref p]))) bA = some (.lst ((c :: b').reverse.map V.ref)) := by rw [upd_ne (Ne.symm hab)]; exact hBA2
    have hp3 : (upd H2 hA (.lst (hs'.reverse.map V.ref ++ [.ref p]))) p = some (.ins C dx (rowF n (.ref a) lb lo false)) := by rw [upd_ne hph]; exact kc _ _ hpc hp
    refine ⟨_, rfl, .inl ⟨rfl, _, SqL.of hBA3⟩, _, rfl, p, C, dx, _, _, rfl, hp3, T.cl, T.n3, rf_body, bA, _, _, rfl, rfl, hBA3, (by rw [List.length_map, List.length_reverse, sizeLine_eq]; omega), ?_⟩
    have k4 : Kp [hA, bA] H2 (upd (upd H2 hA (.lst (hs'.reverse.map V.ref ++ [.ref p]))) bA (.lst ((c :: b').reverse.map V.ref ++ [.ref lb]))) := (Kp.refl.upd (by simp)).upd (by simp)
    have t4 : Tps H2 (upd (upd H2 hA (.lst (hs'.reverse.map V.ref ++ [.ref p]))) bA (.lst ((c :: b').reverse.map V.ref ++ [.ref lb]))) := (tps_upd hHA2 (fun _ z => by cases z)).trans (tps_upd hBA3 (fun _ z => by cases z))
    have hHA4 : (upd (upd H2 hA (.lst (hs'.reverse.map V.ref ++ [.ref p]))) bA (.lst ((c :: b').reverse.map V.ref ++ [.ref lb]))) hA = some (.lst ((p :: hs').reverse.map V.ref)) := by
      rw [upd_ne hab, upd_same, List.reverse_cons, List.map_append]
      rfl
    have hBA4 : (upd (upd H2 hA (.lst (hs'.reverse.map V.ref ++ [.ref p]))) bA (.lst ((c :: b').reverse.map V.ref ++ [.ref lb]))) bA = some (.lst ((lb :: c :: b').reverse.map V.ref)) := by
      rw [upd_same, List.reverse_cons (a := lb), List.map_append]
      rfl
    generalize upd (upd H2 hA (.lst (hs'.reverse.map V.ref ++ [.ref p]))) bA (.lst ((c :: b').reverse.map V.ref ++ [.ref lb])) = H4 at k4 t4 hHA4 hBA4 ⊢
    have kc : ∀ x o, x ≠ c → x ≠ hA → x ≠ bA → H x = some o → H4 x = some o := fun x o h1 h2 h3 e => k4 x o (fun z => by
      rw [List.mem_cons, List.mem_cons] at z
      rcases z with z | z | z
      · exact h2 z
      · exact h3 z
      · cases z) (kc x o h1 e)
    have t14 := t1.trans t4
    have kA : ∀ x o, A' x → H x = some o → H4 x = some o := fun x o ax e => kc x o (fun z => nA c (by simp [cin]) (z ▸ ax)) (fun z => nA hA (by simp) (z ▸ ax)) (fun z => nA bA (by simp) (z ▸ ax)) e
    have zz4 : ZAt C A' H4 fs c hs' (c :: b') ops := zz.keep kA t14 (fun _ a => a) fun x o hx e => kc x o (fun z => ndc (z ▸ hx)) (fun z => hao (z ▸ List.mem_of_mem_tail hx)) (fun z => hbo (z ▸ List.mem_of_mem_tail hx)) e
    have hc4 := k4 c _ (fun z => by
      rw [List.mem_cons, List.mem_cons] at z
      rcases z with z | z | z
      · exact hac z.symm
      · exact hbc z.symm
      · cases z) hc1
    refine q H4 ⟨same_kp sm (fun x hx => n0 x ?_) (fun x o hx e => kc x o (fun z => hx (by rw [z]; exact List.mem_cons_self)) (fun z => hx (by rw [z]; exact List.mem_cons_of_mem _ List.mem_cons_self)) (fun z => hx (by rw [z]; exact List.mem_cons_of_mem _ (List.mem_cons_of_mem _ List.mem_cons_self))) e : Kp [c, hA, bA] H H4), ?_, ?_, ?_, A', lb, p :: hs', lb :: c :: b', lb :: p :: lo :: ops, [], hHA4, hBA4,
      ⟨p, lo, c, dx, .ref a, [], xs, hs', c :: b', ops, rfl, rfl, rfl, kc _ _ hpc hph hpb hp, is_tps t14 (sd_pu _) hs, kc _ _ hoc hoh hob ho, rfl, fun _ => ⟨rfl, rfl⟩, hc4, ic.keep kA t14 fun _ a => a, zz4⟩, kc _ _ hlc' hlh hlb hb, rfl, ?_, ?_, ?_, ?_⟩
    · simp only [List.mem_cons, List.not_mem_nil, or_false] at hx ⊢
      rcases hx with rfl | rfl | rfl
      · exact .inr (.inr cin)
      · exact .inl rfl
      · exact .inr (.inl rfl)
    · show fs.length + 1 ≤ m + 1
      omega
    · exact Nat.zero_le _
    · intro f' hf'
      rw [List.mem_cons] at hf'
      rcases hf' with rfl | hf'
      · show cur.len < m + 1
        omega
      · have := ld f' hf'
        omega
    · simp only [List.nodup_cons, List.mem_cons, not_or]
      exact ⟨⟨hab, Ne.symm hlh, Ne.symm hph, Ne.symm hoh, hao⟩, ⟨Ne.symm hlb, Ne.symm hpb, Ne.symm hob, hbo⟩, ⟨Ne.symm pb, bo, hlo⟩, ⟨po, hpo⟩, hoo, ndo⟩
    · intro x hx hax
      have hx : x = lb ∨ x = p ∨ x = lo ∨ x ∈ hA :: bA :: ops := by
        simp only [List.mem_cons] at hx ⊢
        rcases hx with h | h | h | h | h | h
        · exact .inr (.inr (.inr (.inl h)))
        · exact .inr (.inr (.inr (.inr (.inl h))))
        · exact .inl h
        · exact .inr (.inl h)
        · exact .inr (.inr (.inl h))
        · exact .inr (.inr (.inr (.inr (.inr h))))
      rcases hx with rfl | rfl | rfl | hx
      · exact nAb hax
      · exact nAp hax
      · exact nAo hax
      · exact nA x hx hax
    · intro x hax
      obtain ⟨o, e⟩ := eA x hax
      exact ⟨o, kA x o hax e⟩
    · intro x hx
      have hx : x = lb ∨ x = p ∨ x = lo ∨ x ∈ hA :: bA :: ops := by
        simp only [List.mem_cons] at hx ⊢
        rcases hx with h | h | h | h | h | h
        · exact .inr (.inr (.inr (.inl h)))
        · exact .inr (.inr (.inr (.inr (.inl h))))
        · exact .inl h
        · exact .inr (.inl h)
        · exact .inr (.inr (.inl h))
        · exact .inr (.inr (.inr (.inr (.inr h))))
      rcases hx with rfl | rfl | rfl | hx
      · exact n0b
      · exact n0p
      · exact n0o
      · exact n0 x hx
end
end K01
namespace K01
open PySem PySem.Spec PyProof.Rows L2 Xc Dt Ln Eo
theorem for_enumS {K : PySem.W.Frag} {a : Addr} {xs : List V} {k : Int} {k0 : Nat} (hk : k = (k0 : Nat)) {g : TG} {tb : TS} {D : Ends} {σ : L2.St} {H : Hp} (Pv : Nat → L2.St → Hp → Prop) (h0 : Pv 0 σ H) (hl : ∀ i σ H, i ≤ xs.length → Pv i σ H → SqL K H a xs)
    (hs : ∀ i x T σ H, xs[i]? = some x → Pv i σ H → H T = none → g (.ref T) σ (upd H T (.tup [.int ((k0 + i : Nat) : Int), x])) fun σ2 H2 => tb { D with nx := Pv (i + 1), ct := Pv (i + 1), bk := D.nx } σ2 H2) (hd : ∀ σ H, Pv xs.length σ H → D.nx σ H) :
    ∃ W : Nat → Nat → L2.St → Hp → Prop, (∃ m, W 0 m σ H) ∧ ∀ i m σ H, W i m σ H →
      ((IteS K a xs k).stop i H ∧ D.nx σ H) ∨ ((IteS K a xs k).go i H ∧ ∃ N : L2.St → Hp → Prop, (∀ σ' H', N σ' H' → ∃ m', m' < m ∧ W (i + 1) m' σ' H') ∧ ∀ x H', (IteS K a xs k).yld i H x H' → g x σ H' fun σ2 H2 => tb { D with nx := N, ct := N, bk := D.nx } σ2 H2) := by
  refine ⟨fun i m σ H => m = xs.length - i ∧ i ≤ xs.length ∧ Pv i σ H, ⟨xs.length, by simp, Nat.zero_le _, h0⟩, ?_⟩
  rintro i m σ H ⟨rfl, hi, p⟩
  have q := hl i σ H hi p
  by_cases hlt : i < xs.length
  · refine .inr ⟨⟨hlt, q⟩, Pv (i + 1), fun σ' H' p' => ⟨xs.length - (i + 1), by omega, rfl, hlt, p'⟩, fun x H' y => ?_⟩
    obtain ⟨T, x', rfl, nT, rfl, hx⟩ := y
    have e : k + ((i : Nat) : Int) = ((k0 + i : Nat) : Int) := by omega
    rw [e]
    exact hs i x' T σ H hx p nT
  · have e : i = xs.length := by omega
    subst e
    exact .inl ⟨⟨rfl, q⟩, hd σ H p⟩
theorem paired_rev {α β : Type} {R : α → β → Prop} : ∀ {as : List α} {bs : List β}, Paired R as bs → Paired R as.reverse bs.reverse
  | _, _, .nil => .nil
  | _, _, .cons r t => by
    rw [List.reverse_cons, List.reverse_cons]
    have : ∀ {as : List α} {bs : List β}, Paired R as bs → ∀ {a b}, R a b → Paired R (as ++ [a]) (bs ++ [b]) := by
      intro as bs h
      induction h with
      | nil => intro a b r; exact .cons r .nil
      | cons r' _ ih => intro a b r; exact .cons r' (ih r)
    exact this (paired_rev t) r
abbrev frS (fs : List Fr) : List (Sd × Bool) := fs.map fun f => (f.s, f.e)
theorem zat_heads {C : Addr} {A : Addr → Prop} {H : Hp} : ∀ {fs : List Fr} {c : Addr} {hs bs ops : List Addr}, ZAt C A H fs c hs bs ops → Paired (HeadAt C H) (frS fs) hs
  | [], _, _, _, _, h => by rw [h.1]; exact .nil
  | f :: fs, c, _, _, _, h => by
    obtain ⟨p, q, a, dx, sv, xq, xs, hs', bs', ops', rfl, rfl, rfl, hp, hs, hq, iq, ne, ha, ia, r⟩ := h
    refine .cons ?_ (zat_heads r)
    cases e : f.e with
    | true =>
      rw [e] at hp
      refine ⟨dx, f.n, sv, q, c, ?_, hs⟩
      show H p = some (.ins C dx (rowF f.n sv q c f.e))
      rw [e]
      exact hp
    | false =>
      rw [e] at hp
      refine ⟨dx, f.n, sv, c, q, ?_, hs⟩
      show H p = some (.ins C dx (rowF f.n sv c q f.e))
      rw [e]
      exact hp
theorem place_fr (fs : List Fr) : place fs = placeS (frS fs).reverse := by
  have : ∀ l : List Fr, (match l.find? (fun f => has loops f.s.word) with
      | some f => f.s.word
      | none => ("outside" : Str)) = placeS (frS l) := by
    intro l
    induction l with
    | nil => rfl
    | cons f l ih =>
      unfold placeS
      show (match (f :: l).find? (fun f => has loops f.s.word) with
        | some f => f.s.word
        | none => ("outside" : Str)) = match ((f.s, f.e) :: frS l).find? (fun x => has loops x.1.word) with
        | some x => x.1.word
        | none => "outside"
      rw [List.find?_cons, List.find?_cons]
      show _ = match (match has loops f.s.word with
        | true => some (f.s, f.e)
        | false => (frS l).find? fun x => has loops x.1.word) with
        | some x => x.1.word
        | none => "outside"
      cases h : has loops f.s.word with
      | true => rfl
      | false => exact ih
  have h := this fs.reverse
  rw [show frS fs.reverse = (frS fs).reverse from List.map_reverse] at h
  exact h
theorem fits_fr (w : Str) (fs : List Fr) : fitsM w fs = fitsS w (frS fs) := by
  unfold fitsM fitsS
  cases fs with
  | nil => rfl
  | cons f fs => rfl
/-- what the top has made of the errors -/
structure Er (P : Program) (w : World) (K : PySem.W.Frag) (mg : Str → Option Value) (base : Heap) (U CK CU CL CF CM : Addr) : Prop where
  et : EC K [] U
  ek : EC K [U] CK
  eu : EC K [U] CU
  el : EC K [U] CL
  ef : EC K [U] CF
  em : EC K [U] CM
  mT : mg "TreeError" = some (.ref U)
  mK : mg "BadKind" = some (.ref CK)
  mU : mg "BadUps" = some (.ref CU)
  mL : mg "BadLine" = some (.ref CL)
  mF : mg "Refused" = some (.ref CF)
  mM : mg "TooMany" = some (.ref CM)
  iK : Makes P w K mg base CK ["self", "kind"] (spI1 CK "kind")
  iU : Makes P w K mg base CU ["self", "ups"] (spI1 CU "ups")
  iL : Makes P w K mg base CL ["self", "line"] (spI1 CL "line")
  iF : Makes P w K mg base CF ["self", "line"] (spI1 CF "line")
  iM : Makes P w K mg base CM ["self", "what", "many", "most"] (spI3 CM "what" "many" "most")
section
variable {P : Program} {w : World} {K : PySem.W.Frag} {mg : Str → Option Value} {base : Heap} {f : Addr} {fd : FuncData}
def spBlocks (CL C : Addr) : Sp := fun vs H Q E => ∃ (L : Addr) (ls : List Str), vs = [.ref L] ∧ H L = some (.lst (ls.map V.str)) ∧ ls.length ≤ 3000 ∧ (∀ l ∈ ls, Fair l) ∧
  (∀ n, readBlocks ls = .error n → Wish1 CL "line" (.int (n : Nat)) H E) ∧ (∀ b, readBlocks ls = .ok b → ∀ (a : Addr) (xs : List V) (H' : Hp), Same H H' → H a = none → H' a = some (.lst xs) → IsBlk C (fun _ => True) H' b xs → Q (.ref a) H')
theorem sc39 : FnScope ["lines", "heads", "blocks", "number", "line", "said"] ["lines"] (defScope (top 39)) := ⟨rfl, rfl, rfl, by decide +kernel, rfl, by decide +kernel, by decide +kernel⟩
theorem ok_blocks {U CK CU CL CF CM C fI gL gP gF gT : Addr} {dI dL dP dF dT : FuncData} (F : Fun K "read_blocks" "read_blocks" (top 39) f fd) (N : Nb mg) (R : Er P w K mg base U CK CU CL CF CM) (T : RowT K mg C)
    (M : Mk K C fI) (GI : FnOk P w K mg base CX0 1 fI dI ["self", "number", "said"] (spRowI C)) (bI : Binds K dI ["self", "number", "said"] [])
    (GL : FnOk P w K mg base CX0 9 gL dL ["line", "place"] spLine) (bGL : Binds K dL ["line", "place"] []) (kGL : PySem.W.keepIn K (.ref gL) = true) (mGL : mg "read_line" = some (.ref gL))
    (GP : FnOk P w K mg base CX0 1 gP dP ["heads"] (spPlace C)) (bGP : Binds K dP ["heads"] []) (kGP : PySem.W.keepIn K (.ref gP) = true) (mGP : mg "place_in" = some (.ref gP))
    (GF : FnOk P w K mg base CX0 1 gF dF ["word", "heads"] (spFits C)) (bGF : Binds K dF ["word", "heads"] []) (kGF : PySem.W.keepIn K (.ref gF) = true) (mGF : mg "fits" = some (.ref gF))
    (GT : FnOk P w K mg base CX0 1 gT dT ["row", "heads", "blocks"] (spTake C)) (bGT : Binds K dT ["row", "heads", "blocks"] []) (kGT : PySem.W.keepIn K (.ref gT) = true) (mGT : mg "take_in" = some (.ref gT)) :
    FnOk P w K mg base (L2.CX P w) 10 f fd ["lines"] (spBlocks CL C) := by
  refine F.okX sc39 (fun vs H Q E h => ?_) (fun cdv A outer s H vs Q E hr h => ?_)
  · obtain ⟨L, ls, rfl, _⟩ := h
    rfl
  obtain ⟨L, ls, rfl, hL, hlen, hfair, bad, q⟩ := h
  obtain ⟨gE, dE, aE, tE, FE, bE⟩ := R.iL
  have r2 : Room 2 (A.deeper (envOfC "read_blocks" (defScope (top 39)) s.heap.objs.size f cdv)) := hr.mono (by decide)
  have r1 : Room 1 (A.deeper (envOfC "read_blocks" (defScope (top 39)) s.heap.objs.size f cdv)) := hr.mono (by decide)
  refine ⟨_, (pss_cons (ps_set (i := 1) sc39.nd rfl (.inl rfl) (pe_lst pa_nil))
  (pss_cons (ps_set (i := 2) sc39.nd rfl (.inl rfl) (pe_lst (pa_cons (pe_lst pa_nil) pa_nil)))
  (pss_cons (ps_for (passes_of rfl) rfl (pi_enumS (by rfl) N.enum (pa_cons (pv 0) pa_nil) (pk_cons pe_int pk_nil)) (pg_tup rfl (pgs_cons (pg_name (i := 3) sc39.nd rfl (.inl rfl)) (pgs_cons (pg_name (i := 4) sc39.nd rfl (.inl rfl)) pgs_nil)))
  (pss_cons (ps_set (i := 5) sc39.nd rfl (.inl rfl) (pe_call GL hr rfl mGL kGL bGL .nil pass0 (pa_cons (pv 4) (pa_cons (pe_call GP r1 rfl mGP kGP bGP .nil pass0 (pa_cons (pv 1) pa_nil)) pa_nil))))
    (pss_cons (ps_if (PW.pt (pw_or (pt_cmpR op_isN (pv 5) pe_non (nomark _)) (pw_or1 (pt_not (pt_val (pe_call GF r1 rfl mGF kGF bGF .nil pass0 (pa_cons (pe_ix ix_tup (pv 5) pe_int (fun _ _ => rfl)) (pa_cons (pv 1) pa_nil))))))))
    (pss_one (ps_raise rfl (takes_of rfl rfl rfl rfl) (pmk_oex R.el.oex aE tE FE r2 bE .nil pass0 rfl R.mL (pa_cons (pv 3) pa_nil))))
    pss_nil)
    (pss_one (ps_expr (pe_call GT r1 rfl mGT kGT bGT .nil pass0 (pa_cons (pe_make M GI r2 rfl T.mgC bI .nil pass0 (pa_cons (pv 3) (pa_cons (pv 5) pa_nil))) (pa_cons (pv 1) (pa_cons (pv 2) pa_nil)))))))))
  (pss_cons (ps_if (pt_truth (pv 1) (by intro _; rfl))
  (pss_one (ps_raise rfl (takes_of rfl rfl rfl rfl) (pmk_oex R.el.oex aE tE FE r2 bE .nil pass0 rfl R.mL (pa_cons (pe_op op_add (pe_callB call_len_seq (by rfl) N.len PySem.boot_len (pa_cons (pv 0) pa_nil)) pe_int) pa_nil))))
  pss_nil)
  (pss_one (ps_ret (pe_ix (show IxR _ (rIxL K) from ix_list) (pv 2) pe_int (fun _ _ => rfl)))))))), ?_⟩
  have sz0 : 0 ≤ sizeLine := by decide
  have sz1 : 1 ≤ sizeLine := by decide
  refine ⟨sz0, fun hA nhA => ?_⟩
  have u1 := same_new nhA (.lst [])
  have m1 : (upd H hA (.lst [])) hA = some (.lst []) := upd_same
  generalize upd H hA (.lst []) = H1 at u1 m1 ⊢
  refine ⟨sz0, fun c0 nc0 => ?_⟩
  have u2 := same_new nc0 (.lst [])
  have m2 : (upd H1 c0 (.lst [])) c0 = some (.lst []) := upd_same
  generalize upd H1 c0 (.lst []) = H2 at u2 m2 ⊢
  refine ⟨sz1, fun bA nbA => ?_⟩
  have u3 := same_new nbA (.lst [.ref c0])
  have m3 : (upd H2 bA (.lst [.ref c0])) bA = some (.lst [.ref c0]) := upd_same
  generalize upd H2 bA (.lst [.ref c0]) = H3 at u3 m3 ⊢
  have s3 := (u1.trans u2).trans u3
  have z0 : ZSt C H H3 hA bA 0 [] .nil := by
    have hc : hA ≠ c0 := fun z => by rw [z] at m1; rw [m1] at nc0; cases nc0
    have hb : hA ≠ bA := fun z => by have := u2 _ _ m1; rw [z, nbA] at this; cases this
    have hcb : bA ≠ c0 := fun z => by rw [← z, nbA] at m2; cases m2
    refine ⟨s3, Nat.le_refl _, Nat.le_refl _, (fun f hf => by cases hf), fun _ => False, c0, [], [c0], [c0], [], u3 _ _ (u2 _ _ m1), m3, ⟨rfl, rfl, rfl⟩, u3 _ _ m2, rfl, ?_, fun _ _ z => z, fun _ z => z.elim, ?_⟩
    · simp [hc, hb, hcb]
    · intro x hx
      simp only [List.mem_cons, List.not_mem_nil, or_false] at hx
      rcases hx with rfl | rfl | rfl
      · exact nhA
      · exact u1.free (u2.free nbA)
      · exact u1.free nc0
  refine ⟨_, rfl, L, _, 1, rfl, rfl, SqL.of (s3 _ _ hL), ⟨by decide, by decide⟩, for_enumS (k0 := 1) rfl (fun i σ H' => ∃ (fs : List Fr) (cur : Rws) (v3 v4 v5 : Option V), σ = [some (.ref L), some (.ref hA), some (.ref bA), v3, v4, v5] ∧ ZSt C H H' hA bA i fs cur ∧ readBlocks ls = rbFrom (1 + i) (ls.drop i) fs cur)
    ⟨[], .nil, none, none, none, rfl, z0, rfl⟩ (fun i σ H' _ h => by obtain ⟨fs, cur, v3, v4, v5, _, z, _⟩ := h; exact SqL.of (z.same _ _ hL)) ?_ ?_⟩
  · rintro i y t σ H' hi ⟨fs, cur, v3, v4, v5, rfl, z, er⟩ nt
    rw [List.getElem?_map] at hi
    obtain ⟨l, hl, rfl⟩ : ∃ l, ls[i]? = some l ∧ y = .str l := by
      cases e : ls[i]? with
      | none => rw [e] at hi; cases hi
      | some l => rw [e] at hi; cases hi; exact ⟨l, rfl, rfl⟩
    have hil : i < ls.length := (List.getElem?_eq_some_iff.mp hl).1
    have ed : ls.drop i = l :: ls.drop (i + 1) := by rw [← (List.getElem?_eq_some_iff.mp hl).2, List.getElem_cons_drop]
    rw [ed] at er
    have er : readBlocks ls = match rdLine l (place fs) with
      | none => .error (1 + i)
      | some s => if fitsM s.word fs then rbFrom (1 + i + 1) (ls.drop (i + 1)) (takeM (1 + i) s fs cur).1 (takeM (1 + i) s fs cur).2 else .error (1 + i) := er
    have u5 := same_new nt (.tup [.int ((1 + i : Nat) : Int), .str l])
    have m5 : (upd H' t (.tup [.int ((1 + i : Nat) : Int), .str l])) t = some (.tup [.int ((1 + i : Nat) : Int), .str l]) := upd_same
    generalize upd H' t (.tup [.int ((1 + i : Nat) : Int), .str l]) = H5 at u5 m5 ⊢
    obtain ⟨A', c, hs, bs, ops, xs, hHA, hBA, zz, hc, ic, nd, nA, eA, n0⟩ := z.ex
    have hds := zat_heads zz
    have hdv : ∀ {H6 : Hp}, Same H' H6 → ∀ {ss ps}, Paired (HeadAt C H') ss ps → Paired (HeadAt C H6) ss ps := fun s6 _ _ h => Paired.mapP h fun x p ⟨dx, n, sv, lb, lo, h1, h2⟩ => ⟨dx, n, sv, lb, lo, s6 _ _ h1, h2.same s6⟩
    refine ⟨t, _, rfl, SqT.of m5, rfl, _, _, rfl, _, _, rfl, rfl, ?_⟩
    refine ⟨_, rfl, _, rfl, hA, _, _, rfl, u5 _ _ hHA, hdv u5 (paired_rev hds), ?_⟩
    rw [← place_fr]
    refine ⟨l, place fs, rfl, hfair l (List.mem_of_getElem? hl), fun v H6 hv s6 => ?_⟩
    have s56 := u5.trans s6
    have i1 : ((1 + i : Nat) : Int) = ((i + 1 : Nat) : Int) := by omega
    refine ⟨_, rfl, rfl, _, rfl, ?_⟩
    cases er2 : rdLine l (place fs) with
    | none =>
      rw [er2] at hv er
      cases (show v = V.non from hv)
      rw [decide_eq_true rfl]
      refine ifT rfl ⟨_, rfl, (by show 1 ≤ 1000; decide), mk1 (fun dd H7 h2 h3 => bad (1 + i) er dd H7 h2 ((z.same.trans s56).trans h3))⟩
    | some s' =>
      rw [er2] at hv er
      have hv : Is H6 s'.d v := hv
      obtain ⟨a, r, rfl, ha⟩ := sd_word hv
      have er : readBlocks ls = if fitsM s'.word fs then rbFrom (1 + i + 1) (ls.drop (i + 1)) (takeM (1 + i) s' fs cur).1 (takeM (1 + i) s' fs cur).2 else .error (1 + i) := er
      rw [decide_eq_false (by intro z; cases z)]
      refine ifF rfl ⟨_, rfl, a, _, _, _, rfl, rfl, SqT.of ha, atI_nat (j := 0) rfl, _, rfl, s'.word, hA, frS fs, hs, rfl, s56 _ _ hHA, hdv s56 hds, _, rfl, ?_⟩
      rw [← fits_fr]
      cases ef : fitsM s'.word fs with
      | false =>
        rw [ef] at er
        exact ifT rfl ⟨_, rfl, (by show 1 ≤ 1000; decide), mk1 (fun dd H7 h2 h3 => bad (1 + i) er dd H7 h2 ((z.same.trans s56).trans h3))⟩
      | true =>
        rw [ef] at er
        refine ifF rfl ⟨_, rfl, _, rfl, fun x dx nx ndx nex => ⟨x, dx, 1 + i, .ref a, rfl, upd_same, fun lb lo H7 nlb nlo nbo h1 h2 h3 h4 => ⟨rfl, ?_⟩⟩⟩
        have s67 : Same H6 H7 := fun b o e => h4 b o (by rw [upd_ne (ne_of_none e nx), upd_ne (ne_of_none e ndx)]; exact e) (ne_of_none e nx)
        have s6a : Same H6 (upd (upd H6 dx (.own x)) x (.ins C dx [])) := fun b o e => by rw [upd_ne (ne_of_none e nx), upd_ne (ne_of_none e ndx)]; exact e
        refine ⟨_, rfl, _, rfl, x, hA, bA, H, H', fs, cur, 1 + i, i, s', dx, .ref a, lb, lo, rfl, z, s56.trans s67, s56.free nx, s56.free (s6a.free nlb), s56.free (s6a.free nlo), nbo, h1, hv.same s67, h2, h3, ef, by omega, fun H8 z8 => ?_⟩
        exact ⟨_, _, _, _, _, rfl, z8, by rw [er]; exact if_pos rfl⟩
  · rintro σ H' ⟨fs, cur, v3, v4, v5, rfl, z, er⟩
    obtain ⟨A', c, hs, bs, ops, xs, hHA, hBA, zz, hc, ic, nd, nA, eA, n0⟩ := z.ex
    rw [List.length_map, List.drop_length] at er
    refine ⟨_, rfl, _, .inl ⟨_, SqL.of hHA, rfl⟩, ?_⟩
    cases fs with
    | cons f fs =>
      obtain ⟨p', q', a', dx', sv', xq, xsd, hs2, bs2, ops2, rfl, _⟩ := zz
      refine ifT (by simp) ⟨_, rfl, L, _, rfl, .inl (SqL.of (z.same _ _ hL)), _, _, rfl, rfl, (by show 1 ≤ 1000; decide), mk1 (fun dd H7 h2 h3 => bad (1 + ls.length) er dd H7 ?_ (z.same.trans h3))⟩
      rw [h2, List.length_map]
      have : ((ls.length : Nat) : Int) + 1 = ((1 + ls.length : Nat) : Int) := by omega
      show some (HO.xd [("line", V.int (((ls.length : Nat) : Int) + 1))]) = _
      rw [this]
    | nil =>
      obtain ⟨rfl, rfl, rfl⟩ := zz
      refine ifF rfl ⟨_, rfl, bA, _, _, _, rfl, rfl, SqL.of hBA, atI_nat (j := 0) rfl, ?_⟩
      exact q cur er c xs H' z.same (n0 c (by simp)) hc (ic.keep (fun x o _ e => e) (fun _ _ e => e) fun _ _ => trivial)
end
end K01
namespace Ln
open PySem PySem.Spec PyProof.Rows L2 Xc Dt
/-- how deep blocks stand in one another -/
def Rws.dep : Rws → Nat
  | .nil => 0
  | .cons _ _ b o _ r => max (1 + max b.dep o.dep) r.dep
/-- how many ifs stand outside loops -/
def Rws.cif : Rws → Nat
  | .nil => 0
  | .cons _ s b o _ r => (if s.word = "if" then 1 + b.cif + o.cif else 0) + r.cif
theorem IsBlk.uncons {C : Addr} {A : Addr → Prop} {H : Hp} {b : Rws} {y : V} {r : List V} (h : IsBlk C A H b (y :: r)) : ∃ (n : Nat) (s : Sd) (bb oo : Rws) (e : Bool) (b' : Rws) (p dx : Addr) (sv : V) (lb lo : Addr) (xb xo : List V),
    b = .cons n s bb oo e b' ∧ y = .ref p ∧ H p = some (.ins C dx (rowF n sv lb lo e)) ∧ Is H s.d sv ∧ H lb = some (.lst xb) ∧ IsBlk C A H bb xb ∧ H lo = some (.lst xo) ∧ IsBlk C A H oo xo ∧ IsBlk C A H b' r := by
  cases b with
  | nil => cases (show y :: r = [] from h)
  | cons n s bb oo e b' =>
    obtain ⟨p, dx, sv, lb, lo, xb, xo, vr, e1, _, h1, h2, h3, h4, h5, h6, h7⟩ := h
    obtain ⟨rfl, rfl⟩ := List.cons.inj e1
    exact ⟨n, s, bb, oo, e, b', p, dx, sv, lb, lo, xb, xo, rfl, rfl, h1, h2, h3, h4, h5, h6, h7⟩
theorem drop_cons {α : Type} {xs : List α} {i : Nat} {y : α} (h : xs[i]? = some y) : xs.drop i = y :: xs.drop (i + 1) := by
  rw [← (List.getElem?_eq_some_iff.mp h).2, List.getElem_cons_drop]
theorem IsBlk.nil_of {C : Addr} {A : Addr → Prop} {H : Hp} {b : Rws} (h : IsBlk C A H b []) : b = .nil := by
  cases b with
  | nil => rfl
  | cons n s bb oo e b' =>
    obtain ⟨p, dx, sv, lb, lo, xb, xo, vr, e1, _⟩ := h
    cases e1
end Ln
namespace K01
open PySem PySem.Spec PyProof.Rows L2 Xc Dt Ln Eo
section
variable {P : Program} {w : World} {K : PySem.W.Frag} {mg : Str → Option Value} {base : Heap} {f : Addr} {fd : FuncData}
def spCount (C : Addr) (n : Nat) : Sp := fun vs H Q _ => ∃ (L : Addr) (b : Rws) (xs : List V), vs = [.ref L] ∧ H L = some (.lst xs) ∧ IsBlk C (fun _ => True) H b xs ∧ b.dep < n ∧ Q (.int (b.cif : Nat)) H
theorem sc43 : FnScope ["block", "many", "row"] ["block"] (defScope (top 43)) := ⟨rfl, rfl, rfl, by decide +kernel, rfl, by decide +kernel, by decide +kernel⟩
theorem count_none {C : Addr} : FnOk P w K mg base CX0 0 f fd ["block"] (spCount C 0) := by
  have no : ∀ vs H Q E, ¬ spCount C 0 vs H Q E := by
    rintro vs H Q E ⟨L, b, xs, _, _, _, h, _⟩
    exact absurd h (Nat.not_lt_zero _)
  exact ⟨fun vs H Q E h => absurd h (no vs H Q E), fun A outer s H args us vs Q E _ _ _ _ h => absurd h (no vs H Q E)⟩
theorem count_step {C : Addr} {n : Nat} (F : Fun K "count_ifs" "count_ifs" (top 43) f fd) (T : RowT K mg C) (GR : FnOk P w K mg base CX0 n f fd ["block"] (spCount C n)) (bGR : Binds K fd ["block"] []) (mGR : mg "count_ifs" = some (.ref f)) :
    FnOk P w K mg base CX0 (n + 1) f fd ["block"] (spCount C (n + 1)) := by
  refine F.ok sc43 (fun vs H Q E h => ?_) (fun cdv A outer s H vs Q E hr h => ?_)
  · obtain ⟨L, b, xs, rfl, _⟩ := h
    rfl
  obtain ⟨L, b, xs, rfl, hL, ib, hd, q⟩ := h
  have kGR := F.kp
  refine ⟨_, (pss_cons (ps_set (i := 1) sc43.nd rfl (.inl rfl) pe_int)
  (pss_cons (ps_for PassesOwn.never rfl (pi_list (pv 0)) (pg_name (i := 2) sc43.nd rfl (.inl rfl))
  (pss_one (ps_if (pt_cmpR op_eq (pe_ix ix_tup (pe_fld (pv 2) rfl) pe_int (fun _ _ => rfl)) pe_str (nomark _))
    (pss_one (ps_aug (i := 1) sc43.nd rfl (.inl rfl) (pe_op op_add (pe_op op_add pe_int (pe_call GR hr rfl mGR kGR bGR .nil pass0 (pa_cons (pe_fld (pv 2) rfl) pa_nil))) (pe_call GR hr rfl mGR kGR bGR .nil pass0 (pa_cons (pe_fld (pv 2) rfl) pa_nil))) ip_add))
    pss_nil)))
  (pss_one (ps_ret (pv 1))))), ?_⟩
  refine ⟨_, rfl, L, rfl, ⟨_, SqL.of hL⟩, for_list (K := K) (a := L) (xs := xs) (fun i σ H' => H' = H ∧ ∃ (b' : Rws) (acc : Nat) (v : Option V), σ = [some (.ref L), some (.int (acc : Nat)), v] ∧ IsBlk C (fun _ => True) H b' (xs.drop i) ∧ acc + b'.cif = b.cif ∧ b'.dep ≤ b.dep)
    ⟨rfl, b, 0, none, rfl, ib, Nat.zero_add _, Nat.le_refl _⟩ (fun i σ H' _ h => by rw [h.1]; exact SqL.of hL) ?_ ?_⟩
  · rintro i y σ H' hi ⟨rfl, b', acc, v, rfl, ib', ea, hd'⟩
    rw [drop_cons hi] at ib'
    obtain ⟨n', s', bb, oo, e, b'', p, dx, sv, lb, lo, xb, xo, rfl, rfl, hp, hs, hb, ibb, ho, ioo, ib''⟩ := ib'.uncons
    obtain ⟨a, r, rfl, ha⟩ := sd_word hs
    have hdd : max (1 + max bb.dep oo.dep) b''.dep ≤ b.dep := hd'
    have ea : acc + ((if s'.word = "if" then 1 + bb.cif + oo.cif else 0) + b''.cif) = b.cif := ea
    refine ⟨_, rfl, p, C, dx, _, _, rfl, hp, T.cl, T.n2, rf_said, a, _, _, _, rfl, rfl, SqT.of ha, atI_nat (j := 0) rfl, rfl, _, rfl, ?_⟩
    rw [dec_str]
    refine if2 (fun c => ?_) (fun c => ?_)
    · rw [if_pos (of_decide_eq_true c)] at ea
      refine ⟨_, rfl, _, rfl, p, C, dx, _, _, rfl, hp, T.cl, T.n3, rf_body, lb, bb, xb, rfl, hb, ibb, by omega, _, _, rfl, rfl, _, rfl, p, C, dx, _, _, rfl, hp, T.cl, T.n4, rf_other, lo, oo, xo, rfl, ho, ioo, by omega, _, _, rfl, rfl, _, _, rfl, rfl, ?_⟩
      refine ⟨rfl, b'', acc + (1 + bb.cif + oo.cif), some (.ref p), ?_, ib'', by omega, by omega⟩
      have : ((acc : Nat) : Int) + (1 + ((bb.cif : Nat) : Int) + ((oo.cif : Nat) : Int)) = ((acc + (1 + bb.cif + oo.cif) : Nat) : Int) := by omega
      show [some (V.ref L), some (V.int (((acc : Nat) : Int) + (1 + ((bb.cif : Nat) : Int) + ((oo.cif : Nat) : Int)))), some (V.ref p)] = _
      rw [this]
    · rw [if_neg (of_decide_eq_false c)] at ea
      exact ⟨rfl, b'', acc, _, rfl, ib'', by omega, by omega⟩
  · rintro σ H' ⟨rfl, b', acc, v, rfl, ib', ea, hd'⟩
    rw [List.drop_length] at ib'
    rw [ib'.nil_of] at ea
    have : acc = b.cif := ea
    rw [← this] at q
    exact ⟨_, rfl, q⟩
theorem count_all {C : Addr} (F : Fun K "count_ifs" "count_ifs" (top 43) f fd) (T : RowT K mg C) (b : Binds K fd ["block"] []) (m : mg "count_ifs" = some (.ref f)) : ∀ n : Nat, FnOk P w K mg base CX0 n f fd ["block"] (spCount C n)
  | 0 => count_none
  | n + 1 => count_step F T (count_all F T b m n) b m
end
end K01
namespace Ln
open PySem PySem.Spec PyProof.Rows L2 Xc Dt
/-- what a line can say -/
def Sd.ok : Sd → Prop
  | .one w => w ∈ (["quit", "else", "end", "stop"] : List Str)
  | .ask w _ => w ∈ (["if", "down", "up"] : List Str)
  | .read t x => t ∈ regs ∧ SeqAt.shaped x.py = true ∧ (∃ w, rdTerm w = some x)
  | .write x _ => True
  | _ => True
theorem rdLink_term {w : Str} {x : Tm} (h : rdLink w = some x) : SeqAt.shaped x.py = true := by
  unfold rdLink at h
  by_cases c2 : (has holders (Txt.partition w ".").1 && has linkNs (Txt.partition w ".").2.2) = true
  · rw [if_pos c2] at h
    cases h
    rw [Bool.and_eq_true] at c2
    have sub : ∀ w ∈ holders, w ∈ bare := by decide +kernel
    have o1 := ok_names _ (List.mem_append_left _ (sub _ (of_decide_eq_true c2.1)))
    have o2 := ok_names _ (List.mem_append_right _ (of_decide_eq_true c2.2))
    simp [Tm.py, SeqAt.shaped, PyData.canLay0, PyData.canLayAll0, PyData.depth, PyData.depthAll, o1, o2]
  · rw [if_neg c2] at h
    cases h
theorem rdAsking_ok {w : Str} {r : List Str} {p : Str} {s : Sd} (hw : w ∈ (["if", "down", "up"] : List Str)) (h : rdAsking w r p = some s) : s.ok := by
  unfold rdAsking at h
  cases e : rdTest r p with
  | none => rw [e] at h; cases h
  | some ps => rw [e] at h; cases h; exact hw
theorem rdSetting_ok {w c : Str} {s : Sd} (h : rdSetting w c = some s) : s.ok := by
  unfold rdSetting at h
  by_cases c6 : has regs w = true
  · rw [if_pos c6] at h
    cases e2 : rdTerm c with
    | none => rw [e2] at h; cases h
    | some x =>
      rw [e2] at h
      cases h
      exact ⟨of_decide_eq_true c6, tm_shaped e2, c, e2⟩
  rw [if_neg c6] at h
  by_cases c7 : (!has ledTo c) = true
  · rw [if_pos c7] at h; cases h
  rw [if_neg c7] at h
  by_cases c8 : w = "root"
  · rw [if_pos c8] at h
    cases h
    trivial
  rw [if_neg c8] at h
  cases e2 : rdLink w with
  | none => rw [e2] at h; cases h
  | some x =>
    rw [e2] at h
    cases h
    trivial
theorem rdOutside_ok {ws : List Str} {s : Sd} (h : rdOutside ws = some s) : s.ok := by
  rcases ws with _ | ⟨w, r⟩
  · cases h
  by_cases c4 : has loops w = true
  · have e : rdOutside (w :: r) = rdAsking w r w := by simp only [rdOutside]; rw [if_pos c4]
    rw [e] at h
    refine rdAsking_ok ?_ h
    have : w ∈ loops := of_decide_eq_true c4
    exact List.mem_cons_of_mem _ this
  rcases r with _ | ⟨b, _ | ⟨c, _ | ⟨d, r⟩⟩⟩
  · have e : rdOutside [w] = none := by simp only [rdOutside]; rw [if_neg c4]
    rw [e] at h; cases h
  · have e : rdOutside [w, b] = none := by simp only [rdOutside]; rw [if_neg c4]
    rw [e] at h; cases h
  · have e : rdOutside [w, b, c] = if b = "=" then rdSetting w c else if decide (b = "gets") && (has holders w && has holders c) then some (.gets w c) else none := by simp only [rdOutside]; rw [if_neg c4]
    rw [e] at h
    by_cases c5 : b = "="
    · rw [if_pos c5] at h
      exact rdSetting_ok h
    rw [if_neg c5] at h
    by_cases c6 : (decide (b = "gets") && (has holders w && has holders c)) = true
    · rw [if_pos c6] at h
      cases h
      trivial
    · rw [if_neg c6] at h
      cases h
  · have e : rdOutside (w :: b :: c :: d :: r) = none := by simp only [rdOutside]; rw [if_neg c4]
    rw [e] at h; cases h
theorem rdWithin_ok {ws : List Str} {p : Str} {s : Sd} (h : rdWithin ws p = some s) : s.ok := by
  rcases ws with _ | ⟨w, _ | ⟨b, _ | ⟨c, r⟩⟩⟩
  · cases h
  · have e : rdWithin [w] p = if w = "stop" then some (.one "stop") else none := rfl
    rw [e] at h
    by_cases c4 : w = "stop"
    · rw [if_pos c4] at h
      cases h
      show ("stop" : Str) ∈ _
      simp
    · rw [if_neg c4] at h
      cases h
  · have e : rdWithin [w, b] p = if decide (w = "keep") && has kept b then some (.keep b) else if decide (w = "go") && has (stepsOf p) b then some (.go b) else none := rfl
    rw [e] at h
    by_cases c4 : (decide (w = "keep") && has kept b) = true
    · rw [if_pos c4] at h
      cases h
      trivial
    rw [if_neg c4] at h
    by_cases c5 : (decide (w = "go") && has (stepsOf p) b) = true
    · rw [if_pos c5] at h
      cases h
      trivial
    · rw [if_neg c5] at h
      cases h
  · cases h
theorem rdLine_ok {l p : Str} {s : Sd} (h : rdLine l p = some s) : s.ok := by
  unfold rdLine at h
  generalize Txt.split l " " = ws at h
  rcases ws with _ | ⟨w, r⟩
  · cases h
  have e : rdWords (w :: r) p = if w = "if" then rdAsking w r p else if r = [] ∧ (w = "quit" ∨ w = "else" ∨ w = "end") then some (.one w) else if p = "outside" then rdOutside (w :: r) else rdWithin (w :: r) p := rfl
  rw [e] at h
  by_cases c1 : w = "if"
  · rw [if_pos c1] at h
    exact rdAsking_ok (by rw [c1]; simp) h
  rw [if_neg c1] at h
  by_cases c2 : r = [] ∧ (w = "quit" ∨ w = "else" ∨ w = "end")
  · rw [if_pos c2] at h
    cases h
    show w ∈ _
    rcases c2.2 with rfl | rfl | rfl <;> simp
  rw [if_neg c2] at h
  by_cases c3 : p = "outside"
  · rw [if_pos c3] at h
    exact rdOutside_ok h
  · rw [if_neg c3] at h
    exact rdWithin_ok h
theorem Sd.ok.read {s : Sd} (h : s.ok) (w : s.word = "read") : ∃ t x, s = .read t x := by
  cases s with
  | read t x => exact ⟨t, x, rfl⟩
  | one v =>
    have w : v = "read" := w
    subst w
    revert h
    show ("read" : Str) ∈ (["quit", "else", "end", "stop"] : List Str) → _
    intro h
    exact absurd h (by decide +kernel)
  | ask v ps =>
    have w : v = "read" := w
    subst w
    have h : ("read" : Str) ∈ (["if", "down", "up"] : List Str) := h
    exact absurd h (by decide +kernel)
  | write x t => exact absurd (show ("write" : Str) = "read" from w) (by decide +kernel)
  | gets x t => exact absurd (show ("gets" : Str) = "read" from w) (by decide +kernel)
  | keep x => exact absurd (show ("keep" : Str) = "read" from w) (by decide +kernel)
  | go x => exact absurd (show ("go" : Str) = "read" from w) (by decide +kernel)
/-! ### what is asked of a row -/
def Sd.isLoop (s : Sd) : Bool := has loops s.word
def Sd.rdRoot : Sd → Bool
  | .read _ x => decide (x = .reg "root")
  | _ => false
def Sd.rdLnk : Sd → Bool
  | .read _ (.link _ _) => true
  | _ => false
def Sd.isWr (s : Sd) : Bool := has ["write", "gets"] s.word
def Sd.setsAt : Sd → Bool
  | .read t _ => decide (t = "at")
  | _ => false
end Ln
namespace K01
open PySem PySem.Spec PyProof.Rows L2 Xc Dt Ln Eo
section
variable {P : Program} {w : World} {K : PySem.W.Frag} {mg : Str → Option Value} {base : Heap} {f : Addr} {fd : FuncData}
def spRB (C : Addr) (g : Sd → Bool) : Sp := fun vs H Q _ => ∃ (p : Addr) (s : Sd) (e : Bool), vs = [.ref p] ∧ HeadAt C H (s, e) p ∧ s.ok ∧ ∀ H', Same H H' → Q (.bl (g s)) H'
theorem sc56 : FnScope ["row"] ["row"] (defScope (top 56)) := ⟨rfl, rfl, rfl, by decide +kernel, rfl, by decide +kernel, by decide +kernel⟩
theorem ok_isLoop {C : Addr} (F : Fun K "is_loop" "is_loop" (top 56) f fd) (N : Gn K mg) (T : RowT K mg C) : FnOk P w K mg base CX0 1 f fd ["row"] (spRB C Sd.isLoop) := by
  refine F.ok sc56 (fun vs H Q E h => ?_) (fun cdv A outer s H vs Q E hr h => ?_)
  · obtain ⟨p, s', e, rfl, _⟩ := h
    rfl
  obtain ⟨p, s', e, rfl, ⟨dx, n, sv, lb, lo, hp, hs⟩, ok, q⟩ := h
  obtain ⟨aL, mL, cL⟩ := N.loops
  obtain ⟨a, r, rfl, ha⟩ := sd_word hs
  refine ⟨_, (pss_one (ps_ret (pe_cmpR (show OpR _ _ (rIn K false) from op_in_seq) (pe_ix ix_tup (pe_fld (pv 0) rfl) pe_int (fun _ _ => rfl)) (pe_glob (v := .ref aL) (by rfl) mL rfl) (by rfl)))), ?_⟩
  refine ⟨_, rfl, p, C, dx, _, _, rfl, hp, T.cl, T.n2, rf_said, a, _, _, _, rfl, rfl, SqT.of ha, atI_nat (j := 0) rfl, aL, _, rfl, .inr (cL _), rfl, flat_strs' _, ?_⟩
  have := q H (Same.refl H)
  rw [show s'.isLoop = inV (.str s'.word) (loops.map V.str) from (inV_has _ _).symm] at this
  exact this
theorem sc61 : FnScope ["row"] ["row"] (defScope (top 61)) := ⟨rfl, rfl, rfl, by decide +kernel, rfl, by decide +kernel, by decide +kernel⟩
theorem ok_isWr {C : Addr} (F : Fun K "is_write" "is_write" (top 61) f fd) (T : RowT K mg C) : FnOk P w K mg base CX0 1 f fd ["row"] (spRB C Sd.isWr) := by
  refine F.ok sc61 (fun vs H Q E h => ?_) (fun cdv A outer s H vs Q E hr h => ?_)
  · obtain ⟨p, s', e, rfl, _⟩ := h
    rfl
  obtain ⟨p, s', e, rfl, ⟨dx, n, sv, lb, lo, hp, hs⟩, ok, q⟩ := h
  obtain ⟨a, r, rfl, ha⟩ := sd_word hs
  refine ⟨_, (pss_one (ps_ret (pe_cmpR (show OpR _ _ (rIn K false) from op_in_seq) (pe_ix ix_tup (pe_fld (pv 0) rfl) pe_int (fun _ _ => rfl)) (pe_tup (pa_cons pe_str (pa_cons pe_str pa_nil))) (by rfl)))), ?_⟩
  refine ⟨_, rfl, p, C, dx, _, _, rfl, hp, T.cl, T.n2, rf_said, a, _, _, _, rfl, rfl, SqT.of ha, atI_nat (j := 0) rfl, (by show 2 ≤ sizeLine; decide), fun t nt => ?_⟩
  refine ⟨t, [.str "write", .str "gets"], rfl, .inr (SqT.of upd_same), rfl, rfl, ?_⟩
  have := q _ (same_new nt (.tup [.str "write", .str "gets"]))
  rw [show s'.isWr = inV (.str s'.word) ((["write", "gets"] : List Str).map V.str) from (inV_has _ _).symm] at this
  exact this
theorem sd_read {H : Hp} {t : Str} {x : Ln.Tm} {v : V} (h : Is H (Sd.read t x).d v) : ∃ a y, v = .ref a ∧ H a = some (.tup [.str "read", .str t, y]) ∧ Is H x.d y := by
  obtain ⟨a, xs, rfl, ha, x1, r1, rfl, h1, x2, r2, rfl, h2, x3, r3, rfl, h3, h4⟩ := h
  cases (show x1 = V.str "read" from h1)
  cases (show x2 = V.str t from h2)
  cases (show r3 = [] from h4)
  exact ⟨a, x3, rfl, ha, h3⟩
theorem sd_not {s : Sd} (h : ¬ s.word = "read") : s.rdRoot = false ∧ s.rdLnk = false ∧ s.setsAt = false := by
  cases s with
  | read t x => exact absurd rfl h
  | _ => exact ⟨rfl, rfl, rfl⟩
theorem sc64 : FnScope ["row"] ["row"] (defScope (top 64)) := ⟨rfl, rfl, rfl, by decide +kernel, rfl, by decide +kernel, by decide +kernel⟩
theorem ok_setsAt {C : Addr} (F : Fun K "sets_at" "sets_at" (top 64) f fd) (T : RowT K mg C) : FnOk P w K mg base CX0 1 f fd ["row"] (spRB C Sd.setsAt) := by
  refine F.ok sc64 (fun vs H Q E h => ?_) (fun cdv A outer s H vs Q E hr h => ?_)
  · obtain ⟨p, s', e, rfl, _⟩ := h
    rfl
  obtain ⟨p, s', e, rfl, ⟨dx, n, sv, lb, lo, hp, hs⟩, ok, q⟩ := h
  obtain ⟨a, r, rfl, ha⟩ := sd_word hs
  refine ⟨_, (pss_one (ps_ret (pe_and (pe_cmpR op_eq (pe_ix ix_tup (pe_fld (pv 0) rfl) pe_int (fun _ _ => rfl)) pe_str (nomark _)) (pe_one (pe_cmpR op_eq (pe_ix ix_tup (pe_fld (pv 0) rfl) pe_int (fun _ _ => rfl)) pe_str (nomark _)))))), ?_⟩
  refine ⟨_, rfl, p, C, dx, _, _, rfl, hp, T.cl, T.n2, rf_said, a, _, _, _, rfl, rfl, SqT.of ha, atI_nat (j := 0) rfl, rfl, _, rfl, ?_⟩
  rw [dec_str]
  refine if2 (fun c => ?_) (fun c => ?_)
  · obtain ⟨t, x, rfl⟩ := ok.read (of_decide_eq_true c)
    obtain ⟨a2, y, e2, ha2, hx⟩ := sd_read hs
    cases e2
    refine ⟨_, rfl, p, C, dx, _, _, rfl, hp, T.cl, T.n2, rf_said, a, _, _, _, rfl, rfl, SqT.of ha2, atI_nat (j := 1) rfl, rfl, ?_⟩
    rw [dec_str]
    exact q H (Same.refl H)
  · have := q H (Same.refl H)
    rw [show s'.setsAt = false from (sd_not (of_decide_eq_false c)).2.2] at this
    exact this
theorem sc59 : FnScope ["row"] ["row"] (defScope (top 59)) := ⟨rfl, rfl, rfl, by decide +kernel, rfl, by decide +kernel, by decide +kernel⟩
theorem ok_rdRoot {C : Addr} (F : Fun K "reads_root" "reads_root" (top 59) f fd) (T : RowT K mg C) : FnOk P w K mg base CX0 1 f fd ["row"] (spRB C Sd.rdRoot) := by
  refine F.ok sc59 (fun vs H Q E h => ?_) (fun cdv A outer s H vs Q E hr h => ?_)
  · obtain ⟨p, s', e, rfl, _⟩ := h
    rfl
  obtain ⟨p, s', e, rfl, ⟨dx, n, sv, lb, lo, hp, hs⟩, ok, q⟩ := h
  obtain ⟨a, r, rfl, ha⟩ := sd_word hs
  have hu64 : (A.deeper (envOfC "reads_root" (defScope (top 59)) s.heap.objs.size f cdv)).units + 64 < cLine := by have := hr.un; omega
  refine ⟨_, (pss_one (ps_ret (pe_and (pe_cmpR op_eq (pe_ix ix_tup (pe_fld (pv 0) rfl) pe_int (fun _ _ => rfl)) pe_str (nomark _)) (pe_one (pe_cmpR (op_eqD hu64) (pe_ix ix_tup (pe_fld (pv 0) rfl) pe_int (fun _ _ => rfl)) (pe_tup (pa_cons pe_str (pa_cons pe_non pa_nil))) (nomark _)))))), ?_⟩
  refine ⟨_, rfl, p, C, dx, _, _, rfl, hp, T.cl, T.n2, rf_said, a, _, _, _, rfl, rfl, SqT.of ha, atI_nat (j := 0) rfl, rfl, _, rfl, ?_⟩
  rw [dec_str]
  refine if2 (fun c => ?_) (fun c => ?_)
  · obtain ⟨t, x, rfl⟩ := ok.read (of_decide_eq_true c)
    obtain ⟨a2, y, e2, ha2, hx⟩ := sd_read hs
    cases e2
    refine ⟨_, rfl, p, C, dx, _, _, rfl, hp, T.cl, T.n2, rf_said, a, _, _, _, rfl, rfl, SqT.of ha2, atI_nat (j := 2) rfl, (by show 2 ≤ sizeLine; decide), fun u nu => ?_⟩
    have s1 := same_new nu (.tup [.str "root", .non])
    have ok2 : PyData.strOk "root" = true := by decide +kernel
    refine ⟨x.py, (Ln.Tm.reg "root").py, tm_dp (hx.same s1), tm_dp ⟨u, _, rfl, upd_same, are2 rfl rfl⟩, ok.2.1, by simp [Ln.Tm.py, SeqAt.shaped, PyData.canLay0, PyData.canLayAll0, PyData.depth, PyData.depthAll, ok2], ?_⟩
    rw [tm_eqv]
    exact q _ s1
  · have := q H (Same.refl H)
    rw [show s'.rdRoot = false from (sd_not (of_decide_eq_false c)).1] at this
    exact this
theorem sc60 : FnScope ["row"] ["row"] (defScope (top 60)) := ⟨rfl, rfl, rfl, by decide +kernel, rfl, by decide +kernel, by decide +kernel⟩
theorem ok_rdLnk {C : Addr} (F : Fun K "reads_link" "reads_link" (top 60) f fd) (T : RowT K mg C) : FnOk P w K mg base CX0 1 f fd ["row"] (spRB C Sd.rdLnk) := by
  refine F.ok sc60 (fun vs H Q E h => ?_) (fun cdv A outer s H vs Q E hr h => ?_)
  · obtain ⟨p, s', e, rfl, _⟩ := h
    rfl
  obtain ⟨p, s', e, rfl, ⟨dx, n, sv, lb, lo, hp, hs⟩, ok, q⟩ := h
  obtain ⟨a, r, rfl, ha⟩ := sd_word hs
  refine ⟨_, (pss_one (ps_ret (pe_and (pe_cmpR op_eq (pe_ix ix_tup (pe_fld (pv 0) rfl) pe_int (fun _ _ => rfl)) pe_str (nomark _)) (pe_one (pe_cmpR op_notN (pe_ix ix_tup (pe_ix ix_tup (pe_fld (pv 0) rfl) pe_int (fun _ _ => rfl)) pe_int (fun _ _ => rfl)) pe_non (nomark _)))))), ?_⟩
  refine ⟨_, rfl, p, C, dx, _, _, rfl, hp, T.cl, T.n2, rf_said, a, _, _, _, rfl, rfl, SqT.of ha, atI_nat (j := 0) rfl, rfl, _, rfl, ?_⟩
  rw [dec_str]
  refine if2 (fun c => ?_) (fun c => ?_)
  · obtain ⟨t, x, rfl⟩ := ok.read (of_decide_eq_true c)
    obtain ⟨a2, y, e2, ha2, hx⟩ := sd_read hs
    cases e2
    have := q H (Same.refl H)
    cases x with
    | reg w1 =>
      obtain ⟨b, xs, rfl, hb, y1, r1, rfl, i1, y2, r2, rfl, i2, i3⟩ := hx
      cases (show y2 = V.non from i2)
      exact ⟨_, rfl, p, C, dx, _, _, rfl, hp, T.cl, T.n2, rf_said, a, _, _, _, rfl, rfl, SqT.of ha2, atI_nat (j := 2) rfl, b, _, _, _, rfl, rfl, SqT.of hb, atI_nat (j := 1) rfl, rfl, this⟩
    | link n1 l1 =>
      obtain ⟨b, xs, rfl, hb, y1, r1, rfl, i1, y2, r2, rfl, i2, i3⟩ := hx
      cases (show y2 = V.str l1 from i2)
      exact ⟨_, rfl, p, C, dx, _, _, rfl, hp, T.cl, T.n2, rf_said, a, _, _, _, rfl, rfl, SqT.of ha2, atI_nat (j := 2) rfl, b, _, _, _, rfl, rfl, SqT.of hb, atI_nat (j := 1) rfl, rfl, this⟩
  · have := q H (Same.refl H)
    rw [show s'.rdLnk = false from (sd_not (of_decide_eq_false c)).2.1] at this
    exact this
end
end K01
/-! The ways through rows, without a heap; rows and ways in the heap. -/
namespace Ln
open PySem PySem.Spec PyProof.Rows L2 Xc Dt
/-- a row by itself -/
structure R1 where
  n : Nat
  s : Sd
  b : Rws
  o : Rws
  e : Bool
def isOver (w : List R1) : Bool := match w.getLast? with
  | some r => decide (r.s.word = "quit")
  | none => false
def ext (ws br : List (List R1)) : List (List R1) := ws.flatMap fun w => if isOver w then [w] else br.map (w ++ ·)
def Rws.waysA : Rws → List (List R1) → List (List R1)
  | .nil, ws => ws
  | .cons n s b o e r, ws => r.waysA (ext ws (if s.word = "if" then (b.waysA [[]] ++ o.waysA [[]]).map (⟨n, s, b, o, e⟩ :: ·) else [[⟨n, s, b, o, e⟩]]))
def Rws.ways (b : Rws) : List (List R1) := b.waysA [[]]
def R1.brs (r : R1) : List (List R1) := if r.s.word = "if" then (r.b.ways ++ r.o.ways).map (r :: ·) else [[r]]
def R1.cif (r : R1) : Nat := if r.s.word = "if" then 1 + r.b.cif + r.o.cif else 0
/-- how many rows there are, also within one another -/
def Rws.tot : Rws → Nat
  | .nil => 0
  | .cons _ _ b o _ r => 1 + b.tot + o.tot + r.tot
def Rws.wf : Rws → Prop
  | .nil => True
  | .cons _ s b o _ r => s.ok ∧ b.wf ∧ o.wf ∧ r.wf
def R1.wf (r : R1) : Prop := r.s.ok ∧ r.b.wf ∧ r.o.wf
def Rws.rows : Rws → List R1
  | .nil => []
  | .cons n s b o e r => ⟨n, s, b, o, e⟩ :: r.rows
theorem ext_len {br : List (List R1)} (h : 1 ≤ br.length) : ∀ ws, (ext ws br).length ≤ ws.length * br.length
  | [] => by simp [ext]
  | w :: ws => by
    have ih := ext_len h ws
    have e : ext (w :: ws) br = (if isOver w then [w] else br.map (w ++ ·)) ++ ext ws br := by simp [ext]
    rw [e, List.length_append, List.length_cons, Nat.succ_mul]
    by_cases c : isOver w = true
    · rw [if_pos c]
      simp only [List.length_cons, List.length_nil]
      omega
    · rw [if_neg c, List.length_map]
      omega
theorem ext_ne {br : List (List R1)} (h : 1 ≤ br.length) {ws : List (List R1)} (hw : 1 ≤ ws.length) : 1 ≤ (ext ws br).length := by
  cases ws with
  | nil => cases hw
  | cons w ws =>
    have e : ext (w :: ws) br = (if isOver w then [w] else br.map (w ++ ·)) ++ ext ws br := by simp [ext]
    rw [e, List.length_append]
    by_cases c : isOver w = true
    · rw [if_pos c]
      simp only [List.length_cons, List.length_nil]
      omega
    · rw [if_neg c, List.length_map]
      omega
theorem ext_mem {ws br : List (List R1)} {m k : Nat} (h1 : ∀ w ∈ ws, w.length ≤ m) (h2 : ∀ w ∈ br, w.length ≤ k) : ∀ w ∈ ext ws br, w.length ≤ m + k := by
  intro w hw
  unfold ext at hw
  rw [List.mem_flatMap] at hw
  obtain ⟨v, hv, hw⟩ := hw
  by_cases c : isOver v = true
  · rw [if_pos c, List.mem_singleton] at hw
    have := h1 v hv
    rw [hw]
    omega
  · rw [if_neg c, List.mem_map] at hw
    obtain ⟨z, hz, rfl⟩ := hw
    have := h1 v hv
    have := h2 z hz
    rw [List.length_append]
    omega
theorem pow_add (x y : Nat) : 2 ^ x + 2 ^ y ≤ 2 ^ (1 + x + y) := by
  rw [Nat.pow_add, Nat.pow_add]
  have h1 : 1 ≤ 2 ^ x := Nat.one_le_two_pow
  have h2 : 1 ≤ 2 ^ y := Nat.one_le_two_pow
  have h3 : 2 ^ x ≤ 2 ^ x * 2 ^ y := Nat.le_mul_of_pos_right _ h2
  have h4 : 2 ^ y ≤ 2 ^ x * 2 ^ y := Nat.le_mul_of_pos_left _ h1
  have e : 2 ^ 1 * 2 ^ x * 2 ^ y = 2 * (2 ^ x * 2 ^ y) := by rw [Nat.mul_assoc]
  omega
theorem ways_bd : ∀ (b : Rws) (ws : List (List R1)), 1 ≤ ws.length → 1 ≤ (b.waysA ws).length ∧ (b.waysA ws).length ≤ ws.length * 2 ^ b.cif ∧ ∀ m, (∀ w ∈ ws, w.length ≤ m) → ∀ w ∈ b.waysA ws, w.length ≤ m + b.tot
  | .nil, ws, h => ⟨h, by show ws.length ≤ ws.length * 2 ^ 0; simp, fun m hm w hw => hm w hw⟩
  | .cons n s b o e r, ws, h => by
    have key : ∃ br : List (List R1), (Rws.cons n s b o e r).waysA ws = r.waysA (ext ws br) ∧ 1 ≤ br.length ∧ br.length ≤ 2 ^ (if s.word = "if" then 1 + b.cif + o.cif else 0) ∧ ∀ w ∈ br, w.length ≤ 1 + b.tot + o.tot := by
      refine ⟨_, rfl, ?_⟩
      by_cases c : s.word = "if"
      · rw [if_pos c, if_pos c]
        obtain ⟨b1, b2, b3⟩ := ways_bd b [[]] (Nat.le_refl 1)
        obtain ⟨o1, o2, o3⟩ := ways_bd o [[]] (Nat.le_refl 1)
        have := pow_add b.cif o.cif
        simp only [List.length_cons, List.length_nil, Nat.zero_add, Nat.one_mul] at b2 o2
        rw [List.length_map, List.length_append]
        refine ⟨by omega, by omega, fun w hw => ?_⟩
        rw [List.mem_map] at hw
        obtain ⟨z, hz, rfl⟩ := hw
        rw [List.length_cons]
        rw [List.mem_append] at hz
        rcases hz with hz | hz
        · have := b3 0 (by simp) z hz
          omega
        · have := o3 0 (by simp) z hz
          omega
      · rw [if_neg c, if_neg c]
        refine ⟨Nat.le_refl _, Nat.le_refl _, fun w hw => ?_⟩
        rw [List.mem_singleton] at hw
        rw [hw]
        simp only [List.length_cons, List.length_nil]
        omega
    obtain ⟨br, e1, h1, h2, h3⟩ := key
    rw [e1]
    obtain ⟨i1, i2, i3⟩ := ways_bd r (ext ws br) (ext_ne h1 h)
    refine ⟨i1, ?_, fun m hm w hw => ?_⟩
    · have l1 := ext_len h1 ws
      show _ ≤ ws.length * 2 ^ ((if s.word = "if" then 1 + b.cif + o.cif else 0) + r.cif)
      rw [Nat.pow_add, ← Nat.mul_assoc]
      refine Nat.le_trans i2 (Nat.mul_le_mul_right _ (Nat.le_trans l1 (Nat.mul_le_mul_left _ h2)))
    · have := i3 (m + (1 + b.tot + o.tot)) (ext_mem hm h3) w hw
      show w.length ≤ m + (1 + b.tot + o.tot + r.tot)
      omega
theorem brs_bd (r : R1) : 1 ≤ r.brs.length ∧ r.brs.length ≤ 2 ^ r.cif ∧ ∀ w ∈ r.brs, w.length ≤ 1 + r.b.tot + r.o.tot := by
  unfold R1.brs R1.cif
  by_cases c : r.s.word = "if"
  · rw [if_pos c, if_pos c]
    obtain ⟨b1, b2, b3⟩ := ways_bd r.b [[]] (Nat.le_refl 1)
    obtain ⟨o1, o2, o3⟩ := ways_bd r.o [[]] (Nat.le_refl 1)
    have := pow_add r.b.cif r.o.cif
    simp only [List.length_cons, List.length_nil, Nat.zero_add, Nat.one_mul] at b2 o2
    rw [List.length_map, List.length_append]
    refine ⟨by unfold Rws.ways; omega, by unfold Rws.ways; omega, fun w hw => ?_⟩
    rw [List.mem_map] at hw
    obtain ⟨z, hz, rfl⟩ := hw
    rw [List.length_cons]
    rw [List.mem_append] at hz
    rcases hz with hz | hz
    · have := b3 0 (by simp) z hz
      omega
    · have := o3 0 (by simp) z hz
      omega
  · rw [if_neg c, if_neg c]
    refine ⟨Nat.le_refl _, Nat.le_refl _, fun w hw => ?_⟩
    rw [List.mem_singleton] at hw
    rw [hw]
    simp only [List.length_cons, List.length_nil]
    omega
/-! ### in the heap -/
def RowAt (C : Addr) (H : Hp) (r : R1) (v : V) : Prop := ∃ (p dx : Addr) (sv : V) (lb lo : Addr) (xb xo : List V), v = .ref p ∧ H p = some (.ins C dx (rowF r.n sv lb lo r.e)) ∧ Is H r.s.d sv ∧ H lb = some (.lst xb) ∧ IsBlk C (fun _ => True) H r.b xb ∧ H lo = some (.lst xo) ∧ IsBlk C (fun _ => True) H r.o xo
theorem RowAt.same {C : Addr} {H H' : Hp} {r : R1} {v : V} (h : RowAt C H r v) (s : Same H H') : RowAt C H' r v := by
  obtain ⟨p, dx, sv, lb, lo, xb, xo, rfl, h1, h2, h3, h4, h5, h6⟩ := h
  exact ⟨p, dx, sv, lb, lo, xb, xo, rfl, s _ _ h1, h2.same s, s _ _ h3, h4.same s, s _ _ h5, h6.same s⟩
theorem IsBlk.rows {C : Addr} {H : Hp} : ∀ {b : Rws} {vs : List V}, IsBlk C (fun _ => True) H b vs → Paired (RowAt C H) b.rows vs
  | .nil, _, h => by rw [show _ = [] from h]; exact .nil
  | .cons .., _, h => by
    obtain ⟨p, dx, sv, lb, lo, xb, xo, vr, rfl, _, h1, h2, h3, h4, h5, h6, h7⟩ := h
    exact .cons ⟨p, dx, sv, lb, lo, xb, xo, rfl, h1, h2, h3, h4, h5, h6⟩ h7.rows
theorem RowAt.head {C : Addr} {H : Hp} {r : R1} {v : V} (h : RowAt C H r v) : ∃ p, v = .ref p ∧ K01.HeadAt C H (r.s, r.e) p := by
  obtain ⟨p, dx, sv, lb, lo, xb, xo, rfl, h1, h2, h3, h4, h5, h6⟩ := h
  exact ⟨p, rfl, dx, r.n, sv, lb, lo, h1, h2⟩
/-- a list of rows at an address that is not among X and was free in H0; the rows as they stood in Hb -/
def WayX (X : List Addr) (H0 : Hp) (C : Addr) (Hb H : Hp) (w : List R1) (v : V) : Prop := ∃ a xs, v = .ref a ∧ (a ∉ X ∧ H0 a = none) ∧ H a = some (.lst xs) ∧ Paired (RowAt C Hb) w xs
theorem WayX.kp {X : List Addr} {C : Addr} {H0 Hb H H' : Hp} {w : List R1} {v : V} (h : WayX X H0 C Hb H w v) (k : Kp X H H') : WayX X H0 C Hb H' w v := by
  obtain ⟨a, xs, rfl, n, e, p⟩ := h
  exact ⟨a, xs, rfl, n, k _ _ n.1 e, p⟩
theorem WayX.up {X : List Addr} {C : Addr} {H0 Hb Hb' H H' : Hp} {w : List R1} {v : V} (h : WayX X H0 C Hb H w v) (s : Same Hb Hb') (t : Same H H') : WayX X H0 C Hb' H' w v := by
  obtain ⟨a, xs, rfl, n, e, p⟩ := h
  exact ⟨a, xs, rfl, n, t _ _ e, Paired.mapP p fun _ _ r => r.same s⟩
theorem WayX.low {X : List Addr} {C : Addr} {H0 H1 Hb H : Hp} {w : List R1} {v : V} (h : WayX X H1 C Hb H w v) (s : Same H0 H1) : WayX X H0 C Hb H w v := by
  obtain ⟨a, xs, rfl, n, e, p⟩ := h
  exact ⟨a, xs, rfl, ⟨n.1, s.free n.2⟩, e, p⟩
end Ln
namespace K01
open PySem PySem.Spec PyProof.Rows L2 Xc Dt Ln Eo
theorem pair_snoc {α β : Type} {R : α → β → Prop} {as : List α} {bs : List β} (h : Paired R as bs) {a : α} {b : β} (r : R a b) : Paired R (as ++ [a]) (bs ++ [b]) := by
  induction h with
  | nil => exact .cons r .nil
  | cons r' _ ih => exact .cons r' ih
theorem pair_app {α β : Type} {R : α → β → Prop} {as cs : List α} {bs ds : List β} (h : Paired R as bs) (k : Paired R cs ds) : Paired R (as ++ cs) (bs ++ ds) := by
  induction h with
  | nil => exact k
  | cons r' _ ih => exact .cons r' ih
theorem pair_last {α β : Type} {R : α → β → Prop} {as : List α} {bs : List β} (h : Paired R as bs) : (as = [] ∧ bs = []) ∨ ∃ as' a bs' b, as = as' ++ [a] ∧ bs = bs' ++ [b] ∧ R a b := by
  induction h with
  | nil => exact .inl ⟨rfl, rfl⟩
  | @cons a b as bs r _ ih =>
    rcases ih with ⟨rfl, rfl⟩ | ⟨as', a', bs', b', rfl, rfl, r'⟩
    · exact .inr ⟨[], a, [], b, rfl, rfl, r⟩
    · exact .inr ⟨a :: as', a', b :: bs', b', rfl, rfl, r'⟩
section
variable {P : Program} {w : World} {K : PySem.W.Frag} {mg : Str → Option Value} {base : Heap} {f : Addr} {fd : FuncData}
def spOver (C : Addr) : Sp := fun vs H Q _ => ∃ (a : Addr) (way : List R1) (xs : List V), vs = [.ref a] ∧ H a = some (.lst xs) ∧ (∃ Hb, Same Hb H ∧ Paired (RowAt C Hb) way xs) ∧ Q (.bl (isOver way)) H
theorem sc55 : FnScope ["way"] ["way"] (defScope (top 55)) := ⟨rfl, rfl, rfl, by decide +kernel, rfl, by decide +kernel, by decide +kernel⟩
theorem ok_over {C : Addr} (F : Fun K "is_over" "is_over" (top 55) f fd) (N : Nb mg) (T : RowT K mg C) : FnOk P w K mg base CX0 1 f fd ["way"] (spOver C) := by
  refine F.ok sc55 (fun vs H Q E h => ?_) (fun cdv A outer s H vs Q E hr h => ?_)
  · obtain ⟨a, way, xs, rfl, _⟩ := h
    rfl
  obtain ⟨a, way, xs, rfl, ha, ⟨Hb, sb, hp⟩, q⟩ := h
  refine ⟨_, (pss_one (ps_ret (pe_and (pe_callTy call_boolL (by rfl) N.bool (by decide +kernel) (pa_cons (pv 0) pa_nil)) (pe_one (pe_cmpR op_eq (pe_ix ix_tup (pe_fld (pe_ix (show IxR _ (rIxL K) from ix_list) (pv 0) (pe_un un_neg pe_int) (fun _ _ => rfl)) rfl) pe_int (fun _ _ => rfl)) pe_str (nomark _)))))), ?_⟩
  refine ⟨_, rfl, a, _, rfl, SqL.of ha, _, rfl, ?_⟩
  rcases pair_last hp with ⟨rfl, rfl⟩ | ⟨as', r, bs', v, rfl, rfl, hr'⟩
  · exact ifF rfl q
  · refine ifT (by simp) ?_
    obtain ⟨p, rfl, dx, n, sv, lb, lo, h1, h2⟩ := (hr'.same sb).head
    obtain ⟨c, r2, rfl, hc⟩ := sd_word h2
    refine ⟨_, rfl, _, rfl, a, _, _, _, rfl, rfl, SqL.of ha, atI_last _ _, p, C, dx, _, _, rfl, h1, T.cl, T.n2, rf_said, c, _, _, _, rfl, rfl, SqT.of hc, atI_nat (j := 0) rfl, rfl, ?_⟩
    rw [dec_str]
    have e : isOver (as' ++ [r]) = decide (r.s.word = "quit") := by
      unfold isOver
      rw [List.getLast?_concat]
    rw [e] at q
    exact q
def spBr (C : Addr) (n : Nat) : Sp := fun vs H Q _ => ∃ (Hb : Hp) (r : R1) (v : V), vs = [v] ∧ Same Hb H ∧ RowAt C Hb r v ∧ max r.b.dep r.o.dep < n ∧ r.cif ≤ 7 ∧ 1 + r.b.tot + r.o.tot ≤ 3000 ∧
  ∀ (a : Addr) (xs : List V) (H' : Hp), Same H H' → H' a = some (.lst xs) → Paired (WayX [] H C Hb H') r.brs xs → Q (.ref a) H'
def spWays (C : Addr) (n : Nat) : Sp := fun vs H Q _ => ∃ (Hb : Hp) (L : Addr) (b : Rws) (ys : List V), vs = [.ref L] ∧ Same Hb H ∧ Hb L = some (.lst ys) ∧ IsBlk C (fun _ => True) Hb b ys ∧ b.dep < n ∧ b.cif ≤ 7 ∧ b.tot ≤ 3000 ∧
  ∀ (a : Addr) (xs : List V) (H' : Hp), Same H H' → H a = none → H' a = some (.lst xs) → Paired (WayX [] H C Hb H') b.ways xs → Q (.ref a) H'
theorem sc54 : FnScope ["row", "way"] ["row"] (defScope (top 54)) := ⟨rfl, rfl, rfl, by decide +kernel, rfl, by decide +kernel, by decide +kernel⟩
theorem br_step {C gW : Addr} {dW : FuncData} {n : Nat} (F : Fun K "branches_of" "branches_of" (top 54) f fd) (T : RowT K mg C) (GW : FnOk P w K mg base CX0 (2 * n) gW dW ["block"] (spWays C n)) (bGW : Binds K dW ["block"] []) (kGW : PySem.W.keepIn K (.ref gW) = true) (mGW : mg "ways_through" = some (.ref gW)) :
    FnOk P w K mg base CX0 (2 * n + 1) f fd ["row"] (spBr C n) := by
  refine F.ok sc54 (fun vs H Q E h => ?_) (fun cdv A outer s H vs Q E hr h => ?_)
  · obtain ⟨Hb, r, v, rfl, _⟩ := h
    rfl
  obtain ⟨Hb, r, v, rfl, sb, hrow, hd, hc, ht, q⟩ := h
  have sz1 : 1 ≤ sizeLine := by decide
  refine ⟨_, (pss_cons (ps_if (pt_cmpR op_ne (pe_ix ix_tup (pe_fld (pv 0) rfl) pe_int (fun _ _ => rfl)) pe_str (nomark _))
  (pss_one (ps_ret (pe_lst (pa_cons (pe_lst (pa_cons (pv 0) pa_nil)) pa_nil))))
  pss_nil)
  (pss_one (ps_ret (pe_lc (own := [("way", 1)]) (g := (gName 1)) (tt := tYes) rfl sc54.nd (pi_list (pe_op op_cat (pe_call GW hr rfl mGW kGW bGW .nil pass0 (pa_cons (pe_fld (pv 0) rfl) pa_nil)) (pe_call GW hr rfl mGW kGW bGW .nil pass0 (pa_cons (pe_fld (pv 0) rfl) pa_nil)))) (blkOk_by (N := ["row", "way"]) (sc := defScope (top 54)) (by decide +kernel)) (fun _ _ _ _ _ => (pg_name (i := 1) sc54.nd rfl (.inl rfl))) (fun _ _ _ _ _ => pts_nil) (fun _ _ _ _ _ => (pe_op op_cat (pe_lst (pa_cons (pv 0) pa_nil)) (pv 1))))))), ?_⟩
  have hrow0 := hrow
  obtain ⟨p, dx, sv, lb, lo, xb, xo, rfl, hp, hs, hb, ib, ho, io⟩ := hrow
  obtain ⟨a, r2, rfl, ha⟩ := sd_word hs
  refine ⟨_, rfl, p, C, dx, _, _, rfl, sb _ _ hp, T.cl, T.n2, rf_said, a, _, _, _, rfl, rfl, SqT.of (sb _ _ ha), atI_nat (j := 0) rfl, rfl, _, rfl, ?_⟩
  rw [dec_str]
  by_cases c : r.s.word = "if"
  · have eb : r.brs = (r.b.ways ++ r.o.ways).map (r :: ·) := by unfold R1.brs; rw [if_pos c]
    have ec : 1 + r.b.cif + r.o.cif ≤ 7 := by unfold R1.cif at hc; rw [if_pos c] at hc; exact hc
    rw [eb] at q
    rw [decide_eq_true c]
    refine ifF rfl ?_
    refine ⟨_, rfl, p, C, dx, _, _, rfl, sb _ _ hp, T.cl, T.n3, rf_body, Hb, lb, r.b, xb, rfl, sb, hb, ib, by omega, by omega, by omega, fun a1 xs1 H1 s1 _ h1 w1 => ?_⟩
    refine ⟨_, rfl, p, C, dx, _, _, rfl, s1 _ _ (sb _ _ hp), T.cl, T.n4, rf_other, Hb, lo, r.o, xo, rfl, sb.trans s1, ho, io, by omega, by omega, by omega, fun a2 xs2 H2 s2 _ h2 w2 => ?_⟩
    obtain ⟨b1, b2, b3⟩ := ways_bd r.b [[]] (Nat.le_refl 1)
    obtain ⟨o1, o2, o3⟩ := ways_bd r.o [[]] (Nat.le_refl 1)
    have p7 : ∀ x, x ≤ 7 → 2 ^ x ≤ 128 := fun x hx => Nat.le_trans (Nat.pow_le_pow_right (by decide) hx) (by decide)
    have pb := p7 r.b.cif (by omega)
    have po := p7 r.o.cif (by omega)
    simp only [List.length_cons, List.length_nil, Nat.zero_add, Nat.one_mul] at b2 o2
    have l1 : xs1.length = r.b.ways.length := w1.length.symm
    have l2 : xs2.length = r.o.ways.length := w2.length.symm
    have l1 : xs1.length ≤ 128 := by rw [l1]; exact Nat.le_trans b2 pb
    have l2 : xs2.length ≤ 128 := by rw [l2]; exact Nat.le_trans o2 po
    refine ⟨a1, a2, xs1, xs2, rfl, rfl, s2 _ _ h1, h2, (by rw [sizeLine_eq]; omega), fun l nl => ?_⟩
    have u3 := same_new nl (.lst (xs1 ++ xs2))
    have m3 : (upd H2 l (.lst (xs1 ++ xs2))) l = some (.lst (xs1 ++ xs2)) := upd_same
    generalize upd H2 l (.lst (xs1 ++ xs2)) = H3 at u3 m3 ⊢
    have s3 := (s1.trans s2).trans u3
    have w3 : Paired (WayX [] H C Hb H3) (r.b.ways ++ r.o.ways) (xs1 ++ xs2) := pair_app (Paired.mapP w1 fun _ _ z => z.up (Same.refl _) (s2.trans u3)) (Paired.mapP w2 fun _ _ z => (z.low s1).up (Same.refl _) u3)
    have wl : ∀ way ∈ r.b.ways ++ r.o.ways, way.length ≤ 2999 := fun way hw => by
      rcases List.mem_append.mp hw with hw | hw
      · have := b3 0 (by simp) way hw; omega
      · have := o3 0 (by simp) way hw; omega
    have lwv : (xs1 ++ xs2).length ≤ 256 := by rw [List.length_append]; omega
    generalize r.b.ways ++ r.o.ways = ws at w3 wl q
    generalize xs1 ++ xs2 = wvs at m3 w3 lwv
    have lw : wvs.length = ws.length := w3.length.symm
    have hrow3 := hrow0
    refine ⟨l, rfl, ⟨_, SqL.of m3⟩, fun D nD => lc_list (K := K) (a := l) (xs := wvs) (fun i Hc => ∃ zs, Hc D = some (.lst zs) ∧ Paired (WayX [D] H C Hb Hc) ((ws.take i).map (r :: ·)) zs ∧ Same H3 Hc)
      ⟨[], upd_same, .nil, same_new nD _⟩ (fun i Hc _ h => by obtain ⟨_, _, _, sm⟩ := h; exact SqL.of (sm _ _ m3)) ?_ ?_⟩
    · rintro i x Hc hi ⟨zs, hz, hzs, sc⟩
      obtain ⟨way, hw, aw, xsw, rfl, _, haw, pw⟩ := paired_at w3 hi
      have hil : i < ws.length := (List.getElem?_eq_some_iff.mp hw).1
      have hx := wl way (List.mem_of_getElem? hw)
      have lx : xsw.length = way.length := pw.length.symm
      refine ⟨rfl, _, rfl, sz1, fun l1 nl1 => ?_⟩
      have v1 := same_new nl1 (.lst [.ref p])
      have k1 : (upd Hc l1 (.lst [.ref p])) l1 = some (.lst [.ref p]) := upd_same
      generalize upd Hc l1 (.lst [.ref p]) = H5 at v1 k1 ⊢
      refine ⟨_, rfl, l1, aw, [.ref p], xsw, rfl, rfl, k1, v1 _ _ (sc _ _ haw), (by rw [sizeLine_eq]; simp only [List.length_cons, List.length_nil]; omega), fun l2 nl2 => ?_⟩
      have v2 := same_new nl2 (.lst ([.ref p] ++ xsw))
      have k2 : (upd H5 l2 (.lst ([.ref p] ++ xsw))) l2 = some (.lst ([.ref p] ++ xsw)) := upd_same
      have hz5 := v1 _ _ hz
      have hD2 : l2 ≠ D := fun z => by rw [z, hz5] at nl2; cases nl2
      generalize upd H5 l2 (.lst ([.ref p] ++ xsw)) = H6 at v2 k2 ⊢
      have s6 := v1.trans v2
      have hz6 := s6 _ _ hz
      have lz : zs.length ≤ i := by rw [← hzs.length, List.length_map, List.length_take]; exact Nat.min_le_left _ _
      have li : i < wvs.length := (List.getElem?_eq_some_iff.mp hi).1
      refine ⟨zs, hz6, (by rw [sizeLine_eq]; omega), zs ++ [.ref l2], upd_same, ?_, fun x o e => ?_⟩
      · rw [take_snoc hw, List.map_append]
        have kD : Kp [D] Hc (upd H6 D (.lst (zs ++ [.ref l2]))) := fun x o hx e => by
          rw [upd_ne (by simpa using hx)]
          exact s6 _ _ e
        refine pair_snoc (Paired.mapP hzs fun _ _ z => z.kp kD) ⟨l2, _, rfl, ⟨by simpa using hD2, ((s3.trans sc).trans v1).free nl2⟩, ?_, .cons hrow3 pw⟩
        rw [upd_ne hD2]
        exact k2
      · rw [upd_ne (ne_of_none e nD)]
        exact s6 _ _ (sc _ _ e)
    · rintro Hd ⟨zs, hz, hzs, sd⟩
      rw [lw, List.take_length] at hzs
      exact q D zs Hd (s3.trans sd) hz (Paired.mapP hzs fun _ _ ⟨a, xs, e, n, h, pr⟩ => ⟨a, xs, e, ⟨by simp, n.2⟩, h, pr⟩)
  · have eb : r.brs = [[r]] := by unfold R1.brs; rw [if_neg c]
    rw [eb] at q
    rw [decide_eq_false c]
    refine ifT rfl ⟨_, rfl, sz1, fun l1 nl1 => ?_⟩
    have v1 := same_new nl1 (.lst [.ref p])
    have k1 : (upd H l1 (.lst [.ref p])) l1 = some (.lst [.ref p]) := upd_same
    generalize upd H l1 (.lst [.ref p]) = H5 at v1 k1 ⊢
    refine ⟨sz1, fun l2 nl2 => ?_⟩
    have v2 := same_new nl2 (.lst [.ref l1])
    exact q l2 [.ref l1] _ (v1.trans v2) upd_same (.cons ⟨l1, _, rfl, ⟨by simp, nl1⟩, v2 _ _ k1, .cons hrow0 .nil⟩ .nil)
theorem sc53 : FnScope ["block", "ways", "row", "branches", "longer", "way", "branch"] ["block"] (defScope (top 53)) := ⟨rfl, rfl, rfl, by decide +kernel, rfl, by decide +kernel, by decide +kernel⟩
theorem ways_none {C : Addr} : FnOk P w K mg base CX0 0 f fd ["block"] (spWays C 0) := by
  have no : ∀ vs H Q E, ¬ spWays C 0 vs H Q E := by
    rintro vs H Q E ⟨Hb, L, b, xs, _, _, _, _, h, _⟩
    exact absurd h (Nat.not_lt_zero _)
  exact ⟨fun vs H Q E h => absurd h (no vs H Q E), fun A outer s H args us vs Q E _ _ _ _ h => absurd h (no vs H Q E)⟩
theorem ways_step {C gB gO : Addr} {dB dO : FuncData} {n : Nat} (F : Fun K "ways_through" "ways_through" (top 53) f fd) (T : RowT K mg C) (GB : FnOk P w K mg base CX0 (2 * n + 1) gB dB ["row"] (spBr C n)) (bGB : Binds K dB ["row"] []) (kGB : PySem.W.keepIn K (.ref gB) = true) (mGB : mg "branches_of" = some (.ref gB))
    (GO : FnOk P w K mg base CX0 1 gO dO ["way"] (spOver C)) (bGO : Binds K dO ["way"] []) (kGO : PySem.W.keepIn K (.ref gO) = true) (mGO : mg "is_over" = some (.ref gO)) :
    FnOk P w K mg base CX0 (2 * (n + 1)) f fd ["block"] (spWays C (n + 1)) := by
  refine F.ok sc53 (fun vs H Q E h => ?_) (fun cdv A outer s H vs Q E hr h => ?_)
  · obtain ⟨Hb, L, b, xs, rfl, _⟩ := h
    rfl
  obtain ⟨Hb, L, b, ys, rfl, sb, hL, ib, hd, hc, ht, q⟩ := h
  have r1 : Room 1 (A.deeper (envOfC "ways_through" (defScope (top 53)) s.heap.objs.size f cdv)) := hr.mono (by omega)
  have sz0 : 0 ≤ sizeLine := by decide
  have sz1 : 1 ≤ sizeLine := by decide
  refine ⟨_, (pss_cons (ps_set (i := 1) sc53.nd rfl (.inl rfl) (pe_lst (pa_cons (pe_lst pa_nil) pa_nil)))
  (pss_cons (ps_for PassesOwn.never rfl (pi_list (pv 0)) (pg_name (i := 2) sc53.nd rfl (.inl rfl))
  (pss_cons (ps_set (i := 3) sc53.nd rfl (.inl rfl) (pe_call GB hr rfl mGB kGB bGB .nil pass0 (pa_cons (pv 2) pa_nil)))
    (pss_cons (ps_set (i := 4) sc53.nd rfl (.inl rfl) (pe_lst pa_nil))
    (pss_cons (ps_for PassesOwn.never rfl (pi_list (pv 1)) (pg_name (i := 5) sc53.nd rfl (.inr rfl))
    (pss_one (ps_if (pt_val (pe_call GO r1 rfl mGO kGO bGO .nil pass0 (pa_cons (pv 5) pa_nil)))
      (pss_one (ps_expr (pe_bm PySem.F.plainAttrs_list PySem.F.slot_list_append PySem.F.type_list_append mt_append (pv 4) (pa_cons (pv 5) pa_nil))))
      (pss_one (ps_expr (pe_bm PySem.F.plainAttrs_list PySem.F.slot_list_extend PySem.F.type_list_extend mt_extend (pv 4) (pa_cons (pe_lc (own := [("branch", 6)]) (g := (gName 6)) (tt := tYes) rfl sc53.nd (pi_list (pv 3)) (blkOk_by (N := ["block", "ways", "row", "branches", "longer", "way", "branch"]) (sc := defScope (top 53)) (by decide +kernel)) (fun _ _ _ _ _ => (pg_name (i := 6) sc53.nd rfl (.inl rfl))) (fun _ _ _ _ _ => pts_nil) (fun _ _ _ _ _ => (pe_op op_cat (pv 5) (pv 6)))) pa_nil)))))))
    (pss_one (ps_set (i := 1) sc53.nd rfl (.inl rfl) (pv 4)))))))
  (pss_one (ps_ret (pv 1))))), ?_⟩
  refine ⟨sz0, fun l0 nl0 => ?_⟩
  have u1 := same_new nl0 (.lst [])
  have m1 : (upd H l0 (.lst [])) l0 = some (.lst []) := upd_same
  generalize upd H l0 (.lst []) = H1 at u1 m1 ⊢
  refine ⟨sz1, fun wA0 nw0 => ?_⟩
  have u2 := same_new nw0 (.lst [.ref l0])
  have m2 : (upd H1 wA0 (.lst [.ref l0])) wA0 = some (.lst [.ref l0]) := upd_same
  generalize upd H1 wA0 (.lst [.ref l0]) = H2 at u2 m2 ⊢
  have s2 := u1.trans u2
  have p7 : 2 ^ b.cif ≤ 128 := Nat.le_trans (Nat.pow_le_pow_right (by decide) hc) (by decide)
  refine ⟨_, rfl, L, rfl, ⟨_, SqL.of (s2 _ _ (sb _ _ hL))⟩, for_list (K := K) (a := L) (xs := ys) (fun i σ H' => ∃ (wA : Addr) (wvs : List V) (ws : List (List R1)) (b' : Rws) (v2 v3 v4 v5 v6 : Option V), σ = [some (.ref L), some (.ref wA), v2, v3, v4, v5, v6] ∧ H wA = none ∧ H' wA = some (.lst wvs) ∧ Paired (WayX [] H C Hb H') ws wvs ∧ Same H H' ∧
      IsBlk C (fun _ => True) Hb b' (ys.drop i) ∧ b'.waysA ws = b.ways ∧ 1 ≤ ws.length ∧ ws.length * 2 ^ b'.cif ≤ 128 ∧ (∀ way ∈ ws, way.length + b'.tot ≤ 3000) ∧ b'.dep ≤ b.dep ∧ b'.cif ≤ b.cif ∧ b'.tot ≤ b.tot)
    ⟨wA0, _, [[]], b, none, none, none, none, none, rfl, u1.free nw0, m2, .cons ⟨l0, [], rfl, ⟨by simp, nl0⟩, u2 _ _ m1, .nil⟩ .nil, s2, ib, rfl, Nat.le_refl _, by simpa using p7, by simpa using ht, Nat.le_refl _, Nat.le_refl _, Nat.le_refl _⟩
    (fun i σ H' _ h => by obtain ⟨wA, wvs, ws, b', v2, v3, v4, v5, v6, _, _, _, _, sm, _⟩ := h; exact SqL.of (sm _ _ (sb _ _ hL))) ?_ ?_⟩
  · rintro i y σ H' hi ⟨wA, wvs, ws, b', v2, v3, v4, v5, v6, rfl, nwA, hwA, hws, sm, ib', eb, hn, hcount, hlen, hd', hc', ht'⟩
    rw [drop_cons hi] at ib'
    obtain ⟨n', s', bb, oo, e, b'', p, dx, sv, lb, lo, xb, xo, rfl, rfl, hp, hs, hb, ibb, ho, ioo, ib''⟩ := ib'.uncons
    have hrow : RowAt C Hb ⟨n', s', bb, oo, e⟩ (.ref p) := ⟨p, dx, sv, lb, lo, xb, xo, rfl, hp, hs, hb, ibb, ho, ioo⟩
    have hdd : max (1 + max bb.dep oo.dep) b''.dep ≤ b.dep := hd'
    have hcc : (R1.mk n' s' bb oo e).cif + b''.cif ≤ b.cif := hc'
    have htt : 1 + bb.tot + oo.tot + b''.tot ≤ b.tot := ht'
    have hlen : ∀ way ∈ ws, way.length + (1 + bb.tot + oo.tot + b''.tot) ≤ 3000 := hlen
    have hcount : ws.length * 2 ^ ((R1.mk n' s' bb oo e).cif + b''.cif) ≤ 128 := hcount
    have eb : b''.waysA (ext ws (R1.mk n' s' bb oo e).brs) = b.ways := eb
    refine ⟨_, rfl, Hb, ⟨n', s', bb, oo, e⟩, .ref p, rfl, sb.trans sm, hrow, (by show max bb.dep oo.dep < n; omega), (by omega), (by show 1 + bb.tot + oo.tot ≤ 3000; omega), fun bA bvs H3 s3 hbA hbr => ?_⟩
    obtain ⟨k1, k2, k3⟩ := brs_bd ⟨n', s', bb, oo, e⟩
    have k3 : ∀ way ∈ (R1.mk n' s' bb oo e).brs, way.length ≤ 1 + bb.tot + oo.tot := k3
    have hbr : Paired (WayX [] H C Hb H3) (R1.mk n' s' bb oo e).brs bvs := Paired.mapP hbr fun _ _ z => z.low sm
    generalize (R1.mk n' s' bb oo e).brs = br at k1 k2 k3 hbr eb
    generalize (R1.mk n' s' bb oo e).cif = cr at hcc hcount k2
    have hws3 : Paired (WayX [] H C Hb H3) ws wvs := Paired.mapP hws fun _ _ z => z.up (Same.refl _) s3
    have hwA3 := s3 _ _ hwA
    have lw : wvs.length = ws.length := hws3.length.symm
    have lbr : bvs.length = br.length := hbr.length.symm
    have bnd : ws.length * br.length * 2 ^ b''.cif ≤ 128 := by
      rw [Nat.pow_add, ← Nat.mul_assoc] at hcount
      exact Nat.le_trans (Nat.mul_le_mul_right _ (Nat.mul_le_mul_left _ k2)) hcount
    have bnd1 : ws.length * br.length ≤ 128 := Nat.le_trans (Nat.le_mul_of_pos_right _ Nat.one_le_two_pow) bnd
    have bnd2 : br.length ≤ 128 := Nat.le_trans (Nat.le_mul_of_pos_left _ hn) bnd1
    refine ⟨sz0, fun lg nlg => ?_⟩
    have u4 := same_new nlg (.lst [])
    have m4 : (upd H3 lg (.lst [])) lg = some (.lst []) := upd_same
    generalize upd H3 lg (.lst []) = H4 at u4 m4 ⊢
    refine ⟨_, rfl, wA, rfl, ⟨_, SqL.of (u4 _ _ hwA3)⟩, for_list (K := K) (a := wA) (xs := wvs) (fun j σ H5 => ∃ (lvs : List V) (v5 v6 : Option V), σ = [some (.ref L), some (.ref wA), some (.ref p), some (.ref bA), some (.ref lg), v5, v6] ∧ H5 lg = some (.lst lvs) ∧ Paired (WayX [lg] H C Hb H5) (ext (ws.take j) br) lvs ∧ Same H3 H5)
      ⟨[], v5, v6, rfl, m4, .nil, u4⟩ (fun j σ H5 _ h => by obtain ⟨lvs, v5, v6, _, _, _, sm5⟩ := h; exact SqL.of (sm5 _ _ hwA3)) ?_ ?_⟩
    · rintro j x σ H5 hj ⟨lvs, v5, v6, rfl, hlg, hlv, sm5⟩
      obtain ⟨way, hw, aw, xsw, rfl, ⟨_, naw⟩, haw, pw⟩ := paired_at hws3 hj
      have hjl : j < ws.length := (List.getElem?_eq_some_iff.mp hw).1
      have hx := hlen way (List.mem_of_getElem? hw)
      have lx : xsw.length = way.length := pw.length.symm
      have nalg : aw ≠ lg := fun z => by rw [z, nlg] at haw; cases haw
      have llv : lvs.length = (ext (ws.take j) br).length := hlv.length.symm
      have et : ext (ws.take (j + 1)) br = ext (ws.take j) br ++ (if isOver way then [way] else br.map (way ++ ·)) := by
        rw [take_snoc hw]
        unfold ext
        rw [List.flatMap_append]
        simp
      have lim : (ext (ws.take (j + 1)) br).length ≤ 128 := by
        refine Nat.le_trans (ext_len k1 _) (Nat.le_trans (Nat.mul_le_mul_right _ ?_) bnd1)
        rw [List.length_take]
        exact Nat.min_le_right _ _
      rw [et, List.length_append] at lim
      refine ⟨_, rfl, aw, way, xsw, rfl, sm5 _ _ haw, ⟨Hb, ((sb.trans sm).trans s3).trans sm5, pw⟩, _, rfl, ?_⟩
      cases c : isOver way with
      | true =>
        rw [c] at et lim
        refine ifT rfl ⟨_, rfl, .inl ⟨rfl, _, SqL.of hlg⟩, _, rfl, lg, _, _, rfl, rfl, hlg, (by rw [sizeLine_eq]; omega), ?_⟩
        have kp : Kp [lg] H5 (upd H5 lg (.lst (lvs ++ [.ref aw]))) := Kp.refl.upd (by simp)
        refine ⟨_, _, _, rfl, upd_same, ?_, fun x o e => by rw [upd_ne (ne_of_none e nlg)]; exact sm5 _ _ e⟩
        rw [et]
        exact pair_snoc (Paired.mapP hlv fun _ _ z => z.kp kp) ⟨aw, xsw, rfl, ⟨by simpa using nalg, naw⟩, by rw [upd_ne nalg]; exact sm5 _ _ haw, pw⟩
      | false =>
        rw [c] at et lim
        have et : ext (ws.take (j + 1)) br = ext (ws.take j) br ++ br.map (way ++ ·) := et
        have lim : (ext (ws.take j) br).length + (br.map (way ++ ·)).length ≤ 128 := lim
        rw [List.length_map] at lim
        refine ifF rfl ⟨_, rfl, .inl ⟨rfl, _, SqL.of hlg⟩, _, rfl, bA, rfl, ⟨_, SqL.of (sm5 _ _ hbA)⟩, fun D nD => ?_⟩
        have nDlg : D ≠ lg := fun z => by rw [z, hlg] at nD; cases nD
        refine lc_list (K := K) (a := bA) (xs := bvs) (fun k Hc => ∃ zs, Hc D = some (.lst zs) ∧ Paired (WayX [lg, D] H C Hb Hc) ((br.take k).map (way ++ ·)) zs ∧ Same H5 Hc)
          ⟨[], upd_same, .nil, same_new nD _⟩ (fun k Hc _ h => by obtain ⟨_, _, _, sm6⟩ := h; exact SqL.of (sm6 _ _ (sm5 _ _ hbA))) ?_ ?_
        · rintro k x Hc hk ⟨zs, hz, hzs, sc⟩
          obtain ⟨bw, hbw, ab, xsb, rfl, _, hab, pb⟩ := paired_at hbr hk
          have hkl : k < br.length := (List.getElem?_eq_some_iff.mp hbw).1
          have hxb := k3 bw (List.mem_of_getElem? hbw)
          have lxb : xsb.length = bw.length := pb.length.symm
          have sc3 : Same H3 Hc := sm5.trans sc
          refine ⟨rfl, _, rfl, _, rfl, aw, ab, xsw, xsb, rfl, rfl, sc3 _ _ haw, sc3 _ _ hab, (by rw [sizeLine_eq]; omega), fun l2 nl2 => ?_⟩
          have w2 := same_new nl2 (.lst (xsw ++ xsb))
          have q2 : (upd Hc l2 (.lst (xsw ++ xsb))) l2 = some (.lst (xsw ++ xsb)) := upd_same
          have hD2 : l2 ≠ D := fun z => by rw [z, hz] at nl2; cases nl2
          have hL2 : l2 ≠ lg := fun z => by rw [z, sc _ _ hlg] at nl2; cases nl2
          generalize upd Hc l2 (.lst (xsw ++ xsb)) = H6 at w2 q2 ⊢
          have hz6 := w2 _ _ hz
          have lz : zs.length ≤ k := by rw [← hzs.length, List.length_map, List.length_take]; exact Nat.min_le_left _ _
          refine ⟨zs, hz6, (by rw [sizeLine_eq]; omega), zs ++ [.ref l2], upd_same, ?_, fun x o e => ?_⟩
          · rw [take_snoc hbw, List.map_append]
            have kD : Kp [lg, D] Hc (upd H6 D (.lst (zs ++ [.ref l2]))) := fun x o hx e => by
              rw [upd_ne (by simp at hx; exact hx.2)]
              exact w2 _ _ e
            refine pair_snoc (Paired.mapP hzs fun _ _ z => z.kp kD) ⟨l2, _, rfl, ⟨by simp [hD2, hL2], ((sm.trans s3).trans sc3).free nl2⟩, ?_, pair_app pw pb⟩
            rw [upd_ne hD2]
            exact q2
          · rw [upd_ne (ne_of_none e nD)]
            exact w2 _ _ (sc _ _ e)
        · rintro Hd ⟨zs, hz, hzs, sd⟩
          rw [lbr, List.take_length] at hzs
          have lz : zs.length = br.length := by rw [← hzs.length, List.length_map]
          have hlgd := sd _ _ hlg
          refine ⟨lg, D, lvs, zs, rfl, rfl, hlgd, hz, (by rw [sizeLine_eq]; omega), ?_⟩
          have kp : Kp [lg] Hd (upd Hd lg (.lst (lvs ++ zs))) := Kp.refl.upd (by simp)
          refine ⟨_, _, _, rfl, upd_same, ?_, fun x o e => by rw [upd_ne (ne_of_none e nlg)]; exact sd _ _ (sm5 _ _ e)⟩
          rw [et]
          exact pair_app (Paired.mapP hlv fun _ _ ⟨a, xs, e, n, h, pr⟩ => WayX.kp (X := [lg]) (H0 := H) (C := C) (Hb := Hb) (H := Hd) ⟨a, xs, e, n, sd _ _ h, pr⟩ kp) (Paired.mapP hzs fun _ _ ⟨a, xs, e, n, h, pr⟩ => WayX.kp (X := [lg]) (H0 := H) (C := C) (Hb := Hb) (H := Hd) ⟨a, xs, e, ⟨by have := n.1; simp at this; simpa using this.1, n.2⟩, h, pr⟩ kp)
    · rintro σ H5 ⟨lvs, v5, v6, rfl, hlg, hlv, sm5⟩
      rw [lw, List.take_length] at hlv
      refine ⟨_, rfl, lg, lvs, ext ws br, b'', _, _, _, _, _, rfl, (sm.trans s3).free nlg, hlg, Paired.mapP hlv fun _ _ ⟨a, xs, e, n, h, pr⟩ => ⟨a, xs, e, ⟨by simp, n.2⟩, h, pr⟩, (sm.trans s3).trans sm5, ib'', eb, ext_ne k1 hn, Nat.le_trans (Nat.mul_le_mul_right _ (ext_len k1 ws)) bnd, ?_, by omega, by omega, by omega⟩
      intro way hw
      have := ext_mem (m := 3000 - (1 + bb.tot + oo.tot + b''.tot)) (k := 1 + bb.tot + oo.tot) (fun v hv => by have := hlen v hv; omega) k3 way hw
      have : 1 ≤ ws.length := hn
      obtain ⟨v, hv⟩ : ∃ v, v ∈ ws := by cases ws with
        | nil => cases hn
        | cons v _ => exact ⟨v, by simp⟩
      have := hlen v hv
      omega
  · rintro σ H' ⟨wA, wvs, ws, b', v2, v3, v4, v5, v6, rfl, nwA, hwA, hws, sm, ib', eb, _⟩
    rw [List.drop_length] at ib'
    rw [ib'.nil_of] at eb
    have eb : ws = b.ways := eb
    rw [eb] at hws
    exact ⟨_, rfl, q wA wvs H' sm nwA hwA hws⟩
theorem ways_all {C gB gO : Addr} {dB dO : FuncData} (F : Fun K "ways_through" "ways_through" (top 53) f fd) (FB : Fun K "branches_of" "branches_of" (top 54) gB dB) (T : RowT K mg C) (b : Binds K fd ["block"] []) (m : mg "ways_through" = some (.ref f)) (bGB : Binds K dB ["row"] []) (mGB : mg "branches_of" = some (.ref gB))
    (GO : FnOk P w K mg base CX0 1 gO dO ["way"] (spOver C)) (bGO : Binds K dO ["way"] []) (kGO : PySem.W.keepIn K (.ref gO) = true) (mGO : mg "is_over" = some (.ref gO)) : ∀ n : Nat, FnOk P w K mg base CX0 (2 * n) f fd ["block"] (spWays C n)
  | 0 => ways_none
  | n + 1 => ways_step F T (br_step FB T (ways_all F FB T b m bGB mGB GO bGO kGO mGO n) b F.kp m) bGB FB.kp mGB GO bGO kGO mGO
end
end K01
namespace Ln
open PySem PySem.Spec PyProof.Rows L2 Xc Dt
abbrev searches : List Str := ["find", "after", "first", "put", "drop"]
abbrev fromRoot : List (List Ln.Tm) := [[.reg "root"]]
abbrev stepDown : List (List Ln.Tm) := [[.link "at" "left"], [.link "at" "right"]]
abbrev perhapsUp : List (List Ln.Tm) := [[], [.link "at" "up"]]
def rightSteps (kind word : Str) (many : Nat) : List (List Ln.Tm) :=
  if has searches kind then (if word = "up" ∨ many > 1 then [] else if many = 0 then fromRoot else stepDown)
  else if many > 0 then [] else if word = "up" then perhapsUp else stepDown
def settings (l : List R1) : List Ln.Tm := l.filterMap fun r => match r.s with
  | .read t x => if t = "at" then some x else none
  | _ => none
def rightAhead : Bool → List R1 → Bool
  | _, [] => true
  | st, r :: rs => if r.s.isWr then false else if r.s.setsAt then rightAhead (st || r.s.rdLnk) rs else match r.s with
    | .read _ (.link _ _) => false
    | .read _ (.reg w) => if st || (!has regs w && !decide (w = "none")) then false else rightAhead st rs
    | _ => rightAhead st rs
def mayStand (kind : Str) (loop : R1) (many : Nat) (ahead : List R1) : Bool := decide (settings ahead ∈ rightSteps kind loop.s.word many) && rightAhead false ahead
def stepsPy (l : List (List Ln.Tm)) : PyData := .tuple (l.map fun ts => .tuple (ts.map Tm.py))
theorem lay_all : ∀ {ts : List Ln.Tm}, (∀ x ∈ ts, SeqAt.shaped x.py = true) → PyData.canLayAll0 (ts.map Tm.py) = true ∧ PyData.depthAll (ts.map Tm.py) ≤ 2
  | [], _ => ⟨by simp [PyData.canLayAll0], by simp [PyData.depthAll]⟩
  | x :: ts, h => by
    obtain ⟨h1, h2⟩ := lay_all (ts := ts) fun y hy => h y (List.mem_cons_of_mem _ hy)
    have hx := SeqAt.canLay_of_shaped (h x (List.mem_cons_self ..))
    have hd : x.py.depth ≤ 2 := by cases x <;> simp [Tm.py, PyData.depth, PyData.depthAll]
    rw [List.map_cons, PyData.canLayAll0, PyData.depthAll]
    exact ⟨by rw [hx, h1]; rfl, by omega⟩
theorem sets_shaped {ts : List Ln.Tm} (h : ∀ x ∈ ts, SeqAt.shaped x.py = true) : SeqAt.shaped (.tuple (ts.map Tm.py)) = true := by
  obtain ⟨h1, h2⟩ := lay_all h
  unfold SeqAt.shaped
  rw [PyData.canLay0, PyData.depth, h1]
  simp
  omega
theorem steps_shaped (kind word : Str) (many : Nat) : SeqAt.shaped (stepsPy (rightSteps kind word many)) = true ∧ PyData.depthAll ((rightSteps kind word many).map fun ts => .tuple (ts.map Tm.py)) ≤ 64 := by
  have o0 : PyData.strOk "root" = true := by decide +kernel
  have o1 : PyData.strOk "at" = true := by decide +kernel
  have o2 : PyData.strOk "left" = true := by decide +kernel
  have o3 : PyData.strOk "right" = true := by decide +kernel
  have o4 : PyData.strOk "up" = true := by decide +kernel
  have key : ∀ l, (l = [] ∨ l = fromRoot ∨ l = stepDown ∨ l = perhapsUp) → SeqAt.shaped (stepsPy l) = true ∧ PyData.depthAll (l.map fun ts => .tuple (ts.map Tm.py)) ≤ 64 := by
    rintro l (rfl | rfl | rfl | rfl) <;> constructor <;> simp [stepsPy, o0, o1, o2, o3, o4, Tm.py, SeqAt.shaped, PyData.canLay0, PyData.canLayAll0, PyData.depth, PyData.depthAll]
  refine key _ ?_
  unfold rightSteps
  split <;> split <;> first | exact .inl rfl | skip
  all_goals split
  all_goals first
    | exact .inr (.inl rfl)
    | exact .inr (.inr (.inl rfl))
    | exact .inr (.inr (.inr rfl))
    | exact .inl rfl
theorem tms_eqv : ∀ (xs ys : List Ln.Tm), PyData.eqvAll (xs.map Tm.py) (ys.map Tm.py) = decide (xs = ys)
  | [], [] => by simp [PyData.eqvAll]
  | [], _ :: _ => by simp [PyData.eqvAll]
  | _ :: _, [] => by simp [PyData.eqvAll]
  | x :: xs, y :: ys => by
    rw [List.map_cons, List.map_cons, PyData.eqvAll, tm_eqv, tms_eqv xs ys]
    simp
theorem steps_any (l : List (List Ln.Tm)) (ts : List Ln.Tm) : ((l.map fun ts => PyData.tuple (ts.map Tm.py)).any fun z => PyData.eqv z (.tuple (ts.map Tm.py))) = decide (ts ∈ l) := by
  rw [List.any_map, Bool.eq_iff_iff, decide_eq_true_eq, List.any_eq_true]
  constructor
  · rintro ⟨z, hz, e⟩
    have e : PyData.eqv (.tuple (z.map Tm.py)) (.tuple (ts.map Tm.py)) = true := e
    rw [PyData.eqv, tms_eqv] at e
    rw [← of_decide_eq_true e]
    exact hz
  · intro h
    refine ⟨ts, h, ?_⟩
    show PyData.eqv (.tuple (ts.map Tm.py)) (.tuple (ts.map Tm.py)) = true
    rw [PyData.eqv, tms_eqv]
    exact decide_eq_true rfl
end Ln
namespace K01
open PySem PySem.Spec PyProof.Rows L2 Xc Dt Ln Eo
theorem same_tup {K : PySem.W.Frag} {H H' : Hp} {a : Addr} {xs : List V} (e : Same H H') (h : SqT K H a xs) : SqT K H' a xs := by
  rcases h with (h | ⟨o, h⟩) | h
  · exact .inl (.inl (e _ _ h))
  · exact .inl (.inr ⟨o, e _ _ h⟩)
  · exact .inr h
mutual
theorem dp_same {K : PySem.W.Frag} {H H' : Hp} (s : Same H H') : ∀ {d : PyData} {v : V}, Dp K H v d → Dp K H' v d
  | _, _, .non => .non
  | _, _, .bl b => .bl b
  | _, _, .int b => .int b
  | _, _, .str b => .str b
  | _, _, .lst h t => .lst (s.seq h) (dps_same s t)
  | _, _, .tup h t => .tup (same_tup s h) (dps_same s t)
theorem dps_same {K : PySem.W.Frag} {H H' : Hp} (s : Same H H') : ∀ {ds : List PyData} {vs : List V}, DpAll K H vs ds → DpAll K H' vs ds
  | _, _, .nil => .nil
  | _, _, .cons h t => .cons (dp_same s h) (dps_same s t)
end
/-- what the module limits holds -/
structure Gl (K : PySem.W.Frag) (mg : Str → Option Value) : Prop where
  searches : GT K mg "SEARCHES" searches
  mR : ∃ t, mg "MOST_READS" = some (.int 12 t)
  mW : ∃ t, mg "MOST_WRITES" = some (.int 12 t)
  fR : ∃ a, mg "FROM_ROOT" = some (.ref a) ∧ ∀ H, Dp K H (.ref a) (stepsPy fromRoot)
  sD : ∃ a, mg "STEP_DOWN" = some (.ref a) ∧ ∀ H, Dp K H (.ref a) (stepsPy stepDown)
  pU : ∃ a, mg "PERHAPS_UP" = some (.ref a) ∧ ∀ H, Dp K H (.ref a) (stepsPy perhapsUp)
section
variable {P : Program} {w : World} {K : PySem.W.Frag} {mg : Str → Option Value} {base : Heap} {f : Addr} {fd : FuncData}
def spRight (K : PySem.W.Frag) : Sp := fun vs H Q _ => ∃ (kind word : Str) (many : Nat), vs = [.str kind, .str word, .int (many : Nat)] ∧ ∀ (v : V) (H' : Hp), Same H H' → Dp K H' v (stepsPy (rightSteps kind word many)) → Q v H'
theorem sc63 : FnScope ["kind", "word", "many"] ["kind", "word", "many"] (defScope (top 63)) := ⟨rfl, rfl, rfl, by decide +kernel, rfl, by decide +kernel, by decide +kernel⟩
theorem ok_right (F : Fun K "right_steps" "right_steps" (top 63) f fd) (N : Gn K mg) (L : Gl K mg) : FnOk P w K mg base CX0 1 f fd ["kind", "word", "many"] (spRight K) := by
  refine F.ok sc63 (fun vs H Q E h => ?_) (fun cdv A outer s H vs Q E hr h => ?_)
  · obtain ⟨kind, word, many, rfl, _⟩ := h
    rfl
  obtain ⟨kind, word, many, rfl, q⟩ := h
  obtain ⟨aS, mS, cS⟩ := L.searches
  obtain ⟨tU, mUp⟩ := N.up
  obtain ⟨aFR, mFR, cFR⟩ := L.fR
  obtain ⟨aSD, mSD, cSD⟩ := L.sD
  obtain ⟨aPU, mPU, cPU⟩ := L.pU
  refine ⟨_, (pss_cons (ps_if (pt_cmpR (show OpR _ _ (rIn K false) from op_in_seq) (pv 0) (pe_glob (v := .ref aS) (by rfl) mS rfl) (by rfl))
  (pss_cons (ps_if (PW.pt (pw_or (pt_cmpR op_eq (pv 1) (pe_glob (v := .str "up") (by rfl) mUp ⟨_, rfl⟩) (nomark _)) (pw_or1 (pt_cmpR op_gt (pv 2) pe_int (nomark _)))))
    (pss_one (ps_ret (pe_tup pa_nil)))
    pss_nil)
    (pss_one (ps_ret (pe_ifExp (pt_cmpR op_eq (pv 2) pe_int (nomark _)) (pe_glob (v := .ref aFR) (by rfl) mFR rfl) (pe_glob (v := .ref aSD) (by rfl) mSD rfl)))))
  pss_nil)
  (pss_cons (ps_if (pt_cmpR op_gt (pv 2) pe_int (nomark _))
  (pss_one (ps_ret (pe_tup pa_nil)))
  pss_nil)
  (pss_one (ps_ret (pe_ifExp (pt_cmpR op_eq (pv 1) (pe_glob (v := .str "up") (by rfl) mUp ⟨_, rfl⟩) (nomark _)) (pe_glob (v := .ref aPU) (by rfl) mPU rfl) (pe_glob (v := .ref aSD) (by rfl) mSD rfl)))))), ?_⟩
  have emp : ∀ {H' : Hp} {t : Addr}, H' t = some (.tup []) → Dp K H' (.ref t) (stepsPy []) := fun h => .tup (SqT.of h) .nil
  have sz0 : 0 ≤ sizeLine := by decide
  refine ⟨_, rfl, aS, _, rfl, .inr (cS _), rfl, flat_strs' _, _, rfl, ?_⟩
  refine if2 (fun c => ?_) (fun c => ?_)
  · have c : has searches kind = true := by rw [← inV_has]; exact c
    refine ⟨_, rfl, rfl, _, rfl, ?_⟩
    rw [dec_str]
    have e0 : rightSteps kind word many = if word = "up" ∨ many > 1 then [] else if many = 0 then fromRoot else stepDown := by unfold rightSteps; rw [if_pos c]
    rw [e0] at q
    refine if2 (fun c2 => ?_) (fun c2 => ⟨_, rfl, _, _, rfl, rfl, _, rfl, if2 (fun c3 => ?_) (fun c3 => ?_)⟩)
    · rw [if_pos (.inl (of_decide_eq_true c2))] at q
      exact ⟨sz0, fun t nt => q _ _ (same_new nt _) (emp upd_same)⟩
    · have c3 : (1 : Int) < (many : Nat) := of_decide_eq_true c3
      rw [if_pos (.inr (by omega))] at q
      exact ⟨sz0, fun t nt => q _ _ (same_new nt _) (emp upd_same)⟩
    · have c3 : ¬ (1 : Int) < (many : Nat) := of_decide_eq_false c3
      rw [if_neg (fun z => z.elim (of_decide_eq_false c2) (fun y => c3 (by omega)))] at q
      refine ⟨_, rfl, rfl, _, rfl, ?_⟩
      refine if2 (fun c4 => ?_) (fun c4 => ?_)
      · have c4 : many = 0 := by
          have : V.int ((many : Nat) : Int) = V.int 0 := of_decide_eq_true c4
          have := V.int.inj this
          omega
        rw [if_pos c4] at q
        exact q _ _ (Same.refl H) (cFR H)
      · have c4 : ¬ many = 0 := fun z => by
          have : ¬ V.int ((many : Nat) : Int) = V.int 0 := of_decide_eq_false c4
          exact this (by rw [z]; rfl)
        rw [if_neg c4] at q
        exact q _ _ (Same.refl H) (cSD H)
  · have c : ¬ has searches kind = true := by rw [← inV_has]; intro z; rw [show inV (.str kind) (searches.map V.str) = false from c] at z; cases z
    have e0 : rightSteps kind word many = if many > 0 then [] else if word = "up" then perhapsUp else stepDown := by unfold rightSteps; rw [if_neg c]
    rw [e0] at q
    refine ⟨_, rfl, _, _, rfl, rfl, _, rfl, ?_⟩
    refine if2 (fun c2 => ?_) (fun c2 => ?_)
    · have c2 : (0 : Int) < (many : Nat) := of_decide_eq_true c2
      rw [if_pos (by omega)] at q
      exact ⟨sz0, fun t nt => q _ _ (same_new nt _) (emp upd_same)⟩
    · have c2 : ¬ (0 : Int) < (many : Nat) := of_decide_eq_false c2
      rw [if_neg (by omega)] at q
      refine ⟨_, rfl, rfl, _, rfl, ?_⟩
      rw [dec_str]
      refine if2 (fun c3 => ?_) (fun c3 => ?_)
      · rw [if_pos (of_decide_eq_true c3)] at q
        exact q _ _ (Same.refl H) (cPU H)
      · rw [if_neg (of_decide_eq_false c3)] at q
        exact q _ _ (Same.refl H) (cSD H)
end
end K01
namespace K01
open PySem PySem.Spec PyProof.Rows L2 Xc Dt Ln Eo
section
variable {P : Program} {w : World} {K : PySem.W.Frag} {mg : Str → Option Value} {base : Heap} {f : Addr} {fd : FuncData}
def spAhead (C : Addr) : Sp := fun vs H Q _ => ∃ (L : Addr) (rs : List R1) (xs : List V), vs = [.ref L] ∧ H L = some (.lst xs) ∧ Paired (RowAt C H) rs xs ∧ (∀ r ∈ rs, r.wf) ∧ ∀ H', Same H H' → Q (.bl (rightAhead false rs)) H'
theorem sc65 : FnScope ["ahead", "is_stepped", "row", "name", "link"] ["ahead"] (defScope (top 65)) := ⟨rfl, rfl, rfl, by decide +kernel, rfl, by decide +kernel, by decide +kernel⟩
theorem ok_ahead {C gW gS gL : Addr} {dW dS dL : FuncData} (F : Fun K "are_right_ahead" "are_right_ahead" (top 65) f fd) (N : Gn K mg) (T : RowT K mg C)
    (GW : FnOk P w K mg base CX0 1 gW dW ["row"] (spRB C Sd.isWr)) (bGW : Binds K dW ["row"] []) (kGW : PySem.W.keepIn K (.ref gW) = true) (mGW : mg "is_write" = some (.ref gW))
    (GS : FnOk P w K mg base CX0 1 gS dS ["row"] (spRB C Sd.setsAt)) (bGS : Binds K dS ["row"] []) (kGS : PySem.W.keepIn K (.ref gS) = true) (mGS : mg "sets_at" = some (.ref gS))
    (GL : FnOk P w K mg base CX0 1 gL dL ["row"] (spRB C Sd.rdLnk)) (bGL : Binds K dL ["row"] []) (kGL : PySem.W.keepIn K (.ref gL) = true) (mGL : mg "reads_link" = some (.ref gL)) :
    FnOk P w K mg base CX0 2 f fd ["ahead"] (spAhead C) := by
  refine F.ok sc65 (fun vs H Q E h => ?_) (fun cdv A outer s H vs Q E hr h => ?_)
  · obtain ⟨L, rs, xs, rfl, _⟩ := h
    rfl
  obtain ⟨L, rs, xs, rfl, hL, hp, hwf, q⟩ := h
  obtain ⟨aR, mR, cR⟩ := N.regs
  refine ⟨_, (pss_cons (ps_set (i := 1) sc65.nd rfl (.inl rfl) pe_bl)
  (pss_cons (ps_for PassesOwn.never rfl (pi_list (pv 0)) (pg_name (i := 2) sc65.nd rfl (.inl rfl))
  (pss_cons (ps_if (pt_val (pe_call GW hr rfl mGW kGW bGW .nil pass0 (pa_cons (pv 2) pa_nil)))
    (pss_one (ps_ret pe_bl))
    pss_nil)
    (pss_one (ps_if (pt_val (pe_call GS hr rfl mGS kGS bGS .nil pass0 (pa_cons (pv 2) pa_nil)))
    (pss_one (ps_set (i := 1) sc65.nd rfl (.inl rfl) (pe_or (pv 1) (pe_one (pe_call GL hr rfl mGL kGL bGL .nil pass0 (pa_cons (pv 2) pa_nil))))))
    (pss_one (ps_if (pt_cmpR op_eq (pe_ix ix_tup (pe_fld (pv 2) rfl) pe_int (fun _ _ => rfl)) pe_str (nomark _))
      (pss_cons (ps_asg (pe_ix ix_tup (pe_fld (pv 2) rfl) pe_int (fun _ _ => rfl)) (pg_tup rfl (pgs_cons (pg_name (i := 3) sc65.nd rfl (.inl rfl)) (pgs_cons (pg_name (i := 4) sc65.nd rfl (.inl rfl)) pgs_nil))))
        (pss_one (ps_if (PW.pt (pw_or (pt_val (pv 1)) (pw_or (pt_cmpR op_notN (pv 4) pe_non (nomark _)) (pw_or1 (PW.pt (pw_and (pt_cmpR (show OpR _ _ (rIn K true) from op_notIn_seq) (pv 3) (pe_glob (v := .ref aR) (by rfl) mR rfl) (by rfl)) (pw_and1 (pt_cmpR op_ne (pv 3) pe_str (nomark _)))))))))
        (pss_one (ps_ret pe_bl))
        pss_nil)))
      pss_nil))))))
  (pss_one (ps_ret pe_bl)))), ?_⟩
  refine ⟨_, rfl, L, rfl, ⟨_, SqL.of hL⟩, for_list (K := K) (a := L) (xs := xs) (fun i σ H' => ∃ (st : Bool) (v2 v3 v4 : Option V), σ = [some (.ref L), some (.bl st), v2, v3, v4] ∧ Same H H' ∧ rightAhead false rs = rightAhead st (rs.drop i))
    ⟨false, none, none, none, rfl, Same.refl H, rfl⟩ (fun i σ H' _ h => by obtain ⟨st, v2, v3, v4, _, sm, _⟩ := h; exact SqL.of (sm _ _ hL)) ?_ ?_⟩
  · rintro i y σ H' hi ⟨st, v2, v3, v4, rfl, sm, er⟩
    obtain ⟨r, hr1, hrow⟩ := paired_at hp hi
    have wf := hwf r (List.mem_of_getElem? hr1)
    rw [drop_cons hr1] at er
    have hrow := hrow.same sm
    obtain ⟨p, rfl, hd⟩ := hrow.head
    have er : rightAhead false rs = if r.s.isWr then false else if r.s.setsAt then rightAhead (st || r.s.rdLnk) (rs.drop (i + 1)) else match r.s with
      | .read _ (.link _ _) => false
      | .read _ (.reg w) => if st || (!has regs w && !decide (w = "none")) then false else rightAhead st (rs.drop (i + 1))
      | _ => rightAhead st (rs.drop (i + 1)) := er
    refine ⟨_, rfl, p, r.s, r.e, rfl, hd, wf.1, fun H1 s1 => ⟨_, rfl, ?_⟩⟩
    refine if2 (fun c => ?_) (fun c => ?_)
    · rw [if_pos c] at er
      rw [er] at q
      exact q _ (sm.trans s1)
    rw [if_neg (by rw [c]; exact Bool.false_ne_true)] at er
    have hrow1 := hrow.same s1
    obtain ⟨p2, e2, hd1⟩ := hrow1.head
    cases e2
    refine ⟨_, rfl, p, r.s, r.e, rfl, hd1, wf.1, fun H2 s2 => ⟨_, rfl, ?_⟩⟩
    have s02 := (sm.trans s1).trans s2
    have hrow2 := hrow1.same s2
    obtain ⟨p2, e2, hd2⟩ := hrow2.head
    cases e2
    refine if2 (fun c2 => ?_) (fun c2 => ?_)
    · rw [if_pos c2] at er
      refine ⟨_, rfl, _, rfl, ?_⟩
      cases st with
      | true => exact ifT rfl ⟨true, _, _, _, rfl, s02, er⟩
      | false => exact ifF rfl ⟨_, rfl, p, r.s, r.e, rfl, hd2, wf.1, fun H3 s3 => ⟨r.s.rdLnk, _, _, _, rfl, s02.trans s3, by rw [er]; rfl⟩⟩
    rw [if_neg (by rw [c2]; exact Bool.false_ne_true)] at er
    obtain ⟨p2, dx, sv, lb, lo, xb, xo, e2, hpp, hs, _⟩ := hrow2
    cases e2
    obtain ⟨a, r2, rfl, ha⟩ := sd_word hs
    refine ⟨_, rfl, p, C, dx, _, _, rfl, hpp, T.cl, T.n2, rf_said, a, _, _, _, rfl, rfl, SqT.of ha, atI_nat (j := 0) rfl, rfl, _, rfl, ?_⟩
    rw [dec_str]
    refine if2 (fun c3 => ?_) (fun c3 => ?_)
    · obtain ⟨t, x, es⟩ := wf.1.read (of_decide_eq_true c3)
      rw [es] at hs er
      obtain ⟨a2, y, e2, ha2, hx⟩ := sd_read hs
      cases e2
      cases x with
      | reg w1 =>
        have er : rightAhead false rs = if st || (!has regs w1 && !decide (w1 = "none")) then false else rightAhead st (rs.drop (i + 1)) := er
        obtain ⟨b, zs, rfl, hb, y1, r1, rfl, i1, y2, r2, rfl, i2, i3⟩ := hx
        cases (show y1 = V.str w1 from i1)
        cases (show y2 = V.non from i2)
        cases (show r2 = [] from i3)
        refine ⟨_, rfl, p, C, dx, _, _, rfl, hpp, T.cl, T.n2, rf_said, a, _, _, _, rfl, rfl, SqT.of ha2, atI_nat (j := 2) rfl, b, _, rfl, SqT.of hb, rfl, _, _, rfl, _, _, rfl, rfl, ?_⟩
        refine ⟨_, rfl, _, rfl, ?_⟩
        cases st with
        | true =>
          rw [er] at q
          exact ifT rfl (q _ s02)
        | false =>
          refine ifF rfl ⟨_, rfl, rfl, _, rfl, ?_⟩
          refine ifF rfl ⟨_, rfl, aR, _, rfl, .inr (cR _), rfl, flat_strs' _, _, rfl, ?_⟩
          refine if2 (fun c4 => ?_) (fun c4 => ?_)
          · have c4 : (!has regs w1) = true := by rw [← inV_has]; exact c4
            refine ⟨_, rfl, rfl, _, rfl, ?_⟩
            rw [dec_str]
            rw [c4] at er
            refine if2 (fun c5 => ?_) (fun c5 => ?_)
            · rw [c5] at er
              rw [er] at q
              exact q _ s02
            · rw [c5] at er
              exact ⟨false, _, _, _, rfl, s02, er⟩
          · have c4 : (!has regs w1) = false := by rw [← inV_has]; exact c4
            rw [c4] at er
            exact ⟨false, _, _, _, rfl, s02, er⟩
      | link n1 l1 =>
        have er : rightAhead false rs = false := er
        rw [er] at q
        obtain ⟨b, zs, rfl, hb, y1, r1, rfl, i1, y2, r2, rfl, i2, i3⟩ := hx
        cases (show y1 = V.str n1 from i1)
        cases (show y2 = V.str l1 from i2)
        cases (show r2 = [] from i3)
        refine ⟨_, rfl, p, C, dx, _, _, rfl, hpp, T.cl, T.n2, rf_said, a, _, _, _, rfl, rfl, SqT.of ha2, atI_nat (j := 2) rfl, b, _, rfl, SqT.of hb, rfl, _, _, rfl, _, _, rfl, rfl, ?_⟩
        refine ⟨_, rfl, _, rfl, ?_⟩
        cases st with
        | true => exact ifT rfl (q _ s02)
        | false => exact ifF rfl ⟨_, rfl, rfl, _, rfl, ifT rfl (q _ s02)⟩
    · have c3 : ¬ r.s.word = "read" := of_decide_eq_false c3
      have er : rightAhead false rs = rightAhead st (rs.drop (i + 1)) := by
        rw [er]
        cases e : r.s with
        | read t x => rw [e] at c3; exact absurd rfl c3
        | _ => rfl
      exact ⟨st, _, _, _, rfl, s02, er⟩
  · rintro σ H' ⟨st, v2, v3, v4, rfl, sm, er⟩
    have : xs.length = rs.length := hp.length.symm
    rw [this, List.drop_length] at er
    have er : rightAhead false rs = true := er
    rw [er] at q
    exact q _ sm
def spStand (C : Addr) : Sp := fun vs H Q _ => ∃ (kind : Str) (p L : Addr) (lp : R1) (many : Nat) (rs : List R1) (xs : List V), vs = [.str kind, .ref p, .int (many : Nat), .ref L] ∧ HeadAt C H (lp.s, lp.e) p ∧ H L = some (.lst xs) ∧ Paired (RowAt C H) rs xs ∧ (∀ r ∈ rs, r.wf) ∧ rs.length ≤ 3000 ∧ ∀ H', Same H H' → Q (.bl (mayStand kind lp many rs)) H'
theorem sc62 : FnScope ["kind", "loop", "many", "ahead", "steps", "settings", "row"] ["kind", "loop", "many", "ahead"] (defScope (top 62)) := ⟨rfl, rfl, rfl, by decide +kernel, rfl, by decide +kernel, by decide +kernel⟩
theorem ok_stand {C gR gS gA : Addr} {dR dS dA : FuncData} (F : Fun K "may_stand" "may_stand" (top 62) f fd) (N : Nb mg) (T : RowT K mg C)
    (GR : FnOk P w K mg base CX0 1 gR dR ["kind", "word", "many"] (spRight K)) (bGR : Binds K dR ["kind", "word", "many"] []) (kGR : PySem.W.keepIn K (.ref gR) = true) (mGR : mg "right_steps" = some (.ref gR))
    (GS : FnOk P w K mg base CX0 1 gS dS ["row"] (spRB C Sd.setsAt)) (bGS : Binds K dS ["row"] []) (kGS : PySem.W.keepIn K (.ref gS) = true) (mGS : mg "sets_at" = some (.ref gS))
    (GA : FnOk P w K mg base CX0 2 gA dA ["ahead"] (spAhead C)) (bGA : Binds K dA ["ahead"] []) (kGA : PySem.W.keepIn K (.ref gA) = true) (mGA : mg "are_right_ahead" = some (.ref gA)) :
    FnOk P w K mg base CX0 3 f fd ["kind", "loop", "many", "ahead"] (spStand C) := by
  refine F.ok sc62 (fun vs H Q E h => ?_) (fun cdv A outer s H vs Q E hr h => ?_)
  · obtain ⟨kind, p, L, lp, many, rs, xs, rfl, _⟩ := h
    rfl
  obtain ⟨kind, p, L, lp, many, rs, xs, rfl, ⟨dx, n, sv, lb, lo, hp, hs⟩, hL, hrs, hwf, hlen, q⟩ := h
  have r1 : Room 1 (A.deeper (envOfC "may_stand" (defScope (top 62)) s.heap.objs.size f cdv)) := hr.mono (by decide)
  have hu65 : (A.deeper (envOfC "may_stand" (defScope (top 62)) s.heap.objs.size f cdv)).units + 65 < cLine := by have := hr.un; omega
  refine ⟨_, (pss_cons (ps_set (i := 4) sc62.nd rfl (.inl rfl) (pe_call GR r1 rfl mGR kGR bGR .nil pass0 (pa_cons (pv 0) (pa_cons (pe_ix ix_tup (pe_fld (pv 1) rfl) pe_int (fun _ _ => rfl)) (pa_cons (pv 2) pa_nil)))))
  (pss_cons (ps_set (i := 5) sc62.nd rfl (.inl rfl) (pe_callTy call_tuple_of (by rfl) N.tuple (by decide +kernel) (pa_cons (pe_lc (own := [("row", 6)]) (g := (gName 6)) (tt := (tB (tCall (spRB C Sd.setsAt) [] (fun _ _ _ => False) (tCons (tVar 6) tNil)))) (te := (tOp (rIxT K) (tFld K (tVar 6) "said") (tC (.int 2)))) rfl sc62.nd (pi_list (pv 3)) (blkOk_by (N := ["kind", "loop", "many", "ahead", "steps", "settings", "row"]) (sc := defScope (top 62)) (by decide +kernel)) (fun _ _ _ _ _ => (pg_name (i := 6) sc62.nd rfl (.inl rfl))) (fun _ _ _ _ _ => (pts_one (pt_val (pe_call GS r1 rfl mGS kGS bGS .nil pass0 (pa_cons (pv 6) pa_nil))))) (fun _ _ _ _ _ => (pe_ix ix_tup (pe_fld (pv 6) rfl) pe_int (fun _ _ => rfl)))) pa_nil)))
  (pss_one (ps_ret (pe_and (pe_cmpR (show OpR _ _ (rInDT K) from op_inDT hu65) (pv 5) (pv 4) (by rfl)) (pe_one (pe_call GA hr rfl mGA kGA bGA .nil pass0 (pa_cons (pv 3) pa_nil)))))))), ?_⟩
  obtain ⟨a, r2, rfl, ha⟩ := sd_word hs
  refine ⟨_, rfl, _, rfl, p, C, dx, _, _, rfl, hp, T.cl, T.n2, rf_said, a, _, _, _, rfl, rfl, SqT.of ha, atI_nat (j := 0) rfl, _, rfl, kind, lp.s.word, many, rfl, fun v1 H1 s1 d1 => ?_⟩
  refine ⟨_, rfl, L, rfl, ⟨_, SqL.of (s1 _ _ hL)⟩, fun D nD => lc_list (K := K) (a := L) (xs := xs) (fun i Hc => ∃ zs, Hc D = some (.lst zs) ∧ DpAll K H1 zs ((settings (rs.take i)).map Ln.Tm.py) ∧ (∀ x ∈ settings (rs.take i), SeqAt.shaped x.py = true) ∧ zs.length ≤ i ∧ Same H1 Hc)
      ⟨[], upd_same, .nil, (fun x hx => by cases hx), Nat.le_refl _, same_new nD _⟩ (fun i Hc _ h => by obtain ⟨_, _, _, _, _, sm⟩ := h; exact SqL.of (sm _ _ (s1 _ _ hL))) ?_ ?_⟩
  · rintro i x Hc hi ⟨zs, hz, hd, hsh, hzl, sc⟩
    obtain ⟨r, hr1, hrow⟩ := paired_at hrs hi
    have wf := hwf r (List.mem_of_getElem? hr1)
    have hil : i < rs.length := (List.getElem?_eq_some_iff.mp hr1).1
    have hrow1 := hrow.same s1
    have hrowc := hrow1.same sc
    obtain ⟨p2, rfl, hh⟩ := hrowc.head
    refine ⟨rfl, _, rfl, p2, r.s, r.e, rfl, hh, wf.1, fun H3 s3 => ⟨_, rfl, ?_⟩⟩
    have es : settings (rs.take (i + 1)) = settings (rs.take i) ++ (match r.s with
      | .read t x => if t = "at" then [x] else []
      | _ => []) := by
      rw [take_snoc hr1]
      unfold settings
      rw [List.filterMap_append]
      congr 1
      rw [List.filterMap_cons, List.filterMap_nil]
      cases r.s with
      | read t x =>
        by_cases c : t = "at"
        · simp [c]
        · simp [c]
      | _ => rfl
    refine if2 (fun c => ?_) (fun c => ?_)
    · obtain ⟨t, x, e⟩ : ∃ t x, r.s = .read t x := by
        cases e : r.s with
        | read t x => exact ⟨t, x, rfl⟩
        | _ => rw [e] at c; cases c
      rw [e] at c es
      have c : t = "at" := of_decide_eq_true c
      have es : settings (rs.take (i + 1)) = settings (rs.take i) ++ [x] := by rw [es]; simp [c]
      obtain ⟨p3, dx3, sv3, lb3, lo3, xb3, xo3, e3, hp3, hs3, _⟩ := hrow1
      cases e3
      have hrow3 := (hrow.same s1)
      rw [e] at hs3
      obtain ⟨a3, y, e4, ha3, hx⟩ := sd_read hs3
      cases e4
      have sc3 := sc.trans s3
      refine ⟨_, rfl, p2, C, dx3, _, _, rfl, sc3 _ _ hp3, T.cl, T.n2, rf_said, a3, _, _, _, rfl, rfl, SqT.of (sc3 _ _ ha3), atI_nat (j := 2) rfl, zs, s3 _ _ hz, (by rw [sizeLine_eq]; omega), zs ++ [y], upd_same, ?_, ?_, by rw [List.length_append]; simp only [List.length_cons, List.length_nil]; omega, fun b o eb => ?_⟩
      · rw [es, List.map_append]
        have app : ∀ {zs : List V} {ds : List PyData}, DpAll K H1 zs ds → ∀ {y d}, Dp K H1 y d → DpAll K H1 (zs ++ [y]) (ds ++ [d]) := by
          intro zs ds h y d hy
          induction zs generalizing ds with
          | nil => cases h with
            | nil => exact .cons hy .nil
          | cons z zs ih => cases h with
            | cons h1 h2 => exact .cons h1 (ih h2)
        exact app hd (tm_dp hx)
      · intro z hz2
        rw [es, List.mem_append] at hz2
        rcases hz2 with hz2 | hz2
        · exact hsh z hz2
        · rw [List.mem_singleton] at hz2
          have := wf.1
          rw [e] at this
          rw [hz2]
          exact this.2.1
      · rw [upd_ne (ne_of_none eb nD)]
        exact sc3 _ _ eb
    · have es : settings (rs.take (i + 1)) = settings (rs.take i) := by
        rw [es]
        cases e : r.s with
        | read t x =>
          rw [e] at c
          have c : ¬ t = "at" := of_decide_eq_false c
          simp [c]
        | _ => simp
      rw [es]
      exact ⟨zs, s3 _ _ hz, hd, hsh, by omega, sc.trans s3⟩
  · rintro Hd ⟨zs, hz, hd, hsh, hzl, sd⟩
    have hl : xs.length = rs.length := hrs.length.symm
    rw [hl, List.take_length] at hd hsh
    refine ⟨D, zs, rfl, .inl ⟨SqL.of hz, fun t nt => ?_⟩⟩
    have u4 := same_new nt (.tup zs)
    have m4 : (upd Hd t (.tup zs)) t = some (.tup zs) := upd_same
    generalize upd Hd t (.tup zs) = H4 at u4 m4 ⊢
    have s14 := sd.trans u4
    obtain ⟨sh1, sh2⟩ := steps_shaped kind lp.s.word many
    refine ⟨_, rfl, _, rfl, .tuple ((settings rs).map Ln.Tm.py), _, .tup (SqT.of m4) (dps_same s14 hd), dp_same s14 d1, sets_shaped hsh, sh1, sh2, _, rfl, ?_⟩
    rw [steps_any]
    have s04 := s1.trans s14
    cases c : decide (settings rs ∈ rightSteps kind lp.s.word many) with
    | false =>
      refine ifF rfl ?_
      have := q _ s04
      unfold mayStand at this
      rw [c] at this
      exact this
    | true =>
      refine ifT rfl ⟨_, rfl, L, rs, xs, rfl, s04 _ _ hL, Paired.mapP hrs fun _ _ z => z.same s04, hwf, fun H5 s5 => ?_⟩
      have := q _ (s04.trans s5)
      unfold mayStand at this
      rw [c] at this
      exact this
end
end K01
namespace Ln
open PySem PySem.Spec PyProof.Rows L2 Xc Dt
def fowLoop (kind : Str) : List R1 → Nat → List R1 → List Nat → List R1 × List Nat
  | [], _, ah, fo => (ah, fo)
  | r :: rs, m, ah, fo => if r.s.isLoop then fowLoop kind rs (m + 1) [] (if mayStand kind r m ah then fo else fo ++ [r.n])
    else fowLoop kind rs m (ah ++ [r]) (if !has searches kind && r.s.rdRoot then fo ++ [r.n] else fo)
def rowNums (g : Sd → Bool) (rs : List R1) : List Nat := (rs.filter fun r => g r.s).map (·.n)
def faultsOnWay (kind : Str) (way : List R1) : List Nat :=
  (fowLoop kind way 0 [] []).2 ++ (rowNums Sd.rdLnk (fowLoop kind way 0 [] []).1).drop 12 ++ (rowNums Sd.isWr (fowLoop kind way 0 [] []).1).drop 12
end Ln
namespace K01
open PySem PySem.Spec PyProof.Rows L2 Xc Dt Ln Eo
theorem cut_from (xs : List V) (m : Nat) : cutV xs (some ((m : Nat) : Int)) none = xs.drop m := by
  unfold cutV
  rw [HT.sIx_none, HT.sIx_nat]
  by_cases h : m ≤ xs.length
  · rw [Nat.min_eq_left h, ← List.length_drop, List.take_length]
  · rw [Nat.min_eq_right (by omega), List.drop_length, List.drop_eq_nil_of_le (by omega), List.take_nil]
theorem cut12 (xs : List V) : cutV xs (some 12) none = xs.drop 12 := cut_from xs 12
abbrev nts (l : List Nat) : List V := l.map fun n => V.int (n : Nat)
theorem nts_snoc (l : List Nat) (n : Nat) : nts (l ++ [n]) = nts l ++ [V.int (n : Nat)] := by simp [nts]
theorem rowNums_len (g : Sd → Bool) (rs : List R1) : (rowNums g rs).length ≤ rs.length := by
  unfold rowNums
  rw [List.length_map]
  exact List.length_filter_le ..
/-- [row.number for row in rows if g(row)] -/
theorem lc_nums {K : PySem.W.Frag} {mg : Str → Option Value} {C a D : Addr} {xs : List V} {rs : List R1} {g : Sd → Bool} {k : Nat} {σ : L2.St} {H1 : Hp} {Qd : Hp → Prop} {E0 : XK} (T : RowT K mg C) (hk : k < σ.length) (hL : H1 a = some (.lst xs)) (hp : Paired (RowAt C H1) rs xs) (hwf : ∀ r ∈ rs, r.wf) (hlen : rs.length ≤ 3000) (nD : H1 D = none)
    (hq : ∀ H', Same H1 H' → H' D = some (.lst (nts (rowNums g rs))) → Qd H') :
    ∃ W : Nat → Nat → Hp → Prop, (∃ m, W 0 m (upd H1 D (.lst []))) ∧ ∀ i m H, W i m H →
      ((Itl K a).stop i H ∧ Qd H) ∨ ((Itl K a).go i H ∧ ∃ Nx : Hp → Prop, (∀ H', Nx H' → ∃ m', m' < m ∧ W (i + 1) m' H') ∧ ∀ x H', (Itl K a).yld i H x H' → gName k x (wipe σ [k]) H' fun σ2 H2 => wipe σ2 [k] = wipe σ [k] ∧ tB (tCall (spRB C g) [] E0 (tCons (tVar k) tNil)) σ2 H2 fun b H3 =>
        if b = true then tFld K (tVar k) "number" σ2 H3 fun y H4 => ∃ acc, H4 D = some (.lst acc) ∧ acc.length < sizeLine ∧ Nx (upd H4 D (.lst (acc ++ [y]))) else Nx H3) := by
  refine lc_list (K := K) (a := a) (xs := xs) (fun i Hc => Hc D = some (.lst (nts (rowNums g (rs.take i)))) ∧ Same H1 Hc) ⟨upd_same, same_new nD _⟩ (fun i Hc _ h => SqL.of (h.2 _ _ hL)) ?_ ?_
  · rintro i x Hc hi ⟨hz, sc⟩
    obtain ⟨r, hr1, hrow⟩ := paired_at hp hi
    have wf := hwf r (List.mem_of_getElem? hr1)
    have hil : i < rs.length := (List.getElem?_eq_some_iff.mp hr1).1
    have hrowc := hrow.same sc
    obtain ⟨p2, rfl, hh⟩ := hrowc.head
    have e1 : ((wipe σ [k]).set k (some (V.ref p2)))[k]? = some (some (V.ref p2)) := by
      rw [List.getElem?_set_self]
      rw [wipe_length]
      exact hk
    refine ⟨?_, _, e1, p2, r.s, r.e, rfl, hh, wf.1, fun H3 s3 => ⟨_, rfl, ?_⟩⟩
    · show ((σ.set k none).set k (some (V.ref p2))).set k none = σ.set k none
      rw [List.set_set, List.set_set]
    have es : rowNums g (rs.take (i + 1)) = rowNums g (rs.take i) ++ (if g r.s then [r.n] else []) := by
      rw [take_snoc hr1]
      unfold rowNums
      rw [List.filter_append, List.map_append]
      congr 1
      by_cases c : g r.s = true
      · simp [c]
      · simp [c]
    refine if2 (fun c => ?_) (fun c => ?_)
    · rw [if_pos c] at es
      obtain ⟨p3, dx3, sv3, lb3, lo3, xb3, xo3, e3, hp3, _⟩ := hrowc
      cases e3
      refine ⟨_, e1, p2, C, dx3, _, _, rfl, s3 _ _ hp3, T.cl, T.n1, rf_number, _, s3 _ _ hz, ?_, ?_, fun b o eb => ?_⟩
      · rw [sizeLine_eq, List.length_map]
        have := rowNums_len g (rs.take i)
        rw [List.length_take] at this
        omega
      · rw [es, upd_same, nts_snoc]
      · rw [upd_ne (ne_of_none eb nD)]
        exact s3 _ _ (sc _ _ eb)
    · rw [if_neg (by rw [c]; exact Bool.false_ne_true), List.append_nil] at es
      rw [es]
      exact ⟨s3 _ _ hz, sc.trans s3⟩
  · rintro Hd ⟨hz, sd⟩
    have : xs.length = rs.length := hp.length.symm
    rw [this, List.take_length] at hz
    exact hq Hd sd hz
section
variable {P : Program} {w : World} {K : PySem.W.Frag} {mg : Str → Option Value} {base : Heap} {f : Addr} {fd : FuncData}
def spFow (C : Addr) : Sp := fun vs H Q _ => ∃ (kind : Str) (L : Addr) (rs : List R1) (xs : List V), vs = [.str kind, .ref L] ∧ H L = some (.lst xs) ∧ Paired (RowAt C H) rs xs ∧ (∀ r ∈ rs, r.wf) ∧ rs.length ≤ 3000 ∧ ∀ (a : Addr) (H' : Hp), Same H H' → H' a = some (.lst (nts (faultsOnWay kind rs))) → Q (.ref a) H'
theorem sc58 : FnScope ["kind", "way", "found", "ahead", "many", "row"] ["kind", "way"] (defScope (top 58)) := ⟨rfl, rfl, rfl, by decide +kernel, rfl, by decide +kernel, by decide +kernel⟩
theorem ok_fow {C gL gM gR gK gW : Addr} {dL dM dR dK dW : FuncData} (F : Fun K "faults_on_way" "faults_on_way" (top 58) f fd) (L0 : Gl K mg) (T : RowT K mg C)
    (GI : FnOk P w K mg base CX0 1 gL dL ["row"] (spRB C Sd.isLoop)) (bGI : Binds K dL ["row"] []) (kGI : PySem.W.keepIn K (.ref gL) = true) (mGI : mg "is_loop" = some (.ref gL))
    (GM : FnOk P w K mg base CX0 3 gM dM ["kind", "loop", "many", "ahead"] (spStand C)) (bGM : Binds K dM ["kind", "loop", "many", "ahead"] []) (kGM : PySem.W.keepIn K (.ref gM) = true) (mGM : mg "may_stand" = some (.ref gM))
    (GR : FnOk P w K mg base CX0 1 gR dR ["row"] (spRB C Sd.rdRoot)) (bGR : Binds K dR ["row"] []) (kGR : PySem.W.keepIn K (.ref gR) = true) (mGR : mg "reads_root" = some (.ref gR))
    (GK : FnOk P w K mg base CX0 1 gK dK ["row"] (spRB C Sd.rdLnk)) (bGK : Binds K dK ["row"] []) (kGK : PySem.W.keepIn K (.ref gK) = true) (mGK : mg "reads_link" = some (.ref gK))
    (GW : FnOk P w K mg base CX0 1 gW dW ["row"] (spRB C Sd.isWr)) (bGW : Binds K dW ["row"] []) (kGW : PySem.W.keepIn K (.ref gW) = true) (mGW : mg "is_write" = some (.ref gW)) :
    FnOk P w K mg base CX0 4 f fd ["kind", "way"] (spFow C) := by
  refine F.ok sc58 (fun vs H Q E h => ?_) (fun cdv A outer s H vs Q E hr h => ?_)
  · obtain ⟨kind, L, rs, xs, rfl, _⟩ := h
    rfl
  obtain ⟨kind, L, rs, xs, rfl, hL, hrs, hwf, hlen, q⟩ := h
  obtain ⟨aS, mS, cS⟩ := L0.searches
  obtain ⟨tR, mMR⟩ := L0.mR
  obtain ⟨tW, mMW⟩ := L0.mW
  have r1 : Room 1 (A.deeper (envOfC "faults_on_way" (defScope (top 58)) s.heap.objs.size f cdv)) := hr.mono (by decide)
  have sz0 : 0 ≤ sizeLine := by decide
  refine ⟨_, (pss_cons (ps_set (i := 2) sc58.nd rfl (.inl rfl) (pe_lst pa_nil))
  (pss_cons (ps_set (i := 3) sc58.nd rfl (.inl rfl) (pe_lst pa_nil))
  (pss_cons (ps_set (i := 4) sc58.nd rfl (.inl rfl) pe_int)
  (pss_cons (ps_for PassesOwn.never rfl (pi_list (pv 1)) (pg_name (i := 5) sc58.nd rfl (.inl rfl))
  (pss_one (ps_if (pt_val (pe_call GI r1 rfl mGI kGI bGI .nil pass0 (pa_cons (pv 5) pa_nil)))
    (C8.pss_cut (ps_if (pt_not (pt_val (pe_call GM hr rfl mGM kGM bGM .nil pass0 (pa_cons (pv 0) (pa_cons (pv 5) (pa_cons (pv 4) (pa_cons (pv 3) pa_nil)))))))
      (pss_one (ps_expr (pe_bm PySem.F.plainAttrs_list PySem.F.slot_list_append PySem.F.type_list_append mt_append (pv 2) (pa_cons (pe_fld (pv 5) rfl) pa_nil))))
      pss_nil)
      (pss_cons (ps_set (i := 3) sc58.nd rfl (.inl rfl) (pe_lst pa_nil))
      (pss_one (ps_aug (i := 4) sc58.nd rfl (.inl rfl) pe_int ip_add))))
    (pss_cons (ps_expr (pe_bm PySem.F.plainAttrs_list PySem.F.slot_list_append PySem.F.type_list_append mt_append (pv 3) (pa_cons (pv 5) pa_nil)))
      (pss_one (ps_if (PW.pt (pw_and (pt_cmpR (show OpR _ _ (rIn K true) from op_notIn_seq) (pv 0) (pe_glob (v := .ref aS) (by rfl) mS rfl) (by rfl)) (pw_and1 (pt_val (pe_call GR r1 rfl mGR kGR bGR .nil pass0 (pa_cons (pv 5) pa_nil))))))
      (pss_one (ps_expr (pe_bm PySem.F.plainAttrs_list PySem.F.slot_list_append PySem.F.type_list_append mt_append (pv 2) (pa_cons (pe_fld (pv 5) rfl) pa_nil))))
      pss_nil))))))
  (pss_cons (ps_expr (pe_bm PySem.F.plainAttrs_list PySem.F.slot_list_extend PySem.F.type_list_extend mt_extend (pv 2) (pa_cons (pe_slice sl_list (pe_lc (own := [("row", 5)]) (g := (gName 5)) (tt := (tB (tCall (spRB C Sd.rdLnk) [] (fun _ _ _ => False) (tCons (tVar 5) tNil)))) (te := (tFld K (tVar 5) "number")) rfl sc58.nd (pi_list (pv 3)) (blkOk_by (N := ["kind", "way", "found", "ahead", "many", "row"]) (sc := defScope (top 58)) (by decide +kernel)) (fun _ _ _ _ _ => (pg_name (i := 5) sc58.nd rfl (.inl rfl))) (fun _ _ _ _ _ => (pts_one (pt_val (pe_call GK r1 rfl mGK kGK bGK .nil pass0 (pa_cons (pv 5) pa_nil))))) (fun _ _ _ _ _ => (pe_fld (pv 5) rfl))) (po_some (pe_glob (v := .int 12) (by rfl) mMR ⟨_, rfl⟩)) po_none) pa_nil)))
  (pss_cons (ps_expr (pe_bm PySem.F.plainAttrs_list PySem.F.slot_list_extend PySem.F.type_list_extend mt_extend (pv 2) (pa_cons (pe_slice sl_list (pe_lc (own := [("row", 5)]) (g := (gName 5)) (tt := (tB (tCall (spRB C Sd.isWr) [] (fun _ _ _ => False) (tCons (tVar 5) tNil)))) (te := (tFld K (tVar 5) "number")) rfl sc58.nd (pi_list (pv 3)) (blkOk_by (N := ["kind", "way", "found", "ahead", "many", "row"]) (sc := defScope (top 58)) (by decide +kernel)) (fun _ _ _ _ _ => (pg_name (i := 5) sc58.nd rfl (.inl rfl))) (fun _ _ _ _ _ => (pts_one (pt_val (pe_call GW r1 rfl mGW kGW bGW .nil pass0 (pa_cons (pv 5) pa_nil))))) (fun _ _ _ _ _ => (pe_fld (pv 5) rfl))) (po_some (pe_glob (v := .int 12) (by rfl) mMW ⟨_, rfl⟩)) po_none) pa_nil)))
  (pss_one (ps_ret (pv 2))))))))), ?_⟩
  refine ⟨sz0, fun fA nf => ?_⟩
  have u1 := same_new nf (.lst [])
  have m1 : (upd H fA (.lst [])) fA = some (.lst []) := upd_same
  generalize upd H fA (.lst []) = H1 at u1 m1 ⊢
  refine ⟨sz0, fun aA na => ?_⟩
  have u2 := same_new na (.lst [])
  have m2 : (upd H1 aA (.lst [])) aA = some (.lst []) := upd_same
  have nfa : fA ≠ aA := fun z => by rw [z] at m1; rw [m1] at na; cases na
  generalize upd H1 aA (.lst []) = H2 at u2 m2 ⊢
  have s2 := u1.trans u2
  refine ⟨_, rfl, L, rfl, ⟨_, SqL.of (s2 _ _ hL)⟩, for_list (K := K) (a := L) (xs := xs) (fun i σ H' => ∃ (aA : Addr) (avs : List V) (m : Nat) (ah : List R1) (fo : List Nat) (v5 : Option V), σ = [some (.str kind), some (.ref L), some (.ref fA), some (.ref aA), some (.int (m : Nat)), v5] ∧ Same H H' ∧ H' fA = some (.lst (nts fo)) ∧ H' aA = some (.lst avs) ∧ Paired (RowAt C H) ah avs ∧ H aA = none ∧ fA ≠ aA ∧
      (∀ r ∈ ah, r.wf) ∧ ah.length ≤ i ∧ fo.length ≤ i ∧ fowLoop kind rs 0 [] [] = fowLoop kind (rs.drop i) m ah fo)
    ⟨aA, [], 0, [], [], none, rfl, s2, u2 _ _ m1, m2, .nil, u1.free na, nfa, (fun r hr => by cases hr), Nat.le_refl _, Nat.le_refl _, rfl⟩
    (fun i σ H' _ h => by obtain ⟨aA, avs, m, ah, fo, v5, _, sm, _⟩ := h; exact SqL.of (sm _ _ hL)) ?_ ?_⟩
  · rintro i y σ H' hi ⟨aA, avs, m, ah, fo, v5, rfl, sm, hf, ha, hah, na, nfa, wfa, la, lf, er⟩
    obtain ⟨r, hr1, hrow⟩ := paired_at hrs hi
    have wf := hwf r (List.mem_of_getElem? hr1)
    have hil : i < rs.length := (List.getElem?_eq_some_iff.mp hr1).1
    rw [drop_cons hr1] at er
    have er : fowLoop kind rs 0 [] [] = if r.s.isLoop then fowLoop kind (rs.drop (i + 1)) (m + 1) [] (if mayStand kind r m ah then fo else fo ++ [r.n]) else fowLoop kind (rs.drop (i + 1)) m (ah ++ [r]) (if !has searches kind && r.s.rdRoot then fo ++ [r.n] else fo) := er
    have hrow1 := hrow.same sm
    obtain ⟨p, rfl, hd⟩ := hrow1.head
    have hrow0 := hrow
    obtain ⟨p0, dx, sv, lb, lo, xb, xo, e0, hpp, _⟩ := hrow
    cases e0
    refine ⟨_, rfl, p, r.s, r.e, rfl, hd, wf.1, fun H3 s3 => ⟨_, rfl, ?_⟩⟩
    have s03 := sm.trans s3
    have hf3 := s3 _ _ hf
    have ha3 := s3 _ _ ha
    have lfo : (nts fo).length < sizeLine := by rw [sizeLine_eq, List.length_map]; omega
    refine if2 (fun c => ?_) (fun c => ?_)
    · rw [if_pos c] at er
      refine ⟨fun σ H4 => ∃ fo2, σ = [some (.str kind), some (.ref L), some (.ref fA), some (.ref aA), some (.int (m : Nat)), some (.ref p)] ∧ Same H H4 ∧ H4 fA = some (.lst (nts fo2)) ∧ fo2.length ≤ i + 1 ∧ fo2 = (if mayStand kind r m ah then fo else fo ++ [r.n]), ?_, ?_⟩
      · refine ⟨_, rfl, _, rfl, _, rfl, _, rfl, kind, p, aA, r, m, ah, avs, rfl, hd.imp fun _ z => ?_, ha3, Paired.mapP hah fun _ _ z => z.same s03, wfa, by omega, fun H4 s4 => ⟨_, rfl, ?_⟩⟩
        · obtain ⟨n, sv, lb, lo, h1, h2⟩ := z
          exact ⟨n, sv, lb, lo, s3 _ _ h1, h2.same s3⟩
        have s04 := s03.trans s4
        have hf4 := s4 _ _ hf3
        cases c2 : mayStand kind r m ah with
        | true => exact ifF rfl ⟨fo, rfl, s04, hf4, by omega, rfl⟩
        | false =>
          refine ifT rfl ⟨_, rfl, .inl ⟨rfl, _, SqL.of hf4⟩, _, rfl, p, C, dx, _, _, rfl, s04 _ _ hpp, T.cl, T.n1, rf_number, fA, _, _, rfl, rfl, hf4, lfo, ?_⟩
          refine ⟨fo ++ [r.n], rfl, fun b o eb => ?_, ?_, by rw [List.length_append]; simp only [List.length_cons, List.length_nil]; omega, rfl⟩
          · rw [upd_ne (ne_of_none eb nf)]
            exact s04 _ _ eb
          · rw [upd_same, nts_snoc]
      · rintro σ H4 ⟨fo2, rfl, s04, hf4, lf2, e2⟩
        rw [← e2] at er
        refine ⟨sz0, fun a2 na2 => ?_⟩
        have u5 := same_new na2 (.lst [])
        refine ⟨_, rfl, _, _, rfl, rfl, a2, [], m + 1, [], fo2, _, rfl, s04.trans u5, u5 _ _ hf4, upd_same, .nil, s04.free na2, ?_, (fun r hr => by cases hr), Nat.zero_le _, lf2, er⟩
        intro z
        rw [z, na2] at hf4
        cases hf4
    · rw [if_neg (by rw [c]; exact Bool.false_ne_true)] at er
      have lav : avs.length = ah.length := hah.length.symm
      refine ⟨_, rfl, .inl ⟨rfl, _, SqL.of ha3⟩, _, rfl, aA, _, _, rfl, rfl, ha3, (by rw [sizeLine_eq]; omega), ?_⟩
      have s04 : Same H (upd H3 aA (.lst (avs ++ [.ref p]))) := fun b o eb => by rw [upd_ne (ne_of_none eb na)]; exact s03 _ _ eb
      have hf4 : (upd H3 aA (.lst (avs ++ [.ref p]))) fA = some (.lst (nts fo)) := by rw [upd_ne nfa]; exact hf3
      have ha4 : (upd H3 aA (.lst (avs ++ [.ref p]))) aA = some (.lst (avs ++ [.ref p])) := upd_same
      generalize upd H3 aA (.lst (avs ++ [.ref p])) = H4 at s04 hf4 ha4 ⊢
      have hah4 : Paired (RowAt C H) (ah ++ [r]) (avs ++ [.ref p]) := pair_snoc hah hrow0
      have wfa4 : ∀ z ∈ ah ++ [r], z.wf := fun z hz => by
        rcases List.mem_append.mp hz with hz | hz
        · exact wfa z hz
        · rw [List.mem_singleton] at hz
          rw [hz]
          exact wf
      have la4 : (ah ++ [r]).length ≤ i + 1 := by rw [List.length_append]; simp only [List.length_cons, List.length_nil]; omega
      refine ⟨_, rfl, aS, _, rfl, .inr (cS _), rfl, flat_strs' _, _, rfl, ?_⟩
      refine if2 (fun c2 => ?_) (fun c2 => ?_)
      · have c2 : (!has searches kind) = true := by rw [← inV_has]; exact c2
        rw [c2] at er
        obtain ⟨p5, e5, hd4⟩ := (hrow0.same s04).head
        cases e5
        refine ⟨_, rfl, p, r.s, r.e, rfl, hd4, wf.1, fun H5 s5 => ⟨_, rfl, ?_⟩⟩
        have hf5 := s5 _ _ hf4
        have s05 := s04.trans s5
        refine if2 (fun c3 => ?_) (fun c3 => ?_)
        · rw [c3] at er
          have er : fowLoop kind rs 0 [] [] = fowLoop kind (rs.drop (i + 1)) m (ah ++ [r]) (fo ++ [r.n]) := er
          refine ⟨_, rfl, .inl ⟨rfl, _, SqL.of hf5⟩, _, rfl, p, C, dx, _, _, rfl, s05 _ _ hpp, T.cl, T.n1, rf_number, fA, _, _, rfl, rfl, hf5, lfo, ?_⟩
          refine ⟨aA, avs ++ [.ref p], m, ah ++ [r], fo ++ [r.n], _, rfl, fun b o eb => ?_, ?_, ?_, hah4, na, nfa, wfa4, la4, by rw [List.length_append]; simp only [List.length_cons, List.length_nil]; omega, er⟩
          · rw [upd_ne (ne_of_none eb nf)]
            exact s05 _ _ eb
          · rw [upd_same, nts_snoc]
          · rw [upd_ne nfa.symm]
            exact s5 _ _ ha4
        · rw [c3] at er
          exact ⟨aA, avs ++ [.ref p], m, ah ++ [r], fo, _, rfl, s05, hf5, s5 _ _ ha4, hah4, na, nfa, wfa4, la4, by omega, er⟩
      · have c2 : (!has searches kind) = false := by rw [← inV_has]; exact c2
        rw [c2] at er
        exact ⟨aA, avs ++ [.ref p], m, ah ++ [r], fo, _, rfl, s04, hf4, ha4, hah4, na, nfa, wfa4, la4, by omega, er⟩
  · rintro σ H' ⟨aA, avs, m, ah, fo, v5, rfl, sm, hf, ha, hah, na, nfa, wfa, la, lf, er⟩
    have hl : xs.length = rs.length := hrs.length.symm
    rw [hl, List.drop_length] at er
    have er : fowLoop kind rs 0 [] [] = (ah, fo) := er
    rw [hl] at la lf
    have hah' := Paired.mapP hah fun _ _ z => z.same sm
    refine ⟨_, rfl, .inl ⟨rfl, _, SqL.of hf⟩, _, rfl, aA, rfl, ⟨_, SqL.of ha⟩, fun D nD => lc_nums T (by show 5 < 6; decide) ha hah' wfa (by omega) nD fun H3 s3 hD => ?_⟩
    have hnl := rowNums_len Sd.rdLnk ah
    refine ⟨_, rfl, D, _, rfl, SqL.of hD, fun t nt => ?_⟩
    rw [cut12, ← List.map_drop]
    have u4 := same_new nt (.lst (((rowNums Sd.rdLnk ah).drop 12).map fun n => V.int (n : Nat)))
    have m4 : (upd H3 t (.lst (((rowNums Sd.rdLnk ah).drop 12).map fun n => V.int (n : Nat)))) t = some (.lst (((rowNums Sd.rdLnk ah).drop 12).map fun n => V.int (n : Nat))) := upd_same
    generalize upd H3 t (.lst (((rowNums Sd.rdLnk ah).drop 12).map fun n => V.int (n : Nat))) = H4 at u4 m4 ⊢
    have s14 := s3.trans u4
    have hf4 := s14 _ _ hf
    have hld := List.length_drop (i := 12) (l := rowNums Sd.rdLnk ah)
    refine ⟨fA, t, _, _, rfl, rfl, hf4, m4, (by rw [List.length_map, List.length_map, sizeLine_eq]; omega), ?_⟩
    rw [← List.map_append]
    have s05 : Same H (upd H4 fA (.lst ((fo ++ (rowNums Sd.rdLnk ah).drop 12).map fun n => V.int (n : Nat)))) := fun b o eb => by
      rw [upd_ne (ne_of_none eb nf)]
      exact s14 _ _ (sm _ _ eb)
    have hf5 : (upd H4 fA (.lst ((fo ++ (rowNums Sd.rdLnk ah).drop 12).map fun n => V.int (n : Nat)))) fA = some (.lst ((fo ++ (rowNums Sd.rdLnk ah).drop 12).map fun n => V.int (n : Nat))) := upd_same
    have ha5 : (upd H4 fA (.lst ((fo ++ (rowNums Sd.rdLnk ah).drop 12).map fun n => V.int (n : Nat)))) aA = some (.lst avs) := by rw [upd_ne nfa.symm]; exact s14 _ _ ha
    generalize upd H4 fA (.lst ((fo ++ (rowNums Sd.rdLnk ah).drop 12).map fun n => V.int (n : Nat))) = H5 at s05 hf5 ha5 ⊢
    have hah5 := Paired.mapP hah fun _ _ z => z.same s05
    refine ⟨_, rfl, .inl ⟨rfl, _, SqL.of hf5⟩, _, rfl, aA, rfl, ⟨_, SqL.of ha5⟩, fun D2 nD2 => lc_nums T (by show 5 < 6; decide) ha5 hah5 wfa (by omega) nD2 fun H6 s6 hD2 => ?_⟩
    have hnl2 := rowNums_len Sd.isWr ah
    refine ⟨_, rfl, D2, _, rfl, SqL.of hD2, fun t2 nt2 => ?_⟩
    rw [cut12, ← List.map_drop]
    have u7 := same_new nt2 (.lst (((rowNums Sd.isWr ah).drop 12).map fun n => V.int (n : Nat)))
    have m7 : (upd H6 t2 (.lst (((rowNums Sd.isWr ah).drop 12).map fun n => V.int (n : Nat)))) t2 = some (.lst (((rowNums Sd.isWr ah).drop 12).map fun n => V.int (n : Nat))) := upd_same
    generalize upd H6 t2 (.lst (((rowNums Sd.isWr ah).drop 12).map fun n => V.int (n : Nat))) = H7 at u7 m7 ⊢
    have s57 := s6.trans u7
    have hf7 := s57 _ _ hf5
    have hld2 := List.length_drop (i := 12) (l := rowNums Sd.isWr ah)
    refine ⟨fA, t2, _, _, rfl, rfl, hf7, m7, (by rw [List.length_map, List.length_map, List.length_append, sizeLine_eq]; omega), ?_⟩
    rw [← List.map_append]
    refine ⟨_, rfl, q fA _ (fun b o eb => ?_) ?_⟩
    · rw [upd_ne (ne_of_none eb nf)]
      exact s57 _ _ (s05 _ _ eb)
    · rw [upd_same]
      unfold faultsOnWay
      rw [er]
end
end K01
namespace Ln
open PySem PySem.Spec PyProof.Rows L2 Xc Dt
abbrev Lp := Nat × R1 × Bool
def valL (l : List Lp) (n : Nat) : Option (R1 × Bool) := (l.find? fun e => decide (e.1 = n)).map (·.2)
def putL (l : List Lp) (n : Nat) (v : R1 × Bool) : List Lp := if (l.any fun e => decide (e.1 = n)) = true then l.map (fun e => if e.1 = n then (e.1, v) else e) else l ++ [(n, v)]
def wasF (l : List Lp) (n : Nat) : Bool := match valL l n with
  | some v => v.2
  | none => false
def noteL : List Lp → List R1 → Bool → List Lp
  | l, [], _ => l
  | l, r :: rs, first => noteL (putL l r.n (r, wasF l r.n || first)) rs false
def noteLoops (l : List Lp) (way : List R1) : List Lp := noteL l (way.filter fun r => r.s.isLoop) true
/-- an entry of the dict of loops: the rows as they stood in Hb -/
def LpAt (C : Addr) (Hb H : Hp) (e : Lp) (kv : Key × V) : Prop := kv.1 = .inl (e.1 : Nat) ∧ ∃ t p, kv.2 = .ref t ∧ H t = some (.tup [.ref p, .bl e.2.2]) ∧ RowAt C Hb e.2.1 (.ref p)
theorem key_nat {n m : Nat} {k : Key} (h : k = .inl (n : Nat)) : (k = (.inl ((m : Nat) : Int) : Key)) ↔ n = m := by
  rw [h]
  constructor
  · intro z
    have := Sum.inl.inj z
    omega
  · intro z
    rw [z]
theorem lp_val {C : Addr} {Hb H : Hp} {n : Nat} {l : List Lp} {kvs : List (Key × V)} (h : Paired (LpAt C Hb H) l kvs) : (valL l n = none ∧ valV kvs (.inl ((n : Nat) : Int) : Key) = none) ∨ ∃ r b t p, valL l n = some (r, b) ∧ valV kvs (.inl ((n : Nat) : Int) : Key) = some (.ref t) ∧ H t = some (.tup [.ref p, .bl b]) ∧ RowAt C Hb r (.ref p) := by
  induction h with
  | nil => exact .inl ⟨rfl, rfl⟩
  | @cons e kv l kvs r _ ih =>
    obtain ⟨k1, t, p, k2, k3, k4⟩ := r
    by_cases c : e.1 = n
    · have ck : kv.1 = (.inl ((n : Nat) : Int) : Key) := (key_nat k1).mpr c
      refine .inr ⟨e.2.1, e.2.2, t, p, ?_, ?_, k3, k4⟩
      · unfold valL
        rw [List.find?_cons, decide_eq_true c]
        rfl
      · rw [valV_pos ck, k2]
    · have ck : ¬ kv.1 = (.inl ((n : Nat) : Int) : Key) := fun z => c ((key_nat k1).mp z)
      have e1 : valL (e :: l) n = valL l n := by
        unfold valL
        rw [List.find?_cons, decide_eq_false c]
      rw [e1, valV_neg ck]
      exact ih
theorem lp_put {C : Addr} {Hb H : Hp} {n : Nat} {l : List Lp} {kvs : List (Key × V)} (h : Paired (LpAt C Hb H) l kvs) {r : R1} {b : Bool} {t p : Addr} (ht : H t = some (.tup [.ref p, .bl b])) (hr : RowAt C Hb r (.ref p)) : Paired (LpAt C Hb H) (putL l n (r, b)) (putK kvs (.inl ((n : Nat) : Int) : Key) (.ref t)) := by
  have ha : (l.any fun e => decide (e.1 = n)) = (kvs.any fun kv => decide (kv.1 = (.inl ((n : Nat) : Int) : Key))) := by
    induction h with
    | nil => rfl
    | @cons e kv l kvs r _ ih =>
      rw [List.any_cons, List.any_cons, ih]
      congr 1
      rw [Bool.eq_iff_iff, decide_eq_true_eq, decide_eq_true_eq]
      exact (key_nat r.1).symm
  unfold putL putK
  rw [← ha]
  by_cases c : (l.any fun e => decide (e.1 = n)) = true
  · rw [if_pos c, if_pos c]
    clear c ha
    induction h with
    | nil => exact .nil
    | @cons e kv l kvs r' _ ih =>
      refine .cons ?_ ih
      by_cases c : e.1 = n
      · have ck : kv.1 = (.inl ((n : Nat) : Int) : Key) := (key_nat r'.1).mpr c
        show LpAt C Hb H (if e.1 = n then (e.1, r, b) else e) (if kv.1 = (.inl ((n : Nat) : Int) : Key) then (kv.1, V.ref t) else kv)
        rw [if_pos c, if_pos ck]
        exact ⟨r'.1, t, p, rfl, ht, hr⟩
      · have ck : ¬ kv.1 = (.inl ((n : Nat) : Int) : Key) := fun z => c ((key_nat r'.1).mp z)
        show LpAt C Hb H (if e.1 = n then (e.1, r, b) else e) (if kv.1 = (.inl ((n : Nat) : Int) : Key) then (kv.1, V.ref t) else kv)
        rw [if_neg c, if_neg ck]
        exact r'
  · rw [if_neg c, if_neg c]
    exact K01.pair_snoc h ⟨rfl, t, p, rfl, ht, hr⟩
theorem putL_len (l : List Lp) (n : Nat) (v : R1 × Bool) : (putL l n v).length ≤ l.length + 1 := by
  unfold putL
  by_cases c : (l.any fun e => decide (e.1 = n)) = true
  · rw [if_pos c, List.length_map]
    omega
  · rw [if_neg c, List.length_append]
    exact Nat.le_refl _
theorem noteL_len : ∀ (rs : List R1) (l : List Lp) (b : Bool), (noteL l rs b).length ≤ l.length + rs.length
  | [], l, _ => Nat.le_refl _
  | r :: rs, l, b => by
    have h1 := noteL_len rs (putL l r.n (r, wasF l r.n || b)) false
    have h2 := putL_len l r.n (r, wasF l r.n || b)
    show (noteL (putL l r.n (r, wasF l r.n || b)) rs false).length ≤ _
    rw [List.length_cons]
    omega
end Ln
namespace K01
open PySem PySem.Spec PyProof.Rows L2 Xc Dt Ln Eo
theorem for_enum0 {K : PySem.W.Frag} {a : Addr} {xs : List V} {g : TG} {tb : TS} {D : Ends} {σ : L2.St} {H : Hp} (Pv : Nat → L2.St → Hp → Prop) (h0 : Pv 0 σ H) (hl : ∀ i σ H, i ≤ xs.length → Pv i σ H → SqL K H a xs)
    (hs : ∀ i x T σ H, xs[i]? = some x → Pv i σ H → H T = none → g (.ref T) σ (upd H T (.tup [.int (i : Nat), x])) fun σ2 H2 => tb { D with nx := Pv (i + 1), ct := Pv (i + 1), bk := D.nx } σ2 H2) (hd : ∀ σ H, Pv xs.length σ H → D.nx σ H) :
    ∃ W : Nat → Nat → L2.St → Hp → Prop, (∃ m, W 0 m σ H) ∧ ∀ i m σ H, W i m σ H →
      ((Ite K a).stop i H ∧ D.nx σ H) ∨ ((Ite K a).go i H ∧ ∃ N : L2.St → Hp → Prop, (∀ σ' H', N σ' H' → ∃ m', m' < m ∧ W (i + 1) m' σ' H') ∧ ∀ x H', (Ite K a).yld i H x H' → g x σ H' fun σ2 H2 => tb { D with nx := N, ct := N, bk := D.nx } σ2 H2) := by
  refine ⟨fun i m σ H => m = xs.length - i ∧ i ≤ xs.length ∧ Pv i σ H, ⟨xs.length, by simp, Nat.zero_le _, h0⟩, ?_⟩
  rintro i m σ H ⟨rfl, hi, p⟩
  have q := hl i σ H hi p
  by_cases hlt : i < xs.length
  · refine .inr ⟨⟨xs, xs[i], q, List.getElem?_eq_getElem hlt⟩, Pv (i + 1), fun σ' H' p' => ⟨xs.length - (i + 1), by omega, rfl, hlt, p'⟩, fun x H' y => ?_⟩
    obtain ⟨T, x', rfl, nT, rfl, hx⟩ := y
    exact hs i x' T σ H (hx xs q) p nT
  · have e : i = xs.length := by omega
    subst e
    exact .inl ⟨⟨xs, q, Nat.le_refl _⟩, hd σ H p⟩
/-- [row for row in rows if g(row)] -/
theorem lc_rows {K : PySem.W.Frag} {C a D : Addr} {Hb : Hp} {xs : List V} {rs : List R1} {g : Sd → Bool} {k : Nat} {σ : L2.St} {H1 : Hp} {Qd : Hp → Prop} {E0 : XK} (hk : k < σ.length) (hL : H1 a = some (.lst xs)) (sb : Same Hb H1) (hp : Paired (RowAt C Hb) rs xs) (hwf : ∀ r ∈ rs, r.wf) (hlen : rs.length ≤ 3000) (nD : H1 D = none)
    (hq : ∀ H' zs, Same H1 H' → H' D = some (.lst zs) → Paired (RowAt C Hb) (rs.filter fun r => g r.s) zs → Qd H') :
    ∃ W : Nat → Nat → Hp → Prop, (∃ m, W 0 m (upd H1 D (.lst []))) ∧ ∀ i m H, W i m H →
      ((Itl K a).stop i H ∧ Qd H) ∨ ((Itl K a).go i H ∧ ∃ Nx : Hp → Prop, (∀ H', Nx H' → ∃ m', m' < m ∧ W (i + 1) m' H') ∧ ∀ x H', (Itl K a).yld i H x H' → gName k x (wipe σ [k]) H' fun σ2 H2 => wipe σ2 [k] = wipe σ [k] ∧ tB (tCall (spRB C g) [] E0 (tCons (tVar k) tNil)) σ2 H2 fun b H3 =>
        if b = true then tVar k σ2 H3 fun y H4 => ∃ acc, H4 D = some (.lst acc) ∧ acc.length < sizeLine ∧ Nx (upd H4 D (.lst (acc ++ [y]))) else Nx H3) := by
  refine lc_list (K := K) (a := a) (xs := xs) (fun i Hc => ∃ zs, Hc D = some (.lst zs) ∧ Paired (RowAt C Hb) ((rs.take i).filter fun r => g r.s) zs ∧ Same H1 Hc) ⟨[], upd_same, .nil, same_new nD _⟩ (fun i Hc _ ⟨_, _, _, s⟩ => SqL.of (s _ _ hL)) ?_ ?_
  · rintro i x Hc hi ⟨zs, hz, hzs, sc⟩
    obtain ⟨r, hr1, hrow⟩ := paired_at hp hi
    have wf := hwf r (List.mem_of_getElem? hr1)
    have hil : i < rs.length := (List.getElem?_eq_some_iff.mp hr1).1
    have hrowc := hrow.same (sb.trans sc)
    obtain ⟨p2, rfl, hh⟩ := hrowc.head
    have e1 : ((wipe σ [k]).set k (some (V.ref p2)))[k]? = some (some (V.ref p2)) := by
      rw [List.getElem?_set_self]
      rw [wipe_length]
      exact hk
    refine ⟨?_, _, e1, p2, r.s, r.e, rfl, hh, wf.1, fun H3 s3 => ⟨_, rfl, ?_⟩⟩
    · show ((σ.set k none).set k (some (V.ref p2))).set k none = σ.set k none
      rw [List.set_set, List.set_set]
    have es : ((rs.take (i + 1)).filter fun r => g r.s) = ((rs.take i).filter fun r => g r.s) ++ (if g r.s then [r] else []) := by
      rw [take_snoc hr1, List.filter_append]
      congr 1
      by_cases c : g r.s = true
      · simp [c]
      · simp [c]
    have lz : zs.length ≤ i := by
      rw [← hzs.length]
      refine Nat.le_trans (List.length_filter_le ..) ?_
      rw [List.length_take]
      exact Nat.min_le_left _ _
    refine if2 (fun c => ?_) (fun c => ?_)
    · rw [if_pos c] at es
      refine ⟨_, e1, _, s3 _ _ hz, (by rw [sizeLine_eq]; omega), zs ++ [.ref p2], upd_same, ?_, fun b o eb => ?_⟩
      · rw [es]
        exact pair_snoc hzs hrow
      · rw [upd_ne (ne_of_none eb nD)]
        exact s3 _ _ (sc _ _ eb)
    · rw [if_neg (by rw [c]; exact Bool.false_ne_true), List.append_nil] at es
      rw [es]
      exact ⟨zs, s3 _ _ hz, hzs, sc.trans s3⟩
  · rintro Hd ⟨zs, hz, hzs, sd⟩
    have : xs.length = rs.length := hp.length.symm
    rw [this, List.take_length] at hzs
    exact hq Hd zs sd hz hzs
section
variable {P : Program} {w : World} {K : PySem.W.Frag} {mg : Str → Option Value} {base : Heap} {f : Addr} {fd : FuncData}
def spNote (C : Addr) : Sp := fun vs H Q _ => ∃ (dA L : Addr) (Hb : Hp) (l : List Lp) (kvs : List (Key × V)) (rs : List R1) (xs : List V), vs = [.ref dA, .ref L] ∧ H dA = some (.dK kvs) ∧ Paired (LpAt C Hb H) l kvs ∧ l.length ≤ 500000 ∧ H L = some (.lst xs) ∧ Paired (RowAt C Hb) rs xs ∧ Same Hb H ∧ Hb dA = none ∧ (∀ r ∈ rs, r.wf) ∧ rs.length ≤ 3000 ∧
  ∀ (kvs' : List (Key × V)) (H' : Hp), H' dA = some (.dK kvs') → Paired (LpAt C Hb H') (noteLoops l rs) kvs' → Kp [dA] H H' → Tps H H' → Q .non H'
theorem sc57 : FnScope ["loops", "way", "passed", "place", "row", "was_first"] ["loops", "way"] (defScope (top 57)) := ⟨rfl, rfl, rfl, by decide +kernel, rfl, by decide +kernel, by decide +kernel⟩
theorem ok_note {C gL : Addr} {dL : FuncData} (F : Fun K "note_loops" "note_loops" (top 57) f fd) (N : Nb mg) (T : RowT K mg C)
    (GI : FnOk P w K mg base CX0 1 gL dL ["row"] (spRB C Sd.isLoop)) (bGI : Binds K dL ["row"] []) (kGI : PySem.W.keepIn K (.ref gL) = true) (mGI : mg "is_loop" = some (.ref gL)) :
    FnOk P w K mg base CX0 2 f fd ["loops", "way"] (spNote C) := by
  refine F.ok sc57 (fun vs H Q E h => ?_) (fun cdv A outer s H vs Q E hr h => ?_)
  · obtain ⟨dA, L, Hb, l, kvs, rs, xs, rfl, _⟩ := h
    rfl
  obtain ⟨dA, L, Hb, l, kvs, rs, xs, rfl, hd, hlp, hll, hL, hrs, sb, nd, hwf, hlen, q⟩ := h
  have hu := hu_of hr
  refine ⟨_, (pss_cons (ps_setLc (i := 2) (own := [("row", 4)]) (g := (gName 4)) (tt := (tB (tCall (spRB C Sd.isLoop) [] (fun _ _ _ => False) (tCons (tVar 4) tNil)))) rfl sc57.nd rfl rfl (by rfl) (pi_list (pv 1)) (blkOk_by (N := ["loops", "way", "passed", "place", "row", "was_first"]) (sc := defScope (top 57)) (by decide +kernel)) (fun _ _ _ _ _ => (pg_name (i := 4) sc57.nd rfl (.inl rfl))) (fun _ _ _ _ _ => (pts_one (pt_val (pe_call GI hr rfl mGI kGI bGI .nil pass0 (pa_cons (pv 4) pa_nil))))) (fun _ _ _ _ _ => (pv 4)))
  (pss_one (ps_for PassesOwn.never rfl (pi_enum (by rfl) N.enum (pa_cons (pv 2) pa_nil)) (pg_tup rfl (pgs_cons (pg_name (i := 3) sc57.nd rfl (.inl rfl)) (pgs_cons (pg_name (i := 4) sc57.nd rfl (.inl rfl)) pgs_nil)))
  (C8.pss_cut (ps_set (i := 5) sc57.nd rfl (.inl rfl) (pe_and (pe_cmp (pc_din hu (pe_fld (pv 4) rfl) (pv 0))) (pe_one (pe_ix ix_tup (pe_dget hu (pv 0) (pe_fld (pv 4) rfl) (fun _ _ => rfl)) pe_int (fun _ _ => rfl)))))
    (pss_one (ps_dput hu (pv 0) (pe_fld (pv 4) rfl) (pe_tup (pa_cons (pv 4) (pa_cons (pe_or (pv 5) (pe_one (pe_cmpR op_eq (pv 3) pe_int (nomark _)))) pa_nil))) rfl)))))), ?_⟩
  refine ⟨_, rfl, L, rfl, ⟨_, SqL.of hL⟩, fun D nD => lc_rows (by show 4 < 6; decide) hL sb hrs hwf hlen nD fun H1 zs s1 hD hzs => ?_⟩
  have nDd : D ≠ dA := fun z => by rw [z, hd] at nD; cases nD
  have lzs : zs.length ≤ 3000 := by
    rw [← hzs.length]
    exact Nat.le_trans (List.length_filter_le ..) hlen
  have lpu : ∀ {H2 : Hp}, Tps H1 H2 → ∀ {l kvs}, Paired (LpAt C Hb H1) l kvs → Paired (LpAt C Hb H2) l kvs := fun t2 _ _ h => Paired.mapP h fun _ _ ⟨k1, t, p, k2, k3, k4⟩ => ⟨k1, t, p, k2, t2 _ _ k3, k4⟩
  have hd1 := s1 _ _ hd
  have hlp1 : Paired (LpAt C Hb H1) l kvs := Paired.mapP hlp fun _ _ ⟨k1, t, p, k2, k3, k4⟩ => ⟨k1, t, p, k2, s1 _ _ k3, k4⟩
  refine ⟨_, rfl, D, zs, rfl, SqL.of hD, for_enum0 (fun i σ H' => ∃ (l' : List Lp) (kvs' : List (Key × V)) (v3 v4 v5 : Option V), σ = [some (.ref dA), some (.ref L), some (.ref D), v3, v4, v5] ∧ H' dA = some (.dK kvs') ∧ Paired (LpAt C Hb H') l' kvs' ∧ Kp [dA] H1 H' ∧ Tps H1 H' ∧ noteLoops l rs = noteL l' ((rs.filter fun r => r.s.isLoop).drop i) (decide (i = 0)) ∧ l'.length ≤ l.length + i)
    ⟨l, kvs, none, none, none, rfl, hd1, hlp1, Kp.refl, (fun _ _ e => e), rfl, Nat.le_refl _⟩ (fun i σ H' _ h => by obtain ⟨l', kvs', v3, v4, v5, _, _, _, kp, _⟩ := h; exact SqL.of (kp _ _ (by simpa using nDd) hD)) ?_ ?_⟩
  · rintro i y t σ H' hi ⟨l', kvs', v3, v4, v5, rfl, hd', hlp', kp, tp, en, ll⟩ nt
    have hil : i < zs.length := (List.getElem?_eq_some_iff.mp hi).1
    obtain ⟨r, hr1, hrow⟩ := paired_at hzs hi
    have hrow0 := hrow
    obtain ⟨p, dx, sv, lb, lo, xb, xo, rfl, hpp, _⟩ := hrow
    have hpd : p ≠ dA := fun z => by rw [z, nd] at hpp; cases hpp
    rw [drop_cons hr1] at en
    have en : noteLoops l rs = noteL (putL l' r.n (r, wasF l' r.n || decide (i = 0))) ((rs.filter fun r => r.s.isLoop).drop (i + 1)) false := en
    have hpp' : H' p = some (.ins C dx (rowF r.n sv lb lo r.e)) := kp _ _ (by simpa using hpd) (s1 _ _ (sb _ _ hpp))
    have u2 := same_new nt (.tup [.int ((i : Nat) : Int), .ref p])
    have m2 : (upd H' t (.tup [.int ((i : Nat) : Int), .ref p])) t = some (.tup [.int ((i : Nat) : Int), .ref p]) := upd_same
    generalize upd H' t (.tup [.int ((i : Nat) : Int), .ref p]) = H2 at u2 m2 ⊢
    refine ⟨t, _, rfl, SqT.of m2, rfl, _, _, rfl, _, _, rfl, rfl, ?_⟩
    have hd2 := u2 _ _ hd'
    have hpp2 := u2 _ _ hpp'
    have hlp2 : Paired (LpAt C Hb H2) l' kvs' := Paired.mapP hlp' fun _ _ ⟨k1, t, p, k2, k3, k4⟩ => ⟨k1, t, p, k2, u2 _ _ k3, k4⟩
    have kp2 : Kp [dA] H1 H2 := fun x o hx e => u2 _ _ (kp x o hx e)
    have tp2 : Tps H1 H2 := tp.trans (Tps.of u2)
    have lk : kvs'.length = l'.length := hlp2.length.symm
    refine ⟨fun σ H3 => σ = [some (.ref dA), some (.ref L), some (.ref D), some (.int ((i : Nat) : Int)), some (.ref p), some (.bl (wasF l' r.n))] ∧ H3 = H2, ?_, ?_⟩
    · refine ⟨_, rfl, p, C, dx, _, _, rfl, hpp2, T.cl, T.n1, rf_number, _, rfl, dA, _, rfl, DGet.k (k := (Sum.inl ((r.n : Nat) : Int) : Key)) hd2, _, rfl, ?_⟩
      rcases lp_val (n := r.n) hlp2 with ⟨e1, e2⟩ | ⟨r', b, t', p', e1, e2, e3, e4⟩
      · rw [e2]
        refine ifF rfl ⟨?_, rfl⟩
        have : wasF l' r.n = false := by unfold wasF; rw [e1]
        rw [this]
        rfl
      · rw [e2]
        have dg : DGet H2 dA (.int ((r.n : Nat) : Int)) (some (.ref t')) := by
          rw [← e2]
          exact DGet.k (k := (Sum.inl ((r.n : Nat) : Int) : Key)) hd2
        refine ifT rfl ⟨_, rfl, _, rfl, p, C, dx, _, _, rfl, hpp2, T.cl, T.n1, rf_number, dA, _, rfl, dg, t', _, _, _, rfl, rfl, SqT.of e3, atI_nat (j := 1) rfl, ?_, rfl⟩
        have : wasF l' r.n = b := by unfold wasF; rw [e1]
        rw [this]
        rfl
    · rintro σ H3 ⟨rfl, rfl⟩
      have fin : ∀ (t : Addr) (b2 : Bool), H3 t = none → b2 = (wasF l' r.n || decide (i = 0)) → (∃ (l' : List Lp) (kvs'' : List (Key × V)) (v3 v4 v5 : Option V), [some (V.ref dA), some (V.ref L), some (V.ref D), some (V.int ((i : Nat) : Int)), some (V.ref p), some (V.bl (wasF l' r.n))] = [some (V.ref dA), some (V.ref L), some (V.ref D), v3, v4, v5] ∧ (upd (upd H3 t (.tup [.ref p, .bl b2])) dA (.dK (putK kvs' (Sum.inl ((r.n : Nat) : Int) : Key) (.ref t)))) dA = some (.dK kvs'') ∧ Paired (LpAt C Hb (upd (upd H3 t (.tup [.ref p, .bl b2])) dA (.dK (putK kvs' (Sum.inl ((r.n : Nat) : Int) : Key) (.ref t))))) l' kvs'' ∧ Kp [dA] H1 (upd (upd H3 t (.tup [.ref p, .bl b2])) dA (.dK (putK kvs' (Sum.inl ((r.n : Nat) : Int) : Key) (.ref t)))) ∧ Tps H1 (upd (upd H3 t (.tup [.ref p, .bl b2])) dA (.dK (putK kvs' (Sum.inl ((r.n : Nat) : Int) : Key) (.ref t)))) ∧ noteLoops l rs = noteL l' ((rs.filter fun r => r.s.isLoop).drop (i + 1)) (decide (i + 1 = 0)) ∧ l'.length ≤ l.length + (i + 1)) := by
        intro t b2 nt eb
        have v1 := same_new nt (.tup [.ref p, .bl b2])
        have hd3 := v1 _ _ hd2
        have tu : Tps (upd H3 t (.tup [.ref p, .bl b2])) (upd (upd H3 t (.tup [.ref p, .bl b2])) dA (.dK (putK kvs' (Sum.inl ((r.n : Nat) : Int) : Key) (.ref t)))) := tps_upd hd3 (fun _ z => by cases z)
        have ht : (upd H3 t (.tup [.ref p, .bl b2])) t = some (.tup [.ref p, .bl b2]) := upd_same
        refine ⟨putL l' r.n (r, b2), _, _, _, _, rfl, upd_same, lp_put (Paired.mapP hlp2 fun _ _ ⟨k1, t, p, k2, k3, k4⟩ => ⟨k1, t, p, k2, tu _ _ (v1 _ _ k3), k4⟩) (tu _ _ ht) hrow0, fun x o hx e => ?_, (tp2.trans (Tps.of v1)).trans tu, ?_, ?_⟩
        · rw [upd_ne (by simpa using hx)]
          exact v1 _ _ (kp2 x o hx e)
        · rw [en, eb]
          rfl
        · have := putL_len l' r.n (r, b2)
          omega
      have fin2 : ∀ (t : Addr) (b2 : Bool), H3 t = none → b2 = (wasF l' r.n || decide (i = 0)) → DPut (upd H3 t (.tup [.ref p, .bl b2])) dA (.int ((r.n : Nat) : Int)) (.ref t) (upd (upd H3 t (.tup [.ref p, .bl b2])) dA (.dK (putK kvs' (Sum.inl ((r.n : Nat) : Int) : Key) (.ref t)))) := by
        intro t b2 nt _
        have v1 := same_new nt (.tup [.ref p, .bl b2])
        exact DPut.k (k := (Sum.inl ((r.n : Nat) : Int) : Key)) (v1 _ _ hd2) (by rw [sizeLine_eq]; omega)
      refine ⟨_, rfl, _, rfl, _, rfl, ?_⟩
      cases c : wasF l' r.n with
      | true =>
        have eb : true = (wasF l' r.n || decide (i = 0)) := by rw [c]; rfl
        refine ifT rfl ⟨(by show 2 ≤ sizeLine; decide), fun t nt => ?_⟩
        have v1 := same_new nt (.tup [.ref p, .bl true])
        refine ⟨_, rfl, _, rfl, p, C, dx, _, _, rfl, v1 _ _ hpp2, T.cl, T.n1, rf_number, dA, _, rfl, fin2 t true nt eb, ?_⟩
        obtain ⟨a1, a2, a3, a4, a5, a6, a7⟩ := fin t true nt eb
        exact ⟨a1, a2, _, _, _, rfl, a7⟩
      | false =>
        refine ifF rfl ⟨_, rfl, rfl, (by show 2 ≤ sizeLine; decide), fun t nt => ?_⟩
        have eb : decide (V.int ((i : Nat) : Int) = V.int 0) = (wasF l' r.n || decide (i = 0)) := by
          rw [c]
          by_cases z : i = 0
          · rw [decide_eq_true z, decide_eq_true (by rw [z]; rfl)]
            rfl
          · rw [decide_eq_false z, decide_eq_false (fun y => z (by have := V.int.inj y; omega))]
            rfl
        have v1 := same_new nt (.tup [.ref p, .bl (decide (V.int ((i : Nat) : Int) = V.int 0))])
        refine ⟨_, rfl, _, rfl, p, C, dx, _, _, rfl, v1 _ _ hpp2, T.cl, T.n1, rf_number, dA, _, rfl, fin2 t _ nt eb, ?_⟩
        obtain ⟨a1, a2, a3, a4, a5, a6, a7⟩ := fin t _ nt eb
        exact ⟨a1, a2, _, _, _, rfl, a7⟩
  · rintro σ H' ⟨l', kvs', v3, v4, v5, rfl, hd', hlp', kp, tp, en, ll⟩
    have : zs.length = (rs.filter fun r => r.s.isLoop).length := hzs.length.symm
    rw [this, List.drop_length] at en
    have en : noteLoops l rs = l' := en
    refine q kvs' H' hd' (by rw [en]; exact hlp') (fun x o hx e => kp x o hx (s1 _ _ e)) ((Tps.of s1).trans tp)
end
end K01
namespace Ln
open PySem PySem.Spec PyProof.Rows L2 Xc Dt
def lessOf (p : Bool × As) : List Str := match p.2 with
  | .less a b => ([a, b] : List Str).filter fun x => has regs x && !decide (x = "at")
  | _ => []
def cmpRow (r : R1) : List (Nat × Str) := match r.s with
  | .ask _ ps => ps.flatMap fun p => (lessOf p).map fun x => (r.n, x)
  | _ => []
def comparedIn (rs : List R1) : List (Nat × Str) := rs.flatMap cmpRow
def As.word : As → Str
  | .frm _ => "from"
  | .less _ _ => "less"
  | .eq _ => "equal"
  | .same _ _ => "same"
def PrAt (H : Hp) (e : Nat × Str) (v : V) : Prop := ∃ t, v = .ref t ∧ H t = some (.tup [.int (e.1 : Nat), .str e.2])
theorem Sd.ok.asks {s : Sd} (h : s.ok) (c : s.word = "if" ∨ s.isLoop = true) : ∃ w ps, s = .ask w ps := by
  have no : ∀ w ∈ (["quit", "else", "end", "stop", "read", "write", "gets", "keep", "go"] : List Str), ¬ (w = "if" ∨ has loops w = true) := by decide +kernel
  have h2 : s.word ∈ (["quit", "else", "end", "stop", "read", "write", "gets", "keep", "go"] : List Str) ∨ ∃ w ps, s = .ask w ps := by
    cases s with
    | ask w ps => exact .inr ⟨w, ps, rfl⟩
    | one w =>
      have h : w ∈ (["quit", "else", "end", "stop"] : List Str) := h
      left
      show w ∈ _
      simp only [List.mem_cons, List.not_mem_nil, or_false] at h ⊢
      rcases h with h | h | h | h
      · exact .inl h
      · exact .inr (.inl h)
      · exact .inr (.inr (.inl h))
      · exact .inr (.inr (.inr (.inl h)))
    | read _ _ => left; show ("read" : Str) ∈ _; simp
    | write _ _ => left; show ("write" : Str) ∈ _; simp
    | gets _ _ => left; show ("gets" : Str) ∈ _; simp
    | keep _ => left; show ("keep" : Str) ∈ _; simp
    | go _ => left; show ("go" : Str) ∈ _; simp
  rcases h2 with h2 | h2
  · exact absurd c (no _ h2)
  · exact h2
theorem Sd.ok.ask_word {w : Str} {ps : List (Bool × As)} (h : (Sd.ask w ps).ok) : w = "if" ∨ has loops w = true := by
  have h : w ∈ (["if", "down", "up"] : List Str) := h
  have : ∀ w ∈ (["if", "down", "up"] : List Str), w = "if" ∨ has loops w = true := by decide +kernel
  exact this w h
theorem as_word {H : Hp} {x : As} {v : V} (h : Is H x.d v) : ∃ a r, v = .ref a ∧ H a = some (.tup (.str x.word :: r)) := by
  have e : ∃ ds, x.d = .tup (.str x.word :: ds) := by cases x <;> exact ⟨_, rfl⟩
  obtain ⟨ds, e⟩ := e
  rw [e] at h
  obtain ⟨a, xs, rfl, ha, y, r, rfl, hx, _⟩ := h
  cases (show y = V.str x.word from hx)
  exact ⟨a, r, rfl, ha⟩
theorem as_less {H : Hp} {a b : Str} {v : V} (h : Is H (As.less a b).d v) : ∃ c, v = .ref c ∧ H c = some (.tup [.str "less", .str a, .str b]) := by
  obtain ⟨c, xs, rfl, hc, x1, r1, rfl, h1, x2, r2, rfl, h2, x3, r3, rfl, h3, h4⟩ := h
  cases (show x1 = V.str "less" from h1)
  cases (show x2 = V.str a from h2)
  cases (show x3 = V.str b from h3)
  cases (show r3 = [] from h4)
  exact ⟨c, rfl, hc⟩
theorem part_at {H : Hp} {p : Bool × As} {v : V} (h : Is H (partD p) v) : ∃ c y, v = .ref c ∧ H c = some (.tup [.bl p.1, y]) ∧ Is H p.2.d y := by
  obtain ⟨c, xs, rfl, hc, x1, r1, rfl, h1, x2, r2, rfl, h2, h4⟩ := h
  cases (show x1 = V.bl p.1 from h1)
  cases (show r2 = [] from h4)
  exact ⟨c, x2, rfl, hc, h2⟩
theorem sd_ask {H : Hp} {w : Str} {ps : List (Bool × As)} {v : V} (h : Is H (Sd.ask w ps).d v) : ∃ a b xs, v = .ref a ∧ H a = some (.tup [.str w, .ref b]) ∧ H b = some (.tup xs) ∧ Are H (ps.map partD) xs := by
  obtain ⟨a, xs, rfl, ha, x1, r1, rfl, h1, x2, r2, rfl, ⟨b, ys, rfl, hb, hy⟩, h4⟩ := h
  cases (show x1 = V.str w from h1)
  cases (show r2 = [] from h4)
  exact ⟨a, b, ys, rfl, ha, hb, hy⟩
theorem pr_tps {H H' : Hp} (t : Tps H H') {l : List (Nat × Str)} {vs : List V} (h : Paired (PrAt H) l vs) : Paired (PrAt H') l vs := Paired.mapP h fun _ _ ⟨a, e, k⟩ => ⟨a, e, t _ _ k⟩
end Ln
namespace K01
open PySem PySem.Spec PyProof.Rows L2 Xc Dt Ln Eo
section
variable {P : Program} {w : World} {K : PySem.W.Frag} {mg : Str → Option Value} {base : Heap} {f : Addr} {fd : FuncData}
def spCmp (C : Addr) : Sp := fun vs H Q _ => ∃ (L : Addr) (rs : List R1) (xs : List V), vs = [.ref L] ∧ H L = some (.lst xs) ∧ Paired (RowAt C H) rs xs ∧ (∀ r ∈ rs, r.wf) ∧ (comparedIn rs).length ≤ 500000 ∧ ∀ (a : Addr) (ys : List V) (H' : Hp), Same H H' → H a = none → H' a = some (.lst ys) → Paired (PrAt H') (comparedIn rs) ys → Q (.ref a) H'
theorem sc69 : FnScope ["rows", "found", "row", "_", "asked", "names", "name"] ["rows"] (defScope (top 69)) := ⟨rfl, rfl, rfl, by decide +kernel, rfl, by decide +kernel, by decide +kernel⟩
theorem ok_cmp {C gL : Addr} {dL : FuncData} (F : Fun K "compared_in" "compared_in" (top 69) f fd) (N : Gn K mg) (T : RowT K mg C)
    (GI : FnOk P w K mg base CX0 1 gL dL ["row"] (spRB C Sd.isLoop)) (bGI : Binds K dL ["row"] []) (kGI : PySem.W.keepIn K (.ref gL) = true) (mGI : mg "is_loop" = some (.ref gL)) :
    FnOk P w K mg base CX0 2 f fd ["rows"] (spCmp C) := by
  refine F.ok sc69 (fun vs H Q E h => ?_) (fun cdv A outer s H vs Q E hr h => ?_)
  · obtain ⟨L, rs, xs, rfl, _⟩ := h
    rfl
  obtain ⟨L, rs, xs, rfl, hL, hrs, hwf, hlen, q⟩ := h
  obtain ⟨aR, mR, cR⟩ := N.regs
  have sz0 : 0 ≤ sizeLine := by decide
  refine ⟨_, (pss_cons (ps_set (i := 1) sc69.nd rfl (.inl rfl) (pe_lst pa_nil))
  (pss_cons (ps_for PassesOwn.never rfl (pi_list (pv 0)) (pg_name (i := 2) sc69.nd rfl (.inr rfl))
  (pss_one (ps_if (PW.pt (pw_or (pt_cmpR op_eq (pe_ix ix_tup (pe_fld (pv 2) rfl) pe_int (fun _ _ => rfl)) pe_str (nomark _)) (pw_or1 (pt_val (pe_call GI hr rfl mGI kGI bGI .nil pass0 (pa_cons (pv 2) pa_nil))))))
    (pss_one (ps_for PassesOwn.never rfl (pi_tup (pe_ix ix_tup (pe_fld (pv 2) rfl) pe_int (fun _ _ => rfl))) (pg_tup rfl (pgs_cons (pg_name (i := 3) sc69.nd rfl (.inl rfl)) (pgs_cons (pg_name (i := 4) sc69.nd rfl (.inl rfl)) pgs_nil)))
      (pss_one (ps_if (pt_cmpR op_eq (pe_ix ix_tup (pv 4) pe_int (fun _ _ => rfl)) pe_str (nomark _))
        (pss_cons (ps_setLc (i := 5) (own := [("name", 6)]) (g := (gName 6)) (tt := (tAnd (tTest (tOp (rIn K false) (tVar 6) (tC (.ref aR)))) (tTest (tOp rNe (tVar 6) (tC (.str "at")))))) (te := (tVar 6)) rfl sc69.nd rfl rfl (by rfl) (pi_tup (pe_slice sl_tup (pv 4) (po_some pe_int) po_none)) (blkOk_by (N := ["rows", "found", "row", "_", "asked", "names", "name"]) (sc := defScope (top 69)) (by decide +kernel)) (fun _ _ _ _ _ => (pg_name (i := 6) sc69.nd rfl (.inl rfl))) (fun _ _ _ _ _ => (pts_one (PW.pt (pw_and (pt_cmpR (show OpR _ _ (rIn K false) from op_in_seq) (pv 6) (pe_glob (v := .ref aR) (by rfl) mR rfl) (by rfl)) (pw_and1 (pt_cmpR op_ne (pv 6) pe_str (nomark _))))))) (fun _ _ _ _ _ => (pv 6)))
          (pss_one (ps_expr (pe_bm PySem.F.plainAttrs_list PySem.F.slot_list_extend PySem.F.type_list_extend mt_extend (pv 1) (pa_cons (pe_lc (own := [("name", 6)]) (g := (gName 6)) (tt := tYes) (te := (tTup (tCons (tFld K (tVar 2) "number") (tCons (tVar 6) tNil)))) rfl sc69.nd (pi_list (pv 5)) (blkOk_by (N := ["rows", "found", "row", "_", "asked", "names", "name"]) (sc := defScope (top 69)) (by decide +kernel)) (fun _ _ _ _ _ => (pg_name (i := 6) sc69.nd rfl (.inl rfl))) (fun _ _ _ _ _ => pts_nil) (fun _ _ _ _ _ => (pe_tup (pa_cons (pe_fld (pv 2) rfl) (pa_cons (pv 6) pa_nil))))) pa_nil)))))
        pss_nil))))
    pss_nil)))
  (pss_one (ps_ret (pv 1))))), ?_⟩
  refine ⟨sz0, fun fA nf => ?_⟩
  have u1 := same_new nf (.lst [])
  have m1 : (upd H fA (.lst [])) fA = some (.lst []) := upd_same
  generalize upd H fA (.lst []) = H1 at u1 m1 ⊢
  refine ⟨_, rfl, L, rfl, ⟨_, SqL.of (u1 _ _ hL)⟩, for_list (K := K) (a := L) (xs := xs) (fun i σ H' => ∃ (fvs : List V) (v2 v3 v4 v5 v6 : Option V), σ = [some (.ref L), some (.ref fA), v2, v3, v4, v5, v6] ∧ Same H H' ∧ H' fA = some (.lst fvs) ∧ Paired (PrAt H') (comparedIn (rs.take i)) fvs)
    ⟨[], none, none, none, none, none, rfl, u1, m1, .nil⟩ (fun i σ H' _ h => by obtain ⟨fvs, v2, v3, v4, v5, v6, _, sm, _⟩ := h; exact SqL.of (sm _ _ hL)) ?_ ?_⟩
  · rintro i y σ H' hi ⟨fvs, v2, v3, v4, v5, v6, rfl, sm, hf, hfv⟩
    obtain ⟨r, hr1, hrow⟩ := paired_at hrs hi
    have wf := hwf r (List.mem_of_getElem? hr1)
    have es : comparedIn (rs.take (i + 1)) = comparedIn (rs.take i) ++ cmpRow r := by
      rw [take_snoc hr1]
      unfold comparedIn
      rw [List.flatMap_append]
      simp
    have bd : (comparedIn (rs.take i)).length + (cmpRow r).length ≤ 500000 := by
      rw [← List.length_append, ← es]
      refine Nat.le_trans ?_ hlen
      have e2 : comparedIn rs = comparedIn (rs.take (i + 1)) ++ comparedIn (rs.drop (i + 1)) := by
        unfold comparedIn
        rw [← List.flatMap_append, List.take_append_drop]
      rw [e2, List.length_append]
      omega
    have hrow1 := hrow.same sm
    obtain ⟨p, rfl, hd⟩ := hrow1.head
    obtain ⟨p0, dx, sv, lb, lo, xb, xo, e0, hpp, hs, _⟩ := hrow
    cases e0
    obtain ⟨a, r2, rfl, ha⟩ := sd_word hs
    refine ⟨_, rfl, p, C, dx, _, _, rfl, sm _ _ hpp, T.cl, T.n2, rf_said, a, _, _, _, rfl, rfl, SqT.of (sm _ _ ha), atI_nat (j := 0) rfl, rfl, _, rfl, ?_⟩
    rw [dec_str]
    refine if2 (fun c => ?_) (fun c => ⟨_, rfl, p, r.s, r.e, rfl, hd, wf.1, fun H2 s2 => ⟨_, rfl, if2 (fun c2 => ?_) (fun c2 => ?_)⟩⟩)
    rotate_right 1
    · have c : ¬ r.s.word = "if" := of_decide_eq_false c
      have ec : cmpRow r = [] := by
        unfold cmpRow
        cases e : r.s with
        | ask w ps =>
          have ok := wf.1
          rw [e] at ok c c2
          rcases ok.ask_word with h | h
          · exact absurd h c
          · rw [show (Sd.ask w ps).isLoop = has loops w from rfl, h] at c2
            cases c2
        | _ => rfl
      rw [ec, List.append_nil] at es
      refine ⟨fvs, _, _, _, _, _, rfl, sm.trans s2, s2 _ _ hf, ?_⟩
      rw [es]
      exact pr_tps (Tps.of s2) hfv
    all_goals
      have hask : ∃ w ps, r.s = .ask w ps := by
        first
          | exact wf.1.asks (.inl (of_decide_eq_true c))
          | exact wf.1.asks (.inr c2)
      first
        | have s2 := (s2 : Same H' _)
        | have s2 := Same.refl H'
      obtain ⟨wd, ps, eask⟩ := hask
      have ecr : cmpRow r = ps.flatMap fun p => (lessOf p).map fun x => (r.n, x) := by unfold cmpRow; rw [eask]
      rw [ecr] at es bd
      have hs2 := hs
      rw [eask] at hs2
      obtain ⟨a', bA, pxs, e3, ha3, hb3, hps⟩ := sd_ask hs2
      cases e3
      have s02 := sm.trans s2
      refine ⟨_, rfl, p, C, dx, _, _, rfl, s02 _ _ hpp, T.cl, T.n2, rf_said, a, _, _, _, rfl, rfl, SqT.of (s02 _ _ ha3), atI_nat (j := 1) rfl, bA, rfl, ⟨_, SqT.of (s02 _ _ hb3)⟩, for_tup (K := K) (a := bA) (xs := pxs) (fun j σ Hx => ∃ (fvs : List V) (v3 v4 v5 v6 : Option V), σ = [some (.ref L), some (.ref fA), some (.ref p), v3, v4, v5, v6] ∧ Same H Hx ∧ Hx fA = some (.lst fvs) ∧ Paired (PrAt Hx) (comparedIn (rs.take i) ++ (ps.take j).flatMap fun p => (lessOf p).map fun x => (r.n, x)) fvs)
        ⟨fvs, _, _, _, _, rfl, s02, s2 _ _ hf, by rw [List.take_zero, List.flatMap_nil, List.append_nil]; exact pr_tps (Tps.of s2) hfv⟩ (fun j σ Hx _ h => by obtain ⟨_, _, _, _, _, _, sx, _⟩ := h; exact SqT.of (sx _ _ hb3)) ?_ ?_⟩
      · rintro j x σ Hx hj ⟨fvs, v3, v4, v5, v6, rfl, sx, hf, hfv⟩
        have hjl : j < ps.length := by
          have := (List.getElem?_eq_some_iff.mp hj).1
          rw [hps.len, List.length_map] at this
          exact this
        have hp1 : ps[j]? = some ps[j] := List.getElem?_eq_getElem hjl
        obtain ⟨x', hx', hpart⟩ := hps.at (i := j) (d := partD ps[j]) (by rw [List.getElem?_map, hp1]; rfl)
        rw [hj] at hx'
        cases hx'
        obtain ⟨cA, yv, rfl, hc, hy⟩ := part_at hpart
        have ets : (ps.take (j + 1)).flatMap (fun p => (lessOf p).map fun x => (r.n, x)) = (ps.take j).flatMap (fun p => (lessOf p).map fun x => (r.n, x)) ++ (lessOf ps[j]).map fun x => (r.n, x) := by
          rw [take_snoc hp1, List.flatMap_append]
          simp
        have bd2 : (comparedIn (rs.take i)).length + ((ps.take j).flatMap fun p => (lessOf p).map fun x => (r.n, x)).length ≤ 500000 := by
          refine Nat.le_trans ?_ bd
          have e4 : (ps.flatMap fun p => (lessOf p).map fun x => (r.n, x)) = (ps.take j).flatMap (fun p => (lessOf p).map fun x => (r.n, x)) ++ (ps.drop j).flatMap fun p => (lessOf p).map fun x => (r.n, x) := by
            rw [← List.flatMap_append, List.take_append_drop]
          rw [e4, List.length_append]
          omega
        generalize ps[j] = pp at hy ets hc
        have lf := hfv.length
        rw [List.length_append] at lf
        refine ⟨cA, _, rfl, SqT.of (sx _ _ hc), rfl, _, _, rfl, _, _, rfl, rfl, ?_⟩
        obtain ⟨a4, r4, rfl, ha4⟩ := as_word hy
        refine ⟨_, rfl, a4, _, _, _, rfl, rfl, SqT.of (sx _ _ ha4), atI_nat (j := 0) rfl, rfl, _, rfl, ?_⟩
        rw [dec_str]
        refine if2 (fun c5 => ?_) (fun c5 => ?_)
        · obtain ⟨x1, x2, e5⟩ : ∃ x1 x2, pp.2 = .less x1 x2 := by
            have c5 := of_decide_eq_true c5
            cases e : pp.2 with
            | less x1 x2 => exact ⟨x1, x2, rfl⟩
            | frm _ => rw [e] at c5; exact absurd (show ("from" : Str) = "less" from c5) (by decide +kernel)
            | eq _ => rw [e] at c5; exact absurd (show ("equal" : Str) = "less" from c5) (by decide +kernel)
            | same _ _ => rw [e] at c5; exact absurd (show ("same" : Str) = "less" from c5) (by decide +kernel)
          have hy5 := hy
          rw [e5] at hy5
          obtain ⟨c6, e6, h6⟩ := as_less hy5
          cases e6
          have el : lessOf pp = ([x1, x2] : List Str).filter fun x => has regs x && !decide (x = "at") := by unfold lessOf; rw [e5]
          rw [el] at ets
          refine ⟨_, rfl, _, rfl, a4, _, rfl, SqT.of (sx _ _ h6), (fun z => absurd (show HT.sIx 3 0 (some 1) = 0 from z.1) (by decide)), fun tN ntN => ?_⟩
          have ec : cutV [V.str "less", V.str x1, V.str x2] (some 1) none = ([x1, x2] : List Str).map V.str := rfl
          rw [ec]
          have w1 := same_new ntN (.tup (([x1, x2] : List Str).map V.str))
          have q1 : (upd Hx tN (.tup (([x1, x2] : List Str).map V.str))) tN = some (.tup (([x1, x2] : List Str).map V.str)) := upd_same
          generalize upd Hx tN (.tup (([x1, x2] : List Str).map V.str)) = Hy at w1 q1 ⊢
          have ln : ([x1, x2] : List Str).length ≤ 2 := Nat.le_refl _
          generalize ([x1, x2] : List Str) = nms at ets q1 ln
          refine ⟨tN, rfl, ⟨_, SqT.of q1⟩, fun D nD => lc_tup (K := K) (a := tN) (xs := nms.map V.str) (fun k Hc => Hc D = some (.lst (((nms.take k).filter fun x => has regs x && !decide (x = "at")).map V.str)) ∧ Same Hy Hc)
            ⟨upd_same, same_new nD _⟩ (fun k Hc _ h => SqT.of (h.2 _ _ q1)) ?_ ?_⟩
          · rintro k x Hc hk ⟨hz, sc⟩
            obtain ⟨nm, hn1, rfl⟩ : ∃ nm, nms[k]? = some nm ∧ x = .str nm := by
              rw [List.getElem?_map] at hk
              cases e : nms[k]? with
              | none => rw [e] at hk; cases hk
              | some z => rw [e] at hk; exact ⟨z, rfl, (Option.some.inj hk).symm⟩
            have ef : ((nms.take (k + 1)).filter fun x => has regs x && !decide (x = "at")) = ((nms.take k).filter fun x => has regs x && !decide (x = "at")) ++ (if has regs nm && !decide (nm = "at") then [nm] else []) := by
              rw [take_snoc hn1, List.filter_append]
              congr 1
              by_cases c : (has regs nm && !decide (nm = "at")) = true
              · simp [c]
              · simp [c]
            have lfl : ((nms.take k).filter fun x => has regs x && !decide (x = "at")).length ≤ 2 := by
              refine Nat.le_trans (List.length_filter_le ..) (Nat.le_trans ?_ ln)
              rw [List.length_take]
              exact Nat.min_le_right _ _
            refine ⟨rfl, _, rfl, aR, _, rfl, .inr (cR _), rfl, flat_strs' _, _, rfl, ?_⟩
            refine if2 (fun c7 => ?_) (fun c7 => ?_)
            · have c7 : has regs nm = true := by rw [← inV_has]; exact c7
              rw [c7] at ef
              refine ⟨_, rfl, rfl, _, rfl, ?_⟩
              rw [dec_str]
              refine if2 (fun c8 => ?_) (fun c8 => ?_)
              · rw [c8] at ef
                refine ⟨_, rfl, _, hz, (by rw [List.length_map, sizeLine_eq]; omega), ?_, fun b o eb => ?_⟩
                · rw [ef, upd_same, List.map_append]
                  rfl
                · rw [upd_ne (ne_of_none eb nD)]
                  exact sc _ _ eb
              · rw [c8] at ef
                have ef : ((nms.take (k + 1)).filter fun x => has regs x && !decide (x = "at")) = ((nms.take k).filter fun x => has regs x && !decide (x = "at")) := by rw [ef]; exact List.append_nil _
                rw [ef]
                exact ⟨hz, sc⟩
            · have c7 : has regs nm = false := by rw [← inV_has]; exact c7
              rw [c7] at ef
              have ef : ((nms.take (k + 1)).filter fun x => has regs x && !decide (x = "at")) = ((nms.take k).filter fun x => has regs x && !decide (x = "at")) := by rw [ef]; exact List.append_nil _
              refine ifF rfl ?_
              rw [ef]
              exact ⟨hz, sc⟩
          · rintro Hd ⟨hz, sd⟩
            rw [List.length_map, List.take_length] at hz
            have lfl : (nms.filter fun x => has regs x && !decide (x = "at")).length ≤ 2 := Nat.le_trans (List.length_filter_le ..) ln
            generalize (nms.filter fun x => has regs x && !decide (x = "at")) = fl at hz ets lfl
            have sxd : Same Hx Hd := w1.trans sd
            have hfd := sxd _ _ hf
            refine ⟨_, rfl, .inl ⟨rfl, _, SqL.of hfd⟩, _, rfl, D, rfl, ⟨_, SqL.of hz⟩, fun D2 nD2 => lc_list (K := K) (a := D) (xs := fl.map V.str) (fun k Hc => ∃ zs, Hc D2 = some (.lst zs) ∧ Paired (PrAt Hc) ((fl.take k).map fun x => (r.n, x)) zs ∧ Same Hd Hc)
              ⟨[], upd_same, .nil, same_new nD2 _⟩ (fun k Hc _ ⟨_, _, _, s⟩ => SqL.of (s _ _ hz)) ?_ ?_⟩
            · rintro k x Hc hk ⟨zs, hzs, hpz, sc⟩
              obtain ⟨nm, hn1, rfl⟩ : ∃ nm, fl[k]? = some nm ∧ x = .str nm := by
                rw [List.getElem?_map] at hk
                cases e : fl[k]? with
                | none => rw [e] at hk; cases hk
                | some z => rw [e] at hk; exact ⟨z, rfl, (Option.some.inj hk).symm⟩
              have lz : zs.length ≤ 2 := by
                rw [← hpz.length, List.length_map]
                refine Nat.le_trans ?_ lfl
                rw [List.length_take]
                exact Nat.min_le_right _ _
              have sHc : Same H Hc := (sx.trans sxd).trans sc
              refine ⟨rfl, _, rfl, p, C, dx, _, _, rfl, sHc _ _ hpp, T.cl, T.n1, rf_number, _, rfl, (by show 2 ≤ sizeLine; decide), fun t nt => ?_⟩
              have w2 := same_new nt (.tup [.int ((r.n : Nat) : Int), .str nm])
              have q2 : (upd Hc t (.tup [.int ((r.n : Nat) : Int), .str nm])) t = some (.tup [.int ((r.n : Nat) : Int), .str nm]) := upd_same
              generalize upd Hc t (.tup [.int ((r.n : Nat) : Int), .str nm]) = H6 at w2 q2 ⊢
              have hz6 := w2 _ _ hzs
              have tu : Tps H6 (upd H6 D2 (.lst (zs ++ [.ref t]))) := tps_upd hz6 (fun _ z => by cases z)
              refine ⟨zs, hz6, (by rw [sizeLine_eq]; omega), zs ++ [.ref t], upd_same, ?_, fun b o eb => ?_⟩
              · rw [take_snoc hn1, List.map_append]
                exact pair_snoc (pr_tps tu (pr_tps (Tps.of w2) hpz)) ⟨t, rfl, tu _ _ q2⟩
              · rw [upd_ne (ne_of_none eb nD2)]
                exact w2 _ _ (sc _ _ eb)
            · rintro He ⟨zs, hzs, hpz, se⟩
              rw [List.length_map, List.take_length] at hpz
              have hfe := se _ _ hfd
              have lz : zs.length = fl.length := by rw [← hpz.length, List.length_map]
              have sHe : Same H He := (sx.trans sxd).trans se
              refine ⟨fA, D2, _, _, rfl, rfl, hfe, hzs, (by rw [sizeLine_eq]; omega), ?_⟩
              have tu : Tps He (upd He fA (.lst (fvs ++ zs))) := tps_upd hfe (fun _ z => by cases z)
              refine ⟨fvs ++ zs, _, _, _, _, rfl, fun b o eb => ?_, upd_same, ?_⟩
              · rw [upd_ne (ne_of_none eb nf)]
                exact sHe _ _ eb
              · rw [ets, ← List.append_assoc]
                exact pair_app (pr_tps tu (pr_tps (Tps.of (sxd.trans se)) hfv)) (pr_tps tu hpz)
        · have el : lessOf pp = [] := by
            have c5 : ¬ pp.2.word = "less" := of_decide_eq_false c5
            unfold lessOf
            cases e : pp.2 with
            | less x1 x2 => rw [e] at c5; exact absurd rfl c5
            | _ => rfl
          rw [el, List.map_nil, List.append_nil] at ets
          refine ⟨fvs, _, _, _, _, rfl, sx, hf, ?_⟩
          rw [ets]
          exact hfv
      · rintro σ Hx ⟨fvs, v3, v4, v5, v6, rfl, sx, hf, hfv⟩
        have : pxs.length = ps.length := by rw [hps.len, List.length_map]
        rw [this, List.take_length] at hfv
        refine ⟨fvs, _, _, _, _, _, rfl, sx, hf, ?_⟩
        rw [es]
        exact hfv
  · rintro σ H' ⟨fvs, v2, v3, v4, v5, v6, rfl, sm, hf, hfv⟩
    have hl : xs.length = rs.length := hrs.length.symm
    rw [hl, List.take_length] at hfv
    exact ⟨_, rfl, q fA fvs H' sm nf hf hfv⟩
end
end K01
namespace Ln
open PySem PySem.Spec PyProof.Rows L2 Xc Dt
abbrev Lk := (Bool × Bool) × List R1 × List Nat
def Rws.look : Rws → Bool × Bool → List R1 → List Nat → Lk
  | .nil, c, s, l => (c, s, l)
  | .cons n sd b o e r, c, s, l =>
    if c.1 = false then (c, s, l)
    else
      let s1 := s ++ [⟨n, sd, b, o, e⟩]
      let l1 := if c.2 then l ++ [n] else l
      let k : Lk := if sd.word = "go" then ((true, true), s1, l1) else if has ["stop", "quit"] sd.word then ((false, false), s1, l1) else if sd.word = "if" then
          (let k1 := b.look c s1 l1
           let k2 := o.look c k1.2.1 k1.2.2
           ((k1.1.1 || k2.1.1, k1.1.2 || k2.1.2), k2.2.1, k2.2.2))
        else (c, s1, l1)
      r.look k.1 k.2.1 k.2.2
def R1.behind (r : R1) (c : Bool × Bool) (s : List R1) (l : List Nat) : Lk :=
  if r.s.word = "go" then ((true, true), s, l) else if has ["stop", "quit"] r.s.word then ((false, false), s, l) else if r.s.word = "if" then
    (((r.b.look c s l).1.1 || (r.o.look c (r.b.look c s l).2.1 (r.b.look c s l).2.2).1.1, (r.b.look c s l).1.2 || (r.o.look c (r.b.look c s l).2.1 (r.b.look c s l).2.2).1.2), (r.o.look c (r.b.look c s l).2.1 (r.b.look c s l).2.2).2.1, (r.o.look c (r.b.look c s l).2.1 (r.b.look c s l).2.2).2.2)
  else (c, s, l)
theorem look_cons {n : Nat} {sd : Sd} {b o : Rws} {e : Bool} {r : Rws} {c : Bool × Bool} {s : List R1} {l : List Nat} (h : c.1 = true) :
    (Rws.cons n sd b o e r).look c s l = r.look ((R1.mk n sd b o e).behind c (s ++ [⟨n, sd, b, o, e⟩]) (if c.2 then l ++ [n] else l)).1 ((R1.mk n sd b o e).behind c (s ++ [⟨n, sd, b, o, e⟩]) (if c.2 then l ++ [n] else l)).2.1 ((R1.mk n sd b o e).behind c (s ++ [⟨n, sd, b, o, e⟩]) (if c.2 then l ++ [n] else l)).2.2 := by
  rw [Rws.look]
  rw [if_neg (by rw [h]; decide)]
  rfl
theorem look_stop {b : Rws} {c : Bool × Bool} {s : List R1} {l : List Nat} (h : c.1 = false) : b.look c s l = (c, s, l) := by
  cases b with
  | nil => rw [Rws.look]
  | cons n sd b o e r => rw [Rws.look, if_pos h]
theorem look_bd : ∀ (b : Rws) (c : Bool × Bool) (s : List R1) (l : List Nat), (b.look c s l).2.1.length ≤ s.length + b.tot ∧ (b.look c s l).2.2.length ≤ l.length + b.tot
  | .nil, c, s, l => by rw [Rws.look]; exact ⟨Nat.le_refl _, Nat.le_refl _⟩
  | .cons n sd b o e r, c, s, l => by
    have et : (Rws.cons n sd b o e r).tot = 1 + b.tot + o.tot + r.tot := rfl
    cases hc : c.1 with
    | false =>
      rw [look_stop hc]
      exact ⟨Nat.le_add_right _ _, Nat.le_add_right _ _⟩
    | true =>
      rw [look_cons hc, et]
      have hs1 : (s ++ [(⟨n, sd, b, o, e⟩ : R1)]).length = s.length + 1 := by rw [List.length_append]; rfl
      have hl1 : (if c.2 then l ++ [n] else l).length ≤ l.length + 1 := by
        split
        · rw [List.length_append]; exact Nat.le_refl _
        · omega
      generalize (s ++ [(⟨n, sd, b, o, e⟩ : R1)]) = s1 at hs1
      generalize (if c.2 then l ++ [n] else l) = l1 at hl1
      have key : ((R1.mk n sd b o e).behind c s1 l1).2.1.length ≤ s1.length + b.tot + o.tot ∧ ((R1.mk n sd b o e).behind c s1 l1).2.2.length ≤ l1.length + b.tot + o.tot := by
        have b1 := look_bd b c s1 l1
        have b2 := look_bd o c (b.look c s1 l1).2.1 (b.look c s1 l1).2.2
        unfold R1.behind
        split
        · exact ⟨by show s1.length ≤ _; omega, by show l1.length ≤ _; omega⟩
        · split
          · exact ⟨by show s1.length ≤ _; omega, by show l1.length ≤ _; omega⟩
          · split
            · exact ⟨by show (o.look c (b.look c s1 l1).2.1 (b.look c s1 l1).2.2).2.1.length ≤ _; omega, by show (o.look c (b.look c s1 l1).2.1 (b.look c s1 l1).2.2).2.2.length ≤ _; omega⟩
            · exact ⟨by show s1.length ≤ _; omega, by show l1.length ≤ _; omega⟩
      have b3 := look_bd r ((R1.mk n sd b o e).behind c s1 l1).1 ((R1.mk n sd b o e).behind c s1 l1).2.1 ((R1.mk n sd b o e).behind c s1 l1).2.2
      omega
theorem behind_bd (r : R1) (c : Bool × Bool) (s : List R1) (l : List Nat) : (r.behind c s l).2.1.length ≤ s.length + (r.b.tot + r.o.tot) ∧ (r.behind c s l).2.2.length ≤ l.length + (r.b.tot + r.o.tot) := by
  have b1 := look_bd r.b c s l
  have b2 := look_bd r.o c (r.b.look c s l).2.1 (r.b.look c s l).2.2
  unfold R1.behind
  split
  · exact ⟨by show s.length ≤ _; omega, by show l.length ≤ _; omega⟩
  · split
    · exact ⟨by show s.length ≤ _; omega, by show l.length ≤ _; omega⟩
    · split
      · exact ⟨by show (r.o.look c (r.b.look c s l).2.1 (r.b.look c s l).2.2).2.1.length ≤ _; omega, by show (r.o.look c (r.b.look c s l).2.1 (r.b.look c s l).2.2).2.2.length ≤ _; omega⟩
      · exact ⟨by show s.length ≤ _; omega, by show l.length ≤ _; omega⟩
def CoAt (H : Hp) (c : Bool × Bool) (v : V) : Prop := ∃ t, v = .ref t ∧ H t = some (.tup [.bl c.1, .bl c.2])
/-- the lists seen at sA and late at lA, the rows as they stood in Hb -/
structure LkAt (C : Addr) (Hb H : Hp) (sA lA : Addr) (s : List R1) (l : List Nat) : Prop where
  same : Same Hb H
  ns : Hb sA = none
  nl : Hb lA = none
  ne : sA ≠ lA
  hs : ∃ svs, H sA = some (.lst svs) ∧ Paired (RowAt C Hb) s svs
  hl : H lA = some (.lst (K01.nts l))
theorem LkAt.mono {C : Addr} {Hb H H' : Hp} {sA lA : Addr} {s : List R1} {l : List Nat} (h : LkAt C Hb H sA lA s l) (t : Same H H') : LkAt C Hb H' sA lA s l := by
  obtain ⟨a, b, c, d, ⟨svs, e1, e2⟩, f⟩ := h
  exact ⟨a.trans t, b, c, d, ⟨svs, t _ _ e1, e2⟩, t _ _ f⟩
end Ln
namespace K01
open PySem PySem.Spec PyProof.Rows L2 Xc Dt Ln Eo
section
variable {P : Program} {w : World} {K : PySem.W.Frag} {mg : Str → Option Value} {base : Heap} {f : Addr} {fd : FuncData}
def spLook (C : Addr) (n : Nat) : Sp := fun vs H Q _ => ∃ (Hb : Hp) (L sA lA : Addr) (b : Rws) (xs : List V) (cv : V) (c : Bool × Bool) (s : List R1) (l : List Nat), vs = [.ref L, cv, .ref sA, .ref lA] ∧ Hb L = some (.lst xs) ∧ IsBlk C (fun _ => True) Hb b xs ∧ b.dep < n ∧ CoAt H c cv ∧ LkAt C Hb H sA lA s l ∧ s.length + b.tot ≤ 3000 ∧ l.length + b.tot ≤ 3000 ∧
  ∀ (v : V) (H' : Hp), Kp [sA, lA] H H' → Tps H H' → CoAt H' (b.look c s l).1 v → LkAt C Hb H' sA lA (b.look c s l).2.1 (b.look c s l).2.2 → Q v H'
def spBehind (C : Addr) (n : Nat) : Sp := fun vs H Q _ => ∃ (Hb : Hp) (sA lA : Addr) (r : R1) (rv cv : V) (c : Bool × Bool) (s : List R1) (l : List Nat), vs = [rv, cv, .ref sA, .ref lA] ∧ RowAt C Hb r rv ∧ max r.b.dep r.o.dep < n ∧ CoAt H c cv ∧ LkAt C Hb H sA lA s l ∧ s.length + (r.b.tot + r.o.tot) ≤ 3000 ∧ l.length + (r.b.tot + r.o.tot) ≤ 3000 ∧
  ∀ (v : V) (H' : Hp), Kp [sA, lA] H H' → Tps H H' → CoAt H' (r.behind c s l).1 v → LkAt C Hb H' sA lA (r.behind c s l).2.1 (r.behind c s l).2.2 → Q v H'
theorem sc68 : FnScope ["row", "come", "seen", "late", "word", "one", "other"] ["row", "come", "seen", "late"] (defScope (top 68)) := ⟨rfl, rfl, rfl, by decide +kernel, rfl, by decide +kernel, by decide +kernel⟩
theorem behind_step {C gL : Addr} {dL : FuncData} {n : Nat} (F : Fun K "behind_row" "behind_row" (top 68) f fd) (T : RowT K mg C) (GL : FnOk P w K mg base CX0 (2 * n) gL dL ["block", "come", "seen", "late"] (spLook C n)) (bGL : Binds K dL ["block", "come", "seen", "late"] []) (kGL : PySem.W.keepIn K (.ref gL) = true) (mGL : mg "look_through" = some (.ref gL)) :
    FnOk P w K mg base CX0 (2 * n + 1) f fd ["row", "come", "seen", "late"] (spBehind C n) := by
  refine F.ok sc68 (fun vs H Q E h => ?_) (fun cdv A outer s H vs Q E hr h => ?_)
  · obtain ⟨Hb, sA, lA, r, rv, cv, c, s', l, rfl, _⟩ := h
    rfl
  obtain ⟨Hb, sA, lA, r, rv, cv, c, s', l, rfl, hrow, hd, hc, hk, hs1, hl1, q⟩ := h
  refine ⟨_, (pss_cons (ps_set (i := 4) sc68.nd rfl (.inl rfl) (pe_ix ix_tup (pe_fld (pv 0) rfl) pe_int (fun _ _ => rfl)))
  (pss_cons (ps_if (pt_cmpR op_eq (pv 4) pe_str (nomark _))
  (pss_one (ps_ret (pe_tup (pa_cons pe_bl (pa_cons pe_bl pa_nil)))))
  pss_nil)
  (pss_cons (ps_if (pt_cmpR (show OpR _ _ (rIn K false) from op_in_seq) (pv 4) (pe_tup (pa_cons pe_str (pa_cons pe_str pa_nil))) (by rfl))
  (pss_one (ps_ret (pe_tup (pa_cons pe_bl (pa_cons pe_bl pa_nil)))))
  pss_nil)
  (pss_cons (ps_if (pt_cmpR op_ne (pv 4) pe_str (nomark _))
  (pss_one (ps_ret (pv 1)))
  pss_nil)
  (pss_cons (ps_set (i := 5) sc68.nd rfl (.inl rfl) (pe_call GL hr rfl mGL kGL bGL .nil pass0 (pa_cons (pe_fld (pv 0) rfl) (pa_cons (pv 1) (pa_cons (pv 2) (pa_cons (pv 3) pa_nil))))))
  (pss_cons (ps_set (i := 6) sc68.nd rfl (.inl rfl) (pe_call GL hr rfl mGL kGL bGL .nil pass0 (pa_cons (pe_fld (pv 0) rfl) (pa_cons (pv 1) (pa_cons (pv 2) (pa_cons (pv 3) pa_nil))))))
  (pss_one (ps_ret (pe_tup (pa_cons (pe_or (pe_ix ix_tup (pv 5) pe_int (fun _ _ => rfl)) (pe_one (pe_ix ix_tup (pv 6) pe_int (fun _ _ => rfl)))) (pa_cons (pe_or (pe_ix ix_tup (pv 5) pe_int (fun _ _ => rfl)) (pe_one (pe_ix ix_tup (pv 6) pe_int (fun _ _ => rfl)))) pa_nil))))))))))), ?_⟩
  obtain ⟨p, dx, sv, lb, lo, xb, xo, rfl, hp, hs, hb, ib, ho, io⟩ := hrow
  obtain ⟨a, r2, rfl, ha⟩ := sd_word hs
  have sb := hk.same
  have sz2 : 2 ≤ sizeLine := by decide
  refine ⟨_, rfl, p, C, dx, _, _, rfl, sb _ _ hp, T.cl, T.n2, rf_said, a, _, _, _, rfl, rfl, SqT.of (sb _ _ ha), atI_nat (j := 0) rfl, ?_⟩
  refine ⟨_, rfl, rfl, _, rfl, ?_⟩
  rw [dec_str]
  unfold R1.behind at q
  refine if2 (fun c1 => ?_) (fun c1 => ?_)
  · rw [if_pos (of_decide_eq_true c1)] at q
    refine ⟨sz2, fun t nt => ?_⟩
    have u := same_new nt (.tup [.bl true, .bl true])
    exact q _ _ (fun x o _ e => u x o e) (Tps.of u) ⟨t, rfl, upd_same⟩ (hk.mono u)
  rw [if_neg (of_decide_eq_false c1)] at q
  refine ⟨_, rfl, sz2, fun t1 nt1 => ?_⟩
  have u1 := same_new nt1 (.tup [.str "stop", .str "quit"])
  have m1 : (upd H t1 (.tup [.str "stop", .str "quit"])) t1 = some (.tup ((["stop", "quit"] : List Str).map V.str)) := upd_same
  generalize upd H t1 (.tup [.str "stop", .str "quit"]) = H1 at u1 m1 ⊢
  refine ⟨t1, _, rfl, .inr (SqT.of m1), rfl, flat_strs' _, _, rfl, ?_⟩
  have hc1 : CoAt H1 c cv := by
    obtain ⟨t, e, k⟩ := hc
    exact ⟨t, e, u1 _ _ k⟩
  have hk1 := hk.mono u1
  refine if2 (fun c2 => ?_) (fun c2 => ?_)
  · have c2 : has ["stop", "quit"] r.s.word = true := by rw [← inV_has]; exact c2
    rw [if_pos c2] at q
    refine ⟨sz2, fun t nt => ?_⟩
    have u := same_new nt (.tup [.bl false, .bl false])
    exact q _ _ (fun x o _ e => u x o (u1 x o e)) (Tps.of (u1.trans u)) ⟨t, rfl, upd_same⟩ (hk1.mono u)
  have c2 : has ["stop", "quit"] r.s.word = false := by rw [← inV_has]; exact c2
  rw [if_neg (by rw [c2]; exact Bool.false_ne_true)] at q
  refine ⟨_, rfl, rfl, _, rfl, ?_⟩
  rw [dec_str]
  by_cases c3 : r.s.word = "if"
  · rw [if_pos c3] at q
    rw [decide_eq_true c3]
    have sb1 := hk1.same
    refine ifF rfl ⟨_, rfl, p, C, dx, _, _, rfl, sb1 _ _ hp, T.cl, T.n3, rf_body, _, rfl, _, rfl, _, rfl, Hb, lb, sA, lA, r.b, xb, cv, c, s', l, rfl, hb, ib, by omega, hc1, hk1, by omega, by omega, fun v2 H2 k2 t2 co2 hk2 => ?_⟩
    have hc2 : CoAt H2 c cv := by
      obtain ⟨t, e, k⟩ := hc1
      exact ⟨t, e, t2 _ _ k⟩
    have bd := look_bd r.b c s' l
    refine ⟨_, rfl, p, C, dx, _, _, rfl, hk2.same _ _ hp, T.cl, T.n4, rf_other, _, rfl, _, rfl, _, rfl, Hb, lo, sA, lA, r.o, xo, cv, c, _, _, rfl, ho, io, by omega, hc2, hk2, by omega, by omega, fun v3 H3 k3 t3 co3 hk3 => ?_⟩
    obtain ⟨a2, rfl, h2⟩ := co2
    obtain ⟨a3, rfl, h3⟩ := co3
    have h2 := t3 _ _ h2
    have kk : Kp [sA, lA] H H3 := fun x o hx e => k3 x o hx (k2 x o hx (u1 x o e))
    have tt := ((Tps.of u1).trans t2).trans t3
    generalize r.b.look c s' l = k1 at q h2 h3 hk3 bd hk2
    generalize r.o.look c k1.2.1 k1.2.2 = k4 at q h3 hk3
    have fin : ∀ (x y : Bool), x = (k1.1.1 || k4.1.1) → y = (k1.1.2 || k4.1.2) → ∀ t, H3 t = none → Q (.ref t) (upd H3 t (.tup [.bl x, .bl y])) := by
      rintro x y rfl rfl t nt
      have u := same_new nt (.tup [.bl (k1.1.1 || k4.1.1), .bl (k1.1.2 || k4.1.2)])
      exact q _ _ (fun z o hz e => u z o (kk z o hz e)) (tt.trans (Tps.of u)) ⟨t, rfl, upd_same⟩ (hk3.mono u)
    refine ⟨_, rfl, a2, _, _, _, rfl, rfl, SqT.of h2, atI_nat (j := 0) rfl, _, rfl, ?_⟩
    cases e1 : k1.1.1 with
    | true =>
      refine ifT rfl ⟨_, rfl, a2, _, _, _, rfl, rfl, SqT.of h2, atI_nat (j := 1) rfl, _, rfl, ?_⟩
      cases e2 : k1.1.2 with
      | true => exact ifT rfl ⟨sz2, fun t nt => fin true true (by rw [e1]; rfl) (by rw [e2]; rfl) t nt⟩
      | false => exact ifF rfl ⟨_, rfl, a3, _, _, _, rfl, rfl, SqT.of h3, atI_nat (j := 1) rfl, sz2, fun t nt => fin true k4.1.2 (by rw [e1]; rfl) (by rw [e2]; rfl) t nt⟩
    | false =>
      refine ifF rfl ⟨_, rfl, a3, _, _, _, rfl, rfl, SqT.of h3, atI_nat (j := 0) rfl, _, rfl, a2, _, _, _, rfl, rfl, SqT.of h2, atI_nat (j := 1) rfl, _, rfl, ?_⟩
      cases e2 : k1.1.2 with
      | true => exact ifT rfl ⟨sz2, fun t nt => fin k4.1.1 true (by rw [e1]; rfl) (by rw [e2]; rfl) t nt⟩
      | false => exact ifF rfl ⟨_, rfl, a3, _, _, _, rfl, rfl, SqT.of h3, atI_nat (j := 1) rfl, sz2, fun t nt => fin k4.1.1 k4.1.2 (by rw [e1]; rfl) (by rw [e2]; rfl) t nt⟩
  · rw [if_neg c3] at q
    rw [decide_eq_false c3]
    exact ifT rfl ⟨_, rfl, q _ _ (fun x o _ e => u1 x o e) (Tps.of u1) hc1 hk1⟩
theorem sc67 : FnScope ["block", "come", "seen", "late", "row"] ["block", "come", "seen", "late"] (defScope (top 67)) := ⟨rfl, rfl, rfl, by decide +kernel, rfl, by decide +kernel, by decide +kernel⟩
theorem look_none {C : Addr} : FnOk P w K mg base CX0 0 f fd ["block", "come", "seen", "late"] (spLook C 0) := by
  have no : ∀ vs H Q E, ¬ spLook C 0 vs H Q E := by
    rintro vs H Q E ⟨Hb, L, sA, lA, b, xs, cv, c, s, l, _, _, _, h, _⟩
    exact absurd h (Nat.not_lt_zero _)
  exact ⟨fun vs H Q E h => absurd h (no vs H Q E), fun A outer s H args us vs Q E _ _ _ _ h => absurd h (no vs H Q E)⟩
theorem look_step {C gB : Addr} {dB : FuncData} {n : Nat} (F : Fun K "look_through" "look_through" (top 67) f fd) (T : RowT K mg C) (GB : FnOk P w K mg base CX0 (2 * n + 1) gB dB ["row", "come", "seen", "late"] (spBehind C n)) (bGB : Binds K dB ["row", "come", "seen", "late"] []) (kGB : PySem.W.keepIn K (.ref gB) = true) (mGB : mg "behind_row" = some (.ref gB)) :
    FnOk P w K mg base CX0 (2 * (n + 1)) f fd ["block", "come", "seen", "late"] (spLook C (n + 1)) := by
  refine F.ok sc67 (fun vs H Q E h => ?_) (fun cdv A outer s H vs Q E hr h => ?_)
  · obtain ⟨Hb, L, sA, lA, b, xs, cv, c, s', l, rfl, _⟩ := h
    rfl
  obtain ⟨Hb, L, sA, lA, b, xs, cv, c, s', l, rfl, hL, ib, hd, hc, hk, hs1, hl1, q⟩ := h
  refine ⟨_, (pss_cons (ps_for PassesOwn.never rfl (pi_list (pv 0)) (pg_name (i := 4) sc67.nd rfl (.inl rfl))
  (pss_cons (ps_if (pt_not (pt_val (pe_ix ix_tup (pv 1) pe_int (fun _ _ => rfl))))
    (pss_one (ps_ret (pv 1)))
    pss_nil)
    (pss_cons (ps_expr (pe_bm PySem.F.plainAttrs_list PySem.F.slot_list_append PySem.F.type_list_append mt_append (pv 2) (pa_cons (pv 4) pa_nil)))
    (pss_cons (ps_if (pt_val (pe_ix ix_tup (pv 1) pe_int (fun _ _ => rfl)))
    (pss_one (ps_expr (pe_bm PySem.F.plainAttrs_list PySem.F.slot_list_append PySem.F.type_list_append mt_append (pv 3) (pa_cons (pe_fld (pv 4) rfl) pa_nil))))
    pss_nil)
    (pss_one (ps_set (i := 1) sc67.nd rfl (.inl rfl) (pe_call GB hr rfl mGB kGB bGB .nil pass0 (pa_cons (pv 4) (pa_cons (pv 1) (pa_cons (pv 2) (pa_cons (pv 3) pa_nil)))))))))))
  (pss_one (ps_ret (pv 1)))), ?_⟩
  refine ⟨_, rfl, L, rfl, ⟨_, SqL.of (hk.same _ _ hL)⟩, for_list (K := K) (a := L) (xs := xs) (fun i σ H' => ∃ (b' : Rws) (cv : V) (c2 : Bool × Bool) (s2 : List R1) (l2 : List Nat) (v4 : Option V), σ = [some (.ref L), some cv, some (.ref sA), some (.ref lA), v4] ∧ Kp [sA, lA] H H' ∧ Tps H H' ∧ IsBlk C (fun _ => True) Hb b' (xs.drop i) ∧ CoAt H' c2 cv ∧ LkAt C Hb H' sA lA s2 l2 ∧ b'.look c2 s2 l2 = b.look c s' l ∧ b'.dep ≤ b.dep ∧ s2.length + b'.tot ≤ 3000 ∧ l2.length + b'.tot ≤ 3000)
    ⟨b, cv, c, s', l, none, rfl, Kp.refl, (fun _ _ e => e), ib, hc, hk, rfl, Nat.le_refl _, hs1, hl1⟩ (fun i σ H' _ h => by obtain ⟨b', cv, c2, s2, l2, v4, _, _, _, _, _, k, _⟩ := h; exact SqL.of (k.same _ _ hL)) ?_ ?_⟩
  · rintro i y σ H' hi ⟨b', cv, c2, s2, l2, v4, rfl, kp, tp, ib', hc2, hk2, el, hd', hs2, hl2⟩
    rw [drop_cons hi] at ib'
    obtain ⟨n', sd, bb, oo, e, b'', p, dx, sv, lb, lo, xb, xo, rfl, rfl, hp, hs, hb, ibb, ho, ioo, ib''⟩ := ib'.uncons
    have hdd : max (1 + max bb.dep oo.dep) b''.dep ≤ b.dep := hd'
    have hs2 : s2.length + (1 + bb.tot + oo.tot + b''.tot) ≤ 3000 := hs2
    have hl2 : l2.length + (1 + bb.tot + oo.tot + b''.tot) ≤ 3000 := hl2
    have hrow : RowAt C Hb ⟨n', sd, bb, oo, e⟩ (.ref p) := ⟨p, dx, sv, lb, lo, xb, xo, rfl, hp, hs, hb, ibb, ho, ioo⟩
    obtain ⟨ct, rfl, hct⟩ := hc2
    refine ⟨_, rfl, ct, _, _, _, rfl, rfl, SqT.of hct, atI_nat (j := 0) rfl, _, rfl, ?_⟩
    cases e1 : c2.1 with
    | false =>
      rw [look_stop e1] at el
      rw [← el] at q
      exact ifT rfl ⟨_, rfl, q _ _ kp tp ⟨ct, rfl, hct⟩ hk2⟩
    | true =>
      rw [look_cons e1] at el
      obtain ⟨sm2, ns, nl, ne, ⟨svs, hsA, hsv⟩, hlA⟩ := hk2
      have lsv : svs.length = s2.length := hsv.length.symm
      refine ifF rfl ⟨_, rfl, .inl ⟨rfl, _, SqL.of hsA⟩, _, rfl, sA, _, _, rfl, rfl, hsA, (by rw [sizeLine_eq]; omega), ?_⟩
      have hsA1 : (upd H' sA (.lst (svs ++ [.ref p]))) sA = some (.lst (svs ++ [.ref p])) := upd_same
      have hlA1 : (upd H' sA (.lst (svs ++ [.ref p]))) lA = some (.lst (nts l2)) := by rw [upd_ne ne.symm]; exact hlA
      have k1 : Kp [sA, lA] H (upd H' sA (.lst (svs ++ [.ref p]))) := kp.upd (by simp)
      have t1 : Tps H' (upd H' sA (.lst (svs ++ [.ref p]))) := tps_upd hsA (fun _ z => by cases z)
      have sb1 : Same Hb (upd H' sA (.lst (svs ++ [.ref p]))) := fun x o ex => by rw [upd_ne (ne_of_none ex ns)]; exact sm2 _ _ ex
      generalize upd H' sA (.lst (svs ++ [.ref p])) = H1 at hsA1 hlA1 k1 t1 sb1 ⊢
      have hct1 := t1 _ _ hct
      have sv1 : Paired (RowAt C Hb) (s2 ++ [⟨n', sd, bb, oo, e⟩]) (svs ++ [.ref p]) := pair_snoc hsv hrow
      have ls1 : (s2 ++ [(⟨n', sd, bb, oo, e⟩ : R1)]).length = s2.length + 1 := by rw [List.length_append]; rfl
      generalize (s2 ++ [(⟨n', sd, bb, oo, e⟩ : R1)]) = s3 at el sv1 ls1
      refine ⟨_, rfl, ct, _, _, _, rfl, rfl, SqT.of hct1, atI_nat (j := 1) rfl, _, rfl, ?_⟩
      have st1 : LkAt C Hb H1 sA lA s3 l2 := ⟨sb1, ns, nl, ne, ⟨_, hsA1, sv1⟩, hlA1⟩
      have tp1 : Tps H H1 := tp.trans t1
      cases e2 : c2.2 with
      | true =>
        have el2 : (if c2.2 then l2 ++ [n'] else l2) = l2 ++ [n'] := by rw [e2]; rfl
        rw [el2] at el
        have hp1 := sb1 _ _ hp
        refine ifT rfl ⟨_, rfl, .inl ⟨rfl, _, SqL.of hlA1⟩, _, rfl, p, C, dx, _, _, rfl, hp1, T.cl, T.n1, rf_number, lA, _, _, rfl, rfl, hlA1, (by rw [List.length_map, sizeLine_eq]; omega), ?_⟩
        have k2 : Kp [sA, lA] H (upd H1 lA (.lst (nts l2 ++ [.int ((n' : Nat) : Int)]))) := k1.upd (by simp)
        have t2 : Tps H1 (upd H1 lA (.lst (nts l2 ++ [.int ((n' : Nat) : Int)]))) := tps_upd hlA1 (fun _ z => by cases z)
        have st2 : LkAt C Hb (upd H1 lA (.lst (nts l2 ++ [.int ((n' : Nat) : Int)]))) sA lA s3 (l2 ++ [n']) := ⟨fun x o ex => by rw [upd_ne (ne_of_none ex nl)]; exact sb1 _ _ ex, ns, nl, ne, ⟨_, by rw [upd_ne ne]; exact hsA1, sv1⟩, by rw [upd_same, nts_snoc]⟩
        generalize upd H1 lA (.lst (nts l2 ++ [.int ((n' : Nat) : Int)])) = H2 at k2 t2 st2 ⊢
        have ll : (l2 ++ [n']).length = l2.length + 1 := by rw [List.length_append]; rfl
        generalize (l2 ++ [n']) = l3 at el st2 ll
        refine ⟨_, rfl, _, rfl, _, rfl, _, rfl, Hb, sA, lA, ⟨n', sd, bb, oo, e⟩, .ref p, .ref ct, c2, s3, l3, rfl, hrow, (by show max bb.dep oo.dep < n; omega), ⟨ct, rfl, t2 _ _ hct1⟩, st2, (by show s3.length + (bb.tot + oo.tot) ≤ 3000; omega), (by show l3.length + (bb.tot + oo.tot) ≤ 3000; omega), fun v H3 k3 t3 co3 st3 => ?_⟩
        have bd1 : ((R1.mk n' sd bb oo e).behind c2 s3 l3).2.1.length ≤ s3.length + (bb.tot + oo.tot) ∧ ((R1.mk n' sd bb oo e).behind c2 s3 l3).2.2.length ≤ l3.length + (bb.tot + oo.tot) := behind_bd ⟨n', sd, bb, oo, e⟩ c2 s3 l3
        exact ⟨b'', v, _, _, _, _, rfl, fun x o hx ex => k3 x o hx (k2 x o hx ex), (tp1.trans t2).trans t3, ib'', co3, st3, el, by omega, by omega, by omega⟩
      | false =>
        have el2 : (if c2.2 then l2 ++ [n'] else l2) = l2 := by rw [e2]; rfl
        rw [el2] at el
        refine ifF rfl ⟨_, rfl, _, rfl, _, rfl, _, rfl, Hb, sA, lA, ⟨n', sd, bb, oo, e⟩, .ref p, .ref ct, c2, s3, l2, rfl, hrow, (by show max bb.dep oo.dep < n; omega), ⟨ct, rfl, hct1⟩, st1, (by show s3.length + (bb.tot + oo.tot) ≤ 3000; omega), (by show l2.length + (bb.tot + oo.tot) ≤ 3000; omega), fun v H3 k3 t3 co3 st3 => ?_⟩
        have bd1 : ((R1.mk n' sd bb oo e).behind c2 s3 l2).2.1.length ≤ s3.length + (bb.tot + oo.tot) ∧ ((R1.mk n' sd bb oo e).behind c2 s3 l2).2.2.length ≤ l2.length + (bb.tot + oo.tot) := behind_bd ⟨n', sd, bb, oo, e⟩ c2 s3 l2
        exact ⟨b'', v, _, _, _, _, rfl, fun x o hx ex => k3 x o hx (k1 x o hx ex), tp1.trans t3, ib'', co3, st3, el, by omega, by omega, by omega⟩
  · rintro σ H' ⟨b', cv, c2, s2, l2, v4, rfl, kp, tp, ib', hc2, hk2, el, _⟩
    rw [List.drop_length] at ib'
    rw [ib'.nil_of, Rws.look] at el
    rw [← el] at q
    exact ⟨_, rfl, q _ _ kp tp hc2 hk2⟩
theorem look_all {C gB : Addr} {dB : FuncData} (F : Fun K "look_through" "look_through" (top 67) f fd) (FB : Fun K "behind_row" "behind_row" (top 68) gB dB) (T : RowT K mg C) (b : Binds K fd ["block", "come", "seen", "late"] []) (m : mg "look_through" = some (.ref f)) (bGB : Binds K dB ["row", "come", "seen", "late"] []) (mGB : mg "behind_row" = some (.ref gB)) : ∀ n : Nat, FnOk P w K mg base CX0 (2 * n) f fd ["block", "come", "seen", "late"] (spLook C n)
  | 0 => look_none
  | n + 1 => look_step F T (behind_step FB T (look_all F FB T b m bGB mGB n) b F.kp m) bGB FB.kp mGB
end
end K01
namespace Ln
open PySem PySem.Spec PyProof.Rows L2 Xc Dt
def keptIn (s : List R1) : List (Nat × Str) := s.filterMap fun r => match r.s with
  | .keep x => some (r.n, x)
  | _ => none
def bothOf (cmp kept : List (Nat × Str)) : List Nat := cmp.flatMap fun p => kept.filterMap fun q => if p.2 = q.2 then some (max p.1 q.1) else none
def seenIn (r : R1) : List R1 := (r.b.look (true, false) [] []).2.1
def faultsInLoop (r : R1) (alone : Bool) : List Nat :=
  (if alone then (r.b.look (true, false) [] []).2.2 ++ (comparedIn (r :: seenIn r)).map (·.1) else (r.b.look (true, false) [] []).2.2) ++ bothOf (comparedIn (r :: seenIn r)) (keptIn (seenIn r))
theorem look_wf : ∀ (b : Rws) (c : Bool × Bool) (s : List R1) (l : List Nat), b.wf → (∀ r ∈ s, r.wf) → ∀ r ∈ (b.look c s l).2.1, r.wf
  | .nil, c, s, l, _, h => by rw [Rws.look]; exact h
  | .cons n sd b o e r, c, s, l, w, h => by
    obtain ⟨w1, w2, w3, w4⟩ := w
    cases hc : c.1 with
    | false =>
      rw [look_stop hc]
      exact h
    | true =>
      rw [look_cons hc]
      refine look_wf r _ _ _ w4 ?_
      have hs1 : ∀ z ∈ s ++ [(⟨n, sd, b, o, e⟩ : R1)], z.wf := fun z hz => by
        rcases List.mem_append.mp hz with hz | hz
        · exact h z hz
        · rw [List.mem_singleton] at hz
          rw [hz]
          exact ⟨w1, w2, w3⟩
      generalize (s ++ [(⟨n, sd, b, o, e⟩ : R1)]) = s1 at hs1
      generalize (if c.2 then l ++ [n] else l) = l1
      unfold R1.behind
      split
      · exact hs1
      · split
        · exact hs1
        · split
          · exact look_wf o c _ _ w3 (look_wf b c s1 l1 w2 hs1)
          · exact hs1
theorem Sd.ok.keeps {s : Sd} (h : s.ok) (w : s.word = "keep") : ∃ x, s = .keep x := by
  cases s with
  | keep x => exact ⟨x, rfl⟩
  | one v =>
    have w : v = "keep" := w
    subst w
    have h : ("keep" : Str) ∈ (["quit", "else", "end", "stop"] : List Str) := h
    exact absurd h (by decide +kernel)
  | ask v ps =>
    have w : v = "keep" := w
    subst w
    have h : ("keep" : Str) ∈ (["if", "down", "up"] : List Str) := h
    exact absurd h (by decide +kernel)
  | read x t => exact absurd (show ("read" : Str) = "keep" from w) (by decide +kernel)
  | write x t => exact absurd (show ("write" : Str) = "keep" from w) (by decide +kernel)
  | gets x t => exact absurd (show ("gets" : Str) = "keep" from w) (by decide +kernel)
  | go x => exact absurd (show ("go" : Str) = "keep" from w) (by decide +kernel)
theorem sd_keep {H : Hp} {x : Str} {v : V} (h : Is H (Sd.keep x).d v) : ∃ a, v = .ref a ∧ H a = some (.tup [.str "keep", .str x]) := by
  obtain ⟨a, xs, rfl, ha, x1, r1, rfl, h1, x2, r2, rfl, h2, h4⟩ := h
  cases (show x1 = V.str "keep" from h1)
  cases (show x2 = V.str x from h2)
  cases (show r2 = [] from h4)
  exact ⟨a, rfl, ha⟩
end Ln
namespace K01
open PySem PySem.Spec PyProof.Rows L2 Xc Dt Ln Eo
/-- a comprehension over a list, whatever is done at each item -/
theorem lc_gen {K : PySem.W.Frag} {a : Addr} {xs : List V} {H0 : Hp} {Qd : Hp → Prop} {B : V → Hp → (Hp → Prop) → Prop} (Pv : Nat → Hp → Prop) (h0 : Pv 0 H0) (hl : ∀ i H, i ≤ xs.length → Pv i H → SqL K H a xs) (hs : ∀ i x H, xs[i]? = some x → Pv i H → B x H (Pv (i + 1))) (hd : ∀ H, Pv xs.length H → Qd H) :
    ∃ W : Nat → Nat → Hp → Prop, (∃ m, W 0 m H0) ∧ ∀ i m H, W i m H → ((Itl K a).stop i H ∧ Qd H) ∨ ((Itl K a).go i H ∧ ∃ Nx : Hp → Prop, (∀ H', Nx H' → ∃ m', m' < m ∧ W (i + 1) m' H') ∧ ∀ x H', (Itl K a).yld i H x H' → B x H' Nx) := by
  refine ⟨fun i m H => m = xs.length - i ∧ i ≤ xs.length ∧ Pv i H, ⟨xs.length, by simp, Nat.zero_le _, h0⟩, ?_⟩
  rintro i m H ⟨rfl, hi, p⟩
  have q := hl i H hi p
  by_cases hlt : i < xs.length
  · refine .inr ⟨⟨xs, xs[i], q, by simp [hlt]⟩, Pv (i + 1), fun H' p' => ⟨xs.length - (i + 1), by omega, rfl, hlt, p'⟩, fun x H' y => ?_⟩
    obtain ⟨e, y⟩ := y
    subst e
    exact hs i x _ (y xs q) p
  · have e : i = xs.length := by omega
    subst e
    exact .inl ⟨⟨xs, q, Nat.le_refl _⟩, hd H p⟩
section
variable {P : Program} {w : World} {K : PySem.W.Frag} {mg : Str → Option Value} {base : Heap} {f : Addr} {fd : FuncData}
def spFil (C : Addr) (n : Nat) : Sp := fun vs H Q _ => ∃ (r : R1) (rv : V) (alone : Bool), vs = [rv, .bl alone] ∧ RowAt C H r rv ∧ r.wf ∧ r.b.dep < n ∧ r.b.tot ≤ 2900 ∧ (comparedIn (r :: seenIn r)).length ≤ 500000 ∧ (faultsInLoop r alone).length ≤ 1000000 ∧ ∀ (a : Addr) (H' : Hp), Same H H' → H' a = some (.lst (nts (faultsInLoop r alone))) → Q (.ref a) H'
theorem sc66 : FnScope ["loop", "is_alone", "seen", "late", "compared", "kept", "both", "row", "number", "name", "where", "other", "_"] ["loop", "is_alone"] (defScope (top 66)) := ⟨rfl, rfl, rfl, by decide +kernel, rfl, by decide +kernel, by decide +kernel⟩
theorem ok_fil {C gK gC : Addr} {dK dC : FuncData} {n : Nat} (F : Fun K "faults_in_loop" "faults_in_loop" (top 66) f fd) (N : Nb mg) (T : RowT K mg C)
    (GK : FnOk P w K mg base CX0 (2 * n) gK dK ["block", "come", "seen", "late"] (spLook C n)) (bGK : Binds K dK ["block", "come", "seen", "late"] []) (kGK : PySem.W.keepIn K (.ref gK) = true) (mGK : mg "look_through" = some (.ref gK))
    (GC : FnOk P w K mg base CX0 2 gC dC ["rows"] (spCmp C)) (bGC : Binds K dC ["rows"] []) (kGC : PySem.W.keepIn K (.ref gC) = true) (mGC : mg "compared_in" = some (.ref gC)) :
    FnOk P w K mg base CX0 (2 * n + 3) f fd ["loop", "is_alone"] (spFil C n) := by
  refine F.ok sc66 (fun vs H Q E h => ?_) (fun cdv A outer s H vs Q E hr h => ?_)
  · obtain ⟨r, rv, alone, rfl, _⟩ := h
    rfl
  obtain ⟨r, rv, alone, rfl, hrow, wf, hd, ht, hcm, hfl, q⟩ := h
  have sz0 : 0 ≤ sizeLine := by decide
  have sz2 : 2 ≤ sizeLine := by decide
  have rK : Room (2 * n) (A.deeper (envOfC "faults_in_loop" (defScope (top 66)) s.heap.objs.size f cdv)) := hr.mono (by omega)
  have rC : Room 2 (A.deeper (envOfC "faults_in_loop" (defScope (top 66)) s.heap.objs.size f cdv)) := hr.mono (by omega)
  have hrow0 := hrow
  obtain ⟨p, dx, sv, lb, lo, xb, xo, rfl, hp, hs, hb, ib, ho, io⟩ := hrow
  refine ⟨_, (pss_cons (ps_set (i := 2) sc66.nd rfl (.inl rfl) (pe_lst pa_nil))
  (pss_cons (ps_set (i := 3) sc66.nd rfl (.inl rfl) (pe_lst pa_nil))
  (pss_cons (ps_expr (pe_call GK rK rfl mGK kGK bGK .nil pass0 (pa_cons (pe_fld (pv 0) rfl) (pa_cons (pe_tup (pa_cons pe_bl (pa_cons pe_bl pa_nil))) (pa_cons (pv 2) (pa_cons (pv 3) pa_nil))))))
  (pss_cons (ps_set (i := 4) sc66.nd rfl (.inl rfl) (pe_call GC rC rfl mGC kGC bGC .nil pass0 (pa_cons (pe_op op_cat (pe_lst (pa_cons (pv 0) pa_nil)) (pv 2)) pa_nil)))
  (C8.pss_cut (ps_if (pt_val (pv 1))
  (pss_one (ps_expr (pe_bm PySem.F.plainAttrs_list PySem.F.slot_list_extend PySem.F.type_list_extend mt_extend (pv 3) (pa_cons (pe_lc (own := [("number", 8), ("_", 12)]) (g := (gTup K 2 (gCons (gName 8) (gCons (gName 12) gNil)))) (tt := tYes) (te := (tVar 8)) rfl sc66.nd (pi_list (pv 4)) (blkOk_by (N := ["loop", "is_alone", "seen", "late", "compared", "kept", "both", "row", "number", "name", "where", "other", "_"]) (sc := defScope (top 66)) (by decide +kernel)) (fun _ _ _ _ _ => (pg_tup rfl (pgs_cons (pg_name (i := 8) sc66.nd rfl (.inl rfl)) (pgs_cons (pg_name (i := 12) sc66.nd rfl (.inl rfl)) pgs_nil)))) (fun _ _ _ _ _ => pts_nil) (fun _ _ _ _ _ => (pv 8))) pa_nil))))
  pss_nil)
  (pss_cons (ps_set (i := 5) sc66.nd rfl (.inr rfl) (pe_lc (own := [("row", 7)]) (g := (gName 7)) (tt := (tTest (tOp rEq (tOp (rIxT K) (tFld K (tVar 7) "said") (tC (.int 0))) (tC (.str "keep"))))) (te := (tTup (tCons (tFld K (tVar 7) "number") (tCons (tOp (rIxT K) (tFld K (tVar 7) "said") (tC (.int 1))) tNil)))) rfl sc66.nd (pi_list (pv 2)) (blkOk_by (N := ["loop", "is_alone", "seen", "late", "compared", "kept", "both", "row", "number", "name", "where", "other", "_"]) (sc := defScope (top 66)) (by decide +kernel)) (fun _ _ _ _ _ => (pg_name (i := 7) sc66.nd rfl (.inl rfl))) (fun _ _ _ _ _ => (pts_one (pt_cmpR op_eq (pe_ix ix_tup (pe_fld (pv 7) rfl) pe_int (fun _ _ => rfl)) pe_str (nomark _)))) (fun _ _ _ _ _ => (pe_tup (pa_cons (pe_fld (pv 7) rfl) (pa_cons (pe_ix ix_tup (pe_fld (pv 7) rfl) pe_int (fun _ _ => rfl)) pa_nil))))))
  (pss_cons (ps_setLc2 (i := 6) (own := [("number", 8), ("name", 9), ("where", 10), ("other", 11)]) (vs1 := [10, 11]) (g := (gTup K 2 (gCons (gName 8) (gCons (gName 9) gNil)))) (g1 := (gTup K 2 (gCons (gName 10) (gCons (gName 11) gNil)))) (tt := tYes) (tt1 := (tTest (tOp rEq (tVar 9) (tVar 11)))) (te := (tCB (fun xs H Q => ∃ i j, xs = [.int i, .int j] ∧ Q (.int (if j > i then j else i)) H) (tCons (tVar 8) (tCons (tVar 10) tNil)))) (wi1 := (iList K (tVar 5))) rfl sc66.nd rfl rfl (by rfl) (pi_list (pv 4)) (blkOk_by (N := ["loop", "is_alone", "seen", "late", "compared", "kept", "both", "row", "number", "name", "where", "other", "_"]) (sc := defScope (top 66)) (by decide +kernel)) (by decide) (fun _ _ _ _ _ => (pg_tup rfl (pgs_cons (pg_name (i := 8) sc66.nd rfl (.inl rfl)) (pgs_cons (pg_name (i := 9) sc66.nd rfl (.inl rfl)) pgs_nil)))) (fun _ _ _ _ _ => pts_nil) (fun _ _ _ _ _ => (pi_list (pv 5))) (fun _ _ _ _ _ => (pg_tup rfl (pgs_cons (pg_name (i := 10) sc66.nd rfl (.inl rfl)) (pgs_cons (pg_name (i := 11) sc66.nd rfl (.inl rfl)) pgs_nil)))) (fun _ _ _ _ _ => (pts_one (pt_cmpR op_eq (pv 9) (pv 11) (nomark _)))) (fun _ _ _ _ _ => (pe_callB (call_max2 rfl) (by rfl) N.max (by decide +kernel) (pa_cons (pv 8) (pa_cons (pv 10) pa_nil)))))
  (pss_one (ps_ret (pe_op op_cat (pv 3) (pv 6))))))))))), ?_⟩
  refine ⟨sz0, fun sA nsA => ?_⟩
  have u1 := same_new nsA (.lst [])
  have m1 : (upd H sA (.lst [])) sA = some (.lst []) := upd_same
  generalize upd H sA (.lst []) = H1 at u1 m1 ⊢
  refine ⟨sz0, fun lA nlA => ?_⟩
  have u2 := same_new nlA (.lst [])
  have m2 : (upd H1 lA (.lst [])) lA = some (.lst []) := upd_same
  have nsl : sA ≠ lA := fun z => by rw [z] at m1; rw [m1] at nlA; cases nlA
  have nlH : H lA = none := u1.free nlA
  generalize upd H1 lA (.lst []) = H2 at u2 m2 ⊢
  have s2 := u1.trans u2
  refine ⟨_, rfl, p, C, dx, _, _, rfl, s2 _ _ hp, T.cl, T.n3, rf_body, sz2, fun t nt => ?_⟩
  have u3 := same_new nt (.tup [.bl true, .bl false])
  have m3 : (upd H2 t (.tup [.bl true, .bl false])) t = some (.tup [.bl true, .bl false]) := upd_same
  generalize upd H2 t (.tup [.bl true, .bl false]) = H3 at u3 m3 ⊢
  refine ⟨_, rfl, _, rfl, H, lb, sA, lA, r.b, xb, .ref t, (true, false), [], [], rfl, hb, ib, hd, ⟨t, rfl, m3⟩, ⟨s2.trans u3, nsA, nlH, nsl, ⟨[], u3 _ _ (u2 _ _ m1), .nil⟩, u3 _ _ m2⟩, (by rw [List.length_nil]; omega), (by rw [List.length_nil]; omega), fun v4 H4 _ _ _ st4 => ?_⟩
  have wfs : ∀ z ∈ seenIn r, z.wf := look_wf r.b _ _ _ wf.2.1 (fun z hz => by cases hz)
  have bd := look_bd r.b (true, false) [] []
  have lse : (seenIn r).length ≤ 2900 := by
    have := bd.1
    rw [List.length_nil, Nat.zero_add] at this
    exact Nat.le_trans this ht
  have lla : (r.b.look (true, false) [] []).2.2.length ≤ 2900 := by
    have := bd.2
    rw [List.length_nil, Nat.zero_add] at this
    exact Nat.le_trans this ht
  have hfq : faultsInLoop r alone = (if alone then (r.b.look (true, false) [] []).2.2 ++ (comparedIn (r :: seenIn r)).map (·.1) else (r.b.look (true, false) [] []).2.2) ++ bothOf (comparedIn (r :: seenIn r)) (keptIn (seenIn r)) := rfl
  have st4 : LkAt C H H4 sA lA (seenIn r) (r.b.look (true, false) [] []).2.2 := st4
  rw [hfq] at hfl q
  generalize (r.b.look (true, false) [] []).2.2 = late0 at st4 lla hfl q
  generalize seenIn r = seen at *
  obtain ⟨sm4, _, _, _, ⟨svs, hsA, hsv⟩, hlA⟩ := st4
  have lsv : svs.length = seen.length := hsv.length.symm
  refine ⟨_, rfl, (by show 1 ≤ sizeLine; decide), fun l1 nl1 => ?_⟩
  have u5 := same_new nl1 (.lst [.ref p])
  have m5 : (upd H4 l1 (.lst [.ref p])) l1 = some (.lst [.ref p]) := upd_same
  generalize upd H4 l1 (.lst [.ref p]) = H5 at u5 m5 ⊢
  refine ⟨_, rfl, l1, sA, _, _, rfl, rfl, m5, u5 _ _ hsA, (by rw [sizeLine_eq]; simp only [List.length_cons, List.length_nil]; omega), fun l2 nl2 => ?_⟩
  have u6 := same_new nl2 (.lst ([.ref p] ++ svs))
  have m6 : (upd H5 l2 (.lst ([.ref p] ++ svs))) l2 = some (.lst (.ref p :: svs)) := upd_same
  generalize upd H5 l2 (.lst ([.ref p] ++ svs)) = H6 at u6 m6 ⊢
  have s46 := u5.trans u6
  have s6 := sm4.trans s46
  have wfr : ∀ z ∈ r :: seen, z.wf := fun z hz => by
    rcases List.mem_cons.mp hz with rfl | hz
    · exact wf
    · exact wfs z hz
  refine ⟨l2, r :: seen, .ref p :: svs, rfl, m6, .cons (hrow0.same s6) (Paired.mapP hsv fun _ _ z => z.same s6), wfr, hcm, fun cA ys H7 s67 ncA hcA hpr => ?_⟩
  generalize comparedIn (r :: seen) = cmp at *
  have s47 := s46.trans s67
  have s7 := sm4.trans s47
  have hsA7 := s47 _ _ hsA
  have hlA7 := s47 _ _ hlA
  have ncl : cA ≠ lA := fun z => by rw [z, s46 _ _ hlA] at ncA; cases ncA
  have ncs : cA ≠ sA := fun z => by rw [z, s46 _ _ hsA] at ncA; cases ncA
  have lys : ys.length = cmp.length := hpr.length.symm
  refine ⟨fun σ H8 => ∃ late : List Nat, σ = [some (.ref p), some (.bl alone), some (.ref sA), some (.ref lA), some (.ref cA), none, none, none, none, none, none, none, none] ∧ Same H H8 ∧ H8 sA = some (.lst svs) ∧ H8 lA = some (.lst (nts late)) ∧ H8 cA = some (.lst ys) ∧ Paired (PrAt H8) cmp ys ∧ late = (if alone then late0 ++ cmp.map (·.1) else late0), ?_, ?_⟩
  · refine ⟨_, rfl, _, rfl, ?_⟩
    cases alone with
    | false => exact ifF rfl ⟨late0, rfl, s7, hsA7, hlA7, hcA, hpr, rfl⟩
    | true =>
      refine ifT rfl ⟨_, rfl, .inl ⟨rfl, _, SqL.of hlA7⟩, _, rfl, cA, rfl, ⟨_, SqL.of hcA⟩, fun D nD => lc_list (K := K) (a := cA) (xs := ys) (fun i Hc => Hc D = some (.lst (nts ((cmp.take i).map (·.1)))) ∧ Same H7 Hc)
        ⟨upd_same, same_new nD _⟩ (fun i Hc _ h => SqL.of (h.2 _ _ hcA)) ?_ ?_⟩
      · rintro i x Hc hi ⟨hz, sc⟩
        obtain ⟨pr, hpr1, tt, rfl, htt⟩ := paired_at hpr hi
        have hil : i < cmp.length := (List.getElem?_eq_some_iff.mp hpr1).1
        refine ⟨tt, _, rfl, SqT.of (sc _ _ htt), rfl, _, _, rfl, _, _, rfl, rfl, rfl, _, rfl, _, hz, ?_, ?_, fun b o eb => ?_⟩
        · rw [List.length_map, List.length_map, List.length_take, sizeLine_eq]
          omega
        · rw [take_snoc hpr1, List.map_append, upd_same]
          show _ = some (HO.lst (nts ((cmp.take i).map (·.1) ++ [pr.1])))
          rw [nts_snoc]
        · rw [upd_ne (ne_of_none eb nD)]
          exact sc _ _ eb
      · rintro Hd ⟨hz, sd⟩
        rw [lys, List.take_length] at hz
        have hl8 := sd _ _ hlA7
        refine ⟨lA, D, _, _, rfl, rfl, hl8, hz, (by rw [List.length_map, List.length_map, List.length_map, sizeLine_eq]; omega), ?_⟩
        have tu : Tps Hd (upd Hd lA (.lst (nts late0 ++ nts (cmp.map (·.1))))) := tps_upd hl8 (fun _ z => by cases z)
        refine ⟨late0 ++ cmp.map (·.1), rfl, fun b o eb => ?_, ?_, ?_, ?_, pr_tps tu (pr_tps (Tps.of sd) hpr), rfl⟩
        · rw [upd_ne (ne_of_none eb nlH)]
          exact sd _ _ (s7 _ _ eb)
        · rw [upd_ne nsl]
          exact sd _ _ hsA7
        · rw [upd_same]
          show _ = some (HO.lst ((late0 ++ cmp.map (·.1)).map _))
          rw [List.map_append]
        · rw [upd_ne ncl]
          exact sd _ _ hcA
  rintro σ H8 ⟨late, rfl, s8, hsA8, hlA8, hcA8, hpr8, elate⟩
  rw [← elate] at hfl q
  have hsv8 : Paired (RowAt C H8) seen svs := Paired.mapP hsv fun _ _ z => z.same s8
  -- kept
  refine ⟨_, rfl, sA, rfl, ⟨_, SqL.of hsA8⟩, fun D nD => lc_list (K := K) (a := sA) (xs := svs) (fun i Hc => ∃ zs, Hc D = some (.lst zs) ∧ Paired (PrAt Hc) (keptIn (seen.take i)) zs ∧ Same H8 Hc)
    ⟨[], upd_same, .nil, same_new nD _⟩ (fun i Hc _ ⟨_, _, _, s⟩ => SqL.of (s _ _ hsA8)) ?_ ?_⟩
  · rintro i x Hc hi ⟨zs, hz, hpz, sc⟩
    obtain ⟨r1, hr1, hrow1⟩ := paired_at hsv8 hi
    have wf1 := wfs r1 (List.mem_of_getElem? hr1)
    have hil : i < seen.length := (List.getElem?_eq_some_iff.mp hr1).1
    obtain ⟨p1, dx1, sv1, lb1, lo1, xb1, xo1, rfl, hp1, hs1, _⟩ := hrow1.same sc
    obtain ⟨a1, r3, rfl, ha1⟩ := sd_word hs1
    have es : keptIn (seen.take (i + 1)) = keptIn (seen.take i) ++ (match r1.s with
      | .keep x => [(r1.n, x)]
      | _ => []) := by
      rw [take_snoc hr1]
      unfold keptIn
      rw [List.filterMap_append]
      congr 1
      rw [List.filterMap_cons, List.filterMap_nil]
      cases r1.s <;> rfl
    have lz : zs.length ≤ seen.length := by
      rw [← hpz.length]
      unfold keptIn
      refine Nat.le_trans (List.length_filterMap_le ..) ?_
      rw [List.length_take]
      exact Nat.min_le_right _ _
    refine ⟨rfl, _, rfl, p1, C, dx1, _, _, rfl, hp1, T.cl, T.n2, rf_said, a1, _, _, _, rfl, rfl, SqT.of ha1, atI_nat (j := 0) rfl, rfl, _, rfl, ?_⟩
    rw [dec_str]
    refine if2 (fun c => ?_) (fun c => ?_)
    · obtain ⟨x1, e1⟩ := wf1.1.keeps (of_decide_eq_true c)
      rw [e1] at es hs1
      obtain ⟨a2, e2, ha2⟩ := sd_keep hs1
      cases e2
      refine ⟨_, rfl, p1, C, dx1, _, _, rfl, hp1, T.cl, T.n1, rf_number, _, rfl, p1, C, dx1, _, _, rfl, hp1, T.cl, T.n2, rf_said, a1, _, _, _, rfl, rfl, SqT.of ha2, atI_nat (j := 1) rfl, sz2, fun t2 nt2 => ?_⟩
      have w2 := same_new nt2 (.tup [.int ((r1.n : Nat) : Int), .str x1])
      have q2 : (upd Hc t2 (.tup [.int ((r1.n : Nat) : Int), .str x1])) t2 = some (.tup [.int ((r1.n : Nat) : Int), .str x1]) := upd_same
      generalize upd Hc t2 (.tup [.int ((r1.n : Nat) : Int), .str x1]) = Hx at w2 q2 ⊢
      have hz2 := w2 _ _ hz
      have tu : Tps Hx (upd Hx D (.lst (zs ++ [.ref t2]))) := tps_upd hz2 (fun _ z => by cases z)
      refine ⟨zs, hz2, (by rw [sizeLine_eq]; omega), zs ++ [.ref t2], upd_same, ?_, fun b o eb => ?_⟩
      · rw [es]
        exact pair_snoc (pr_tps tu (pr_tps (Tps.of w2) hpz)) ⟨t2, rfl, tu _ _ q2⟩
      · rw [upd_ne (ne_of_none eb nD)]
        exact w2 _ _ (sc _ _ eb)
    · have es : keptIn (seen.take (i + 1)) = keptIn (seen.take i) := by
        rw [es]
        have c : ¬ r1.s.word = "keep" := of_decide_eq_false c
        cases e : r1.s with
        | keep x => rw [e] at c; exact absurd rfl c
        | _ => exact List.append_nil _
      rw [es]
      exact ⟨zs, hz, hpz, sc⟩
  rintro H9 ⟨kvs, hkA, hkv, s89⟩
  have lsv2 : svs.length = seen.length := lsv
  rw [lsv2, List.take_length] at hkv
  have hcA9 := s89 _ _ hcA8
  have hpr9 := pr_tps (Tps.of s89) hpr8
  have s9 := s8.trans s89
  have hlA9 := s89 _ _ hlA8
  generalize keptIn seen = kept at hkv hfl q
  rw [List.length_append] at hfl
  have lkv : kvs.length = kept.length := hkv.length.symm
  -- both
  refine ⟨_, rfl, cA, rfl, ⟨_, SqL.of hcA9⟩, fun D2 nD2 => lc_gen (K := K) (a := cA) (xs := ys) (fun i Hc => Hc D2 = some (.lst (nts (bothOf (cmp.take i) kept))) ∧ Same H9 Hc)
    ⟨upd_same, same_new nD2 _⟩ (fun i Hc _ h => SqL.of (h.2 _ _ hcA9)) ?_ ?_⟩
  · rintro i x Hc hi ⟨hz, sc⟩
    obtain ⟨pr, hpr1, tt, rfl, htt⟩ := paired_at hpr9 hi
    have eb1 : bothOf (cmp.take (i + 1)) kept = bothOf (cmp.take i) kept ++ kept.filterMap fun q => if pr.2 = q.2 then some (max pr.1 q.1) else none := by
      rw [take_snoc hpr1]
      unfold bothOf
      rw [List.flatMap_append]
      simp
    have lb1 : (bothOf (cmp.take i) kept).length + (kept.filterMap fun q => if pr.2 = q.2 then some (max pr.1 q.1) else none).length ≤ 1000000 := by
      rw [← List.length_append, ← eb1]
      have e2 : bothOf cmp kept = bothOf (cmp.take (i + 1)) kept ++ bothOf (cmp.drop (i + 1)) kept := by
        unfold bothOf
        rw [← List.flatMap_append, List.take_append_drop]
      rw [e2, List.length_append] at hfl
      omega
    refine ⟨tt, _, rfl, SqT.of (sc _ _ htt), rfl, _, _, rfl, _, _, rfl, rfl, rfl, _, rfl, D, rfl, ⟨_, SqL.of (sc _ _ hkA)⟩, lc_gen (K := K) (a := D) (xs := kvs) (fun k Hx => Hx D2 = some (.lst (nts (bothOf (cmp.take i) kept ++ (kept.take k).filterMap fun q => if pr.2 = q.2 then some (max pr.1 q.1) else none))) ∧ Same H9 Hx)
      ⟨by rw [List.take_zero, List.filterMap_nil, List.append_nil]; exact hz, sc⟩ (fun k Hx _ h => SqL.of (h.2 _ _ hkA)) ?_ ?_⟩
    · rintro k x Hx hk ⟨hz2, sx⟩
      obtain ⟨kp, hkp1, t3, rfl, ht3⟩ := paired_at hkv hk
      have ek : (kept.take (k + 1)).filterMap (fun q => if pr.2 = q.2 then some (max pr.1 q.1) else none) = (kept.take k).filterMap (fun q => if pr.2 = q.2 then some (max pr.1 q.1) else none) ++ (if pr.2 = kp.2 then [max pr.1 kp.1] else []) := by
        rw [take_snoc hkp1, List.filterMap_append]
        congr 1
        by_cases c : pr.2 = kp.2
        · simp [c]
        · simp [c]
      have lk1 : ((kept.take k).filterMap fun q => if pr.2 = q.2 then some (max pr.1 q.1) else none).length ≤ (kept.filterMap fun q => if pr.2 = q.2 then some (max pr.1 q.1) else none).length := by
        have e3 : kept.filterMap (fun q => if pr.2 = q.2 then some (max pr.1 q.1) else none) = (kept.take k).filterMap (fun q => if pr.2 = q.2 then some (max pr.1 q.1) else none) ++ (kept.drop k).filterMap fun q => if pr.2 = q.2 then some (max pr.1 q.1) else none := by
          rw [← List.filterMap_append, List.take_append_drop]
        rw [e3, List.length_append]
        omega
      refine ⟨t3, _, rfl, SqT.of (sx _ _ ht3), rfl, _, _, rfl, _, _, rfl, rfl, rfl, _, rfl, _, rfl, rfl, _, rfl, ?_⟩
      rw [dec_str]
      refine if2 (fun c => ?_) (fun c => ?_)
      · rw [if_pos (of_decide_eq_true c)] at ek
        refine ⟨_, rfl, _, rfl, _, _, rfl, _, hz2, (by rw [List.length_map, List.length_append, sizeLine_eq]; omega), ?_, fun b o eb => ?_⟩
        · rw [ek, upd_same, ← List.append_assoc, nts_snoc]
          have e4 : (if ((kp.1 : Nat) : Int) > ((pr.1 : Nat) : Int) then ((kp.1 : Nat) : Int) else ((pr.1 : Nat) : Int)) = ((max pr.1 kp.1 : Nat) : Int) := by
            by_cases c : ((kp.1 : Nat) : Int) > ((pr.1 : Nat) : Int)
            · rw [if_pos c]; omega
            · rw [if_neg c]; omega
          rw [e4]
        · rw [upd_ne (ne_of_none eb nD2)]
          exact sx _ _ eb
      · rw [if_neg (of_decide_eq_false c), List.append_nil] at ek
        rw [ek]
        exact ⟨hz2, sx⟩
    · rintro Hx ⟨hz2, sx⟩
      rw [lkv, List.take_length] at hz2
      rw [eb1]
      exact ⟨hz2, sx⟩
  · rintro Hd ⟨hz, sd⟩
    rw [lys, List.take_length] at hz
    refine ⟨_, rfl, _, rfl, lA, D2, _, _, rfl, rfl, sd _ _ hlA9, hz, (by rw [List.length_map, List.length_map, sizeLine_eq]; omega), fun z nz => ?_⟩
    have uz := same_new nz (.lst (nts late ++ nts (bothOf cmp kept)))
    refine q z _ ((s9.trans sd).trans uz) ?_
    rw [upd_same]
    show _ = some (HO.lst ((late ++ bothOf cmp kept).map _))
    rw [List.map_append]
end
end K01
/-! `x = e.replace('a', 'b').split('c')` in a `for n, l in enumerate(xs, start=1)`: the written start gives a token out. -/
namespace Dt
open PySem PySem.Spec PyProof.Rows L2 Xc
section
variable {X : Cx} {e o : Expr} {es : List Expr} {te to : TE} {t ta : TA} {name : Str} {apos cpos pos pos' : Pos} {T id : String} {r : V → List V → Hp → VK → Prop}
theorem pet_bm (pa : PlainAttrs T) (slot : Slot T name id) (hty : typeOf (.builtin id) = pure (.type "method_descriptor")) (hm : MtR X id r) (ho : PET X o to) (ha : PA X (e :: es) t)
    (hbase : attributeBase o name X.env (eval o X.env) = eval o X.env := by rfl)
    (hfew : ((backTo cpos (starEach (e :: es) X.env)).all (fun x => !x.1) && (backToKw cpos (keywordEach [] X.env)).all (fun x => x.1.isSome)
      && decide ((e :: es).length + ([] : List Keyword).length + (if ([] : List Keyword).isEmpty then 0 else 1) < 30)) = true := by rfl)
    (hline : (apos.endLine == cpos.line) = true := by rfl) (hs : starEach (e :: es) X.env = (false, eval e X.env) :: starEach es X.env := by rfl) (hplain : (backTo cpos (starEach es X.env)).any (·.1) = false := by rfl) :
    PET X (.Call (.Attribute o name apos) (e :: es) [] cpos) (tBM X.K T r to t) := by
  intro pins s σ H Q h0 I h
  refine wpAny_Call_method_late hbase hfew hline rfl (thn (ho pins s σ H _ h0 I h) fun v s1 ⟨x, H1, I1, r1, ty, q1⟩ => ?_)
  obtain ⟨h1, h2⟩ := tyV_is I1 r1 ty
  refine ⟨T, id, pa, slot, hty, h1, h2, ?_⟩
  have hA := ha.run cpos pins s1 σ H1 _ I1 q1
  rw [hs] at hA ⊢
  refine Calls.callWith_builtin (by show (false || (backTo cpos (starEach es X.env)).any (·.1)) = false; rw [hplain] <;> rfl) (Calls.evalArgs_plain ?_)
  exact thn hA fun us s2 ⟨vs, H2, I2, r2, q2⟩ => hm pins s2 σ H2 x vs v us Q I2 r1 r2 q2
theorem pst_set {i : Nat} {x : Str} (hN : X.N.Nodup) (hi : X.N[i]? = some x) (hx : Loc X.env.scope x) (he : PET X e te) (hs : swapsWith e (some (.Name x pos')) pos.line X.env = pure false := by rfl) (hf : X.fn x = true ∨ X.env.scope.names.lookup x = some .local := by first | exact .inl rfl | exact .inr rfl | assumption) :
    PST X (.Assign [.Name x pos'] e pos) (tAsg te (gName i)) := by
  intro pins s σ H D h0 I h
  refine wpAny_Assign_Name (thn (he pins s σ H _ h0 I h) fun v s1 ⟨y, H1, I1, r1, q1⟩ => ?_) hs
  exact store_ok I1 hN hi hx r1 (fun s2 I2 => ⟨_, H1, I2, q1⟩) hf
theorem ps_forET {g : TG} {tb : TS} {body : List Stmt} {tgs : List Expr} {kk : Nat} {tpos p kp cp : Pos} {k : Int} {j : Nat} (hp : PassesOwn (model X.prog X.w) X.A X.env X.xe) (hc : X.calm = true) (hgl : Gl X "enumerate") (hm : X.mg "enumerate" = none) (ha : PA X [e] ta) (hg : PG X (.Tuple tgs kk tpos) g) (hb : PSsT X body tb)
    (hs : ∀ x, foldedSetIterable (.Call (.Name "enumerate" p) [e] [⟨some "start", .Constant (.int k) j cp, kp⟩] cpos) X.env x = pure x := by intro _; rfl)
    (he : backTo cpos (starEach (e :: []) X.env) = (false, eval e X.env) :: backTo cpos (starEach [] X.env) := by rfl)
    (hplain : (backTo cpos (starEach (e :: []) X.env)).any (·.1) = false := by rfl) :
    PS X (.For (.Tuple tgs kk tpos) (.Call (.Name "enumerate" p) [e] [⟨some "start", .Constant (.int k) j cp, kp⟩] cpos) body [] pos) (tFor (iEnumS X.K ta (tCons (tC (.int k)) tNil)) g tb) := by
  refine ⟨fun pins s σ H D I h => ?_⟩
  have iter : wpAny (model X.prog X.w) X.A (eval (.Call (.Name "enumerate" p) [e] [⟨some "start", .Constant (.int k) j cp, kp⟩] cpos) X.env) (fun v s1 => 1 ≤ s1.toks ∧ wpAny (model X.prog X.w) X.A (pyIter v) (PIE X pins σ (.Tuple tgs kk tpos) (fun J H1 => ∃ W : Nat → Nat → L2.St → Hp → Prop, (∃ m, W 0 m σ H1) ∧ ∀ i m σ H, W i m σ H →
      (J.stop i H ∧ D.nx σ H) ∨ (J.go i H ∧ ∃ N : L2.St → Hp → Prop, (∀ σ' H', N σ' H' → ∃ m', m' < m ∧ W (i + 1) m' σ' H') ∧ ∀ x H', J.yld i H x H' → g x σ H' fun σ2 H2 => tb { D with nx := N, ct := N, bk := D.nx } σ2 H2))) X.xe s1) X.xe s := by
    refine wpAny_Call_Name_kw (ld_blt I hgl hm boot_enumerate (callWith_type_kw (kws := [⟨some "start", .Constant (.int k) j cp, kp⟩]) (thn (ha.run cpos pins s σ H _ I h) fun us s1 ⟨vs, H1, I1, r1, q1⟩ => ?_) he hplain rfl rfl))
    refine kws_cons (wpAny_Constant_int ?_)
    refine kws_nil ?_
    obtain ⟨a, xs, k', ex, ez, hq, hk01, q⟩ := q1
    subst ex
    cases ez
    obtain ⟨u, rfl, ru⟩ := vals1 r1
    cases ru
    obtain ⟨its, rv, p', hz⟩ := I1.list hq
    have hal : a < s1.heap.objs.size := by obtain ⟨o, ho, _⟩ := p'.isList; exact Heap.lt_size ho
    show wpAny _ _ (call (.type "enumerate") [.ref a] [(Str.ofString "start", .int k s1.toks)]) _ _ _
    refine enum_begins_start (begins_list a its.toArray) p'.isList hk01.1 hk01.2 fun h' he' hit hsz hk => ⟨by show 1 ≤ s1.toks + 1; omega, wpAny_pyIter_enum he' ?_⟩
    have I3 : Inv X pins σ H1 { s1 with heap := h', toks := s1.toks + 1 } := I1.kept (t' := s1.toks + 1) hk
    refine ⟨s1.heap.objs.size + 1, [s1.heap.objs.size + 1, s1.heap.objs.size], _, _, H1, rfl, I3, turn_enumS a (s1.heap.objs.size + 1) s1.heap.objs.size xs k, ⟨⟨.none, by rw [show k + ((0 : Nat) : Int) = k by omega]; exact he'⟩, ⟨_, hit, rfl, rfl⟩, Nat.succ_ne_self _, Nat.ne_of_lt hal, Nat.ne_of_lt (Nat.lt_succ_of_lt hal)⟩, fun b hb => ?_, q⟩
    have e' : b = s1.heap.objs.size + 1 ∨ b = s1.heap.objs.size := by simpa using hb
    have hle : s1.heap.objs.size ≤ b := by
      rcases e' with z | z
      · rw [z]; exact Nat.le_succ _
      · rw [z]; exact Nat.le_refl _
    exact I1.fpOk hle (I1.hok.fresh hle)
  refine wpAny_For (thn iter fun v s1 ⟨hk1, h1⟩ => wpAny_mono (PySem.wpAny_toks h1) (fun itv s2 h2 => ?_) fun _ _ z => z.2) hs
  obtain ⟨hk2, it, fp, tn, J, H2, e2, I2, T, st2, f2, W, ⟨m0, w0⟩, turn⟩ := h2
  subst e2
  have hk2 : 1 ≤ s2.toks := Nat.le_trans hk1 hk2
  have stat : ∀ {H' : Hp}, (∀ b ∈ fp, H' b = none) → ∀ b ∈ fp, FpOk X pins H' b := fun hn b hb => ⟨hn b hb, (f2 b hb).2⟩
  refine codeAny_forLoop_any (fun n s' => 1 ≤ s'.toks ∧ ∃ i σ' H', Inv X pins σ' H' s' ∧ tn i s'.heap ∧ (∀ b ∈ fp, H' b = none) ∧ W i n σ' H') ?_ m0 ⟨hk2, 0, σ, H2, I2, st2, fun b hb => (f2 b hb).1, w0⟩
  rintro n s3 ⟨hk3, i, σ3, H3, I3, st3, fr3, w3⟩
  have up : ∀ {α : Type} {c : Sem α} {Q : α → Shared → Prop} {E : Value → Shared → Prop} {s : Shared}, 1 ≤ s.toks → wpAny (model X.prog X.w) X.A c Q E s → wpAny (model X.prog X.w) X.A c (fun a s' => 1 ≤ s'.toks ∧ Q a s') E s := fun hk h => wpAny_mono (PySem.wpAny_toks_of hk h) (fun _ _ z => z) fun _ _ z => z.2
  rcases turn i n σ3 H3 w3 with ⟨stop, qn⟩ | ⟨go, N, hN, step⟩
  · refine wpAny_passesOwn hp (thn (T.done X rfl rfl rfl hc i pins s3 σ3 H3 X.xe I3 (stat fr3) st3 stop) fun r s4 ⟨hr, I4⟩ => ?_)
    subst hr
    exact wpAny_execs_nil ⟨σ3, H3, I4, qn⟩
  · refine wpAny_passesOwn hp (thn (up hk3 (T.item X rfl rfl rfl hc i pins s3 σ3 H3 X.xe I3 (stat fr3) st3 go)) fun r s4 ⟨hk4, u, hr, h4⟩ => ?_)
    subst hr
    refine wpAny_passesOwn hp (thn (up hk4 h4) fun _ s5 ⟨hk5, x, H5, I5, r5, y5, st5, fr5⟩ => ?_)
    have I5' := I5.pinned (stat fr5) (T.obj _ _ st5)
    refine wpAny_passesOwn hp (thn (up hk5 (hg.run _ s5 σ3 H5 x u _ I5' r5 (step x H5 y5))) fun _ s6 ⟨hk6, σ6, H6, I6, q6⟩ => ?_)
    refine wpAny_passesOwn hp (thn (up hk6 (hb _ s6 σ6 H6 _ hk6 I6 q6)) fun f s7 ⟨hk7, q7⟩ => ?_)
    have again : ∀ {σ7 : L2.St} {H7 : Hp}, Inv X (pins ++ pinsAt fp s5.heap) σ7 H7 s7 → N σ7 H7 → ∃ m, m < n ∧ 1 ≤ s7.toks ∧ ∃ i σ' H', Inv X pins σ' H' s7 ∧ tn i s7.heap ∧ (∀ b ∈ fp, H' b = none) ∧ W i m σ' H' := fun {σ7 H7} I7 n7 => by
      obtain ⟨m', hm, w7⟩ := hN σ7 H7 n7
      refine ⟨m', hm, hk7, i + 1, σ7, H7, I7.unpinned, T.keep _ _ _ st5 fun b hb o e => (I7.pin (b, o) (List.mem_append_right _ (List.mem_append_right _ (mem_pinsAt hb e)))).1, fun b hb => ?_, w7⟩
      obtain ⟨o, e, d⟩ := T.obj _ _ st5 b hb
      exact (I7.pin (b, o) (List.mem_append_right _ (List.mem_append_right _ (mem_pinsAt hb e)))).2.1
    cases f with
    | next => obtain ⟨σ7, H7, I7, n7⟩ := q7; exact again I7 n7
    | cont => obtain ⟨σ7, H7, I7, n7⟩ := q7; exact again I7 n7
    | brk => obtain ⟨σ7, H7, I7, q7⟩ := q7; exact ⟨σ7, H7, I7.unpinned, q7⟩
    | ret v => obtain ⟨x7, σ7, H7, I7, r7, q7⟩ := q7; exact ⟨x7, σ7, H7, I7.unpinned, r7, q7⟩
end
end Dt
namespace Ln
open PySem PySem.Spec PyProof.Rows L2 Xc Dt
def barWs (kind : Str) (ups : Bool) : List Str := (if ups then ([] : List Str) else ["up"]) ++ (if kind = "put" then ([] : List Str) else ["new"]) ++ (if has ["find", "after", "drop"] kind then ([] : List Str) else ["key"])
def bareWords (l : Str) : List Str := Txt.split (Txt.replace l "." " ") " "
def barF (bw : List Str) : Nat → List Str → List Nat
  | _, [] => []
  | n, l :: ls => (if (bareWords l).any (has bw) then [n] else []) ++ barF bw (n + 1) ls
def barredLines (kind : Str) (ups : Bool) (ls : List Str) : List Nat := barF (barWs kind ups) 1 ls
theorem barF_snoc (bw : List Str) (l : Str) : ∀ (ls : List Str) (n : Nat), barF bw n (ls ++ [l]) = barF bw n ls ++ (if (bareWords l).any (has bw) then [n + ls.length] else [])
  | [], n => by
    show (if (bareWords l).any (has bw) then [n] else []) ++ [] = [] ++ _
    rw [List.append_nil, List.nil_append]
    rfl
  | x :: ls, n => by
    show (if (bareWords x).any (has bw) then [n] else []) ++ barF bw (n + 1) (ls ++ [l]) = (if (bareWords x).any (has bw) then [n] else []) ++ barF bw (n + 1) ls ++ _
    rw [barF_snoc bw l ls (n + 1), List.append_assoc, List.length_cons, show n + 1 + ls.length = n + (ls.length + 1) by omega]
theorem barF_len (bw : List Str) : ∀ (ls : List Str) (n : Nat), (barF bw n ls).length ≤ ls.length
  | [], _ => Nat.le_refl _
  | x :: ls, n => by
    show ((if (bareWords x).any (has bw) then [n] else []) ++ barF bw (n + 1) ls).length ≤ _
    rw [List.length_append, List.length_cons]
    have := barF_len bw ls (n + 1)
    split
    · simp only [List.length_cons, List.length_nil]; omega
    · simp only [List.length_nil]; omega
end Ln
namespace K01
open PySem PySem.Spec PyProof.Rows L2 Xc Dt Ln Eo
section
variable {P : Program} {w : World} {K : PySem.W.Frag} {mg : Str → Option Value} {base : Heap} {f : Addr} {fd : FuncData}
def spBar : Sp := fun vs H Q _ => ∃ (kind : Str) (ups : Bool) (L : Addr) (ls : List Str), vs = [.str kind, .bl ups, .ref L] ∧ H L = some (.lst (ls.map V.str)) ∧ ls.length ≤ 3000 ∧ (∀ l ∈ ls, l.length ≤ 4000000) ∧ ∀ (a : Addr) (H' : Hp), Same H H' → H a = none → H' a = some (.lst (nts (barredLines kind ups ls))) → Q (.ref a) H'
theorem sc52 : FnScope ["kind", "ups", "lines", "barred", "found", "number", "line", "words", "word"] ["kind", "ups", "lines"] (defScope (top 52)) := ⟨rfl, rfl, rfl, by decide +kernel, rfl, by decide +kernel, by decide +kernel⟩
theorem ok_bar (F : Fun K "barred_lines" "barred_lines" (top 52) f fd) (N : Nb mg) : FnOk P w K mg base CX0 1 f fd ["kind", "ups", "lines"] spBar := by
  refine F.ok sc52 (fun vs H Q E h => ?_) (fun cdv A outer s H vs Q E hr h => ?_)
  · obtain ⟨kind, ups, L, ls, rfl, _⟩ := h
    rfl
  obtain ⟨kind, ups, L, ls, rfl, hL, hlen, hfair, q⟩ := h
  have sz0 : 0 ≤ sizeLine := by decide
  refine ⟨_, (pss_cons (ps_set (i := 3) sc52.nd rfl (.inr rfl) (pe_lst pa_nil))
  (C8.pss_cut (ps_if (pt_not (pt_val (pv 1)))
  (pss_one (ps_expr (pe_bm PySem.F.plainAttrs_list PySem.F.slot_list_append PySem.F.type_list_append mt_append (pv 3) (pa_cons pe_str pa_nil))))
  pss_nil)
  (C8.pss_cut (ps_if (pt_cmpR op_ne (pv 0) pe_str (nomark _))
  (pss_one (ps_expr (pe_bm PySem.F.plainAttrs_list PySem.F.slot_list_append PySem.F.type_list_append mt_append (pv 3) (pa_cons pe_str pa_nil))))
  pss_nil)
  (C8.pss_cut (ps_if (pt_cmpR (show OpR _ _ (rIn K true) from op_notIn_seq) (pv 0) (pe_tup (pa_cons pe_str (pa_cons pe_str (pa_cons pe_str pa_nil)))) (by rfl))
  (pss_one (ps_expr (pe_bm PySem.F.plainAttrs_list PySem.F.slot_list_append PySem.F.type_list_append mt_append (pv 3) (pa_cons pe_str pa_nil))))
  pss_nil)
  (pss_cons (ps_set (i := 4) sc52.nd rfl (.inl rfl) (pe_lst pa_nil))
  (pss_cons (ps_forET PassesOwn.never rfl (by rfl) N.enum (pa_cons (pv 2) pa_nil) (pg_tup rfl (pgs_cons (pg_name (i := 5) sc52.nd rfl (.inl rfl)) (pgs_cons (pg_name (i := 6) sc52.nd rfl (.inl rfl)) pgs_nil))) (psst_cons (pst_set (i := 7) sc52.nd rfl (.inl rfl) (pet_bm PySem.F.plainAttrs_str PySem.F.slot_str_split PySem.F.type_str_split mt_split (CwR.pet_replC (pv 6) (by decide +kernel)) (pa_cons pe_str pa_nil))) (PSsT.of (pss_one (ps_if (pt_val (pe_callB (show CallR _ (.builtin "any") (rAny K) from cr_any rfl) (by rfl) N.any (by decide +kernel) (pa_cons (pe_lc (own := [("word", 8)]) (g := (gName 8)) (tt := tYes) (te := (tOp (rIn K false) (tVar 8) (tVar 3))) rfl sc52.nd (pi_list (pv 7)) (blkOk_by (N := ["kind", "ups", "lines", "barred", "found", "number", "line", "words", "word"]) (sc := defScope (top 52)) (by decide +kernel)) (fun _ _ _ _ _ => (pg_name (i := 8) sc52.nd rfl (.inl rfl))) (fun _ _ _ _ _ => pts_nil) (fun _ _ _ _ _ => (pe_cmpR (show OpR _ _ (rIn K false) from op_in_seq) (pv 8) (pv 3) (by rfl)))) pa_nil))) (pss_one (ps_expr (pe_bm PySem.F.plainAttrs_list PySem.F.slot_list_append PySem.F.type_list_append mt_append (pv 4) (pa_cons (pv 5) pa_nil)))) pss_nil)))))
  (pss_one (ps_ret (pv 4))))))))), ?_⟩
  refine ⟨sz0, fun bA nb => ?_⟩
  have u1 := same_new nb (.lst [])
  have m1 : (upd H bA (.lst [])) bA = some (.lst (([] : List Str).map V.str)) := upd_same
  generalize upd H bA (.lst []) = H1 at u1 m1 ⊢
  -- one more word may be barred
  have grow : ∀ {Hx : Hp} {bw : List Str} (x : Str), Same H Hx → Hx bA = some (.lst (bw.map V.str)) → Same H (upd Hx bA (.lst (bw.map V.str ++ [.str x]))) ∧ (upd Hx bA (.lst (bw.map V.str ++ [.str x]))) bA = some (.lst ((bw ++ [x]).map V.str)) := by
    intro Hx bw x sx hx
    refine ⟨fun b o eb => by rw [upd_ne (ne_of_none eb nb)]; exact sx _ _ eb, ?_⟩
    rw [upd_same, List.map_append]
    rfl
  have sm10 : ∀ n, n ≤ 3 → n < sizeLine := fun n h => by rw [sizeLine_eq]; omega
  refine ⟨fun σ Hx => σ = [some (.str kind), some (.bl ups), some (.ref L), some (.ref bA), none, none, none, none, none] ∧ Same H Hx ∧ Hx bA = some (.lst ((if ups then ([] : List Str) else ["up"]).map V.str)), ?_, ?_⟩
  · refine ⟨_, rfl, _, rfl, ?_⟩
    cases ups with
    | true => exact ifF rfl ⟨rfl, u1, m1⟩
    | false =>
      obtain ⟨g1, g2⟩ := grow "up" u1 m1
      exact ifT rfl ⟨_, rfl, .inl ⟨rfl, _, SqL.of m1⟩, bA, _, _, rfl, rfl, m1, sm10 _ (by decide), rfl, g1, g2⟩
  rintro σ H2 ⟨rfl, s2, m2⟩
  refine ⟨fun σ Hx => σ = [some (.str kind), some (.bl ups), some (.ref L), some (.ref bA), none, none, none, none, none] ∧ Same H Hx ∧ Hx bA = some (.lst (((if ups then ([] : List Str) else ["up"]) ++ (if kind = "put" then ([] : List Str) else ["new"])).map V.str)), ?_, ?_⟩
  · refine ⟨_, rfl, rfl, _, rfl, ?_⟩
    rw [dec_str]
    have l1 : (if ups then ([] : List Str) else ["up"]).length ≤ 1 := by split <;> simp
    by_cases c : kind = "put"
    · rw [decide_eq_true c, if_pos c, List.append_nil]
      exact ifF rfl ⟨rfl, s2, m2⟩
    · rw [decide_eq_false c, if_neg c]
      obtain ⟨g1, g2⟩ := grow "new" s2 m2
      exact ifT rfl ⟨_, rfl, .inl ⟨rfl, _, SqL.of m2⟩, bA, _, _, rfl, rfl, m2, sm10 _ (by rw [List.length_map]; omega), rfl, g1, g2⟩
  rintro σ H3 ⟨rfl, s3, m3⟩
  refine ⟨fun σ Hx => σ = [some (.str kind), some (.bl ups), some (.ref L), some (.ref bA), none, none, none, none, none] ∧ Same H Hx ∧ Hx bA = some (.lst ((barWs kind ups).map V.str)), ?_, ?_⟩
  · refine ⟨_, rfl, (by show 3 ≤ sizeLine; decide), fun t nt => ?_⟩
    have u4 := same_new nt (.tup [.str "find", .str "after", .str "drop"])
    have m4 : (upd H3 t (.tup [.str "find", .str "after", .str "drop"])) t = some (.tup ((["find", "after", "drop"] : List Str).map V.str)) := upd_same
    generalize upd H3 t (.tup [.str "find", .str "after", .str "drop"]) = H4 at u4 m4 ⊢
    have m3 := u4 _ _ m3
    have s4 := s3.trans u4
    have l1 : ((if ups then ([] : List Str) else ["up"]) ++ (if kind = "put" then ([] : List Str) else ["new"])).length ≤ 2 := by
      rw [List.length_append]
      split <;> split <;> simp
    refine ⟨t, _, rfl, .inr (SqT.of m4), rfl, flat_strs' _, _, rfl, ?_⟩
    unfold barWs
    refine if2 (fun c => ?_) (fun c => ?_)
    · have c : (!has ["find", "after", "drop"] kind) = true := by rw [← inV_has]; exact c
      have c : has ["find", "after", "drop"] kind = false := by simpa using c
      rw [if_neg (c := has ["find", "after", "drop"] kind = true) (by rw [c]; exact Bool.false_ne_true)]
      obtain ⟨g1, g2⟩ := grow "key" s4 m3
      exact ⟨_, rfl, .inl ⟨rfl, _, SqL.of m3⟩, bA, _, _, rfl, rfl, m3, sm10 _ (by rw [List.length_map]; omega), rfl, g1, g2⟩
    · have c : (!has ["find", "after", "drop"] kind) = false := by rw [← inV_has]; exact c
      have c : has ["find", "after", "drop"] kind = true := by simpa using c
      rw [if_pos (c := has ["find", "after", "drop"] kind = true) c, List.append_nil]
      exact ⟨rfl, s4, m3⟩
  rintro σ H4 ⟨rfl, s4, m4⟩
  have qq : ∀ (a : Addr) (H' : Hp), Same H H' → H a = none → H' a = some (.lst (nts (barF (barWs kind ups) 1 ls))) → Q (.ref a) H' := q
  generalize barWs kind ups = bw at m4 qq
  refine ⟨sz0, fun fA nf => ?_⟩
  have u5 := same_new nf (.lst [])
  have m5 : (upd H4 fA (.lst [])) fA = some (.lst []) := upd_same
  have nfb : fA ≠ bA := fun z => by rw [z, m4] at nf; cases nf
  have nfH : H fA = none := s4.free nf
  generalize upd H4 fA (.lst []) = H5 at u5 m5 ⊢
  have s5 := s4.trans u5
  refine ⟨_, rfl, L, _, 1, rfl, rfl, SqL.of (s5 _ _ hL), ⟨by decide, by decide⟩, for_enumS (k0 := 1) rfl (fun i σ Hx => ∃ (v5 v6 v7 : Option V), σ = [some (.str kind), some (.bl ups), some (.ref L), some (.ref bA), some (.ref fA), v5, v6, v7, none] ∧ Same H Hx ∧ Hx bA = some (.lst (bw.map V.str)) ∧ Hx fA = some (.lst (nts (barF bw 1 (ls.take i)))))
    ⟨none, none, none, rfl, s5, u5 _ _ m4, m5⟩ (fun i σ Hx _ h => by obtain ⟨v5, v6, v7, _, sx, _⟩ := h; exact SqL.of (sx _ _ hL)) ?_ ?_⟩
  · rintro i y t σ Hx hi ⟨v5, v6, v7, rfl, sx, hb, hf⟩ nt
    obtain ⟨l, hl, rfl⟩ : ∃ l, ls[i]? = some l ∧ y = .str l := by
      rw [List.getElem?_map] at hi
      cases e : ls[i]? with
      | none => rw [e] at hi; cases hi
      | some l => rw [e] at hi; cases hi; exact ⟨l, rfl, rfl⟩
    have hil : i < ls.length := (List.getElem?_eq_some_iff.mp hl).1
    have hln := hfair l (List.mem_of_getElem? hl)
    have es : barF bw 1 (ls.take (i + 1)) = barF bw 1 (ls.take i) ++ (if (bareWords l).any (has bw) then [1 + i] else []) := by
      rw [take_snoc hl, barF_snoc, List.length_take, Nat.min_eq_left (by omega)]
    have lb : (barF bw 1 (ls.take i)).length ≤ 3000 := by
      refine Nat.le_trans (barF_len ..) ?_
      rw [List.length_take]
      omega
    have w1 := same_new nt (.tup [.int ((1 + i : Nat) : Int), .str l])
    have q1 : (upd Hx t (.tup [.int ((1 + i : Nat) : Int), .str l])) t = some (.tup [.int ((1 + i : Nat) : Int), .str l]) := upd_same
    generalize upd Hx t (.tup [.int ((1 + i : Nat) : Int), .str l]) = H6 at w1 q1 ⊢
    have hrl := TK.replace_len l "." " "
    have e1 : (" " : Str).length = 1 := by decide +kernel
    rw [e1, Nat.mul_one] at hrl
    have hsp := PyProof.Rows.split_le (Txt.replace l "." " ") " "
    refine ⟨t, _, rfl, SqT.of q1, rfl, _, _, rfl, _, _, rfl, rfl, ?_⟩
    refine ⟨_, rfl, _, rfl, (by rw [e1]; omega), rfl, _, _, rfl, rfl, rfl, (by rw [sizeLine_eq]; omega), fun wA nw => ?_⟩
    have w2 := same_new nw (.lst ((Txt.split (Txt.replace l "." " ") " ").map V.str))
    have q2 : (upd H6 wA (.lst ((Txt.split (Txt.replace l "." " ") " ").map V.str))) wA = some (.lst ((bareWords l).map V.str)) := upd_same
    have lw : (bareWords l).length ≤ 16000000 := by
      show (Txt.split (Txt.replace l "." " ") " ").length ≤ _
      omega
    generalize upd H6 wA (.lst ((Txt.split (Txt.replace l "." " ") " ").map V.str)) = H7 at w2 q2 ⊢
    generalize bareWords l = ws at q2 lw es
    have s7 := (sx.trans w1).trans w2
    have hb7 := w2 _ _ (w1 _ _ hb)
    have hf7 := w2 _ _ (w1 _ _ hf)
    refine ⟨_, rfl, wA, rfl, ⟨_, SqL.of q2⟩, fun D nD => lc_list (K := K) (a := wA) (xs := ws.map V.str) (fun k Hc => Hc D = some (.lst (((ws.take k).map (has bw)).map V.bl)) ∧ Same H7 Hc)
      ⟨upd_same, same_new nD _⟩ (fun k Hc _ h => SqL.of (h.2 _ _ q2)) ?_ ?_⟩
    · rintro k x Hc hk ⟨hz, sc⟩
      obtain ⟨wd, hw, rfl⟩ : ∃ wd, ws[k]? = some wd ∧ x = .str wd := by
        rw [List.getElem?_map] at hk
        cases e : ws[k]? with
        | none => rw [e] at hk; cases hk
        | some z => rw [e] at hk; exact ⟨z, rfl, (Option.some.inj hk).symm⟩
      have hkl : k < ws.length := (List.getElem?_eq_some_iff.mp hw).1
      refine ⟨rfl, _, rfl, _, rfl, bA, _, rfl, .inl (SqL.of (sc _ _ hb7)), rfl, flat_strs' _, _, hz, (by rw [List.length_map, List.length_map, List.length_take, sizeLine_eq]; omega), ?_, fun b o eb => ?_⟩
      · rw [upd_same, take_snoc hw, List.map_append, List.map_append]
        show some (HO.lst (_ ++ [V.bl (inV (.str wd) (bw.map V.str))])) = _
        rw [inV_has]
        rfl
      · rw [upd_ne (ne_of_none eb nD)]
        exact sc _ _ eb
    · rintro Hd ⟨hz, sd⟩
      rw [List.length_map, List.take_length] at hz
      refine ⟨D, ws.map (has bw), rfl, SqL.of hz, _, rfl, ?_⟩
      have ea : ((ws.map (has bw)).any id) = ws.any (has bw) := by rw [List.any_map]; rfl
      rw [ea]
      have sHd := s7.trans sd
      have hfd := sd _ _ hf7
      cases c : ws.any (has bw) with
      | true =>
        rw [c] at es
        have es : barF bw 1 (ls.take (i + 1)) = barF bw 1 (ls.take i) ++ [1 + i] := es
        refine ifT rfl ⟨_, rfl, .inl ⟨rfl, _, SqL.of hfd⟩, _, rfl, fA, _, _, rfl, rfl, hfd, (by rw [List.length_map, sizeLine_eq]; omega), ?_⟩
        refine ⟨_, _, _, rfl, fun b o eb => ?_, ?_, ?_⟩
        · rw [upd_ne (ne_of_none eb nfH)]
          exact sHd _ _ eb
        · rw [upd_ne nfb.symm]
          exact sd _ _ hb7
        · rw [upd_same, es, nts_snoc]
      | false =>
        rw [c] at es
        have es : barF bw 1 (ls.take (i + 1)) = barF bw 1 (ls.take i) := by rw [es]; exact List.append_nil _
        refine ifF rfl ⟨_, _, _, rfl, sHd, sd _ _ hb7, ?_⟩
        rw [es]
        exact hfd
  · rintro σ Hx ⟨v5, v6, v7, rfl, sx, hb, hf⟩
    rw [List.length_map, List.take_length] at hf
    exact ⟨_, rfl, qq fA Hx sx nfH hf⟩
end
end K01
namespace Dt
open PySem PySem.Spec PyProof.Rows L2 Xc
/-- min(xs, default=None), xs a list of ints -/
def rMinD (K : PySem.W.Frag) : List V → List V → Hp → VK → Prop := fun vs zs H Q => ∃ (p : Addr) (ns : List Int), vs = [.ref p] ∧ zs = [.non] ∧ SqL K H p (ns.map V.int) ∧ Q (match ns with | [] => .non | n :: r => .int (r.foldl min n)) H
theorem call_minD {X : Cx} (hc : X.calm = true) (hu : X.A.units + 64 < cLine) : CallRK X (.builtin "min") ["default"] (rMinD X.K) := by
  intro pins s σ H vs zs us ws Q I r1 r2 h
  obtain ⟨p, ns, rfl, rfl, hs, q⟩ := h
  obtain ⟨u, rfl, ru⟩ := vals1 r1
  cases ru
  obtain ⟨z, rfl, rz⟩ := vals1 r2
  obtain ⟨its, rv, hl, _⟩ := I.list hs
  have hd := depth_ints ns
  refine PySem.W.min_list_default (I.ok.hd hc) hl.isList (xs := ns.map PyData.int) (by simpa using reads_ints rv) ?_ (by omega) (fun e h' tk k => ?_) fun y ys i v h' tk bs e hv hr k => ?_
  · refine ⟨fun x hx y hy => ?_, fun x hx => ?_⟩
    · obtain ⟨a, _, rfl⟩ := List.mem_map.mp hx
      obtain ⟨b, _, rfl⟩ := List.mem_map.mp hy
      rfl
    · obtain ⟨a, _, rfl⟩ := List.mem_map.mp hx
      intro z
      cases z
  · cases ns with
    | nil => exact ⟨.non, H, I.kept k, rz, q⟩
    | cons _ _ => cases e
  · cases ns with
    | nil => cases e
    | cons n r =>
      obtain ⟨rfl, rfl⟩ := List.cons.inj e
      rw [PySem.W.minD_ints] at hr
      cases hr with
      | int i t => exact ⟨.int _, H, I.kept k, ⟨_, rfl⟩, q⟩
end Dt
namespace Ln
open PySem PySem.Spec PyProof.Rows L2 Xc Dt
def wayFaults (kind : Str) (b : Rws) : List Nat := b.ways.flatMap (faultsOnWay kind)
def loopsOf (b : Rws) : List Lp := b.ways.foldl noteLoops []
def allFaults (kind : Str) (ups : Bool) (ls : List Str) (b : Rws) : List Nat := (barredLines kind ups ls ++ wayFaults kind b) ++ (loopsOf b).flatMap fun e => faultsInLoop e.2.1 (e.2.2 && has searches kind)
def leastFault (kind : Str) (ups : Bool) (ls : List Str) (b : Rws) : Option Nat := match allFaults kind ups ls b with
  | [] => none
  | n :: r => some (r.foldl min n)
def Rws.All (p : R1 → Prop) : Rws → Prop
  | .nil => True
  | .cons n s b o e r => p ⟨n, s, b, o, e⟩ ∧ b.All p ∧ o.All p ∧ r.All p
theorem waysA_all {p : R1 → Prop} : ∀ (b : Rws) (ws : List (List R1)), b.All p → (∀ w ∈ ws, ∀ r ∈ w, p r) → ∀ w ∈ b.waysA ws, ∀ r ∈ w, p r
  | .nil, ws, _, h => h
  | .cons n s b o e r, ws, ⟨h1, h2, h3, h4⟩, h => by
    refine waysA_all r _ h4 ?_
    have hbr : ∀ w ∈ (if s.word = "if" then (b.waysA [[]] ++ o.waysA [[]]).map ((⟨n, s, b, o, e⟩ : R1) :: ·) else [[⟨n, s, b, o, e⟩]]), ∀ r ∈ w, p r := by
      have b1 := waysA_all b [[]] h2 (by simp)
      have o1 := waysA_all o [[]] h3 (by simp)
      split
      · intro w hw
        rw [List.mem_map] at hw
        obtain ⟨z, hz, rfl⟩ := hw
        intro r hr
        rcases List.mem_cons.mp hr with rfl | hr
        · exact h1
        · rcases List.mem_append.mp hz with hz | hz
          · exact b1 z hz r hr
          · exact o1 z hz r hr
      · intro w hw
        rw [List.mem_singleton] at hw
        rw [hw]
        intro r hr
        rw [List.mem_singleton] at hr
        rw [hr]
        exact h1
    intro w hw
    unfold ext at hw
    rw [List.mem_flatMap] at hw
    obtain ⟨v, hv, hw⟩ := hw
    by_cases c : isOver v = true
    · rw [if_pos c, List.mem_singleton] at hw
      rw [hw]
      exact h v hv
    · rw [if_neg c, List.mem_map] at hw
      obtain ⟨z, hz, rfl⟩ := hw
      intro r hr
      rcases List.mem_append.mp hr with hr | hr
      · exact h v hv r hr
      · exact hbr z hz r hr
theorem all_of : ∀ (b : Rws) (n t : Nat), b.wf → b.dep ≤ n → b.tot ≤ t → b.All fun r => r.wf ∧ r.b.dep < n ∧ r.b.tot ≤ t
  | .nil, _, _, _, _, _ => trivial
  | .cons m s b o e r, n, t, ⟨w1, w2, w3, w4⟩, hd, ht => by
    have hd : max (1 + max b.dep o.dep) r.dep ≤ n := hd
    have ht : 1 + b.tot + o.tot + r.tot ≤ t := ht
    exact ⟨⟨⟨w1, w2, w3⟩, by show b.dep < n; omega, by show b.tot ≤ t; omega⟩, all_of b n t w2 (by omega) (by omega), all_of o n t w3 (by omega) (by omega), all_of r n t w4 (by omega) (by omega)⟩
theorem putL_all {p : R1 → Prop} {l : List Lp} {n : Nat} {v : R1 × Bool} (h : ∀ e ∈ l, p e.2.1) (hv : p v.1) : ∀ e ∈ putL l n v, p e.2.1 := by
  intro e he
  unfold putL at he
  by_cases c : (l.any fun e => decide (e.1 = n)) = true
  · rw [if_pos c, List.mem_map] at he
    obtain ⟨z, hz, rfl⟩ := he
    by_cases c2 : z.1 = n
    · rw [if_pos c2]
      exact hv
    · rw [if_neg c2]
      exact h z hz
  · rw [if_neg c] at he
    rcases List.mem_append.mp he with he | he
    · exact h e he
    · rw [List.mem_singleton] at he
      rw [he]
      exact hv
theorem noteL_all {p : R1 → Prop} : ∀ (rs : List R1) (l : List Lp) (b : Bool), (∀ e ∈ l, p e.2.1) → (∀ r ∈ rs, p r) → ∀ e ∈ noteL l rs b, p e.2.1
  | [], l, b, h, _ => h
  | r :: rs, l, b, h, hr => noteL_all rs _ false (putL_all h (hr r (by simp))) fun z hz => hr z (by simp [hz])
theorem fold_all {p : R1 → Prop} : ∀ (ws : List (List R1)) (l : List Lp), (∀ e ∈ l, p e.2.1) → (∀ w ∈ ws, ∀ r ∈ w, p r) → ∀ e ∈ ws.foldl noteLoops l, p e.2.1
  | [], l, h, _ => h
  | w :: ws, l, h, hw => by
    refine fold_all ws (noteLoops l w) (noteL_all _ l true h fun r hr => hw w (by simp) r (List.mem_filter.mp hr).1) fun v hv => hw v (by simp [hv])
theorem fow_len (kind : Str) : ∀ (rs : List R1) (m : Nat) (ah : List R1) (fo : List Nat), (fowLoop kind rs m ah fo).1.length ≤ ah.length + rs.length ∧ (fowLoop kind rs m ah fo).2.length ≤ fo.length + rs.length
  | [], m, ah, fo => ⟨Nat.le_refl _, Nat.le_refl _⟩
  | r :: rs, m, ah, fo => by
    have e : fowLoop kind (r :: rs) m ah fo = if r.s.isLoop then fowLoop kind rs (m + 1) [] (if mayStand kind r m ah then fo else fo ++ [r.n]) else fowLoop kind rs m (ah ++ [r]) (if !has searches kind && r.s.rdRoot then fo ++ [r.n] else fo) := rfl
    rw [e, List.length_cons]
    have l1 : (if mayStand kind r m ah then fo else fo ++ [r.n]).length ≤ fo.length + 1 := by
      split
      · omega
      · rw [List.length_append]; exact Nat.le_refl _
    have l2 : (if !has searches kind && r.s.rdRoot then fo ++ [r.n] else fo).length ≤ fo.length + 1 := by
      split
      · rw [List.length_append]; exact Nat.le_refl _
      · omega
    have l3 : (ah ++ [r]).length = ah.length + 1 := by rw [List.length_append]; rfl
    generalize (if mayStand kind r m ah then fo else fo ++ [r.n]) = f1 at l1
    generalize (if !has searches kind && r.s.rdRoot then fo ++ [r.n] else fo) = f2 at l2
    split
    · have := fow_len kind rs (m + 1) [] f1
      rw [List.length_nil] at this
      omega
    · have := fow_len kind rs m (ah ++ [r]) f2
      omega
theorem faults_len (kind : Str) (w : List R1) : (faultsOnWay kind w).length ≤ 3 * w.length := by
  have h := fow_len kind w 0 [] []
  rw [List.length_nil, List.length_nil, Nat.zero_add] at h
  have h1 := K01.rowNums_len Sd.rdLnk (fowLoop kind w 0 [] []).1
  have h2 := K01.rowNums_len Sd.isWr (fowLoop kind w 0 [] []).1
  unfold faultsOnWay
  rw [List.length_append, List.length_append, List.length_drop, List.length_drop]
  omega
end Ln
namespace K01
open PySem PySem.Spec PyProof.Rows L2 Xc Dt Ln Eo
def optN : Option Nat → V
  | none => .non
  | some n => .int (n : Nat)
theorem fold_min : ∀ (r : List Nat) (n : Nat), ((r.map fun n => ((n : Nat) : Int)).foldl min ((n : Nat) : Int)) = ((r.foldl min n : Nat) : Int)
  | [], _ => rfl
  | m :: r, n => by
    rw [List.map_cons, List.foldl_cons, List.foldl_cons, ← fold_min r (min n m)]
    congr 1
    omega
theorem opt_min (l : List Nat) : (match (l.map fun n => ((n : Nat) : Int)) with
    | [] => V.non
    | n :: r => V.int (r.foldl min n)) = optN (match l with
    | [] => none
    | n :: r => some (r.foldl min n)) := by
  cases l with
  | nil => rfl
  | cons n r =>
    show V.int ((r.map fun n => ((n : Nat) : Int)).foldl min ((n : Nat) : Int)) = V.int ((r.foldl min n : Nat) : Int)
    rw [fold_min]
section
variable {P : Program} {w : World} {K : PySem.W.Frag} {mg : Str → Option Value} {base : Heap} {f : Addr} {fd : FuncData}
/-- sizes within which the limits are reckoned -/
structure Sized (n : Nat) (kind : Str) (ups : Bool) (ls : List Str) (b : Rws) : Prop where
  ll : ls.length ≤ 3000
  lw : ∀ l ∈ ls, l.length ≤ 4000000
  dep : b.dep < n
  cif : b.cif ≤ 7
  tot : b.tot ≤ 2900
  wf : b.wf
  loops : ∀ e ∈ loopsOf b, (comparedIn (e.2.1 :: seenIn e.2.1)).length ≤ 500000 ∧ ∀ alone, (faultsInLoop e.2.1 alone).length ≤ 1000000
  all : (allFaults kind ups ls b).length ≤ 10000000
def spLeast (C : Addr) (n : Nat) : Sp := fun vs H Q _ => ∃ (kind : Str) (ups : Bool) (L B : Addr) (ls : List Str) (b : Rws) (bvs : List V), vs = [.str kind, .bl ups, .ref L, .ref B] ∧ H L = some (.lst (ls.map V.str)) ∧ H B = some (.lst bvs) ∧ IsBlk C (fun _ => True) H b bvs ∧ Sized n kind ups ls b ∧ ∀ H', Same H H' → Q (optN (leastFault kind ups ls b)) H'
theorem sc51 : FnScope ["kind", "ups", "lines", "block", "found", "loops", "way", "row", "is_first"] ["kind", "ups", "lines", "block"] (defScope (top 51)) := ⟨rfl, rfl, rfl, by decide +kernel, rfl, by decide +kernel, by decide +kernel⟩
theorem ok_least {C gB gW gF gN gL : Addr} {dB dW dF dN dL : FuncData} {n : Nat} (F : Fun K "least_fault" "least_fault" (top 51) f fd) (N : Nb mg) (G : Gl K mg)
    (GB : FnOk P w K mg base CX0 1 gB dB ["kind", "ups", "lines"] spBar) (bGB : Binds K dB ["kind", "ups", "lines"] []) (kGB : PySem.W.keepIn K (.ref gB) = true) (mGB : mg "barred_lines" = some (.ref gB))
    (GW : FnOk P w K mg base CX0 (2 * n) gW dW ["block"] (spWays C n)) (bGW : Binds K dW ["block"] []) (kGW : PySem.W.keepIn K (.ref gW) = true) (mGW : mg "ways_through" = some (.ref gW))
    (GF : FnOk P w K mg base CX0 4 gF dF ["kind", "way"] (spFow C)) (bGF : Binds K dF ["kind", "way"] []) (kGF : PySem.W.keepIn K (.ref gF) = true) (mGF : mg "faults_on_way" = some (.ref gF))
    (GN : FnOk P w K mg base CX0 2 gN dN ["loops", "way"] (spNote C)) (bGN : Binds K dN ["loops", "way"] []) (kGN : PySem.W.keepIn K (.ref gN) = true) (mGN : mg "note_loops" = some (.ref gN))
    (GL : FnOk P w K mg base CX0 (2 * n + 3) gL dL ["loop", "is_alone"] (spFil C n)) (bGL : Binds K dL ["loop", "is_alone"] []) (kGL : PySem.W.keepIn K (.ref gL) = true) (mGL : mg "faults_in_loop" = some (.ref gL)) :
    FnOk P w K mg base CX0 (2 * n + 4) f fd ["kind", "ups", "lines", "block"] (spLeast C n) := by
  refine F.ok sc51 (fun vs H Q E h => ?_) (fun cdv A outer s H vs Q E hr h => ?_)
  · obtain ⟨kind, ups, L, B, ls, b, bvs, rfl, _⟩ := h
    rfl
  obtain ⟨kind, ups, L, B, ls, b, bvs, rfl, hL, hB, ib, sz, q⟩ := h
  obtain ⟨aS, mS, cS⟩ := G.searches
  have r1 : Room 1 (A.deeper (envOfC "least_fault" (defScope (top 51)) s.heap.objs.size f cdv)) := hr.mono (by omega)
  have r2 : Room 2 (A.deeper (envOfC "least_fault" (defScope (top 51)) s.heap.objs.size f cdv)) := hr.mono (by omega)
  have rW : Room (2 * n) (A.deeper (envOfC "least_fault" (defScope (top 51)) s.heap.objs.size f cdv)) := hr.mono (by omega)
  have rF : 1 ≤ n → Room 4 (A.deeper (envOfC "least_fault" (defScope (top 51)) s.heap.objs.size f cdv)) := fun h => hr.mono (by omega)
  have n1 : 1 ≤ n := by have := sz.dep; omega
  have r4 := rF n1
  have hu64 : (A.deeper (envOfC "least_fault" (defScope (top 51)) s.heap.objs.size f cdv)).units + 64 < cLine := by have := hr.un; omega
  refine ⟨_, (pss_cons (ps_set (i := 4) sc51.nd rfl (.inl rfl) (pe_call GB r1 rfl mGB kGB bGB .nil pass0 (pa_cons (pv 0) (pa_cons (pv 1) (pa_cons (pv 2) pa_nil)))))
  (pss_cons (ps_set (i := 5) sc51.nd rfl (.inl rfl) pe_dnewK)
  (pss_cons (ps_for PassesOwn.never rfl (pi_list (pe_call GW rW rfl mGW kGW bGW .nil pass0 (pa_cons (pv 3) pa_nil))) (pg_name (i := 6) sc51.nd rfl (.inl rfl))
  (pss_cons (ps_expr (pe_bm PySem.F.plainAttrs_list PySem.F.slot_list_extend PySem.F.type_list_extend mt_extend (pv 4) (pa_cons (pe_call GF r4 rfl mGF kGF bGF .nil pass0 (pa_cons (pv 0) (pa_cons (pv 6) pa_nil))) pa_nil)))
    (pss_one (ps_expr (pe_call GN r2 rfl mGN kGN bGN .nil pass0 (pa_cons (pv 5) (pa_cons (pv 6) pa_nil)))))))
  (pss_cons (ps_lock (ps_for PassesOwn.never rfl (pi_values (pv 5)) (pg_tup rfl (pgs_cons (pg_name (i := 7) sc51.nd rfl (.inl rfl)) (pgs_cons (pg_name (i := 8) sc51.nd rfl (.inl rfl)) pgs_nil)))
  (pss_one (ps_expr (pe_bm PySem.F.plainAttrs_list PySem.F.slot_list_extend PySem.F.type_list_extend mt_extend (pv 4) (pa_cons (pe_call GL hr rfl mGL kGL bGL .nil pass0 (pa_cons (pv 7) (pa_cons (pe_and (pv 8) (pe_one (pe_cmpR (show OpR _ _ (rIn K false) from op_in_seq) (pv 0) (pe_glob (v := .ref aS) (by rfl) mS rfl) (by rfl)))) pa_nil))) pa_nil))))))
  (pss_one (ps_ret (pe_callBK (call_minD rfl hu64) (by rfl) N.min (by decide +kernel) (pa_cons (pv 4) pa_nil) (pk_cons pe_non pk_nil)))))))), ?_⟩
  have all := all_of b n 2900 sz.wf (by have := sz.dep; omega) sz.tot
  obtain ⟨bw1, bw2, bw3⟩ := ways_bd b [[]] (Nat.le_refl 1)
  have wall : ∀ w ∈ b.ways, ∀ r ∈ w, r.wf ∧ r.b.dep < n ∧ r.b.tot ≤ 2900 := waysA_all b [[]] all (by simp)
  have wlen : ∀ w ∈ b.ways, w.length ≤ 2900 := fun w hw => by
    have := bw3 0 (by simp) w hw
    have := sz.tot
    omega
  have wmany : b.ways.length ≤ 128 := by
    simp only [List.length_cons, List.length_nil, Nat.zero_add, Nat.one_mul] at bw2
    exact Nat.le_trans bw2 (Nat.le_trans (Nat.pow_le_pow_right (by decide) sz.cif) (by decide))
  have qq : ∀ H', Same H H' → Q (optN (match allFaults kind ups ls b with
    | [] => none
    | n :: r => some (r.foldl min n))) H' := q
  have hall := sz.all
  have hlo := sz.loops
  have lall : ∀ e ∈ loopsOf b, e.2.1.wf ∧ e.2.1.b.dep < n ∧ e.2.1.b.tot ≤ 2900 := fold_all b.ways [] (fun e he => by cases he) wall
  have eall : allFaults kind ups ls b = (barredLines kind ups ls ++ b.ways.flatMap (faultsOnWay kind)) ++ (b.ways.foldl noteLoops []).flatMap fun e => faultsInLoop e.2.1 (e.2.2 && has searches kind) := rfl
  have eloop : loopsOf b = b.ways.foldl noteLoops [] := rfl
  rw [eloop] at hlo lall
  rw [eall] at qq hall
  refine ⟨_, rfl, _, rfl, _, rfl, kind, ups, L, ls, rfl, hL, sz.ll, sz.lw, fun fA H1 s1 nfA hfA => ?_⟩
  generalize barredLines kind ups ls = br at hfA qq hall
  intro dA ndA
  have ndH : H dA = none := s1.free ndA
  have u2 := same_new ndA (.dK [])
  have m2 : (upd H1 dA (.dK [])) dA = some (.dK []) := upd_same
  generalize upd H1 dA (.dK []) = H2 at u2 m2 ⊢
  have s2 := s1.trans u2
  have hfA2 := u2 _ _ hfA
  have nfd : fA ≠ dA := ne_of hfA2 m2 (by intro z; cases z)
  refine ⟨_, rfl, H, B, b, bvs, rfl, s2, hB, ib, sz.dep, sz.cif, Nat.le_trans sz.tot (by decide), fun wA wvs H3 s3 nwA hwA hws => ?_⟩
  generalize b.ways = ws at *
  have s03 := s2.trans s3
  have lw : wvs.length = ws.length := hws.length.symm
  have nwf : wA ≠ fA := fun z => by rw [z, hfA2] at nwA; cases nwA
  have nwd : wA ≠ dA := fun z => by rw [z, m2] at nwA; cases nwA
  have n2 : ∀ {x : Addr}, x ≠ fA → x ≠ dA → x ∉ [fA, dA] := fun h1 h2 z => by
    rw [List.mem_cons, List.mem_cons] at z
    rcases z with z | z | z
    · exact h1 z
    · exact h2 z
    · cases z
  refine ⟨wA, rfl, ⟨_, SqL.of hwA⟩, for_list (K := K) (a := wA) (xs := wvs) (fun i σ Hx => ∃ (fo : List Nat) (l : List Lp) (kvs : List (Key × V)) (v6 : Option V), σ = [some (.str kind), some (.bl ups), some (.ref L), some (.ref B), some (.ref fA), some (.ref dA), v6, none, none] ∧ Same H Hx ∧ Hx fA = some (.lst (nts fo)) ∧ Hx dA = some (.dK kvs) ∧ Paired (LpAt C H Hx) l kvs ∧ fo = br ++ (ws.take i).flatMap (faultsOnWay kind) ∧ l = (ws.take i).foldl noteLoops [] ∧ l.length ≤ i * 3000 ∧ Kp [fA, dA] H3 Hx)
    ⟨br, [], [], none, rfl, s03, s3 _ _ hfA2, s3 _ _ m2, .nil, (by rw [List.take_zero, List.flatMap_nil, List.append_nil]), rfl, Nat.zero_le _, Kp.refl⟩ (fun i σ Hx _ h => by obtain ⟨fo, l, kvs, v6, _, _, _, _, _, _, _, _, kx⟩ := h; exact SqL.of (kx _ _ (n2 nwf nwd) hwA)) ?_ ?_⟩
  · rintro i y σ Hx hi ⟨fo, l, kvs, v6, rfl, sx, hf, hd, hlp, efo, el, ll, kx⟩
    obtain ⟨way, hw, aw, xsw, rfl, ⟨_, naw⟩, haw, pw⟩ := paired_at hws hi
    have hil : i < ws.length := (List.getElem?_eq_some_iff.mp hw).1
    have nawf : aw ≠ fA := fun z => by rw [z, hfA2] at naw; cases naw
    have nawd : aw ≠ dA := fun z => by rw [z, m2] at naw; cases naw
    have hawx := kx _ _ (n2 nawf nawd) haw
    have hwm := List.mem_of_getElem? hw
    have wl := wlen way hwm
    have wwf : ∀ r ∈ way, r.wf := fun r hr => (wall way hwm r hr).1
    have e1 : (ws.take (i + 1)).flatMap (faultsOnWay kind) = (ws.take i).flatMap (faultsOnWay kind) ++ faultsOnWay kind way := by
      rw [take_snoc hw, List.flatMap_append]
      simp
    have lfo : fo.length + (faultsOnWay kind way).length ≤ 10000000 := by
      refine Nat.le_trans ?_ hall
      have e2 : ws.flatMap (faultsOnWay kind) = (ws.take (i + 1)).flatMap (faultsOnWay kind) ++ (ws.drop (i + 1)).flatMap (faultsOnWay kind) := by
        rw [← List.flatMap_append, List.take_append_drop]
      rw [efo, e2, e1]
      simp only [List.length_append]
      omega
    refine ⟨_, rfl, .inl ⟨rfl, _, SqL.of hf⟩, _, rfl, _, rfl, kind, aw, way, xsw, rfl, hawx, Paired.mapP pw fun _ _ z => z.same sx, wwf, by omega, fun a H4 s4 ha => ?_⟩
    have hf4 := s4 _ _ hf
    refine ⟨fA, a, _, _, rfl, rfl, hf4, ha, (by rw [List.length_map, List.length_map, sizeLine_eq]; omega), ?_⟩
    have k5 : Kp [fA, dA] H3 (upd H4 fA (.lst (nts fo ++ nts (faultsOnWay kind way)))) := fun x o hx e => by
      rw [upd_ne (fun z => hx (by rw [z]; simp))]
      exact s4 _ _ (kx x o hx e)
    have t5 : Tps Hx (upd H4 fA (.lst (nts fo ++ nts (faultsOnWay kind way)))) := (Tps.of s4).trans (tps_upd hf4 (fun _ z => by cases z))
    have s5 : Same H (upd H4 fA (.lst (nts fo ++ nts (faultsOnWay kind way)))) := fun b o eb => by rw [upd_ne (ne_of_none eb nfA)]; exact s4 _ _ (sx _ _ eb)
    have hf5 : (upd H4 fA (.lst (nts fo ++ nts (faultsOnWay kind way)))) fA = some (.lst (nts (fo ++ faultsOnWay kind way))) := by rw [upd_same]; show _ = some (HO.lst ((fo ++ faultsOnWay kind way).map _)); rw [List.map_append]
    have hd5 : (upd H4 fA (.lst (nts fo ++ nts (faultsOnWay kind way)))) dA = some (.dK kvs) := by rw [upd_ne nfd.symm]; exact s4 _ _ hd
    have haw5 : (upd H4 fA (.lst (nts fo ++ nts (faultsOnWay kind way)))) aw = some (.lst xsw) := by rw [upd_ne nawf]; exact s4 _ _ hawx
    generalize upd H4 fA (.lst (nts fo ++ nts (faultsOnWay kind way))) = H5 at k5 t5 s5 hf5 hd5 haw5 ⊢
    have hlp5 : Paired (LpAt C H H5) l kvs := Paired.mapP hlp fun _ _ ⟨k1, t, p, k2, k3, k4⟩ => ⟨k1, t, p, k2, t5 _ _ k3, k4⟩
    refine ⟨_, rfl, _, rfl, dA, aw, H, l, kvs, way, xsw, rfl, hd5, hlp5, by omega, haw5, pw, s5, ndH, wwf, by omega, fun kvs' H6 hd6 hlp6 k6 t6 => ?_⟩
    refine ⟨fo ++ faultsOnWay kind way, noteLoops l way, kvs', _, rfl, fun b o eb => k6 b o (by have := ne_of_none eb ndH; simpa using this) (s5 _ _ eb), k6 _ _ (by simpa using nfd) hf5, hd6, hlp6, by rw [efo, e1, List.append_assoc], by rw [take_snoc hw, List.foldl_append, ← el]; rfl, ?_, fun x o hx e => k6 x o (fun z => hx (by rw [List.mem_singleton] at z; rw [z]; simp)) (k5 x o hx e)⟩
    have h1 : (noteLoops l way).length ≤ l.length + (way.filter fun r => r.s.isLoop).length := noteL_len _ _ _
    have h2 : (way.filter fun r => r.s.isLoop).length ≤ way.length := List.length_filter_le ..
    omega
  · rintro σ H7 ⟨fo, l, kvs, v6, rfl, sx, hf, hd, hlp, efo, el, ll, kx⟩
    rw [lw, List.take_length] at efo el
    rw [← efo, ← el] at qq hall
    rw [← el] at hlo lall
    have lkv : kvs.length = l.length := hlp.length.symm
    refine ⟨dA, .dK kvs, hd, trivial, fun od => ?_⟩
    have s8 : Same H (upd H7 dA (.frz od (.dK kvs))) := fun b o eb => by rw [upd_ne (ne_of_none eb ndH)]; exact sx _ _ eb
    have hf8 : (upd H7 dA (.frz od (.dK kvs))) fA = some (.lst (nts fo)) := by rw [upd_ne nfd]; exact hf
    have hd8 : (upd H7 dA (.frz od (.dK kvs))) dA = some (.frz od (.dK kvs)) := upd_same
    have t8 : Tps H7 (upd H7 dA (.frz od (.dK kvs))) := tps_upd hd (fun _ z => by cases z)
    generalize upd H7 dA (.frz od (.dK kvs)) = H8 at s8 hf8 hd8 t8 ⊢
    refine ⟨_, rfl, dA, od, kvs, rfl, hd8, for_it walk_values (fun i σ Hx => ∃ (v6 v7 v8 : Option V), σ = [some (.str kind), some (.bl ups), some (.ref L), some (.ref B), some (.ref fA), some (.ref dA), v6, v7, v8] ∧ Same H Hx ∧ Hx dA = some (.frz od (.dK kvs)) ∧ Hx fA = some (.lst (nts (fo ++ (l.take i).flatMap fun e => faultsInLoop e.2.1 (e.2.2 && has searches kind)))) ∧ Tps H7 Hx)
      ⟨v6, none, none, rfl, s8, hd8, (by rw [List.take_zero, List.flatMap_nil, List.append_nil]; exact hf8), t8⟩ (fun i σ Hx _ h => by obtain ⟨_, _, _, _, _, h, _⟩ := h; exact h) ?_ ?_⟩
    · rintro i x σ Hx Hx' hi ⟨v6, v7, v8, rfl, sx8, hdx, hfx, tx⟩ ⟨rfl, k, hk⟩
      obtain ⟨e, he, k1, t, p, k2, k3, k4⟩ := paired_at hlp hk
      cases k2
      have hem := List.mem_of_getElem? he
      obtain ⟨ew, ed, et⟩ := lall e hem
      obtain ⟨ec, ef⟩ := hlo e hem
      have e1 : (l.take (i + 1)).flatMap (fun e => faultsInLoop e.2.1 (e.2.2 && has searches kind)) = (l.take i).flatMap (fun e => faultsInLoop e.2.1 (e.2.2 && has searches kind)) ++ faultsInLoop e.2.1 (e.2.2 && has searches kind) := by
        rw [take_snoc he, List.flatMap_append]
        simp
      have lfo : (fo ++ (l.take i).flatMap fun e => faultsInLoop e.2.1 (e.2.2 && has searches kind)).length + (faultsInLoop e.2.1 (e.2.2 && has searches kind)).length ≤ 10000000 := by
        refine Nat.le_trans ?_ hall
        have e2 : l.flatMap (fun e => faultsInLoop e.2.1 (e.2.2 && has searches kind)) = (l.take (i + 1)).flatMap (fun e => faultsInLoop e.2.1 (e.2.2 && has searches kind)) ++ (l.drop (i + 1)).flatMap (fun e => faultsInLoop e.2.1 (e.2.2 && has searches kind)) := by
          rw [← List.flatMap_append, List.take_append_drop]
        rw [e2, e1]
        simp only [List.length_append]
        omega
      have ef := ef (e.2.2 && has searches kind)
      have hk4 := k4.same sx8
      obtain ⟨fl, efl⟩ : ∃ fl, fl = faultsInLoop e.2.1 (e.2.2 && has searches kind) := ⟨_, rfl⟩
      rw [← efl] at e1 lfo ef
      have fin : ∀ (a : Addr) (H4 : Hp), Same Hx' H4 → H4 a = some (.lst (nts fl)) → Same H (upd H4 fA (.lst (nts (fo ++ (l.take i).flatMap fun e => faultsInLoop e.2.1 (e.2.2 && has searches kind)) ++ nts fl))) ∧ (upd H4 fA (.lst (nts (fo ++ (l.take i).flatMap fun e => faultsInLoop e.2.1 (e.2.2 && has searches kind)) ++ nts fl))) dA = some (.frz od (.dK kvs)) ∧
          (upd H4 fA (.lst (nts (fo ++ (l.take i).flatMap fun e => faultsInLoop e.2.1 (e.2.2 && has searches kind)) ++ nts fl))) fA = some (.lst (nts (fo ++ (l.take (i + 1)).flatMap fun e => faultsInLoop e.2.1 (e.2.2 && has searches kind)))) ∧ Tps H7 (upd H4 fA (.lst (nts (fo ++ (l.take i).flatMap fun e => faultsInLoop e.2.1 (e.2.2 && has searches kind)) ++ nts fl))) := by
        intro a H4 s4 ha
        refine ⟨fun b o eb => by rw [upd_ne (ne_of_none eb nfA)]; exact s4 _ _ (sx8 _ _ eb), by rw [upd_ne nfd.symm]; exact s4 _ _ hdx, ?_, (tx.trans (Tps.of s4)).trans (tps_upd (s4 _ _ hfx) (fun _ z => by cases z))⟩
        rw [upd_same, e1, ← List.append_assoc]
        show _ = some (HO.lst ((_ ++ fl).map _))
        rw [List.map_append]
      have szz : ∀ {xs : List V}, xs = nts fl → (nts (fo ++ (l.take i).flatMap fun e => faultsInLoop e.2.1 (e.2.2 && has searches kind))).length + xs.length ≤ sizeLine := by
        rintro xs rfl
        rw [List.length_map, List.length_map, sizeLine_eq]
        omega
      refine ⟨t, _, rfl, SqT.of (tx _ _ k3), rfl, _, _, rfl, _, _, rfl, rfl, ?_⟩
      refine ⟨_, rfl, .inl ⟨rfl, _, SqL.of hfx⟩, _, rfl, _, rfl, _, rfl, ?_⟩
      cases c : e.2.2 with
      | false =>
        rw [c] at efl
        have efl : fl = faultsInLoop e.2.1 false := efl
        refine ifF rfl ⟨e.2.1, .ref p, false, rfl, hk4, ew, ed, et, ec, by rw [← efl]; exact ef, fun a H4 s4 ha => ?_⟩
        rw [← efl] at ha
        obtain ⟨f1, f2, f3, f4⟩ := fin a H4 s4 ha
        exact ⟨fA, a, _, _, rfl, rfl, s4 _ _ hfx, ha, szz rfl, _, _, _, rfl, f1, f2, f3, f4⟩
      | true =>
        rw [c] at efl
        have efl : fl = faultsInLoop e.2.1 (has searches kind) := efl
        refine ifT rfl ⟨_, rfl, aS, _, rfl, .inr (cS _), rfl, flat_strs' _, e.2.1, .ref p, has searches kind, by rw [← inV_has]; rfl, hk4, ew, ed, et, ec, by rw [← efl]; exact ef, fun a H4 s4 ha => ?_⟩
        rw [← efl] at ha
        obtain ⟨f1, f2, f3, f4⟩ := fin a H4 s4 ha
        exact ⟨fA, a, _, _, rfl, rfl, s4 _ _ hfx, ha, szz rfl, _, _, _, rfl, f1, f2, f3, f4⟩
    · rintro σ Hx ⟨v6, v7, v8, rfl, sx8, hdx, hfx, tx⟩
      rw [lkv, List.take_length] at hfx
      refine ⟨hdx, ?_⟩
      have s9 : Same H (upd Hx dA (.dK kvs)) := fun b o eb => by rw [upd_ne (ne_of_none eb ndH)]; exact sx8 _ _ eb
      have hf9 : (upd Hx dA (.dK kvs)) fA = some (.lst (nts (fo ++ l.flatMap fun e => faultsInLoop e.2.1 (e.2.2 && has searches kind)))) := by rw [upd_ne nfd]; exact hfx
      generalize upd Hx dA (.dK kvs) = H9 at s9 hf9 ⊢
      generalize (fo ++ l.flatMap fun e => faultsInLoop e.2.1 (e.2.2 && has searches kind)) = al at hf9 qq
      refine ⟨_, rfl, fA, al.map fun n => ((n : Nat) : Int), rfl, rfl, SqL.of (by rw [List.map_map]; exact hf9), ?_⟩
      have := qq _ s9
      rw [← opt_min] at this
      exact this
end
end K01
namespace K01
open PySem PySem.Spec PyProof.Rows L2 Xc Dt Ln Eo
theorem set_app {v x : V} {r : List V} : ∀ (l : List V), (l ++ x :: r).set l.length v = l ++ v :: r
  | [] => rfl
  | y :: l => by
    show y :: (l ++ x :: r).set l.length v = y :: (l ++ v :: r)
    rw [set_app l]
theorem ixN_nat {n j : Nat} (h : j < n) : ixN n ((j : Nat) : Int) = some j := by
  unfold ixN
  rw [if_pos (by omega), if_pos (by omega)]
  rfl
section
variable {P : Program} {w : World} {K : PySem.W.Frag} {mg : Str → Option Value} {base : Heap} {f : Addr} {fd : FuncData}
def spLay (C : Addr) (n : Nat) : Sp := fun vs H Q _ => ∃ (Hb : Hp) (L sA : Addr) (b : Rws) (xs svs : List V), vs = [.ref L, .ref sA] ∧ Hb L = some (.lst xs) ∧ IsBlk C (fun _ => True) Hb b xs ∧ Same Hb H ∧ Hb sA = none ∧ H sA = some (.lst svs) ∧ b.dep < n ∧ svs.length + 2 * b.tot ≤ 100000 ∧
  ∀ (new : List V) (H' : Hp), new.length ≤ 2 * b.tot → Kp [sA] H H' → Tps H H' → H' sA = some (.lst (svs ++ new)) → Q .non H'
def spLayIf (C : Addr) (n : Nat) : Sp := fun vs H Q _ => ∃ (Hb : Hp) (sA : Addr) (r : R1) (rv : V) (svs : List V), vs = [rv, .ref sA] ∧ RowAt C Hb r rv ∧ Same Hb H ∧ Hb sA = none ∧ H sA = some (.lst svs) ∧ max r.b.dep r.o.dep < n ∧ svs.length + 2 * (1 + r.b.tot + r.o.tot) ≤ 100000 ∧
  ∀ (new : List V) (H' : Hp), new.length ≤ 2 * (1 + r.b.tot + r.o.tot) → Kp [sA] H H' → Tps H H' → H' sA = some (.lst (svs ++ new)) → Q .non H'
theorem same_kp1 {Hb H H' : Hp} {sA : Addr} (s : Same Hb H) (n : Hb sA = none) (k : Kp [sA] H H') : Same Hb H' := fun x o e => k x o (by have := ne_of_none e n; simpa using this) (s x o e)
theorem sc74 : FnScope ["row", "steps", "head", "tail"] ["row", "steps"] (defScope (top 74)) := ⟨rfl, rfl, rfl, by decide +kernel, rfl, by decide +kernel, by decide +kernel⟩
theorem layif_step {C gL : Addr} {dL : FuncData} {n : Nat} (F : Fun K "lay_out_if" "lay_out_if" (top 74) f fd) (N : Nb mg) (T : RowT K mg C) (GL : FnOk P w K mg base CX0 (2 * n) gL dL ["block", "steps"] (spLay C n)) (bGL : Binds K dL ["block", "steps"] []) (kGL : PySem.W.keepIn K (.ref gL) = true) (mGL : mg "lay_out" = some (.ref gL)) :
    FnOk P w K mg base CX0 (2 * n + 1) f fd ["row", "steps"] (spLayIf C n) := by
  refine F.ok sc74 (fun vs H Q E h => ?_) (fun cdv A outer s H vs Q E hr h => ?_)
  · obtain ⟨Hb, sA, r, rv, svs, rfl, _⟩ := h
    rfl
  obtain ⟨Hb, sA, r, rv, svs, rfl, hrow, sb, ns, hs, hd, hl, q⟩ := h
  refine ⟨_, (pss_cons (ps_set (i := 2) sc74.nd rfl (.inl rfl) (pe_callB call_len_seq (by rfl) N.len PySem.boot_len (pa_cons (pv 1) pa_nil)))
  (pss_cons (ps_expr (pe_bm PySem.F.plainAttrs_list PySem.F.slot_list_append PySem.F.type_list_append mt_append (pv 1) (pa_cons pe_non pa_nil)))
  (pss_cons (ps_expr (pe_call GL hr rfl mGL kGL bGL .nil pass0 (pa_cons (pe_fld (pv 0) rfl) (pa_cons (pv 1) pa_nil))))
  (pss_cons (ps_if (pt_not (pt_truth (pe_fld (pv 0) rfl) (by intro _; rfl)))
  (pss_cons (ps_asg (pe_tup (pa_cons pe_str (pa_cons (pv 0) (pa_cons (pe_callB call_len_seq (by rfl) N.len PySem.boot_len (pa_cons (pv 1) pa_nil)) pa_nil)))) (pg_sub (pv 1) (pv 2) set_list))
    (pss_one ps_retN))
  pss_nil)
  (pss_cons (ps_set (i := 3) sc74.nd rfl (.inl rfl) (pe_callB call_len_seq (by rfl) N.len PySem.boot_len (pa_cons (pv 1) pa_nil)))
  (pss_cons (ps_expr (pe_bm PySem.F.plainAttrs_list PySem.F.slot_list_append PySem.F.type_list_append mt_append (pv 1) (pa_cons pe_non pa_nil)))
  (pss_cons (ps_asg (pe_tup (pa_cons pe_str (pa_cons (pv 0) (pa_cons (pe_callB call_len_seq (by rfl) N.len PySem.boot_len (pa_cons (pv 1) pa_nil)) pa_nil)))) (pg_sub (pv 1) (pv 2) set_list))
  (pss_cons (ps_expr (pe_call GL hr rfl mGL kGL bGL .nil pass0 (pa_cons (pe_fld (pv 0) rfl) (pa_cons (pv 1) pa_nil))))
  (pss_one (ps_asg (pe_tup (pa_cons pe_str (pa_cons pe_non (pa_cons (pe_callB call_len_seq (by rfl) N.len PySem.boot_len (pa_cons (pv 1) pa_nil)) pa_nil)))) (pg_sub (pv 1) (pv 3) set_list))))))))))), ?_⟩
  obtain ⟨p, dx, sv, lb, lo, xb, xo, rfl, hp, hsd, hb, ib, ho, io⟩ := hrow
  have sz3 : 3 ≤ sizeLine := by decide
  refine ⟨_, rfl, sA, _, rfl, .inl (SqL.of hs), ?_⟩
  refine ⟨_, rfl, .inl ⟨rfl, _, SqL.of hs⟩, sA, _, _, rfl, rfl, hs, (by rw [sizeLine_eq]; omega), ?_⟩
  have k1 : Kp [sA] H (upd H sA (.lst (svs ++ [.non]))) := Kp.refl.upd (by simp)
  have t1 : Tps H (upd H sA (.lst (svs ++ [.non]))) := tps_upd hs (fun _ z => by cases z)
  have h1 : (upd H sA (.lst (svs ++ [.non]))) sA = some (.lst (svs ++ [.non])) := upd_same
  generalize upd H sA (.lst (svs ++ [.non])) = H1 at k1 t1 h1 ⊢
  have sb1 := same_kp1 sb ns k1
  refine ⟨_, rfl, p, C, dx, _, _, rfl, sb1 _ _ hp, T.cl, T.n3, rf_body, _, rfl, Hb, lb, sA, r.b, xb, svs ++ [.non], rfl, hb, ib, sb1, ns, h1, by omega, (by rw [List.length_append]; simp only [List.length_cons, List.length_nil]; omega), fun new1 H2 l2 k2 t2 h2 => ?_⟩
  have sb2 := same_kp1 sb1 ns k2
  have e2 : svs ++ [V.non] ++ new1 = svs ++ V.non :: new1 := by rw [List.append_assoc]; rfl
  rw [e2] at h2
  have k02 : Kp [sA] H H2 := fun x o hx e => k2 x o hx (k1 x o hx e)
  have t02 := t1.trans t2
  refine ⟨_, rfl, p, C, dx, _, _, rfl, sb2 _ _ hp, T.cl, T.n4, rf_other, _, .inl ⟨_, SqL.of (sb2 _ _ ho), rfl⟩, ?_⟩
  have lns : (svs ++ V.non :: new1).length = svs.length + 1 + new1.length := by rw [List.length_append, List.length_cons]; omega
  cases xo with
  | nil =>
    refine ifT rfl ?_
    refine ⟨_, rfl, _, rfl, sA, _, rfl, .inl (SqL.of h2), sz3, fun t nt => ?_⟩
    have u3 := same_new nt (.tup [.str "if", .ref p, .int (((svs ++ V.non :: new1).length : Nat) : Int)])
    have h3 := u3 _ _ h2
    generalize upd H2 t (.tup [.str "if", .ref p, .int (((svs ++ V.non :: new1).length : Nat) : Int)]) = H3 at u3 h3 ⊢
    refine ⟨_, rfl, _, rfl, sA, _, _, svs.length, rfl, rfl, h3, ixN_nat (by rw [lns]; omega), ?_⟩
    rw [set_app]
    refine q (.ref t :: new1) _ (by rw [List.length_cons]; omega) (fun x o hx e => ?_) ((t02.trans (Tps.of u3)).trans (tps_upd h3 (fun _ z => by cases z))) upd_same
    rw [upd_ne (by simpa using hx)]
    exact u3 _ _ (k02 x o hx e)
  | cons x0 xo0 =>
    refine ifF rfl ?_
    refine ⟨_, rfl, sA, _, rfl, .inl (SqL.of h2), ?_⟩
    refine ⟨_, rfl, .inl ⟨rfl, _, SqL.of h2⟩, sA, _, _, rfl, rfl, h2, (by rw [sizeLine_eq, lns]; omega), ?_⟩
    have k3 : Kp [sA] H2 (upd H2 sA (.lst (svs ++ V.non :: new1 ++ [.non]))) := Kp.refl.upd (by simp)
    have t3 : Tps H2 (upd H2 sA (.lst (svs ++ V.non :: new1 ++ [.non]))) := tps_upd h2 (fun _ z => by cases z)
    have h3 : (upd H2 sA (.lst (svs ++ V.non :: new1 ++ [.non]))) sA = some (.lst (svs ++ V.non :: new1 ++ [.non])) := upd_same
    generalize upd H2 sA (.lst (svs ++ V.non :: new1 ++ [.non])) = H3 at k3 t3 h3 ⊢
    have k03 : Kp [sA] H H3 := fun x o hx e => k3 x o hx (k02 x o hx e)
    have t03 := t02.trans t3
    have lnz : (svs ++ V.non :: new1 ++ [V.non]).length = svs.length + 1 + new1.length + 1 := by rw [List.length_append, lns]; rfl
    refine ⟨_, rfl, _, rfl, sA, _, rfl, .inl (SqL.of h3), sz3, fun t nt => ?_⟩
    obtain ⟨w, ew⟩ : ∃ w : HO, w = .tup [.str "if", .ref p, .int (((svs ++ V.non :: new1 ++ [V.non]).length : Nat) : Int)] := ⟨_, rfl⟩
    rw [← ew]
    have u4 := same_new nt w
    have h4 := u4 _ _ h3
    have k04 : Kp [sA] H (upd H3 t w) := fun x o hx e => u4 _ _ (k03 x o hx e)
    have t04 := t03.trans (Tps.of u4)
    generalize upd H3 t w = H4 at u4 h4 k04 t04 ⊢
    refine ⟨_, rfl, _, rfl, sA, _, _, svs.length, rfl, rfl, h4, ixN_nat (by rw [lnz]; omega), ?_⟩
    rw [List.append_assoc, List.cons_append, set_app]
    have k5 : Kp [sA] H (upd H4 sA (.lst (svs ++ V.ref t :: (new1 ++ [V.non])))) := k04.upd (by simp)
    have t5 : Tps H (upd H4 sA (.lst (svs ++ V.ref t :: (new1 ++ [V.non])))) := t04.trans (tps_upd h4 (fun _ z => by cases z))
    have h5 : (upd H4 sA (.lst (svs ++ V.ref t :: (new1 ++ [V.non])))) sA = some (.lst (svs ++ V.ref t :: (new1 ++ [V.non]))) := upd_same
    generalize upd H4 sA (.lst (svs ++ V.ref t :: (new1 ++ [V.non]))) = H5 at k5 t5 h5 ⊢
    have sb5 := same_kp1 sb ns k5
    have ln5 : (svs ++ V.ref t :: (new1 ++ [V.non])).length = svs.length + 1 + new1.length + 1 := by simp; omega
    refine ⟨_, rfl, p, C, dx, _, _, rfl, sb5 _ _ hp, T.cl, T.n4, rf_other, _, rfl, Hb, lo, sA, r.o, x0 :: xo0, _, rfl, ho, io, sb5, ns, h5, by omega, (by rw [ln5]; omega), fun new2 H6 l6 k6 t6 h6 => ?_⟩
    have e6 : svs ++ V.ref t :: (new1 ++ [V.non]) ++ new2 = (svs ++ V.ref t :: new1) ++ V.non :: new2 := by simp
    rw [e6] at h6
    have k06 : Kp [sA] H H6 := fun x o hx e => k6 x o hx (k5 x o hx e)
    have t06 := t5.trans t6
    have ln6 : ((svs ++ V.ref t :: new1) ++ V.non :: new2).length = svs.length + 1 + new1.length + 1 + new2.length := by simp; omega
    refine ⟨_, rfl, sA, _, rfl, .inl (SqL.of h6), sz3, fun t' nt' => ?_⟩
    obtain ⟨w', ew'⟩ : ∃ w' : HO, w' = .tup [.str "jump", .non, .int ((((svs ++ V.ref t :: new1) ++ V.non :: new2).length : Nat) : Int)] := ⟨_, rfl⟩
    rw [← ew']
    have u7 := same_new nt' w'
    have h7 := u7 _ _ h6
    have k07 : Kp [sA] H (upd H6 t' w') := fun x o hx e => u7 _ _ (k06 x o hx e)
    have t07 := t06.trans (Tps.of u7)
    generalize upd H6 t' w' = H7 at u7 h7 k07 t07 ⊢
    have eix : (((svs ++ V.non :: new1).length : Nat) : Int) = (((svs ++ V.ref t :: new1).length : Nat) : Int) := by simp
    rw [eix]
    refine ⟨_, rfl, _, rfl, sA, _, _, (svs ++ V.ref t :: new1).length, rfl, rfl, h7, ixN_nat (by rw [ln6]; simp; omega), ?_⟩
    rw [set_app]
    refine q (.ref t :: (new1 ++ .ref t' :: new2)) _ (by simp; omega) (k07.upd (by simp)) (t07.trans (tps_upd h7 (fun _ z => by cases z))) ?_
    rw [upd_same]
    simp
theorem sc73 : FnScope ["block", "steps", "row", "word"] ["block", "steps"] (defScope (top 73)) := ⟨rfl, rfl, rfl, by decide +kernel, rfl, by decide +kernel, by decide +kernel⟩
theorem lay_none {C : Addr} : FnOk P w K mg base CX0 0 f fd ["block", "steps"] (spLay C 0) := by
  have no : ∀ vs H Q E, ¬ spLay C 0 vs H Q E := by
    rintro vs H Q E ⟨Hb, L, sA, b, xs, svs, _, _, _, _, _, _, h, _⟩
    exact absurd h (Nat.not_lt_zero _)
  exact ⟨fun vs H Q E h => absurd h (no vs H Q E), fun A outer s H args us vs Q E _ _ _ _ h => absurd h (no vs H Q E)⟩
theorem lay_step {C gI : Addr} {dI : FuncData} {n : Nat} (F : Fun K "lay_out" "lay_out" (top 73) f fd) (G : Gn K mg) (T : RowT K mg C) (GI : FnOk P w K mg base CX0 (2 * n + 1) gI dI ["row", "steps"] (spLayIf C n)) (bGI : Binds K dI ["row", "steps"] []) (kGI : PySem.W.keepIn K (.ref gI) = true) (mGI : mg "lay_out_if" = some (.ref gI)) :
    FnOk P w K mg base CX0 (2 * (n + 1)) f fd ["block", "steps"] (spLay C (n + 1)) := by
  refine F.ok sc73 (fun vs H Q E h => ?_) (fun cdv A outer s H vs Q E hr h => ?_)
  · obtain ⟨Hb, L, sA, b, xs, svs, rfl, _⟩ := h
    rfl
  obtain ⟨Hb, L, sA, b, xs, svs, rfl, hL, ib, sb, ns, hs, hd, hl, q⟩ := h
  obtain ⟨aL, mL, cL⟩ := G.loops
  refine ⟨_, (pss_one (ps_for PassesOwn.never rfl (pi_list (pv 0)) (pg_name (i := 2) sc73.nd rfl (.inl rfl))
  (pss_cons (ps_set (i := 3) sc73.nd rfl (.inl rfl) (pe_ix ix_tup (pe_fld (pv 2) rfl) pe_int (fun _ _ => rfl)))
    (pss_one (ps_if (pt_cmpR op_eq (pv 3) pe_str (nomark _))
    (pss_one (ps_expr (pe_call GI hr rfl mGI kGI bGI .nil pass0 (pa_cons (pv 2) (pa_cons (pv 1) pa_nil)))))
    (pss_one (ps_if (pt_cmpR (show OpR _ _ (rIn K false) from op_in_seq) (pv 3) (pe_glob (v := .ref aL) (by rfl) mL rfl) (by rfl))
      (pss_one (ps_expr (pe_bm PySem.F.plainAttrs_list PySem.F.slot_list_append PySem.F.type_list_append mt_append (pv 1) (pa_cons (pe_tup (pa_cons pe_str (pa_cons (pv 2) (pa_cons pe_non pa_nil)))) pa_nil))))
      (pss_one (ps_expr (pe_bm PySem.F.plainAttrs_list PySem.F.slot_list_append PySem.F.type_list_append mt_append (pv 1) (pa_cons (pe_tup (pa_cons (pv 3) (pa_cons (pv 2) (pa_cons pe_non pa_nil)))) pa_nil))))))))))), ?_⟩
  have sz3 : 3 ≤ sizeLine := by decide
  refine ⟨_, rfl, L, rfl, ⟨_, SqL.of (sb _ _ hL)⟩, for_list (K := K) (a := L) (xs := xs) (fun i σ H' => ∃ (b' : Rws) (new : List V) (v2 v3 : Option V), σ = [some (.ref L), some (.ref sA), v2, v3] ∧ Kp [sA] H H' ∧ Tps H H' ∧ H' sA = some (.lst (svs ++ new)) ∧ IsBlk C (fun _ => True) Hb b' (xs.drop i) ∧ new.length + 2 * b'.tot ≤ 2 * b.tot ∧ b'.dep ≤ b.dep)
    ⟨b, [], none, none, rfl, Kp.refl, (fun _ _ e => e), by rw [List.append_nil]; exact hs, ib, by simp, Nat.le_refl _⟩ (fun i σ H' _ h => by obtain ⟨b', new, v2, v3, _, k, _⟩ := h; exact SqL.of (same_kp1 sb ns k _ _ hL)) ?_ ?_⟩
  · rintro i y σ H' hi ⟨b', new, v2, v3, rfl, kp, tp, h', ib', hn, hd'⟩
    rw [drop_cons hi] at ib'
    obtain ⟨n', sd, bb, oo, e, b'', p, dx, sv, lb, lo, xb, xo, rfl, rfl, hp, hsd, hb, ibb, ho, ioo, ib''⟩ := ib'.uncons
    have hdd : max (1 + max bb.dep oo.dep) b''.dep ≤ b.dep := hd'
    have hn : new.length + 2 * (1 + bb.tot + oo.tot + b''.tot) ≤ 2 * b.tot := hn
    have sb' := same_kp1 sb ns kp
    have hrow : RowAt C Hb ⟨n', sd, bb, oo, e⟩ (.ref p) := ⟨p, dx, sv, lb, lo, xb, xo, rfl, hp, hsd, hb, ibb, ho, ioo⟩
    obtain ⟨c, r2, rfl, hc⟩ := sd_word hsd
    have put : ∀ (H1 : Hp) (t : Addr) (o : HO), Same H' H1 → H1 t = none → (svs ++ new).length + 1 ≤ sizeLine ∧ (upd H1 t o) sA = some (.lst (svs ++ new)) ∧ Kp [sA] H (upd (upd H1 t o) sA (.lst (svs ++ new ++ [.ref t]))) ∧ Tps H (upd (upd H1 t o) sA (.lst (svs ++ new ++ [.ref t]))) ∧ (upd (upd H1 t o) sA (.lst (svs ++ new ++ [.ref t]))) sA = some (.lst (svs ++ (new ++ [.ref t]))) := by
      intro H1 t o s1 nt
      have u := same_new nt o
      have h2 := u _ _ (s1 _ _ h')
      refine ⟨by rw [List.length_append, sizeLine_eq]; omega, h2, Kp.upd (fun x o hx e => u _ _ (s1 _ _ (kp x o hx e))) (by simp), (tp.trans (Tps.of (s1.trans u))).trans (tps_upd h2 (fun _ z => by cases z)), ?_⟩
      rw [upd_same, List.append_assoc]
    refine ⟨_, rfl, p, C, dx, _, _, rfl, sb' _ _ hp, T.cl, T.n2, rf_said, c, _, _, _, rfl, rfl, SqT.of (sb' _ _ hc), atI_nat (j := 0) rfl, ?_⟩
    refine ⟨_, rfl, rfl, _, rfl, ?_⟩
    rw [dec_str]
    refine if2 (fun c1 => ?_) (fun c1 => ?_)
    · refine ⟨_, rfl, _, rfl, Hb, sA, ⟨n', sd, bb, oo, e⟩, .ref p, _, rfl, hrow, sb', ns, h', (by show max bb.dep oo.dep < n; omega), (by show _ + 2 * (1 + bb.tot + oo.tot) ≤ 100000; rw [List.length_append]; omega), fun nw H2 l2 k2 t2 h2 => ?_⟩
      have l2 : nw.length ≤ 2 * (1 + bb.tot + oo.tot) := l2
      exact ⟨b'', new ++ nw, _, _, rfl, fun x o hx ex => k2 x o hx (kp x o hx ex), tp.trans t2, by rw [h2, List.append_assoc], ib'', by rw [List.length_append]; omega, by omega⟩
    · refine ⟨_, rfl, aL, _, rfl, .inr (cL _), rfl, flat_strs' _, _, rfl, ?_⟩
      refine if2 (fun c2 => ?_) (fun c2 => ?_)
      · refine ⟨_, rfl, .inl ⟨rfl, _, SqL.of h'⟩, _, rfl, sz3, fun t nt => ?_⟩
        obtain ⟨p1, p2, p3, p4, p5⟩ := put H' t (.tup [.str "loop", .ref p, .non]) (fun _ _ e => e) nt
        exact ⟨sA, _, _, rfl, rfl, p2, p1, b'', new ++ [.ref t], _, _, rfl, p3, p4, p5, ib'', by rw [List.length_append]; simp only [List.length_cons, List.length_nil]; omega, by omega⟩
      · refine ⟨_, rfl, .inl ⟨rfl, _, SqL.of h'⟩, _, rfl, _, rfl, sz3, fun t nt => ?_⟩
        obtain ⟨p1, p2, p3, p4, p5⟩ := put H' t (.tup [.str sd.word, .ref p, .non]) (fun _ _ e => e) nt
        exact ⟨sA, _, _, rfl, rfl, p2, p1, b'', new ++ [.ref t], _, _, rfl, p3, p4, p5, ib'', by rw [List.length_append]; simp only [List.length_cons, List.length_nil]; omega, by omega⟩
  · rintro σ H' ⟨b', new, v2, v3, rfl, kp, tp, h', ib', hn, _⟩
    exact q new H' (by omega) kp tp h'
theorem lay_all {C gI : Addr} {dI : FuncData} (F : Fun K "lay_out" "lay_out" (top 73) f fd) (FI : Fun K "lay_out_if" "lay_out_if" (top 74) gI dI) (N : Nb mg) (G : Gn K mg) (T : RowT K mg C) (b : Binds K fd ["block", "steps"] []) (m : mg "lay_out" = some (.ref f)) (bGI : Binds K dI ["row", "steps"] []) (mGI : mg "lay_out_if" = some (.ref gI)) : ∀ n : Nat, FnOk P w K mg base CX0 (2 * n) f fd ["block", "steps"] (spLay C n)
  | 0 => lay_none
  | n + 1 => lay_step F G T (layif_step FI N T (lay_all F FI N G T b m bGI mGI n) b F.kp m) bGI FI.kp mGI
def spStepsOf (C : Addr) (n : Nat) : Sp := fun vs H Q _ => ∃ (Hb : Hp) (L : Addr) (b : Rws) (xs : List V), vs = [.ref L] ∧ Hb L = some (.lst xs) ∧ IsBlk C (fun _ => True) Hb b xs ∧ Same Hb H ∧ b.dep < n ∧ 2 * b.tot ≤ 99999 ∧
  ∀ (a : Addr) (ss : List V) (H' : Hp), Same H H' → H' a = some (.lst ss) → ss.length ≤ 2 * b.tot + 1 → Q (.ref a) H'
theorem sc71 : FnScope ["body", "steps"] ["body"] (defScope (top 71)) := ⟨rfl, rfl, rfl, by decide +kernel, rfl, by decide +kernel, by decide +kernel⟩
theorem ok_steps_of {C gL : Addr} {dL : FuncData} {n : Nat} (F : Fun K "steps_of" "steps_of" (top 71) f fd) (GL : FnOk P w K mg base CX0 (2 * n) gL dL ["block", "steps"] (spLay C n)) (bGL : Binds K dL ["block", "steps"] []) (kGL : PySem.W.keepIn K (.ref gL) = true) (mGL : mg "lay_out" = some (.ref gL)) :
    FnOk P w K mg base CX0 (2 * n + 1) f fd ["body"] (spStepsOf C n) := by
  refine F.ok sc71 (fun vs H Q E h => ?_) (fun cdv A outer s H vs Q E hr h => ?_)
  · obtain ⟨Hb, L, b, xs, rfl, _⟩ := h
    rfl
  obtain ⟨Hb, L, b, xs, rfl, hL, ib, sb, hd, hl, q⟩ := h
  refine ⟨_, (pss_cons (ps_set (i := 1) sc71.nd rfl (.inl rfl) (pe_lst pa_nil))
  (pss_cons (ps_expr (pe_call GL hr rfl mGL kGL bGL .nil pass0 (pa_cons (pv 0) (pa_cons (pv 1) pa_nil))))
  (pss_cons (ps_expr (pe_bm PySem.F.plainAttrs_list PySem.F.slot_list_append PySem.F.type_list_append mt_append (pv 1) (pa_cons (pe_tup (pa_cons pe_str (pa_cons pe_non (pa_cons pe_non pa_nil)))) pa_nil)))
  (pss_one (ps_ret (pv 1)))))), ?_⟩
  have sz3 : 3 ≤ sizeLine := by decide
  refine ⟨(by decide), fun sA nA => ?_⟩
  have u1 := same_new nA (.lst [])
  have m1 : (upd H sA (.lst [])) sA = some (.lst []) := upd_same
  generalize upd H sA (.lst []) = H1 at u1 m1 ⊢
  have nsb : Hb sA = none := by
    cases e : Hb sA with
    | none => rfl
    | some o => rw [sb _ _ e] at nA; cases nA
  refine ⟨_, rfl, _, rfl, Hb, L, sA, b, xs, [], rfl, hL, ib, sb.trans u1, nsb, m1, hd, by simp; omega, fun new H2 l2 k2 t2 h2 => ?_⟩
  rw [List.nil_append] at h2
  have s2 : Same H H2 := fun x o e => k2 x o (by have := ne_of_none e nA; simpa using this) (u1 x o e)
  refine ⟨_, rfl, .inl ⟨rfl, _, SqL.of h2⟩, sz3, fun t nt => ?_⟩
  have u3 := same_new nt (.tup [.str "over", .non, .non])
  have h3 := u3 _ _ h2
  generalize upd H2 t (.tup [.str "over", .non, .non]) = H3 at u3 h3 ⊢
  refine ⟨sA, _, _, rfl, rfl, h3, (by rw [sizeLine_eq]; omega), ?_⟩
  refine ⟨_, rfl, q sA _ _ (fun x o e => ?_) upd_same (by rw [List.length_append]; simp only [List.length_cons, List.length_nil]; omega)⟩
  rw [upd_ne (ne_of_none e nA)]
  exact u3 _ _ (s2 _ _ e)
end
end K01
/-! != of two types (both are asked by object.__ne__, then identity); is not True, is not False of anything. -/
namespace Ty
open PySem PySem.Spec PyProof.Rows L2
theorem slot_ne : Slot "type" "__ne__" "object.__ne__" := .of (owner := "object") (n := "__ne__") (by rw [typeLookup_type, builtinLookup_eq_fast]; kernel_rfl) (by decide +kernel) (by decide +kernel) (by decide +kernel)
    (by first | exact .inl (by decide +kernel) | exact .inr (by decide +kernel)) (by rw [isSubtype_type]; kernel_rfl)
theorem slot_eq : Slot "type" "__eq__" "object.__eq__" := .of (owner := "object") (n := "__eq__") (by rw [typeLookup_type, builtinLookup_eq_fast]; kernel_rfl) (by decide +kernel) (by decide +kernel) (by decide +kernel)
    (by first | exact .inl (by decide +kernel) | exact .inr (by decide +kernel)) (by rw [isSubtype_type]; kernel_rfl)
/-- the type of the type a is type -/
def TyP (a : String) : Prop := ∀ s : Shared, s.TypeIs (.type a) "type"
theorem typ_of {a : String} (h : typeOf (.type a) = pure (.type "type")) : TyP a := fun _ => h
theorem typ_str : TyP "str" := typ_of (by first | rfl | kernel_rfl)
theorem typ_int : TyP "int" := typ_of (by first | rfl | kernel_rfl)
theorem typ_bool : TyP "bool" := typ_of (by first | rfl | kernel_rfl)
theorem typ_none : TyP "NoneType" := typ_of (by first | rfl | kernel_rfl)
theorem typ_list : TyP "list" := typ_of (by first | rfl | kernel_rfl)
theorem typ_tuple : TyP "tuple" := typ_of (by first | rfl | kernel_rfl)
theorem typ_dict : TyP "dict" := typ_of (by first | rfl | kernel_rfl)
theorem typ_bytes : TyP "bytes" := typ_of (by first | rfl | kernel_rfl)
section
variable {prog : Program} {w : World} {A : Around} {E : Value → Shared → Prop} {s : Shared}
theorem objEq {a b : String} (ta : TyP a) {Q : Value → Shared → Prop} (q : Q (if a = b then .bool true else .notImplemented) s) : wpAny (model prog w) A (call (.builtin "object.__eq__") [.type a, .type b]) Q E s := by
  refine wpAny_call (codeAny_call_builtin slot_eq.plain F.cmpEntry_eq (slot_eq.check _ _ _ _ _ _ _ _ (ta s) (F.cmpArgs_eq _ _) ?_))
  unfold Builtin.«object.__eq__»
  by_cases e : a = b
  · rw [if_pos e] at q
    subst e
    repeat (first | (with_reducible refine wpAny_isSame_plain rfl ?_; rw [ty_beq, decide_eq_true rfl]) | wp_step)
    exact q
  · rw [if_neg e] at q
    repeat (first | (with_reducible refine wpAny_isSame_plain rfl ?_; rw [ty_beq, decide_eq_false e]) | wp_step)
    exact q
theorem room2 {a b : String} {Q : Unit → Shared → Prop} (q : Q () s) : wpAny (model prog w) A (cRoomFor "comparison" [.type a, .type b]) Q E s := by
  have hv : [Value.type a, Value.type b].any Value.onHeap = false := rfl
  simp only [cRoomFor, hv, Bool.false_eq_true, if_false]
  exact wpAny_pure q
theorem objNe {a b : String} (ta : TyP a) {Q : Value → Shared → Prop} (q : Q (if a = b then .bool false else .notImplemented) s) : wpAny (model prog w) A (call (.builtin "object.__ne__") [.type a, .type b]) Q E s := by
  refine wpAny_call (codeAny_call_builtin slot_ne.plain F.cmpEntry_ne (slot_ne.check _ _ _ _ _ _ _ _ (ta s) (F.cmpArgs_ne _ _) ?_))
  unfold Builtin.«object.__ne__»
  by_cases e : a = b
  · rw [if_pos e] at q
    repeat (first
      | with_reducible refine room2 ?_
      | (refine wpAny_bind (m := callSpecialIfBound? (.type a) (Str.ofString "__eq__") [.type b]) (wpAny_callSpecialIfBound?_slot (ta _) slot_eq (objEq ta ?_)); rw [if_pos e])
      | (refine wpAny_bind (m := truthy (.bool _)) (wpAny_truthy_bool ?_))
      | wp_step)
    exact q
  · rw [if_neg e] at q
    repeat (first
      | with_reducible refine room2 ?_
      | (refine wpAny_bind (m := callSpecialIfBound? (.type a) (Str.ofString "__eq__") [.type b]) (wpAny_callSpecialIfBound?_slot (ta _) slot_eq (objEq ta ?_)); rw [if_neg e])
      | wp_step)
    exact q
theorem ne_types {a b : String} (ta : TyP a) (tb : TyP b) {Q : Value → Shared → Prop} (q : Q (.bool (!decide (a = b))) s) : wpAny (model prog w) A (compareOp .NotEq (.type a) (.type b)) Q E s := by
  show wpAny _ A (richCompare .NotEq _ _) Q E s
  simp only [richCompare, (ta s).oneThing_none]
  refine wpAny_holding ?_
  refine wpAny_bind (room2 ?_)
  rw [cmpInfo_NotEq]
  dsimp only
  refine wpAny_bind (wpAny_typeOf (ta s) (wpAny_bind (wpAny_typeOf (tb s) ?_)))
  rw [show (Value.type "type" != Value.type "type") = false by decide]
  simp only [Bool.false_eq_true, if_false]
  refine wpAny_bind (wpAny_pure ?_)
  simp only [Bool.false_eq_true, if_false, Bool.not_false, if_true]
  by_cases e : a = b
  · rw [decide_eq_true e] at q
    refine wpAny_bind (m := tryCompare (.type a) _ (.type b)) (wpAny_tryCompare_slot (ta s) slot_ne (objNe ta ?_))
    rw [if_pos e]
    exact ⟨by decide, wpAny_pure q⟩
  · rw [decide_eq_false e] at q
    refine wpAny_bind (m := tryCompare (.type a) _ (.type b)) (wpAny_tryCompare_declines (ta s) slot_ne (objNe ta ?_))
    rw [if_neg e]
    refine ⟨rfl, ?_⟩
    refine wpAny_bind (m := tryCompare (.type b) _ (.type a)) (wpAny_tryCompare_declines (tb s) slot_ne (objNe tb ?_))
    rw [if_neg fun z => e z.symm]
    refine ⟨rfl, ?_⟩
    refine wpAny_bind (wpAny_rule (wpAny_bind (wpAny_isSame_plain rfl ?_)))
    rw [ty_beq, decide_eq_false e]
    exact wpAny_pure q
end
/-- x != y, two types whose type is type -/
def rNeTy : R2 := fun x y H Q => ∃ a b, x = .ty a ∧ y = .ty b ∧ TyP a ∧ TyP b ∧ Q (.bl (!decide (a = b))) H
section
variable {X : Cx}
theorem op_neTy : OpR X (compareOp .NotEq) rNeTy := by
  intro pins s σ H x y v u Q I rx ry h
  obtain ⟨a, b, rfl, rfl, ta, tb, q⟩ := h
  cases (show v = Value.type a from rx)
  cases (show u = Value.type b from ry)
  exact ne_types ta tb (fin_bl I q rfl)
/-- x is not a truth value b, whatever x is -/
def rNotBl (neg : Bool) : R2 := fun x y H Q => ∃ b : Bool, y = .bl b ∧ Q (.bl (neg != decide (x = .bl b))) H
theorem op_notBlAny : OpR X (compareOp .IsNot) (rNotBl true) := by
  intro pins s σ H x y v u Q I rx ry h
  obtain ⟨b, rfl, q⟩ := h
  cases (show u = Value.bool b from ry)
  have fin : ∀ {v : Value}, plainIs v (.bool b) = true → (v == Value.bool b) = decide (x = .bl b) → wpAny (model X.prog X.w) X.A (compareOp .IsNot v (.bool b)) (EP X pins σ Q) X.xe s := fun h1 h2 => wpAny_isNot_plain h1 (fin_bl I q (by rw [h2]; cases decide (x = .bl b) <;> rfl))
  cases x with
  | non => cases rx; exact fin rfl rfl
  | bl c =>
    cases rx
    refine fin rfl ?_
    by_cases e : c = b
    · subst e; simp
    · rw [decide_eq_false (fun z => e (V.bl.inj z))]
      exact beq_eq_false_iff_ne.mpr fun z => e (Value.bool.inj z)
  | int i => obtain ⟨t, rfl⟩ := rx; exact fin rfl rfl
  | str i => obtain ⟨t, rfl⟩ := rx; exact fin rfl rfl
  | byt i => obtain ⟨t, rfl⟩ := rx; exact fin rfl rfl
  | flt i => obtain ⟨t, rfl⟩ := rx; exact fin rfl rfl
  | ty n => cases rx; exact fin rfl rfl
  | ref a => cases rx; exact fin rfl rfl
end
end Ty
namespace K01
open PySem PySem.Spec PyProof.Rows L2 Xc Dt Ln Eo
abbrev kinds : List Str := ["find", "after", "first", "next", "put", "take", "drop", "leave"]
abbrev kindsUp : List Str := ["next", "take", "leave"]
/-- 0: taken, 1: BadKind, 2: BadUps -/
def ckRes (kv uv : V) : Nat := match kv with
  | .str k => if has kinds k then (match uv with
    | .bl b => if has kindsUp k && !b then 2 else 0
    | _ => 2) else 1
  | _ => 1
theorem ck_bad {k : Str} {uv : V} (h : has kinds k = false) : ckRes (.str k) uv = 1 := by
  show (if has kinds k = true then _ else _) = 1
  rw [h]
  rfl
theorem ck_not {k : Str} {uv : V} (h : has kinds k = true) (n : ∀ b, uv ≠ .bl b) : ckRes (.str k) uv = 2 := by
  show (if has kinds k = true then _ else _) = 2
  rw [h]
  cases uv with
  | bl b => exact absurd rfl (n b)
  | _ => rfl
theorem ck_bl {k : Str} {b : Bool} (h : has kinds k = true) : ckRes (.str k) (.bl b) = if has kindsUp k && !b then 2 else 0 := by
  show (if has kinds k = true then _ else _) = _
  rw [h]
  rfl
/-- the names of built-in things that the file of the class reads -/
structure Nc (mg : Str → Option Value) : Prop where
  type : mg "type" = none
  str : mg "str" = none
  isi : mg "isinstance" = none
structure Gk (K : PySem.W.Frag) (mg : Str → Option Value) : Prop where
  kinds : GT K mg "KINDS" kinds
  kindsUp : GT K mg "KINDS_WITH_UPS" kindsUp
  mL : ∃ t, mg "MOST_LINES" = some (.int 60 t)
  mI : ∃ t, mg "MOST_IFS" = some (.int 7 t)
section
variable {P : Program} {w : World} {K : PySem.W.Frag} {mg : Str → Option Value} {base : Heap} {f : Addr} {fd : FuncData}
/-- what stands there as a kind: a text, or a thing of another built-in type -/
def KindV (K : PySem.W.Frag) (H : Hp) (kv : V) : Prop := (∃ k, kv = .str k) ∨ ∃ T, TyB K H kv T ∧ Ty.TyP T ∧ T ≠ "str"
def spCheck (K : PySem.W.Frag) (CK CU : Addr) : Sp := fun vs H Q E => ∃ (kv uv : V), vs = [kv, uv] ∧ KindV K H kv ∧ (ckRes kv uv = 1 → Wish1 CK "kind" kv H E) ∧ (ckRes kv uv = 2 → Wish1 CU "ups" uv H E) ∧ (ckRes kv uv = 0 → Q .non H)
theorem sc82 : FnScope ["kind", "ups"] ["kind", "ups"] (defScope (top 82)) := ⟨rfl, rfl, rfl, by decide +kernel, rfl, by decide +kernel, by decide +kernel⟩
theorem ok_check {U CK CU CL CF CM : Addr} (F : Fun K "check_kind" "check_kind" (top 82) f fd) (N : Nc mg) (R : Er P w K mg base U CK CU CL CF CM) (G : Gk K mg) : FnOk P w K mg base (L2.CX P w) 3 f fd ["kind", "ups"] (spCheck K CK CU) := by
  refine F.okX sc82 (fun vs H Q E h => ?_) (fun cdv A outer s H vs Q E hr h => ?_)
  · obtain ⟨kv, uv, rfl, _⟩ := h
    rfl
  obtain ⟨kv, uv, rfl, hk, q1, q2, q0⟩ := h
  obtain ⟨gK, dK, aK, tK, FK, bK⟩ := R.iK
  obtain ⟨gU, dU, aU, tU, FU, bU⟩ := R.iU
  obtain ⟨aKi, mKi, cKi⟩ := G.kinds
  obtain ⟨aKu, mKu, cKu⟩ := G.kindsUp
  have r2 : Room 2 (A.deeper (envOfC "check_kind" (defScope (top 82)) s.heap.objs.size f cdv)) := hr.mono (by decide)
  refine ⟨_, (pss_cons (ps_if (PW.pt (pw_or (pt_cmpR Ty.op_neTy (pe_callTy call_type1 (by rfl) N.type (by decide +kernel) (pa_cons (pv 0) pa_nil)) (pe_bltn (v := .ty "str") (u := .type "str") (by rfl) N.str (by decide +kernel) rfl) (nomark _)) (pw_or1 (pt_cmpR (show OpR _ _ (rIn K true) from op_notIn_seq) (pv 0) (pe_glob (v := .ref aKi) (by rfl) mKi rfl) (by rfl)))))
  (pss_one (ps_raise rfl (takes_of rfl rfl rfl rfl) (pmk_oex R.ek.oex aK tK FK r2 bK .nil pass0 rfl R.mK (pa_cons (pv 0) pa_nil))))
  pss_nil)
  (pss_cons (ps_if (PW.pt (pw_and (pt_cmpR Ty.op_notBlAny (pv 1) pe_bl (nomark _)) (pw_and1 (pt_cmpR Ty.op_notBlAny (pv 1) pe_bl (nomark _)))))
  (pss_one (ps_raise rfl (takes_of rfl rfl rfl rfl) (pmk_oex R.eu.oex aU tU FU r2 bU .nil pass0 rfl R.mU (pa_cons (pv 1) pa_nil))))
  pss_nil)
  (pss_one (ps_if (PW.pt (pw_and (pt_cmpR (show OpR _ _ (rIn K false) from op_in_seq) (pv 0) (pe_glob (v := .ref aKu) (by rfl) mKu rfl) (by rfl)) (pw_and1 (pt_not (pt_val (pv 1))))))
  (pss_one (ps_raise rfl (takes_of rfl rfl rfl rfl) (pmk_oex R.eu.oex aU tU FU r2 bU .nil pass0 rfl R.mU (pa_cons (pv 1) pa_nil))))
  pss_nil)))), ?_⟩
  have mkU : ckRes kv uv = 2 → tMkO CU (spI1 CU "ups") [] (tCons (tVar 1) tNil) (L2.start ["kind", "ups"] [kv, uv]) H (fun cls d H' => E cls d H') := fun e =>
    ⟨_, rfl, (by show 1 ≤ 1000; decide), mk1 (fun dd H7 h2 h3 => q2 e dd H7 h2 h3)⟩
  have mkK : ckRes kv uv = 1 → tMkO CK (spI1 CK "kind") [] (tCons (tVar 0) tNil) (L2.start ["kind", "ups"] [kv, uv]) H (fun cls d H' => E cls d H') := fun e =>
    ⟨_, rfl, (by show 1 ≤ 1000; decide), mk1 (fun dd H7 h2 h3 => q1 e dd H7 h2 h3)⟩
  rcases hk with ⟨k, rfl⟩ | ⟨T, ht, tp, nT⟩
  · refine ⟨_, rfl, _, _, rfl, .str k, _, _, rfl, rfl, Ty.typ_str, Ty.typ_str, ?_⟩
    rw [decide_eq_true (rfl : "str" = "str")]
    refine ⟨_, rfl, ?_⟩
    refine ifF rfl ⟨_, rfl, aKi, _, rfl, .inr (cKi _), rfl, flat_strs' _, _, rfl, ?_⟩
    have e1 : inV (V.str k) (List.map V.str kinds) = has kinds k := inV_has _ _
    cases c1 : has kinds k with
    | false =>
      rw [c1] at e1
      exact ifT (by rw [e1]; rfl) (mkK (ck_bad c1))
    | true =>
      rw [c1] at e1
      refine ifF (by rw [e1]; rfl) ?_
      refine ⟨_, rfl, true, rfl, _, rfl, ?_⟩
      by_cases b : ∃ b, uv = .bl b
      · obtain ⟨b, rfl⟩ := b
        have e2 : inV (V.str k) (List.map V.str kindsUp) = has kindsUp k := inV_has _ _
        have go : tIfS (tAnd (tTest (tOp (rIn K false) (tVar 0) (tC (V.ref aKu)))) (tNot (tB (tVar 1)))) (fun x σ H => tMkO CU (spI1 CU "ups") [] (tCons (tVar 1) tNil) σ H fun cls d H' => E cls d H') tNext { nx := fun _ H' => Q V.non H', rt := Q } (L2.start ["kind", "ups"] [V.str k, V.bl b]) H := by
          refine ⟨_, rfl, aKu, _, rfl, .inr (cKu _), rfl, flat_strs' _, _, rfl, ?_⟩
          have c2 := ck_bl (b := b) c1
          cases c3 : has kindsUp k with
          | false =>
            rw [c3] at e2 c2
            exact ifF (by rw [e2]; rfl) (ifF rfl (q0 c2))
          | true =>
            rw [c3] at e2 c2
            refine ifT (by rw [e2]; rfl) ⟨_, rfl, _, rfl, ?_⟩
            cases b with
            | true => exact ifF rfl (q0 c2)
            | false => exact ifT rfl (mkU c2)
        cases b with
        | true => exact ifF (by decide) (ifF rfl go)
        | false => exact ifT (by decide) ⟨_, rfl, false, rfl, _, rfl, ifF (by decide) go⟩
      · have nb : ∀ b, uv ≠ .bl b := fun z e => b ⟨z, e⟩
        refine ifT (by rw [decide_eq_false (nb true)]; rfl) ⟨_, rfl, false, rfl, _, rfl, ifT (by rw [decide_eq_false (nb false)]; rfl) (mkU (ck_not c1 nb))⟩
  · have ek : ckRes kv uv = 1 := by
      unfold ckRes
      cases kv with
      | str k => cases ht; exact absurd rfl nT
      | _ => rfl
    refine ⟨_, rfl, _, _, rfl, ht, _, _, rfl, rfl, tp, Ty.typ_str, ?_⟩
    rw [decide_eq_false nT]
    exact ⟨_, rfl, ifT rfl (ifT rfl (mkK ek))⟩
end
end K01
namespace K01
open PySem PySem.Spec PyProof.Rows L2 Xc Dt Ln Eo
/-- the lines of a text -/
def linesOf (x : Str) : List Str := if x = "" then [] else Txt.split x "\n"
section
variable {P : Program} {w : World} {K : PySem.W.Frag} {mg : Str → Option Value} {base : Heap} {f : Addr} {fd : FuncData}
def spLines : Sp := fun vs H Q _ => ∃ x : Str, vs = [.str x] ∧ x.length + 2 ≤ sizeLine ∧ ∀ a, H a = none → Q (.ref a) (upd H a (.lst ((linesOf x).map V.str)))
theorem sc83 : FnScope ["text"] ["text"] (defScope (top 83)) := ⟨rfl, rfl, rfl, by decide +kernel, rfl, by decide +kernel, by decide +kernel⟩
theorem ok_lines (F : Fun K "lines_of" "lines_of" (top 83) f fd) : FnOk P w K mg base CX0 1 f fd ["text"] spLines := by
  refine F.ok sc83 (fun vs H Q E h => ?_) (fun cdv A outer s H vs Q E hr h => ?_)
  · obtain ⟨x, rfl, _⟩ := h
    rfl
  obtain ⟨x, rfl, hz, q⟩ := h
  refine ⟨_, (pss_one (ps_ret (pe_ifExp (pt_truth (pv 0) (by intro _; rfl)) (pe_bm PySem.F.plainAttrs_str PySem.F.slot_str_split PySem.F.type_str_split mt_split (pv 0) (pa_cons pe_str pa_nil)) (pe_lst pa_nil)))), ?_⟩
  unfold linesOf at q
  by_cases e : x = ""
  · rw [if_pos e] at q
    subst e
    exact ⟨_, rfl, false, ⟨by decide, rfl⟩, by decide, fun a na => q a na⟩
  · rw [if_neg e] at q
    refine ⟨_, rfl, true, ⟨by omega, ?_⟩, _, rfl, rfl, _, _, rfl, rfl, rfl, hz, fun a na => q a na⟩
    refine (bne_iff_ne.mpr fun z => e ?_).symm
    have z : x.length = 0 := by exact_mod_cast z
    cases x with
    | mk cps =>
      have z : cps.size = 0 := z
      rw [Array.eq_empty_of_size_eq_zero z]
      decide +kernel
end
end K01
set_option maxHeartbeats 1000000
namespace Ln
open PySem PySem.Spec PyProof.Rows L2 Xc Dt
theorem IsBlk.but {C C' p d : Addr} {A : Addr → Prop} {H H' : Hp} (hp : H p = some (.ins C' d [])) (k : ∀ x o, x ≠ p → H x = some o → H' x = some o) : ∀ {b : Rws} {vs : List V}, IsBlk C A H b vs → IsBlk C A H' b vs
  | .nil, _, h => h
  | .cons .., _, h => by
    obtain ⟨q, dx, sv, lb, lo, xb, xo, vr, rfl, a, hq, hs, hb, ib, ho, io, ir⟩ := h
    have n1 : q ≠ p := fun z => by rw [z, hp] at hq; cases hq
    have n2 : lb ≠ p := fun z => by rw [z, hp] at hb; cases hb
    have n3 : lo ≠ p := fun z => by rw [z, hp] at ho; cases ho
    have t : Tps H H' := fun a xs e => k a _ (fun z => by rw [z, hp] at e; cases e) e
    exact ⟨q, dx, sv, lb, lo, xb, xo, vr, rfl, a, k _ _ n1 hq, is_tps t (sd_pu _) hs, k _ _ n2 hb, ib.but hp k, k _ _ n3 ho, io.but hp k, ir.but hp k⟩
end Ln
namespace K01
open PySem PySem.Spec PyProof.Rows L2 Xc Dt Ln Eo
inductive CRes where
  | kind | ups
  | lines (n : Nat)
  | line (n : Nat)
  | ifs (n : Nat)
  | refused (n : Nat)
  | made (k : Str) (u : Bool) (b : Rws)
theorem ck_zero {kv uv : V} (h : ckRes kv uv = 0) : ∃ k u, kv = .str k ∧ uv = .bl u := by
  cases kv with
  | str k =>
    cases c : has kinds k with
    | false => rw [ck_bad c] at h; cases h
    | true =>
      by_cases b : ∃ b, uv = .bl b
      · obtain ⟨b, rfl⟩ := b
        exact ⟨k, b, rfl, rfl⟩
      · rw [ck_not c fun z e => b ⟨z, e⟩] at h
        cases h
  | _ => cases h
def strV : V → Str
  | .str k => k
  | _ => ""
def blV : V → Bool
  | .bl b => b
  | _ => false
/-- a text, cut up and looked through -/
def tRes (k : Str) (u : Bool) (x : Str) : CRes :=
  if 60 < (linesOf x).length then .lines (linesOf x).length else match readBlocks (linesOf x) with
  | .error n => .line n
  | .ok b => if 7 < b.cif then .ifs b.cif else match leastFault k u (linesOf x) b with
    | some n => .refused n
    | none => .made k u b
def cRes (kv uv : V) (x : Str) : CRes := match ckRes kv uv with
  | 0 => tRes (strV kv) (blV uv) x
  | 1 => .kind
  | _ => .ups
/-- what is wished of Code(kv, x, uv) -/
def CWish (CK CU CL CF CM : Addr) (kv uv : V) (H : Hp) (E : XK) (m : Str → Bool → Rws → Prop) : CRes → Prop
  | .kind => Wish1 CK "kind" kv H E
  | .ups => Wish1 CU "ups" uv H E
  | .lines n => Wish3 CM "what" "many" "most" (.str "lines") (.int (n : Nat)) (.int 60) H E
  | .line n => Wish1 CL "line" (.int (n : Nat)) H E
  | .ifs n => Wish3 CM "what" "many" "most" (.str "ifs") (.int (n : Nat)) (.int 7) H E
  | .refused n => Wish1 CF "line" (.int (n : Nat)) H E
  | .made k u b => m k u b
/-- a text whose sizes are in bounds -/
structure TextOk (x : Str) : Prop where
  len : x.length + 2 ≤ sizeLine
  lns : (linesOf x).length ≤ sizeLine
  fair : (linesOf x).length ≤ 60 → ∀ l ∈ linesOf x, Fair l
  dep : (linesOf x).length ≤ 60 → ∀ b, readBlocks (linesOf x) = .ok b → b.dep < 61 ∧ 2 * b.tot ≤ 99999
  sized : (linesOf x).length ≤ 60 → ∀ b, readBlocks (linesOf x) = .ok b → b.cif ≤ 7 → ∀ k u, Sized 61 k u (linesOf x) b
/-- the fields of a code -/
def codeF (k : Str) (u : Bool) (x : Str) (L An B St : Addr) : List (Str × V) := [("kind", .str k), ("ups", .bl u), ("text", .str x), ("_lines", .ref L), ("answers", .ref An), ("body", .ref B), ("steps", .ref St)]
structure AnsT (K : PySem.W.Frag) (mg : Str → Option Value) (C : Addr) : Prop where
  cl : Cls K C
  n1 : NoAttr K C "notes"
  mgC : mg "Answers" = some (.ref C)
structure CodT (K : PySem.W.Frag) (mg : Str → Option Value) (C : Addr) : Prop where
  cl : Cls K C
  n1 : NoAttr K C "kind"
  n2 : NoAttr K C "ups"
  n3 : NoAttr K C "text"
  n4 : NoAttr K C "_lines"
  n5 : NoAttr K C "answers"
  n6 : NoAttr K C "body"
  n7 : NoAttr K C "steps"
/-- a code stands at p -/
structure CodeAt (C CA Cr : Addr) (k : Str) (u : Bool) (x : Str) (b : Rws) (H : Hp) (p : Addr) : Prop where
  at_ : ∃ (dx L An dA B St : Addr) (bvs ss : List V), H p = some (.ins C dx (codeF k u x L An B St)) ∧ H L = some (.lst ((linesOf x).map V.str)) ∧ H An = some (.ins CA dA [("notes", .non)]) ∧
    H B = some (.lst bvs) ∧ IsBlk Cr (fun _ => True) H b bvs ∧ H St = some (.tup ss)
section
variable {P : Program} {w : World} {K : PySem.W.Frag} {mg : Str → Option Value} {base : Heap} {f : Addr} {fd : FuncData}
theorem gen_heap {α : Type} {H : α} {P R : α → Prop} (h : P H) (g : ∀ H', P H' → R H') : R H := g H h
def spAnsI (C : Addr) : Sp := fun vs H Q _ => ∃ (p dx : Addr), vs = [.ref p] ∧ H p = some (.ins C dx []) ∧ Q .non (upd H p (.ins C dx [("notes", .non)]))
theorem sc80 : FnScope ["self"] ["self"] (defScope (inClass (top 80) 0)) := ⟨rfl, rfl, rfl, by decide +kernel, rfl, by decide +kernel, by decide +kernel⟩
theorem ok_ansI {C : Addr} (F : Fun K "__init__" "Answers.__init__" (inClass (top 80) 0) f fd) (T : AnsT K mg C) : FnOk P w K mg base CX0 1 f fd ["self"] (spAnsI C) := by
  refine F.ok sc80 (fun vs H Q E h => ?_) (fun cdv A outer s H vs Q E hr h => ?_)
  · obtain ⟨p, dx, rfl, _⟩ := h
    rfl
  obtain ⟨p, dx, rfl, hp, q⟩ := h
  exact ⟨_, (pss_one (ps_fld (pv 0) pe_non rfl)), _, rfl, p, C, dx, [], rfl, hp, T.cl, T.n1, (by show 0 < 1000; decide), q⟩
def spCodeI (K : PySem.W.Frag) (C CA Cr CK CU CL CF CM : Addr) : Sp := fun vs H Q E => ∃ (p dx : Addr) (kv : V) (x : Str) (uv : V), vs = [.ref p, kv, .str x, uv] ∧ H p = some (.ins C dx []) ∧ KindV K H kv ∧ TextOk x ∧
  CWish CK CU CL CF CM kv uv H E (fun k u b => ∀ H', CodeAt C CA Cr k u x b H' p → (∀ y o, H y = some o → y ≠ p → H' y = some o) → Q .non H') (cRes kv uv x)
theorem sc81 : FnScope ["self", "kind", "text", "ups", "lines", "body", "many", "fault"] ["self", "kind", "text", "ups"] (defScope (inClass (top 81) 0)) := ⟨rfl, rfl, rfl, by decide +kernel, rfl, by decide +kernel, by decide +kernel⟩
theorem ok_codeI {U C CA Cr CK CU CL CF CM gC gL gB gN gF gS gA : Addr} {dC dL dB dN dF dS dA : FuncData} (F : FunD K "__init__" "Code.__init__" (defArgs (inClass (top 81) 0)) (defBody (inClass (top 81) 0)) (defScope (inClass (top 81) 0)) [.bl true] [] f fd) (N : Nb mg) (T : CodT K mg C) (TA : AnsT K mg CA) (G : Gk K mg) (R : Er P w K mg base U CK CU CL CF CM)
    (GC : FnOk P w K mg base (L2.CX P w) 3 gC dC ["kind", "ups"] (spCheck K CK CU)) (bGC : Binds K dC ["kind", "ups"] []) (kGC : PySem.W.keepIn K (.ref gC) = true) (mGC : mg "check_kind" = some (.ref gC))
    (GL : FnOk P w K mg base CX0 1 gL dL ["text"] spLines) (bGL : Binds K dL ["text"] []) (kGL : PySem.W.keepIn K (.ref gL) = true) (mGL : mg "lines_of" = some (.ref gL))
    (GB : FnOk P w K mg base (L2.CX P w) 10 gB dB ["lines"] (spBlocks CL Cr)) (bGB : Binds K dB ["lines"] []) (kGB : PySem.W.keepIn K (.ref gB) = true) (mGB : mg "read_blocks" = some (.ref gB))
    (GN : FnOk P w K mg base CX0 61 gN dN ["block"] (spCount Cr 61)) (bGN : Binds K dN ["block"] []) (kGN : PySem.W.keepIn K (.ref gN) = true) (mGN : mg "count_ifs" = some (.ref gN))
    (GF : FnOk P w K mg base CX0 126 gF dF ["kind", "ups", "lines", "block"] (spLeast Cr 61)) (bGF : Binds K dF ["kind", "ups", "lines", "block"] []) (kGF : PySem.W.keepIn K (.ref gF) = true) (mGF : mg "least_fault" = some (.ref gF))
    (GS : FnOk P w K mg base CX0 123 gS dS ["body"] (spStepsOf Cr 61)) (bGS : Binds K dS ["body"] []) (kGS : PySem.W.keepIn K (.ref gS) = true) (mGS : mg "steps_of_steps" = some (.ref gS))
    (MA : Mk K CA gA) (GA : FnOk P w K mg base CX0 1 gA dA ["self"] (spAnsI CA)) (bGA : Binds K dA ["self"] []) :
    FnOk P w K mg base (L2.CX P w) 127 f fd ["self", "kind", "text", "ups"] (spCodeI K C CA Cr CK CU CL CF CM) := by
  refine FunD.ok (CX := L2.CX P w) F sc81 (fun vs H Q E h => ?_) (fun cdv A outer s H vs Q E hr h => ?_)
  · obtain ⟨p, dx, kv, x, uv, rfl, _⟩ := h
    rfl
  obtain ⟨p, dx, kv, x, uv, rfl, hp, hk, tx, q⟩ := h
  obtain ⟨gF', dF', aF, tF, FF, bF⟩ := R.iF
  obtain ⟨gM, dM, aM, tM, FM, bM⟩ := R.iM
  obtain ⟨tML, mML⟩ := G.mL
  obtain ⟨tMI, mMI⟩ := G.mI
  have rC : ∀ {k : Nat}, k ≤ 126 → Room k (A.deeper (envOfC "Code.__init__" (defScope (inClass (top 81) 0)) s.heap.objs.size f cdv)) := fun h => hr.mono h
  refine ⟨_, (pss_cons (ps_expr (pe_callS GC (rC (k := 3) (by decide)) rfl mGC kGC bGC (fun σ => passAt (takes_of rfl rfl rfl rfl) σ) (pa_cons (pv 1) (pa_cons (pv 3) pa_nil))))
  (pss_cons (ps_set (i := 4) sc81.nd rfl (.inl rfl) (pe_call GL (rC (k := 1) (by decide)) rfl mGL kGL bGL .nil pass0 (pa_cons (pv 2) pa_nil)))
  (pss_cons (ps_if (pt_cmpR op_gt (pe_callB call_len_seq (by rfl) N.len PySem.boot_len (pa_cons (pv 4) pa_nil)) (pe_glob (v := .int 60) (by rfl) mML ⟨_, rfl⟩) (nomark _))
  (pss_one (ps_raise rfl (takes_of rfl rfl rfl rfl) (pmk_oex R.em.oex aM tM FM (rC (k := 2) (by decide)) bM .nil pass0 rfl R.mM (pa_cons pe_str (pa_cons (pe_callB call_len_seq (by rfl) N.len PySem.boot_len (pa_cons (pv 4) pa_nil)) (pa_cons (pe_glob (v := .int 60) (by rfl) mML ⟨_, rfl⟩) pa_nil))))))
  pss_nil)
  (pss_cons (ps_set (i := 5) sc81.nd rfl (.inl rfl) (pe_callS GB (rC (k := 10) (by decide)) rfl mGB kGB bGB (fun σ => passAt (takes_of rfl rfl rfl rfl) σ) (pa_cons (pv 4) pa_nil)))
  (pss_cons (ps_set (i := 6) sc81.nd rfl (.inl rfl) (pe_call GN (rC (k := 61) (by decide)) rfl mGN kGN bGN .nil pass0 (pa_cons (pv 5) pa_nil)))
  (pss_cons (ps_if (pt_cmpR op_gt (pv 6) (pe_glob (v := .int 7) (by rfl) mMI ⟨_, rfl⟩) (nomark _))
  (pss_one (ps_raise rfl (takes_of rfl rfl rfl rfl) (pmk_oex R.em.oex aM tM FM (rC (k := 2) (by decide)) bM .nil pass0 rfl R.mM (pa_cons pe_str (pa_cons (pv 6) (pa_cons (pe_glob (v := .int 7) (by rfl) mMI ⟨_, rfl⟩) pa_nil))))))
  pss_nil)
  (pss_cons (ps_set (i := 7) sc81.nd rfl (.inl rfl) (pe_call GF (rC (k := 126) (by decide)) rfl mGF kGF bGF .nil pass0 (pa_cons (pv 1) (pa_cons (pv 3) (pa_cons (pv 4) (pa_cons (pv 5) pa_nil))))))
  (pss_cons (ps_if (pt_cmpR op_notN (pv 7) pe_non (nomark _))
  (pss_one (ps_raise rfl (takes_of rfl rfl rfl rfl) (pmk_oex R.ef.oex aF tF FF (rC (k := 2) (by decide)) bF .nil pass0 rfl R.mF (pa_cons (pv 7) pa_nil))))
  pss_nil)
  (pss_cons (ps_fld (pv 0) (pv 1) rfl)
  (pss_cons (ps_fld (pv 0) (pv 3) rfl)
  (pss_cons (ps_fld (pv 0) (pv 2) rfl)
  (pss_cons (ps_fld (pv 0) (pv 4) rfl)
  (pss_cons (ps_fld (pv 0) (pe_make0 MA GA (rC (k := 2) (by decide)) rfl TA.mgC bGA .nil pass0) rfl)
  (pss_cons (ps_fld (pv 0) (pv 5) rfl)
  (pss_one (ps_fld (pv 0) (pe_callTy call_tuple_of (by rfl) N.tuple (by decide +kernel) (pa_cons (pe_call GS (rC (k := 123) (by decide)) rfl mGS kGS bGS .nil pass0 (pa_cons (pv 5) pa_nil)) pa_nil)) rfl)))))))))))))))), ?_⟩
  have sz0 : 0 ≤ sizeLine := by decide
  unfold cRes at q
  refine ⟨_, rfl, _, rfl, _, _, rfl, hk, fun e => ?_, fun e => ?_, fun e => ?_⟩
  · rw [e] at q
    exact q
  · rw [e] at q
    exact q
  rw [e] at q
  have q : CWish CK CU CL CF CM kv uv H E (fun k u b => ∀ H', CodeAt C CA Cr k u x b H' p → (∀ y o, H y = some o → y ≠ p → H' y = some o) → Q .non H') (tRes (strV kv) (blV uv) x) := q
  obtain ⟨k, u, rfl, rfl⟩ : ∃ k u, kv = .str k ∧ uv = .bl u := ck_zero e
  clear e hk
  have q : CWish CK CU CL CF CM (.str k) (.bl u) H E (fun k u b => ∀ H', CodeAt C CA Cr k u x b H' p → (∀ y o, H y = some o → y ≠ p → H' y = some o) → Q .non H') (tRes k u x) := q
  unfold tRes at q
  obtain ⟨ls, els⟩ : ∃ ls, ls = linesOf x := ⟨_, rfl⟩
  obtain ⟨t1, t2, t3, t4, t5⟩ := tx
  rw [← els] at q t2 t3 t4 t5
  refine ⟨_, rfl, x, rfl, t1, fun L nL => ?_⟩
  rw [← els]
  have u1 := same_new nL (.lst (ls.map V.str))
  have hL : (upd H L (.lst (ls.map V.str))) L = some (.lst (ls.map V.str)) := upd_same
  generalize upd H L (.lst (ls.map V.str)) = H1 at u1 hL ⊢
  refine ⟨_, rfl, L, _, rfl, .inl (SqL.of hL), _, _, rfl, rfl, _, rfl, ?_⟩
  have ll : (ls.map V.str).length = ls.length := List.length_map _
  refine if2 (fun c1 => ?_) (fun c1 => ?_)
  · have c1 : 60 < ls.length := by have := of_decide_eq_true c1; rw [ll] at this; exact_mod_cast this
    rw [if_pos c1] at q
    refine ⟨_, rfl, L, _, rfl, .inl (SqL.of hL), (by show 3 ≤ 1000; decide), mk3 (fun dd H7 h2 h3 => q dd H7 ?_ (u1.trans h3))⟩
    rw [ll] at h2
    exact h2
  have c1 : ¬ 60 < ls.length := fun z => by
    have z : (60 : Int) < ((ls.map V.str).length : Int) := by rw [ll]; exact_mod_cast z
    rw [decide_eq_true z] at c1
    cases c1
  rw [if_neg c1] at q
  have c0 : ls.length ≤ 60 := by omega
  refine ⟨_, rfl, L, ls, rfl, hL, by omega, t3 c0, fun n er => ?_, fun b eb B bvs H2 s2 nB hB iB => ?_⟩
  · rw [er] at q
    exact Wish1.same (show Wish1 CL "line" (.int (n : Nat)) H E from q) u1
  rw [eb] at q
  obtain ⟨db, tb⟩ := t4 c0 b eb
  refine ⟨_, rfl, B, b, bvs, rfl, hB, iB, db, ?_⟩
  refine ⟨_, rfl, _, _, rfl, rfl, _, rfl, ?_⟩
  refine if2 (fun c2 => ?_) (fun c2 => ?_)
  · have c2 : 7 < b.cif := by have := of_decide_eq_true c2; exact_mod_cast this
    have q : CWish CK CU CL CF CM (.str k) (.bl u) H E _ (if 7 < b.cif then CRes.ifs b.cif else _) := q
    rw [if_pos c2] at q
    exact ⟨_, rfl, (by show 3 ≤ 1000; decide), mk3 (fun dd H7 h2 h3 => q dd H7 h2 ((u1.trans s2).trans h3))⟩
  have c2 : ¬ 7 < b.cif := fun z => by
    have z : (7 : Int) < (b.cif : Int) := by exact_mod_cast z
    rw [decide_eq_true z] at c2
    cases c2
  have q : CWish CK CU CL CF CM (.str k) (.bl u) H E _ (if 7 < b.cif then CRes.ifs b.cif else _) := q
  rw [if_neg c2] at q
  have hL2 := s2 _ _ hL
  refine ⟨_, rfl, _, rfl, _, rfl, _, rfl, k, u, L, B, ls, b, bvs, rfl, hL2, hB, iB, t5 c0 b eb (by omega) k u, fun H3 s3 => ?_⟩
  have s03 := (u1.trans s2).trans s3
  refine ⟨_, rfl, rfl, _, rfl, ?_⟩
  cases ef : leastFault k u ls b with
  | some n =>
    rw [ef] at q
    exact ifT rfl ⟨_, rfl, (by show 1 ≤ 1000; decide), mk1 (fun dd H7 h2 h3 => q dd H7 h2 (s03.trans h3))⟩
  | none =>
    rw [ef] at q
    refine ifF rfl ?_
    have q : ∀ H', CodeAt C CA Cr k u x b H' p → (∀ y o, H y = some o → y ≠ p → H' y = some o) → Q .non H' := q
    have hp3 := s03 _ _ hp
    have hL3 := s3 _ _ hL2
    have hB3 := s3 _ _ hB
    have iB3 := iB.same s3
    have nd : ∀ {y : Addr} {o : HO}, H3 y = some o → y ≠ p → (del H3 p) y = some o := fun ey ny => by rw [del_ne ny]; exact ey
    have hpd : (del H3 p) p = none := del_same
    have hBd : (del H3 p) B = some (.lst bvs) := nd hB3 (fun z => by rw [z, hp3] at hB3; cases hB3)
    have hLd : (del H3 p) L = some (.lst (ls.map V.str)) := nd hL3 (fun z => by rw [z, hp3] at hL3; cases hL3)
    have iBd : IsBlk Cr (fun _ => True) (del H3 p) b bvs := iB3.but hp3 (fun y o ny ey => nd ey ny)
    have kd : ∀ y o, H y = some o → y ≠ p → (del H3 p) y = some o := fun y o ey ny => nd (s03 _ _ ey) ny
    have put : ∀ {H' : Hp} (o : HO), Same (del H3 p) H' → Same (del H3 p) (upd H' p o) := fun o s y w ey => by rw [upd_ne (ne_of_none ey hpd)]; exact s y w ey
    have s3d : Same (del H3 p) H3 := fun y o ey => by rw [del_ne (ne_of_none ey hpd)] at ey; exact ey
    generalize del H3 p = Hd at *
    refine ⟨_, rfl, _, rfl, p, C, dx, [], rfl, hp3, T.cl, T.n1, (by show 0 < 1000; decide), ?_⟩
    refine ⟨_, rfl, _, rfl, p, C, dx, _, rfl, upd_same, T.cl, T.n2, (by show 1 < 1000; decide), ?_⟩
    rw [upd_upd]
    refine ⟨_, rfl, _, rfl, p, C, dx, _, rfl, upd_same, T.cl, T.n3, (by show 2 < 1000; decide), ?_⟩
    rw [upd_upd]
    refine ⟨_, rfl, _, rfl, p, C, dx, _, rfl, upd_same, T.cl, T.n4, (by show 3 < 1000; decide), ?_⟩
    rw [upd_upd]
    have s4 := put (.ins C dx [("kind", .str k), ("ups", .bl u), ("text", .str x), ("_lines", .ref L)]) s3d
    have hp4 : (upd H3 p (.ins C dx [("kind", .str k), ("ups", .bl u), ("text", .str x), ("_lines", .ref L)])) p = some (.ins C dx [("kind", .str k), ("ups", .bl u), ("text", .str x), ("_lines", .ref L)]) := upd_same
    refine (show _ from ?_)
    generalize e4 : upd H3 p (.ins C dx [("kind", .str k), ("ups", .bl u), ("text", .str x), ("_lines", .ref L)]) = H4 at s4 hp4
    have e4' : upd H3 p (.ins C dx (putF "_lines" (.ref L) (putF "text" (.str x) (putF "ups" (.bl u) (putF "kind" (.str k) []))))) = H4 := e4
    rw [e4']
    refine fun An dA nAn ndA nn => ⟨An, dA, rfl, upd_same, rfl, ?_⟩
    rw [upd_upd]
    have nAp : An ≠ p := fun z => by rw [z, hp4] at nAn; cases nAn
    have ndp : dA ≠ p := fun z => by rw [z, hp4] at ndA; cases ndA
    have s5 : Same H4 (upd (upd H4 dA (.own An)) An (.ins CA dA [("notes", .non)])) := fun y o ey => by
      rw [upd_ne (ne_of_none ey nAn), upd_ne (ne_of_none ey ndA)]
      exact ey
    have hA5 : (upd (upd H4 dA (.own An)) An (.ins CA dA [("notes", .non)])) An = some (.ins CA dA [("notes", .non)]) := upd_same
    generalize upd (upd H4 dA (.own An)) An (.ins CA dA [("notes", .non)]) = H5 at s5 hA5 ⊢
    have hp5 := s5 _ _ hp4
    have sd5 := s4.trans s5
    refine ⟨_, rfl, p, C, dx, _, rfl, hp5, T.cl, T.n5, (by show 4 < 1000; decide), ?_⟩
    refine ⟨_, rfl, _, rfl, p, C, dx, _, rfl, upd_same, T.cl, T.n6, (by show 5 < 1000; decide), ?_⟩
    rw [upd_upd]
    have s6 := put (.ins C dx [("kind", .str k), ("ups", .bl u), ("text", .str x), ("_lines", .ref L), ("answers", .ref An), ("body", .ref B)]) sd5
    have hp6 : (upd H5 p (.ins C dx [("kind", .str k), ("ups", .bl u), ("text", .str x), ("_lines", .ref L), ("answers", .ref An), ("body", .ref B)])) p = some (.ins C dx [("kind", .str k), ("ups", .bl u), ("text", .str x), ("_lines", .ref L), ("answers", .ref An), ("body", .ref B)]) := upd_same
    have hA6 : (upd H5 p (.ins C dx [("kind", .str k), ("ups", .bl u), ("text", .str x), ("_lines", .ref L), ("answers", .ref An), ("body", .ref B)])) An = some (.ins CA dA [("notes", .non)]) := by rw [upd_ne nAp]; exact hA5
    generalize e6 : upd H5 p (.ins C dx [("kind", .str k), ("ups", .bl u), ("text", .str x), ("_lines", .ref L), ("answers", .ref An), ("body", .ref B)]) = H6 at s6 hp6 hA6
    have e6' : upd H5 p (.ins C dx (putF "body" (.ref B) (putF "answers" (.ref An) [("kind", .str k), ("ups", .bl u), ("text", .str x), ("_lines", .ref L)]))) = H6 := e6
    rw [e6']
    refine ⟨_, rfl, Hd, B, b, bvs, rfl, hBd, iBd, s6, db, tb, fun a ss H7 s7 ha hl => ⟨a, ss, rfl, .inl ⟨SqL.of ha, fun St nSt => ?_⟩⟩⟩
    have u8 := same_new nSt (.tup ss)
    have hS8 : (upd H7 St (.tup ss)) St = some (.tup ss) := upd_same
    generalize upd H7 St (.tup ss) = H8 at u8 hS8 ⊢
    have s68 := s7.trans u8
    have hp8 := s68 _ _ hp6
    have hA8 := s68 _ _ hA6
    have sd8 := s6.trans s68
    have nSp : St ≠ p := fun z => by rw [z, hp8] at hS8; cases hS8
    refine ⟨_, rfl, p, C, dx, _, rfl, hp8, T.cl, T.n7, (by show 6 < 1000; decide), ?_⟩
    have sd9 := put (.ins C dx (codeF k u x L An B St)) sd8
    refine q _ ⟨dx, L, An, dA, B, St, bvs, ss, upd_same, ?_, ?_, sd9 _ _ hBd, iBd.same sd9, ?_⟩ (fun y o ey ny => sd9 _ _ (kd _ _ ey ny))
    · rw [← els]
      exact sd9 _ _ hLd
    · rw [upd_ne nAp]
      exact hA8
    · rw [upd_ne nSp]
      exact hS8
end
end K01
/-! a class with its own ==, len and [..]: x == y, x != y (by object.__ne__), len(x), x[i]; making one where a raised error is wished for at the caller's slots. -/
namespace Oe
open PySem PySem.Spec PyProof.Rows L2
/-- a class whose own __eq__ is f; != is object's -/
structure OwnE (K : PySem.W.Frag) (C f : Addr) : Prop where
  eq : PySem.W.findIn K (.ref C) "__eq__" = some (some (.ref f))
  fn : PySem.W.isFn K (.ref f) = true
  ne : PySem.W.findIn K (.ref C) "__ne__" = some (some (.builtin "object.__ne__"))
  mro : PySem.W.mroIn K C (.type "object") = some true
theorem sub_str {K : PySem.W.Frag} {C : Addr} : PySem.W.subIn K (.type "str") (.ref C) = some false := by
  have e : fastBuiltinMro "str" = some [.type "str", .type "object"] := by decide +kernel
  show (fastBuiltinMro "str").map (·.contains (.ref C)) = some false
  rw [e]
  first
    | rfl
    | simp
theorem nf_str {K : PySem.W.Frag} {C : Addr} : PySem.W.notFirst K C (.type "str") = true := by
  unfold PySem.W.notFirst
  rw [sub_str]
  simp
theorem nf_self {K : PySem.W.Frag} {C : Addr} : PySem.W.notFirst K C (.ref C) = true := by simp [PySem.W.notFirst]
/-- what stands to the right: a text, or another one of the class -/
def Oth (C : Addr) (H : Hp) (y : V) : Prop := (∃ z, y = .str z) ∨ ∃ b dy gs, y = .ref b ∧ H b = some (.ins C dy gs)
section
variable {X : Cx} {n : Nat} {C f : Addr} {fd : FuncData} {ps : List Str} {sp : Sp}
theorem run_at {A : Around} {pins : List (Addr × Obj)} {σ : L2.St} {H : Hp} {s : Shared} {Q : VK} {us : List Value} {vs : List V} (F : FnOk X.prog X.w X.K X.mg X.base CX0 n f fd ps sp) (sb : Sub X n A) (hb : Binds X.K fd ps [])
    (I : Inv X pins σ H s) (r : Vals vs us) (h : sp vs H Q (fun _ _ _ => False)) : wpAny (model X.prog X.w) A (call (.ref f) us) (EP X pins σ Q) X.xe s := by
  have e0 : Env0 X.prog X.w X.K X.mg X.base A X.stack s H := by
    have e := I.env0
    exact ⟨by rw [sb.fr]; exact e.frames, e.mod, e.bs, e.bsz, e.funs, e.frf, e.hok, e.bare⟩
  have hl : us.length = ps.length := by rw [← r.length]; exact F.len _ _ _ _ h
  have b := hb s us I.kIn (by rw [List.append_nil]; exact hl)
  rw [List.append_nil] at b
  refine wpAny_call (codeAny_mono (F.run A X.stack s H ⟨us, []⟩ us vs Q (fun _ _ _ => False) sb.room e0 b r h) fun r s' hq => ?_)
  cases r with
  | error e => exact False.elim hq
  | ok fl =>
    cases fl with
    | ret u => exact I.after hq
    | next => exact False.elim hq
    | brk => exact False.elim hq
    | cont => exact False.elim hq
def rEqOwn (C : Addr) (sp : Sp) (neg : Bool) : R2 := fun x y H Q => ∃ a dx fs, x = .ref a ∧ H a = some (.ins C dx fs) ∧ Oth C H y ∧ sp [x, y] H (fun v H' => ∃ r, v = .bl r ∧ Q (.bl (neg != r)) H') (fun _ _ _ => False)
theorem op_eqOwn (O : OwnE X.K C f) (F : FnOk X.prog X.w X.K X.mg X.base CX0 n f fd ps sp) (hr : Room n X.A) (hb : Binds X.K fd ps []) : OpR X (compareOp .Eq) (rEqOwn C sp false) := by
  intro pins s σ H x y v u Q I rx ry h
  obtain ⟨a, dx, fs, rfl, ha, ho, q⟩ := h
  cases rx
  obtain ⟨mA, J, _⟩ := ins_get I.hok ha
  obtain ⟨od, J, _⟩ := J.look
  obtain ⟨m, hF⟩ := I.fr
  have go : wpAny (model X.prog X.w) X.A (call (.ref f) [.ref a, u]) (PySem.W.CmpBack (EP X pins σ Q)) X.xe s := by
    have r2 : Vals [V.ref a, y] [Value.ref a, u] := .cons rfl (.cons ry .nil)
    refine wpAny_mono (run_at F ⟨hr, rfl⟩ hb I r2 q) (fun w s' z => ?_) fun _ _ e => e
    obtain ⟨v, H', I', rv, r, rfl, q'⟩ := z
    cases rv
    exact ⟨.bl r, H', I', rfl, by cases r <;> exact q'⟩
  show wpAny _ _ (richCompare .Eq _ _) _ _ _
  rcases ho with ⟨z, rfl⟩ | ⟨b, dy, gs, rfl, hb'⟩
  · obtain ⟨t, rfl⟩ := ry
    exact PySem.W.cmp_K (op := .Eq) (tb := .type "str") hr.units0 hF I.ok.mod.kin J (PySem.W.Looks.of_pure rfl) nf_str O.eq O.fn go
  · cases ry
    obtain ⟨mB, J', _⟩ := ins_get I.hok hb'
    obtain ⟨od', J', _⟩ := J'.look
    exact PySem.W.cmp_K (op := .Eq) (tb := .ref C) hr.units0 hF I.ok.mod.kin J J'.type nf_self O.eq O.fn go
/-- != by object.__ne__: the own == is asked, and turned about -/
theorem op_neOwn (O : OwnE X.K C f) (F : FnOk X.prog X.w X.K X.mg X.base CX0 n f fd ps sp) (hr : Room (n + 1) X.A) (hb : Binds X.K fd ps []) : OpR X (compareOp .NotEq) (rEqOwn C sp true) := by
  intro pins s σ H x y v u Q I rx ry h
  obtain ⟨a, dx, fs, rfl, ha, ho, q⟩ := h
  cases rx
  obtain ⟨mA, J, _⟩ := ins_get I.hok ha
  obtain ⟨od, J, _⟩ := J.look
  obtain ⟨m, hF⟩ := I.fr
  have hX := I.ok.mod.kin.keeps hF.keep
  have sb : Sub X n X.A.in1 := Sub.in1 ⟨hr, rfl⟩
  have go : wpAny (model X.prog X.w) X.A.in1 (call (.ref f) [.ref a, u]) (fun v s' => ∃ b, v = .bool b ∧ EP X pins σ Q (.bool (!b)) s') X.xe s := by
    have r2 : Vals [V.ref a, y] [Value.ref a, u] := .cons rfl (.cons ry .nil)
    refine wpAny_mono (run_at F sb hb I r2 q) (fun w s' z => ?_) fun _ _ e => e
    obtain ⟨v, H', I', rv, r, rfl, q'⟩ := z
    cases rv
    exact ⟨r, rfl, .bl (!r), H', I', rfl, by cases r <;> exact q'⟩
  have un : X.A.in1.units < cLine := sb.room.units0
  have inner : wpAny (model X.prog X.w) X.A (call (.builtin "object.__ne__") [.ref a, u]) (fun v s' => ∃ b, v = .bool b ∧ EP X pins σ Q (.bool b) s') X.xe s := by
    refine wpAny_call (codeAny_call_builtin PySem.F.cmp_object.ne.plain PySem.F.cmpEntry_ne (PySem.W.check_slot PySem.F.cmpKind_ne PySem.F.cmpSplit_ne (J.type.andThen (PySem.W.looks_mroIn hX O.mro)) (PySem.F.cmpArgs_ne _ _) ?_))
    unfold Builtin.«object.__ne__»
    repeat (first
      | with_reducible refine wpAny_cRoomFor un ?_
      | (refine wpAny_bind (m := callSpecialIfBound? (.ref a) (Str.ofString "__eq__") [u]) (PySem.W.ifBound_K hX J O.eq O.fn (wpAny_mono go (fun r s' hr => ?_) fun _ _ e => e)); obtain ⟨b, rfl, hq⟩ := hr)
      | (refine wpAny_bind (m := truthy (.bool _)) (wpAny_truthy_bool ?_))
      | wp_step)
    exact ⟨_, rfl, hq⟩
  have one : wpAny (model X.prog X.w) X.A (tryCompare (.ref a) "__ne__" u) (fun r s' => ∃ v, r = some v ∧ EP X pins σ Q v s') X.xe s := by
    unfold tryCompare
    have ib : wpAny (model X.prog X.w) X.A (callSpecialIfBound? (.ref a) "__ne__" [u]) (fun r s' => ∃ b, r = some (.bool b) ∧ EP X pins σ Q (.bool b) s') X.xe s := by
      simp only [callSpecialIfBound?, bindSpecialIfBound?]
      refine wpAny_holding (wpAny_bind (wpAny_bind (wpAny_bind (J.type.here ((PySem.W.looks_findIn hX O.ne).here ?_)))))
      refine wpAny_bind (wpAny_askSetting (wpAny_ite ?_))
      have fin : wpAny (model X.prog X.w) X.A (call (.builtin "object.__ne__") ([.ref a] ++ [u]) >>= fun v => pure (some v)) (fun r s' => ∃ b, r = some (.bool b) ∧ EP X pins σ Q (.bool b) s') X.xe s :=
        wpAny_bind (wpAny_mono inner (fun v s' h' => wpAny_pure (by obtain ⟨b, rfl, hq⟩ := h'; exact ⟨b, rfl, hq⟩)) fun _ _ h' => h')
      split
      · exact wpAny_bind (wpAny_of_eq (PySem.F.cmp_object.ne.bind _) (wpAny_pure (by exact fin)))
      · exact wpAny_tryCatch (wpAny_bind (wpAny_of_eq (PySem.F.cmp_object.ne.bind _) (wpAny_pure (by exact fin))))
    refine wpAny_bind (wpAny_mono ib (fun r s' z => ?_) fun _ _ e => e)
    obtain ⟨b, rfl, hq⟩ := z
    exact wpAny_pure ⟨_, rfl, hq⟩
  have fin : ∀ {tb : Value}, PySem.W.Looks (model X.prog X.w) s.heap (typeOf u) tb → PySem.W.notFirst X.K C tb = true → wpAny (model X.prog X.w) X.A (richCompare .NotEq (.ref a) u) (EP X pins σ Q) X.xe s := by
    intro tb hbt hn
    unfold richCompare
    simp only [oneThing_ref]
    refine wpAny_holding (wpAny_bind (wpAny_cRoomFor hr.units0 ?_))
    refine wpAny_bind (J.type.here (wpAny_bind (hbt.here ?_)))
    split
    · rename_i q
      have e : PySem.W.subIn X.K tb (.ref C) = some false := by
        rcases Bool.or_eq_true_iff.mp hn with e | e
        · rw [beq_iff_eq.mp e] at q; simp at q
        · exact beq_iff_eq.mp e
      refine wpAny_bind ((PySem.W.looks_subIn hX e).here ?_)
      simp only [Bool.false_eq_true, if_false]
      refine wpAny_bind (wpAny_mono one (fun r s' z => ?_) fun _ _ e => e)
      obtain ⟨v, rfl, hq⟩ := z
      exact wpAny_pure hq
    · refine wpAny_bind (wpAny_pure ?_)
      simp only [Bool.false_eq_true, if_false]
      refine wpAny_bind (wpAny_mono one (fun r s' z => ?_) fun _ _ e => e)
      obtain ⟨v, rfl, hq⟩ := z
      exact wpAny_pure hq
  show wpAny _ _ (richCompare .NotEq _ _) _ _ _
  rcases ho with ⟨z, rfl⟩ | ⟨b, dy, gs, rfl, hb'⟩
  · obtain ⟨t, rfl⟩ := ry
    exact fin (PySem.W.Looks.of_pure rfl) nf_str
  · cases ry
    obtain ⟨mB, J', _⟩ := ins_get I.hok hb'
    obtain ⟨od', J', _⟩ := J'.look
    exact fin J'.type nf_self
/-- len(x) by the own __len__ -/
theorem call_lenOwn {g : Addr} (hl : PySem.W.findIn X.K (.ref C) "__len__" = some (some (.ref g))) (hf : PySem.W.isFn X.K (.ref g) = true) (F : FnOk X.prog X.w X.K X.mg X.base CX0 n g fd ps sp) (hr : Room (n + 1) X.A) (hb : Binds X.K fd ps []) :
    CallR X (.builtin "len") (fun xs H Q => ∃ a dx fs, xs = [.ref a] ∧ H a = some (.ins C dx fs) ∧ sp [.ref a] H (fun v H' => ∃ k : Nat, v = .int (k : Nat) ∧ k < 2 ^ 62 ∧ Q (.int (k : Nat)) H') (fun _ _ _ => False)) := by
  intro pins s σ H xs us Q I r h
  obtain ⟨a, dx, fs, rfl, ha, q⟩ := h
  obtain ⟨u, rfl, rx⟩ := vals1 r
  cases rx
  obtain ⟨mA, J, _⟩ := ins_get I.hok ha
  obtain ⟨od, J, _⟩ := J.look
  obtain ⟨m, hF⟩ := I.fr
  refine PySem.W.len_K hF I.ok.mod.kin J hl hf ?_
  have r2 : Vals [V.ref a] [Value.ref a] := .cons rfl .nil
  refine wpAny_mono (run_at F (Sub.in1 ⟨hr, rfl⟩) hb I r2 q) (fun w s' z => ?_) fun _ _ e => e
  obtain ⟨v, H', I', rv, k, rfl, hk, q'⟩ := z
  obtain ⟨t, rfl⟩ := rv
  exact ⟨⟨by omega, by omega⟩, .int k, H', I'.tok _, ⟨_, rfl⟩, q'⟩
/-- x[i] by the own __getitem__ -/
theorem pe_ixOwn {a b : Expr} {pos : Pos} {ta tb : TE} {g : Addr} (hl : PySem.W.findIn X.K (.ref C) "__getitem__" = some (some (.ref g))) (hf : PySem.W.isFn X.K (.ref g) = true) (hk : PySem.W.fnIn X.K g = true) (F : FnOk X.prog X.w X.K X.mg X.base CX0 n g fd ps sp) (hr : Room (n + 1) X.A) (hb : Binds X.K fd ps [])
    (ha : PE X a ta) (he : PE X b tb) (hsl : ∀ x i, subscripted b true (.ref x) i = runValue (.builtin "lifetime.subscript" ⟨[.ref x, i], []⟩) := by intro _ _; with_unfolding_all rfl) :
    PE X (.Subscript a b pos) (tOp (fun x y H Q => ∃ p dx fs, x = .ref p ∧ H p = some (.ins C dx fs) ∧ sp [x, y] H Q (fun _ _ _ => False)) ta tb) := by
  refine ⟨fun pins s σ H Q I h => ?_⟩
  refine Subscript_ (binT ha he I h fun v u s2 x y H2 I2 rx ry q => ?_)
  obtain ⟨p, dx, fs, rfl, hp, q⟩ := q
  cases rx
  obtain ⟨mA, J, _⟩ := ins_get I2.hok hp
  obtain ⟨od, J, _⟩ := J.look
  obtain ⟨m, hF⟩ := I2.fr
  have r2 : Vals [V.ref p, y] [Value.ref p, u] := .cons rfl (.cons ry .nil)
  exact PySem.W.sub_K hF I2.ok.mod.kin J hl hk hf (run_at F (Sub.in1 ⟨hr, rfl⟩) hb I2 r2 q) (hsl _ _)
/-- C(..), what is raised being wished for at the slots -/
def tMakeS (C : Addr) (sp : Sp) (dvs : List V) (E : L2.St → XK) (t : TA) : TE := fun σ H Q => t σ H fun vs H1 => ∀ x dx, H1 x = none → H1 dx = none → dx ≠ x →
  sp (.ref x :: (vs ++ dvs)) (upd (upd H1 dx (.own x)) x (.ins C dx [])) (fun v H2 => v = .non ∧ Q (.ref x) H2) (E σ)
variable {CX : CXT} {k : Nat} {dvs : List V} {ds : List Value} {E : L2.St → XK} {x : Str} {p pos : Pos} {e : Expr} {es : List Expr} {t : TA}
theorem run_makeS {pins : List (Addr × Obj)} {σ : L2.St} {H : Hp} {s : Shared} {Q : VK} {us : List Value} {vs : List V} (M : Mk X.K C f) (F : FnOk X.prog X.w X.K X.mg X.base CX k f fd ps sp) (hr : Room (k + 1) X.A) (hb : Binds X.K fd ps ds) (hd : Vals dvs ds)
    (hx : PassesAt CX X σ (E σ)) (I : Inv X pins σ H s) (r : Vals vs us)
    (h : ∀ x dx, H x = none → H dx = none → dx ≠ x → sp (.ref x :: (vs ++ dvs)) (upd (upd H dx (.own x)) x (.ins C dx [])) (fun v H2 => v = .non ∧ Q (.ref x) H2) (E σ)) :
    wpAny (model X.prog X.w) X.A (call (.ref C) us) (EP X pins σ Q) X.xe s := by
  have hq := h (s.heap.objs.size + 1) s.heap.objs.size (I.hok.fresh (Nat.le_succ _)) (I.hok.fresh (Nat.le_refl _)) (Nat.ne_of_lt (Nat.lt_succ_self _))
  have I2 := Inv.made (C := C) I
  have r2 : Vals (V.ref (s.heap.objs.size + 1) :: (vs ++ dvs)) (Value.ref (s.heap.objs.size + 1) :: (us ++ ds)) := .cons rfl (r.append hd)
  have hl : (Value.ref (s.heap.objs.size + 1) :: us ++ ds).length = ps.length := by
    have e := r2.length
    rw [F.len _ _ _ _ hq] at e
    exact e.symm
  refine wpAny_call (make_map (f := f) I.kIn M.makes M.init (beq_iff_eq.mp M.fn) (codeAny_mono (F.run _ X.stack _ _ ⟨Value.ref (s.heap.objs.size + 1) :: us, []⟩ (Value.ref (s.heap.objs.size + 1) :: (us ++ ds)) _ _ (E σ) (hr.make C us [])
    (I2.env0.make C us []) (hb _ (Value.ref (s.heap.objs.size + 1) :: us) I2.kIn hl) r2 hq) fun r s' hq' => ?_))
  cases r with
  | error e => exact hx pins _ _ e s' I2 hq'
  | ok fl =>
    cases fl with
    | ret u =>
      obtain ⟨v, H', I3, rv, ev, q3⟩ := I2.after hq'
      subst ev
      exact ⟨rv, ⟨V.ref (s.heap.objs.size + 1), H', I3, rfl, q3⟩⟩
    | next => exact False.elim hq'
    | brk => exact False.elim hq'
    | cont => exact False.elim hq'
theorem pe_makeS (M : Mk X.K C f) (F : FnOk X.prog X.w X.K X.mg X.base CX k f fd ps sp) (hr : Room (k + 1) X.A) (hg : Gl X x) (hm : X.mg x = some (.ref C)) (hb : Binds X.K fd ps ds) (hd : Vals dvs ds) (hx : ∀ σ, PassesAt CX X σ (E σ))
    (ha : PA X (e :: es) t) (hdb : (x == ("__debug__" : Str)) = false := by decide) (he : starEach (e :: es) X.env = (false, eval e X.env) :: starEach es X.env := by rfl) (hpl : (backTo pos (starEach es X.env)).any (·.1) = false := by rfl) :
    PE X (.Call (.Name x p) (e :: es) [] pos) (tMakeS C sp dvs E t) := by
  refine ⟨fun pins s σ H Q I h => ?_⟩
  refine wpAny_Call_Name_kw (ld_glob I hg hm ?_ hdb)
  refine PySem.W.callWith_K (h₀ := X.base) I.ok.mod.kin M.kp (thn (ha.run pos pins s σ H _ I h) fun us s1 ⟨vs, H1, I1, r, q⟩ => ⟨I1.kIn, ?_⟩) he hpl
  exact run_makeS M F hr hb hd (hx σ) I1 r q
end
end Oe
set_option maxHeartbeats 2000000
namespace K01
open PySem PySem.Spec PyProof.Rows L2 Xc Dt Ln Eo
/-- the class Code at C, as the top left it; gI .. gE: __init__, __len__, __getitem__, __eq__ -/
structure CodC (K : PySem.W.Frag) (mg : Str → Option Value) (C gI gL gG gE : Addr) : Prop where
  t : CodT K mg C
  made : Mk K C gI
  mgC : mg "Code" = some (.ref C)
  own : Oe.OwnE K C gE
  len : PySem.W.findIn K (.ref C) "__len__" = some (some (.ref gL))
  lenF : PySem.W.isFn K (.ref gL) = true
  get : PySem.W.findIn K (.ref C) "__getitem__" = some (some (.ref gG))
  getF : PySem.W.isFn K (.ref gG) = true
  getN : PySem.W.fnIn K gG = true
  is2 : PySem.W.kitOne K (.type "str") (.ref C) = some false
  ins : C8.InsC K C
section
variable {P : Program} {w : World} {K : PySem.W.Frag} {mg : Str → Option Value} {base : Heap} {f : Addr} {fd : FuncData}
/-- of a code its three texts and its lines -/
structure Cd (C : Addr) (k : Str) (u : Bool) (x : Str) (H : Hp) (p : Addr) : Prop where
  at_ : ∃ (dx L An B St : Addr), H p = some (.ins C dx (codeF k u x L An B St)) ∧ H L = some (.lst ((linesOf x).map V.str))
theorem CodeAt.cd {C CA Cr : Addr} {k : Str} {u : Bool} {x : Str} {b : Rws} {H : Hp} {p : Addr} (h : CodeAt C CA Cr k u x b H p) : Cd C k u x H p := by
  obtain ⟨dx, L, An, dA, B, St, bvs, ss, h1, h2, _⟩ := h.at_
  exact ⟨dx, L, An, B, St, h1, h2⟩
theorem Cd.same {C : Addr} {k : Str} {u : Bool} {x : Str} {H H' : Hp} {p : Addr} (h : Cd C k u x H p) (s : Same H H') : Cd C k u x H' p := by
  obtain ⟨dx, L, An, B, St, h1, h2⟩ := h.at_
  exact ⟨dx, L, An, B, St, s _ _ h1, s _ _ h2⟩
def spLenC (C : Addr) : Sp := fun vs H Q _ => ∃ (p : Addr) (k : Str) (u : Bool) (x : Str), vs = [.ref p] ∧ Cd C k u x H p ∧ Q (.int ((linesOf x).length : Nat)) H
theorem scLn : FnScope ["self"] ["self"] (defScope (inClass (top 81) 1)) := ⟨rfl, rfl, rfl, by decide +kernel, rfl, by decide +kernel, by decide +kernel⟩
theorem ok_lenC {C : Addr} (F : Fun K "__len__" "Code.__len__" (inClass (top 81) 1) f fd) (N : Nb mg) (T : CodT K mg C) : FnOk P w K mg base CX0 1 f fd ["self"] (spLenC C) := by
  refine F.ok scLn (fun vs H Q E h => ?_) (fun cdv A outer s H vs Q E hr h => ?_)
  · obtain ⟨p, k, u, x, rfl, _⟩ := h
    rfl
  obtain ⟨p, k, u, x, rfl, hc, q⟩ := h
  obtain ⟨dx, L, An, B, St, h1, h2⟩ := hc.at_
  refine ⟨_, (pss_one (ps_ret (pe_callB call_len_seq (by rfl) N.len PySem.boot_len (pa_cons (pe_fld (pv 0) rfl) pa_nil)))), ?_⟩
  refine ⟨_, rfl, p, C, dx, _, _, rfl, h1, T.cl, T.n4, rfl, L, _, rfl, .inl (SqL.of h2), ?_⟩
  rw [List.length_map]
  exact q
def spGetC (C : Addr) : Sp := fun vs H Q _ => ∃ (p : Addr) (k : Str) (u : Bool) (x : Str) (i : Int) (l : Str), vs = [.ref p, .int i] ∧ Cd C k u x H p ∧ atI ((linesOf x).map V.str) (i - 1) = some (.str l) ∧ Q (.str l) H
theorem scGt : FnScope ["self", "at"] ["self", "at"] (defScope (inClass (top 81) 2)) := ⟨rfl, rfl, rfl, by decide +kernel, rfl, by decide +kernel, by decide +kernel⟩
theorem ok_getC {C : Addr} (F : Fun K "__getitem__" "Code.__getitem__" (inClass (top 81) 2) f fd) (T : CodT K mg C) : FnOk P w K mg base CX0 1 f fd ["self", "at"] (spGetC C) := by
  refine F.ok scGt (fun vs H Q E h => ?_) (fun cdv A outer s H vs Q E hr h => ?_)
  · obtain ⟨p, k, u, x, i, l, rfl, _⟩ := h
    rfl
  obtain ⟨p, k, u, x, i, l, rfl, hc, hl, q⟩ := h
  obtain ⟨dx, L, An, B, St, h1, h2⟩ := hc.at_
  refine ⟨_, (pss_one (ps_ret (pe_ix (show IxR _ (rIxL K) from ix_list) (pe_fld (pv 0) rfl) (pe_op op_sub (pv 1) pe_int) (fun _ _ => rfl)))), ?_⟩
  exact ⟨_, rfl, p, C, dx, _, _, rfl, h1, T.cl, T.n4, rfl, _, rfl, _, _, rfl, rfl, L, _, _, _, rfl, rfl, SqL.of h2, hl, q⟩
/-- what a code is compared with: a text, or another code -/
def spEqC (C : Addr) : Sp := fun vs H Q _ => ∃ (p : Addr) (k : Str) (u : Bool) (x : Str) (y : V), vs = [.ref p, y] ∧ Cd C k u x H p ∧ ((∃ z, y = .str z) → Q (.bl false) H) ∧
  ((∃ z, y = .str z) ∨ ∃ q' k' u' x', y = .ref q' ∧ Cd C k' u' x' H q' ∧ Q (.bl (decide (k = k') && (decide (u = u') && decide (x = x')))) H)
theorem scEq : FnScope ["self", "other"] ["self", "other"] (defScope (inClass (top 81) 3)) := ⟨rfl, rfl, rfl, by decide +kernel, rfl, by decide +kernel, by decide +kernel⟩
theorem ok_eqC {C gI gL gG gE : Addr} (F : Fun K "__eq__" "Code.__eq__" (inClass (top 81) 3) f fd) (N : Nc mg) (T : CodC K mg C gI gL gG gE) : FnOk P w K mg base CX0 1 f fd ["self", "other"] (spEqC C) := by
  refine F.ok scEq (fun vs H Q E h => ?_) (fun cdv A outer s H vs Q E hr h => ?_)
  · obtain ⟨p, k, u, x, y, rfl, _⟩ := h
    rfl
  obtain ⟨p, k, u, x, y, rfl, hc, qs, ho⟩ := h
  obtain ⟨dx, L, An, B, St, h1, h2⟩ := hc.at_
  refine ⟨_, (pss_one (ps_ret (pe_and (pe_callB call_isi (by rfl) N.isi (by decide +kernel) (pa_cons (pv 1) (pa_cons (pe_glob (v := .ref C) (by rfl) T.mgC rfl) pa_nil))) (pe_and (pe_cmpR op_eq (pe_fld (pv 0) rfl) (pe_fld (pv 1) rfl) (nomark _)) (pe_and (pe_cmpR op_eq (pe_fld (pv 0) rfl) (pe_fld (pv 1) rfl) (nomark _)) (pe_one (pe_cmpR op_eq (pe_fld (pv 0) rfl) (pe_fld (pv 1) rfl) (nomark _)))))))), ?_⟩
  rcases ho with hz | ⟨q', k', u', x', rfl, hc', q⟩
  · obtain ⟨z, rfl⟩ := hz
    refine ⟨_, rfl, _, _, _, _, false, rfl, .own C, .base (.str z), T.is2, false, rfl, ?_⟩
    exact qs ⟨z, rfl⟩
  · clear qs
    obtain ⟨dx', L', An', B', St', h1', h2'⟩ := hc'.at_
    refine ⟨_, rfl, _, _, _, _, true, rfl, .own C, .base (.ins h1' T.ins.cl T.ins.ha T.ins.hn T.ins.htk T.ins.hm), T.ins.me, true, rfl, ?_⟩
    refine ⟨_, rfl, p, C, dx, _, _, rfl, h1, T.t.cl, T.t.n1, rfl, _, rfl, q', C, dx', _, _, rfl, h1', T.t.cl, T.t.n1, rfl, rfl, _, rfl, ?_⟩
    rw [dec_str]
    cases c1 : decide (k = k') with
    | false =>
      rw [c1] at q
      exact ifF rfl q
    | true =>
      rw [c1] at q
      refine ifT rfl ?_
      refine ⟨_, rfl, p, C, dx, _, _, rfl, h1, T.t.cl, T.t.n2, rfl, _, rfl, q', C, dx', _, _, rfl, h1', T.t.cl, T.t.n2, rfl, rfl, _, rfl, ?_⟩
      rw [show decide (V.bl u = V.bl u') = decide (u = u') from by cases u <;> cases u' <;> rfl]
      cases c2 : decide (u = u') with
      | false =>
        rw [c2] at q
        exact ifF rfl q
      | true =>
        rw [c2] at q
        refine ifT rfl ?_
        refine ⟨_, rfl, p, C, dx, _, _, rfl, h1, T.t.cl, T.t.n3, rfl, _, rfl, q', C, dx', _, _, rfl, h1', T.t.cl, T.t.n3, rfl, rfl, ?_⟩
        rw [dec_str]
        exact q
end
end K01
namespace K01
open PySem PySem.Spec PyProof.Rows L2 Xc
abbrev sBag : Stmt := top 85
abbrev sDraw : Stmt := top 86

/-! ### the bag of a script: what is drawn from -/
def bagK (c : Addr) (i : Nat) (dg ct fo : Int) : List (Key × V) := [(.inr "cells", .ref c), (.inr "at", .int (i : Nat)), (.inr "digits", .int dg), (.inr "count", .int ct), (.inr "fold", .int fo)]
structure BagAt (H : Hp) (b c : Addr) (ns : List Int) (i : Nat) (dg fo : Int) (ct : Nat) : Prop where
  hb : H b = some (.dK (bagK c i dg (ct : Nat) fo))
  hc : H c = some (.lst (ns.map V.int))
  dg0 : 0 ≤ dg
  fo0 : 0 ≤ fo
  fo1 : fo < 2147483587
/-- at b stands a bag from which ct times was drawn -/
def Bag (H : Hp) (b : Addr) (ct : Nat) : Prop := ∃ c ns i dg fo, BagAt H b c ns i dg fo ct
/-- all but the bag at b stands as it stood -/
def Kept (b : Addr) (H H' : Hp) : Prop := ∀ x o, H x = some o → x ≠ b → H' x = some o
theorem Bag.same {H H' : Hp} {b : Addr} {ct : Nat} (g : Bag H b ct) (s : ∀ x o, H x = some o → H' x = some o) : Bag H' b ct := by
  obtain ⟨c, ns, i, dg, fo, g⟩ := g
  exact ⟨c, ns, i, dg, fo, s _ _ g.hb, s _ _ g.hc, g.dg0, g.fo0, g.fo1⟩
theorem BagAt.ne {H : Hp} {b c : Addr} {ns : List Int} {i : Nat} {dg fo : Int} {ct : Nat} (g : BagAt H b c ns i dg fo ct) : b ≠ c := ne_of g.hb g.hc (by intro z; cases z)
def spBag (K : PySem.W.Frag) : Sp := fun vs H Q _ => ∃ (a : Addr) (ns : List Int), vs = [.ref a] ∧ SqL K H a (ns.map V.int) ∧ ∀ (b : Addr) (H' : Hp), H b = none → Bag H' b 0 → (∀ x o, H x = some o → H' x = some o) → Q (.ref b) H'
def spDraw : Sp := fun vs H Q _ => ∃ (b : Addr) (ct : Nat) (lim : Int), vs = [.ref b, .int lim] ∧ Bag H b ct ∧ ct < 1000000 ∧ 0 < lim ∧ lim.natAbs.log2 < 9000 ∧
  ∀ (v : Int) (H' : Hp), 0 ≤ v → v < lim → Bag H' b (ct + 1) → Kept b H H' → Q (.int v) H'
/-- the built-in names are not bound by the module -/
structure Nm (mg : Str → Option Value) : Prop where
  int : mg "int" = none
  list : mg "list" = none
  len : mg "len" = none
section
variable {P : Program} {w : World} {K : PySem.W.Frag} {mg : Str → Option Value} {base : Heap} {f : Addr} {fd : FuncData}
theorem scBag : FnScope ["script", "fold", "cell"] ["script"] (defScope sBag) := ⟨rfl, rfl, rfl, by decide +kernel, rfl, by decide +kernel, by decide +kernel⟩
theorem at_int {ns : List Int} {i : Nat} {y : V} (h : (ns.map V.int)[i]? = some y) : ∃ z, ns[i]? = some z ∧ y = V.int z := by
  rw [List.getElem?_map] at h
  cases e : ns[i]? with
  | none =>
    rw [e] at h
    cases h
  | some z =>
    rw [e] at h
    exact ⟨z, rfl, (Option.some.inj h).symm⟩
theorem ok_bag (F : Fun K "_law_bag" "_law_bag" sBag f fd) (N : Nm mg) : FnOk P w K mg base CX0 1 f fd ["script"] (spBag K) := by
  refine F.ok scBag (fun vs H Q E h => ?_) (fun cdv A outer s H vs Q E hr h => ?_)
  · obtain ⟨a, ns, rfl, _⟩ := h
    rfl
  obtain ⟨a, ns, rfl, hS, k⟩ := h
  refine ⟨_, pss_cons (ps_set (i := 1) scBag.nd rfl (.inl rfl) pe_int)
    (pss_cons (ps_for PassesOwn.never rfl (pi_list (pv 0)) (pg_name (i := 2) scBag.nd rfl (.inl rfl))
      (pss_one (ps_set (i := 1) scBag.nd rfl (.inl rfl) (pe_op op_mod (pe_callTy call_int1 (by rfl) N.int (by decide +kernel) (pa_cons (pe_op op_add (pe_op op_mul (pv 1) pe_int) (pv 2)) pa_nil)) pe_int))))
    (pss_one (ps_ret (pe_disp (pps_cons pe_str (pe_callTy call_list_of (by rfl) N.list (by decide +kernel) (pa_cons (pv 0) pa_nil)) (pps_cons pe_str pe_int (pps_cons pe_str pe_int (pps_cons pe_str pe_int (pps_cons pe_str (pv 1) pps_nil))))) (by rfl) (by rfl) (fun z => by cases z) (by decide))))), ?_⟩
  refine ⟨_, rfl, a, rfl, ⟨_, hS⟩, for_list (K := K) (a := a) (xs := ns.map V.int) (fun i σ H' => H' = H ∧ ∃ (fo : Int) (v : Option V), σ = [some (.ref a), some (.int fo), v] ∧ 0 ≤ fo ∧ fo < 1000000009)
    ⟨rfl, 0, none, rfl, by decide, by decide⟩ (fun i σ H' _ h => by rw [h.1]; exact hS) ?_ ?_⟩
  · rintro i y σ H' hi ⟨rfl, fo, v, rfl, h0, h1⟩
    obtain ⟨z, _, rfl⟩ := at_int hi
    refine ⟨_, rfl, _, _, rfl, rfl, .inl ⟨by omega, by omega⟩, _, rfl, _, _, rfl, rfl, .inl ⟨_, rfl, _, _, rfl, rfl, (by show (0 : Int) < 1000000009; decide), ?_⟩⟩
    exact ⟨rfl, _, _, rfl, Int.emod_nonneg _ (by decide), Int.emod_lt_of_pos _ (by decide)⟩
  · rintro σ H' ⟨rfl, fo, v, rfl, h0, h1⟩
    intro p np
    have s1 : Same H' (upd H' p (.dK [])) := fun x o e => by rw [upd_ne (ne_of_none e np)]; exact e
    refine ⟨_, rfl, a, _, rfl, .inl (s1.seq hS), fun l nl => ?_⟩
    have nl' : H' l = none := s1.free nl
    have npl : p ≠ l := fun z => by rw [← z, upd_same] at nl; cases nl
    have sL : ∀ o, Same H' (upd (upd (upd H' p (.dK [])) l (.lst (ns.map V.int))) p o) := fun o x u e => by
      rw [upd_ne (ne_of_none e np), upd_ne (ne_of_none e nl'), upd_ne (ne_of_none e np)]
      exact e
    refine ⟨_, rfl, (by rw [upd_ne npl, upd_same]), [(.inr "cells", .ref l), (.inr "at", .int 0), (.inr "digits", .int 0), (.inr "count", .int 0), (.inr "fold", .int fo)], rfl, (by show 5 ≤ 15; decide), ?_⟩
    refine k p _ np ⟨l, ns, 0, 0, fo, ?_, ?_, by decide, h0, by omega⟩ (sL _)
    · rw [upd_same]
      exact congrArg (fun z => some (HO.dK z)) (by rfl)
    · rw [upd_ne npl.symm, upd_same]
/-! the entries by their names -/
variable {c : Addr} {i : Nat} {dg ct fo : Int}
theorem g_cells : valV (bagK c i dg ct fo) (.inr "cells") = some (.ref c) := by rfl
theorem g_at : valV (bagK c i dg ct fo) (.inr "at") = some (.int (i : Nat)) := by rfl
theorem g_digits : valV (bagK c i dg ct fo) (.inr "digits") = some (.int dg) := by rfl
theorem g_count : valV (bagK c i dg ct fo) (.inr "count") = some (.int ct) := by rfl
theorem g_fold : valV (bagK c i dg ct fo) (.inr "fold") = some (.int fo) := by rfl
theorem p_at {j : Nat} : putK (bagK c i dg ct fo) (.inr "at") (.int (j : Nat)) = bagK c j dg ct fo := by rfl
theorem p_digits {x : Int} : putK (bagK c i dg ct fo) (.inr "digits") (.int x) = bagK c i x ct fo := by rfl
theorem p_count {x : Int} : putK (bagK c i dg ct fo) (.inr "count") (.int x) = bagK c i dg x fo := by rfl
theorem p_fold {x : Int} : putK (bagK c i dg ct fo) (.inr "fold") (.int x) = bagK c i dg ct x := by rfl
/-- d["name"] of a bag -/
theorem bag_get {H : Hp} {b : Addr} {x : Str} {v : V} (h : H b = some (.dK (bagK c i dg ct fo))) (e : valV (bagK c i dg ct fo) (.inr x) = some v) : DGet H b (.str x) (some v) := by
  have q := DGet.k (k := Sum.inr x) h
  rw [e] at q
  exact q
theorem bag_put {H : Hp} {b : Addr} {x : Str} {v : V} {l : List (Key × V)} (h : H b = some (.dK (bagK c i dg ct fo))) (e : putK (bagK c i dg ct fo) (.inr x) v = l) : DPut H b (.str x) v (upd H b (.dK l)) := by
  have q := DPut.k (k := Sum.inr x) (v := v) h (small1000 (by show 5 ≤ 1000; decide))
  rw [e] at q
  exact q
theorem scDraw : FnScope ["bag", "limit", "cell", "digit", "base"] ["bag", "limit"] (defScope sDraw) := ⟨rfl, rfl, rfl, by decide +kernel, rfl, by decide +kernel, by decide +kernel⟩
theorem ok_draw (F : Fun K "_law_draw" "_law_draw" sDraw f fd) (N : Nm mg) : FnOk P w K mg base CX0 1 f fd ["bag", "limit"] spDraw := by
  refine F.ok scDraw (fun vs H Q E h => ?_) (fun cdv A outer s H vs Q E hr h => ?_)
  · obtain ⟨b, ct, lim, rfl, _⟩ := h
    rfl
  obtain ⟨b, ct, lim, rfl, ⟨c, ns, i, dg, fo, g⟩, hct, hlim, hlog, k⟩ := h
  have hu := hu_of hr
  refine ⟨_, pss_cons (ps_dput hu (pv 0) pe_str (pe_op op_add (pe_dget hu (pv 0) pe_str (fun _ _ => rfl)) pe_int) rfl)
    (C8.pss_cut (ps_if (PW.pt (pw_and (pt_cmpR op_eq (pe_dget hu (pv 0) pe_str (fun _ _ => rfl)) pe_int (nomark _)) (pw_and1 (pt_cmpR op_lt (pe_dget hu (pv 0) pe_str (fun _ _ => rfl)) (pe_callB call_len_seq (by rfl) N.len PySem.boot_len (pa_cons (pe_dget hu (pv 0) pe_str (fun _ _ => rfl)) pa_nil)) (nomark _)))))
      (pss_cons (ps_set (i := 2) scDraw.nd rfl (.inl rfl) (pe_ix ix_list (pe_dget hu (pv 0) pe_str (fun _ _ => rfl)) (pe_dget hu (pv 0) pe_str (fun _ _ => rfl)) (fun _ _ => rfl)))
      (pss_cons (ps_dput hu (pv 0) pe_str (pe_op op_add (pe_dget hu (pv 0) pe_str (fun _ _ => rfl)) pe_int) rfl)
      (pss_one (ps_if (pt_cmpR op_ge (pv 2) (pe_op op_pow pe_int pe_int) (nomark _))
        (pss_one (ps_dput hu (pv 0) pe_str (pe_op op_sub (pv 2) (pe_op op_pow pe_int pe_int)) rfl))
        (pss_one (ps_dput hu (pv 0) pe_str (pe_op op_mod (pe_callTy call_int1 (by rfl) N.int (by decide +kernel) (pa_cons (pe_op op_add (pe_op op_mul (pe_dget hu (pv 0) pe_str (fun _ _ => rfl)) pe_int) (pv 2)) pa_nil)) pe_int) rfl)))))) pss_nil)
    (pss_cons (ps_if (pt_cmpR op_gt (pe_dget hu (pv 0) pe_str (fun _ _ => rfl)) pe_int (nomark _))
      (pss_cons (ps_set (i := 3) scDraw.nd rfl (.inl rfl) (pe_op op_modN (pe_callTy call_int1 (by rfl) N.int (by decide +kernel) (pa_cons (pe_dget hu (pv 0) pe_str (fun _ _ => rfl)) pa_nil)) (pv 1)))
      (pss_cons (ps_dput hu (pv 0) pe_str (pe_op op_fdivW (pe_dget hu (pv 0) pe_str (fun _ _ => rfl)) (pv 1)) rfl)
      (pss_one (ps_ret (pv 3))))) pss_nil)
    (pss_cons (ps_set (i := 4) scDraw.nd rfl (.inl rfl) (pe_op op_add (pe_op op_add (pe_dget hu (pv 0) pe_str (fun _ _ => rfl)) (pe_op op_mul (pe_dget hu (pv 0) pe_str (fun _ _ => rfl)) pe_int)) pe_int))
    (pss_one (ps_ret (pe_op op_modN (pe_op op_fdiv (pe_callTy call_int1 (by rfl) N.int (by decide +kernel) (pa_cons (pe_op op_mod (pe_op op_pow (pv 4) pe_int) pe_int) pa_nil)) pe_int) (pv 1))))))), ?_⟩
  -- bag["count"] = bag["count"] + 1
  refine ⟨_, rfl, b, _, rfl, bag_get g.hb g_count, _, _, rfl, rfl, _, rfl, b, _, rfl, bag_put g.hb p_count, ?_⟩
  have kept1 : Kept b H (upd H b (.dK (bagK c i dg ((ct : Int) + 1) fo))) := fun x o e hx => by rw [upd_ne hx]; exact e
  have g1 : BagAt (upd H b (.dK (bagK c i dg ((ct : Int) + 1) fo))) b c ns i dg fo (ct + 1) := ⟨by rw [upd_same]; rfl, kept1 _ _ g.hc g.ne.symm, g.dg0, g.fo0, g.fo1⟩
  generalize upd H b (.dK (bagK c i dg ((ct : Int) + 1) fo)) = H1 at kept1 g1
  -- a store into the bag
  have store : ∀ {H2 : Hp} {i2 j2 : Nat} {dg2 fo2 x y : Int} {l : List (Key × V)}, BagAt H2 b c ns i2 dg2 fo2 (ct + 1) → Kept b H H2 → l = bagK c j2 x (((ct + 1 : Nat) : Int)) y → 0 ≤ x → 0 ≤ y → y < 2147483587 → BagAt (upd H2 b (.dK l)) b c ns j2 x y (ct + 1) ∧ Kept b H (upd H2 b (.dK l)) := by
    intro H2 i2 j2 dg2 fo2 x y l g2 k2 e h1 h2 h3
    refine ⟨⟨by rw [upd_same, e], ?_, h1, h2, h3⟩, fun z o q hz => by rw [upd_ne hz]; exact k2 z o q hz⟩
    rw [upd_ne g2.ne.symm]
    exact g2.hc
  refine ⟨fun σ H2 => ∃ (v2 : Option V) (i2 : Nat) (dg2 fo2 : Int), σ = [some (.ref b), some (.int lim), v2, none, none] ∧ BagAt H2 b c ns i2 dg2 fo2 (ct + 1) ∧ Kept b H H2, ?_, ?_⟩
  · refine ⟨_, rfl, b, _, rfl, bag_get g1.hb g_digits, rfl, _, rfl, ?_⟩
    refine ite2 (fun c1 => ?_) (fun c1 => ?_)
    · refine ⟨_, rfl, b, _, rfl, bag_get g1.hb g_at, _, rfl, b, _, rfl, bag_get g1.hb g_cells, c, _, rfl, .inl (SqL.of g1.hc), _, _, rfl, rfl, _, rfl, ?_⟩
      refine ite2 (fun c2 => ?_) (fun c2 => ?_)
      · have hi : i < ns.length := by
          have z : ((i : Nat) : Int) < (((ns.map V.int).length : Nat) : Int) := of_decide_eq_true c2
          rw [List.length_map] at z
          omega
        refine ⟨_, rfl, b, _, rfl, bag_get g1.hb g_cells, _, rfl, b, _, rfl, bag_get g1.hb g_at, c, _, _, _, rfl, rfl, SqL.of g1.hc, atI_nat (by rw [List.getElem?_map, List.getElem?_eq_getElem hi] <;> rfl), ?_⟩
        refine ⟨_, rfl, b, _, rfl, bag_get g1.hb g_at, _, _, rfl, rfl, _, rfl, b, _, rfl, bag_put (l := bagK c (i + 1) dg ((ct + 1 : Nat) : Int) fo) g1.hb (by exact p_at (j := i + 1)), ?_⟩
        obtain ⟨g2, k2⟩ := store (j2 := i + 1) g1 kept1 rfl g1.dg0 g1.fo0 g1.fo1
        generalize upd H1 b _ = H2 at g2 k2
        refine ⟨_, rfl, _, _, rfl, rfl, ⟨by decide, by decide, by decide⟩, _, _, rfl, rfl, _, rfl, ?_⟩
        refine ite2 (fun c3 => ?_) (fun c3 => ?_)
        · have z : (10 : Int) ^ ((18 : Int)).toNat ≤ ns[i] := of_decide_eq_true c3
          refine ⟨_, rfl, _, _, rfl, rfl, ⟨by decide, by decide, by decide⟩, _, _, rfl, rfl, _, rfl, b, _, rfl, bag_put (l := bagK c (i + 1) (ns[i] - (10 : Int) ^ ((18 : Int)).toNat) ((ct + 1 : Nat) : Int) fo) g2.hb (by exact p_digits), ?_⟩
          obtain ⟨g3, k3⟩ := store g2 k2 rfl (Int.sub_nonneg_of_le z) g1.fo0 g1.fo1
          exact ⟨_, _, _, _, rfl, g3, k3⟩
        · have hf0 := g2.fo0
          have hf1 := g2.fo1
          refine ⟨_, rfl, b, _, rfl, bag_get g2.hb g_fold, _, _, rfl, rfl, .inl ⟨by omega, by omega⟩, _, rfl, _, _, rfl, rfl, .inl ⟨_, rfl, _, _, rfl, rfl, (by show (0 : Int) < 2147483587; decide), ?_⟩⟩
          refine ⟨_, rfl, b, _, rfl, bag_put (l := bagK c (i + 1) dg ((ct + 1 : Nat) : Int) ((fo * 69069 + ns[i]) % 2147483587)) g2.hb (by exact p_fold), ?_⟩
          obtain ⟨g3, k3⟩ := store g2 k2 rfl g1.dg0 (Int.emod_nonneg _ (by decide)) (Int.emod_lt_of_pos _ (by decide))
          exact ⟨_, _, _, _, rfl, g3, k3⟩
      · exact ⟨none, i, dg, fo, rfl, g1, kept1⟩
    · exact ⟨none, i, dg, fo, rfl, g1, kept1⟩
  · rintro σ H2 ⟨v2, i2, dg2, fo2, rfl, g2, k2⟩
    refine ⟨_, rfl, b, _, rfl, bag_get g2.hb g_digits, _, _, rfl, rfl, _, rfl, ?_⟩
    refine ite2 (fun c1 => ?_) (fun c1 => ?_)
    · refine ⟨_, rfl, b, _, rfl, bag_get g2.hb g_digits, .inl ⟨_, rfl, _, rfl, _, _, rfl, rfl, (by omega), ?_⟩⟩
      refine ⟨_, rfl, b, _, rfl, bag_get g2.hb g_digits, _, rfl, _, _, rfl, rfl, ⟨hlim, hlog⟩, _, rfl, b, _, rfl, bag_put (l := bagK c i2 (dg2 / lim) ((ct + 1 : Nat) : Int) fo2) g2.hb (by exact p_digits), ?_⟩
      obtain ⟨g3, k3⟩ := store g2 k2 rfl (Int.ediv_nonneg g2.dg0 (Int.le_of_lt hlim)) g2.fo0 g2.fo1
      refine ⟨_, rfl, k _ _ ?_ ?_ ⟨_, _, _, _, _, g3⟩ k3⟩
      · rw [Int.fmod_eq_emod_of_nonneg _ (Int.le_of_lt hlim)]
        exact Int.emod_nonneg _ (by omega)
      · rw [Int.fmod_eq_emod_of_nonneg _ (Int.le_of_lt hlim)]
        exact Int.emod_lt_of_pos _ hlim
    · have hf0 := g2.fo0
      have hf1 := g2.fo1
      refine ⟨_, rfl, b, _, rfl, bag_get g2.hb g_fold, _, rfl, b, _, rfl, bag_get g2.hb g_count, _, _, rfl, rfl, .inl ⟨by omega, by omega⟩, _, _, rfl, rfl, _, _, rfl, rfl, ?_⟩
      refine ⟨_, rfl, _, _, rfl, rfl, ⟨by decide, by decide, by omega⟩, _, _, rfl, rfl, (by show (0 : Int) < 2305843009213693951; decide), .inl ⟨_, rfl, _, _, rfl, rfl, ⟨by decide, by decide⟩, _, rfl, _, _, rfl, rfl, (by omega), ?_⟩⟩
      refine k _ _ ?_ ?_ ⟨_, _, _, _, _, g2⟩ k2
      · rw [Int.fmod_eq_emod_of_nonneg _ (Int.le_of_lt hlim)]
        exact Int.emod_nonneg _ (by omega)
      · rw [Int.fmod_eq_emod_of_nonneg _ (Int.le_of_lt hlim)]
        exact Int.emod_lt_of_pos _ hlim
end
end K01
set_option maxHeartbeats 2000000
/-! isinstance of a handled error with a tuple of classes; an expression with two readings. -/
namespace Eo
open PySem PySem.Spec PyProof.Rows L2 Xc Dt
theorem pe_either {X : Cx} {e : Expr} {t1 t2 : TE} (h1 : PE X e t1) (h2 : PE X e t2) : PE X e (fun σ H Q => t1 σ H Q ∨ t2 σ H Q) :=
  ⟨fun pins s σ H Q I h => h.elim (fun h => h1.run pins s σ H Q I h) fun h => h2.run pins s σ H Q I h⟩
def rIsXT (K : PySem.W.Frag) (a : Addr) (cls : Value) (d : Option Addr) : List V → Hp → VK → Prop := fun xs H Q => ∃ (us : List Addr) (D tp : Addr) (cs : List V) (ws : List Value) (b : Bool), xs = [.ref a, .ref tp] ∧ cls = .ref D ∧ EC K us D ∧ HasD H d ∧ H tp = some (.tup cs) ∧
  Paired ClsV cs ws ∧ PySem.W.kitAny K (.ref D) ws = some b ∧ Q (.bl b) H
theorem call_isXT {X : Cx} {a : Addr} {oe : Obj} {cls : Value} {d : Option Addr} (hn : PySem.W.specialIn X.K (.builtin "object.__class__") "__get__" = some (some (.builtin "getset_descriptor.__get__"))) (ht : PySem.W.takesIn X.K (.builtin "object.__class__") = some true)
    (hp : (a, oe) ∈ X.pn) (hz : Zc cls d oe) (hf : ∃ vs, oe.data = .fields vs) : CallR X (.builtin "isinstance") (rIsXT X.K a cls d) := by
  intro pins s σ H xs wss Q I r h
  obtain ⟨us, D, tp, cs, ws, b, rfl, rfl, T, hd, hT, k, e, q⟩ := h
  obtain ⟨u, u', rfl, r1, r2⟩ := vals2 r
  cases r1
  cases (show u' = Value.ref tp from r2)
  obtain ⟨hget, _⟩ := I.pin (a, oe) (List.mem_append.mpr (.inl hp))
  obtain ⟨vs, hv⟩ := hf
  have hno : PySem.W.notCls oe = true := by unfold PySem.W.notCls; rw [hv] <;> rfl
  have J : ∃ od, PySem.W.InstAt s.heap a oe D od := by
    cases d with
    | none => exact ⟨none, hget, hz.1, hno, by rw [hz.2]; trivial⟩
    | some dd =>
      obtain ⟨fs, hfs⟩ := hd
      obtain ⟨mA, ⟨o, es, ep, ho, _⟩, _⟩ := (show ObjOk X.prog X.w H s.heap dd (.xd fs) from I.hok dd _ hfs)
      exact ⟨some o, hget, hz.1, hno, by rw [hz.2]; exact ho⟩
  obtain ⟨od, J⟩ := J
  obtain ⟨_, its, rv, o, h1, h2, n, h3⟩ := (show ObjOk X.prog X.w H s.heap tp (.tup cs) from I.hok tp _ hT)
  have e3 := ClsV.all k rv
  subst e3
  obtain ⟨oc, odd, dt, sl⟩ := o
  simp only at h2 h3
  subst h2 h3
  exact PySem.W.kia_tup (PySem.W.kitx_exc (od := od) T.isC T.ga T.gg T.base T.gc hn ht T.obj) I.kIn J h1 e (fun z => nomatch z) fun tk => ⟨.bl b, H, I.kept (t' := tk) fun _ _ z => z, rfl, q⟩
section
variable {K : PySem.W.Frag} {U C D : Addr}
theorem kit_no {us : List Addr} (A : EC K us C) {vs : List Addr} (B : EC K vs D) (n1 : D ≠ C) (n2 : D ∉ us) : PySem.W.kitOne K (.ref C) (.ref D) = some false := by
  rw [A.kit B, decide_eq_false n1, decide_eq_false n2]
  rfl
theorem kit_yes {us : List Addr} (A : EC K us C) : PySem.W.kitOne K (.ref C) (.ref C) = some true := by
  rw [A.kit A]
  simp
theorem exm_yes {us vs : List Addr} (A : EC K us C) (B : EC K vs U) (h : U ∈ us) : PySem.W.exmOne K (.ref C) (.ref U) = some true := by
  rw [A.exm B, decide_eq_true h]
  simp
theorem ec_xf {us : List Addr} (A : EC K us C) : XfC K C := ⟨A.ga, A.gg, A.base, A.hd⟩
end
end Eo
set_option maxHeartbeats 2000000
namespace K01
open PySem PySem.Spec PyProof.Rows L2 Xc Dt Ln Eo
/-- what is told of Code(kv, x, uv) -/
def toldV (kv uv : V) (x : Str) : CRes → List V
  | .kind => [.str "kind", kv]
  | .ups => [.str "ups", uv]
  | .lines n => [.str "many", .str "lines", .int (n : Nat), .int 60]
  | .ifs n => [.str "many", .str "ifs", .int (n : Nat), .int 7]
  | .line n => [.str "line", .int (n : Nat)]
  | .refused n => [.str "line", .int (n : Nat)]
  | .made k u _ => [.str "made", .str k, .bl u, .str x, .int ((linesOf x).length : Nat)]
/-- the six classes of errors are six; their fields are no names of the classes -/
structure Et (K : PySem.W.Frag) (U CK CU CL CF CM : Addr) : Prop where
  k0 : CK ≠ U
  u0 : CU ≠ U
  l0 : CL ≠ U
  f0 : CF ≠ U
  m0 : CM ≠ U
  ku : CK ≠ CU
  kl : CK ≠ CL
  kf : CK ≠ CF
  km : CK ≠ CM
  ul : CU ≠ CL
  uf : CU ≠ CF
  um : CU ≠ CM
  ml : CM ≠ CL
  mf : CM ≠ CF
  lf : CL ≠ CF
  fK : PySem.W.findIn K (.ref CK) "kind" = some none
  fU : PySem.W.findIn K (.ref CU) "ups" = some none
  fL : PySem.W.findIn K (.ref CL) "line" = some none
  fF : PySem.W.findIn K (.ref CF) "line" = some none
  f1 : PySem.W.findIn K (.ref CM) "what" = some none
  f2 : PySem.W.findIn K (.ref CM) "many" = some none
  f3 : PySem.W.findIn K (.ref CM) "most" = some none
  hn : PySem.W.specialIn K (.builtin "object.__class__") "__get__" = some (some (.builtin "getset_descriptor.__get__"))
  ht : PySem.W.takesIn K (.builtin "object.__class__") = some true
section
variable {P : Program} {w : World} {K : PySem.W.Frag} {mg : Str → Option Value} {base : Heap} {f : Addr} {fd : FuncData}
theorem KindV.same {H H' : Hp} {kv : V} (h : KindV K H kv) (s : Same H H') : KindV K H' kv := by
  rcases h with ⟨k, rfl⟩ | ⟨T, ht, tp, nT⟩
  · exact .inl ⟨k, rfl⟩
  · refine .inr ⟨T, ?_, tp, nT⟩
    cases ht with
    | non => exact .non
    | bl b => exact .bl b
    | int i => exact .int i
    | str x => exact .str x
    | byt b => exact .byt b
    | lst h => exact .lst (h.ext s)
    | tup h => exact .tup (h.ext s)
    | dK h => exact .dK (s _ _ h)
def spTold (K : PySem.W.Frag) : Sp := fun vs H Q _ => ∃ (kv : V) (x : Str) (uv : V), vs = [kv, .str x, uv] ∧ KindV K H kv ∧ TextOk x ∧ ∀ t H', H' t = some (.tup (toldV kv uv x (cRes kv uv x))) → Same H H' → Q (.ref t) H'
theorem sc87 : FnScope ["kind", "text", "ups", "code", "e"] ["kind", "text", "ups"] (defScope (top 87)) := ⟨rfl, rfl, rfl, by decide +kernel, rfl, by decide +kernel, by decide +kernel⟩
theorem ok_told {U C CA Cr CK CU CL CF CM gI gL gG gE : Addr} {dI dL : FuncData} (F : Fun K "_law_told" "_law_told" (top 87) f fd) (N : Nc mg) (Nl : mg "len" = none) (R : Er P w K mg base U CK CU CL CF CM) (E0 : Et K U CK CU CL CF CM) (T : CodC K mg C gI gL gG gE)
    (GI : FnOk P w K mg base (L2.CX P w) 127 gI dI ["self", "kind", "text", "ups"] (spCodeI K C CA Cr CK CU CL CF CM)) (bI : Binds K dI ["self", "kind", "text", "ups"] [])
    (GL : FnOk P w K mg base CX0 1 gL dL ["self"] (spLenC C)) (bGL : Binds K dL ["self"] []) :
    FnOk P w K mg base CX0 129 f fd ["kind", "text", "ups"] (spTold K) := by
  refine F.ok sc87 (fun vs H Q E h => ?_) (fun cdv A outer s H vs Q E hr h => ?_)
  · obtain ⟨kv, x, uv, rfl, _⟩ := h
    rfl
  obtain ⟨kv, x, uv, rfl, hk, tx, q⟩ := h
  have r2 : Room 2 (A.deeper (envOfC "_law_told" (defScope (top 87)) s.heap.objs.size f cdv)) := hr.mono (by decide)
  refine ⟨_, pss_cons (ps_try_cl (out := fun _ _ _ _ => False) rfl rfl sc87.nd takes0 (fun W pn xe tk _ => pss_one (ps_set (i := 3) sc87.nd rfl (.inl rfl) (Oe.pe_makeS T.made GI hr rfl T.mgC bI .nil (fun σ => passAt tk σ) (by exact (pa_cons (pv 0) (pa_cons (pv 1) (pa_cons (pv 2) pa_nil)))))))
      (.named (i := 4) ⟨rfl, by decide, .inl R.mT⟩ rfl rfl (fun a oe cls d pn hz hf =>
        pss_cons (ps_if (pt_val (pe_callB (show CallR _ (.builtin "isinstance") (rIsX K a cls d) from call_isX E0.hn E0.ht List.mem_cons_self hz hf) (by rfl) N.isi (by decide +kernel) (pa_cons (pv 4) (pa_cons (pe_glob (v := .ref CK) (by rfl) R.mK rfl) pa_nil)))) (pss_one (ps_ret (pe_tup (pa_cons pe_str (pa_cons (pe_xf (ec_xf R.ek) E0.fK hz hf (pv 4)) pa_nil))))) pss_nil)
        (pss_cons (ps_if (pt_val (pe_callB (show CallR _ (.builtin "isinstance") (rIsX K a cls d) from call_isX E0.hn E0.ht List.mem_cons_self hz hf) (by rfl) N.isi (by decide +kernel) (pa_cons (pv 4) (pa_cons (pe_glob (v := .ref CU) (by rfl) R.mU rfl) pa_nil)))) (pss_one (ps_ret (pe_tup (pa_cons pe_str (pa_cons (pe_xf (ec_xf R.eu) E0.fU hz hf (pv 4)) pa_nil))))) pss_nil)
        (pss_cons (ps_if (pt_val (pe_callB (show CallR _ (.builtin "isinstance") (rIsX K a cls d) from call_isX E0.hn E0.ht List.mem_cons_self hz hf) (by rfl) N.isi (by decide +kernel) (pa_cons (pv 4) (pa_cons (pe_glob (v := .ref CM) (by rfl) R.mM rfl) pa_nil)))) (pss_one (ps_ret (pe_tup (pa_cons pe_str (pa_cons (pe_xf (ec_xf R.em) E0.f1 hz hf (pv 4)) (pa_cons (pe_xf (ec_xf R.em) E0.f2 hz hf (pv 4)) (pa_cons (pe_xf (ec_xf R.em) E0.f3 hz hf (pv 4)) pa_nil))))))) pss_nil)
        (pss_one (ps_ret (pe_ifExp (pt_val (pe_callB (show CallR _ (.builtin "isinstance") (rIsXT K a cls d) from call_isXT E0.hn E0.ht List.mem_cons_self hz hf) (by rfl) N.isi (by decide +kernel) (pa_cons (pv 4) (pa_cons (pe_tup (pa_cons (pe_glob (v := .ref CL) (by rfl) R.mL rfl) (pa_cons (pe_glob (v := .ref CF) (by rfl) R.mF rfl) pa_nil))) pa_nil)))) (pe_tup (pa_cons pe_str (pa_cons (pe_either (pe_xf (ec_xf R.el) E0.fL hz hf (pv 4)) (pe_xf (ec_xf R.ef) E0.fF hz hf (pv 4))) pa_nil))) (pe_tup (pa_cons pe_str pa_nil)))))))) .nil))
    (pss_one (ps_ret (pe_tup (pa_cons pe_str (pa_cons (pe_fld (pv 3) rfl) (pa_cons (pe_fld (pv 3) rfl) (pa_cons (pe_fld (pv 3) rfl) (pa_cons (pe_callB (Oe.call_lenOwn T.len T.lenF GL r2 bGL) (by rfl) Nl PySem.boot_len (pa_cons (pv 3) pa_nil)) pa_nil)))))))), ?_⟩
  refine ⟨_, rfl, _, rfl, _, rfl, fun p dx np nd ne => ?_⟩
  have s1 : Same H (upd (upd H dx (.own p)) p (.ins C dx [])) := fun y o ey => by rw [upd_ne (ne_of_none ey np), upd_ne (ne_of_none ey nd)]; exact ey
  have n1 : ∀ {y : Addr} {o : HO}, H y = some o → y ≠ p := fun ey => ne_of_none ey np
  refine ⟨p, dx, kv, x, uv, rfl, upd_same, hk.same s1, tx, ?_⟩
  generalize upd (upd H dx (.own p)) p (.ins C dx []) = H1 at s1 ⊢
  cases er : cRes kv uv x with
  | kind =>
    rw [er] at q
    intro dd H2 hd s2
    refine ⟨true, exm_yes R.ek R.et (by simp), fun _ a na => ?_, fun z => Bool.noConfusion z⟩
    refine ⟨_, rfl, [U], CK, _, .ref CK, true, rfl, rfl, R.ek, ⟨_, hd⟩, fun u z => z, kit_yes R.ek, _, rfl, ifT rfl ?_⟩
    exact ⟨_, rfl, rfl, rfl, dd, _, _, rfl, hd, rfl, (by show 2 ≤ sizeLine; decide), fun t nt => q t _ upd_same ((s1.trans s2).trans (same_new nt _))⟩
  | ups =>
    rw [er] at q
    intro dd H2 hd s2
    refine ⟨true, exm_yes R.eu R.et (by simp), fun _ a na => ?_, fun z => Bool.noConfusion z⟩
    refine ⟨_, rfl, [U], CU, _, .ref CK, false, rfl, rfl, R.eu, ⟨_, hd⟩, fun u z => z, kit_no R.eu R.ek (E0.ku) (by simpa using E0.k0), _, rfl, ifF rfl ?_⟩
    refine ⟨_, rfl, [U], CU, _, .ref CU, true, rfl, rfl, R.eu, ⟨_, hd⟩, fun u z => z, kit_yes R.eu, _, rfl, ifT rfl ?_⟩
    exact ⟨_, rfl, rfl, rfl, dd, _, _, rfl, hd, rfl, (by show 2 ≤ sizeLine; decide), fun t nt => q t _ upd_same ((s1.trans s2).trans (same_new nt _))⟩
  | lines n =>
    rw [er] at q
    intro dd H2 hd s2
    refine ⟨true, exm_yes R.em R.et (by simp), fun _ a na => ?_, fun z => Bool.noConfusion z⟩
    refine ⟨_, rfl, [U], CM, _, .ref CK, false, rfl, rfl, R.em, ⟨_, hd⟩, fun u z => z, kit_no R.em R.ek (E0.km) (by simpa using E0.k0), _, rfl, ifF rfl ?_⟩
    refine ⟨_, rfl, [U], CM, _, .ref CU, false, rfl, rfl, R.em, ⟨_, hd⟩, fun u z => z, kit_no R.em R.eu (E0.um) (by simpa using E0.u0), _, rfl, ifF rfl ?_⟩
    refine ⟨_, rfl, [U], CM, _, .ref CM, true, rfl, rfl, R.em, ⟨_, hd⟩, fun u z => z, kit_yes R.em, _, rfl, ifT rfl ?_⟩
    exact ⟨_, rfl, rfl, rfl, dd, _, _, rfl, hd, rfl, _, rfl, rfl, rfl, dd, _, _, rfl, hd, rfl, _, rfl, rfl, rfl, dd, _, _, rfl, hd, rfl, (by show 4 ≤ sizeLine; decide), fun t nt => q t _ upd_same ((s1.trans s2).trans (same_new nt _))⟩
  | ifs n =>
    rw [er] at q
    intro dd H2 hd s2
    refine ⟨true, exm_yes R.em R.et (by simp), fun _ a na => ?_, fun z => Bool.noConfusion z⟩
    refine ⟨_, rfl, [U], CM, _, .ref CK, false, rfl, rfl, R.em, ⟨_, hd⟩, fun u z => z, kit_no R.em R.ek (E0.km) (by simpa using E0.k0), _, rfl, ifF rfl ?_⟩
    refine ⟨_, rfl, [U], CM, _, .ref CU, false, rfl, rfl, R.em, ⟨_, hd⟩, fun u z => z, kit_no R.em R.eu (E0.um) (by simpa using E0.u0), _, rfl, ifF rfl ?_⟩
    refine ⟨_, rfl, [U], CM, _, .ref CM, true, rfl, rfl, R.em, ⟨_, hd⟩, fun u z => z, kit_yes R.em, _, rfl, ifT rfl ?_⟩
    exact ⟨_, rfl, rfl, rfl, dd, _, _, rfl, hd, rfl, _, rfl, rfl, rfl, dd, _, _, rfl, hd, rfl, _, rfl, rfl, rfl, dd, _, _, rfl, hd, rfl, (by show 4 ≤ sizeLine; decide), fun t nt => q t _ upd_same ((s1.trans s2).trans (same_new nt _))⟩
  | line n =>
    rw [er] at q
    intro dd H2 hd s2
    refine ⟨true, exm_yes R.el R.et (by simp), fun _ a na => ?_, fun z => Bool.noConfusion z⟩
    refine ⟨_, rfl, [U], CL, _, .ref CK, false, rfl, rfl, R.el, ⟨_, hd⟩, fun u z => z, kit_no R.el R.ek (E0.kl) (by simpa using E0.k0), _, rfl, ifF rfl ?_⟩
    refine ⟨_, rfl, [U], CL, _, .ref CU, false, rfl, rfl, R.el, ⟨_, hd⟩, fun u z => z, kit_no R.el R.eu (E0.ul) (by simpa using E0.u0), _, rfl, ifF rfl ?_⟩
    refine ⟨_, rfl, [U], CL, _, .ref CM, false, rfl, rfl, R.el, ⟨_, hd⟩, fun u z => z, kit_no R.el R.em (E0.ml) (by simpa using E0.m0), _, rfl, ifF rfl ?_⟩
    refine ⟨_, rfl, (by show 2 ≤ sizeLine; decide), fun tp ntp => ?_⟩
    have u3 := same_new ntp (.tup [.ref CL, .ref CF])
    have h3 : (upd H2 tp (.tup [.ref CL, .ref CF])) tp = some (.tup [.ref CL, .ref CF]) := upd_same
    generalize upd H2 tp (.tup [.ref CL, .ref CF]) = H3 at u3 h3 ⊢
    have hd3 := u3 _ _ hd
    have kt : PySem.W.kitAny K (.ref CL) [.ref CL, .ref CF] = some true := by
      show (match PySem.W.kitOne K (.ref CL) (.ref CL) with
        | some true => some true
        | some false => PySem.W.kitAny K (.ref CL) [.ref CF]
        | none => none) = some true
      rw [kit_yes R.el]
      
    refine ⟨[U], CL, tp, _, [.ref CL, .ref CF], true, rfl, rfl, R.el, ⟨_, hd3⟩, h3, .cons (.own CL) (.cons (.own CF) .nil), kt, _, rfl, ?_⟩
    refine ifT rfl (.inl ⟨_, rfl, rfl, rfl, dd, _, _, rfl, hd3, rfl, (by show 2 ≤ sizeLine; decide), fun t nt => q t _ upd_same (((s1.trans s2).trans u3).trans (same_new nt _))⟩)
  | refused n =>
    rw [er] at q
    intro dd H2 hd s2
    refine ⟨true, exm_yes R.ef R.et (by simp), fun _ a na => ?_, fun z => Bool.noConfusion z⟩
    refine ⟨_, rfl, [U], CF, _, .ref CK, false, rfl, rfl, R.ef, ⟨_, hd⟩, fun u z => z, kit_no R.ef R.ek (E0.kf) (by simpa using E0.k0), _, rfl, ifF rfl ?_⟩
    refine ⟨_, rfl, [U], CF, _, .ref CU, false, rfl, rfl, R.ef, ⟨_, hd⟩, fun u z => z, kit_no R.ef R.eu (E0.uf) (by simpa using E0.u0), _, rfl, ifF rfl ?_⟩
    refine ⟨_, rfl, [U], CF, _, .ref CM, false, rfl, rfl, R.ef, ⟨_, hd⟩, fun u z => z, kit_no R.ef R.em (E0.mf) (by simpa using E0.m0), _, rfl, ifF rfl ?_⟩
    refine ⟨_, rfl, (by show 2 ≤ sizeLine; decide), fun tp ntp => ?_⟩
    have u3 := same_new ntp (.tup [.ref CL, .ref CF])
    have h3 : (upd H2 tp (.tup [.ref CL, .ref CF])) tp = some (.tup [.ref CL, .ref CF]) := upd_same
    generalize upd H2 tp (.tup [.ref CL, .ref CF]) = H3 at u3 h3 ⊢
    have hd3 := u3 _ _ hd
    have kt : PySem.W.kitAny K (.ref CF) [.ref CL, .ref CF] = some true := by
      show (match PySem.W.kitOne K (.ref CF) (.ref CL) with
        | some true => some true
        | some false => PySem.W.kitAny K (.ref CF) [.ref CF]
        | none => none) = some true
      rw [kit_no R.ef R.el E0.lf (by simpa using E0.l0)]
      show (match PySem.W.kitOne K (.ref CF) (.ref CF) with
        | some true => some true
        | some false => PySem.W.kitAny K (.ref CF) []
        | none => none) = some true
      rw [kit_yes R.ef]
    refine ⟨[U], CF, tp, _, [.ref CL, .ref CF], true, rfl, rfl, R.ef, ⟨_, hd3⟩, h3, .cons (.own CL) (.cons (.own CF) .nil), kt, _, rfl, ?_⟩
    refine ifT rfl (.inr ⟨_, rfl, rfl, rfl, dd, _, _, rfl, hd3, rfl, (by show 2 ≤ sizeLine; decide), fun t nt => q t _ upd_same (((s1.trans s2).trans u3).trans (same_new nt _))⟩)
  | made k u b =>
    rw [er] at q
    intro H2 hc k2
    have s2 : Same H H2 := fun y o ey => k2 y o (s1 _ _ ey) (n1 ey)
    refine ⟨rfl, ?_⟩
    have hcd := hc.cd
    obtain ⟨dx2, L, An, B, St, h1, h2⟩ := hcd.at_
    refine ⟨_, rfl, p, C, dx2, _, _, rfl, h1, T.t.cl, T.t.n1, rfl, _, rfl, p, C, dx2, _, _, rfl, h1, T.t.cl, T.t.n2, rfl, _, rfl, p, C, dx2, _, _, rfl, h1, T.t.cl, T.t.n3, rfl, _, rfl, p, dx2, _, rfl, h1, ?_⟩
    refine ⟨p, k, u, x, rfl, hcd, (linesOf x).length, rfl, ?_, (by show 5 ≤ sizeLine; decide), fun t nt => q t _ upd_same (s2.trans (same_new nt _))⟩
    have := tx.lns
    rw [sizeLine_eq] at this
    omega
end
end K01
set_option maxHeartbeats 2000000
namespace Ln
open PySem PySem.Spec PyProof.Rows L2 Xc Dt
/-! ### what holds of the rows of a text -/
def AllS (g : Sd → Prop) (b : Rws) : Prop := b.All fun r => g r.s
theorem all_snoc {g : Sd → Prop} : ∀ {c : Rws} {n : Nat} {s : Sd} {b o : Rws} {e : Bool}, AllS g c → g s → AllS g b → AllS g o → AllS g (c.snoc n s b o e)
  | .nil, _, _, _, _, _, _, hs, hb, ho => ⟨hs, hb, ho, trivial⟩
  | .cons .., _, _, _, _, _, ⟨h1, h2, h3, h4⟩, hs, hb, ho => ⟨h1, h2, h3, all_snoc h4 hs hb ho⟩
def FrS (g : Sd → Prop) (f : Fr) : Prop := g f.s ∧ AllS g f.done ∧ AllS g f.q
theorem take_all {g : Sd → Prop} {n : Nat} {s : Sd} {fs : List Fr} {cur : Rws} (hf : ∀ f ∈ fs, FrS g f) (hc : AllS g cur) (hs : g s) : (∀ f ∈ (takeM n s fs cur).1, FrS g f) ∧ AllS g (takeM n s fs cur).2 := by
  have nil : AllS g .nil := trivial
  unfold takeM
  split
  · cases fs with
    | nil => exact ⟨hf, hc⟩
    | cons f r =>
      obtain ⟨h1, h2, h3⟩ := hf f (List.mem_cons_self ..)
      refine ⟨fun z hz => hf z (List.mem_cons_of_mem _ hz), all_snoc h2 h1 ?_ ?_⟩
      · split
        · exact h3
        · exact hc
      · split
        · exact hc
        · exact nil
  · split
    · cases fs with
      | nil => exact ⟨hf, hc⟩
      | cons f r =>
        obtain ⟨h1, h2, h3⟩ := hf f (List.mem_cons_self ..)
        refine ⟨fun z hz => ?_, nil⟩
        rcases List.mem_cons.mp hz with rfl | hz
        · exact ⟨h1, h2, hc⟩
        · exact hf z (List.mem_cons_of_mem _ hz)
    · split
      · refine ⟨fun z hz => ?_, nil⟩
        rcases List.mem_cons.mp hz with rfl | hz
        · exact ⟨hs, hc, nil⟩
        · exact hf z hz
      · exact ⟨hf, all_snoc hc hs nil nil⟩
theorem rb_all {g : Sd → Prop} : ∀ (ls : List Str) (n : Nat) (fs : List Fr) (cur b : Rws), (∀ l ∈ ls, ∀ fs : List Fr, (∀ f ∈ fs, g f.s) → ∀ s, rdLine l (place fs) = some s → g s) → (∀ f ∈ fs, FrS g f) → AllS g cur → rbFrom n ls fs cur = .ok b → AllS g b
  | [], n, [], cur, b, _, _, hc, h => by
    rw [rbFrom] at h
    cases h
    exact hc
  | [], n, _ :: _, cur, b, _, _, hc, h => by
    rw [rbFrom] at h
    cases h
  | l :: ls, n, fs, cur, b, hl, hf, hc, h => by
    rw [rbFrom] at h
    cases e : rdLine l (place fs) with
    | none => rw [e] at h; cases h
    | some s =>
      rw [e] at h
      have hs : g s := hl l (List.mem_cons_self ..) fs (fun f hf' => (hf f hf').1) s e
      have h : (if fitsM s.word fs then rbFrom (n + 1) ls (takeM n s fs cur).1 (takeM n s fs cur).2 else .error n) = .ok b := h
      split at h
      · obtain ⟨t1, t2⟩ := take_all (n := n) hf hc hs
        exact rb_all ls (n + 1) _ _ b (fun l' hl' => hl l' (List.mem_cons_of_mem _ hl')) t1 t2 h
      · cases h
/-- no more rows than lines -/
theorem tot_snoc : ∀ {c : Rws} {n : Nat} {s : Sd} {b o : Rws} {e : Bool}, (c.snoc n s b o e).tot = c.tot + 1 + b.tot + o.tot
  | .nil, _, _, _, _, _ => by simp [Rws.snoc, Rws.tot]
  | .cons _ _ b' o' _ r, _, _, _, _, _ => by
    show 1 + b'.tot + o'.tot + (r.snoc _ _ _ _ _).tot = 1 + b'.tot + o'.tot + r.tot + 1 + _ + _
    rw [tot_snoc]
    omega
def ftot (fs : List Fr) : Nat := (fs.map fun f => f.done.tot + f.q.tot + 1).sum
theorem take_tot {n : Nat} {s : Sd} {fs : List Fr} {cur : Rws} : ftot (takeM n s fs cur).1 + (takeM n s fs cur).2.tot ≤ ftot fs + cur.tot + 1 := by
  unfold takeM
  split
  · cases fs with
    | nil => show ftot [] + cur.tot ≤ _; omega
    | cons f r =>
      show ftot r + (f.done.snoc f.n f.s (if f.e then f.q else cur) (if f.e then cur else .nil) f.e).tot ≤ (f.done.tot + f.q.tot + 1 + ftot r) + cur.tot + 1
      rw [tot_snoc]
      cases f.e with
      | true => simp only [if_true]; omega
      | false =>
        have : (Rws.nil).tot = 0 := rfl
        simp only [Bool.false_eq_true, if_false]
        omega
  · split
    · cases fs with
      | nil => show ftot [] + cur.tot ≤ _; omega
      | cons f r =>
        show (f.done.tot + cur.tot + 1 + ftot r) + (Rws.nil).tot ≤ (f.done.tot + f.q.tot + 1 + ftot r) + cur.tot + 1
        have : (Rws.nil).tot = 0 := rfl
        omega
    · split
      · show (cur.tot + (Rws.nil).tot + 1 + ftot fs) + (Rws.nil).tot ≤ _
        have : (Rws.nil).tot = 0 := rfl
        omega
      · show ftot fs + (cur.snoc n s .nil .nil false).tot ≤ _
        rw [tot_snoc]
        have : (Rws.nil).tot = 0 := rfl
        omega
theorem rb_tot : ∀ (ls : List Str) (n : Nat) (fs : List Fr) (cur b : Rws), rbFrom n ls fs cur = .ok b → b.tot ≤ ls.length + ftot fs + cur.tot
  | [], n, [], cur, b, h => by
    rw [rbFrom] at h
    cases h
    omega
  | [], n, _ :: _, cur, b, h => by
    rw [rbFrom] at h
    cases h
  | l :: ls, n, fs, cur, b, h => by
    rw [rbFrom] at h
    cases e : rdLine l (place fs) with
    | none => rw [e] at h; cases h
    | some s =>
      rw [e] at h
      have h : (if fitsM s.word fs then rbFrom (n + 1) ls (takeM n s fs cur).1 (takeM n s fs cur).2 else .error n) = .ok b := h
      split at h
      · have t := take_tot (n := n) (s := s) (fs := fs) (cur := cur)
        have := rb_tot ls (n + 1) _ _ b h
        rw [List.length_cons]
        omega
      · cases h
theorem read_tot {ls : List Str} {b : Rws} (h : readBlocks ls = .ok b) : b.tot ≤ ls.length := by
  have := rb_tot ls 1 [] .nil b h
  have e : (Rws.nil).tot = 0 := rfl
  have e2 : ftot [] = 0 := rfl
  omega
theorem dep_tot : ∀ b : Rws, b.dep ≤ b.tot
  | .nil => Nat.le_refl _
  | .cons n s b o e r => by
    have h1 := dep_tot b
    have h2 := dep_tot o
    have h3 := dep_tot r
    show max (1 + max b.dep o.dep) r.dep ≤ 1 + b.tot + o.tot + r.tot
    omega
theorem wf_of : ∀ {b : Rws}, AllS Sd.ok b → b.wf
  | .nil, _ => trivial
  | .cons .., ⟨h1, h2, h3, h4⟩ => ⟨h1, wf_of h2, wf_of h3, wf_of h4⟩
theorem read_wf {ls : List Str} {b : Rws} (h : readBlocks ls = .ok b) : b.wf := wf_of (rb_all ls 1 [] .nil b (fun l _ fs _ s e => rdLine_ok e) (by simp) trivial h)
end Ln
set_option maxHeartbeats 2000000
namespace Ln
open PySem PySem.Spec PyProof.Rows L2 Xc Dt
/-! ### rows in which there is nothing that has a limit -/
structure Quiet (s : Sd) : Prop where
  loop : s.isLoop = false
  root : s.rdRoot = false
  lnk : s.rdLnk = false
  wr : s.isWr = false
instance (s : Sd) : Decidable (Quiet s) := decidable_of_iff (s.isLoop = false ∧ s.rdRoot = false ∧ s.rdLnk = false ∧ s.isWr = false) ⟨fun ⟨a, b, c, d⟩ => ⟨a, b, c, d⟩, fun ⟨a, b, c, d⟩ => ⟨a, b, c, d⟩⟩
theorem fow_quiet {kind : Str} : ∀ (rs : List R1) (m : Nat) (ah : List R1) (fo : List Nat), (∀ r ∈ rs, Quiet r.s) → fowLoop kind rs m ah fo = (ah ++ rs, fo)
  | [], m, ah, fo, _ => by rw [fowLoop, List.append_nil]
  | r :: rs, m, ah, fo, h => by
    have q := h r (List.mem_cons_self ..)
    rw [fowLoop, if_neg (by rw [q.loop]; exact Bool.false_ne_true), if_neg (by rw [q.root]; simp), fow_quiet rs m _ fo fun z hz => h z (List.mem_cons_of_mem _ hz), List.append_assoc]
    rfl
theorem nums_none {g : Sd → Bool} {rs : List R1} (h : ∀ r ∈ rs, g r.s = false) : rowNums g rs = [] := by
  unfold rowNums
  rw [List.filter_eq_nil_iff.mpr fun r hr => by rw [h r hr]; exact Bool.false_ne_true]
  rfl
theorem way_quiet {kind : Str} {w : List R1} (h : ∀ r ∈ w, Quiet r.s) : faultsOnWay kind w = [] := by
  unfold faultsOnWay
  rw [fow_quiet w 0 [] [] h, List.nil_append]
  show [] ++ (rowNums Sd.rdLnk w).drop 12 ++ (rowNums Sd.isWr w).drop 12 = []
  rw [nums_none fun r hr => (h r hr).lnk, nums_none fun r hr => (h r hr).wr]
  rfl
theorem ways_quiet {b : Rws} (h : AllS Quiet b) : ∀ w ∈ b.ways, ∀ r ∈ w, Quiet r.s := waysA_all b [[]] h (by simp)
theorem wf_quiet {kind : Str} {b : Rws} (h : AllS Quiet b) : wayFaults kind b = [] := by
  unfold wayFaults
  rw [List.flatMap_eq_nil_iff]
  exact fun w hw => way_quiet (ways_quiet h w hw)
theorem loops_fold : ∀ (ws : List (List R1)) (l : List Lp), (∀ w ∈ ws, ∀ r ∈ w, Quiet r.s) → ws.foldl noteLoops l = l
  | [], _, _ => rfl
  | w :: ws, l, h => by
    have e : noteLoops l w = l := by
      unfold noteLoops
      rw [List.filter_eq_nil_iff.mpr fun r hr => by rw [(h w (List.mem_cons_self ..) r hr).loop]; exact Bool.false_ne_true]
      rw [noteL]
    rw [List.foldl_cons, e]
    exact loops_fold ws l fun z hz => h z (List.mem_cons_of_mem _ hz)
theorem loops_quiet {b : Rws} (h : AllS Quiet b) : loopsOf b = [] := loops_fold _ [] (ways_quiet h)
/-- a line without the words that may be barred -/
def Free (l : Str) : Prop := (bareWords l).any (has ["up", "new", "key"]) = false
theorem bar_sub {kind : Str} {ups : Bool} {w : Str} (h : has (barWs kind ups) w = true) : has ["up", "new", "key"] w = true := by
  have h : w ∈ barWs kind ups := of_decide_eq_true h
  refine decide_eq_true (p := w ∈ (["up", "new", "key"] : List Str)) ?_
  unfold barWs at h
  rw [List.mem_append, List.mem_append] at h
  rcases h with (h | h) | h
  · split at h
    · cases h
    · rw [List.mem_singleton] at h
      subst h
      decide +kernel
  · split at h
    · cases h
    · rw [List.mem_singleton] at h
      subst h
      decide +kernel
  · split at h
    · cases h
    · rw [List.mem_singleton] at h
      subst h
      decide +kernel
theorem bar_none {kind : Str} {ups : Bool} : ∀ (ls : List Str) (n : Nat), (∀ l ∈ ls, Free l) → barF (barWs kind ups) n ls = []
  | [], _, _ => by rw [barF]
  | l :: ls, n, h => by
    have e : (bareWords l).any (has (barWs kind ups)) = false := by
      rw [List.any_eq_false]
      intro w hw z
      have f := h l (List.mem_cons_self ..)
      unfold Free at f
      rw [List.any_eq_false] at f
      exact f w hw (bar_sub z)
    rw [barF, e, bar_none ls (n + 1) fun z hz => h z (List.mem_cons_of_mem _ hz)]
    rfl
theorem none_quiet {kind : Str} {ups : Bool} {ls : List Str} {b : Rws} (h : AllS Quiet b) (hl : ∀ l ∈ ls, Free l) : allFaults kind ups ls b = [] := by
  unfold allFaults barredLines
  rw [bar_none ls 1 hl, wf_quiet h, loops_quiet h]
  rfl
theorem least_quiet {kind : Str} {ups : Bool} {ls : List Str} {b : Rws} (h : AllS Quiet b) (hl : ∀ l ∈ ls, Free l) : leastFault kind ups ls b = none := by
  unfold leastFault
  rw [none_quiet h hl]
end Ln
set_option maxHeartbeats 2000000
namespace Ln
open PySem PySem.Spec PyProof.Rows L2 Xc Dt
/-! ### the lines of which the law's texts are made -/
inductive Tk where
  | iff | els | fin | oth
  deriving DecidableEq
def tok (w : Str) : Tk := if w = "end" then .fin else if w = "else" then .els else if w = "if" then .iff else .oth
/-- the ifs of lines that say no loop, if they close -/
def chk : List Tk → List Bool → Nat → Option Nat
  | [], [], c => some c
  | [], _ :: _, _ => none
  | .fin :: _, [], _ => none
  | .fin :: ws, _ :: st, c => chk ws st c
  | .els :: ws, false :: st, c => chk ws (true :: st) c
  | .els :: _, _, _ => none
  | .iff :: ws, st, c => chk ws (false :: st) (c + 1)
  | .oth :: ws, st, c => chk ws st c
/-- a line that is read outside loops, says nothing that has a limit, and has no word that may be barred -/
structure Plain (l : Str) (t : Tk) : Prop where
  rd : ∃ s, rdLine l "outside" = some s ∧ Quiet s ∧ tok s.word = t
  fair : K01.Fair l
  free : Free l
  len : l.length ≤ 4000000
def plainB (l : Str) (t : Tk) : Bool := ((rdLine l "outside").any fun s => decide (Quiet s) && decide (tok s.word = t)) && (decide (l.length + 2 ≤ 4000) && !(Txt.split l " ").isEmpty && decide ((Txt.split l " ").length ≤ 4000) && (Txt.split l " ").all fun w => decide (w.length ≤ 4000)) && !((bareWords l).any (has ["up", "new", "key"]))
theorem plain_of {l : Str} {t : Tk} (h : plainB l t = true) : Plain l t := by
  unfold plainB at h
  simp only [Bool.and_eq_true, decide_eq_true_eq, Bool.not_eq_true', List.isEmpty_eq_false_iff, List.all_eq_true] at h
  obtain ⟨⟨h1, ⟨⟨h2, h3⟩, h4⟩, h5⟩, h6⟩ := h
  refine ⟨?_, ⟨?_, h3, h4, h5⟩, h6, by omega⟩
  · cases e : rdLine l "outside" with
    | none => rw [e] at h1; cases h1
    | some s =>
      rw [e] at h1
      have h1 : (decide (Quiet s) && decide (tok s.word = t)) = true := h1
      rw [Bool.and_eq_true] at h1
      exact ⟨s, rfl, of_decide_eq_true h1.1, of_decide_eq_true h1.2⟩
  · rw [sizeLine_eq]
    omega
theorem place_quiet {fs : List Fr} (h : ∀ f ∈ fs, Quiet f.s) : place fs = "outside" := by
  unfold place
  have e : fs.reverse.find? (fun f => has loops f.s.word) = none := by
    rw [List.find?_eq_none]
    intro f hf
    have := (h f (List.mem_reverse.mp hf)).loop
    unfold Sd.isLoop at this
    rw [this]
    exact Bool.false_ne_true
  rw [e]
theorem cif_snoc : ∀ {c : Rws} {n : Nat} {s : Sd} {b o : Rws} {e : Bool}, (c.snoc n s b o e).cif = c.cif + (if s.word = "if" then 1 + b.cif + o.cif else 0)
  | .nil, _, _, _, _, _ => by simp [Rws.snoc, Rws.cif]
  | .cons _ s' b' o' _ r, _, _, _, _, _ => by
    show (if s'.word = "if" then 1 + b'.cif + o'.cif else 0) + (r.snoc _ _ _ _ _).cif = (if s'.word = "if" then 1 + b'.cif + o'.cif else 0) + r.cif + _
    rw [cif_snoc]
    omega
def fcif (fs : List Fr) : Nat := (fs.map fun f => 1 + f.done.cif + f.q.cif).sum
structure IfFr (f : Fr) : Prop where
  q : Quiet f.s
  w : f.s.word = "if"
  e : f.e = false → f.q.cif = 0
theorem tok_fin {w : Str} (h : tok w = .fin) : w = "end" := by
  unfold tok at h
  split at h
  · assumption
  · split at h
    · cases h
    · split at h <;> cases h
theorem tok_els {w : Str} (h : tok w = .els) : w = "else" := by
  unfold tok at h
  split at h
  · cases h
  · split at h
    · assumption
    · split at h <;> cases h
theorem tok_iff {w : Str} (h : tok w = .iff) : w = "if" := by
  unfold tok at h
  split at h
  · cases h
  · split at h
    · cases h
    · split at h
      · assumption
      · cases h
theorem tok_oth {w : Str} (h : tok w = .oth) : w ≠ "end" ∧ w ≠ "else" ∧ w ≠ "if" := by
  unfold tok at h
  split at h
  · cases h
  · split at h
    · cases h
    · split at h
      · cases h
      · exact ⟨by assumption, by assumption, by assumption⟩
theorem rb_chk : ∀ (ls : List Str) (ts : List Tk) (n : Nat) (fs : List Fr) (cur : Rws) (c r : Nat), Paired Plain ls ts → (∀ f ∈ fs, IfFr f) → fcif fs + cur.cif = c → chk ts (fs.map (·.e)) c = some r → ∃ b, rbFrom n ls fs cur = .ok b ∧ b.cif = r
  | _, _, n, fs, cur, c, r, .nil, hf, hc, h => by
    cases fs with
    | nil =>
      rw [rbFrom]
      have h : some c = some r := h
      cases h
      have e : fcif [] = 0 := rfl
      exact ⟨cur, rfl, by omega⟩
    | cons f fs => cases h
  | _, _, n, fs, cur, c, r, .cons (a := l) (b := t) (l₁ := ls) (l₂ := ts) hp hps, hf, hc, h => by
    obtain ⟨s, hs, hq, ht⟩ := hp.rd
    have hpl : place fs = "outside" := place_quiet fun f hf' => (hf f hf').q
    have go : ∀ {ts' : List Bool} {c' : Nat}, fitsM s.word fs = true → (∀ f ∈ (takeM n s fs cur).1, IfFr f) → fcif (takeM n s fs cur).1 + (takeM n s fs cur).2.cif = c' → (takeM n s fs cur).1.map (·.e) = ts' → chk ts ts' c' = some r → ∃ b, rbFrom n (l :: ls) fs cur = .ok b ∧ b.cif = r := by
      intro ts' c' f1 f2 f3 f4 f5
      rw [← f4] at f5
      obtain ⟨b, hb, hr⟩ := rb_chk ls ts (n + 1) _ _ c' r hps f2 f3 f5
      refine ⟨b, ?_, hr⟩
      rw [rbFrom, hpl, hs]
      show (if fitsM s.word fs then rbFrom (n + 1) ls (takeM n s fs cur).1 (takeM n s fs cur).2 else .error n) = .ok b
      rw [if_pos f1]
      exact hb
    have nl : has loops s.word = false := hq.loop
    cases t with
    | fin =>
      have hw := tok_fin ht
      cases fs with
      | nil => cases h
      | cons f fs =>
        obtain ⟨q1, w1, e1⟩ := hf f (List.mem_cons_self ..)
        have ek : takeM n s (f :: fs) cur = (fs, f.done.snoc f.n f.s (if f.e then f.q else cur) (if f.e then cur else .nil) f.e) := by
          unfold takeM
          rw [if_pos hw]
        refine go (by unfold fitsM; rw [hw, if_neg (by decide +kernel)]; rfl) ?_ ?_ ?_ (show chk ts (fs.map (·.e)) c = some r from h)
        · rw [ek]
          exact fun z hz => hf z (List.mem_cons_of_mem _ hz)
        · rw [ek]
          show fcif fs + (f.done.snoc f.n f.s (if f.e then f.q else cur) (if f.e then cur else .nil) f.e).cif = c
          rw [cif_snoc, if_pos w1]
          have hc : (1 + f.done.cif + f.q.cif + fcif fs) + cur.cif = c := hc
          have z : (Rws.nil).cif = 0 := rfl
          cases e : f.e with
          | true =>
            simp only [if_true]
            omega
          | false =>
            have := e1 e
            simp only [Bool.false_eq_true, if_false]
            omega
        · rw [ek]
    | els =>
      have hw := tok_els ht
      cases fs with
      | nil => cases h
      | cons f fs =>
        obtain ⟨q1, w1, e1⟩ := hf f (List.mem_cons_self ..)
        have n1 : s.word ≠ "end" := by rw [hw]; decide +kernel
        have ek : takeM n s (f :: fs) cur = ({ f with e := true, q := cur } :: fs, .nil) := by
          unfold takeM
          rw [if_neg n1, if_pos hw]
        cases e : f.e with
        | true =>
          have h : chk (.els :: ts) (f.e :: fs.map (·.e)) c = some r := h
          rw [e] at h
          cases h
        | false =>
          have h : chk (.els :: ts) (f.e :: fs.map (·.e)) c = some r := h
          rw [e] at h
          refine go (ts' := true :: fs.map (·.e)) (c' := c) (by unfold fitsM; rw [if_pos hw]; show (decide (f.s.word = "if") && !f.e) = true; rw [w1, e]; decide +kernel) ?_ ?_ ?_ (by rw [chk] at h; exact h)
          · rw [ek]
            intro z hz
            rcases List.mem_cons.mp hz with rfl | hz
            · exact ⟨q1, w1, fun z => by cases z⟩
            · exact hf z (List.mem_cons_of_mem _ hz)
          · rw [ek]
            show (1 + f.done.cif + cur.cif + fcif fs) + (Rws.nil).cif = c
            have hc : (1 + f.done.cif + f.q.cif + fcif fs) + cur.cif = c := hc
            have z : (Rws.nil).cif = 0 := rfl
            have := e1 e
            omega
          · rw [ek]
            rfl
    | iff =>
      have hw := tok_iff ht
      have n1 : s.word ≠ "end" := by rw [hw]; decide +kernel
      have n2 : s.word ≠ "else" := by rw [hw]; decide +kernel
      have ek : takeM n s fs cur = ({ done := cur, n := n, s := s, e := false, q := .nil } :: fs, .nil) := by
        unfold takeM
        rw [if_neg n1, if_neg n2, if_pos (.inl hw)]
      refine go (ts' := false :: fs.map (·.e)) (c' := c + 1) (by unfold fitsM; rw [if_neg n2, decide_eq_false n1]; rfl) ?_ ?_ ?_ (by rw [chk] at h; exact h)
      · rw [ek]
        intro z hz
        rcases List.mem_cons.mp hz with rfl | hz
        · exact ⟨hq, hw, fun _ => rfl⟩
        · exact hf z hz
      · rw [ek]
        show (1 + cur.cif + (Rws.nil).cif + fcif fs) + (Rws.nil).cif = c + 1
        have z : (Rws.nil).cif = 0 := rfl
        omega
      · rw [ek]
        rfl
    | oth =>
      obtain ⟨n1, n2, n3⟩ := tok_oth ht
      have ek : takeM n s fs cur = (fs, cur.snoc n s .nil .nil false) := by
        unfold takeM
        rw [if_neg n1, if_neg n2, if_neg (by rw [nl]; simp [n3])]
      refine go (ts' := fs.map (·.e)) (c' := c) (by unfold fitsM; rw [if_neg n2, decide_eq_false n1]; rfl) ?_ ?_ ?_ (by rw [chk] at h; exact h)
      · rw [ek]
        exact hf
      · rw [ek]
        show fcif fs + (cur.snoc n s .nil .nil false).cif = c
        rw [cif_snoc, if_neg n3]
        omega
      · rw [ek]
/-- what is read of plain lines that close -/
theorem read_chk {ls : List Str} {ts : List Tk} {r : Nat} (h : Paired Plain ls ts) (c : chk ts [] 0 = some r) : ∃ b, readBlocks ls = .ok b ∧ b.cif = r := rb_chk ls ts 1 [] .nil 0 r h (by simp) rfl c
theorem read_quiet {ls : List Str} {ts : List Tk} {b : Rws} (h : Paired Plain ls ts) (e : readBlocks ls = .ok b) : AllS Quiet b := by
  refine rb_all ls 1 [] .nil b (fun l hl fs hf s hs => ?_) (by simp) trivial e
  rw [place_quiet hf] at hs
  obtain ⟨i, hi⟩ := List.getElem?_of_mem hl
  have key : ∀ {as : List Str} {bs : List Tk}, Paired Plain as bs → l ∈ as → ∃ t, Plain l t := by
    intro as bs p
    induction p with
    | nil => intro z; cases z
    | cons a _ ih =>
      intro z
      rcases List.mem_cons.mp z with rfl | z
      · exact ⟨_, a⟩
      · exact ih z
  obtain ⟨t, ht⟩ := key h hl
  obtain ⟨s', hs', hq, _⟩ := ht.rd
  rw [hs'] at hs
  cases hs
  exact hq
end Ln
set_option maxHeartbeats 2000000
namespace K01
open PySem PySem.Spec PyProof.Rows L2 Xc Dt Ln Eo
theorem lns_of {x : Str} (h : x.length + 2 ≤ sizeLine) : (linesOf x).length ≤ sizeLine := by
  unfold linesOf
  split
  · exact Nat.zero_le _
  · exact Nat.le_trans (PyProof.Rows.split_le x "\n") h
/-- a text whose lines are fair, and in which nothing is to be reckoned but plain rows -/
theorem textOk_gen {x : Str} (hz : x.length + 2 ≤ sizeLine) (fair : (linesOf x).length ≤ 60 → ∀ l ∈ linesOf x, Fair l)
    (ok : (linesOf x).length ≤ 60 → ∀ b, readBlocks (linesOf x) = .ok b → b.cif ≤ 7 → AllS Quiet b ∧ ∀ l ∈ linesOf x, Free l ∧ l.length ≤ 4000000) : TextOk x := by
  refine ⟨hz, lns_of hz, fair, fun n b hb => ?_, fun n b hb hc k u => ?_⟩
  · have h1 := read_tot hb
    have h2 := dep_tot b
    exact ⟨by omega, by omega⟩
  · have h1 := read_tot hb
    have h2 := dep_tot b
    obtain ⟨hq, hl⟩ := ok n b hb hc
    refine ⟨by omega, fun l hl' => (hl l hl').2, by omega, hc, by omega, read_wf hb, ?_, ?_⟩
    · rw [loops_quiet hq]
      simp
    · rw [none_quiet hq fun l hl' => (hl l hl').1]
      exact Nat.zero_le _
theorem plain_mem {ls : List Str} {ts : List Tk} (p : Paired Plain ls ts) : ∀ l ∈ ls, ∃ t, Plain l t := by
  induction p with
  | nil => intro l z; cases z
  | cons a _ ih =>
    intro l z
    rcases List.mem_cons.mp z with rfl | z
    · exact ⟨_, a⟩
    · exact ih l z
theorem textOk_plain {x : Str} {ts : List Tk} (hz : x.length + 2 ≤ sizeLine) (h : Paired Plain (linesOf x) ts) : TextOk x := by
  refine textOk_gen hz (fun _ l hl => ?_) fun _ b hb _ => ⟨read_quiet h hb, fun l hl => ?_⟩
  · obtain ⟨t, ht⟩ := plain_mem h l hl
    exact ht.fair
  · obtain ⟨t, ht⟩ := plain_mem h l hl
    exact ⟨ht.free, ht.len⟩
theorem tRes_lines {k : Str} {u : Bool} {x : Str} (n : 60 < (linesOf x).length) : tRes k u x = .lines (linesOf x).length := by
  unfold tRes
  rw [if_pos n]
theorem tRes_plain {k : Str} {u : Bool} {x : Str} {ts : List Tk} {r : Nat} (n : (linesOf x).length ≤ 60) (h : Paired Plain (linesOf x) ts) (c : chk ts [] 0 = some r) : (7 < r → tRes k u x = .ifs r) ∧ (r ≤ 7 → ∃ b, tRes k u x = .made k u b) := by
  obtain ⟨b, hb, hr⟩ := read_chk h c
  have e : tRes k u x = if 7 < b.cif then .ifs b.cif else match leastFault k u (linesOf x) b with
    | some n => .refused n
    | none => .made k u b := by
    unfold tRes
    rw [if_neg (by omega), hb]
    try rfl
  rw [e, hr]
  refine ⟨fun z => if_pos z, fun z => ⟨b, ?_⟩⟩
  rw [if_neg (by omega), least_quiet (read_quiet h hb) fun l hl => by obtain ⟨t, ht⟩ := plain_mem h l hl; exact ht.free]
def errOf : Except Nat Rws → Option Nat
  | .error n => some n
  | .ok _ => none
def cifOf : Except Nat Rws → Option Nat
  | .error _ => none
  | .ok b => some b.cif
theorem tRes_err {k : Str} {u : Bool} {x : Str} {m : Nat} (n : (linesOf x).length ≤ 60) (h : errOf (readBlocks (linesOf x)) = some m) : tRes k u x = .line m := by
  unfold tRes
  rw [if_neg (by omega)]
  cases e : readBlocks (linesOf x) with
  | error j => rw [e] at h; cases h; rfl
  | ok b => rw [e] at h; cases h
theorem tRes_ifs {k : Str} {u : Bool} {x : Str} {m : Nat} (n : (linesOf x).length ≤ 60) (h : cifOf (readBlocks (linesOf x)) = some m) (hm : 7 < m) : tRes k u x = .ifs m := by
  unfold tRes
  rw [if_neg (by omega)]
  cases e : readBlocks (linesOf x) with
  | error j => rw [e] at h; cases h
  | ok b =>
    rw [e] at h
    cases h
    exact if_pos hm
/-- the kinds and ups that are taken -/
theorem cRes_ok {k : Str} {u : Bool} {x : Str} (h : has kinds k = true) (hu : (has kindsUp k && !u) = false) : cRes (.str k) (.bl u) x = tRes k u x := by
  have e : ckRes (.str k) (.bl u) = 0 := by rw [ck_bl h, hu]; rfl
  unfold cRes
  rw [e]
  rfl
/-! ### joined lines -/
/-- a line of a joined text -/
def OneL (l : Str) : Prop := 10 ∉ TL.tl l ∧ l ≠ ""
theorem lines_join {ls : List Str} (h : ∀ l ∈ ls, OneL l) : linesOf (Txt.join "\n" ls) = ls := by
  cases ls with
  | nil => decide +kernel
  | cons l r =>
    have e := TL.split_join (y := "\n") (s := 10) (S := []) (by decide +kernel) (by decide +kernel) (parts := l :: r) (by simp) fun p hp => (h p hp).1
    unfold linesOf
    split
    · rename_i z
      rw [z] at e
      have e2 : Txt.split "" "\n" = [("" : Str)] := by decide +kernel
      rw [e2] at e
      cases e
      exact absurd rfl (h "" (List.mem_cons_self ..)).2
    · exact e
end K01
set_option maxHeartbeats 2000000
namespace K01
open PySem PySem.Spec PyProof.Rows L2 Xc Dt Ln Eo
theorem Kept.trans {b : Addr} {H H1 H2 : Hp} (k : Kept b H H1) (l : Kept b H1 H2) : Kept b H H2 := fun x o e h => l x o (k x o e h) h
theorem Kept.of {b : Addr} {H H' : Hp} (s : Same H H') : Kept b H H' := fun x o e _ => s x o e
theorem Kept.free {b : Addr} {H H' : Hp} (k : Kept b H H') {x : Addr} (n : H' x = none) (h : x ≠ b) : H x = none := by
  cases e : H x with
  | none => rfl
  | some o => rw [k x o e h] at n; cases n
theorem Bag.dict {H : Hp} {b : Addr} {ct : Nat} (g : Bag H b ct) : ∃ kvs, H b = some (.dK kvs) := by
  obtain ⟨c, ns, i, dg, fo, g⟩ := g
  exact ⟨_, g.hb⟩
theorem Bag.ne {H : Hp} {b : Addr} {ct : Nat} (g : Bag H b ct) {p : Addr} {xs : List V} (h : H p = some (.lst xs)) : p ≠ b := fun z => by
  obtain ⟨kvs, e⟩ := g.dict
  rw [z, e] at h
  cases h
/-! ### lines that all kinds may have -/
structure Good (ls : List Str) (r : Nat) : Prop where
  ts : ∃ ts, Paired Plain ls ts ∧ ∀ ws c, chk (ts ++ ws) [] c = chk ws [] (c + r)
  one : ∀ l ∈ ls, OneL l ∧ l.length ≤ 20
theorem Good.nil : Good [] 0 := ⟨⟨[], .nil, fun ws c => rfl⟩, by simp⟩
theorem Good.app {a b : List Str} {r q : Nat} (h : Good a r) (k : Good b q) : Good (a ++ b) (r + q) := by
  obtain ⟨t1, p1, c1⟩ := h.ts
  obtain ⟨t2, p2, c2⟩ := k.ts
  refine ⟨⟨t1 ++ t2, pair_app p1 p2, fun ws c => ?_⟩, fun l hl => ?_⟩
  · rw [List.append_assoc, c1, c2, Nat.add_assoc]
  · rcases List.mem_append.mp hl with z | z
    · exact h.one l z
    · exact k.one l z
theorem Good.chk {a : List Str} {r : Nat} (h : Good a r) : ∃ ts, Paired Plain a ts ∧ chk ts [] 0 = some r := by
  obtain ⟨ts, p, c⟩ := h.ts
  have e := c [] 0
  rw [List.append_nil, Nat.zero_add] at e
  exact ⟨ts, p, e⟩
def oneB (l : Str) : Bool := decide (10 ∉ TL.tl l) && decide (l ≠ "") && decide (l.length ≤ 20)
theorem one_of {l : Str} (h : oneB l = true) : OneL l ∧ l.length ≤ 20 := by
  unfold oneB at h
  simp only [Bool.and_eq_true, decide_eq_true_eq] at h
  exact ⟨⟨h.1.1, h.1.2⟩, h.2⟩
theorem one_all {ls : List Str} (h : ls.all oneB = true) : ∀ l ∈ ls, OneL l ∧ l.length ≤ 20 := fun l hl => one_of (List.all_eq_true.mp h l hl)
abbrev pc0 : List Str := ["par = none"]
abbrev pc1 : List Str := ["low = par"]
abbrev pc2 : List Str := ["out = low"]
abbrev pc3 : List Str := ["if par is none", "low = out", "end"]
abbrev pc4 : List Str := ["if par is low", "else", "quit", "end"]
abbrev pcQ : List Str := ["quit"]
abbrev pcI : List Str := ["if par is none", "end"]
theorem chk_oth (ws : List Tk) (c : Nat) : chk (.oth :: ws) [] c = chk ws [] c := by rw [chk]
theorem good0 : Good pc0 0 := ⟨⟨[.oth], .cons (plain_of (by decide +kernel)) .nil, fun ws c => chk_oth ws c⟩, one_all (by decide +kernel)⟩
theorem good1 : Good pc1 0 := ⟨⟨[.oth], .cons (plain_of (by decide +kernel)) .nil, fun ws c => chk_oth ws c⟩, one_all (by decide +kernel)⟩
theorem good2 : Good pc2 0 := ⟨⟨[.oth], .cons (plain_of (by decide +kernel)) .nil, fun ws c => chk_oth ws c⟩, one_all (by decide +kernel)⟩
theorem good3 : Good pc3 1 := ⟨⟨[.iff, .oth, .fin], .cons (plain_of (by decide +kernel)) (.cons (plain_of (by decide +kernel)) (.cons (plain_of (by decide +kernel)) .nil)), fun ws c => by show chk (.iff :: .oth :: .fin :: ws) [] c = _; rw [chk, chk, chk]⟩, one_all (by decide +kernel)⟩
theorem good4 : Good pc4 1 := ⟨⟨[.iff, .els, .oth, .fin], .cons (plain_of (by decide +kernel)) (.cons (plain_of (by decide +kernel)) (.cons (plain_of (by decide +kernel)) (.cons (plain_of (by decide +kernel)) .nil))), fun ws c => by show chk (.iff :: .els :: .oth :: .fin :: ws) [] c = _; rw [chk, chk, chk, chk]⟩, one_all (by decide +kernel)⟩
theorem goodQ : Good pcQ 0 := ⟨⟨[.oth], .cons (plain_of (by decide +kernel)) .nil, fun ws c => chk_oth ws c⟩, one_all (by decide +kernel)⟩
theorem goodI : Good pcI 1 := ⟨⟨[.iff, .fin], .cons (plain_of (by decide +kernel)) (.cons (plain_of (by decide +kernel)) .nil), fun ws c => by show chk (.iff :: .fin :: ws) [] c = _; rw [chk, chk]⟩, one_all (by decide +kernel)⟩
/-- the pool at p -/
def pcs : List (List Str) := [pc0, pc1, pc2, pc3, pc4]
structure PoolAt (H : Hp) (p : Addr) : Prop where
  at_ : ∃ l0 l1 l2 l3 l4 : Addr, H p = some (.lst [.ref l0, .ref l1, .ref l2, .ref l3, .ref l4]) ∧ H l0 = some (.lst (pc0.map V.str)) ∧ H l1 = some (.lst (pc1.map V.str)) ∧ H l2 = some (.lst (pc2.map V.str)) ∧ H l3 = some (.lst (pc3.map V.str)) ∧ H l4 = some (.lst (pc4.map V.str))
theorem PoolAt.keep {H H' : Hp} {p b : Addr} (h : PoolAt H p) {kvs : List (Key × V)} (hb : H b = some (.dK kvs)) (k : Kept b H H') : PoolAt H' p := by
  obtain ⟨l0, l1, l2, l3, l4, hp, h0, h1, h2, h3, h4⟩ := h.at_
  have ne : ∀ {l : Addr} {xs : List V}, H l = some (.lst xs) → H' l = some (.lst xs) := fun e => k _ _ e fun z => by rw [z, hb] at e; cases e
  exact ⟨l0, l1, l2, l3, l4, ne hp, ne h0, ne h1, ne h2, ne h3, ne h4⟩
theorem PoolAt.same {H H' : Hp} {p : Addr} (h : PoolAt H p) (s : Same H H') : PoolAt H' p := by
  obtain ⟨l0, l1, l2, l3, l4, hp, h0, h1, h2, h3, h4⟩ := h.at_
  exact ⟨l0, l1, l2, l3, l4, s _ _ hp, s _ _ h0, s _ _ h1, s _ _ h2, s _ _ h3, s _ _ h4⟩
theorem PoolAt.get {H : Hp} {p : Addr} (h : PoolAt H p) {v : Int} (h0 : 0 ≤ v) (h5 : v < 5) : ∃ (xs : List V) (l : Addr) (pc : List Str) (q : Nat), H p = some (.lst xs) ∧ atI xs v = some (.ref l) ∧ H l = some (.lst (pc.map V.str)) ∧ Good pc q ∧ q ≤ 1 ∧ pc.length ≤ 4 ∧ (v < 3 → q = 0 ∧ pc.length = 1) := by
  obtain ⟨l0, l1, l2, l3, l4, hp, h0', h1', h2', h3', h4'⟩ := h.at_
  have c : v = 0 ∨ v = 1 ∨ v = 2 ∨ v = 3 ∨ v = 4 := by omega
  rcases c with rfl | rfl | rfl | rfl | rfl
  · exact ⟨_, l0, pc0, 0, hp, rfl, h0', good0, by decide, by decide, fun _ => ⟨rfl, rfl⟩⟩
  · exact ⟨_, l1, pc1, 0, hp, rfl, h1', good1, by decide, by decide, fun _ => ⟨rfl, rfl⟩⟩
  · exact ⟨_, l2, pc2, 0, hp, rfl, h2', good2, by decide, by decide, fun _ => ⟨rfl, rfl⟩⟩
  · exact ⟨_, l3, pc3, 1, hp, rfl, h3', good3, by decide, by decide, fun z => absurd z (by decide)⟩
  · exact ⟨_, l4, pc4, 1, hp, rfl, h4', good4, by decide, by decide, fun z => absurd z (by decide)⟩
section
variable {P : Program} {w : World} {K : PySem.W.Frag} {mg : Str → Option Value} {base : Heap} {f : Addr} {fd : FuncData}
def spLL : Sp := fun vs H Q _ => ∃ (b : Addr) (ct : Nat), vs = [.ref b] ∧ Bag H b ct ∧ ct < 900000 ∧ ∀ (a : Addr) (H' : Hp) (ls : List Str) (r ct' : Nat), H' a = some (.lst (ls.map V.str)) → Good ls r → r ≤ 7 → ls.length ≤ 40 → Bag H' b ct' → ct' ≤ ct + 16 → Kept b H H' → Q (.ref a) H'
theorem sc88 : FnScope ["bag", "pool", "found", "k"] ["bag"] (defScope (top 88)) := ⟨rfl, rfl, rfl, by decide +kernel, rfl, by decide +kernel, by decide +kernel⟩
theorem ok_lawLines {g : Addr} {gd : FuncData} (F : Fun K "_law_lines" "_law_lines" (top 88) f fd) (mR : mg "range" = none)
    (R : FnOk P w K mg base CX0 1 g gd ["bag", "limit"] spDraw) (bR : Binds K gd ["bag", "limit"] []) (kR : PySem.W.keepIn K (.ref g) = true) (mD : mg "_law_draw" = some (.ref g)) :
    FnOk P w K mg base CX0 2 f fd ["bag"] spLL := by
  refine F.ok sc88 (fun vs H Q E h => ?_) (fun cdv A outer s H vs Q E hr h => ?_)
  · obtain ⟨b, ct, rfl, _⟩ := h
    rfl
  obtain ⟨b, ct, rfl, g0, hct, q⟩ := h
  refine ⟨_, (pss_cons (ps_set (i := 1) sc88.nd rfl (.inl rfl) (pe_lst (pa_cons (pe_lst (pa_cons pe_str pa_nil)) (pa_cons (pe_lst (pa_cons pe_str pa_nil)) (pa_cons (pe_lst (pa_cons pe_str pa_nil)) (pa_cons (pe_lst (pa_cons pe_str (pa_cons pe_str (pa_cons pe_str pa_nil)))) pa_nil))))))
  (pss_cons (ps_expr (pe_bm PySem.F.plainAttrs_list PySem.F.slot_list_append PySem.F.type_list_append mt_append (pv 1) (pa_cons (pe_lst (pa_cons pe_str (pa_cons pe_str (pa_cons pe_str (pa_cons pe_str pa_nil))))) pa_nil)))
  (pss_cons (ps_set (i := 2) sc88.nd rfl (.inl rfl) (pe_lst pa_nil))
  (pss_cons (ps_for PassesOwn.never rfl (pi_range1 rfl mR (pa_cons (pe_call R hr rfl mD kR bR .nil pass0 (pa_cons (pv 0) (pa_cons pe_int pa_nil))) pa_nil)) (pg_name (i := 3) sc88.nd rfl (.inl rfl))
  (pss_one (ps_set (i := 2) sc88.nd rfl (.inl rfl) (pe_op op_cat (pv 2) (pe_ix (show IxR _ (rIxL K) from ix_list) (pv 1) (pe_call R hr rfl mD kR bR .nil pass0 (pa_cons (pv 0) (pa_cons (pe_ifExp (pt_cmpR op_lt (pv 3) pe_int (nomark _)) pe_int pe_int) pa_nil))) (fun _ _ => rfl))))))
  (pss_one (ps_ret (pv 2))))))), ?_⟩
  have sz1 : 1 ≤ sizeLine := by decide
  have sz3 : 3 ≤ sizeLine := by decide
  have sz4 : 4 ≤ sizeLine := by decide
  refine ⟨sz1, fun l0 n0 => ?_⟩
  have u0 := same_new n0 (.lst (pc0.map V.str))
  have h0 : (upd H l0 (.lst (pc0.map V.str))) l0 = some (.lst (pc0.map V.str)) := upd_same
  refine (show _ from ?_)
  generalize e0 : upd H l0 (.lst (pc0.map V.str)) = H0 at u0 h0
  have e0' : upd H l0 (.lst [.str "par = none"]) = H0 := e0
  rw [e0']
  refine ⟨sz1, fun l1 n1 => ?_⟩
  have u1 := same_new n1 (.lst (pc1.map V.str))
  have h1 : (upd H0 l1 (.lst (pc1.map V.str))) l1 = some (.lst (pc1.map V.str)) := upd_same
  generalize e1 : upd H0 l1 (.lst (pc1.map V.str)) = H1 at u1 h1
  have e1' : upd H0 l1 (.lst [.str "low = par"]) = H1 := e1
  rw [e1']
  refine ⟨sz1, fun l2 n2 => ?_⟩
  have u2 := same_new n2 (.lst (pc2.map V.str))
  have h2 : (upd H1 l2 (.lst (pc2.map V.str))) l2 = some (.lst (pc2.map V.str)) := upd_same
  generalize e2 : upd H1 l2 (.lst (pc2.map V.str)) = H2 at u2 h2
  have e2' : upd H1 l2 (.lst [.str "out = low"]) = H2 := e2
  rw [e2']
  refine ⟨sz3, fun l3 n3 => ?_⟩
  have u3 := same_new n3 (.lst (pc3.map V.str))
  have h3 : (upd H2 l3 (.lst (pc3.map V.str))) l3 = some (.lst (pc3.map V.str)) := upd_same
  generalize e3 : upd H2 l3 (.lst (pc3.map V.str)) = H3 at u3 h3
  have e3' : upd H2 l3 (.lst [.str "if par is none", .str "low = out", .str "end"]) = H3 := e3
  rw [e3']
  refine ⟨sz4, fun pA nP => ?_⟩
  have uP := same_new nP (.lst [.ref l0, .ref l1, .ref l2, .ref l3])
  have hP : (upd H3 pA (.lst [.ref l0, .ref l1, .ref l2, .ref l3])) pA = some (.lst [.ref l0, .ref l1, .ref l2, .ref l3]) := upd_same
  generalize upd H3 pA (.lst [.ref l0, .ref l1, .ref l2, .ref l3]) = H4 at uP hP ⊢
  refine ⟨_, rfl, .inl ⟨rfl, _, SqL.of hP⟩, sz4, fun l4 n4 => ?_⟩
  have u4 := same_new n4 (.lst (pc4.map V.str))
  have h4 : (upd H4 l4 (.lst (pc4.map V.str))) l4 = some (.lst (pc4.map V.str)) := upd_same
  generalize e4 : upd H4 l4 (.lst (pc4.map V.str)) = H5 at u4 h4
  have e4' : upd H4 l4 (.lst [.str "if par is low", .str "else", .str "quit", .str "end"]) = H5 := e4
  rw [e4']
  have hP5 := u4 _ _ hP
  refine ⟨pA, _, _, rfl, rfl, hP5, (by show 4 + 1 ≤ sizeLine; decide), ?_⟩
  have s4 : Same H H3 := ((u0.trans u1).trans u2).trans u3
  have nP0 : H pA = none := by
    cases e : H pA with
    | none => rfl
    | some o => rw [s4 _ _ e] at nP; cases nP
  have s6 : Same H (upd H5 pA (.lst [.ref l0, .ref l1, .ref l2, .ref l3, .ref l4])) := fun y o ey => by
    rw [upd_ne (ne_of_none ey nP0)]
    exact u4 _ _ (uP _ _ (s4 _ _ ey))
  have pool : PoolAt (upd H5 pA (.lst [.ref l0, .ref l1, .ref l2, .ref l3, .ref l4])) pA := by
    have k : ∀ {l : Addr} {o : HO}, H3 l = some o → (upd H5 pA (.lst [.ref l0, .ref l1, .ref l2, .ref l3, .ref l4])) l = some o := fun e => by
      rw [upd_ne (ne_of_none e nP)]
      exact u4 _ _ (uP _ _ e)
    refine ⟨l0, l1, l2, l3, l4, upd_same, k (u3 _ _ (u2 _ _ (u1 _ _ h0))), k (u3 _ _ (u2 _ _ h1)), k (u3 _ _ h2), k h3, ?_⟩
    rw [upd_ne (ne_of_none hP n4).symm]
    exact h4
  have e6 : upd H5 pA (.lst ([.ref l0, .ref l1, .ref l2, .ref l3] ++ [.ref l4])) = upd H5 pA (.lst [.ref l0, .ref l1, .ref l2, .ref l3, .ref l4]) := rfl
  rw [e6]
  generalize upd H5 pA (.lst [.ref l0, .ref l1, .ref l2, .ref l3, .ref l4]) = H6 at s6 pool ⊢
  refine ⟨(by decide), fun fA nf => ?_⟩
  have u7 := same_new nf (.lst (([] : List Str).map V.str))
  have h7 : (upd H6 fA (.lst (([] : List Str).map V.str))) fA = some (.lst (([] : List Str).map V.str)) := upd_same
  generalize e7 : upd H6 fA (.lst (([] : List Str).map V.str)) = H7 at u7 h7
  have e7' : upd H6 fA (.lst []) = H7 := e7
  rw [e7']
  have g7 := g0.same (s6.trans u7)
  have pool7 := pool.same u7
  have k7 : Kept b H H7 := Kept.of (s6.trans u7)
  refine ⟨_, rfl, b, ct, 16, rfl, g7, by omega, by decide, by decide, fun v H8 v0 v1 g8 k8 => ?_⟩
  obtain ⟨n, rfl⟩ : ∃ n : Nat, v = (n : Int) := ⟨v.toNat, by omega⟩
  obtain ⟨kv7, hb7⟩ := g7.dict
  have pool8 := pool7.keep hb7 k8
  have h8 := k8 _ _ h7 (g7.ne h7)
  refine ⟨((n : Nat) : Int), rfl, (by omega), (by omega), for_range (n := n) (fun i σ H' => ∃ (fA : Addr) (ls : List Str) (r : Nat) (oK : Option V), σ = [some (.ref b), some (.ref pA), some (.ref fA), oK] ∧ H' fA = some (.lst (ls.map V.str)) ∧ Good ls r ∧ r ≤ min i 7 ∧ ls.length ≤ 4 * min i 7 + (i - 7) ∧ Bag H' b (ct + 1 + i) ∧ Kept b H H' ∧ PoolAt H' pA)
    ⟨fA, [], 0, none, rfl, h8, Good.nil, by omega, by simp, g8, k7.trans k8, pool8⟩ ?_ ?_⟩
  · rintro i σ H' hi ⟨fA, ls, r, oK, rfl, hfA, gd, hr7, hlen, g9, k9, pl⟩
    obtain ⟨kv9, hb9⟩ := g9.dict
    have common : ∀ (lim : Int), lim = 5 ∧ i < 7 ∨ lim = 3 → ∀ (v : Int) (H8 : Hp), 0 ≤ v → v < lim → Bag H8 b (ct + 1 + i + 1) → Kept b H' H8 → ∃ (xs : List V) (l : Addr) (pc : List Str) (q : Nat), H8 pA = some (.lst xs) ∧ atI xs v = some (.ref l) ∧ H8 l = some (.lst (pc.map V.str)) ∧ H8 fA = some (.lst (ls.map V.str)) ∧ (ls.map V.str).length + (pc.map V.str).length ≤ sizeLine ∧
        (∀ a, H8 a = none → Good (ls ++ pc) (r + q) ∧ r + q ≤ min (i + 1) 7 ∧ (ls ++ pc).length ≤ 4 * min (i + 1) 7 + (i + 1 - 7) ∧ (upd H8 a (.lst (ls.map V.str ++ pc.map V.str))) a = some (.lst ((ls ++ pc).map V.str)) ∧ Bag (upd H8 a (.lst (ls.map V.str ++ pc.map V.str))) b (ct + 1 + (i + 1)) ∧ Kept b H (upd H8 a (.lst (ls.map V.str ++ pc.map V.str))) ∧ PoolAt (upd H8 a (.lst (ls.map V.str ++ pc.map V.str))) pA) := by
      intro lim hlim v H8 v0 v1 gb kb
      have pl8 := pl.keep hb9 kb
      obtain ⟨xs, l, pc, q, e1, e2, e3, e4, e5, e6, e7⟩ := pl8.get v0 (by omega)
      have hf8 := kb _ _ hfA (g9.ne hfA)
      refine ⟨xs, l, pc, q, e1, e2, e3, hf8, by rw [List.length_map, List.length_map, sizeLine_eq]; omega, fun a na => ?_⟩
      have ua := same_new na (.lst (ls.map V.str ++ pc.map V.str))
      refine ⟨gd.app e4, ?_, ?_, ?_, ?_, (k9.trans kb).trans (Kept.of ua), pl8.same ua⟩
      · rcases hlim with ⟨rfl, h⟩ | rfl
        · omega
        · have := (e7 v1).1
          omega
      · rw [List.length_append]
        rcases hlim with ⟨rfl, h⟩ | rfl
        · omega
        · have := (e7 v1).2
          omega
      · rw [upd_same, List.map_append]
      · rw [← Nat.add_assoc]
        exact gb.same ua
    refine ⟨_, rfl, _, rfl, _, rfl, _, rfl, _, _, rfl, rfl, _, rfl, ?_⟩
    refine if2 (fun c => ?_) (fun c => ?_)
    · have c : i < 7 := by have := of_decide_eq_true c; omega
      refine ⟨b, ct + 1 + i, 5, rfl, g9, by omega, by decide, by decide, fun v H8 v0 v1 gb kb => ?_⟩
      obtain ⟨xs, l, pc, q, e1, e2, e3, e4, e5, e6⟩ := common 5 (.inl ⟨rfl, c⟩) v H8 v0 v1 gb kb
      refine ⟨pA, xs, v, .ref l, rfl, rfl, SqL.of e1, e2, fA, l, _, _, rfl, rfl, e4, e3, e5, fun a na => ?_⟩
      obtain ⟨f1, f2, f3, f4, f5, f6, f7⟩ := e6 a na
      exact ⟨a, ls ++ pc, r + q, _, rfl, f4, f1, f2, f3, f5, f6, f7⟩
    · refine ⟨b, ct + 1 + i, 3, rfl, g9, by omega, by decide, by decide, fun v H8 v0 v1 gb kb => ?_⟩
      obtain ⟨xs, l, pc, q, e1, e2, e3, e4, e5, e6⟩ := common 3 (.inr rfl) v H8 v0 v1 gb kb
      refine ⟨pA, xs, v, .ref l, rfl, rfl, SqL.of e1, e2, fA, l, _, _, rfl, rfl, e4, e3, e5, fun a na => ?_⟩
      obtain ⟨f1, f2, f3, f4, f5, f6, f7⟩ := e6 a na
      exact ⟨a, ls ++ pc, r + q, _, rfl, f4, f1, f2, f3, f5, f6, f7⟩
  · rintro σ H' ⟨fA, ls, r, oK, rfl, hfA, gd, hr7, hlen, g9, k9, pl⟩
    exact ⟨_, rfl, q fA H' ls r _ hfA gd (by omega) (by omega) g9 (by omega) k9⟩
end
end K01
set_option maxHeartbeats 2000000
/-! == and != of two tuples of the same items. -/
namespace Eo
open PySem PySem.Spec PyProof.Rows L2 Xc Dt
def rSameT (K : PySem.W.Frag) (r : Bool) : R2 := fun x y H Q => ∃ a b xs, x = .ref a ∧ y = .ref b ∧ SqT K H a xs ∧ SqT K H b xs ∧ (∀ v ∈ xs, Flat v) ∧ Q (.bl r) H
theorem all_true (n : Nat) : ((List.range n).all fun _ => true) = true := List.all_eq_true.mpr fun _ _ => rfl
theorem op_neSameT {X : Cx} (hu : X.A.units + 64 < cLine) : OpR X (compareOp .NotEq) (rSameT X.K false) := by
  intro pins s σ H x y v u Q I rx ry h
  obtain ⟨a, b, xs, rfl, rfl, ha, hb, hf, q⟩ := h
  cases rx
  cases ry
  obtain ⟨us, r1, p1, _⟩ := I.tuple ha
  obtain ⟨ws, r2, p2, _⟩ := I.tuple hb
  have hsz : us.toArray.size = ws.toArray.size := by rw [List.size_toArray, List.size_toArray, ← r1.length, ← r2.length]
  refine SeqAt.RcNeAt.tuples (e := fun _ => true) p1 p2 (show X.A.units < cLine by omega) (fun j h1 h2 => ?_) _ _ _ _ ?_
  · have k := items_same (A := X.A.in1) (s := s) hf r1 r2 j (by simpa using h1) (by simpa using h2)
    simpa using k
  · rw [all_true, hsz, beq_self_eq_true]
    exact ⟨.bl false, H, I, rfl, q⟩
theorem op_eqSameT {X : Cx} (hu : X.A.units + 64 < cLine) : OpR X (compareOp .Eq) (rSameT X.K true) := by
  intro pins s σ H x y v u Q I rx ry h
  obtain ⟨a, b, xs, rfl, rfl, ha, hb, hf, q⟩ := h
  cases rx
  cases ry
  obtain ⟨us, r1, p1, _⟩ := I.tuple ha
  obtain ⟨ws, r2, p2, _⟩ := I.tuple hb
  have hsz : us.toArray.size = ws.toArray.size := by rw [List.size_toArray, List.size_toArray, ← r1.length, ← r2.length]
  refine SeqAt.RcAt.tuples (e := fun _ => true) p1 p2 (show X.A.units < cLine by omega) (fun j h1 h2 => ?_) _ _ _ _ ?_
  · have k := items_same (A := X.A.in1) (s := s) hf r1 r2 j (by simpa using h1) (by simpa using h2)
    simpa using k
  · rw [all_true, hsz, beq_self_eq_true]
    exact ⟨.bl true, H, I, rfl, q⟩
end Eo
set_option maxHeartbeats 2000000
/-! a text times nought or one. -/
namespace Eo
open PySem PySem.Spec PyProof.Rows L2 Xc Dt
def rMul01 : R2 := fun x y H Q => ∃ (z : Str) (k : Bool), x = .str z ∧ y = .int (if k then 1 else 0) ∧ Q (.str (if k then z else "")) H
theorem op_mul01 {X : Cx} : OpR X (binaryOp .Mult) rMul01 := by
  intro pins s σ H x y v u Q I rx ry h
  obtain ⟨z, k, rfl, rfl, q⟩ := h
  obtain ⟨t, rfl⟩ := rx
  obtain ⟨t', rfl⟩ := ry
  cases k with
  | false =>
    exact P.mul_str_none (by decide) (by decide) ⟨.str "", H, I.tok _, ⟨s.toks, by first | rfl | decide +kernel⟩, q⟩
  | true =>
    refine P.mul_str (by decide) (fun _ h => ?_) (fun _ h => ?_) ?_
    · cases h
    · cases h
    · exact ⟨.str z, H, I.tok _, ⟨_, rfl⟩, q⟩
end Eo
set_option maxHeartbeats 2000000
namespace K01
open PySem PySem.Spec PyProof.Rows L2 Xc Dt Ln Eo
/-! ### closed texts of two faults -/
def fairB (l : Str) : Bool := decide (l.length + 2 ≤ 4000) && !(Txt.split l " ").isEmpty && decide ((Txt.split l " ").length ≤ 4000) && (Txt.split l " ").all fun w => decide (w.length ≤ 4000)
theorem fair_of {l : Str} (h : fairB l = true) : Fair l := by
  unfold fairB at h
  simp only [Bool.and_eq_true, decide_eq_true_eq, Bool.not_eq_true', List.isEmpty_eq_false_iff, List.all_eq_true] at h
  obtain ⟨⟨⟨h2, h3⟩, h4⟩, h5⟩ := h
  exact ⟨by rw [sizeLine_eq]; omega, h3, h4, h5⟩
/-- a text that is refused ahead of the limits -/
theorem textOk_bad {x : Str} (hz : x.length ≤ 4000) (h : (linesOf x).all fairB = true) (c : (match cifOf (readBlocks (linesOf x)) with
    | some m => decide (7 < m)
    | none => true) = true) : TextOk x := by
  refine textOk_gen (by rw [sizeLine_eq]; omega) (fun _ l hl => fair_of (List.all_eq_true.mp h l hl)) fun _ b hb hc => ?_
  rw [hb] at c
  have c : decide (7 < b.cif) = true := c
  have := of_decide_eq_true c
  omega
theorem textOk_many {x : Str} (hz : x.length ≤ 4000) (h : 60 < (linesOf x).length) : TextOk x :=
  textOk_gen (by rw [sizeLine_eq]; omega) (fun z => absurd z (by omega)) fun z => absurd z (by omega)
def ifsT : Str := Txt.join "\n" (List.replicate 8 pcI).flatten
def longT : Str := Txt.join "\n" (List.replicate 61 pc0).flatten
def fewT : Str := Txt.join "\n" (List.replicate 7 pcI).flatten
def xA : Str := longT ++ "\nPar = none"
def xB : Str := ifsT ++ "\nPar = none"
def xE : Str := "quit\n" ++ ifsT
def xF : Str := "if par is none\nquit\nelse\nquit\nend\n" ++ fewT
def xG : Str := "up at is none\nend\n" ++ ifsT
theorem joinL_snoc0 (y q : List Nat) : ∀ (p : List Nat) (r : List (List Nat)), TL.joinL y (p :: r ++ [q]) = TL.joinL y (p :: r) ++ (y ++ q)
  | p, [] => by simp [TL.joinL]
  | p, z :: r => by
    have ih := joinL_snoc0 y q z r
    have e1 : TL.joinL y (p :: (z :: r) ++ [q]) = p ++ (y ++ TL.joinL y (z :: r ++ [q])) := by simp [TL.joinL]
    have e2 : TL.joinL y (p :: z :: r) = p ++ (y ++ TL.joinL y (z :: r)) := by simp [TL.joinL]
    rw [e1, e2, ih]
    simp
theorem tl_inj0 {x y : Str} (h : TL.tl x = TL.tl y) : x = y := by
  cases x with
  | mk a =>
    cases y with
    | mk b =>
      have h : a.toList = b.toList := h
      rw [Array.toList_inj.mp h]
/-- one line more behind joined ones -/
theorem join_snoc0 (l q : Str) (r : List Str) : Txt.join "\n" (l :: r) ++ (("\n" : Str) ++ q) = Txt.join "\n" (l :: r ++ [q]) := by
  refine tl_inj0 ?_
  have a : ∀ x y : Str, TL.tl (x ++ y) = TL.tl x ++ TL.tl y := fun x y => TL.tl_append x y
  rw [a, a, TL.join_eq, TL.join_eq, TL.tl_join, TL.tl_join, List.map_append, List.map_cons]
  exact (joinL_snoc0 _ _ _ _).symm
theorem repl_cons (n : Nat) : (List.replicate (n + 1) pc0).flatten = ("par = none" : Str) :: (List.replicate n pc0).flatten := rfl
theorem repl_len : ∀ n : Nat, (List.replicate n pc0).flatten.length = n
  | 0 => rfl
  | n + 1 => by rw [repl_cons, List.length_cons, repl_len n]
theorem repl_one : ∀ n : Nat, ∀ l ∈ (List.replicate n pc0).flatten, l = "par = none"
  | 0, l, h => by cases h
  | n + 1, l, h => by
    rw [repl_cons] at h
    rcases List.mem_cons.mp h with h | h
    · exact h
    · exact repl_one n l h
theorem linesA : linesOf xA = (List.replicate 61 pc0).flatten ++ [("Par = none" : Str)] := by
  have e : ("\nPar = none" : Str) = ("\n" : Str) ++ ("Par = none" : Str) := by decide +kernel
  have e2 : xA = Txt.join "\n" ((List.replicate 61 pc0).flatten ++ [("Par = none" : Str)]) := by
    unfold xA longT
    rw [e, repl_cons 60, join_snoc0]
  rw [e2]
  refine lines_join fun l hl => ?_
  rcases List.mem_append.mp hl with h | h
  · rw [repl_one 61 l h]
    exact ⟨by decide +kernel, by decide +kernel⟩
  · rw [List.mem_singleton] at h
    rw [h]
    exact ⟨by decide +kernel, by decide +kernel⟩
theorem lenA : (linesOf xA).length = 62 := by rw [linesA, List.length_append, repl_len]; rfl
theorem okA : TextOk xA := textOk_many (by decide +kernel) (by rw [lenA]; decide)
theorem errB : errOf (readBlocks (linesOf xB)) = some 17 := by decide +kernel
theorem okB : TextOk xB := textOk_bad (by decide +kernel) (by decide +kernel) (by decide +kernel)
theorem okC : TextOk ifsT := textOk_bad (by decide +kernel) (by decide +kernel) (by decide +kernel)
theorem okE : TextOk xE := textOk_bad (by decide +kernel) (by decide +kernel) (by decide +kernel)
theorem okF : TextOk xF := textOk_bad (by decide +kernel) (by decide +kernel) (by decide +kernel)
theorem okG : TextOk xG := textOk_bad (by decide +kernel) (by decide +kernel) (by decide +kernel)
section
variable {k : Str} {u : Bool}
theorem resA : tRes k u xA = .lines 62 := by rw [tRes_lines (by rw [lenA]; decide), lenA]
theorem resB : tRes k u xB = .line 17 := tRes_err (by decide +kernel) errB
theorem resC : tRes k u ifsT = .ifs 8 := tRes_ifs (by decide +kernel) (by decide +kernel) (by decide)
theorem resE : tRes k u xE = .ifs 8 := tRes_ifs (by decide +kernel) (by decide +kernel) (by decide)
theorem resF : tRes k u xF = .ifs 8 := tRes_ifs (by decide +kernel) (by decide +kernel) (by decide)
theorem resG : tRes k u xG = .ifs 8 := tRes_ifs (by decide +kernel) (by decide +kernel) (by decide)
end
theorem good_rep {p : List Str} {r : Nat} (h : Good p r) : ∀ n : Nat, Good (List.replicate n p).flatten (n * r)
  | 0 => by rw [Nat.zero_mul]; exact Good.nil
  | n + 1 => by
    have t := h.app (good_rep h n)
    have e : (n + 1) * r = r + n * r := by rw [Nat.succ_mul, Nat.add_comm]
    rw [e]
    exact t
theorem goodF : Good (List.replicate 7 pcI).flatten 7 := good_rep goodI 7
theorem linF : linesOf fewT = (List.replicate 7 pcI).flatten := lines_join fun l hl => (goodF.one l hl).1
theorem okD : TextOk fewT := by
  obtain ⟨ts, p, c⟩ := goodF.chk
  exact textOk_plain (by decide +kernel) (by rw [linF]; exact p)
theorem resD {k : Str} {u : Bool} : ∃ b, tRes k u fewT = .made k u b := by
  obtain ⟨ts, p, c⟩ := goodF.chk
  exact (tRes_plain (by rw [linF]; decide +kernel) (by rw [linF]; exact p) c).2 (by decide)
end K01
set_option maxHeartbeats 2000000
namespace K01
open PySem PySem.Spec PyProof.Rows L2 Xc Dt Ln Eo
section
variable {P : Program} {w : World} {K : PySem.W.Frag} {mg : Str → Option Value} {base : Heap} {f : Addr} {fd : FuncData}
def spOR : Sp := fun vs H Q _ => ∃ (k x : Str), vs = [.str k, .str x] ∧ has kinds k = true ∧ ∀ H', Same H H' → Q (.bl true) H'
theorem cT {k x : Str} (h : has kinds k = true) : cRes (.str k) (.bl true) x = tRes k true x := cRes_ok h (by cases has kindsUp k <;> rfl)
theorem flat_all {xs : List V} (h : xs.all flatB = true) : ∀ v ∈ xs, Flat v := fun v hv => .inl (List.all_eq_true.mp h v hv)
theorem sc89 : FnScope ["kind", "text", "ifs", "long", "fewer", "ahead"] ["kind", "text"] (defScope (top 89)) := ⟨rfl, rfl, rfl, by decide +kernel, rfl, by decide +kernel, by decide +kernel⟩
theorem ok_order {gT : Addr} {dT : FuncData} (F : Fun K "_law_order_right" "_law_order_right" (top 89) f fd)
    (GT : FnOk P w K mg base CX0 129 gT dT ["kind", "text", "ups"] (spTold K)) (bGT : Binds K dT ["kind", "text", "ups"] []) (kGT : PySem.W.keepIn K (.ref gT) = true) (mGT : mg "_law_told" = some (.ref gT)) :
    FnOk P w K mg base CX0 130 f fd ["kind", "text"] spOR := by
  refine F.ok sc89 (fun vs H Q E h => ?_) (fun cdv A outer s H vs Q E hr h => ?_)
  · obtain ⟨k, x, rfl, _⟩ := h
    rfl
  obtain ⟨k, x, rfl, hk, q⟩ := h
  have hu : (A.deeper (envOfC "_law_order_right" (defScope (top 89)) s.heap.objs.size f cdv)).units + 64 < cLine := by have := hr.un; omega
  refine ⟨_, (pss_cons (ps_set (i := 2) sc89.nd rfl (.inl rfl) (pe_bm PySem.F.plainAttrs_str PySem.F.slot_str_join PySem.F.type_str_join mt_join pe_str (pa_cons (pe_op op_rep (pe_lst (pa_cons pe_str (pa_cons pe_str pa_nil))) pe_int) pa_nil)))
  (pss_cons (ps_set (i := 3) sc89.nd rfl (.inl rfl) (pe_bm PySem.F.plainAttrs_str PySem.F.slot_str_join PySem.F.type_str_join mt_join pe_str (pa_cons (pe_op op_rep (pe_lst (pa_cons pe_str pa_nil)) pe_int) pa_nil)))
  (pss_cons (ps_if (pt_cmpR (Eo.op_neSameT hu) (pe_call GT hr rfl mGT kGT bGT .nil pass0 (pa_cons (pv 0) (pa_cons (pe_op op_add_str (pv 3) pe_str) (pa_cons pe_bl pa_nil)))) (pe_tup (pa_cons pe_str (pa_cons pe_str (pa_cons pe_int (pa_cons pe_int pa_nil))))) (nomark _))
  (pss_one (ps_ret pe_bl))
  pss_nil)
  (pss_cons (ps_if (pt_cmpR (Eo.op_neSameT hu) (pe_call GT hr rfl mGT kGT bGT .nil pass0 (pa_cons (pv 0) (pa_cons (pe_op op_add_str (pv 2) pe_str) (pa_cons pe_bl pa_nil)))) (pe_tup (pa_cons pe_str (pa_cons pe_int pa_nil))) (nomark _))
  (pss_one (ps_ret pe_bl))
  pss_nil)
  (pss_cons (ps_if (pt_cmpR (Eo.op_neSameT hu) (pe_call GT hr rfl mGT kGT bGT .nil pass0 (pa_cons (pv 0) (pa_cons (pv 2) (pa_cons pe_bl pa_nil)))) (pe_tup (pa_cons pe_str (pa_cons pe_str (pa_cons pe_int (pa_cons pe_int pa_nil))))) (nomark _))
  (pss_one (ps_ret pe_bl))
  pss_nil)
  (pss_cons (ps_set (i := 4) sc89.nd rfl (.inl rfl) (pe_bm PySem.F.plainAttrs_str PySem.F.slot_str_join PySem.F.type_str_join mt_join pe_str (pa_cons (pe_op op_rep (pe_lst (pa_cons pe_str (pa_cons pe_str pa_nil))) pe_int) pa_nil)))
  (pss_cons (ps_if (pt_cmpR (Eo.op_neSameT hu) (pe_call GT hr rfl mGT kGT bGT .nil pass0 (pa_cons (pv 0) (pa_cons (pv 4) (pa_cons pe_bl pa_nil)))) (pe_tup (pa_cons pe_str (pa_cons (pv 0) (pa_cons pe_bl (pa_cons (pv 4) (pa_cons pe_int pa_nil)))))) (nomark _))
  (pss_one (ps_ret pe_bl))
  pss_nil)
  (pss_cons (ps_for PassesOwn.never rfl (pi_list (pe_lst (pa_cons (pe_op op_add_str pe_str (pv 2)) (pa_cons (pe_op op_add_str pe_str (pv 4)) pa_nil)))) (pg_name (i := 5) sc89.nd rfl (.inl rfl))
  (pss_one (ps_if (pt_cmpR (Eo.op_neSameT hu) (pe_call GT hr rfl mGT kGT bGT .nil pass0 (pa_cons (pv 0) (pa_cons (pv 5) (pa_cons pe_bl pa_nil)))) (pe_tup (pa_cons pe_str (pa_cons pe_str (pa_cons pe_int (pa_cons pe_int pa_nil))))) (nomark _))
    (pss_one (ps_ret pe_bl))
    pss_nil)))
  (pss_one (ps_ret (pe_cmpR (Eo.op_eqSameT hu) (pe_call GT hr rfl mGT kGT bGT .nil pass0 (pa_cons (pv 0) (pa_cons (pe_op op_add_str pe_str (pv 2)) (pa_cons pe_bl pa_nil)))) (pe_tup (pa_cons pe_str (pa_cons pe_str (pa_cons pe_int (pa_cons pe_int pa_nil))))) (nomark _)))))))))))), ?_⟩
  obtain ⟨t1, et1⟩ : ∃ t1, t1 = ifsT := ⟨_, rfl⟩
  obtain ⟨t2, et2⟩ : ∃ t2, t2 = longT := ⟨_, rfl⟩
  obtain ⟨t3, et3⟩ : ∃ t3, t3 = fewT := ⟨_, rfl⟩
  have z1 : t1.length ≤ 4000 := by rw [et1]; decide +kernel
  have z2 : t2.length ≤ 4000 := by rw [et2]; decide +kernel
  have z3 : t3.length ≤ 4000 := by rw [et3]; decide +kernel
  have cA : cRes (.str k) (.bl true) (t2 ++ "\nPar = none") = .lines 62 := by rw [et2]; exact (cT hk).trans resA
  have kA : TextOk (t2 ++ "\nPar = none") := by rw [et2]; exact okA
  have cB : cRes (.str k) (.bl true) (t1 ++ "\nPar = none") = .line 17 := by rw [et1]; exact (cT hk).trans resB
  have kB : TextOk (t1 ++ "\nPar = none") := by rw [et1]; exact okB
  have cC : cRes (.str k) (.bl true) t1 = .ifs 8 := by rw [et1]; exact (cT hk).trans resC
  have kC : TextOk t1 := by rw [et1]; exact okC
  have cD : ∃ b, cRes (.str k) (.bl true) t3 = .made k true b := by
    rw [et3]
    obtain ⟨b, hb⟩ := resD (k := k) (u := true)
    exact ⟨b, (cT hk).trans hb⟩
  have kD : TextOk t3 := by rw [et3]; exact okD
  have lD : (linesOf t3).length = 14 := by rw [et3, linF]; decide +kernel
  have cE : cRes (.str k) (.bl true) ("quit\n" ++ t1) = .ifs 8 := by rw [et1]; exact (cT hk).trans resE
  have kE : TextOk ("quit\n" ++ t1) := by rw [et1]; exact okE
  have cF : cRes (.str k) (.bl true) ("if par is none\nquit\nelse\nquit\nend\n" ++ t3) = .ifs 8 := by rw [et3]; exact (cT hk).trans resF
  have kF : TextOk ("if par is none\nquit\nelse\nquit\nend\n" ++ t3) := by rw [et3]; exact okF
  have cG : cRes (.str k) (.bl true) ("up at is none\nend\n" ++ t1) = .ifs 8 := by rw [et1]; exact (cT hk).trans resG
  have kG : TextOk ("up at is none\nend\n" ++ t1) := by rw [et1]; exact okG
  have l1 : ("\nPar = none" : Str).length = 11 := by decide +kernel
  have l2 : ("quit\n" : Str).length = 5 := by decide +kernel
  have l3 : ("if par is none\nquit\nelse\nquit\nend\n" : Str).length = 34 := by decide +kernel
  have l4 : ("up at is none\nend\n" : Str).length = 18 := by decide +kernel
  refine ⟨rfl, (by decide), fun l8 n8 => ⟨l8, 8, _, rfl, rfl, upd_same, by decide, by decide, by decide, fun p8 np8 => ?_⟩⟩
  have s8 : Same H (upd (upd H l8 (.lst [.str "if par is none", .str "end"])) p8 (.lst (((List.replicate 8 pcI).flatten).map V.str))) := fun y o ey => by
    rw [upd_ne (ne_of_none ((same_new n8 (.lst [.str "if par is none", .str "end"])) _ _ ey) np8), upd_ne (ne_of_none ey n8)]
    exact ey
  have m8 : (upd (upd H l8 (.lst [.str "if par is none", .str "end"])) p8 (.lst (((List.replicate 8 pcI).flatten).map V.str))) p8 = some (.lst (((List.replicate 8 pcI).flatten).map V.str)) := upd_same
  refine (show _ from ?_)
  generalize e8 : upd (upd H l8 (.lst [.str "if par is none", .str "end"])) p8 (.lst (((List.replicate 8 pcI).flatten).map V.str)) = H1 at s8 m8
  have e8' : upd (upd H l8 (.lst [.str "if par is none", .str "end"])) p8 (.lst (List.replicate ((8 : Int)).toNat [.str "if par is none", .str "end"]).flatten) = H1 := e8
  rw [e8']
  refine ⟨_, p8, (List.replicate 8 pcI).flatten, rfl, rfl, .inl (SqL.of m8), by decide +kernel, ?_⟩
  rw [show Txt.join "\n" (List.replicate 8 pcI).flatten = t1 from et1.symm]
  refine ⟨rfl, (by decide), fun l61 n61 => ⟨l61, 61, _, rfl, rfl, upd_same, by decide, by decide, by decide, fun p61 np61 => ?_⟩⟩
  have s61 : Same H1 (upd (upd H1 l61 (.lst [.str "par = none"])) p61 (.lst (((List.replicate 61 pc0).flatten).map V.str))) := fun y o ey => by
    rw [upd_ne (ne_of_none ((same_new n61 (.lst [.str "par = none"])) _ _ ey) np61), upd_ne (ne_of_none ey n61)]
    exact ey
  have m61 : (upd (upd H1 l61 (.lst [.str "par = none"])) p61 (.lst (((List.replicate 61 pc0).flatten).map V.str))) p61 = some (.lst (((List.replicate 61 pc0).flatten).map V.str)) := upd_same
  refine (show _ from ?_)
  generalize e61 : upd (upd H1 l61 (.lst [.str "par = none"])) p61 (.lst (((List.replicate 61 pc0).flatten).map V.str)) = H2 at s61 m61
  have e61' : upd (upd H1 l61 (.lst [.str "par = none"])) p61 (.lst (List.replicate ((61 : Int)).toNat [.str "par = none"]).flatten) = H2 := e61
  rw [e61']
  refine ⟨_, p61, (List.replicate 61 pc0).flatten, rfl, rfl, .inl (SqL.of m61), by decide +kernel, ?_⟩
  rw [show Txt.join "\n" (List.replicate 61 pc0).flatten = t2 from et2.symm]
  have s02 := s8.trans s61
  refine ⟨_, rfl, _, rfl, _, _, rfl, rfl, (by rw [l1, sizeLine_eq]; omega), .str k, _, .bl true, rfl, .inl ⟨k, rfl⟩, kA, fun aA JA haA rA => ?_⟩
  rw [cA] at haA
  refine ⟨by decide, fun bA nbA => ⟨aA, bA, _, rfl, rfl, SqT.of (same_new nbA _ _ _ haA), SqT.of upd_same, flat_all rfl, _, rfl, ?_⟩⟩
  have sbA := ((s02).trans rA).trans (same_new nbA (.tup [.str "many", .str "lines", .int 62, .int 60]))
  refine (show _ from ?_)
  generalize upd JA bA (.tup [.str "many", .str "lines", .int 62, .int 60]) = KA at sbA ⊢
  refine ifF rfl ?_
  refine ⟨_, rfl, _, rfl, _, _, rfl, rfl, (by rw [l1, sizeLine_eq]; omega), .str k, _, .bl true, rfl, .inl ⟨k, rfl⟩, kB, fun aB JB haB rB => ?_⟩
  rw [cB] at haB
  refine ⟨by decide, fun bB nbB => ⟨aB, bB, _, rfl, rfl, SqT.of (same_new nbB _ _ _ haB), SqT.of upd_same, flat_all rfl, _, rfl, ?_⟩⟩
  have sbB := ((sbA).trans rB).trans (same_new nbB (.tup [.str "line", .int 17]))
  refine (show _ from ?_)
  generalize upd JB bB (.tup [.str "line", .int 17]) = KB at sbB ⊢
  refine ifF rfl ?_
  refine ⟨_, rfl, _, rfl, .str k, _, .bl true, rfl, .inl ⟨k, rfl⟩, kC, fun aC JC haC rC => ?_⟩
  rw [cC] at haC
  refine ⟨by decide, fun bC nbC => ⟨aC, bC, _, rfl, rfl, SqT.of (same_new nbC _ _ _ haC), SqT.of upd_same, flat_all rfl, _, rfl, ?_⟩⟩
  have sbC := ((sbB).trans rC).trans (same_new nbC (.tup [.str "many", .str "ifs", .int 8, .int 7]))
  refine (show _ from ?_)
  generalize upd JC bC (.tup [.str "many", .str "ifs", .int 8, .int 7]) = KC at sbC ⊢
  refine ifF rfl ?_
  refine ⟨rfl, (by decide), fun l7 n7 => ⟨l7, 7, _, rfl, rfl, upd_same, by decide, by decide, by decide, fun p7 np7 => ?_⟩⟩
  have s7 : Same KC (upd (upd KC l7 (.lst [.str "if par is none", .str "end"])) p7 (.lst (((List.replicate 7 pcI).flatten).map V.str))) := fun y o ey => by
    rw [upd_ne (ne_of_none ((same_new n7 (.lst [.str "if par is none", .str "end"])) _ _ ey) np7), upd_ne (ne_of_none ey n7)]
    exact ey
  have m7 : (upd (upd KC l7 (.lst [.str "if par is none", .str "end"])) p7 (.lst (((List.replicate 7 pcI).flatten).map V.str))) p7 = some (.lst (((List.replicate 7 pcI).flatten).map V.str)) := upd_same
  refine (show _ from ?_)
  generalize e7 : upd (upd KC l7 (.lst [.str "if par is none", .str "end"])) p7 (.lst (((List.replicate 7 pcI).flatten).map V.str)) = H7 at s7 m7
  have e7' : upd (upd KC l7 (.lst [.str "if par is none", .str "end"])) p7 (.lst (List.replicate ((7 : Int)).toNat [.str "if par is none", .str "end"]).flatten) = H7 := e7
  rw [e7']
  refine ⟨_, p7, (List.replicate 7 pcI).flatten, rfl, rfl, .inl (SqL.of m7), by decide +kernel, ?_⟩
  rw [show Txt.join "\n" (List.replicate 7 pcI).flatten = t3 from et3.symm]
  have s07 := sbC.trans s7
  obtain ⟨bD, cD⟩ := cD
  refine ⟨_, rfl, _, rfl, .str k, _, .bl true, rfl, .inl ⟨k, rfl⟩, kD, fun aD JD haD rD => ?_⟩
  rw [cD] at haD
  have haD : JD aD = some (.tup [.str "made", .str k, .bl true, .str t3, .int 14]) := by
    rw [haD]
    show some (HO.tup [.str "made", .str k, .bl true, .str t3, .int (((linesOf t3).length : Nat) : Int)]) = _
    rw [lD]
    rfl
  refine ⟨_, rfl, _, rfl, (by show 5 ≤ sizeLine; decide), fun b nb => ⟨aD, b, _, rfl, rfl, SqT.of (same_new nb _ _ _ haD), SqT.of upd_same, flat_all rfl, _, rfl, ?_⟩⟩
  have sbD := (s07.trans rD).trans (same_new nb (.tup [.str "made", .str k, .bl true, .str t3, .int 14]))
  refine (show _ from ?_)
  generalize upd JD b (.tup [.str "made", .str k, .bl true, .str t3, .int 14]) = KD at sbD ⊢
  refine ifF rfl ?_
  refine ⟨_, rfl, _, _, rfl, rfl, (by rw [l2, sizeLine_eq]; omega), _, rfl, _, _, rfl, rfl, (by rw [l3, sizeLine_eq]; omega), (by show 2 ≤ sizeLine; decide), fun fa nfa => ?_⟩
  have sf := sbD.trans (same_new nfa (.lst [.str ("quit\n" ++ t1), .str ("if par is none\nquit\nelse\nquit\nend\n" ++ t3)]))
  have mf : (upd KD fa (.lst [.str ("quit\n" ++ t1), .str ("if par is none\nquit\nelse\nquit\nend\n" ++ t3)])) fa = some (.lst [.str ("quit\n" ++ t1), .str ("if par is none\nquit\nelse\nquit\nend\n" ++ t3)]) := upd_same
  refine (show _ from ?_)
  generalize upd KD fa (.lst [.str ("quit\n" ++ t1), .str ("if par is none\nquit\nelse\nquit\nend\n" ++ t3)]) = Kf at sf mf ⊢
  refine ⟨fa, rfl, ⟨_, SqL.of mf⟩, for_list (K := K) (a := fa) (xs := [.str ("quit\n" ++ t1), .str ("if par is none\nquit\nelse\nquit\nend\n" ++ t3)]) (fun i σ H' => ∃ v5, σ = [some (.str k), some (.str x), some (.str t1), some (.str t2), some (.str t3), v5] ∧ Same Kf H')
    ⟨none, rfl, Same.refl _⟩ (fun i σ H' _ h => by obtain ⟨_, _, z⟩ := h; exact SqL.of (z _ _ mf)) ?_ ?_⟩
  · rintro i y σ H' hi ⟨v5, rfl, sx⟩
    have hy : ∃ z, y = .str z ∧ TextOk z ∧ cRes (.str k) (.bl true) z = .ifs 8 := by
      rcases i with _ | _ | i
      · cases hi; exact ⟨_, rfl, kE, cE⟩
      · cases hi; exact ⟨_, rfl, kF, cF⟩
      · cases hi
    obtain ⟨z, rfl, kz, cz⟩ := hy
    refine ⟨_, rfl, _, rfl, .str k, z, .bl true, rfl, .inl ⟨k, rfl⟩, kz, fun a J ha r => ?_⟩
    rw [cz] at ha
    refine ⟨by decide, fun b nb => ⟨a, b, _, rfl, rfl, SqT.of (same_new nb _ _ _ ha), SqT.of upd_same, flat_all rfl, _, rfl, ?_⟩⟩
    exact ifF rfl ⟨_, rfl, (sx.trans r).trans (same_new nb _)⟩
  · rintro σ H' ⟨v5, rfl, sx⟩
    refine ⟨_, rfl, _, rfl, _, _, rfl, rfl, (by rw [l4, sizeLine_eq]; omega), .str k, _, .bl true, rfl, .inl ⟨k, rfl⟩, kG, fun a J ha r => ?_⟩
    rw [cG] at ha
    exact ⟨by decide, fun b nb => ⟨a, b, _, rfl, rfl, SqT.of (same_new nb _ _ _ ha), SqT.of upd_same, flat_all rfl, q _ (((sf.trans sx).trans r).trans (same_new nb _))⟩⟩
end
end K01
set_option maxHeartbeats 2000000
namespace K01
open PySem PySem.Spec PyProof.Rows L2 Xc Dt Ln Eo
theorem sum_le : ∀ {ls : List Str}, (∀ l ∈ ls, l.length ≤ 20) → (ls.map (·.length)).sum ≤ 20 * ls.length
  | [], _ => Nat.le_refl _
  | l :: ls, h => by
    have h1 := h l (List.mem_cons_self ..)
    have h2 := sum_le fun z hz => h z (List.mem_cons_of_mem l hz)
    rw [List.map_cons, List.sum_cons, List.length_cons]
    omega
theorem joinL_len (y : List Nat) : ∀ ps : List (List Nat), (TL.joinL y ps).length ≤ (ps.map List.length).sum + ps.length * y.length
  | [] => by simp [TL.joinL]
  | [p] => by simp [TL.joinL]
  | p :: q :: r => by
    have ih := joinL_len y (q :: r)
    have e : TL.joinL y (p :: q :: r) = p ++ (y ++ TL.joinL y (q :: r)) := by simp [TL.joinL]
    rw [e]
    simp only [List.length_append, List.map_cons, List.sum_cons, List.length_cons, Nat.add_mul, Nat.one_mul] at ih ⊢
    omega
theorem join_len {ls : List Str} (h : ∀ l ∈ ls, l.length ≤ 20) : (Txt.join "\n" ls).length ≤ 21 * ls.length := by
  have e : (Txt.join "\n" ls).length = (TL.joinL (TL.tl "\n") (ls.map TL.tl)).length := by
    rw [TL.join_eq, ← TL.tl_join]
    rfl
  have h2 := joinL_len (TL.tl "\n") (ls.map TL.tl)
  have e2 : ((ls.map TL.tl).map List.length).sum = (ls.map (·.length)).sum := by
    rw [List.map_map]
    rfl
  have e3 : (TL.tl ("\n" : Str)).length = 1 := by decide +kernel
  have h3 := sum_le h
  rw [e2, e3, List.length_map] at h2
  omega
/-- a text with the lines L, of a kind that all may have -/
structure Tx (x : Str) (L : List Str) (r : Nat) : Prop where
  lns : linesOf x = L
  ok : TextOk x
  len : x.length ≤ 1260
  plain : ∃ ts, Paired Plain L ts ∧ chk ts [] 0 = some r
theorem tx_of {L : List Str} {r : Nat} (h : Good L r) (hn : L.length ≤ 60) : Tx (Txt.join "\n" L) L r := by
  have e := lines_join fun l hl => (h.one l hl).1
  have z := join_len fun l hl => (h.one l hl).2
  obtain ⟨ts, p, c⟩ := h.chk
  exact ⟨e, textOk_plain (by rw [sizeLine_eq]; omega) (by rw [e]; exact p), by omega, ts, p, c⟩
theorem Tx.made {x : Str} {L : List Str} {r : Nat} (h : Tx x L r) (hn : L.length ≤ 60) (hr : r ≤ 7) {k : Str} {u : Bool} (hk : has kinds k = true) (hu : (has kindsUp k && !u) = false) : ∃ b, cRes (.str k) (.bl u) x = .made k u b := by
  obtain ⟨ts, p, c⟩ := h.plain
  rw [cRes_ok hk hu]
  exact (tRes_plain (by rw [h.lns]; exact hn) (by rw [h.lns]; exact p) c).2 hr
theorem joinL_snoc (y q : List Nat) : ∀ (p : List Nat) (r : List (List Nat)), TL.joinL y (p :: r ++ [q]) = TL.joinL y (p :: r) ++ (y ++ q)
  | p, [] => by simp [TL.joinL]
  | p, z :: r => by
    have ih := joinL_snoc y q z r
    have e1 : TL.joinL y (p :: (z :: r) ++ [q]) = p ++ (y ++ TL.joinL y (z :: r ++ [q])) := by simp [TL.joinL]
    have e2 : TL.joinL y (p :: z :: r) = p ++ (y ++ TL.joinL y (z :: r)) := by simp [TL.joinL]
    rw [e1, e2, ih]
    simp
theorem tl_inj {x y : Str} (h : TL.tl x = TL.tl y) : x = y := by
  cases x with
  | mk a =>
    cases y with
    | mk b =>
      have h : a.toList = b.toList := h
      rw [Array.toList_inj.mp h]
/-- the text with a quit behind it -/
theorem join_quit {L : List Str} (h : ∀ l ∈ L, OneL l) : (Txt.join "\n" L ++ if Txt.join "\n" L ≠ "" then ("\nquit" : Str) else "") ++ (if Txt.join "\n" L = "" then ("quit" : Str) else "") = Txt.join "\n" (L ++ pcQ) := by
  cases L with
  | nil => decide +kernel
  | cons l r =>
    have ne : Txt.join "\n" (l :: r) ≠ "" := fun z => by
      have e := lines_join h
      rw [z] at e
      cases e
    rw [if_pos ne, if_neg ne]
    refine tl_inj ?_
    have a : ∀ x y : Str, TL.tl (x ++ y) = TL.tl x ++ TL.tl y := fun x y => TL.tl_append x y
    rw [a, a, TL.join_eq, TL.join_eq, TL.tl_join, TL.tl_join, List.map_append, List.map_cons]
    show TL.joinL _ (TL.tl l :: r.map TL.tl) ++ TL.tl "\nquit" ++ TL.tl "" = TL.joinL _ (TL.tl l :: r.map TL.tl ++ [TL.tl "quit"])
    rw [joinL_snoc]
    have e1 : TL.tl ("\nquit" : Str) = TL.tl ("\n" : Str) ++ TL.tl ("quit" : Str) := by decide +kernel
    have e2 : TL.tl ("" : Str) = [] := by decide +kernel
    rw [e1, e2, List.append_nil]
/-- what is asked where a code is made of a text that is taken -/
theorem mk_code {K : PySem.W.Frag} {C CA Cr CK CU CL CF CM p dx : Addr} {k x : Str} {u : Bool} {bb : Rws} {H : Hp} {R : Hp → Prop} {E : XK} (e : cRes (.str k) (.bl u) x = .made k u bb) (hx : TextOk x) (np : H p = none) (nd : H dx = none) (q : ∀ H', Same H H' → Cd C k u x H' p → R H') :
    spCodeI K C CA Cr CK CU CL CF CM [.ref p, .str k, .str x, .bl u] (upd (upd H dx (.own p)) p (.ins C dx [])) (fun v H2 => v = .non ∧ R H2) E := by
  have s1 : Same H (upd (upd H dx (.own p)) p (.ins C dx [])) := fun y o ey => by rw [upd_ne (ne_of_none ey np), upd_ne (ne_of_none ey nd)]; exact ey
  refine ⟨p, dx, .str k, x, .bl u, rfl, upd_same, .inl ⟨k, rfl⟩, hx, ?_⟩
  rw [e]
  intro H' hc kp
  exact ⟨rfl, q H' (fun y o ey => kp y o (s1 _ _ ey) (ne_of_none ey np)) hc.cd⟩
end K01
set_option maxHeartbeats 2000000
namespace K01
open PySem PySem.Spec PyProof.Rows L2 Xc Dt Ln Eo
/-! ### the long text of 59 to 62 lines -/
def longL (n : Nat) : List Str := (List.replicate n pc0).flatten
theorem longL_len : ∀ n, (longL n).length = n
  | 0 => rfl
  | n + 1 => by
    show (pc0 ++ longL n).length = n + 1
    rw [List.length_append, longL_len n]
    show 1 + n = n + 1
    omega
theorem longL_good (n : Nat) : Good (longL n) 0 := by
  have := good_rep good0 n
  rw [Nat.mul_zero] at this
  exact this
theorem longL_map : ∀ n, (List.replicate n [V.str "par = none"]).flatten = (longL n).map V.str
  | 0 => rfl
  | n + 1 => by
    show [V.str "par = none"] ++ (List.replicate n [V.str "par = none"]).flatten = (pc0 ++ longL n).map V.str
    rw [longL_map n, List.map_append]
    rfl
structure Lg (y : Str) (n : Nat) : Prop where
  lns : linesOf y = longL n
  split : Txt.split y "\n" = longL n
  ok : TextOk y
  len : y.length ≤ 2000
theorem lg_of {n : Nat} (h0 : 0 < n) (hn : n ≤ 62) : Lg (Txt.join "\n" (longL n)) n := by
  have g := longL_good n
  have l := longL_len n
  have e := lines_join fun z hz => (g.one z hz).1
  have z := join_len fun z hz => (g.one z hz).2
  obtain ⟨ts, p, c⟩ := g.chk
  refine ⟨e, TL.split_join (y := "\n") (s := 10) (S := []) (by decide +kernel) (by decide +kernel) (fun z => by rw [z] at l; simp at l; omega) fun p hp => (g.one p hp).1.1, textOk_plain (by rw [sizeLine_eq]; omega) (by rw [e]; exact p), by omega⟩
/-- what is told of the long text -/
theorem Lg.res {y : Str} {n : Nat} (h : Lg y n) {k : Str} {u : Bool} (hk : has kinds k = true) (hu : (has kindsUp k && !u) = false) :
    toldV (.str k) (.bl u) y (cRes (.str k) (.bl u) y) = if 60 < n then [.str "many", .str "lines", .int (n : Nat), .int 60] else [.str "made", .str k, .bl u, .str y, .int (n : Nat)] := by
  have l := longL_len n
  rw [cRes_ok hk hu]
  split
  · rw [tRes_lines (by rw [h.lns, l]; assumption), h.lns, l]
    rfl
  · obtain ⟨ts, p, c⟩ := (longL_good n).chk
    obtain ⟨b, hb⟩ := (tRes_plain (k := k) (u := u) (by rw [h.lns, l]; omega) (by rw [h.lns]; exact p) c).2 (by decide)
    rw [hb]
    show [V.str "made", .str k, .bl u, .str y, .int (((linesOf y).length : Nat) : Int)] = _
    rw [h.lns, l]
theorem okGo : TextOk "Go" := textOk_bad (by decide +kernel) (by decide +kernel) (by decide +kernel)
theorem tx_empty : Tx "" [] 0 := tx_of Good.nil (by decide)
theorem res_odd {v uv : V} {x : Str} (h : ∀ uv, ckRes v uv = 1) : cRes v uv x = .kind := by
  unfold cRes
  rw [h]
  rfl
theorem res_wide {k : Str} {v : V} {x : Str} (h : ckRes (.str k) v = 2) : cRes (.str k) v x = .ups := by
  unfold cRes
  rw [h]
  rfl
end K01
set_option maxHeartbeats 2000000
namespace K01
open PySem PySem.Spec PyProof.Rows L2 Xc Dt Ln Eo
/-- a def of the module, by its name -/
structure Has (P : Program) (w : World) (K : PySem.W.Frag) (mg : Str → Option Value) (base : Heap) (CX : CXT) (n : Nat) (x : Str) (ps : List Str) (sp : Sp) (g : Addr) (d : FuncData) : Prop where
  ok : FnOk P w K mg base CX n g d ps sp
  b : Binds K d ps []
  k : PySem.W.keepIn K (.ref g) = true
  m : mg x = some (.ref g)
/-- all that law calls -/
structure Fz (P : Program) (w : World) (K : PySem.W.Frag) (mg : Str → Option Value) (base : Heap) (C CA Cr CK CU CL CF CM gBg gDr gLs gTo gOr gI gL gG gE : Addr) (dBg dDr dLs dTo dOr dI dL dG dE : FuncData) : Prop where
  bag : Has P w K mg base CX0 1 "_law_bag" ["script"] (spBag K) gBg dBg
  draw : Has P w K mg base CX0 1 "_law_draw" ["bag", "limit"] spDraw gDr dDr
  lines : Has P w K mg base CX0 2 "_law_lines" ["bag"] spLL gLs dLs
  told : Has P w K mg base CX0 129 "_law_told" ["kind", "text", "ups"] (spTold K) gTo dTo
  order : Has P w K mg base CX0 130 "_law_order_right" ["kind", "text"] spOR gOr dOr
  code : CodC K mg C gI gL gG gE
  init : FnOk P w K mg base (L2.CX P w) 127 gI dI ["self", "kind", "text", "ups"] (spCodeI K C CA Cr CK CU CL CF CM)
  b3 : Binds K dI ["self", "kind", "text", "ups"] []
  b2 : Binds K dI ["self", "kind", "text", "ups"] [.bool true]
  len : FnOk P w K mg base CX0 1 gL dL ["self"] (spLenC C)
  bL : Binds K dL ["self"] []
  get : FnOk P w K mg base CX0 1 gG dG ["self", "at"] (spGetC C)
  bG : Binds K dG ["self", "at"] []
  eq : FnOk P w K mg base CX0 1 gE dE ["self", "other"] (spEqC C)
  bE : Binds K dE ["self", "other"] []
  nm : Nm mg
  range : mg "range" = none
section
variable {P : Program} {w : World} {K : PySem.W.Frag} {mg : Str → Option Value} {base : Heap} {f : Addr} {fd : FuncData}
abbrev lawKinds : List Str := ["find", "after", "first", "put", "drop", "next", "take", "leave"]
/-- the law's three lists of values -/
structure Lits (b kA oA wA : Addr) (H : Hp) : Prop where
  at_ : ∃ l5 t6 d7 l4 t7 d8 : Addr, H kA = some (.lst (lawKinds.map V.str)) ∧ H oA = some (.lst [.str "Find", .str "", .str "set", .int 5, .non, .ref l5, .ref t6, .ref d7, .bl true]) ∧
    H wA = some (.lst [.int 1, .int 0, .non, .str "True", .ref l4, .int (10 ^ 30), .ref t7, .ref d8]) ∧ H l5 = some (.lst [.str "put"]) ∧ H t6 = some (.tup [.str "put"]) ∧ H d7 = some (.dK [(.inr "put", .int 1)]) ∧ d7 ≠ b
theorem Lits.keep {b kA oA wA : Addr} {H H' : Hp} (h : Lits b kA oA wA H) {kvs : List (Key × V)} (hb : H b = some (.dK kvs)) (k : Kept b H H') : Lits b kA oA wA H' := by
  obtain ⟨l5, t6, d7, l4, t7, d8, h1, h2, h3, h4, h5, h6, h7⟩ := h.at_
  have nl : ∀ {l : Addr} {xs : List V}, H l = some (.lst xs) → H' l = some (.lst xs) := fun e => k _ _ e fun z => by rw [z, hb] at e; cases e
  have nt : ∀ {l : Addr} {xs : List V}, H l = some (.tup xs) → H' l = some (.tup xs) := fun e => k _ _ e fun z => by rw [z, hb] at e; cases e
  exact ⟨l5, t6, d7, l4, t7, d8, nl h1, nl h2, nl h3, nl h4, nt h5, k _ _ h6 h7, h7⟩
theorem Lits.same {b kA oA wA : Addr} {H H' : Hp} (h : Lits b kA oA wA H) (s : Same H H') : Lits b kA oA wA H' := by
  obtain ⟨l5, t6, d7, l4, t7, d8, h1, h2, h3, h4, h5, h6, h7⟩ := h.at_
  exact ⟨l5, t6, d7, l4, t7, d8, s _ _ h1, s _ _ h2, s _ _ h3, s _ _ h4, s _ _ h5, s _ _ h6, h7⟩
/-- a value that is no kind -/
structure Odd (K : PySem.W.Frag) (H : Hp) (v : V) : Prop where
  kv : KindV K H v
  ck : ∀ uv, ckRes v uv = 1
  fl : Flat v
theorem Lits.odd {K : PySem.W.Frag} {b kA oA wA : Addr} {H : Hp} (h : Lits b kA oA wA H) {i : Int} (h0 : 0 ≤ i) (h9 : i < 9) : ∃ xs v, H oA = some (.lst xs) ∧ atI xs i = some v ∧ Odd K H v := by
  obtain ⟨l5, t6, d7, l4, t7, d8, h1, h2, h3, h4, h5, h6, h7⟩ := h.at_
  have st : ∀ {z : Str}, has kinds z = false → Odd K H (.str z) := fun e => ⟨.inl ⟨_, rfl⟩, fun uv => ck_bad e, .inl rfl⟩
  have ot : ∀ {v : V} {T : String}, TyB K H v T → Ty.TyP T → T ≠ "str" → (∀ z, v ≠ .str z) → Flat v → Odd K H v := fun {v} {T} a b c e d => ⟨.inr ⟨T, a, b, c⟩, fun uv => by
    unfold ckRes
    cases v with
    | str z => exact absurd rfl (e z)
    | _ => rfl, d⟩
  have c : i = 0 ∨ i = 1 ∨ i = 2 ∨ i = 3 ∨ i = 4 ∨ i = 5 ∨ i = 6 ∨ i = 7 ∨ i = 8 := by omega
  rcases c with rfl | rfl | rfl | rfl | rfl | rfl | rfl | rfl | rfl
  · exact ⟨_, _, h2, rfl, st (by decide +kernel)⟩
  · exact ⟨_, _, h2, rfl, st (by decide +kernel)⟩
  · exact ⟨_, _, h2, rfl, st (by decide +kernel)⟩
  · exact ⟨_, _, h2, rfl, ot (.int 5) Ty.typ_int (by decide) (fun z e => by cases e) (.inl rfl)⟩
  · exact ⟨_, _, h2, rfl, ot .non Ty.typ_none (by decide) (fun z e => by cases e) (.inl rfl)⟩
  · exact ⟨_, _, h2, rfl, ot (.lst (SqL.of h4)) Ty.typ_list (by decide) (fun z e => by cases e) (.inr ⟨_, rfl⟩)⟩
  · exact ⟨_, _, h2, rfl, ot (.tup (SqT.of h5)) Ty.typ_tuple (by decide) (fun z e => by cases e) (.inr ⟨_, rfl⟩)⟩
  · exact ⟨_, _, h2, rfl, ot (.dK h6) Ty.typ_dict (by decide) (fun z e => by cases e) (.inr ⟨_, rfl⟩)⟩
  · exact ⟨_, _, h2, rfl, ot (.bl true) Ty.typ_bool (by decide) (fun z e => by cases e) (.inl rfl)⟩
/-- a value that is no truth value -/
structure Wid (v : V) : Prop where
  ck : ∀ k, has kinds k = true → ckRes (.str k) v = 2
  fl : Flat v
theorem Lits.wide {b kA oA wA : Addr} {H : Hp} (h : Lits b kA oA wA H) {i : Int} (h0 : 0 ≤ i) (h8 : i < 8) : ∃ xs v, H wA = some (.lst xs) ∧ atI xs i = some v ∧ Wid v := by
  obtain ⟨l5, t6, d7, l4, t7, d8, h1, h2, h3, h4, h5, h6, h7⟩ := h.at_
  have ot : ∀ {v : V}, (∀ b, v ≠ .bl b) → Flat v → Wid v := fun e f => ⟨fun k hk => ck_not hk e, f⟩
  have c : i = 0 ∨ i = 1 ∨ i = 2 ∨ i = 3 ∨ i = 4 ∨ i = 5 ∨ i = 6 ∨ i = 7 := by omega
  rcases c with rfl | rfl | rfl | rfl | rfl | rfl | rfl | rfl
  · exact ⟨_, _, h3, rfl, ot (fun z e => by cases e) (.inl rfl)⟩
  · exact ⟨_, _, h3, rfl, ot (fun z e => by cases e) (.inl rfl)⟩
  · exact ⟨_, _, h3, rfl, ot (fun z e => by cases e) (.inl rfl)⟩
  · exact ⟨_, _, h3, rfl, ot (fun z e => by cases e) (.inl rfl)⟩
  · exact ⟨_, _, h3, rfl, ot (fun z e => by cases e) (.inr ⟨_, rfl⟩)⟩
  · exact ⟨_, _, h3, rfl, ot (fun z e => by cases e) (.inl rfl)⟩
  · exact ⟨_, _, h3, rfl, ot (fun z e => by cases e) (.inr ⟨_, rfl⟩)⟩
  · exact ⟨_, _, h3, rfl, ot (fun z e => by cases e) (.inr ⟨_, rfl⟩)⟩
theorem Lits.kind {b kA oA wA : Addr} {H : Hp} (h : Lits b kA oA wA H) {i : Int} (h0 : 0 ≤ i) (h8 : i < 8) : ∃ xs k, H kA = some (.lst xs) ∧ atI xs i = some (.str k) ∧ has kinds k = true := by
  obtain ⟨l5, t6, d7, l4, t7, d8, h1, h2, h3, h4, h5, h6, h7⟩ := h.at_
  have c : i = 0 ∨ i = 1 ∨ i = 2 ∨ i = 3 ∨ i = 4 ∨ i = 5 ∨ i = 6 ∨ i = 7 := by omega
  rcases c with rfl | rfl | rfl | rfl | rfl | rfl | rfl | rfl
  · exact ⟨_, _, h1, rfl, by decide +kernel⟩
  · exact ⟨_, _, h1, rfl, by decide +kernel⟩
  · exact ⟨_, _, h1, rfl, by decide +kernel⟩
  · exact ⟨_, _, h1, rfl, by decide +kernel⟩
  · exact ⟨_, _, h1, rfl, by decide +kernel⟩
  · exact ⟨_, _, h1, rfl, by decide +kernel⟩
  · exact ⟨_, _, h1, rfl, by decide +kernel⟩
  · exact ⟨_, _, h1, rfl, by decide +kernel⟩
def spLaw (K : PySem.W.Frag) : Sp := fun vs H Q _ => ∃ (a : Addr) (ns : List Int), vs = [.ref a] ∧ SqL K H a (ns.map V.int) ∧ ∀ H', Q (.bl true) H'
theorem sc90 : FnScope ["script", "bag", "kinds", "odd", "wide", "kind", "lines", "ups", "text", "code", "k", "wrong", "no_ups", "long", "many", "due"] ["script"] (defScope (top 90)) := ⟨rfl, rfl, rfl, by decide +kernel, rfl, by decide +kernel, by decide +kernel⟩
theorem ok_law {C CA Cr CK CU CL CF CM gBg gDr gLs gTo gOr gI gL gG gE : Addr} {dBg dDr dLs dTo dOr dI dL dG dE : FuncData} (F : Fun K "law" "law" (top 90) f fd) (Z : Fz P w K mg base C CA Cr CK CU CL CF CM gBg gDr gLs gTo gOr gI gL gG gE dBg dDr dLs dTo dOr dI dL dG dE) :
    FnOk P w K mg base CX0 131 f fd ["script"] (spLaw K) := by
  refine F.ok sc90 (fun vs H Q E h => ?_) (fun cdv A outer s H vs Q E hr h => ?_)
  · obtain ⟨a, ns, rfl, _⟩ := h
    rfl
  obtain ⟨a, ns, rfl, hS, q⟩ := h
  have hu : (A.deeper (envOfC "law" (defScope (top 90)) s.heap.objs.size f cdv)).units + 64 < cLine := by have := hr.un; omega
  have rm : ∀ {k : Nat}, k ≤ 130 → Room k (A.deeper (envOfC "law" (defScope (top 90)) s.heap.objs.size f cdv)) := fun h => hr.mono h
  have N := Z.nm
  have mR := Z.range
  obtain ⟨FB, bFB, kFB, mFB⟩ := Z.bag
  obtain ⟨FD, bFD, kFD, mFD⟩ := Z.draw
  obtain ⟨FL, bFL, kFL, mFL⟩ := Z.lines
  obtain ⟨FT, bFT, kFT, mFT⟩ := Z.told
  obtain ⟨FO, bFO, kFO, mFO⟩ := Z.order
  have T := Z.code
  refine ⟨_, (pss_cons (ps_set (i := 1) sc90.nd rfl (.inl rfl) (pe_call FB (rm (k := 1) (by decide)) rfl mFB kFB bFB .nil pass0 (pa_cons (pv 0) pa_nil)))
  (pss_cons (ps_set (i := 2) sc90.nd rfl (.inl rfl) (pe_lst (pa_cons pe_str (pa_cons pe_str (pa_cons pe_str (pa_cons pe_str (pa_cons pe_str (pa_cons pe_str (pa_cons pe_str (pa_cons pe_str pa_nil))))))))))
  (pss_cons (ps_set (i := 3) sc90.nd rfl (.inl rfl) (pe_lst (pa_cons pe_str (pa_cons pe_str (pa_cons pe_str (pa_cons pe_int (pa_cons pe_non (pa_cons (pe_lst (pa_cons pe_str pa_nil)) (pa_cons (pe_tup (pa_cons pe_str pa_nil)) (pa_cons (pe_disp (pps_cons pe_str pe_int pps_nil) (by rfl) (by rfl) (fun z => by cases z) (by decide)) (pa_cons pe_bl pa_nil)))))))))))
  (pss_cons (ps_set (i := 4) sc90.nd rfl (.inl rfl) (pe_lst (pa_cons pe_int (pa_cons pe_int (pa_cons pe_non (pa_cons pe_str (pa_cons (pe_lst pa_nil) (pa_cons (pe_op op_pow pe_int pe_int) (pa_cons (pe_tup (pa_cons pe_bl pa_nil)) (pa_cons (pe_disp (pps_cons pe_str pe_bl pps_nil) (by rfl) (by rfl) (fun z => by cases z) (by decide)) pa_nil))))))))))
  (pss_cons (ps_par (i := 5) (j := 6) rfl sc90.nd rfl rfl (by decide) rfl rfl (pa_cons (pe_ix (show IxR _ (rIxL K) from ix_list) (pv 2) (pe_call FD (rm (k := 1) (by decide)) rfl mFD kFD bFD .nil pass0 (pa_cons (pv 1) (pa_cons pe_int pa_nil))) (fun _ _ => rfl)) (pa_cons (pe_call FL (rm (k := 2) (by decide)) rfl mFL kFL bFL .nil pass0 (pa_cons (pv 1) pa_nil)) pa_nil)) (by rfl))
  (C8.pss_cut (ps_set (i := 7) sc90.nd rfl (.inl rfl) (pe_or (pe_cmpR (show OpR _ _ (rIn K false) from op_in_seq) (pv 5) (pe_lst (pa_cons pe_str (pa_cons pe_str (pa_cons pe_str pa_nil)))) (by rfl)) (pe_one (pe_cmpR op_eq (pe_call FD (rm (k := 1) (by decide)) rfl mFD kFD bFD .nil pass0 (pa_cons (pv 1) (pa_cons pe_int pa_nil))) pe_int (nomark _)))))
  (pss_cons (ps_set (i := 8) sc90.nd rfl (.inl rfl) (pe_bm PySem.F.plainAttrs_str PySem.F.slot_str_join PySem.F.type_str_join mt_join pe_str (pa_cons (pv 6) pa_nil)))
  (pss_cons (ps_if (pt_cmpR (Eo.op_neSameT hu) (pe_call FT (rm (k := 129) (by decide)) rfl mFT kFT bFT .nil pass0 (pa_cons (pv 5) (pa_cons (pv 8) (pa_cons (pv 7) pa_nil)))) (pe_tup (pa_cons pe_str (pa_cons (pv 5) (pa_cons (pv 7) (pa_cons (pv 8) (pa_cons (pe_callB call_len_seq (by rfl) N.len PySem.boot_len (pa_cons (pv 6) pa_nil)) pa_nil)))))) (nomark _))
  (pss_one (ps_ret pe_bl))
  pss_nil)
  (pss_cons (ps_set (i := 9) sc90.nd rfl (.inl rfl) (pe_make T.made Z.init (rm (k := 128) (by decide)) rfl T.mgC Z.b3 .nil (passes_call takes0 (fun _ _ _ _ z => z)) (pa_cons (pv 5) (pa_cons (pv 8) (pa_cons (pv 7) pa_nil)))))
  (pss_cons (ps_for PassesOwn.never rfl (pi_range1 rfl mR (pa_cons (pe_callB call_len_seq (by rfl) N.len PySem.boot_len (pa_cons (pv 6) pa_nil)) pa_nil)) (pg_name (i := 10) sc90.nd rfl (.inl rfl))
  (pss_one (ps_if (pt_cmpR op_ne (Oe.pe_ixOwn T.get T.getF T.getN Z.get (rm (k := 2) (by decide)) Z.bG (pv 9) (pe_op op_add (pv 10) pe_int)) (pe_ix (show IxR _ (rIxL K) from ix_list) (pv 6) (pv 10) (fun _ _ => rfl)) (nomark _))
    (pss_one (ps_ret pe_bl))
    pss_nil)))
  (pss_cons (ps_if (pt_cmpR (Oe.op_eqOwn T.own Z.eq (rm (k := 1) (by decide)) Z.bE) (pe_make T.made Z.init (rm (k := 128) (by decide)) rfl T.mgC Z.b3 .nil (passes_call takes0 (fun _ _ _ _ z => z)) (pa_cons pe_str (pa_cons (pv 8) (pa_cons (pv 7) pa_nil)))) (pe_make T.made Z.init (rm (k := 128) (by decide)) rfl T.mgC Z.b3 .nil (passes_call takes0 (fun _ _ _ _ z => z)) (pa_cons pe_str (pa_cons (pv 8) (pa_cons (pv 7) pa_nil)))) (nomark _))
  (pss_one (ps_ret pe_bl))
  pss_nil)
  (pss_cons (ps_if (PW.pt (pw_or (pt_cmpR (Oe.op_eqOwn T.own Z.eq (rm (k := 1) (by decide)) Z.bE) (pv 9) (pv 8) (nomark _)) (pw_or (pt_cmpR (Oe.op_neOwn T.own Z.eq (rm (k := 2) (by decide)) Z.bE) (pv 9) (pe_make T.made Z.init (rm (k := 128) (by decide)) rfl T.mgC Z.b3 .nil (passes_call takes0 (fun _ _ _ _ z => z)) (pa_cons (pv 5) (pa_cons (pe_bm PySem.F.plainAttrs_str PySem.F.slot_str_join PySem.F.type_str_join mt_join pe_str (pa_cons (pe_callTy call_list_of (by rfl) N.list (by decide +kernel) (pa_cons (pv 6) pa_nil)) pa_nil)) (pa_cons (pv 7) pa_nil)))) (nomark _)) (pw_or1 (pt_cmpR op_ne (pe_cmpR (Oe.op_eqOwn T.own Z.eq (rm (k := 1) (by decide)) Z.bE) (pe_make T.made Z.init (rm (k := 128) (by decide)) rfl T.mgC Z.b2 (.cons rfl .nil : Vals [V.bl true] [Value.bool true]) (passes_call takes0 (fun _ _ _ _ z => z)) (pa_cons (pv 5) (pa_cons (pv 8) pa_nil))) (pv 9) (nomark _)) (pv 7) (nomark _))))))
  (pss_one (ps_ret pe_bl))
  pss_nil)
  (pss_cons (ps_if (pt_cmpR (Oe.op_eqOwn T.own Z.eq (rm (k := 1) (by decide)) Z.bE) (pv 9) (pe_make T.made Z.init (rm (k := 128) (by decide)) rfl T.mgC Z.b3 .nil (passes_call takes0 (fun _ _ _ _ z => z)) (pa_cons (pv 5) (pa_cons (pe_op op_add_str (pe_op op_add_str (pv 8) (pe_op Eo.op_mul01 pe_str (pe_callTy call_int1 (by rfl) N.int (by decide +kernel) (pa_cons (pe_cmpR op_ne (pv 8) pe_str (nomark _)) pa_nil)))) (pe_op Eo.op_mul01 pe_str (pe_callTy call_int1 (by rfl) N.int (by decide +kernel) (pa_cons (pe_cmpR op_eq (pv 8) pe_str (nomark _)) pa_nil)))) (pa_cons (pv 7) pa_nil)))) (nomark _))
  (pss_one (ps_ret pe_bl))
  pss_nil)
  (pss_cons (ps_par (i := 11) (j := 12) rfl sc90.nd rfl rfl (by decide) rfl rfl (pa_cons (pe_ix (show IxR _ (rIxL K) from ix_list) (pv 3) (pe_call FD (rm (k := 1) (by decide)) rfl mFD kFD bFD .nil pass0 (pa_cons (pv 1) (pa_cons pe_int pa_nil))) (fun _ _ => rfl)) (pa_cons (pe_ix (show IxR _ (rIxL K) from ix_list) (pv 4) (pe_call FD (rm (k := 1) (by decide)) rfl mFD kFD bFD .nil pass0 (pa_cons (pv 1) (pa_cons pe_int pa_nil))) (fun _ _ => rfl)) pa_nil)) (by rfl))
  (pss_cons (ps_set (i := 13) sc90.nd rfl (.inl rfl) (pe_bm PySem.F.plainAttrs_str PySem.F.slot_str_join PySem.F.type_str_join mt_join pe_str (pa_cons (pe_op op_rep (pe_lst (pa_cons pe_str pa_nil)) (pe_op op_add pe_int (pe_call FD (rm (k := 1) (by decide)) rfl mFD kFD bFD .nil pass0 (pa_cons (pv 1) (pa_cons pe_int pa_nil))))) pa_nil)))
  (pss_cons (ps_set (i := 14) sc90.nd rfl (.inl rfl) (pe_callB call_len_seq (by rfl) N.len PySem.boot_len (pa_cons (pe_bm PySem.F.plainAttrs_str PySem.F.slot_str_split PySem.F.type_str_split mt_split (pv 13) (pa_cons pe_str pa_nil)) pa_nil)))
  (C8.pss_cut (ps_set (i := 15) sc90.nd rfl (.inl rfl) (pe_ifExp (pt_cmpR op_gt (pv 14) pe_int (nomark _)) (pe_tup (pa_cons pe_str (pa_cons pe_str (pa_cons (pv 14) (pa_cons pe_int pa_nil))))) (pe_tup (pa_cons pe_str (pa_cons (pv 5) (pa_cons (pv 7) (pa_cons (pv 13) (pa_cons (pv 14) pa_nil))))))))
  (pss_cons (ps_if (PW.pt (pw_or (pt_cmpR (Eo.op_neSameT hu) (pe_call FT (rm (k := 129) (by decide)) rfl mFT kFT bFT .nil pass0 (pa_cons (pv 5) (pa_cons (pv 13) (pa_cons (pv 7) pa_nil)))) (pv 15) (nomark _)) (pw_or1 (pt_cmpR (Eo.op_neSameT hu) (pe_call FT (rm (k := 129) (by decide)) rfl mFT kFT bFT .nil pass0 (pa_cons (pv 11) (pa_cons (pv 13) (pa_cons (pv 12) pa_nil)))) (pe_tup (pa_cons pe_str (pa_cons (pv 11) pa_nil))) (nomark _)))))
  (pss_one (ps_ret pe_bl))
  pss_nil)
  (pss_cons (ps_if (PW.pt (pw_or (pt_cmpR (Eo.op_neSameT hu) (pe_call FT (rm (k := 129) (by decide)) rfl mFT kFT bFT .nil pass0 (pa_cons (pv 11) (pa_cons pe_str (pa_cons (pv 12) pa_nil)))) (pe_tup (pa_cons pe_str (pa_cons (pv 11) pa_nil))) (nomark _)) (pw_or1 (pt_cmpR (Eo.op_neSameT hu) (pe_call FT (rm (k := 129) (by decide)) rfl mFT kFT bFT .nil pass0 (pa_cons (pv 5) (pa_cons pe_str (pa_cons (pv 12) pa_nil)))) (pe_tup (pa_cons pe_str (pa_cons (pv 12) pa_nil))) (nomark _)))))
  (pss_one (ps_ret pe_bl))
  pss_nil)
  (pss_cons (ps_if (PW.pt (pw_or (pt_cmpR (Eo.op_neSameT hu) (pe_call FT (rm (k := 129) (by decide)) rfl mFT kFT bFT .nil pass0 (pa_cons (pv 5) (pa_cons (pv 13) (pa_cons (pv 12) pa_nil)))) (pe_tup (pa_cons pe_str (pa_cons (pv 12) pa_nil))) (nomark _)) (pw_or1 (pt_cmpR op_ne (pe_callB (Oe.call_lenOwn T.len T.lenF Z.len (rm (k := 2) (by decide)) Z.bL) (by rfl) N.len PySem.boot_len (pa_cons (pe_make T.made Z.init (rm (k := 128) (by decide)) rfl T.mgC Z.b3 .nil (passes_call takes0 (fun _ _ _ _ z => z)) (pa_cons (pv 5) (pa_cons pe_str (pa_cons (pv 7) pa_nil)))) pa_nil)) pe_int (nomark _)))))
  (pss_one (ps_ret pe_bl))
  pss_nil)
  (C8.pss_cut (ps_if (PW.pt (pw_and (pt_cmpR (show OpR _ _ (rIn K false) from op_in_seq) (pv 5) (pe_lst (pa_cons pe_str (pa_cons pe_str (pa_cons pe_str pa_nil)))) (by rfl)) (pw_and1 (pt_cmpR (Eo.op_neSameT hu) (pe_call FT (rm (k := 129) (by decide)) rfl mFT kFT bFT .nil pass0 (pa_cons (pv 5) (pa_cons (pv 13) (pa_cons pe_bl pa_nil)))) (pe_tup (pa_cons pe_str (pa_cons pe_bl pa_nil))) (nomark _)))))
  (pss_one (ps_ret pe_bl))
  pss_nil)
  (pss_one (ps_ret (pe_call FO (rm (k := 130) (by decide)) rfl mFO kFO bFO .nil pass0 (pa_cons (pv 5) (pa_cons (pv 8) pa_nil)))))))))))))))))))))))))), ?_⟩
  have sz1 : 1 ≤ sizeLine := by decide
  refine ⟨_, rfl, a, ns, rfl, hS, fun b H1 nb g1 s1 => ?_⟩
  refine ⟨(by show 8 ≤ sizeLine; decide), fun a1 n1 => ?_⟩
  have u1 := same_new n1 (.lst (lawKinds.map V.str))
  have h1 : (upd H1 a1 (.lst (lawKinds.map V.str))) a1 = some (.lst (lawKinds.map V.str)) := upd_same
  refine (show _ from ?_)
  generalize e1 : upd H1 a1 (.lst (lawKinds.map V.str)) = K1 at u1 h1
  have e1' : upd H1 a1 (.lst [.str "find", .str "after", .str "first", .str "put", .str "drop", .str "next", .str "take", .str "leave"]) = K1 := e1
  rw [e1']
  refine ⟨sz1, fun a2 n2 => ?_⟩
  have u2 := same_new n2 (.lst [.str "put"])
  have h2 : (upd K1 a2 (.lst [.str "put"])) a2 = some (.lst [.str "put"]) := upd_same
  refine (show _ from ?_)
  generalize e2 : upd K1 a2 (.lst [.str "put"]) = K2 at u2 h2 ⊢
  refine ⟨sz1, fun a3 n3 => ?_⟩
  have u3 := same_new n3 (.tup [.str "put"])
  have h3 : (upd K2 a3 (.tup [.str "put"])) a3 = some (.tup [.str "put"]) := upd_same
  refine (show _ from ?_)
  generalize e3 : upd K2 a3 (.tup [.str "put"]) = K3 at u3 h3 ⊢
  intro a4 n4
  refine ⟨upd_same, [(.inr "put", .int 1)], rfl, (by show 1 ≤ 15; decide), ?_⟩
  rw [upd_upd, show mergeK [] [((.inr "put" : Key), V.int 1)] = [(.inr "put", .int 1)] from rfl]
  have u4 := same_new n4 (.dK [(.inr "put", .int 1)])
  have h4 : (upd K3 a4 (.dK [(.inr "put", .int 1)])) a4 = some (.dK [(.inr "put", .int 1)]) := upd_same
  refine (show _ from ?_)
  generalize e4 : upd K3 a4 (.dK [(.inr "put", .int 1)]) = K4 at u4 h4 ⊢
  refine ⟨(by show 9 ≤ sizeLine; decide), fun a5 n5 => ?_⟩
  have u5 := same_new n5 (.lst [.str "Find", .str "", .str "set", .int 5, .non, .ref a2, .ref a3, .ref a4, .bl true])
  have h5 : (upd K4 a5 (.lst [.str "Find", .str "", .str "set", .int 5, .non, .ref a2, .ref a3, .ref a4, .bl true])) a5 = some (.lst [.str "Find", .str "", .str "set", .int 5, .non, .ref a2, .ref a3, .ref a4, .bl true]) := upd_same
  refine (show _ from ?_)
  generalize e5 : upd K4 a5 (.lst [.str "Find", .str "", .str "set", .int 5, .non, .ref a2, .ref a3, .ref a4, .bl true]) = K5 at u5 h5 ⊢
  refine ⟨by decide, fun a6 n6 => ?_⟩
  have u6 := same_new n6 (.lst [])
  have h6 : (upd K5 a6 (.lst [])) a6 = some (.lst []) := upd_same
  refine (show _ from ?_)
  generalize e6 : upd K5 a6 (.lst []) = K6 at u6 h6 ⊢
  refine ⟨_, _, rfl, rfl, ⟨by decide, by decide, by decide⟩, sz1, fun a7 n7 => ?_⟩
  have u7 := same_new n7 (.tup [.bl true])
  have h7 : (upd K6 a7 (.tup [.bl true])) a7 = some (.tup [.bl true]) := upd_same
  refine (show _ from ?_)
  generalize e7 : upd K6 a7 (.tup [.bl true]) = K7 at u7 h7 ⊢
  intro a8 n8
  refine ⟨upd_same, [(.inr "ups", .bl true)], rfl, (by show 1 ≤ 15; decide), ?_⟩
  rw [upd_upd, show mergeK [] [((.inr "ups" : Key), V.bl true)] = [(.inr "ups", .bl true)] from rfl]
  have u8 := same_new n8 (.dK [(.inr "ups", .bl true)])
  have h8 : (upd K7 a8 (.dK [(.inr "ups", .bl true)])) a8 = some (.dK [(.inr "ups", .bl true)]) := upd_same
  refine (show _ from ?_)
  generalize e8 : upd K7 a8 (.dK [(.inr "ups", .bl true)]) = K8 at u8 h8 ⊢
  refine ⟨(by show 8 ≤ sizeLine; decide), fun a9 n9 => ?_⟩
  have u9 := same_new n9 (.lst [.int 1, .int 0, .non, .str "True", .ref a6, .int (10 ^ 30), .ref a7, .ref a8])
  have h9 : (upd K8 a9 (.lst [.int 1, .int 0, .non, .str "True", .ref a6, .int (10 ^ 30), .ref a7, .ref a8])) a9 = some (.lst [.int 1, .int 0, .non, .str "True", .ref a6, .int (10 ^ 30), .ref a7, .ref a8]) := upd_same
  refine (show _ from ?_)
  generalize e9 : upd K8 a9 (.lst [.int 1, .int 0, .non, .str "True", .ref a6, .int (10 ^ 30), .ref a7, .ref a8]) = K9 at u9 h9
  have e9' : upd K8 a9 (.lst [.int 1, .int 0, .non, .str "True", .ref a6, (fun (i j : Int) => V.int (i ^ j.toNat)) 10 30, .ref a7, .ref a8]) = K9 := e9
  rw [e9']
  have s59 : Same K5 K9 := ((u6.trans u7).trans u8).trans u9
  have s49 := u5.trans s59
  have s39 := u4.trans s49
  have s19 := (u2.trans u3).trans s39
  have s09 : Same H1 K9 := u1.trans s19
  obtain ⟨kv0, hb0⟩ := g1.dict
  have n4b : a4 ≠ b := fun z => by rw [z, ((u1.trans u2).trans u3) _ _ hb0] at n4; cases n4
  have lit : Lits b a1 a5 a9 K9 := ⟨a2, a3, a4, a6, a7, a8, s19 _ _ h1, s59 _ _ h5, h9, (u3.trans s39) _ _ h2, s39 _ _ h3, s49 _ _ h4, n4b⟩
  have g9 := g1.same s09
  clear e1 e1' e2 e3 e4 e5 e6 e7 e8 e9 e9' h1 h2 h3 h4 h5 h6 h7 h8 h9 u1 u2 u3 u4 u5 u6 u7 u8 u9 s59 s49 s39 s19 n1 n2 n3 n4 n5 n6 n7 n8 n9
  obtain ⟨kv9, hb9⟩ := g9.dict
  refine ⟨_, rfl, _, rfl, b, 0, 8, rfl, g9, by decide, by decide, by decide, fun v1 J1 v10 v18 gj1 kj1 => ?_⟩
  have lit1 := lit.keep hb9 kj1
  obtain ⟨xs1, k, hx1, ax1, hk⟩ := lit1.kind v10 v18
  refine ⟨a1, xs1, v1, .str k, rfl, rfl, SqL.of hx1, ax1, ?_⟩
  refine ⟨_, rfl, b, 0 + 1, rfl, gj1, by decide, fun lA J2 ls r ct2 hlA gd hr7 hll gj2 hct2 kj2 => ?_⟩
  obtain ⟨kvj, hbj⟩ := gj1.dict
  have lit2 := lit1.keep hbj kj2
  refine ⟨_, _, rfl, ?_⟩
  refine ⟨fun σ H' => ∃ (u : Bool) (ct : Nat), σ = [some (.ref a), some (.ref b), some (.ref a1), some (.ref a5), some (.ref a9), some (.str k), some (.ref lA), some (.bl u), none, none, none, none, none, none, none, none] ∧ (has kindsUp k && !u) = false ∧ H' lA = some (.lst (ls.map V.str)) ∧ Lits b a1 a5 a9 H' ∧ Bag H' b ct ∧ ct ≤ 100, ?_, ?_⟩
  · refine ⟨_, rfl, (by show 3 ≤ sizeLine; decide), fun q nq => ?_⟩
    have uq := same_new nq (.lst (kindsUp.map V.str))
    have hq : (upd J2 q (.lst (kindsUp.map V.str))) q = some (.lst (kindsUp.map V.str)) := upd_same
    refine (show _ from ?_)
    generalize eq' : upd J2 q (.lst (kindsUp.map V.str)) = J3 at uq hq
    have eq2 : upd J2 q (.lst [.str "next", .str "take", .str "leave"]) = J3 := eq'
    rw [eq2]
    refine ⟨q, _, rfl, .inl (SqL.of hq), rfl, flat_strs' _, _, rfl, ?_⟩
    have e2 : inV (V.str k) (List.map V.str kindsUp) = has kindsUp k := inV_has _ _
    have lit3 := lit2.same uq
    have g3 := gj2.same uq
    have hl3 := uq _ _ hlA
    cases c3 : has kindsUp k with
    | true =>
      rw [c3] at e2
      exact ifT (by rw [e2]; rfl) ⟨true, ct2, rfl, rfl, hl3, lit3, g3, by omega⟩
    | false =>
      rw [c3] at e2
      refine ifF (by rw [e2]; rfl) ⟨_, rfl, b, ct2, 2, rfl, g3, by omega, by decide, by decide, fun v2 J4 v20 v22 gj4 kj4 => ?_⟩
      obtain ⟨kv3, hb3⟩ := g3.dict
      exact ⟨rfl, _, ct2 + 1, rfl, rfl, kj4 _ _ hl3 (g3.ne hl3), lit3.keep hb3 kj4, gj4, by omega⟩
  rintro σ H4 ⟨u, ct, rfl, hku, hl4, lit4, g4, hct⟩
  have hx := tx_of gd (by omega)
  have szj : (ls.map (·.length)).sum + ls.length * ("\n" : Str).length ≤ 16777216 := by
    have e1 : ("\n" : Str).length = 1 := by decide +kernel
    have := sum_le fun l hl => (gd.one l hl).2
    rw [e1]
    omega
  refine ⟨rfl, _, rfl, _, lA, ls, rfl, rfl, .inl (SqL.of hl4), szj, ?_⟩
  obtain ⟨x, ex⟩ : ∃ x, x = Txt.join "\n" ls := ⟨_, rfl⟩
  rw [← ex] at hx
  rw [show Txt.join "\n" ls = x from ex.symm]
  obtain ⟨bb, hb⟩ := hx.made (by omega) hr7 hk hku
  refine ⟨_, rfl, _, rfl, _, rfl, .str k, x, .bl u, rfl, .inl ⟨k, rfl⟩, hx.ok, fun t H5 ht s5 => ?_⟩
  rw [hb] at ht
  have ht : H5 t = some (.tup [.str "made", .str k, .bl u, .str x, .int (((ls.map V.str).length : Nat) : Int)]) := by
    rw [ht]
    show some (HO.tup [.str "made", .str k, .bl u, .str x, .int (((linesOf x).length : Nat) : Int)]) = _
    rw [hx.lns, List.length_map]
  refine ⟨_, rfl, _, rfl, _, rfl, _, rfl, lA, _, rfl, .inl (SqL.of (s5 _ _ hl4)), (by show 5 ≤ sizeLine; decide), fun t2 nt2 => ⟨t, t2, _, rfl, rfl, SqT.of (same_new nt2 _ _ _ ht), SqT.of upd_same, flat_all rfl, _, rfl, ?_⟩⟩
  have s6 := s5.trans (same_new nt2 (.tup [.str "made", .str k, .bl u, .str x, .int (((ls.map V.str).length : Nat) : Int)]))
  refine (show _ from ?_)
  generalize upd H5 t2 (.tup [.str "made", .str k, .bl u, .str x, .int (((ls.map V.str).length : Nat) : Int)]) = H6 at s6 ⊢
  refine ifF rfl ?_
  refine ⟨_, rfl, _, rfl, _, rfl, fun p dx np nd _ => mk_code hb hx.ok np nd fun H7 s7 hc => ?_⟩
  have s47 := s6.trans s7
  have hl7 := s47 _ _ hl4
  have lenm : (ls.map V.str).length = ls.length := List.length_map _
  obtain ⟨dxc, Lc, Anc, Bc, Stc, hp7, hpl7⟩ := hc.at_
  refine ⟨_, rfl, lA, _, rfl, .inl (SqL.of hl7), (((ls.map V.str).length : Nat) : Int), rfl, by rw [lenm]; omega, by rw [lenm]; omega, for_range (n := (ls.map V.str).length) (fun i σ H' => H' = H7 ∧ ∃ oK, σ = [some (.ref a), some (.ref b), some (.ref a1), some (.ref a5), some (.ref a9), some (.str k), some (.ref lA), some (.bl u), some (.str x), some (.ref p), oK, none, none, none, none, none])
    ⟨rfl, none, rfl⟩ ?_ ?_⟩
  · rintro i σ H' hi ⟨rfl, oK, rfl⟩
    rw [lenm] at hi
    obtain ⟨l, hl⟩ : ∃ l, ls[i]? = some l := ⟨ls[i], List.getElem?_eq_getElem hi⟩
    have at1 : atI ((linesOf x).map V.str) ((0 + (i : Int)) + 1 - 1) = some (.str l) := by
      rw [show ((0 + (i : Int)) + 1 - 1) = ((i : Nat) : Int) by omega, hx.lns]
      exact atI_nat (by rw [List.getElem?_map, hl]; rfl)
    have at2 : atI (ls.map V.str) (0 + (i : Int)) = some (.str l) := by
      rw [show (0 + (i : Int)) = ((i : Nat) : Int) by omega]
      exact atI_nat (by rw [List.getElem?_map, hl]; rfl)
    refine ⟨_, rfl, _, rfl, _, _, rfl, rfl, p, _, _, rfl, hp7, ⟨p, k, u, x, _, l, rfl, hc, at1, ?_⟩⟩
    refine ⟨_, rfl, _, rfl, lA, _, _, _, rfl, rfl, SqL.of hl7, at2, rfl, _, rfl, ifF (by simp) ?_⟩
    exact ⟨rfl, _, rfl⟩
  rintro σ H' ⟨rfl, oK, rfl⟩
  have hx2 : ∀ {z : Str}, has kinds z = true → (has kindsUp z && !u) = false → ∃ bb, cRes (.str z) (.bl u) x = .made z u bb := fun h1 h2 => hx.made (by omega) hr7 h1 h2
  obtain ⟨bf, hbf⟩ := hx2 (z := "find") (by decide +kernel) (by rw [show has kindsUp "find" = false by decide +kernel]; rfl)
  obtain ⟨bd, hbd⟩ := hx2 (z := "drop") (by decide +kernel) (by rw [show has kindsUp "drop" = false by decide +kernel]; rfl)
  refine ⟨_, rfl, _, rfl, fun p1 dx1 np1 nd1 _ => mk_code hbf hx.ok np1 nd1 fun H8 s8 hc1 => ?_⟩
  refine ⟨_, rfl, _, rfl, fun p2 dx2 np2 nd2 _ => mk_code hbd hx.ok np2 nd2 fun H9 s9 hc2 => ?_⟩
  have hc1' := hc1.same s9
  obtain ⟨_, _, _, _, _, hp1, _⟩ := hc1'.at_
  obtain ⟨_, _, _, _, _, hp2, _⟩ := hc2.at_
  refine ⟨p1, _, _, rfl, hp1, .inr ⟨p2, _, _, rfl, hp2⟩, ⟨p1, "find", u, x, .ref p2, rfl, hc1', (fun ⟨z, e⟩ => by cases e), .inr ⟨p2, "drop", u, x, rfl, hc2, _, rfl, ?_⟩⟩⟩
  rw [show decide (("find" : Str) = "drop") = false from by decide +kernel]
  refine ⟨_, rfl, ifF rfl ?_⟩
  have s79 : Same H' H9 := s8.trans s9
  have hc9 := hc.same s79
  obtain ⟨_, _, _, _, _, hp9, _⟩ := hc9.at_
  have no : ∀ {y : Addr} {R : Prop}, (∃ z, V.ref y = .str z) → R := fun ⟨z, e⟩ => by cases e
  refine ⟨_, rfl, _, rfl, p, _, _, rfl, hp9, .inl ⟨x, rfl⟩, ⟨p, k, u, x, .str x, rfl, hc9, (fun _ => ⟨_, rfl, _, rfl, ifF rfl ?_⟩), .inl ⟨x, rfl⟩⟩⟩
  have hl9 := s79 _ _ hl7
  refine ⟨_, rfl, _, rfl, rfl, _, rfl, lA, _, rfl, .inl (SqL.of hl9), fun l2 nl2 => ?_⟩
  have ul := same_new nl2 (.lst (ls.map V.str))
  have ml : (upd H9 l2 (.lst (ls.map V.str))) l2 = some (.lst (ls.map V.str)) := upd_same
  refine (show _ from ?_)
  generalize upd H9 l2 (.lst (ls.map V.str)) = H10 at ul ml ⊢
  refine ⟨_, l2, ls, rfl, rfl, .inl (SqL.of ml), szj, _, rfl, ?_⟩
  rw [show Txt.join "\n" ls = x from ex.symm]
  refine fun p3 dx3 np3 nd3 _ => mk_code hb hx.ok np3 nd3 fun H11 s11 hc3 => ?_
  have s911 := ul.trans s11
  have hc11 := hc9.same s911
  obtain ⟨_, _, _, _, _, hp11, _⟩ := hc11.at_
  obtain ⟨_, _, _, _, _, hp3, _⟩ := hc3.at_
  refine ⟨p, _, _, rfl, hp11, .inr ⟨p3, _, _, rfl, hp3⟩, ⟨p, k, u, x, .ref p3, rfl, hc11, no, .inr ⟨p3, k, u, x, rfl, hc3, _, rfl, _, rfl, ifF (by simp) ?_⟩⟩⟩
  obtain ⟨bt, hbt⟩ := hx.made (u := true) (by omega) hr7 hk (by cases has kindsUp k <;> rfl)
  refine ⟨_, rfl, _, rfl, fun p4 dx4 np4 nd4 _ => mk_code hbt hx.ok np4 nd4 fun H12 s12 hc4 => ?_⟩
  have hc12 := hc11.same s12
  obtain ⟨_, _, _, _, _, hp12, _⟩ := hc12.at_
  obtain ⟨_, _, _, _, _, hp4, _⟩ := hc4.at_
  refine ⟨_, rfl, p4, _, _, rfl, hp4, .inr ⟨p, _, _, rfl, hp12⟩, ⟨p4, k, true, x, .ref p, rfl, hc4, no, .inr ⟨p, k, u, x, rfl, hc12, _, rfl, ?_⟩⟩⟩
  refine ⟨_, rfl, rfl, _, rfl, ifF (by cases u <;> simp) ?_⟩
  have hy := tx_of (gd.app goodQ) (by rw [List.length_append]; simp only [List.length_cons, List.length_nil]; omega)
  have ey : (x ++ if (!decide (V.str x = V.str "")) = true then ("\nquit" : Str) else "") ++ (if decide (V.str x = V.str "") = true then ("quit" : Str) else "") = Txt.join "\n" (ls ++ pcQ) := by
    rw [← join_quit fun l hl => (gd.one l hl).1, ← ex]
    by_cases z : x = ""
    · rw [if_neg (by simp [z]), if_pos (by simp [z]), if_neg (by simp [z]), if_pos z]
    · rw [if_pos (by simp [z]), if_neg (by simp [z]), if_pos z, if_neg z]
  have lq1 : ∀ c : Bool, (if c = true then ("\nquit" : Str) else "").length ≤ 5 := by decide +kernel
  have lq2 : ∀ c : Bool, (if c = true then ("quit" : Str) else "").length ≤ 5 := by decide +kernel
  have zx := hx.len
  refine ⟨_, rfl, _, rfl, _, rfl, _, rfl, rfl, .inr ⟨_, rfl, _, _, rfl, rfl, _, _, rfl, rfl, (by have := lq1 (!decide (V.str x = V.str "")); rw [sizeLine_eq]; omega), _, rfl, rfl, .inr ⟨_, rfl, _, _, rfl, rfl, _, _, rfl, rfl, ?_, ?_⟩⟩⟩
  · have la : ∀ c d : Str, (c ++ d).length = c.length + d.length := fun c d => Array.size_append
    have := lq1 (!decide (V.str x = V.str ""))
    have := lq2 (decide (V.str x = V.str ""))
    rw [la, sizeLine_eq]
    omega
  rw [ey]
  obtain ⟨y, eyy⟩ : ∃ y, y = Txt.join "\n" (ls ++ pcQ) := ⟨_, rfl⟩
  rw [← eyy] at hy ⊢
  have lny : (ls ++ pcQ).length ≤ 60 := by rw [List.length_append]; simp only [List.length_cons, List.length_nil]; omega
  obtain ⟨b5, hb5⟩ := hy.made lny (by omega) hk hku
  have nxy : x ≠ y := fun z => by
    have h1 := hy.lns
    rw [← z, hx.lns] at h1
    have h2 := congrArg List.length h1
    rw [List.length_append] at h2
    simp at h2
  refine ⟨_, rfl, fun p5 dx5 np5 nd5 _ => mk_code hb5 hy.ok np5 nd5 fun H13 s13 hc5 => ?_⟩
  have hc13 := hc12.same s13
  obtain ⟨_, _, _, _, _, hp13, _⟩ := hc13.at_
  obtain ⟨_, _, _, _, _, hp5, _⟩ := hc5.at_
  refine ⟨p, _, _, rfl, hp13, .inr ⟨p5, _, _, rfl, hp5⟩, ⟨p, k, u, x, .ref p5, rfl, hc13, no, .inr ⟨p5, k, u, y, rfl, hc5, _, rfl, _, rfl, ifF (by rw [decide_eq_false nxy]; simp) ?_⟩⟩⟩
  have s4D : Same H4 H13 := ((s47.trans s79).trans (s911.trans s12)).trans s13
  have lit13 := lit4.same s4D
  have g13 := g4.same s4D
  clear hc5 hp5 hc13 hp13 hp12 hp4 hp3 hp11 hp9 hc12 hc11 hc9
  obtain ⟨kv13, hb13⟩ := g13.dict
  refine ⟨_, rfl, _, rfl, b, ct, 9, rfl, g13, by omega, by decide, by decide, fun v6 H14 v60 v69 g14 k14 => ?_⟩
  have lit14 := lit13.keep hb13 k14
  obtain ⟨xo, ov, hxo, axo, hod⟩ := lit14.odd (K := K) v60 v69
  refine ⟨a5, xo, v6, ov, rfl, rfl, SqL.of hxo, axo, ?_⟩
  obtain ⟨kv14, hb14⟩ := g14.dict
  refine ⟨_, rfl, _, rfl, b, ct + 1, 8, rfl, g14, by omega, by decide, by decide, fun v7 H15 v70 v78 g15 k15 => ?_⟩
  have lit15 := lit14.keep hb14 k15
  obtain ⟨xw, wv, hxw, axw, hwd⟩ := lit15.wide v70 v78
  refine ⟨a9, xw, v7, wv, rfl, rfl, SqL.of hxw, axw, ?_⟩
  refine ⟨_, _, rfl, ?_⟩
  have s4L : Lits b a1 a5 a9 H15 := lit15
  refine ⟨rfl, sz1, fun l6 nl6 => ?_⟩
  have u16 := same_new nl6 (.lst [.str "par = none"])
  have h16 : (upd H15 l6 (.lst [.str "par = none"])) l6 = some (.lst [.str "par = none"]) := upd_same
  refine (show _ from ?_)
  generalize upd H15 l6 (.lst [.str "par = none"]) = H16 at u16 h16 ⊢
  have lit16 := lit15.same u16
  have g16 := g15.same u16
  obtain ⟨kv16, hb16⟩ := g16.dict
  refine ⟨_, rfl, b, ct + 1 + 1, 4, rfl, g16, by omega, by decide, by decide, fun v8 H17 v80 v84 g17 k17 => ?_⟩
  have lit17 := lit16.keep hb16 k17
  obtain ⟨m, rfl⟩ : ∃ m : Nat, v8 = (m : Int) := ⟨v8.toNat, by omega⟩
  have h17 := k17 _ _ h16 (g16.ne h16)
  have em : ((59 : Int) + (m : Int)).toNat = 59 + m := by omega
  refine ⟨_, _, rfl, rfl, l6, 59 + (m : Int), _, rfl, rfl, h17, by omega, by omega, (by rw [em, sizeLine_eq]; simp only [List.length_cons, List.length_nil]; omega), fun p6 np6 => ?_⟩
  rw [em, longL_map]
  have u18 := same_new np6 (.lst ((longL (59 + m)).map V.str))
  have h18 : (upd H17 p6 (.lst ((longL (59 + m)).map V.str))) p6 = some (.lst ((longL (59 + m)).map V.str)) := upd_same
  refine (show _ from ?_)
  generalize upd H17 p6 (.lst ((longL (59 + m)).map V.str)) = H18 at u18 h18 ⊢
  have lg := lg_of (n := 59 + m) (by omega) (by omega)
  have lgl := longL_len (59 + m)
  have szl : ((longL (59 + m)).map (·.length)).sum + (longL (59 + m)).length * ("\n" : Str).length ≤ 16777216 := by
    have e1 : ("\n" : Str).length = 1 := by decide +kernel
    have := sum_le fun l hl => ((longL_good (59 + m)).one l hl).2
    rw [e1]
    omega
  refine ⟨_, p6, longL (59 + m), rfl, rfl, .inl (SqL.of h18), szl, ?_⟩
  obtain ⟨z6, ez6⟩ : ∃ z6, z6 = Txt.join "\n" (longL (59 + m)) := ⟨_, rfl⟩
  rw [← ez6] at lg ⊢
  have zl := lg.len
  refine ⟨_, rfl, rfl, _, _, rfl, rfl, rfl, (by rw [sizeLine_eq]; omega), fun l7 nl7 => ?_⟩
  rw [lg.split]
  have u19 := same_new nl7 (.lst ((longL (59 + m)).map V.str))
  have h19 : (upd H18 l7 (.lst ((longL (59 + m)).map V.str))) l7 = some (.lst ((longL (59 + m)).map V.str)) := upd_same
  refine (show _ from ?_)
  generalize upd H18 l7 (.lst ((longL (59 + m)).map V.str)) = H19 at u19 h19 ⊢
  refine ⟨l7, _, rfl, .inl (SqL.of h19), ?_⟩
  rw [List.length_map, lgl]
  have lit19 := (lit17.same u18).same u19
  have od19 : KindV K H19 ov := by
    obtain ⟨xo', ov', hxo', axo', hod'⟩ := lit19.odd (K := K) v60 v69
    obtain ⟨l5, t6, d7, l4, t7, d8, h1, h2, h3, h4, h5, h6, h7⟩ := lit14.at_
    obtain ⟨l5', t6', d7', l4', t7', d8', h1', h2', h3', h4', h5', h6', h7'⟩ := lit19.at_
    have e1 : H19 a5 = H14 a5 := by
      have kk := k15.trans (((Kept.of u16).trans k17).trans ((Kept.of u18).trans (Kept.of u19)))
      rw [kk _ _ h2 (g14.ne h2), h2]
    rw [e1, hxo] at hxo'
    cases hxo'
    rw [axo] at axo'
    cases axo'
    exact hod'.kv
  refine ⟨fun σ H' => ∃ dA, σ = [some (.ref a), some (.ref b), some (.ref a1), some (.ref a5), some (.ref a9), some (.str k), some (.ref lA), some (.bl u), some (.str x), some (.ref p), oK, some ov, some wv, some (.str z6), some (.int ((59 + m : Nat) : Int)), some (.ref dA)] ∧ Same H19 H' ∧ H' dA = some (.tup (toldV (.str k) (.bl u) z6 (cRes (.str k) (.bl u) z6))), ?_, ?_⟩
  · have er := lg.res (k := k) (u := u) hk hku
    refine ⟨_, rfl, _, _, rfl, rfl, _, rfl, ?_⟩
    refine if2 (fun c => ?_) (fun c => ?_)
    · have c : 60 < 59 + m := by have := of_decide_eq_true c; omega
      rw [if_pos c] at er
      refine ⟨_, rfl, by show 4 ≤ sizeLine; decide, fun dA nd => ⟨dA, rfl, same_new nd _, ?_⟩⟩
      rw [upd_same, er]
    · have c : ¬ 60 < 59 + m := fun z => by
        have z2 : (60 : Int) < ((59 + m : Nat) : Int) := by omega
        rw [decide_eq_true z2] at c
        cases c
      rw [if_neg c] at er
      refine ⟨_, rfl, _, rfl, _, rfl, _, rfl, by show 5 ≤ sizeLine; decide, fun dA nd => ⟨dA, rfl, same_new nd _, ?_⟩⟩
      rw [upd_same, er]
  rintro σ H20 ⟨dA, rfl, s20, hdA⟩
  have fl : ∀ v ∈ toldV (.str k) (.bl u) z6 (cRes (.str k) (.bl u) z6), Flat v := by
    rw [lg.res hk hku]
    split
    · exact flat_all rfl
    · exact flat_all rfl
  have fk : ∀ v ∈ [V.str "kind", ov], Flat v := by
    intro v hv
    rcases List.mem_cons.mp hv with rfl | hv
    · exact .inl rfl
    · rw [List.mem_singleton] at hv
      rw [hv]
      exact hod.fl
  have fw : ∀ v ∈ [V.str "ups", wv], Flat v := by
    intro v hv
    rcases List.mem_cons.mp hv with rfl | hv
    · exact .inl rfl
    · rw [List.mem_singleton] at hv
      rw [hv]
      exact hwd.fl
  have od20 := od19.same s20
  refine ⟨_, rfl, _, rfl, _, rfl, .str k, z6, .bl u, rfl, .inl ⟨k, rfl⟩, lg.ok, fun t1 J1 ht1 r1 => ?_⟩
  refine ⟨_, rfl, t1, dA, _, rfl, rfl, SqT.of ht1, SqT.of (r1 _ _ hdA), fl, _, rfl, ifF rfl ?_⟩
  refine ⟨_, rfl, _, rfl, _, rfl, ov, z6, wv, rfl, od20.same r1, lg.ok, fun t2 J2 ht2 r2 => ?_⟩
  rw [res_odd hod.ck] at ht2
  refine ⟨_, rfl, by show 2 ≤ sizeLine; decide, fun t3 n3 => ⟨t2, t3, _, rfl, rfl, SqT.of (same_new n3 _ _ _ ht2), SqT.of upd_same, fk, _, rfl, ifF rfl ?_⟩⟩
  have w2 := (r1.trans r2).trans (same_new n3 (.tup [.str "kind", ov]))
  refine (show _ from ?_)
  generalize upd J2 t3 (.tup [.str "kind", ov]) = J3 at w2 ⊢
  refine ⟨_, rfl, _, rfl, ov, "Go", wv, rfl, od20.same w2, okGo, fun t4 J4 ht4 r4 => ?_⟩
  rw [res_odd hod.ck] at ht4
  refine ⟨_, rfl, by show 2 ≤ sizeLine; decide, fun t5 n5 => ⟨t4, t5, _, rfl, rfl, SqT.of (same_new n5 _ _ _ ht4), SqT.of upd_same, fk, _, rfl, ifF rfl ?_⟩⟩
  refine (show _ from ?_)
  generalize upd J4 t5 (.tup [.str "kind", ov]) = J5
  refine ⟨_, rfl, _, rfl, .str k, "Go", wv, rfl, .inl ⟨k, rfl⟩, okGo, fun t6 J6 ht6 r6 => ?_⟩
  rw [res_wide (hwd.ck k hk)] at ht6
  refine ⟨_, rfl, by show 2 ≤ sizeLine; decide, fun t7 n7 => ⟨t6, t7, _, rfl, rfl, SqT.of (same_new n7 _ _ _ ht6), SqT.of upd_same, fw, _, rfl, ifF rfl ?_⟩⟩
  refine (show _ from ?_)
  generalize upd J6 t7 (.tup [.str "ups", wv]) = J7
  refine ⟨_, rfl, _, rfl, _, rfl, .str k, z6, wv, rfl, .inl ⟨k, rfl⟩, lg.ok, fun t8 J8 ht8 r8 => ?_⟩
  rw [res_wide (hwd.ck k hk)] at ht8
  refine ⟨_, rfl, by show 2 ≤ sizeLine; decide, fun t9 n9 => ⟨t8, t9, _, rfl, rfl, SqT.of (same_new n9 _ _ _ ht8), SqT.of upd_same, fw, _, rfl, ifF rfl ?_⟩⟩
  refine (show _ from ?_)
  generalize upd J8 t9 (.tup [.str "ups", wv]) = J9
  obtain ⟨be, hbe⟩ := tx_empty.made (by decide) (by decide) hk hku
  refine ⟨_, rfl, _, rfl, fun p6 dx6 np6 nd6 _ => mk_code hbe tx_empty.ok np6 nd6 fun J10 r10 hc6 => ?_⟩
  obtain ⟨_, _, _, _, _, hp6, _⟩ := hc6.at_
  refine ⟨p6, _, _, rfl, hp6, ⟨p6, k, u, "", rfl, hc6, (linesOf "").length, rfl, by rw [tx_empty.lns]; decide, ?_⟩⟩
  rw [tx_empty.lns]
  refine ⟨rfl, _, rfl, ifF (by decide) ?_⟩
  refine ⟨fun σ H' => σ = [some (.ref a), some (.ref b), some (.ref a1), some (.ref a5), some (.ref a9), some (.str k), some (.ref lA), some (.bl u), some (.str x), some (.ref p), oK, some ov, some wv, some (.str z6), some (.int ((59 + m : Nat) : Int)), some (.ref dA)], ?_, ?_⟩
  · refine ⟨_, rfl, (by show 3 ≤ sizeLine; decide), fun q nq => ?_⟩
    have hq : (upd J10 q (.lst (kindsUp.map V.str))) q = some (.lst (kindsUp.map V.str)) := upd_same
    refine (show _ from ?_)
    generalize eq' : upd J10 q (.lst (kindsUp.map V.str)) = J11 at hq
    have eq2 : upd J10 q (.lst [.str "next", .str "take", .str "leave"]) = J11 := eq'
    rw [eq2]
    refine ⟨q, _, rfl, .inl (SqL.of hq), rfl, flat_strs' _, _, rfl, ?_⟩
    have e2 : inV (V.str k) (List.map V.str kindsUp) = has kindsUp k := inV_has _ _
    cases c3 : has kindsUp k with
    | true =>
      rw [c3] at e2
      refine ifT (by rw [e2]; rfl) ⟨_, rfl, _, rfl, .str k, z6, .bl false, rfl, .inl ⟨k, rfl⟩, lg.ok, fun t8 J8 ht8 r8 => ?_⟩
      rw [res_wide (by rw [ck_bl hk, c3]; rfl)] at ht8
      exact ⟨by show 2 ≤ sizeLine; decide, fun t9 n9 => ⟨t8, t9, _, rfl, rfl, SqT.of (same_new n9 _ _ _ ht8), SqT.of upd_same, flat_all rfl, _, rfl, ifF rfl rfl⟩⟩
    | false =>
      rw [c3] at e2
      exact ifF (by rw [e2]; rfl) (ifF rfl rfl)
  rintro σ H' rfl
  exact ⟨_, rfl, _, rfl, k, x, rfl, hk, fun H' _ => q H'⟩
end
end K01
namespace K01
open PySem PySem.Spec PyProof.Rows L2 Xc Dt Ln Eo
theorem rs (x : Str) (t : Tok) : RelV (.str x) (.str x t) := ⟨t, rfl⟩
theorem rn : RelV .non .none := rfl
theorem rr (a : Addr) : RelV (.ref a) (.ref a) := rfl
theorem tup_of {K : PySem.W.Frag} {a : Addr} {xs : List V} {its : Array Value} {n : Nat} {dd : Option Addr} {sl : Array (Option Value)} (l : K.lookup a = some ⟨.type "tuple", dd, .seq its n, sl⟩) (hz : its.size ≤ 100) (r : Vals xs its.toList) (H : Hp) : SqT K H a xs :=
  .inr ⟨_, its, n, l, rfl, rfl, Nat.le_trans hz (by decide), r⟩
theorem kit_self {K : PySem.W.Frag} {C : Addr} : PySem.W.kitOne K (.ref C) (.ref C) = some true := by
  unfold PySem.W.kitOne
  simp
theorem kit_str {K : PySem.W.Frag} {C : Addr} (i : PySem.W.isClsIn K C = true) (t : PySem.W.typeIn K (.ref C) = some (.type "type")) : PySem.W.kitOne K (.type "str") (.ref C) = some false := by
  unfold PySem.W.kitOne
  rw [if_neg (by simp)]
  unfold PySem.W.kitCls
  have z : ((PySem.W.clsIn K C).isSome && PySem.W.typeIn K (.ref C) == some (.type "type")) = true := by
    rw [t, show (PySem.W.clsIn K C).isSome = true from i]
    rfl
  show (if ((PySem.W.clsIn K C).isSome && PySem.W.typeIn K (.ref C) == some (.type "type")) = true then PySem.W.subIn K (.type "str") (.ref C) else none) = _
  rw [if_pos z, Oe.sub_str]
/-! ### the end: what the top has written -/
theorem all_mk {l : PySem.W.OpenLaw} {w : World} {K : PySem.W.Frag} {h : Heap} {mg : Str → Option Value} {fa : Addr} (X : K.In h) (G : h.Ns mainGlobals mg) (hfa : mg "law" = some (.ref fa))
    {CT : Addr} {nmT qT : Str} {NT : Addr} {bsT : List Value} {snT : List Str} {subT : List Value} {abT : Bool} {colT : Option Bool} {ddT : Option Addr} {m0T m1T m2T m3T m5T : Option Value}
    {CK : Addr} {nmK qK : Str} {NK : Addr} {bsK : List Value} {snK : List Str} {subK : List Value} {abK : Bool} {colK : Option Bool} {ddK : Option Addr} {m0K m1K m2K m3K m5K : Option Value}
    {CU : Addr} {nmU qU : Str} {NU : Addr} {bsU : List Value} {snU : List Str} {subU : List Value} {abU : Bool} {colU : Option Bool} {ddU : Option Addr} {m0U m1U m2U m3U m5U : Option Value}
    {CL : Addr} {nmL qL : Str} {NL : Addr} {bsL : List Value} {snL : List Str} {subL : List Value} {abL : Bool} {colL : Option Bool} {ddL : Option Addr} {m0L m1L m2L m3L m5L : Option Value}
    {CF : Addr} {nmF qF : Str} {NF : Addr} {bsF : List Value} {snF : List Str} {subF : List Value} {abF : Bool} {colF : Option Bool} {ddF : Option Addr} {m0F m1F m2F m3F m5F : Option Value}
    {CM : Addr} {nmM qM : Str} {NM : Addr} {bsM : List Value} {snM : List Str} {subM : List Value} {abM : Bool} {colM : Option Bool} {ddM : Option Addr} {m0M m1M m2M m3M m5M : Option Value}
    {fIK : Addr} {odIK anIK : Option Addr} {slIK : Array (Option Value)} {ocIK kVIK dcIK pmIK cdIK ctIK : Value}
    {fIU : Addr} {odIU anIU : Option Addr} {slIU : Array (Option Value)} {ocIU kVIU dcIU pmIU cdIU ctIU : Value}
    {fIL : Addr} {odIL anIL : Option Addr} {slIL : Array (Option Value)} {ocIL kVIL dcIL pmIL cdIL ctIL : Value}
    {fIF : Addr} {odIF anIF : Option Addr} {slIF : Array (Option Value)} {ocIF kVIF dcIF pmIF cdIF ctIF : Value}
    {fIM : Addr} {odIM anIM : Option Addr} {slIM : Array (Option Value)} {ocIM kVIM dcIM pmIM cdIM ctIM : Value}
    {Cr : Addr}
    {fIR : Addr} {odIR anIR : Option Addr} {slIR : Array (Option Value)} {ocIR kVIR dcIR pmIR cdIR ctIR : Value}
    {CA : Addr}
    {fIA : Addr} {odIA anIA : Option Addr} {slIA : Array (Option Value)} {ocIA kVIA dcIA pmIA cdIA ctIA : Value}
    {C : Addr}
    {dT : Addr} {ddZ : Option Addr} {nZ : Nat} {slZ : Array (Option Value)}
    {fIC : Addr} {odIC anIC : Option Addr} {slIC : Array (Option Value)} {ocIC kVIC dcIC pmIC cdIC ctIC : Value}
    {fLn : Addr} {odLn anLn : Option Addr} {slLn : Array (Option Value)} {ocLn kVLn dcLn pmLn cdLn ctLn : Value}
    {fGt : Addr} {odGt anGt : Option Addr} {slGt : Array (Option Value)} {ocGt kVGt dcGt pmGt cdGt ctGt : Value}
    {fEq : Addr} {odEq anEq : Option Addr} {slEq : Array (Option Value)} {ocEq kVEq dcEq pmEq cdEq ctEq : Value}
    {fD20 : Addr} {odD20 anD20 : Option Addr} {slD20 : Array (Option Value)} {ocD20 kVD20 dcD20 pmD20 cdD20 ctD20 : Value}
    {fD21 : Addr} {odD21 anD21 : Option Addr} {slD21 : Array (Option Value)} {ocD21 kVD21 dcD21 pmD21 cdD21 ctD21 : Value}
    {fD22 : Addr} {odD22 anD22 : Option Addr} {slD22 : Array (Option Value)} {ocD22 kVD22 dcD22 pmD22 cdD22 ctD22 : Value}
    {fD23 : Addr} {odD23 anD23 : Option Addr} {slD23 : Array (Option Value)} {ocD23 kVD23 dcD23 pmD23 cdD23 ctD23 : Value}
    {fD24 : Addr} {odD24 anD24 : Option Addr} {slD24 : Array (Option Value)} {ocD24 kVD24 dcD24 pmD24 cdD24 ctD24 : Value}
    {fD25 : Addr} {odD25 anD25 : Option Addr} {slD25 : Array (Option Value)} {ocD25 kVD25 dcD25 pmD25 cdD25 ctD25 : Value}
    {fD27 : Addr} {odD27 anD27 : Option Addr} {slD27 : Array (Option Value)} {ocD27 kVD27 dcD27 pmD27 cdD27 ctD27 : Value}
    {fD28 : Addr} {odD28 anD28 : Option Addr} {slD28 : Array (Option Value)} {ocD28 kVD28 dcD28 pmD28 cdD28 ctD28 : Value}
    {fD29 : Addr} {odD29 anD29 : Option Addr} {slD29 : Array (Option Value)} {ocD29 kVD29 dcD29 pmD29 cdD29 ctD29 : Value}
    {fD30 : Addr} {odD30 anD30 : Option Addr} {slD30 : Array (Option Value)} {ocD30 kVD30 dcD30 pmD30 cdD30 ctD30 : Value}
    {fD31 : Addr} {odD31 anD31 : Option Addr} {slD31 : Array (Option Value)} {ocD31 kVD31 dcD31 pmD31 cdD31 ctD31 : Value}
    {fD32 : Addr} {odD32 anD32 : Option Addr} {slD32 : Array (Option Value)} {ocD32 kVD32 dcD32 pmD32 cdD32 ctD32 : Value}
    {fD33 : Addr} {odD33 anD33 : Option Addr} {slD33 : Array (Option Value)} {ocD33 kVD33 dcD33 pmD33 cdD33 ctD33 : Value}
    {fD34 : Addr} {odD34 anD34 : Option Addr} {slD34 : Array (Option Value)} {ocD34 kVD34 dcD34 pmD34 cdD34 ctD34 : Value}
    {fD35 : Addr} {odD35 anD35 : Option Addr} {slD35 : Array (Option Value)} {ocD35 kVD35 dcD35 pmD35 cdD35 ctD35 : Value}
    {fD36 : Addr} {odD36 anD36 : Option Addr} {slD36 : Array (Option Value)} {ocD36 kVD36 dcD36 pmD36 cdD36 ctD36 : Value}
    {fD39 : Addr} {odD39 anD39 : Option Addr} {slD39 : Array (Option Value)} {ocD39 kVD39 dcD39 pmD39 cdD39 ctD39 : Value}
    {fD40 : Addr} {odD40 anD40 : Option Addr} {slD40 : Array (Option Value)} {ocD40 kVD40 dcD40 pmD40 cdD40 ctD40 : Value}
    {fD41 : Addr} {odD41 anD41 : Option Addr} {slD41 : Array (Option Value)} {ocD41 kVD41 dcD41 pmD41 cdD41 ctD41 : Value}
    {fD42 : Addr} {odD42 anD42 : Option Addr} {slD42 : Array (Option Value)} {ocD42 kVD42 dcD42 pmD42 cdD42 ctD42 : Value}
    {fD43 : Addr} {odD43 anD43 : Option Addr} {slD43 : Array (Option Value)} {ocD43 kVD43 dcD43 pmD43 cdD43 ctD43 : Value}
    {fD51 : Addr} {odD51 anD51 : Option Addr} {slD51 : Array (Option Value)} {ocD51 kVD51 dcD51 pmD51 cdD51 ctD51 : Value}
    {fD52 : Addr} {odD52 anD52 : Option Addr} {slD52 : Array (Option Value)} {ocD52 kVD52 dcD52 pmD52 cdD52 ctD52 : Value}
    {fD53 : Addr} {odD53 anD53 : Option Addr} {slD53 : Array (Option Value)} {ocD53 kVD53 dcD53 pmD53 cdD53 ctD53 : Value}
    {fD54 : Addr} {odD54 anD54 : Option Addr} {slD54 : Array (Option Value)} {ocD54 kVD54 dcD54 pmD54 cdD54 ctD54 : Value}
    {fD55 : Addr} {odD55 anD55 : Option Addr} {slD55 : Array (Option Value)} {ocD55 kVD55 dcD55 pmD55 cdD55 ctD55 : Value}
    {fD56 : Addr} {odD56 anD56 : Option Addr} {slD56 : Array (Option Value)} {ocD56 kVD56 dcD56 pmD56 cdD56 ctD56 : Value}
    {fD57 : Addr} {odD57 anD57 : Option Addr} {slD57 : Array (Option Value)} {ocD57 kVD57 dcD57 pmD57 cdD57 ctD57 : Value}
    {fD58 : Addr} {odD58 anD58 : Option Addr} {slD58 : Array (Option Value)} {ocD58 kVD58 dcD58 pmD58 cdD58 ctD58 : Value}
    {fD59 : Addr} {odD59 anD59 : Option Addr} {slD59 : Array (Option Value)} {ocD59 kVD59 dcD59 pmD59 cdD59 ctD59 : Value}
    {fD60 : Addr} {odD60 anD60 : Option Addr} {slD60 : Array (Option Value)} {ocD60 kVD60 dcD60 pmD60 cdD60 ctD60 : Value}
    {fD61 : Addr} {odD61 anD61 : Option Addr} {slD61 : Array (Option Value)} {ocD61 kVD61 dcD61 pmD61 cdD61 ctD61 : Value}
    {fD62 : Addr} {odD62 anD62 : Option Addr} {slD62 : Array (Option Value)} {ocD62 kVD62 dcD62 pmD62 cdD62 ctD62 : Value}
    {fD63 : Addr} {odD63 anD63 : Option Addr} {slD63 : Array (Option Value)} {ocD63 kVD63 dcD63 pmD63 cdD63 ctD63 : Value}
    {fD64 : Addr} {odD64 anD64 : Option Addr} {slD64 : Array (Option Value)} {ocD64 kVD64 dcD64 pmD64 cdD64 ctD64 : Value}
    {fD65 : Addr} {odD65 anD65 : Option Addr} {slD65 : Array (Option Value)} {ocD65 kVD65 dcD65 pmD65 cdD65 ctD65 : Value}
    {fD66 : Addr} {odD66 anD66 : Option Addr} {slD66 : Array (Option Value)} {ocD66 kVD66 dcD66 pmD66 cdD66 ctD66 : Value}
    {fD67 : Addr} {odD67 anD67 : Option Addr} {slD67 : Array (Option Value)} {ocD67 kVD67 dcD67 pmD67 cdD67 ctD67 : Value}
    {fD68 : Addr} {odD68 anD68 : Option Addr} {slD68 : Array (Option Value)} {ocD68 kVD68 dcD68 pmD68 cdD68 ctD68 : Value}
    {fD69 : Addr} {odD69 anD69 : Option Addr} {slD69 : Array (Option Value)} {ocD69 kVD69 dcD69 pmD69 cdD69 ctD69 : Value}
    {fD71 : Addr} {odD71 anD71 : Option Addr} {slD71 : Array (Option Value)} {ocD71 kVD71 dcD71 pmD71 cdD71 ctD71 : Value}
    {fD73 : Addr} {odD73 anD73 : Option Addr} {slD73 : Array (Option Value)} {ocD73 kVD73 dcD73 pmD73 cdD73 ctD73 : Value}
    {fD74 : Addr} {odD74 anD74 : Option Addr} {slD74 : Array (Option Value)} {ocD74 kVD74 dcD74 pmD74 cdD74 ctD74 : Value}
    {fD82 : Addr} {odD82 anD82 : Option Addr} {slD82 : Array (Option Value)} {ocD82 kVD82 dcD82 pmD82 cdD82 ctD82 : Value}
    {fD83 : Addr} {odD83 anD83 : Option Addr} {slD83 : Array (Option Value)} {ocD83 kVD83 dcD83 pmD83 cdD83 ctD83 : Value}
    {fD85 : Addr} {odD85 anD85 : Option Addr} {slD85 : Array (Option Value)} {ocD85 kVD85 dcD85 pmD85 cdD85 ctD85 : Value}
    {fD86 : Addr} {odD86 anD86 : Option Addr} {slD86 : Array (Option Value)} {ocD86 kVD86 dcD86 pmD86 cdD86 ctD86 : Value}
    {fD87 : Addr} {odD87 anD87 : Option Addr} {slD87 : Array (Option Value)} {ocD87 kVD87 dcD87 pmD87 cdD87 ctD87 : Value}
    {fD88 : Addr} {odD88 anD88 : Option Addr} {slD88 : Array (Option Value)} {ocD88 kVD88 dcD88 pmD88 cdD88 ctD88 : Value}
    {fD89 : Addr} {odD89 anD89 : Option Addr} {slD89 : Array (Option Value)} {ocD89 kVD89 dcD89 pmD89 cdD89 ctD89 : Value}
    {fD90 : Addr} {odD90 anD90 : Option Addr} {slD90 : Array (Option Value)} {ocD90 kVD90 dcD90 pmD90 cdD90 ctD90 : Value}
    {sREGISTERS : Addr} {dsREGISTERS : Option Addr} {nsREGISTERS : Nat} {ssREGISTERS : Array (Option Value)} {tREGISTERS0 tREGISTERS1 tREGISTERS2 tREGISTERS3 tREGISTERS4 : Tok}
    {sKEPT : Addr} {dsKEPT : Option Addr} {nsKEPT : Nat} {ssKEPT : Array (Option Value)} {tKEPT0 tKEPT1 tKEPT2 tKEPT3 : Tok}
    {sHOLDERS : Addr} {dsHOLDERS : Option Addr} {nsHOLDERS : Nat} {ssHOLDERS : Array (Option Value)} {tHOLDERS0 tHOLDERS1 tHOLDERS2 tHOLDERS3 tHOLDERS4 tHOLDERS5 : Tok}
    {sBARE : Addr} {dsBARE : Option Addr} {nsBARE : Nat} {ssBARE : Array (Option Value)} {tBARE0 tBARE1 tBARE2 tBARE3 tBARE4 tBARE5 tBARE6 tBARE7 : Tok}
    {sLED_TO : Addr} {dsLED_TO : Option Addr} {nsLED_TO : Nat} {ssLED_TO : Array (Option Value)} {tLED_TO0 tLED_TO1 tLED_TO2 tLED_TO3 tLED_TO4 tLED_TO5 tLED_TO6 : Tok}
    {sCOMPARED : Addr} {dsCOMPARED : Option Addr} {nsCOMPARED : Nat} {ssCOMPARED : Array (Option Value)} {tCOMPARED0 tCOMPARED1 tCOMPARED2 tCOMPARED3 tCOMPARED4 tCOMPARED5 tCOMPARED6 : Tok}
    {sLINKS : Addr} {dsLINKS : Option Addr} {nsLINKS : Nat} {ssLINKS : Array (Option Value)} {tLINKS0 tLINKS1 tLINKS2 : Tok}
    {sSIDES : Addr} {dsSIDES : Option Addr} {nsSIDES : Nat} {ssSIDES : Array (Option Value)} {tSIDES0 tSIDES1 : Tok}
    {sLOOPS : Addr} {dsLOOPS : Option Addr} {nsLOOPS : Nat} {ssLOOPS : Array (Option Value)} {tLOOPS0 tLOOPS1 : Tok}
    {sSEARCHES : Addr} {dsSEARCHES : Option Addr} {nsSEARCHES : Nat} {ssSEARCHES : Array (Option Value)} {tSEARCHES0 tSEARCHES1 tSEARCHES2 tSEARCHES3 tSEARCHES4 : Tok}
    {sKINDS : Addr} {dsKINDS : Option Addr} {nsKINDS : Nat} {ssKINDS : Array (Option Value)} {tKINDS0 tKINDS1 tKINDS2 tKINDS3 tKINDS4 tKINDS5 tKINDS6 tKINDS7 : Tok}
    {sKINDS_WITH_UPS : Addr} {dsKINDS_WITH_UPS : Option Addr} {nsKINDS_WITH_UPS : Nat} {ssKINDS_WITH_UPS : Array (Option Value)} {tKINDS_WITH_UPS0 tKINDS_WITH_UPS1 tKINDS_WITH_UPS2 : Tok}
    {sFROM_ROOT : Addr} {dsFROM_ROOT : Option Addr} {nsFROM_ROOT : Nat} {ssFROM_ROOT : Array (Option Value)}
    {sFROM_ROOT_0 : Addr} {dsFROM_ROOT_0 : Option Addr} {nsFROM_ROOT_0 : Nat} {ssFROM_ROOT_0 : Array (Option Value)}
    {sFROM_ROOT_0_0 : Addr} {dsFROM_ROOT_0_0 : Option Addr} {nsFROM_ROOT_0_0 : Nat} {ssFROM_ROOT_0_0 : Array (Option Value)} {tFROM_ROOT_0_00 : Tok}
    {sSTEP_DOWN : Addr} {dsSTEP_DOWN : Option Addr} {nsSTEP_DOWN : Nat} {ssSTEP_DOWN : Array (Option Value)}
    {sSTEP_DOWN_0 : Addr} {dsSTEP_DOWN_0 : Option Addr} {nsSTEP_DOWN_0 : Nat} {ssSTEP_DOWN_0 : Array (Option Value)}
    {sSTEP_DOWN_0_0 : Addr} {dsSTEP_DOWN_0_0 : Option Addr} {nsSTEP_DOWN_0_0 : Nat} {ssSTEP_DOWN_0_0 : Array (Option Value)} {tSTEP_DOWN_0_00 tSTEP_DOWN_0_01 : Tok}
    {sSTEP_DOWN_1 : Addr} {dsSTEP_DOWN_1 : Option Addr} {nsSTEP_DOWN_1 : Nat} {ssSTEP_DOWN_1 : Array (Option Value)}
    {sSTEP_DOWN_1_0 : Addr} {dsSTEP_DOWN_1_0 : Option Addr} {nsSTEP_DOWN_1_0 : Nat} {ssSTEP_DOWN_1_0 : Array (Option Value)} {tSTEP_DOWN_1_00 tSTEP_DOWN_1_01 : Tok}
    {sPERHAPS_UP : Addr} {dsPERHAPS_UP : Option Addr} {nsPERHAPS_UP : Nat} {ssPERHAPS_UP : Array (Option Value)}
    {sPERHAPS_UP_0 : Addr} {dsPERHAPS_UP_0 : Option Addr} {nsPERHAPS_UP_0 : Nat} {ssPERHAPS_UP_0 : Array (Option Value)}
    {sPERHAPS_UP_1 : Addr} {dsPERHAPS_UP_1 : Option Addr} {nsPERHAPS_UP_1 : Nat} {ssPERHAPS_UP_1 : Array (Option Value)}
    {sPERHAPS_UP_1_0 : Addr} {dsPERHAPS_UP_1_0 : Option Addr} {nsPERHAPS_UP_1_0 : Nat} {ssPERHAPS_UP_1_0 : Array (Option Value)} {tPERHAPS_UP_1_00 tPERHAPS_UP_1_01 : Tok}
    {tMOST_READS : Tok}
    {tMOST_WRITES : Tok}
    {tMOST_LINES : Tok}
    {tMOST_IFS : Tok}
    {tOUTSIDE : Tok}
    {tDOWN : Tok}
    {tUP : Tok}
    (gT : PySem.W.nsIn K mainGlobals "TreeError" = some (some (.ref CT)))
    (xT : K.lookup CT = some (excClassObj nmT qT CT NT bsT [.type "ValueError", .type "Exception", .type "BaseException", .type "object"] true snT subT abT colT ddT m0T m1T m2T m3T m5T "ValueError.__new__"))
    (saT : PySem.W.findIn K (.ref CT) "__setattr__" = some (some (.builtin "object.__setattr__")))
    (gaT : PySem.W.findIn K (.ref CT) "__getattribute__" = some (some (.builtin "BaseException.__getattribute__")))
    (ggT : PySem.W.findIn K (.ref CT) "__getattr__" = some none)
    (gcT : PySem.W.findIn K (.ref CT) "__class__" = some (some (.builtin "object.__class__")))
    (tyT : PySem.W.typeIn K (.ref CT) = some (.type "type"))
    (kpT : PySem.W.keepIn K (.ref CT) = true)
    (gK : PySem.W.nsIn K mainGlobals "BadKind" = some (some (.ref CK)))
    (xK : K.lookup CK = some (excClassObj nmK qK CK NK bsK [.ref CT, .type "ValueError", .type "Exception", .type "BaseException", .type "object"] true snK subK abK colK ddK m0K m1K m2K m3K m5K "ValueError.__new__"))
    (saK : PySem.W.findIn K (.ref CK) "__setattr__" = some (some (.builtin "object.__setattr__")))
    (gaK : PySem.W.findIn K (.ref CK) "__getattribute__" = some (some (.builtin "BaseException.__getattribute__")))
    (ggK : PySem.W.findIn K (.ref CK) "__getattr__" = some none)
    (gcK : PySem.W.findIn K (.ref CK) "__class__" = some (some (.builtin "object.__class__")))
    (tyK : PySem.W.typeIn K (.ref CK) = some (.type "type"))
    (kpK : PySem.W.keepIn K (.ref CK) = true)
    (gU : PySem.W.nsIn K mainGlobals "BadUps" = some (some (.ref CU)))
    (xU : K.lookup CU = some (excClassObj nmU qU CU NU bsU [.ref CT, .type "ValueError", .type "Exception", .type "BaseException", .type "object"] true snU subU abU colU ddU m0U m1U m2U m3U m5U "ValueError.__new__"))
    (saU : PySem.W.findIn K (.ref CU) "__setattr__" = some (some (.builtin "object.__setattr__")))
    (gaU : PySem.W.findIn K (.ref CU) "__getattribute__" = some (some (.builtin "BaseException.__getattribute__")))
    (ggU : PySem.W.findIn K (.ref CU) "__getattr__" = some none)
    (gcU : PySem.W.findIn K (.ref CU) "__class__" = some (some (.builtin "object.__class__")))
    (tyU : PySem.W.typeIn K (.ref CU) = some (.type "type"))
    (kpU : PySem.W.keepIn K (.ref CU) = true)
    (gL : PySem.W.nsIn K mainGlobals "BadLine" = some (some (.ref CL)))
    (xL : K.lookup CL = some (excClassObj nmL qL CL NL bsL [.ref CT, .type "ValueError", .type "Exception", .type "BaseException", .type "object"] true snL subL abL colL ddL m0L m1L m2L m3L m5L "ValueError.__new__"))
    (saL : PySem.W.findIn K (.ref CL) "__setattr__" = some (some (.builtin "object.__setattr__")))
    (gaL : PySem.W.findIn K (.ref CL) "__getattribute__" = some (some (.builtin "BaseException.__getattribute__")))
    (ggL : PySem.W.findIn K (.ref CL) "__getattr__" = some none)
    (gcL : PySem.W.findIn K (.ref CL) "__class__" = some (some (.builtin "object.__class__")))
    (tyL : PySem.W.typeIn K (.ref CL) = some (.type "type"))
    (kpL : PySem.W.keepIn K (.ref CL) = true)
    (gF : PySem.W.nsIn K mainGlobals "Refused" = some (some (.ref CF)))
    (xF : K.lookup CF = some (excClassObj nmF qF CF NF bsF [.ref CT, .type "ValueError", .type "Exception", .type "BaseException", .type "object"] true snF subF abF colF ddF m0F m1F m2F m3F m5F "ValueError.__new__"))
    (saF : PySem.W.findIn K (.ref CF) "__setattr__" = some (some (.builtin "object.__setattr__")))
    (gaF : PySem.W.findIn K (.ref CF) "__getattribute__" = some (some (.builtin "BaseException.__getattribute__")))
    (ggF : PySem.W.findIn K (.ref CF) "__getattr__" = some none)
    (gcF : PySem.W.findIn K (.ref CF) "__class__" = some (some (.builtin "object.__class__")))
    (tyF : PySem.W.typeIn K (.ref CF) = some (.type "type"))
    (kpF : PySem.W.keepIn K (.ref CF) = true)
    (gM : PySem.W.nsIn K mainGlobals "TooMany" = some (some (.ref CM)))
    (xM : K.lookup CM = some (excClassObj nmM qM CM NM bsM [.ref CT, .type "ValueError", .type "Exception", .type "BaseException", .type "object"] true snM subM abM colM ddM m0M m1M m2M m3M m5M "ValueError.__new__"))
    (saM : PySem.W.findIn K (.ref CM) "__setattr__" = some (some (.builtin "object.__setattr__")))
    (gaM : PySem.W.findIn K (.ref CM) "__getattribute__" = some (some (.builtin "BaseException.__getattribute__")))
    (ggM : PySem.W.findIn K (.ref CM) "__getattr__" = some none)
    (gcM : PySem.W.findIn K (.ref CM) "__class__" = some (some (.builtin "object.__class__")))
    (tyM : PySem.W.typeIn K (.ref CM) = some (.type "type"))
    (kpM : PySem.W.keepIn K (.ref CM) = true)
    (nK0 : PySem.W.findIn K (.ref CK) "kind" = some none)
    (aIK : PySem.W.findIn K (.ref CK) "__init__" = some (some (.ref fIK)))
    (lIK : K.lookup fIK = some ⟨ocIK, odIK, .func (PySem.W.fnOf "__init__" "BadKind.__init__" (defArgs (inClass (top 2) 0)) (defBody (inClass (top 2) 0)) (defScope (inClass (top 2) 0)) .none kVIK dcIK pmIK anIK cdIK ctIK), slIK⟩)
    (cIK : PySem.W.codeIn K cdIK "BadKind.__init__" = true)
    (kIK : PySem.W.keepIn K (.ref fIK) = true)
    (tIK : PySem.W.typeIn K (.ref fIK) = some (.type "function"))
    (nU0 : PySem.W.findIn K (.ref CU) "ups" = some none)
    (aIU : PySem.W.findIn K (.ref CU) "__init__" = some (some (.ref fIU)))
    (lIU : K.lookup fIU = some ⟨ocIU, odIU, .func (PySem.W.fnOf "__init__" "BadUps.__init__" (defArgs (inClass (top 3) 0)) (defBody (inClass (top 3) 0)) (defScope (inClass (top 3) 0)) .none kVIU dcIU pmIU anIU cdIU ctIU), slIU⟩)
    (cIU : PySem.W.codeIn K cdIU "BadUps.__init__" = true)
    (kIU : PySem.W.keepIn K (.ref fIU) = true)
    (tIU : PySem.W.typeIn K (.ref fIU) = some (.type "function"))
    (nL0 : PySem.W.findIn K (.ref CL) "line" = some none)
    (aIL : PySem.W.findIn K (.ref CL) "__init__" = some (some (.ref fIL)))
    (lIL : K.lookup fIL = some ⟨ocIL, odIL, .func (PySem.W.fnOf "__init__" "BadLine.__init__" (defArgs (inClass (top 4) 0)) (defBody (inClass (top 4) 0)) (defScope (inClass (top 4) 0)) .none kVIL dcIL pmIL anIL cdIL ctIL), slIL⟩)
    (cIL : PySem.W.codeIn K cdIL "BadLine.__init__" = true)
    (kIL : PySem.W.keepIn K (.ref fIL) = true)
    (tIL : PySem.W.typeIn K (.ref fIL) = some (.type "function"))
    (nF0 : PySem.W.findIn K (.ref CF) "line" = some none)
    (aIF : PySem.W.findIn K (.ref CF) "__init__" = some (some (.ref fIF)))
    (lIF : K.lookup fIF = some ⟨ocIF, odIF, .func (PySem.W.fnOf "__init__" "Refused.__init__" (defArgs (inClass (top 5) 0)) (defBody (inClass (top 5) 0)) (defScope (inClass (top 5) 0)) .none kVIF dcIF pmIF anIF cdIF ctIF), slIF⟩)
    (cIF : PySem.W.codeIn K cdIF "Refused.__init__" = true)
    (kIF : PySem.W.keepIn K (.ref fIF) = true)
    (tIF : PySem.W.typeIn K (.ref fIF) = some (.type "function"))
    (nM0 : PySem.W.findIn K (.ref CM) "what" = some none)
    (nM1 : PySem.W.findIn K (.ref CM) "many" = some none)
    (nM2 : PySem.W.findIn K (.ref CM) "most" = some none)
    (aIM : PySem.W.findIn K (.ref CM) "__init__" = some (some (.ref fIM)))
    (lIM : K.lookup fIM = some ⟨ocIM, odIM, .func (PySem.W.fnOf "__init__" "TooMany.__init__" (defArgs (inClass (top 6) 0)) (defBody (inClass (top 6) 0)) (defScope (inClass (top 6) 0)) .none kVIM dcIM pmIM anIM cdIM ctIM), slIM⟩)
    (cIM : PySem.W.codeIn K cdIM "TooMany.__init__" = true)
    (kIM : PySem.W.keepIn K (.ref fIM) = true)
    (tIM : PySem.W.typeIn K (.ref fIM) = some (.type "function"))
    (hn : PySem.W.specialIn K (.builtin "object.__class__") "__get__" = some (some (.builtin "getset_descriptor.__get__")))
    (ht : PySem.W.takesIn K (.builtin "object.__class__") = some true)
    (gR : PySem.W.nsIn K mainGlobals "Row" = some (some (.ref Cr)))
    (pgR : PySem.W.plainGet K Cr Str.empty = true)
    (hdR : PySem.W.hasDictIn K Cr = true)
    (poR : PySem.W.plainOver K Cr = true)
    (saR : PySem.W.findIn K (.ref Cr) "__setattr__" = some (some (.builtin "object.__setattr__")))
    (mkR : PySem.W.makesIn K Cr = true)
    (kpR : PySem.W.keepIn K (.ref Cr) = true)
    (nR_number : PySem.W.findIn K (.ref Cr) "number" = some none)
    (nR_said : PySem.W.findIn K (.ref Cr) "said" = some none)
    (nR_body : PySem.W.findIn K (.ref Cr) "body" = some none)
    (nR_other : PySem.W.findIn K (.ref Cr) "other" = some none)
    (nR_has_else : PySem.W.findIn K (.ref Cr) "has_else" = some none)
    (aIR : PySem.W.findIn K (.ref Cr) "__init__" = some (some (.ref fIR)))
    (lIR : K.lookup fIR = some ⟨ocIR, odIR, .func (PySem.W.fnOf "__init__" "Row.__init__" (defArgs (inClass (top 38) 0)) (defBody (inClass (top 38) 0)) (defScope (inClass (top 38) 0)) .none kVIR dcIR pmIR anIR cdIR ctIR), slIR⟩)
    (cIR : PySem.W.codeIn K cdIR "Row.__init__" = true)
    (kIR : PySem.W.keepIn K (.ref fIR) = true)
    (tIR : PySem.W.isFn K (.ref fIR) = true)
    (gA : PySem.W.nsIn K mainGlobals "Answers" = some (some (.ref CA)))
    (pgA : PySem.W.plainGet K CA Str.empty = true)
    (hdA : PySem.W.hasDictIn K CA = true)
    (poA : PySem.W.plainOver K CA = true)
    (saA : PySem.W.findIn K (.ref CA) "__setattr__" = some (some (.builtin "object.__setattr__")))
    (mkA : PySem.W.makesIn K CA = true)
    (kpA : PySem.W.keepIn K (.ref CA) = true)
    (nA_notes : PySem.W.findIn K (.ref CA) "notes" = some none)
    (aIA : PySem.W.findIn K (.ref CA) "__init__" = some (some (.ref fIA)))
    (lIA : K.lookup fIA = some ⟨ocIA, odIA, .func (PySem.W.fnOf "__init__" "Answers.__init__" (defArgs (inClass (top 80) 0)) (defBody (inClass (top 80) 0)) (defScope (inClass (top 80) 0)) .none kVIA dcIA pmIA anIA cdIA ctIA), slIA⟩)
    (cIA : PySem.W.codeIn K cdIA "Answers.__init__" = true)
    (kIA : PySem.W.keepIn K (.ref fIA) = true)
    (tIA : PySem.W.isFn K (.ref fIA) = true)
    (gC : PySem.W.nsIn K mainGlobals "Code" = some (some (.ref C)))
    (pgC : PySem.W.plainGet K C Str.empty = true)
    (hdC : PySem.W.hasDictIn K C = true)
    (poC : PySem.W.plainOver K C = true)
    (saC : PySem.W.findIn K (.ref C) "__setattr__" = some (some (.builtin "object.__setattr__")))
    (mkC : PySem.W.makesIn K C = true)
    (kpC : PySem.W.keepIn K (.ref C) = true)
    (nC_kind : PySem.W.findIn K (.ref C) "kind" = some none)
    (nC_ups : PySem.W.findIn K (.ref C) "ups" = some none)
    (nC_text : PySem.W.findIn K (.ref C) "text" = some none)
    (nC__lines : PySem.W.findIn K (.ref C) "_lines" = some none)
    (nC_answers : PySem.W.findIn K (.ref C) "answers" = some none)
    (nC_body : PySem.W.findIn K (.ref C) "body" = some none)
    (nC_steps : PySem.W.findIn K (.ref C) "steps" = some none)
    (aIC : PySem.W.findIn K (.ref C) "__init__" = some (some (.ref fIC)))
    (lIC : K.lookup fIC = some ⟨ocIC, odIC, .func (PySem.W.fnOf "__init__" "Code.__init__" (defArgs (inClass (top 81) 0)) (defBody (inClass (top 81) 0)) (defScope (inClass (top 81) 0)) (.ref dT) kVIC dcIC pmIC anIC cdIC ctIC), slIC⟩)
    (cIC : PySem.W.codeIn K cdIC "Code.__init__" = true)
    (kIC : PySem.W.keepIn K (.ref fIC) = true)
    (ldT : K.lookup dT = some ⟨.type "tuple", ddZ, .seq #[.bool true] nZ, slZ⟩)
    (tIC : PySem.W.isFn K (.ref fIC) = true)
    (aLn : PySem.W.findIn K (.ref C) "__len__" = some (some (.ref fLn)))
    (lLn : K.lookup fLn = some ⟨ocLn, odLn, .func (PySem.W.fnOf "__len__" "Code.__len__" (defArgs (inClass (top 81) 1)) (defBody (inClass (top 81) 1)) (defScope (inClass (top 81) 1)) .none kVLn dcLn pmLn anLn cdLn ctLn), slLn⟩)
    (cLn : PySem.W.codeIn K cdLn "Code.__len__" = true)
    (kLn : PySem.W.keepIn K (.ref fLn) = true)
    (tLn : PySem.W.isFn K (.ref fLn) = true)
    (aGt : PySem.W.findIn K (.ref C) "__getitem__" = some (some (.ref fGt)))
    (lGt : K.lookup fGt = some ⟨ocGt, odGt, .func (PySem.W.fnOf "__getitem__" "Code.__getitem__" (defArgs (inClass (top 81) 2)) (defBody (inClass (top 81) 2)) (defScope (inClass (top 81) 2)) .none kVGt dcGt pmGt anGt cdGt ctGt), slGt⟩)
    (cGt : PySem.W.codeIn K cdGt "Code.__getitem__" = true)
    (kGt : PySem.W.keepIn K (.ref fGt) = true)
    (tGt : PySem.W.isFn K (.ref fGt) = true)
    (aEq : PySem.W.findIn K (.ref C) "__eq__" = some (some (.ref fEq)))
    (lEq : K.lookup fEq = some ⟨ocEq, odEq, .func (PySem.W.fnOf "__eq__" "Code.__eq__" (defArgs (inClass (top 81) 3)) (defBody (inClass (top 81) 3)) (defScope (inClass (top 81) 3)) .none kVEq dcEq pmEq anEq cdEq ctEq), slEq⟩)
    (cEq : PySem.W.codeIn K cdEq "Code.__eq__" = true)
    (kEq : PySem.W.keepIn K (.ref fEq) = true)
    (tEq : PySem.W.isFn K (.ref fEq) = true)
    (fnG : PySem.W.fnIn K fGt = true)
    (neC : PySem.W.findIn K (.ref C) "__ne__" = some (some (.builtin "object.__ne__")))
    (moC : PySem.W.mroIn K C (.type "object") = some true)
    (clC : PySem.W.findIn K (.ref C) "__class__" = some (some (.builtin "object.__class__")))
    (icC : PySem.W.isClsIn K C = true)
    (tyC : PySem.W.typeIn K (.ref C) = some (.type "type"))
    (aD20 : PySem.W.nsIn K mainGlobals "read_line" = some (some (.ref fD20)))
    (lD20 : K.lookup fD20 = some ⟨ocD20, odD20, .func (PySem.W.fnOf "read_line" "read_line" (defArgs (top 20)) (defBody (top 20)) (defScope (top 20)) .none kVD20 dcD20 pmD20 anD20 cdD20 ctD20), slD20⟩)
    (cD20 : PySem.W.codeIn K cdD20 "read_line" = true)
    (kD20 : PySem.W.keepIn K (.ref fD20) = true)
    (aD21 : PySem.W.nsIn K mainGlobals "read_asking" = some (some (.ref fD21)))
    (lD21 : K.lookup fD21 = some ⟨ocD21, odD21, .func (PySem.W.fnOf "read_asking" "read_asking" (defArgs (top 21)) (defBody (top 21)) (defScope (top 21)) .none kVD21 dcD21 pmD21 anD21 cdD21 ctD21), slD21⟩)
    (cD21 : PySem.W.codeIn K cdD21 "read_asking" = true)
    (kD21 : PySem.W.keepIn K (.ref fD21) = true)
    (aD22 : PySem.W.nsIn K mainGlobals "read_outside" = some (some (.ref fD22)))
    (lD22 : K.lookup fD22 = some ⟨ocD22, odD22, .func (PySem.W.fnOf "read_outside" "read_outside" (defArgs (top 22)) (defBody (top 22)) (defScope (top 22)) .none kVD22 dcD22 pmD22 anD22 cdD22 ctD22), slD22⟩)
    (cD22 : PySem.W.codeIn K cdD22 "read_outside" = true)
    (kD22 : PySem.W.keepIn K (.ref fD22) = true)
    (aD23 : PySem.W.nsIn K mainGlobals "read_setting" = some (some (.ref fD23)))
    (lD23 : K.lookup fD23 = some ⟨ocD23, odD23, .func (PySem.W.fnOf "read_setting" "read_setting" (defArgs (top 23)) (defBody (top 23)) (defScope (top 23)) .none kVD23 dcD23 pmD23 anD23 cdD23 ctD23), slD23⟩)
    (cD23 : PySem.W.codeIn K cdD23 "read_setting" = true)
    (kD23 : PySem.W.keepIn K (.ref fD23) = true)
    (aD24 : PySem.W.nsIn K mainGlobals "read_within" = some (some (.ref fD24)))
    (lD24 : K.lookup fD24 = some ⟨ocD24, odD24, .func (PySem.W.fnOf "read_within" "read_within" (defArgs (top 24)) (defBody (top 24)) (defScope (top 24)) .none kVD24 dcD24 pmD24 anD24 cdD24 ctD24), slD24⟩)
    (cD24 : PySem.W.codeIn K cdD24 "read_within" = true)
    (kD24 : PySem.W.keepIn K (.ref fD24) = true)
    (aD25 : PySem.W.nsIn K mainGlobals "steps_of_lines" = some (some (.ref fD25)))
    (lD25 : K.lookup fD25 = some ⟨ocD25, odD25, .func (PySem.W.fnOf "steps_of" "steps_of" (defArgs (top 25)) (defBody (top 25)) (defScope (top 25)) .none kVD25 dcD25 pmD25 anD25 cdD25 ctD25), slD25⟩)
    (cD25 : PySem.W.codeIn K cdD25 "steps_of" = true)
    (kD25 : PySem.W.keepIn K (.ref fD25) = true)
    (aD27 : PySem.W.nsIn K mainGlobals "read_link" = some (some (.ref fD27)))
    (lD27 : K.lookup fD27 = some ⟨ocD27, odD27, .func (PySem.W.fnOf "read_link" "read_link" (defArgs (top 27)) (defBody (top 27)) (defScope (top 27)) .none kVD27 dcD27 pmD27 anD27 cdD27 ctD27), slD27⟩)
    (cD27 : PySem.W.codeIn K cdD27 "read_link" = true)
    (kD27 : PySem.W.keepIn K (.ref fD27) = true)
    (aD28 : PySem.W.nsIn K mainGlobals "read_term" = some (some (.ref fD28)))
    (lD28 : K.lookup fD28 = some ⟨ocD28, odD28, .func (PySem.W.fnOf "read_term" "read_term" (defArgs (top 28)) (defBody (top 28)) (defScope (top 28)) .none kVD28 dcD28 pmD28 anD28 cdD28 ctD28), slD28⟩)
    (cD28 : PySem.W.codeIn K cdD28 "read_term" = true)
    (kD28 : PySem.W.keepIn K (.ref fD28) = true)
    (aD29 : PySem.W.nsIn K mainGlobals "read_test" = some (some (.ref fD29)))
    (lD29 : K.lookup fD29 = some ⟨ocD29, odD29, .func (PySem.W.fnOf "read_test" "read_test" (defArgs (top 29)) (defBody (top 29)) (defScope (top 29)) .none kVD29 dcD29 pmD29 anD29 cdD29 ctD29), slD29⟩)
    (cD29 : PySem.W.codeIn K cdD29 "read_test" = true)
    (kD29 : PySem.W.keepIn K (.ref fD29) = true)
    (aD30 : PySem.W.nsIn K mainGlobals "parted" = some (some (.ref fD30)))
    (lD30 : K.lookup fD30 = some ⟨ocD30, odD30, .func (PySem.W.fnOf "parted" "parted" (defArgs (top 30)) (defBody (top 30)) (defScope (top 30)) .none kVD30 dcD30 pmD30 anD30 cdD30 ctD30), slD30⟩)
    (cD30 : PySem.W.codeIn K cdD30 "parted" = true)
    (kD30 : PySem.W.keepIn K (.ref fD30) = true)
    (aD31 : PySem.W.nsIn K mainGlobals "read_part" = some (some (.ref fD31)))
    (lD31 : K.lookup fD31 = some ⟨ocD31, odD31, .func (PySem.W.fnOf "read_part" "read_part" (defArgs (top 31)) (defBody (top 31)) (defScope (top 31)) .none kVD31 dcD31 pmD31 anD31 cdD31 ctD31), slD31⟩)
    (cD31 : PySem.W.codeIn K cdD31 "read_part" = true)
    (kD31 : PySem.W.keepIn K (.ref fD31) = true)
    (aD32 : PySem.W.nsIn K mainGlobals "read_asked" = some (some (.ref fD32)))
    (lD32 : K.lookup fD32 = some ⟨ocD32, odD32, .func (PySem.W.fnOf "read_asked" "read_asked" (defArgs (top 32)) (defBody (top 32)) (defScope (top 32)) .none kVD32 dcD32 pmD32 anD32 cdD32 ctD32), slD32⟩)
    (cD32 : PySem.W.codeIn K cdD32 "read_asked" = true)
    (kD32 : PySem.W.keepIn K (.ref fD32) = true)
    (aD33 : PySem.W.nsIn K mainGlobals "read_less" = some (some (.ref fD33)))
    (lD33 : K.lookup fD33 = some ⟨ocD33, odD33, .func (PySem.W.fnOf "read_less" "read_less" (defArgs (top 33)) (defBody (top 33)) (defScope (top 33)) .none kVD33 dcD33 pmD33 anD33 cdD33 ctD33), slD33⟩)
    (cD33 : PySem.W.codeIn K cdD33 "read_less" = true)
    (kD33 : PySem.W.keepIn K (.ref fD33) = true)
    (aD34 : PySem.W.nsIn K mainGlobals "read_equal" = some (some (.ref fD34)))
    (lD34 : K.lookup fD34 = some ⟨ocD34, odD34, .func (PySem.W.fnOf "read_equal" "read_equal" (defArgs (top 34)) (defBody (top 34)) (defScope (top 34)) .none kVD34 dcD34 pmD34 anD34 cdD34 ctD34), slD34⟩)
    (cD34 : PySem.W.codeIn K cdD34 "read_equal" = true)
    (kD34 : PySem.W.keepIn K (.ref fD34) = true)
    (aD35 : PySem.W.nsIn K mainGlobals "read_same" = some (some (.ref fD35)))
    (lD35 : K.lookup fD35 = some ⟨ocD35, odD35, .func (PySem.W.fnOf "read_same" "read_same" (defArgs (top 35)) (defBody (top 35)) (defScope (top 35)) .none kVD35 dcD35 pmD35 anD35 cdD35 ctD35), slD35⟩)
    (cD35 : PySem.W.codeIn K cdD35 "read_same" = true)
    (kD35 : PySem.W.keepIn K (.ref fD35) = true)
    (aD36 : PySem.W.nsIn K mainGlobals "asked_within" = some (some (.ref fD36)))
    (lD36 : K.lookup fD36 = some ⟨ocD36, odD36, .func (PySem.W.fnOf "asked_within" "asked_within" (defArgs (top 36)) (defBody (top 36)) (defScope (top 36)) .none kVD36 dcD36 pmD36 anD36 cdD36 ctD36), slD36⟩)
    (cD36 : PySem.W.codeIn K cdD36 "asked_within" = true)
    (kD36 : PySem.W.keepIn K (.ref fD36) = true)
    (aD39 : PySem.W.nsIn K mainGlobals "read_blocks" = some (some (.ref fD39)))
    (lD39 : K.lookup fD39 = some ⟨ocD39, odD39, .func (PySem.W.fnOf "read_blocks" "read_blocks" (defArgs (top 39)) (defBody (top 39)) (defScope (top 39)) .none kVD39 dcD39 pmD39 anD39 cdD39 ctD39), slD39⟩)
    (cD39 : PySem.W.codeIn K cdD39 "read_blocks" = true)
    (kD39 : PySem.W.keepIn K (.ref fD39) = true)
    (aD40 : PySem.W.nsIn K mainGlobals "place_in" = some (some (.ref fD40)))
    (lD40 : K.lookup fD40 = some ⟨ocD40, odD40, .func (PySem.W.fnOf "place_in" "place_in" (defArgs (top 40)) (defBody (top 40)) (defScope (top 40)) .none kVD40 dcD40 pmD40 anD40 cdD40 ctD40), slD40⟩)
    (cD40 : PySem.W.codeIn K cdD40 "place_in" = true)
    (kD40 : PySem.W.keepIn K (.ref fD40) = true)
    (aD41 : PySem.W.nsIn K mainGlobals "fits" = some (some (.ref fD41)))
    (lD41 : K.lookup fD41 = some ⟨ocD41, odD41, .func (PySem.W.fnOf "fits" "fits" (defArgs (top 41)) (defBody (top 41)) (defScope (top 41)) .none kVD41 dcD41 pmD41 anD41 cdD41 ctD41), slD41⟩)
    (cD41 : PySem.W.codeIn K cdD41 "fits" = true)
    (kD41 : PySem.W.keepIn K (.ref fD41) = true)
    (aD42 : PySem.W.nsIn K mainGlobals "take_in" = some (some (.ref fD42)))
    (lD42 : K.lookup fD42 = some ⟨ocD42, odD42, .func (PySem.W.fnOf "take_in" "take_in" (defArgs (top 42)) (defBody (top 42)) (defScope (top 42)) .none kVD42 dcD42 pmD42 anD42 cdD42 ctD42), slD42⟩)
    (cD42 : PySem.W.codeIn K cdD42 "take_in" = true)
    (kD42 : PySem.W.keepIn K (.ref fD42) = true)
    (aD43 : PySem.W.nsIn K mainGlobals "count_ifs" = some (some (.ref fD43)))
    (lD43 : K.lookup fD43 = some ⟨ocD43, odD43, .func (PySem.W.fnOf "count_ifs" "count_ifs" (defArgs (top 43)) (defBody (top 43)) (defScope (top 43)) .none kVD43 dcD43 pmD43 anD43 cdD43 ctD43), slD43⟩)
    (cD43 : PySem.W.codeIn K cdD43 "count_ifs" = true)
    (kD43 : PySem.W.keepIn K (.ref fD43) = true)
    (aD51 : PySem.W.nsIn K mainGlobals "least_fault" = some (some (.ref fD51)))
    (lD51 : K.lookup fD51 = some ⟨ocD51, odD51, .func (PySem.W.fnOf "least_fault" "least_fault" (defArgs (top 51)) (defBody (top 51)) (defScope (top 51)) .none kVD51 dcD51 pmD51 anD51 cdD51 ctD51), slD51⟩)
    (cD51 : PySem.W.codeIn K cdD51 "least_fault" = true)
    (kD51 : PySem.W.keepIn K (.ref fD51) = true)
    (aD52 : PySem.W.nsIn K mainGlobals "barred_lines" = some (some (.ref fD52)))
    (lD52 : K.lookup fD52 = some ⟨ocD52, odD52, .func (PySem.W.fnOf "barred_lines" "barred_lines" (defArgs (top 52)) (defBody (top 52)) (defScope (top 52)) .none kVD52 dcD52 pmD52 anD52 cdD52 ctD52), slD52⟩)
    (cD52 : PySem.W.codeIn K cdD52 "barred_lines" = true)
    (kD52 : PySem.W.keepIn K (.ref fD52) = true)
    (aD53 : PySem.W.nsIn K mainGlobals "ways_through" = some (some (.ref fD53)))
    (lD53 : K.lookup fD53 = some ⟨ocD53, odD53, .func (PySem.W.fnOf "ways_through" "ways_through" (defArgs (top 53)) (defBody (top 53)) (defScope (top 53)) .none kVD53 dcD53 pmD53 anD53 cdD53 ctD53), slD53⟩)
    (cD53 : PySem.W.codeIn K cdD53 "ways_through" = true)
    (kD53 : PySem.W.keepIn K (.ref fD53) = true)
    (aD54 : PySem.W.nsIn K mainGlobals "branches_of" = some (some (.ref fD54)))
    (lD54 : K.lookup fD54 = some ⟨ocD54, odD54, .func (PySem.W.fnOf "branches_of" "branches_of" (defArgs (top 54)) (defBody (top 54)) (defScope (top 54)) .none kVD54 dcD54 pmD54 anD54 cdD54 ctD54), slD54⟩)
    (cD54 : PySem.W.codeIn K cdD54 "branches_of" = true)
    (kD54 : PySem.W.keepIn K (.ref fD54) = true)
    (aD55 : PySem.W.nsIn K mainGlobals "is_over" = some (some (.ref fD55)))
    (lD55 : K.lookup fD55 = some ⟨ocD55, odD55, .func (PySem.W.fnOf "is_over" "is_over" (defArgs (top 55)) (defBody (top 55)) (defScope (top 55)) .none kVD55 dcD55 pmD55 anD55 cdD55 ctD55), slD55⟩)
    (cD55 : PySem.W.codeIn K cdD55 "is_over" = true)
    (kD55 : PySem.W.keepIn K (.ref fD55) = true)
    (aD56 : PySem.W.nsIn K mainGlobals "is_loop" = some (some (.ref fD56)))
    (lD56 : K.lookup fD56 = some ⟨ocD56, odD56, .func (PySem.W.fnOf "is_loop" "is_loop" (defArgs (top 56)) (defBody (top 56)) (defScope (top 56)) .none kVD56 dcD56 pmD56 anD56 cdD56 ctD56), slD56⟩)
    (cD56 : PySem.W.codeIn K cdD56 "is_loop" = true)
    (kD56 : PySem.W.keepIn K (.ref fD56) = true)
    (aD57 : PySem.W.nsIn K mainGlobals "note_loops" = some (some (.ref fD57)))
    (lD57 : K.lookup fD57 = some ⟨ocD57, odD57, .func (PySem.W.fnOf "note_loops" "note_loops" (defArgs (top 57)) (defBody (top 57)) (defScope (top 57)) .none kVD57 dcD57 pmD57 anD57 cdD57 ctD57), slD57⟩)
    (cD57 : PySem.W.codeIn K cdD57 "note_loops" = true)
    (kD57 : PySem.W.keepIn K (.ref fD57) = true)
    (aD58 : PySem.W.nsIn K mainGlobals "faults_on_way" = some (some (.ref fD58)))
    (lD58 : K.lookup fD58 = some ⟨ocD58, odD58, .func (PySem.W.fnOf "faults_on_way" "faults_on_way" (defArgs (top 58)) (defBody (top 58)) (defScope (top 58)) .none kVD58 dcD58 pmD58 anD58 cdD58 ctD58), slD58⟩)
    (cD58 : PySem.W.codeIn K cdD58 "faults_on_way" = true)
    (kD58 : PySem.W.keepIn K (.ref fD58) = true)
    (aD59 : PySem.W.nsIn K mainGlobals "reads_root" = some (some (.ref fD59)))
    (lD59 : K.lookup fD59 = some ⟨ocD59, odD59, .func (PySem.W.fnOf "reads_root" "reads_root" (defArgs (top 59)) (defBody (top 59)) (defScope (top 59)) .none kVD59 dcD59 pmD59 anD59 cdD59 ctD59), slD59⟩)
    (cD59 : PySem.W.codeIn K cdD59 "reads_root" = true)
    (kD59 : PySem.W.keepIn K (.ref fD59) = true)
    (aD60 : PySem.W.nsIn K mainGlobals "reads_link" = some (some (.ref fD60)))
    (lD60 : K.lookup fD60 = some ⟨ocD60, odD60, .func (PySem.W.fnOf "reads_link" "reads_link" (defArgs (top 60)) (defBody (top 60)) (defScope (top 60)) .none kVD60 dcD60 pmD60 anD60 cdD60 ctD60), slD60⟩)
    (cD60 : PySem.W.codeIn K cdD60 "reads_link" = true)
    (kD60 : PySem.W.keepIn K (.ref fD60) = true)
    (aD61 : PySem.W.nsIn K mainGlobals "is_write" = some (some (.ref fD61)))
    (lD61 : K.lookup fD61 = some ⟨ocD61, odD61, .func (PySem.W.fnOf "is_write" "is_write" (defArgs (top 61)) (defBody (top 61)) (defScope (top 61)) .none kVD61 dcD61 pmD61 anD61 cdD61 ctD61), slD61⟩)
    (cD61 : PySem.W.codeIn K cdD61 "is_write" = true)
    (kD61 : PySem.W.keepIn K (.ref fD61) = true)
    (aD62 : PySem.W.nsIn K mainGlobals "may_stand" = some (some (.ref fD62)))
    (lD62 : K.lookup fD62 = some ⟨ocD62, odD62, .func (PySem.W.fnOf "may_stand" "may_stand" (defArgs (top 62)) (defBody (top 62)) (defScope (top 62)) .none kVD62 dcD62 pmD62 anD62 cdD62 ctD62), slD62⟩)
    (cD62 : PySem.W.codeIn K cdD62 "may_stand" = true)
    (kD62 : PySem.W.keepIn K (.ref fD62) = true)
    (aD63 : PySem.W.nsIn K mainGlobals "right_steps" = some (some (.ref fD63)))
    (lD63 : K.lookup fD63 = some ⟨ocD63, odD63, .func (PySem.W.fnOf "right_steps" "right_steps" (defArgs (top 63)) (defBody (top 63)) (defScope (top 63)) .none kVD63 dcD63 pmD63 anD63 cdD63 ctD63), slD63⟩)
    (cD63 : PySem.W.codeIn K cdD63 "right_steps" = true)
    (kD63 : PySem.W.keepIn K (.ref fD63) = true)
    (aD64 : PySem.W.nsIn K mainGlobals "sets_at" = some (some (.ref fD64)))
    (lD64 : K.lookup fD64 = some ⟨ocD64, odD64, .func (PySem.W.fnOf "sets_at" "sets_at" (defArgs (top 64)) (defBody (top 64)) (defScope (top 64)) .none kVD64 dcD64 pmD64 anD64 cdD64 ctD64), slD64⟩)
    (cD64 : PySem.W.codeIn K cdD64 "sets_at" = true)
    (kD64 : PySem.W.keepIn K (.ref fD64) = true)
    (aD65 : PySem.W.nsIn K mainGlobals "are_right_ahead" = some (some (.ref fD65)))
    (lD65 : K.lookup fD65 = some ⟨ocD65, odD65, .func (PySem.W.fnOf "are_right_ahead" "are_right_ahead" (defArgs (top 65)) (defBody (top 65)) (defScope (top 65)) .none kVD65 dcD65 pmD65 anD65 cdD65 ctD65), slD65⟩)
    (cD65 : PySem.W.codeIn K cdD65 "are_right_ahead" = true)
    (kD65 : PySem.W.keepIn K (.ref fD65) = true)
    (aD66 : PySem.W.nsIn K mainGlobals "faults_in_loop" = some (some (.ref fD66)))
    (lD66 : K.lookup fD66 = some ⟨ocD66, odD66, .func (PySem.W.fnOf "faults_in_loop" "faults_in_loop" (defArgs (top 66)) (defBody (top 66)) (defScope (top 66)) .none kVD66 dcD66 pmD66 anD66 cdD66 ctD66), slD66⟩)
    (cD66 : PySem.W.codeIn K cdD66 "faults_in_loop" = true)
    (kD66 : PySem.W.keepIn K (.ref fD66) = true)
    (aD67 : PySem.W.nsIn K mainGlobals "look_through" = some (some (.ref fD67)))
    (lD67 : K.lookup fD67 = some ⟨ocD67, odD67, .func (PySem.W.fnOf "look_through" "look_through" (defArgs (top 67)) (defBody (top 67)) (defScope (top 67)) .none kVD67 dcD67 pmD67 anD67 cdD67 ctD67), slD67⟩)
    (cD67 : PySem.W.codeIn K cdD67 "look_through" = true)
    (kD67 : PySem.W.keepIn K (.ref fD67) = true)
    (aD68 : PySem.W.nsIn K mainGlobals "behind_row" = some (some (.ref fD68)))
    (lD68 : K.lookup fD68 = some ⟨ocD68, odD68, .func (PySem.W.fnOf "behind_row" "behind_row" (defArgs (top 68)) (defBody (top 68)) (defScope (top 68)) .none kVD68 dcD68 pmD68 anD68 cdD68 ctD68), slD68⟩)
    (cD68 : PySem.W.codeIn K cdD68 "behind_row" = true)
    (kD68 : PySem.W.keepIn K (.ref fD68) = true)
    (aD69 : PySem.W.nsIn K mainGlobals "compared_in" = some (some (.ref fD69)))
    (lD69 : K.lookup fD69 = some ⟨ocD69, odD69, .func (PySem.W.fnOf "compared_in" "compared_in" (defArgs (top 69)) (defBody (top 69)) (defScope (top 69)) .none kVD69 dcD69 pmD69 anD69 cdD69 ctD69), slD69⟩)
    (cD69 : PySem.W.codeIn K cdD69 "compared_in" = true)
    (kD69 : PySem.W.keepIn K (.ref fD69) = true)
    (aD71 : PySem.W.nsIn K mainGlobals "steps_of_steps" = some (some (.ref fD71)))
    (lD71 : K.lookup fD71 = some ⟨ocD71, odD71, .func (PySem.W.fnOf "steps_of" "steps_of" (defArgs (top 71)) (defBody (top 71)) (defScope (top 71)) .none kVD71 dcD71 pmD71 anD71 cdD71 ctD71), slD71⟩)
    (cD71 : PySem.W.codeIn K cdD71 "steps_of" = true)
    (kD71 : PySem.W.keepIn K (.ref fD71) = true)
    (aD73 : PySem.W.nsIn K mainGlobals "lay_out" = some (some (.ref fD73)))
    (lD73 : K.lookup fD73 = some ⟨ocD73, odD73, .func (PySem.W.fnOf "lay_out" "lay_out" (defArgs (top 73)) (defBody (top 73)) (defScope (top 73)) .none kVD73 dcD73 pmD73 anD73 cdD73 ctD73), slD73⟩)
    (cD73 : PySem.W.codeIn K cdD73 "lay_out" = true)
    (kD73 : PySem.W.keepIn K (.ref fD73) = true)
    (aD74 : PySem.W.nsIn K mainGlobals "lay_out_if" = some (some (.ref fD74)))
    (lD74 : K.lookup fD74 = some ⟨ocD74, odD74, .func (PySem.W.fnOf "lay_out_if" "lay_out_if" (defArgs (top 74)) (defBody (top 74)) (defScope (top 74)) .none kVD74 dcD74 pmD74 anD74 cdD74 ctD74), slD74⟩)
    (cD74 : PySem.W.codeIn K cdD74 "lay_out_if" = true)
    (kD74 : PySem.W.keepIn K (.ref fD74) = true)
    (aD82 : PySem.W.nsIn K mainGlobals "check_kind" = some (some (.ref fD82)))
    (lD82 : K.lookup fD82 = some ⟨ocD82, odD82, .func (PySem.W.fnOf "check_kind" "check_kind" (defArgs (top 82)) (defBody (top 82)) (defScope (top 82)) .none kVD82 dcD82 pmD82 anD82 cdD82 ctD82), slD82⟩)
    (cD82 : PySem.W.codeIn K cdD82 "check_kind" = true)
    (kD82 : PySem.W.keepIn K (.ref fD82) = true)
    (aD83 : PySem.W.nsIn K mainGlobals "lines_of" = some (some (.ref fD83)))
    (lD83 : K.lookup fD83 = some ⟨ocD83, odD83, .func (PySem.W.fnOf "lines_of" "lines_of" (defArgs (top 83)) (defBody (top 83)) (defScope (top 83)) .none kVD83 dcD83 pmD83 anD83 cdD83 ctD83), slD83⟩)
    (cD83 : PySem.W.codeIn K cdD83 "lines_of" = true)
    (kD83 : PySem.W.keepIn K (.ref fD83) = true)
    (aD85 : PySem.W.nsIn K mainGlobals "_law_bag" = some (some (.ref fD85)))
    (lD85 : K.lookup fD85 = some ⟨ocD85, odD85, .func (PySem.W.fnOf "_law_bag" "_law_bag" (defArgs (top 85)) (defBody (top 85)) (defScope (top 85)) .none kVD85 dcD85 pmD85 anD85 cdD85 ctD85), slD85⟩)
    (cD85 : PySem.W.codeIn K cdD85 "_law_bag" = true)
    (kD85 : PySem.W.keepIn K (.ref fD85) = true)
    (aD86 : PySem.W.nsIn K mainGlobals "_law_draw" = some (some (.ref fD86)))
    (lD86 : K.lookup fD86 = some ⟨ocD86, odD86, .func (PySem.W.fnOf "_law_draw" "_law_draw" (defArgs (top 86)) (defBody (top 86)) (defScope (top 86)) .none kVD86 dcD86 pmD86 anD86 cdD86 ctD86), slD86⟩)
    (cD86 : PySem.W.codeIn K cdD86 "_law_draw" = true)
    (kD86 : PySem.W.keepIn K (.ref fD86) = true)
    (aD87 : PySem.W.nsIn K mainGlobals "_law_told" = some (some (.ref fD87)))
    (lD87 : K.lookup fD87 = some ⟨ocD87, odD87, .func (PySem.W.fnOf "_law_told" "_law_told" (defArgs (top 87)) (defBody (top 87)) (defScope (top 87)) .none kVD87 dcD87 pmD87 anD87 cdD87 ctD87), slD87⟩)
    (cD87 : PySem.W.codeIn K cdD87 "_law_told" = true)
    (kD87 : PySem.W.keepIn K (.ref fD87) = true)
    (aD88 : PySem.W.nsIn K mainGlobals "_law_lines" = some (some (.ref fD88)))
    (lD88 : K.lookup fD88 = some ⟨ocD88, odD88, .func (PySem.W.fnOf "_law_lines" "_law_lines" (defArgs (top 88)) (defBody (top 88)) (defScope (top 88)) .none kVD88 dcD88 pmD88 anD88 cdD88 ctD88), slD88⟩)
    (cD88 : PySem.W.codeIn K cdD88 "_law_lines" = true)
    (kD88 : PySem.W.keepIn K (.ref fD88) = true)
    (aD89 : PySem.W.nsIn K mainGlobals "_law_order_right" = some (some (.ref fD89)))
    (lD89 : K.lookup fD89 = some ⟨ocD89, odD89, .func (PySem.W.fnOf "_law_order_right" "_law_order_right" (defArgs (top 89)) (defBody (top 89)) (defScope (top 89)) .none kVD89 dcD89 pmD89 anD89 cdD89 ctD89), slD89⟩)
    (cD89 : PySem.W.codeIn K cdD89 "_law_order_right" = true)
    (kD89 : PySem.W.keepIn K (.ref fD89) = true)
    (aD90 : PySem.W.nsIn K mainGlobals "law" = some (some (.ref fD90)))
    (lD90 : K.lookup fD90 = some ⟨ocD90, odD90, .func (PySem.W.fnOf "law" "law" (defArgs (top 90)) (defBody (top 90)) (defScope (top 90)) .none kVD90 dcD90 pmD90 anD90 cdD90 ctD90), slD90⟩)
    (cD90 : PySem.W.codeIn K cdD90 "law" = true)
    (kD90 : PySem.W.keepIn K (.ref fD90) = true)
    (eREGISTERS : PySem.W.nsIn K mainGlobals "REGISTERS" = some (some (.ref sREGISTERS)))
    (sREGISTERS_l : K.lookup sREGISTERS = some ⟨.type "tuple", dsREGISTERS, .seq #[.str "at" tREGISTERS0, .str "par" tREGISTERS1, .str "top" tREGISTERS2, .str "low" tREGISTERS3, .str "out" tREGISTERS4] nsREGISTERS, ssREGISTERS⟩)
    (eKEPT : PySem.W.nsIn K mainGlobals "KEPT" = some (some (.ref sKEPT)))
    (sKEPT_l : K.lookup sKEPT = some ⟨.type "tuple", dsKEPT, .seq #[.str "par" tKEPT0, .str "top" tKEPT1, .str "low" tKEPT2, .str "out" tKEPT3] nsKEPT, ssKEPT⟩)
    (eHOLDERS : PySem.W.nsIn K mainGlobals "HOLDERS" = some (some (.ref sHOLDERS)))
    (sHOLDERS_l : K.lookup sHOLDERS = some ⟨.type "tuple", dsHOLDERS, .seq #[.str "at" tHOLDERS0, .str "par" tHOLDERS1, .str "top" tHOLDERS2, .str "low" tHOLDERS3, .str "out" tHOLDERS4, .str "new" tHOLDERS5] nsHOLDERS, ssHOLDERS⟩)
    (eBARE : PySem.W.nsIn K mainGlobals "BARE" = some (some (.ref sBARE)))
    (sBARE_l : K.lookup sBARE = some ⟨.type "tuple", dsBARE, .seq #[.str "at" tBARE0, .str "par" tBARE1, .str "top" tBARE2, .str "low" tBARE3, .str "out" tBARE4, .str "new" tBARE5, .str "root" tBARE6, .str "none" tBARE7] nsBARE, ssBARE⟩)
    (eLED_TO : PySem.W.nsIn K mainGlobals "LED_TO" = some (some (.ref sLED_TO)))
    (sLED_TO_l : K.lookup sLED_TO = some ⟨.type "tuple", dsLED_TO, .seq #[.str "at" tLED_TO0, .str "par" tLED_TO1, .str "top" tLED_TO2, .str "low" tLED_TO3, .str "out" tLED_TO4, .str "new" tLED_TO5, .str "none" tLED_TO6] nsLED_TO, ssLED_TO⟩)
    (eCOMPARED : PySem.W.nsIn K mainGlobals "COMPARED" = some (some (.ref sCOMPARED)))
    (sCOMPARED_l : K.lookup sCOMPARED = some ⟨.type "tuple", dsCOMPARED, .seq #[.str "at" tCOMPARED0, .str "par" tCOMPARED1, .str "top" tCOMPARED2, .str "low" tCOMPARED3, .str "out" tCOMPARED4, .str "new" tCOMPARED5, .str "key" tCOMPARED6] nsCOMPARED, ssCOMPARED⟩)
    (eLINKS : PySem.W.nsIn K mainGlobals "LINKS" = some (some (.ref sLINKS)))
    (sLINKS_l : K.lookup sLINKS = some ⟨.type "tuple", dsLINKS, .seq #[.str "left" tLINKS0, .str "right" tLINKS1, .str "up" tLINKS2] nsLINKS, ssLINKS⟩)
    (eSIDES : PySem.W.nsIn K mainGlobals "SIDES" = some (some (.ref sSIDES)))
    (sSIDES_l : K.lookup sSIDES = some ⟨.type "tuple", dsSIDES, .seq #[.str "left" tSIDES0, .str "right" tSIDES1] nsSIDES, ssSIDES⟩)
    (eLOOPS : PySem.W.nsIn K mainGlobals "LOOPS" = some (some (.ref sLOOPS)))
    (sLOOPS_l : K.lookup sLOOPS = some ⟨.type "tuple", dsLOOPS, .seq #[.str "down" tLOOPS0, .str "up" tLOOPS1] nsLOOPS, ssLOOPS⟩)
    (eSEARCHES : PySem.W.nsIn K mainGlobals "SEARCHES" = some (some (.ref sSEARCHES)))
    (sSEARCHES_l : K.lookup sSEARCHES = some ⟨.type "tuple", dsSEARCHES, .seq #[.str "find" tSEARCHES0, .str "after" tSEARCHES1, .str "first" tSEARCHES2, .str "put" tSEARCHES3, .str "drop" tSEARCHES4] nsSEARCHES, ssSEARCHES⟩)
    (eKINDS : PySem.W.nsIn K mainGlobals "KINDS" = some (some (.ref sKINDS)))
    (sKINDS_l : K.lookup sKINDS = some ⟨.type "tuple", dsKINDS, .seq #[.str "find" tKINDS0, .str "after" tKINDS1, .str "first" tKINDS2, .str "next" tKINDS3, .str "put" tKINDS4, .str "take" tKINDS5, .str "drop" tKINDS6, .str "leave" tKINDS7] nsKINDS, ssKINDS⟩)
    (eKINDS_WITH_UPS : PySem.W.nsIn K mainGlobals "KINDS_WITH_UPS" = some (some (.ref sKINDS_WITH_UPS)))
    (sKINDS_WITH_UPS_l : K.lookup sKINDS_WITH_UPS = some ⟨.type "tuple", dsKINDS_WITH_UPS, .seq #[.str "next" tKINDS_WITH_UPS0, .str "take" tKINDS_WITH_UPS1, .str "leave" tKINDS_WITH_UPS2] nsKINDS_WITH_UPS, ssKINDS_WITH_UPS⟩)
    (eFROM_ROOT : PySem.W.nsIn K mainGlobals "FROM_ROOT" = some (some (.ref sFROM_ROOT)))
    (sFROM_ROOT_l : K.lookup sFROM_ROOT = some ⟨.type "tuple", dsFROM_ROOT, .seq #[.ref sFROM_ROOT_0] nsFROM_ROOT, ssFROM_ROOT⟩)
    (sFROM_ROOT_0_l : K.lookup sFROM_ROOT_0 = some ⟨.type "tuple", dsFROM_ROOT_0, .seq #[.ref sFROM_ROOT_0_0] nsFROM_ROOT_0, ssFROM_ROOT_0⟩)
    (sFROM_ROOT_0_0_l : K.lookup sFROM_ROOT_0_0 = some ⟨.type "tuple", dsFROM_ROOT_0_0, .seq #[.str "root" tFROM_ROOT_0_00, .none] nsFROM_ROOT_0_0, ssFROM_ROOT_0_0⟩)
    (eSTEP_DOWN : PySem.W.nsIn K mainGlobals "STEP_DOWN" = some (some (.ref sSTEP_DOWN)))
    (sSTEP_DOWN_l : K.lookup sSTEP_DOWN = some ⟨.type "tuple", dsSTEP_DOWN, .seq #[.ref sSTEP_DOWN_0, .ref sSTEP_DOWN_1] nsSTEP_DOWN, ssSTEP_DOWN⟩)
    (sSTEP_DOWN_0_l : K.lookup sSTEP_DOWN_0 = some ⟨.type "tuple", dsSTEP_DOWN_0, .seq #[.ref sSTEP_DOWN_0_0] nsSTEP_DOWN_0, ssSTEP_DOWN_0⟩)
    (sSTEP_DOWN_0_0_l : K.lookup sSTEP_DOWN_0_0 = some ⟨.type "tuple", dsSTEP_DOWN_0_0, .seq #[.str "at" tSTEP_DOWN_0_00, .str "left" tSTEP_DOWN_0_01] nsSTEP_DOWN_0_0, ssSTEP_DOWN_0_0⟩)
    (sSTEP_DOWN_1_l : K.lookup sSTEP_DOWN_1 = some ⟨.type "tuple", dsSTEP_DOWN_1, .seq #[.ref sSTEP_DOWN_1_0] nsSTEP_DOWN_1, ssSTEP_DOWN_1⟩)
    (sSTEP_DOWN_1_0_l : K.lookup sSTEP_DOWN_1_0 = some ⟨.type "tuple", dsSTEP_DOWN_1_0, .seq #[.str "at" tSTEP_DOWN_1_00, .str "right" tSTEP_DOWN_1_01] nsSTEP_DOWN_1_0, ssSTEP_DOWN_1_0⟩)
    (ePERHAPS_UP : PySem.W.nsIn K mainGlobals "PERHAPS_UP" = some (some (.ref sPERHAPS_UP)))
    (sPERHAPS_UP_l : K.lookup sPERHAPS_UP = some ⟨.type "tuple", dsPERHAPS_UP, .seq #[.ref sPERHAPS_UP_0, .ref sPERHAPS_UP_1] nsPERHAPS_UP, ssPERHAPS_UP⟩)
    (sPERHAPS_UP_0_l : K.lookup sPERHAPS_UP_0 = some ⟨.type "tuple", dsPERHAPS_UP_0, .seq #[] nsPERHAPS_UP_0, ssPERHAPS_UP_0⟩)
    (sPERHAPS_UP_1_l : K.lookup sPERHAPS_UP_1 = some ⟨.type "tuple", dsPERHAPS_UP_1, .seq #[.ref sPERHAPS_UP_1_0] nsPERHAPS_UP_1, ssPERHAPS_UP_1⟩)
    (sPERHAPS_UP_1_0_l : K.lookup sPERHAPS_UP_1_0 = some ⟨.type "tuple", dsPERHAPS_UP_1_0, .seq #[.str "at" tPERHAPS_UP_1_00, .str "up" tPERHAPS_UP_1_01] nsPERHAPS_UP_1_0, ssPERHAPS_UP_1_0⟩)
    (eMOST_READS : PySem.W.nsIn K mainGlobals "MOST_READS" = some (some (.int 12 tMOST_READS)))
    (eMOST_WRITES : PySem.W.nsIn K mainGlobals "MOST_WRITES" = some (some (.int 12 tMOST_WRITES)))
    (eMOST_LINES : PySem.W.nsIn K mainGlobals "MOST_LINES" = some (some (.int 60 tMOST_LINES)))
    (eMOST_IFS : PySem.W.nsIn K mainGlobals "MOST_IFS" = some (some (.int 7 tMOST_IFS)))
    (eOUTSIDE : PySem.W.nsIn K mainGlobals "OUTSIDE" = some (some (.str "outside" tOUTSIDE)))
    (eDOWN : PySem.W.nsIn K mainGlobals "DOWN" = some (some (.str "down" tDOWN)))
    (eUP : PySem.W.nsIn K mainGlobals "UP" = some (some (.str "up" tUP)))
    (z_bool : PySem.W.nsIn K mainGlobals "bool" = some none)
    (z_enumerate : PySem.W.nsIn K mainGlobals "enumerate" = some none)
    (z_any : PySem.W.nsIn K mainGlobals "any" = some none)
    (z_min : PySem.W.nsIn K mainGlobals "min" = some none)
    (z_max : PySem.W.nsIn K mainGlobals "max" = some none)
    (z_tuple : PySem.W.nsIn K mainGlobals "tuple" = some none)
    (z_len : PySem.W.nsIn K mainGlobals "len" = some none)
    (z_type : PySem.W.nsIn K mainGlobals "type" = some none)
    (z_str : PySem.W.nsIn K mainGlobals "str" = some none)
    (z_isinstance : PySem.W.nsIn K mainGlobals "isinstance" = some none)
    (z_int : PySem.W.nsIn K mainGlobals "int" = some none)
    (z_list : PySem.W.nsIn K mainGlobals "list" = some none)
    (z_range : PySem.W.nsIn K mainGlobals "range" = some none)
    (dKT : CK ≠ CT)
    (dUT : CU ≠ CT)
    (dLT : CL ≠ CT)
    (dFT : CF ≠ CT)
    (dMT : CM ≠ CT)
    (dKU : CK ≠ CU)
    (dKL : CK ≠ CL)
    (dKF : CK ≠ CF)
    (dKM : CK ≠ CM)
    (dUL : CU ≠ CL)
    (dUF : CU ≠ CF)
    (dUM : CU ≠ CM)
    (dML : CM ≠ CL)
    (dMF : CM ≠ CF)
    (dLF : CL ≠ CF)
    : ∃ fd : FuncData, (∀ (s : Shared) (v : Value), BindsTo s fd ⟨[v], []⟩ [("script", v)]) ∧ ∀ base : Heap, K.In base → base.Ns mainGlobals mg → FnOk l.prog w K mg base CX0 131 fa fd ["script"] (spLaw K) := by
  have e := hfa.symm.trans (PySem.W.mg_of X G aD90)
  cases e
  have ecT : EC K [] CT := ⟨⟨_, _, _, _, _, _, _, _, _, _, _, _, _, _, xT⟩, saT, gaT, ggT, gcT, tyT, kpT⟩
  have ecK : EC K [CT] CK := ⟨⟨_, _, _, _, _, _, _, _, _, _, _, _, _, _, xK⟩, saK, gaK, ggK, gcK, tyK, kpK⟩
  have ecU : EC K [CT] CU := ⟨⟨_, _, _, _, _, _, _, _, _, _, _, _, _, _, xU⟩, saU, gaU, ggU, gcU, tyU, kpU⟩
  have ecL : EC K [CT] CL := ⟨⟨_, _, _, _, _, _, _, _, _, _, _, _, _, _, xL⟩, saL, gaL, ggL, gcL, tyL, kpL⟩
  have ecF : EC K [CT] CF := ⟨⟨_, _, _, _, _, _, _, _, _, _, _, _, _, _, xF⟩, saF, gaF, ggF, gcF, tyF, kpF⟩
  have ecM : EC K [CT] CM := ⟨⟨_, _, _, _, _, _, _, _, _, _, _, _, _, _, xM⟩, saM, gaM, ggM, gcM, tyM, kpM⟩
  have FIK := fun_mk (st := inClass (top 2) 0) lIK cIK kIK
  have bIK := FIK.binds (ps := ["self", "kind"]) fun _ _ _ _ _ _ us hl => match us, hl with | [_, _], _ => rfl
  have FIU := fun_mk (st := inClass (top 3) 0) lIU cIU kIU
  have bIU := FIU.binds (ps := ["self", "ups"]) fun _ _ _ _ _ _ us hl => match us, hl with | [_, _], _ => rfl
  have FIL := fun_mk (st := inClass (top 4) 0) lIL cIL kIL
  have bIL := FIL.binds (ps := ["self", "line"]) fun _ _ _ _ _ _ us hl => match us, hl with | [_, _], _ => rfl
  have FIF := fun_mk (st := inClass (top 5) 0) lIF cIF kIF
  have bIF := FIF.binds (ps := ["self", "line"]) fun _ _ _ _ _ _ us hl => match us, hl with | [_, _], _ => rfl
  have FIM := fun_mk (st := inClass (top 6) 0) lIM cIM kIM
  have bIM := FIM.binds (ps := ["self", "what", "many", "most"]) fun _ _ _ _ _ _ us hl => match us, hl with | [_, _, _, _], _ => rfl
  have FIR := fun_mk (st := inClass (top 38) 0) lIR cIR kIR
  have bIR := FIR.binds (ps := ["self", "number", "said"]) fun _ _ _ _ _ _ us hl => match us, hl with | [_, _, _], _ => rfl
  have FIA := fun_mk (st := inClass (top 80) 0) lIA cIA kIA
  have bIA := FIA.binds (ps := ["self"]) fun _ _ _ _ _ _ us hl => match us, hl with | [_], _ => rfl
  have FIC : FunD K "__init__" "Code.__init__" (defArgs (inClass (top 81) 0)) (defBody (inClass (top 81) 0)) (defScope (inClass (top 81) 0)) [.bl true] [] fIC (PySem.W.fnOf "__init__" "Code.__init__" (defArgs (inClass (top 81) 0)) (defBody (inClass (top 81) 0)) (defScope (inClass (top 81) 0)) (.ref dT) kVIC dcIC pmIC anIC cdIC ctIC) := ⟨⟨ocIC, odIC, .ref dT, kVIC, dcIC, pmIC, anIC, cdIC, ctIC, slIC, rfl, lIC, cIC, .inr ⟨by simp, dT, _, [.bool true], nZ, rfl, ldT, rfl, .cons rfl .nil⟩, .inl rfl⟩, kIC⟩
  have FLn := fun_mk (st := inClass (top 81) 1) lLn cLn kLn
  have bLn := FLn.binds (ps := ["self"]) fun _ _ _ _ _ _ us hl => match us, hl with | [_], _ => rfl
  have FGt := fun_mk (st := inClass (top 81) 2) lGt cGt kGt
  have bGt := FGt.binds (ps := ["self", "at"]) fun _ _ _ _ _ _ us hl => match us, hl with | [_, _], _ => rfl
  have FEq := fun_mk (st := inClass (top 81) 3) lEq cEq kEq
  have bEq := FEq.binds (ps := ["self", "other"]) fun _ _ _ _ _ _ us hl => match us, hl with | [_, _], _ => rfl
  have F20 := fun_mk (st := top 20) lD20 cD20 kD20
  have b20 := F20.binds (ps := ["line", "place"]) fun _ _ _ _ _ _ us hl => match us, hl with | [_, _], _ => rfl
  have m20 := PySem.W.mg_of X G aD20
  have F21 := fun_mk (st := top 21) lD21 cD21 kD21
  have b21 := F21.binds (ps := ["words", "place"]) fun _ _ _ _ _ _ us hl => match us, hl with | [_, _], _ => rfl
  have m21 := PySem.W.mg_of X G aD21
  have F22 := fun_mk (st := top 22) lD22 cD22 kD22
  have b22 := F22.binds (ps := ["words"]) fun _ _ _ _ _ _ us hl => match us, hl with | [_], _ => rfl
  have m22 := PySem.W.mg_of X G aD22
  have F23 := fun_mk (st := top 23) lD23 cD23 kD23
  have b23 := F23.binds (ps := ["target", "source"]) fun _ _ _ _ _ _ us hl => match us, hl with | [_, _], _ => rfl
  have m23 := PySem.W.mg_of X G aD23
  have F24 := fun_mk (st := top 24) lD24 cD24 kD24
  have b24 := F24.binds (ps := ["words", "place"]) fun _ _ _ _ _ _ us hl => match us, hl with | [_, _], _ => rfl
  have m24 := PySem.W.mg_of X G aD24
  have F25 := fun_mk (st := top 25) lD25 cD25 kD25
  have b25 := F25.binds (ps := ["place"]) fun _ _ _ _ _ _ us hl => match us, hl with | [_], _ => rfl
  have m25 := PySem.W.mg_of X G aD25
  have F27 := fun_mk (st := top 27) lD27 cD27 kD27
  have b27 := F27.binds (ps := ["word"]) fun _ _ _ _ _ _ us hl => match us, hl with | [_], _ => rfl
  have m27 := PySem.W.mg_of X G aD27
  have F28 := fun_mk (st := top 28) lD28 cD28 kD28
  have b28 := F28.binds (ps := ["word"]) fun _ _ _ _ _ _ us hl => match us, hl with | [_], _ => rfl
  have m28 := PySem.W.mg_of X G aD28
  have F29 := fun_mk (st := top 29) lD29 cD29 kD29
  have b29 := F29.binds (ps := ["words", "place"]) fun _ _ _ _ _ _ us hl => match us, hl with | [_, _], _ => rfl
  have m29 := PySem.W.mg_of X G aD29
  have F30 := fun_mk (st := top 30) lD30 cD30 kD30
  have b30 := F30.binds (ps := ["words"]) fun _ _ _ _ _ _ us hl => match us, hl with | [_], _ => rfl
  have m30 := PySem.W.mg_of X G aD30
  have F31 := fun_mk (st := top 31) lD31 cD31 kD31
  have b31 := F31.binds (ps := ["words", "place"]) fun _ _ _ _ _ _ us hl => match us, hl with | [_, _], _ => rfl
  have m31 := PySem.W.mg_of X G aD31
  have F32 := fun_mk (st := top 32) lD32 cD32 kD32
  have b32 := F32.binds (ps := ["words", "place"]) fun _ _ _ _ _ _ us hl => match us, hl with | [_, _], _ => rfl
  have m32 := PySem.W.mg_of X G aD32
  have F33 := fun_mk (st := top 33) lD33 cD33 kD33
  have b33 := F33.binds (ps := ["first", "second", "place"]) fun _ _ _ _ _ _ us hl => match us, hl with | [_, _, _], _ => rfl
  have m33 := PySem.W.mg_of X G aD33
  have F34 := fun_mk (st := top 34) lD34 cD34 kD34
  have b34 := F34.binds (ps := ["name", "place"]) fun _ _ _ _ _ _ us hl => match us, hl with | [_, _], _ => rfl
  have m34 := PySem.W.mg_of X G aD34
  have F35 := fun_mk (st := top 35) lD35 cD35 kD35
  have b35 := F35.binds (ps := ["first", "second", "place"]) fun _ _ _ _ _ _ us hl => match us, hl with | [_, _, _], _ => rfl
  have m35 := PySem.W.mg_of X G aD35
  have F36 := fun_mk (st := top 36) lD36 cD36 kD36
  have b36 := F36.binds (ps := ["place"]) fun _ _ _ _ _ _ us hl => match us, hl with | [_], _ => rfl
  have m36 := PySem.W.mg_of X G aD36
  have F39 := fun_mk (st := top 39) lD39 cD39 kD39
  have b39 := F39.binds (ps := ["lines"]) fun _ _ _ _ _ _ us hl => match us, hl with | [_], _ => rfl
  have m39 := PySem.W.mg_of X G aD39
  have F40 := fun_mk (st := top 40) lD40 cD40 kD40
  have b40 := F40.binds (ps := ["heads"]) fun _ _ _ _ _ _ us hl => match us, hl with | [_], _ => rfl
  have m40 := PySem.W.mg_of X G aD40
  have F41 := fun_mk (st := top 41) lD41 cD41 kD41
  have b41 := F41.binds (ps := ["word", "heads"]) fun _ _ _ _ _ _ us hl => match us, hl with | [_, _], _ => rfl
  have m41 := PySem.W.mg_of X G aD41
  have F42 := fun_mk (st := top 42) lD42 cD42 kD42
  have b42 := F42.binds (ps := ["row", "heads", "blocks"]) fun _ _ _ _ _ _ us hl => match us, hl with | [_, _, _], _ => rfl
  have m42 := PySem.W.mg_of X G aD42
  have F43 := fun_mk (st := top 43) lD43 cD43 kD43
  have b43 := F43.binds (ps := ["block"]) fun _ _ _ _ _ _ us hl => match us, hl with | [_], _ => rfl
  have m43 := PySem.W.mg_of X G aD43
  have F51 := fun_mk (st := top 51) lD51 cD51 kD51
  have b51 := F51.binds (ps := ["kind", "ups", "lines", "block"]) fun _ _ _ _ _ _ us hl => match us, hl with | [_, _, _, _], _ => rfl
  have m51 := PySem.W.mg_of X G aD51
  have F52 := fun_mk (st := top 52) lD52 cD52 kD52
  have b52 := F52.binds (ps := ["kind", "ups", "lines"]) fun _ _ _ _ _ _ us hl => match us, hl with | [_, _, _], _ => rfl
  have m52 := PySem.W.mg_of X G aD52
  have F53 := fun_mk (st := top 53) lD53 cD53 kD53
  have b53 := F53.binds (ps := ["block"]) fun _ _ _ _ _ _ us hl => match us, hl with | [_], _ => rfl
  have m53 := PySem.W.mg_of X G aD53
  have F54 := fun_mk (st := top 54) lD54 cD54 kD54
  have b54 := F54.binds (ps := ["row"]) fun _ _ _ _ _ _ us hl => match us, hl with | [_], _ => rfl
  have m54 := PySem.W.mg_of X G aD54
  have F55 := fun_mk (st := top 55) lD55 cD55 kD55
  have b55 := F55.binds (ps := ["way"]) fun _ _ _ _ _ _ us hl => match us, hl with | [_], _ => rfl
  have m55 := PySem.W.mg_of X G aD55
  have F56 := fun_mk (st := top 56) lD56 cD56 kD56
  have b56 := F56.binds (ps := ["row"]) fun _ _ _ _ _ _ us hl => match us, hl with | [_], _ => rfl
  have m56 := PySem.W.mg_of X G aD56
  have F57 := fun_mk (st := top 57) lD57 cD57 kD57
  have b57 := F57.binds (ps := ["loops", "way"]) fun _ _ _ _ _ _ us hl => match us, hl with | [_, _], _ => rfl
  have m57 := PySem.W.mg_of X G aD57
  have F58 := fun_mk (st := top 58) lD58 cD58 kD58
  have b58 := F58.binds (ps := ["kind", "way"]) fun _ _ _ _ _ _ us hl => match us, hl with | [_, _], _ => rfl
  have m58 := PySem.W.mg_of X G aD58
  have F59 := fun_mk (st := top 59) lD59 cD59 kD59
  have b59 := F59.binds (ps := ["row"]) fun _ _ _ _ _ _ us hl => match us, hl with | [_], _ => rfl
  have m59 := PySem.W.mg_of X G aD59
  have F60 := fun_mk (st := top 60) lD60 cD60 kD60
  have b60 := F60.binds (ps := ["row"]) fun _ _ _ _ _ _ us hl => match us, hl with | [_], _ => rfl
  have m60 := PySem.W.mg_of X G aD60
  have F61 := fun_mk (st := top 61) lD61 cD61 kD61
  have b61 := F61.binds (ps := ["row"]) fun _ _ _ _ _ _ us hl => match us, hl with | [_], _ => rfl
  have m61 := PySem.W.mg_of X G aD61
  have F62 := fun_mk (st := top 62) lD62 cD62 kD62
  have b62 := F62.binds (ps := ["kind", "loop", "many", "ahead"]) fun _ _ _ _ _ _ us hl => match us, hl with | [_, _, _, _], _ => rfl
  have m62 := PySem.W.mg_of X G aD62
  have F63 := fun_mk (st := top 63) lD63 cD63 kD63
  have b63 := F63.binds (ps := ["kind", "word", "many"]) fun _ _ _ _ _ _ us hl => match us, hl with | [_, _, _], _ => rfl
  have m63 := PySem.W.mg_of X G aD63
  have F64 := fun_mk (st := top 64) lD64 cD64 kD64
  have b64 := F64.binds (ps := ["row"]) fun _ _ _ _ _ _ us hl => match us, hl with | [_], _ => rfl
  have m64 := PySem.W.mg_of X G aD64
  have F65 := fun_mk (st := top 65) lD65 cD65 kD65
  have b65 := F65.binds (ps := ["ahead"]) fun _ _ _ _ _ _ us hl => match us, hl with | [_], _ => rfl
  have m65 := PySem.W.mg_of X G aD65
  have F66 := fun_mk (st := top 66) lD66 cD66 kD66
  have b66 := F66.binds (ps := ["loop", "is_alone"]) fun _ _ _ _ _ _ us hl => match us, hl with | [_, _], _ => rfl
  have m66 := PySem.W.mg_of X G aD66
  have F67 := fun_mk (st := top 67) lD67 cD67 kD67
  have b67 := F67.binds (ps := ["block", "come", "seen", "late"]) fun _ _ _ _ _ _ us hl => match us, hl with | [_, _, _, _], _ => rfl
  have m67 := PySem.W.mg_of X G aD67
  have F68 := fun_mk (st := top 68) lD68 cD68 kD68
  have b68 := F68.binds (ps := ["row", "come", "seen", "late"]) fun _ _ _ _ _ _ us hl => match us, hl with | [_, _, _, _], _ => rfl
  have m68 := PySem.W.mg_of X G aD68
  have F69 := fun_mk (st := top 69) lD69 cD69 kD69
  have b69 := F69.binds (ps := ["rows"]) fun _ _ _ _ _ _ us hl => match us, hl with | [_], _ => rfl
  have m69 := PySem.W.mg_of X G aD69
  have F71 := fun_mk (st := top 71) lD71 cD71 kD71
  have b71 := F71.binds (ps := ["body"]) fun _ _ _ _ _ _ us hl => match us, hl with | [_], _ => rfl
  have m71 := PySem.W.mg_of X G aD71
  have F73 := fun_mk (st := top 73) lD73 cD73 kD73
  have b73 := F73.binds (ps := ["block", "steps"]) fun _ _ _ _ _ _ us hl => match us, hl with | [_, _], _ => rfl
  have m73 := PySem.W.mg_of X G aD73
  have F74 := fun_mk (st := top 74) lD74 cD74 kD74
  have b74 := F74.binds (ps := ["row", "steps"]) fun _ _ _ _ _ _ us hl => match us, hl with | [_, _], _ => rfl
  have m74 := PySem.W.mg_of X G aD74
  have F82 := fun_mk (st := top 82) lD82 cD82 kD82
  have b82 := F82.binds (ps := ["kind", "ups"]) fun _ _ _ _ _ _ us hl => match us, hl with | [_, _], _ => rfl
  have m82 := PySem.W.mg_of X G aD82
  have F83 := fun_mk (st := top 83) lD83 cD83 kD83
  have b83 := F83.binds (ps := ["text"]) fun _ _ _ _ _ _ us hl => match us, hl with | [_], _ => rfl
  have m83 := PySem.W.mg_of X G aD83
  have F85 := fun_mk (st := top 85) lD85 cD85 kD85
  have b85 := F85.binds (ps := ["script"]) fun _ _ _ _ _ _ us hl => match us, hl with | [_], _ => rfl
  have m85 := PySem.W.mg_of X G aD85
  have F86 := fun_mk (st := top 86) lD86 cD86 kD86
  have b86 := F86.binds (ps := ["bag", "limit"]) fun _ _ _ _ _ _ us hl => match us, hl with | [_, _], _ => rfl
  have m86 := PySem.W.mg_of X G aD86
  have F87 := fun_mk (st := top 87) lD87 cD87 kD87
  have b87 := F87.binds (ps := ["kind", "text", "ups"]) fun _ _ _ _ _ _ us hl => match us, hl with | [_, _, _], _ => rfl
  have m87 := PySem.W.mg_of X G aD87
  have F88 := fun_mk (st := top 88) lD88 cD88 kD88
  have b88 := F88.binds (ps := ["bag"]) fun _ _ _ _ _ _ us hl => match us, hl with | [_], _ => rfl
  have m88 := PySem.W.mg_of X G aD88
  have F89 := fun_mk (st := top 89) lD89 cD89 kD89
  have b89 := F89.binds (ps := ["kind", "text"]) fun _ _ _ _ _ _ us hl => match us, hl with | [_, _], _ => rfl
  have m89 := PySem.W.mg_of X G aD89
  have F90 := fun_mk (st := top 90) lD90 cD90 kD90
  have b90 := F90.binds (ps := ["script"]) fun _ _ _ _ _ _ us hl => match us, hl with | [_], _ => rfl
  have m90 := PySem.W.mg_of X G aD90
  have gREGISTERS : GT K mg "REGISTERS" regs := ⟨_, (PySem.W.mg_of X G eREGISTERS), fun H => tup_of sREGISTERS_l (by show 5 ≤ 100; decide) (.cons (rs _ _) (.cons (rs _ _) (.cons (rs _ _) (.cons (rs _ _) (.cons (rs _ _) .nil))))) H⟩
  have gKEPT : GT K mg "KEPT" kept := ⟨_, (PySem.W.mg_of X G eKEPT), fun H => tup_of sKEPT_l (by show 4 ≤ 100; decide) (.cons (rs _ _) (.cons (rs _ _) (.cons (rs _ _) (.cons (rs _ _) .nil)))) H⟩
  have gHOLDERS : GT K mg "HOLDERS" holders := ⟨_, (PySem.W.mg_of X G eHOLDERS), fun H => tup_of sHOLDERS_l (by show 6 ≤ 100; decide) (.cons (rs _ _) (.cons (rs _ _) (.cons (rs _ _) (.cons (rs _ _) (.cons (rs _ _) (.cons (rs _ _) .nil)))))) H⟩
  have gBARE : GT K mg "BARE" bare := ⟨_, (PySem.W.mg_of X G eBARE), fun H => tup_of sBARE_l (by show 8 ≤ 100; decide) (.cons (rs _ _) (.cons (rs _ _) (.cons (rs _ _) (.cons (rs _ _) (.cons (rs _ _) (.cons (rs _ _) (.cons (rs _ _) (.cons (rs _ _) .nil)))))))) H⟩
  have gLED_TO : GT K mg "LED_TO" ledTo := ⟨_, (PySem.W.mg_of X G eLED_TO), fun H => tup_of sLED_TO_l (by show 7 ≤ 100; decide) (.cons (rs _ _) (.cons (rs _ _) (.cons (rs _ _) (.cons (rs _ _) (.cons (rs _ _) (.cons (rs _ _) (.cons (rs _ _) .nil))))))) H⟩
  have gCOMPARED : GT K mg "COMPARED" compared := ⟨_, (PySem.W.mg_of X G eCOMPARED), fun H => tup_of sCOMPARED_l (by show 7 ≤ 100; decide) (.cons (rs _ _) (.cons (rs _ _) (.cons (rs _ _) (.cons (rs _ _) (.cons (rs _ _) (.cons (rs _ _) (.cons (rs _ _) .nil))))))) H⟩
  have gLINKS : GT K mg "LINKS" linkNs := ⟨_, (PySem.W.mg_of X G eLINKS), fun H => tup_of sLINKS_l (by show 3 ≤ 100; decide) (.cons (rs _ _) (.cons (rs _ _) (.cons (rs _ _) .nil))) H⟩
  have gSIDES : GT K mg "SIDES" sides := ⟨_, (PySem.W.mg_of X G eSIDES), fun H => tup_of sSIDES_l (by show 2 ≤ 100; decide) (.cons (rs _ _) (.cons (rs _ _) .nil)) H⟩
  have gLOOPS : GT K mg "LOOPS" loops := ⟨_, (PySem.W.mg_of X G eLOOPS), fun H => tup_of sLOOPS_l (by show 2 ≤ 100; decide) (.cons (rs _ _) (.cons (rs _ _) .nil)) H⟩
  have gSEARCHES : GT K mg "SEARCHES" searches := ⟨_, (PySem.W.mg_of X G eSEARCHES), fun H => tup_of sSEARCHES_l (by show 5 ≤ 100; decide) (.cons (rs _ _) (.cons (rs _ _) (.cons (rs _ _) (.cons (rs _ _) (.cons (rs _ _) .nil))))) H⟩
  have gKINDS : GT K mg "KINDS" kinds := ⟨_, (PySem.W.mg_of X G eKINDS), fun H => tup_of sKINDS_l (by show 8 ≤ 100; decide) (.cons (rs _ _) (.cons (rs _ _) (.cons (rs _ _) (.cons (rs _ _) (.cons (rs _ _) (.cons (rs _ _) (.cons (rs _ _) (.cons (rs _ _) .nil)))))))) H⟩
  have gKINDS_WITH_UPS : GT K mg "KINDS_WITH_UPS" kindsUp := ⟨_, (PySem.W.mg_of X G eKINDS_WITH_UPS), fun H => tup_of sKINDS_WITH_UPS_l (by show 3 ≤ 100; decide) (.cons (rs _ _) (.cons (rs _ _) (.cons (rs _ _) .nil))) H⟩
  have NG : Gn K mg := ⟨gREGISTERS, gKEPT, gHOLDERS, gBARE, gLED_TO, gCOMPARED, gLINKS, gSIDES, gLOOPS, ⟨_, (PySem.W.mg_of X G eOUTSIDE)⟩, ⟨_, (PySem.W.mg_of X G eDOWN)⟩, ⟨_, (PySem.W.mg_of X G eUP)⟩, (PySem.W.mg_none_of X G z_len)⟩
  have NB : Nb mg := ⟨(PySem.W.mg_none_of X G z_bool), (PySem.W.mg_none_of X G z_enumerate), (PySem.W.mg_none_of X G z_any), (PySem.W.mg_none_of X G z_min), (PySem.W.mg_none_of X G z_max), (PySem.W.mg_none_of X G z_tuple), (PySem.W.mg_none_of X G z_len)⟩
  have NC : Nc mg := ⟨(PySem.W.mg_none_of X G z_type), (PySem.W.mg_none_of X G z_str), (PySem.W.mg_none_of X G z_isinstance)⟩
  have NM : Nm mg := ⟨(PySem.W.mg_none_of X G z_int), (PySem.W.mg_none_of X G z_list), (PySem.W.mg_none_of X G z_len)⟩
  have NL : Gl K mg := ⟨gSEARCHES, ⟨_, (PySem.W.mg_of X G eMOST_READS)⟩, ⟨_, (PySem.W.mg_of X G eMOST_WRITES)⟩, ⟨_, (PySem.W.mg_of X G eFROM_ROOT), fun H => (.tup (tup_of sFROM_ROOT_l (by show 1 ≤ 100; decide) (.cons (rr _) .nil) H) (.cons (.tup (tup_of sFROM_ROOT_0_l (by show 1 ≤ 100; decide) (.cons (rr _) .nil) H) (.cons (.tup (tup_of sFROM_ROOT_0_0_l (by show 2 ≤ 100; decide) (.cons (rs _ _) (.cons rn .nil)) H) (.cons (.str "root") (.cons .non .nil))) .nil)) .nil))⟩, ⟨_, (PySem.W.mg_of X G eSTEP_DOWN), fun H => (.tup (tup_of sSTEP_DOWN_l (by show 2 ≤ 100; decide) (.cons (rr _) (.cons (rr _) .nil)) H) (.cons (.tup (tup_of sSTEP_DOWN_0_l (by show 1 ≤ 100; decide) (.cons (rr _) .nil) H) (.cons (.tup (tup_of sSTEP_DOWN_0_0_l (by show 2 ≤ 100; decide) (.cons (rs _ _) (.cons (rs _ _) .nil)) H) (.cons (.str "at") (.cons (.str "left") .nil))) .nil)) (.cons (.tup (tup_of sSTEP_DOWN_1_l (by show 1 ≤ 100; decide) (.cons (rr _) .nil) H) (.cons (.tup (tup_of sSTEP_DOWN_1_0_l (by show 2 ≤ 100; decide) (.cons (rs _ _) (.cons (rs _ _) .nil)) H) (.cons (.str "at") (.cons (.str "right") .nil))) .nil)) .nil)))⟩, ⟨_, (PySem.W.mg_of X G ePERHAPS_UP), fun H => (.tup (tup_of sPERHAPS_UP_l (by show 2 ≤ 100; decide) (.cons (rr _) (.cons (rr _) .nil)) H) (.cons (.tup (tup_of sPERHAPS_UP_0_l (by show 0 ≤ 100; decide) .nil H) .nil) (.cons (.tup (tup_of sPERHAPS_UP_1_l (by show 1 ≤ 100; decide) (.cons (rr _) .nil) H) (.cons (.tup (tup_of sPERHAPS_UP_1_0_l (by show 2 ≤ 100; decide) (.cons (rs _ _) (.cons (rs _ _) .nil)) H) (.cons (.str "at") (.cons (.str "up") .nil))) .nil)) .nil)))⟩⟩
  have NK : Gk K mg := ⟨gKINDS, gKINDS_WITH_UPS, ⟨_, (PySem.W.mg_of X G eMOST_LINES)⟩, ⟨_, (PySem.W.mg_of X G eMOST_IFS)⟩⟩
  have TR : RowT K mg Cr := ⟨⟨pgR, hdR, poR, saR⟩, nR_number, nR_said, nR_body, nR_other, nR_has_else, PySem.W.mg_of X G gR⟩
  have TA : AnsT K mg CA := ⟨⟨pgA, hdA, poA, saA⟩, nA_notes, PySem.W.mg_of X G gA⟩
  have TC : CodT K mg C := ⟨⟨pgC, hdC, poC, saC⟩, nC_kind, nC_ups, nC_text, nC__lines, nC_answers, nC_body, nC_steps⟩
  refine ⟨PySem.W.fnOf "law" "law" (defArgs (top 90)) (defBody (top 90)) (defScope (top 90)) .none kVD90 dcD90 pmD90 anD90 cdD90 ctD90, fun s v => .of_eq rfl, fun base _ _ => ?_⟩
  have R : Er l.prog w K mg base CT CK CU CL CF CM := ⟨ecT, ecK, ecU, ecL, ecF, ecM, PySem.W.mg_of X G gT, PySem.W.mg_of X G gK, PySem.W.mg_of X G gU, PySem.W.mg_of X G gL, PySem.W.mg_of X G gF, PySem.W.mg_of X G gM, ⟨fIK, _, aIK, tIK, ok_i2 FIK ecK.oex nK0, bIK⟩, ⟨fIU, _, aIU, tIU, ok_i3 FIU ecU.oex nU0, bIU⟩, ⟨fIL, _, aIL, tIL, ok_i4 FIL ecL.oex nL0, bIL⟩, ⟨fIF, _, aIF, tIF, ok_i5 FIF ecF.oex nF0, bIF⟩, ⟨fIM, _, aIM, tIM, ok_i6 FIM ecM.oex nM0 nM1 nM2, bIM⟩⟩
  have E0 : Et K CT CK CU CL CF CM := ⟨dKT, dUT, dLT, dFT, dMT, dKU, dKL, dKF, dKM, dUL, dUF, dUM, dML, dMF, dLF, nK0, nU0, nL0, nF0, nM0, nM1, nM2, hn, ht⟩
  have G27 := ok_link (P := l.prog) (w := w) (base := base) F27 NG
  have G28 := ok_term F28 NG G27 b27 kD27 m27
  have G33 := ok_less (P := l.prog) (w := w) (base := base) F33 NG
  have G34 := ok_equal (P := l.prog) (w := w) (base := base) F34 NG
  have G36 := ok_askedIn (P := l.prog) (w := w) (base := base) F36 NG
  have G35 := ok_same F35 NG G28 b28 kD28 m28 G36 b36 kD36 m36
  have G32 := ok_asked F32 NG G33 b33 kD33 m33 G34 b34 kD34 m34 G35 b35 kD35 m35
  have G31 := ok_part F31 G32 b32 kD32 m32
  have G30 := ok_parted (P := l.prog) (w := w) (base := base) (mg := mg) F30
  have G29 := ok_test F29 (PySem.W.mg_none_of X G z_tuple) G31 b31 kD31 m31 G30 b30 kD30 m30
  have G21 := ok_asking F21 G29 b29 kD29 m29
  have G25 := ok_steps (P := l.prog) (w := w) (base := base) F25 NG
  have G24 := ok_within F24 NG G25 b25 kD25 m25
  have G23 := ok_setting F23 NG G28 b28 kD28 m28 G27 b27 kD27 m27
  have G22 := ok_outside F22 NG G21 b21 kD21 m21 G23 b23 kD23 m23
  have G20 := ok_line F20 NG G21 b21 kD21 m21 G22 b22 kD22 m22 G24 b24 kD24 m24
  have GR := ok_rowI (P := l.prog) (w := w) (base := base) FIR TR
  have G40 := ok_place (P := l.prog) (w := w) (base := base) F40 NG TR
  have G41 := ok_fits (P := l.prog) (w := w) (base := base) F41 NB TR
  have G42 := ok_take (P := l.prog) (w := w) (base := base) F42 NG TR
  have G39 := ok_blocks F39 NB R TR ⟨mkR, aIR, tIR, kpR⟩ GR bIR G20 b20 kD20 m20 G40 b40 kD40 m40 G41 b41 kD41 m41 G42 b42 kD42 m42
  have G43 := count_all (P := l.prog) (w := w) (base := base) F43 TR b43 m43 61
  have G56 := ok_isLoop (P := l.prog) (w := w) (base := base) F56 NG TR
  have G61 := ok_isWr (P := l.prog) (w := w) (base := base) F61 TR
  have G64 := ok_setsAt (P := l.prog) (w := w) (base := base) F64 TR
  have G59 := ok_rdRoot (P := l.prog) (w := w) (base := base) F59 TR
  have G60 := ok_rdLnk (P := l.prog) (w := w) (base := base) F60 TR
  have G55 := ok_over (P := l.prog) (w := w) (base := base) F55 NB TR
  have G63 := ok_right (P := l.prog) (w := w) (base := base) F63 NG NL
  have G65 := ok_ahead F65 NG TR G61 b61 kD61 m61 G64 b64 kD64 m64 G60 b60 kD60 m60
  have G62 := ok_stand F62 NB TR G63 b63 kD63 m63 G64 b64 kD64 m64 G65 b65 kD65 m65
  have G58 := ok_fow F58 NL TR G56 b56 kD56 m56 G62 b62 kD62 m62 G59 b59 kD59 m59 G60 b60 kD60 m60 G61 b61 kD61 m61
  have G57 := ok_note F57 NB TR G56 b56 kD56 m56
  have G69 := ok_cmp F69 NG TR G56 b56 kD56 m56
  have G67 := look_all (P := l.prog) (w := w) (base := base) F67 F68 TR b67 m67 b68 m68 61
  have G66 := ok_fil F66 NB TR G67 b67 kD67 m67 G69 b69 kD69 m69
  have G52 := ok_bar (P := l.prog) (w := w) (base := base) F52 NB
  have G53 := ways_all (P := l.prog) (w := w) (base := base) F53 F54 TR b53 m53 b54 m54 G55 b55 kD55 m55 61
  have G51 := ok_least F51 NB NL G52 b52 kD52 m52 G53 b53 kD53 m53 G58 b58 kD58 m58 G57 b57 kD57 m57 G66 b66 kD66 m66
  have G73 := lay_all (P := l.prog) (w := w) (base := base) F73 F74 NB NG TR b73 m73 b74 m74 61
  have G71 := ok_steps_of F71 G73 b73 kD73 m73
  have G82 := ok_check F82 NC R NK
  have G83 := ok_lines (P := l.prog) (w := w) (base := base) (mg := mg) F83
  have GA := ok_ansI (P := l.prog) (w := w) (base := base) FIA TA
  have GC := ok_codeI FIC NB TC TA NK R G82 b82 kD82 m82 G83 b83 kD83 m83 G39 b39 kD39 m39 G43 b43 kD43 m43 G51 b51 kD51 m51 G71 b71 kD71 m71 ⟨mkA, aIA, tIA, kpA⟩ GA bIA
  have TK : CodC K mg C fIC fLn fGt fEq := ⟨TC, ⟨mkC, aIC, tIC, kpC⟩, PySem.W.mg_of X G gC, ⟨aEq, tEq, neC, moC⟩, aLn, tLn, aGt, tGt, fnG, kit_str icC tyC, ⟨⟨pgC, hdC, poC, saC⟩, clC, hn, ht, moC, kit_self⟩⟩
  obtain ⟨d3, v3, b3⟩ := FIC.binds1 (ps := ["self", "kind", "text", "ups"]) 4 1 (by simp) rfl (fun _ _ _ _ _ _ _ us its hu hi => match us, its, hu, hi with | [_, _, _, _], [_], _, _ => ⟨_, rfl, rfl⟩)
  cases v3
  obtain ⟨d2, v2, b2⟩ := FIC.binds1 (ps := ["self", "kind", "text", "ups"]) 3 0 (by simp) rfl (fun _ _ _ _ _ _ _ us its hu hi => match us, its, hu, hi with | [_, _, _], [_], _, _ => ⟨_, rfl, rfl⟩)
  have b2 : Binds K (PySem.W.fnOf "__init__" "Code.__init__" (defArgs (inClass (top 81) 0)) (defBody (inClass (top 81) 0)) (defScope (inClass (top 81) 0)) (.ref dT) kVIC dcIC pmIC anIC cdIC ctIC) ["self", "kind", "text", "ups"] [.bool true] := by
    cases v2 with
    | cons r t =>
      cases t
      cases r
      exact b2
  have GLn := ok_lenC (P := l.prog) (w := w) (base := base) FLn NB TC
  have GGt := ok_getC (P := l.prog) (w := w) (base := base) FGt TC
  have GEq := ok_eqC (P := l.prog) (w := w) (base := base) FEq NC TK
  have G85 := ok_bag (P := l.prog) (w := w) (base := base) F85 NM
  have G86 := ok_draw (P := l.prog) (w := w) (base := base) F86 NM
  have G87 := ok_told F87 NC (PySem.W.mg_none_of X G z_len) R E0 TK GC b3 GLn bLn
  have G88 := ok_lawLines F88 (PySem.W.mg_none_of X G z_range) G86 b86 kD86 m86
  have G89 := ok_order F89 G87 b87 kD87 m87
  exact ok_law F90 { bag := ⟨G85, b85, kD85, m85⟩, draw := ⟨G86, b86, kD86, m86⟩, lines := ⟨G88, b88, kD88, m88⟩, told := ⟨G87, b87, kD87, m87⟩, order := ⟨G89, b89, kD89, m89⟩, code := TK, init := GC, b3 := b3, b2 := b2, len := GLn, bL := bLn, get := GGt, bG := bGt, eq := GEq, bE := bEq, nm := NM, range := (PySem.W.mg_none_of X G z_range) }
end K01
open PySem PySem.W PyProof.Rows
set_option maxRecDepth 100000 in
set_option maxHeartbeats 0 in
open_top head_of_law for PySem.Challenge.rw_nextcode_k01_codes_made_and_refused
set_option maxRecDepth 100000 in
set_option maxHeartbeats 0 in
theorem PySem.Challenge.cw_nextcode_k01_codes_made_and_refused_holds : PySem.Challenge.rw_nextcode_k01_codes_made_and_refused.Holds := by
  refine head_of_law ?_
  k_fill
  refine L2.walk_of (l := PySem.Challenge.rw_nextcode_k01_codes_made_and_refused) (n := 63) (k := 131) (x := "script") (CX := fun _ => L2.CX0) (sp := fun _ => K01.spLaw _) rfl (by decide) rfl ⟨rfl, by decide, by decide⟩ (fun w h Y => PySem.W.kIn_of Y) ?F (fun _ _ a ns hl _ hS => ⟨a, ns, rfl, hS, fun _ => rfl⟩) fun _ _ _ _ _ z => z
  case F =>
    intro w mg fa h KX G hmg
    refine' K01.all_mk KX G hmg ?gT ?xT ?saT ?gaT ?ggT ?gcT ?tyT ?kpT ?gK ?xK ?saK ?gaK ?ggK ?gcK ?tyK ?kpK ?gU ?xU ?saU ?gaU ?ggU ?gcU ?tyU ?kpU ?gL ?xL ?saL ?gaL ?ggL ?gcL ?tyL ?kpL ?gF ?xF ?saF ?gaF ?ggF ?gcF ?tyF ?kpF ?gM ?xM ?saM ?gaM ?ggM ?gcM ?tyM ?kpM ?nK0 ?aIK ?lIK ?cIK ?kIK ?tIK ?nU0 ?aIU ?lIU ?cIU ?kIU ?tIU ?nL0 ?aIL ?lIL ?cIL ?kIL ?tIL ?nF0 ?aIF ?lIF ?cIF ?kIF ?tIF ?nM0 ?nM1 ?nM2 ?aIM ?lIM ?cIM ?kIM ?tIM ?hn ?ht ?gR ?pgR ?hdR ?poR ?saR ?mkR ?kpR ?nR_number ?nR_said ?nR_body ?nR_other ?nR_has_else ?aIR ?lIR ?cIR ?kIR ?tIR ?gA ?pgA ?hdA ?poA ?saA ?mkA ?kpA ?nA_notes ?aIA ?lIA ?cIA ?kIA ?tIA ?gC ?pgC ?hdC ?poC ?saC ?mkC ?kpC ?nC_kind ?nC_ups ?nC_text ?nC__lines ?nC_answers ?nC_body ?nC_steps ?aIC ?lIC ?cIC ?kIC ?ldT ?tIC ?aLn ?lLn ?cLn ?kLn ?tLn ?aGt ?lGt ?cGt ?kGt ?tGt ?aEq ?lEq ?cEq ?kEq ?tEq ?fnG ?neC ?moC ?clC ?icC ?tyC ?aD20 ?lD20 ?cD20 ?kD20 ?aD21 ?lD21 ?cD21 ?kD21 ?aD22 ?lD22 ?cD22 ?kD22 ?aD23 ?lD23 ?cD23 ?kD23 ?aD24 ?lD24 ?cD24 ?kD24 ?aD25 ?lD25 ?cD25 ?kD25 ?aD27 ?lD27 ?cD27 ?kD27 ?aD28 ?lD28 ?cD28 ?kD28 ?aD29 ?lD29 ?cD29 ?kD29 ?aD30 ?lD30 ?cD30 ?kD30 ?aD31 ?lD31 ?cD31 ?kD31 ?aD32 ?lD32 ?cD32 ?kD32 ?aD33 ?lD33 ?cD33 ?kD33 ?aD34 ?lD34 ?cD34 ?kD34 ?aD35 ?lD35 ?cD35 ?kD35 ?aD36 ?lD36 ?cD36 ?kD36 ?aD39 ?lD39 ?cD39 ?kD39 ?aD40 ?lD40 ?cD40 ?kD40 ?aD41 ?lD41 ?cD41 ?kD41 ?aD42 ?lD42 ?cD42 ?kD42 ?aD43 ?lD43 ?cD43 ?kD43 ?aD51 ?lD51 ?cD51 ?kD51 ?aD52 ?lD52 ?cD52 ?kD52 ?aD53 ?lD53 ?cD53 ?kD53 ?aD54 ?lD54 ?cD54 ?kD54 ?aD55 ?lD55 ?cD55 ?kD55 ?aD56 ?lD56 ?cD56 ?kD56 ?aD57 ?lD57 ?cD57 ?kD57 ?aD58 ?lD58 ?cD58 ?kD58 ?aD59 ?lD59 ?cD59 ?kD59 ?aD60 ?lD60 ?cD60 ?kD60 ?aD61 ?lD61 ?cD61 ?kD61 ?aD62 ?lD62 ?cD62 ?kD62 ?aD63 ?lD63 ?cD63 ?kD63 ?aD64 ?lD64 ?cD64 ?kD64 ?aD65 ?lD65 ?cD65 ?kD65 ?aD66 ?lD66 ?cD66 ?kD66 ?aD67 ?lD67 ?cD67 ?kD67 ?aD68 ?lD68 ?cD68 ?kD68 ?aD69 ?lD69 ?cD69 ?kD69 ?aD71 ?lD71 ?cD71 ?kD71 ?aD73 ?lD73 ?cD73 ?kD73 ?aD74 ?lD74 ?cD74 ?kD74 ?aD82 ?lD82 ?cD82 ?kD82 ?aD83 ?lD83 ?cD83 ?kD83 ?aD85 ?lD85 ?cD85 ?kD85 ?aD86 ?lD86 ?cD86 ?kD86 ?aD87 ?lD87 ?cD87 ?kD87 ?aD88 ?lD88 ?cD88 ?kD88 ?aD89 ?lD89 ?cD89 ?kD89 ?aD90 ?lD90 ?cD90 ?kD90 ?eREGISTERS ?sREGISTERS_l ?eKEPT ?sKEPT_l ?eHOLDERS ?sHOLDERS_l ?eBARE ?sBARE_l ?eLED_TO ?sLED_TO_l ?eCOMPARED ?sCOMPARED_l ?eLINKS ?sLINKS_l ?eSIDES ?sSIDES_l ?eLOOPS ?sLOOPS_l ?eSEARCHES ?sSEARCHES_l ?eKINDS ?sKINDS_l ?eKINDS_WITH_UPS ?sKINDS_WITH_UPS_l ?eFROM_ROOT ?sFROM_ROOT_l ?sFROM_ROOT_0_l ?sFROM_ROOT_0_0_l ?eSTEP_DOWN ?sSTEP_DOWN_l ?sSTEP_DOWN_0_l ?sSTEP_DOWN_0_0_l ?sSTEP_DOWN_1_l ?sSTEP_DOWN_1_0_l ?ePERHAPS_UP ?sPERHAPS_UP_l ?sPERHAPS_UP_0_l ?sPERHAPS_UP_1_l ?sPERHAPS_UP_1_0_l ?eMOST_READS ?eMOST_WRITES ?eMOST_LINES ?eMOST_IFS ?eOUTSIDE ?eDOWN ?eUP ?z_bool ?z_enumerate ?z_any ?z_min ?z_max ?z_tuple ?z_len ?z_type ?z_str ?z_isinstance ?z_int ?z_list ?z_range ?dKT ?dUT ?dLT ?dFT ?dMT ?dKU ?dKL ?dKF ?dKM ?dUL ?dUF ?dUM ?dML ?dMF ?dLF
    (case gT => k_is)
    (case xT => k_is)
    (case saT => k_is)
    (case gaT => k_is)
    (case ggT => k_is)
    (case gcT => k_is)
    (case tyT => k_is)
    (case kpT => k_is)
    (case gK => k_is)
    (case xK => k_is)
    (case saK => k_is)
    (case gaK => k_is)
    (case ggK => k_is)
    (case gcK => k_is)
    (case tyK => k_is)
    (case kpK => k_is)
    (case gU => k_is)
    (case xU => k_is)
    (case saU => k_is)
    (case gaU => k_is)
    (case ggU => k_is)
    (case gcU => k_is)
    (case tyU => k_is)
    (case kpU => k_is)
    (case gL => k_is)
    (case xL => k_is)
    (case saL => k_is)
    (case gaL => k_is)
    (case ggL => k_is)
    (case gcL => k_is)
    (case tyL => k_is)
    (case kpL => k_is)
    (case gF => k_is)
    (case xF => k_is)
    (case saF => k_is)
    (case gaF => k_is)
    (case ggF => k_is)
    (case gcF => k_is)
    (case tyF => k_is)
    (case kpF => k_is)
    (case gM => k_is)
    (case xM => k_is)
    (case saM => k_is)
    (case gaM => k_is)
    (case ggM => k_is)
    (case gcM => k_is)
    (case tyM => k_is)
    (case kpM => k_is)
    (case nK0 => k_is)
    (case aIK => k_is)
    (case lIK => k_is)
    (case cIK => k_is)
    (case kIK => k_is)
    (case tIK => k_is)
    (case nU0 => k_is)
    (case aIU => k_is)
    (case lIU => k_is)
    (case cIU => k_is)
    (case kIU => k_is)
    (case tIU => k_is)
    (case nL0 => k_is)
    (case aIL => k_is)
    (case lIL => k_is)
    (case cIL => k_is)
    (case kIL => k_is)
    (case tIL => k_is)
    (case nF0 => k_is)
    (case aIF => k_is)
    (case lIF => k_is)
    (case cIF => k_is)
    (case kIF => k_is)
    (case tIF => k_is)
    (case nM0 => k_is)
    (case nM1 => k_is)
    (case nM2 => k_is)
    (case aIM => k_is)
    (case lIM => k_is)
    (case cIM => k_is)
    (case kIM => k_is)
    (case tIM => k_is)
    (case hn => k_is)
    (case ht => k_is)
    (case gR => k_is)
    (case pgR => k_is)
    (case hdR => k_is)
    (case poR => k_is)
    (case saR => k_is)
    (case mkR => k_is)
    (case kpR => k_is)
    (case nR_number => k_is)
    (case nR_said => k_is)
    (case nR_body => k_is)
    (case nR_other => k_is)
    (case nR_has_else => k_is)
    (case aIR => k_is)
    (case lIR => k_is)
    (case cIR => k_is)
    (case kIR => k_is)
    (case tIR => k_is)
    (case gA => k_is)
    (case pgA => k_is)
    (case hdA => k_is)
    (case poA => k_is)
    (case saA => k_is)
    (case mkA => k_is)
    (case kpA => k_is)
    (case nA_notes => k_is)
    (case aIA => k_is)
    (case lIA => k_is)
    (case cIA => k_is)
    (case kIA => k_is)
    (case tIA => k_is)
    (case gC => k_is)
    (case pgC => k_is)
    (case hdC => k_is)
    (case poC => k_is)
    (case saC => k_is)
    (case mkC => k_is)
    (case kpC => k_is)
    (case nC_kind => k_is)
    (case nC_ups => k_is)
    (case nC_text => k_is)
    (case nC__lines => k_is)
    (case nC_answers => k_is)
    (case nC_body => k_is)
    (case nC_steps => k_is)
    (case aIC => k_is)
    (case lIC => k_is)
    (case cIC => k_is)
    (case kIC => k_is)
    (case ldT => k_is)
    (case tIC => k_is)
    (case aLn => k_is)
    (case lLn => k_is)
    (case cLn => k_is)
    (case kLn => k_is)
    (case tLn => k_is)
    (case aGt => k_is)
    (case lGt => k_is)
    (case cGt => k_is)
    (case kGt => k_is)
    (case tGt => k_is)
    (case aEq => k_is)
    (case lEq => k_is)
    (case cEq => k_is)
    (case kEq => k_is)
    (case tEq => k_is)
    (case fnG => k_is)
    (case neC => k_is)
    (case moC => k_is)
    (case clC => k_is)
    (case icC => k_is)
    (case tyC => k_is)
    (case aD20 => k_is)
    (case lD20 => k_is)
    (case cD20 => k_is)
    (case kD20 => k_is)
    (case aD21 => k_is)
    (case lD21 => k_is)
    (case cD21 => k_is)
    (case kD21 => k_is)
    (case aD22 => k_is)
    (case lD22 => k_is)
    (case cD22 => k_is)
    (case kD22 => k_is)
    (case aD23 => k_is)
    (case lD23 => k_is)
    (case cD23 => k_is)
    (case kD23 => k_is)
    (case aD24 => k_is)
    (case lD24 => k_is)
    (case cD24 => k_is)
    (case kD24 => k_is)
    (case aD25 => k_is)
    (case lD25 => k_is)
    (case cD25 => k_is)
    (case kD25 => k_is)
    (case aD27 => k_is)
    (case lD27 => k_is)
    (case cD27 => k_is)
    (case kD27 => k_is)
    (case aD28 => k_is)
    (case lD28 => k_is)
    (case cD28 => k_is)
    (case kD28 => k_is)
    (case aD29 => k_is)
    (case lD29 => k_is)
    (case cD29 => k_is)
    (case kD29 => k_is)
    (case aD30 => k_is)
    (case lD30 => k_is)
    (case cD30 => k_is)
    (case kD30 => k_is)
    (case aD31 => k_is)
    (case lD31 => k_is)
    (case cD31 => k_is)
    (case kD31 => k_is)
    (case aD32 => k_is)
    (case lD32 => k_is)
    (case cD32 => k_is)
    (case kD32 => k_is)
    (case aD33 => k_is)
    (case lD33 => k_is)
    (case cD33 => k_is)
    (case kD33 => k_is)
    (case aD34 => k_is)
    (case lD34 => k_is)
    (case cD34 => k_is)
    (case kD34 => k_is)
    (case aD35 => k_is)
    (case lD35 => k_is)
    (case cD35 => k_is)
    (case kD35 => k_is)
    (case aD36 => k_is)
    (case lD36 => k_is)
    (case cD36 => k_is)
    (case kD36 => k_is)
    (case aD39 => k_is)
    (case lD39 => k_is)
    (case cD39 => k_is)
    (case kD39 => k_is)
    (case aD40 => k_is)
    (case lD40 => k_is)
    (case cD40 => k_is)
    (case kD40 => k_is)
    (case aD41 => k_is)
    (case lD41 => k_is)
    (case cD41 => k_is)
    (case kD41 => k_is)
    (case aD42 => k_is)
    (case lD42 => k_is)
    (case cD42 => k_is)
    (case kD42 => k_is)
    (case aD43 => k_is)
    (case lD43 => k_is)
    (case cD43 => k_is)
    (case kD43 => k_is)
    (case aD51 => k_is)
    (case lD51 => k_is)
    (case cD51 => k_is)
    (case kD51 => k_is)
    (case aD52 => k_is)
    (case lD52 => k_is)
    (case cD52 => k_is)
    (case kD52 => k_is)
    (case aD53 => k_is)
    (case lD53 => k_is)
    (case cD53 => k_is)
    (case kD53 => k_is)
    (case aD54 => k_is)
    (case lD54 => k_is)
    (case cD54 => k_is)
    (case kD54 => k_is)
    (case aD55 => k_is)
    (case lD55 => k_is)
    (case cD55 => k_is)
    (case kD55 => k_is)
    (case aD56 => k_is)
    (case lD56 => k_is)
    (case cD56 => k_is)
    (case kD56 => k_is)
    (case aD57 => k_is)
    (case lD57 => k_is)
    (case cD57 => k_is)
    (case kD57 => k_is)
    (case aD58 => k_is)
    (case lD58 => k_is)
    (case cD58 => k_is)
    (case kD58 => k_is)
    (case aD59 => k_is)
    (case lD59 => k_is)
    (case cD59 => k_is)
    (case kD59 => k_is)
    (case aD60 => k_is)
    (case lD60 => k_is)
    (case cD60 => k_is)
    (case kD60 => k_is)
    (case aD61 => k_is)
    (case lD61 => k_is)
    (case cD61 => k_is)
    (case kD61 => k_is)
    (case aD62 => k_is)
    (case lD62 => k_is)
    (case cD62 => k_is)
    (case kD62 => k_is)
    (case aD63 => k_is)
    (case lD63 => k_is)
    (case cD63 => k_is)
    (case kD63 => k_is)
    (case aD64 => k_is)
    (case lD64 => k_is)
    (case cD64 => k_is)
    (case kD64 => k_is)
    (case aD65 => k_is)
    (case lD65 => k_is)
    (case cD65 => k_is)
    (case kD65 => k_is)
    (case aD66 => k_is)
    (case lD66 => k_is)
    (case cD66 => k_is)
    (case kD66 => k_is)
    (case aD67 => k_is)
    (case lD67 => k_is)
    (case cD67 => k_is)
    (case kD67 => k_is)
    (case aD68 => k_is)
    (case lD68 => k_is)
    (case cD68 => k_is)
    (case kD68 => k_is)
    (case aD69 => k_is)
    (case lD69 => k_is)
    (case cD69 => k_is)
    (case kD69 => k_is)
    (case aD71 => k_is)
    (case lD71 => k_is)
    (case cD71 => k_is)
    (case kD71 => k_is)
    (case aD73 => k_is)
    (case lD73 => k_is)
    (case cD73 => k_is)
    (case kD73 => k_is)
    (case aD74 => k_is)
    (case lD74 => k_is)
    (case cD74 => k_is)
    (case kD74 => k_is)
    (case aD82 => k_is)
    (case lD82 => k_is)
    (case cD82 => k_is)
    (case kD82 => k_is)
    (case aD83 => k_is)
    (case lD83 => k_is)
    (case cD83 => k_is)
    (case kD83 => k_is)
    (case aD85 => k_is)
    (case lD85 => k_is)
    (case cD85 => k_is)
    (case kD85 => k_is)
    (case aD86 => k_is)
    (case lD86 => k_is)
    (case cD86 => k_is)
    (case kD86 => k_is)
    (case aD87 => k_is)
    (case lD87 => k_is)
    (case cD87 => k_is)
    (case kD87 => k_is)
    (case aD88 => k_is)
    (case lD88 => k_is)
    (case cD88 => k_is)
    (case kD88 => k_is)
    (case aD89 => k_is)
    (case lD89 => k_is)
    (case cD89 => k_is)
    (case kD89 => k_is)
    (case aD90 => k_is)
    (case lD90 => k_is)
    (case cD90 => k_is)
    (case kD90 => k_is)
    (case eREGISTERS => k_is)
    (case sREGISTERS_l => k_is)
    (case eKEPT => k_is)
    (case sKEPT_l => k_is)
    (case eHOLDERS => k_is)
    (case sHOLDERS_l => k_is)
    (case eBARE => k_is)
    (case sBARE_l => k_is)
    (case eLED_TO => k_is)
    (case sLED_TO_l => k_is)
    (case eCOMPARED => k_is)
    (case sCOMPARED_l => k_is)
    (case eLINKS => k_is)
    (case sLINKS_l => k_is)
    (case eSIDES => k_is)
    (case sSIDES_l => k_is)
    (case eLOOPS => k_is)
    (case sLOOPS_l => k_is)
    (case eSEARCHES => k_is)
    (case sSEARCHES_l => k_is)
    (case eKINDS => k_is)
    (case sKINDS_l => k_is)
    (case eKINDS_WITH_UPS => k_is)
    (case sKINDS_WITH_UPS_l => k_is)
    (case eFROM_ROOT => k_is)
    (case sFROM_ROOT_l => k_is)
    (case sFROM_ROOT_0_l => k_is)
    (case sFROM_ROOT_0_0_l => k_is)
    (case eSTEP_DOWN => k_is)
    (case sSTEP_DOWN_l => k_is)
    (case sSTEP_DOWN_0_l => k_is)
    (case sSTEP_DOWN_0_0_l => k_is)
    (case sSTEP_DOWN_1_l => k_is)
    (case sSTEP_DOWN_1_0_l => k_is)
    (case ePERHAPS_UP => k_is)
    (case sPERHAPS_UP_l => k_is)
    (case sPERHAPS_UP_0_l => k_is)
    (case sPERHAPS_UP_1_l => k_is)
    (case sPERHAPS_UP_1_0_l => k_is)
    (case eMOST_READS => k_is)
    (case eMOST_WRITES => k_is)
    (case eMOST_LINES => k_is)
    (case eMOST_IFS => k_is)
    (case eOUTSIDE => k_is)
    (case eDOWN => k_is)
    (case eUP => k_is)
    (case z_bool => k_is)
    (case z_enumerate => k_is)
    (case z_any => k_is)
    (case z_min => k_is)
    (case z_max => k_is)
    (case z_tuple => k_is)
    (case z_len => k_is)
    (case z_type => k_is)
    (case z_str => k_is)
    (case z_isinstance => k_is)
    (case z_int => k_is)
    (case z_list => k_is)
    (case z_range => k_is)
    (case dKT => decide)
    (case dUT => decide)
    (case dLT => decide)
    (case dFT => decide)
    (case dMT => decide)
    (case dKU => decide)
    (case dKL => decide)
    (case dKF => decide)
    (case dKM => decide)
    (case dUL => decide)
    (case dUF => decide)
    (case dUM => decide)
    (case dML => decide)
    (case dMF => decide)
    (case dLF => decide)
